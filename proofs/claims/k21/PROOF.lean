import PyProof.Rows.All
import Wide.All
import OpenK.AllK
import Wide.FinOn
import Lean
import PyProof.EqAt
import PyProof.EqKinds
import PyProof.TupleCall
import PyProof.CompFree
import PyProof.P3Eq
import PyProof.Draws
import PyProof.EnumMake
import PyProof.WalksMore
import PyProof.StrLawsIn
import KE.KDictOf
import PyProof.ZipIter
import PyProof.WalkInts
import PyProof.SeqI3
import KE.KIntText
import PyProof.AutoListH
import PyProof.Rows.SortShellK
import PyProof.Rows.SortStr
import KE.KDictSum
import PyProof.Rows.StrMeet
import PyProof.StrLawsRepr
import KE.KDictList
import PyProof.DictTruth
import PyProof.DictWalks
import PySem.Challenge.RW_breakwords_k21_values_by_a_wood
namespace PySem.W.Fast
def tw13064122098859806899:=0
def tw15977193688766526368:=0
def tw13845438967543634638:=0
def tw7007840956558764556:=0
def tw12852530372063866826:=0
def tw15656814933323876708:=0
def tw640060379594742794:=0
def tw12289302758411580017:=0
def tw2879487772709624514:=0
def tw9317794362141522703:=0
def tw658885207562421646:=0
def tw2520321995439760136:=0
def tw8566090362016905222:=0
def tw8788256800028865991:=0
def tw7771079298740458102:=0
def tw14516531393028237622:=0
def tw10864352127774663350:=0
def tw13649908287907204209:=0
def tw2146714312268648380:=0
def tw864681415311171163:=0
def tw13850551309078188643:=0
def tw17911225184839474918:=0
def tw18431375852234979549:=0
def tw16238924980289729839:=0
def tw8460222329923740011:=0
def tw16034037113624815981:=0
def tw9937547561584071819:=0
def tw14355763135753749119:=0
def tw7474683611127070768:=0
def tw15033689662710326486:=0
def tw2447937282522701150:=0
def tw2080927702970128112:=0
def tw6184684483270812182:=0
def tw14442605638532638107:=0
def tw11106085058737280920:=0
def tw7623496618959778847:=0
def tw11516205508906093311:=0
def tw12380372806285887212:=0
def tw11717118823669546016:=0
def tw14720052254295035623:=0
def tw18288773606311119280:=0
def tw17957201030691212855:=0
def tw3945409114741537514:=0
def tw17381884619968449150:=0
def tw11972962965349498065:=0
def tw14603826899830689830:=0
def tw1875093928699743490:=0
end PySem.W.Fast
set_option Elab.async false
set_option linter.all false
set_option maxRecDepth 100000
namespace L2
open PySem PySem.Spec PyProof.Rows
abbrev Key := Sum Int Str
def keyIs : Key → Value → Bool
  | .inl k, v => Value.isInt k v
  | .inr x, v => Value.isStrOf x v
def keyH (w : World) : Key → Int
  | .inl k => hashInt k
  | .inr x => hashStr w x
theorem keyIs_shape : ∀ {k : Key} {v : Value}, keyIs k v = true → (∃ i t, k = Sum.inl i ∧ v = Value.int i t) ∨ (∃ x t, k = Sum.inr x ∧ v = Value.str x t)
  | .inl i, v, h => by
    obtain ⟨t, e⟩ := Value.isInt_shape (k := i) (v := v) h
    exact .inl ⟨i, t, rfl, e⟩
  | .inr x, v, h => by
    obtain ⟨t, e⟩ := Value.isStrOf_shape (x := x) (v := v) h
    exact .inr ⟨x, t, rfl, e⟩
theorem keyIs_int (i : Int) (t : Tok) : keyIs (.inl i) (.int i t) = true := by simp [keyIs, Value.isInt]
theorem keyIs_str (x : Str) (t : Tok) : keyIs (.inr x) (.str x t) = true := by simp [keyIs, Value.isStrOf]
theorem key_ll (a b : Int) : decide ((Sum.inl a : Key) = Sum.inl b) = (a == b) := by
  by_cases e : a = b
  · subst e; simp
  · have h : ¬ (Sum.inl a : Key) = Sum.inl b := fun q => e (Sum.inl.inj q)
    rw [decide_eq_false h]
    exact (beq_eq_false_iff_ne.mpr e).symm
theorem key_rr (a b : Str) : decide ((Sum.inr a : Key) = Sum.inr b) = decide (a = b) := by
  by_cases e : a = b
  · subst e; simp
  · have h : ¬ (Sum.inr a : Key) = Sum.inr b := fun q => e (Sum.inr.inj q)
    rw [decide_eq_false h, decide_eq_false e]
theorem key_lr (a : Int) (b : Str) : decide ((Sum.inl a : Key) = Sum.inr b) = false := decide_eq_false (fun q => nomatch q)
theorem key_rl (a : Str) (b : Int) : decide ((Sum.inr a : Key) = Sum.inl b) = false := decide_eq_false (fun q => nomatch q)
def mixKind (prog : Program) (w : World) : PySem.KeyKind prog w Key where
  is := keyIs
  hash := keyH w
  inj := fun v a b ha hb => by
    rcases keyIs_shape ha with ⟨i, t, rfl, rfl⟩ | ⟨x, t, rfl, rfl⟩
    · rcases keyIs_shape hb with ⟨j, u, rfl, e⟩ | ⟨y, u, rfl, e⟩
      · injection e with e1 _; rw [e1]
      · exact nomatch e
    · rcases keyIs_shape hb with ⟨j, u, rfl, e⟩ | ⟨y, u, rfl, e⟩
      · exact nomatch e
      · injection e with e1 _; rw [e1]
  byValue := fun k v h => by
    rcases keyIs_shape h with ⟨i, t, rfl, rfl⟩ | ⟨x, t, rfl, rfl⟩ <;> rfl
  pyHash := fun hv h => by
    rcases keyIs_shape hv with ⟨i, t, rfl, rfl⟩ | ⟨x, t, rfl, rfl⟩
    · exact wpAny_pyHash_int h
    · exact wpAny_pyHash_str h
  eqBool := fun hu hv h => by
    rcases keyIs_shape hu with ⟨i, t, rfl, rfl⟩ | ⟨x, t, rfl, rfl⟩
    · rcases keyIs_shape hv with ⟨j, u, rfl, rfl⟩ | ⟨y, u, rfl, rfl⟩
      · rw [key_ll] at h; exact wpAny_eqBool_int h
      · rw [key_lr] at h; exact SeqAt.EqAt.int_str i t y u _ _ _ _ h
    · rcases keyIs_shape hv with ⟨j, u, rfl, rfl⟩ | ⟨y, u, rfl, rfl⟩
      · rw [key_rl] at h; exact SeqAt.EqAt.str_int x t j u _ _ _ _ h
      · rw [key_rr] at h; exact wpAny_eqBool_str h
  «strs» := fun k x t v h => by
    rcases keyIs_shape h with ⟨i, u, rfl, e⟩ | ⟨y, u, rfl, e⟩
    · exact nomatch e
    · injection e with e1 _
      subst e1
      cases v <;> rfl
theorem mixKind_int (prog : Program) (w : World) (i : Int) (t : Tok) : (mixKind prog w).is (.inl i) (.int i t) = true := keyIs_int i t
theorem mixKind_str (prog : Program) (w : World) (x : Str) (t : Tok) : (mixKind prog w).is (.inr x) (.str x t) = true := keyIs_str x t
end L2
namespace L2
open PySem PySem.Spec PyProof.Rows
inductive V where
  | non | bl (b : Bool) | int (i : Int) | str (x : Str) | byt (b : Array UInt8) | flt (b : UInt64) | ref (a : Addr) | ty (n : String)
  deriving DecidableEq
def RelV : V → Value → Prop
  | .non, u => u = Value.none
  | .bl b, u => u = Value.bool b
  | .int i, u => ∃ t, u = Value.int i t
  | .str x, u => ∃ t, u = Value.str x t
  | .byt b, u => ∃ t, u = Value.bytes b t
  | .flt b, u => ∃ t, u = Value.float b t
  | .ref a, u => u = Value.ref a
  | .ty n, u => u = Value.type n
abbrev Vals : List V → List Value → Prop := Paired RelV
theorem Vals.length {xs : List V} {us : List Value} (r : Vals xs us) : xs.length = us.length := Paired.length r
theorem Vals.get : ∀ {xs : List V} {us : List Value} {i : Nat} {x : V}, Vals xs us → xs[i]? = some x → ∃ u, us[i]? = some u ∧ RelV x u
  | _, _, _, _, .nil, e => by simp at e
  | _, _, 0, _, .cons r _, e => by simp at e; subst e; exact ⟨_, rfl, r⟩
  | _, _, i + 1, x, .cons _ t, e => by
    obtain ⟨u, h1, h2⟩ := Vals.get (i := i) (x := x) t (by simpa using e)
    exact ⟨u, by simpa using h1, h2⟩
theorem Vals.set {x : V} {u : Value} (r : RelV x u) : ∀ {xs : List V} {us : List Value} (i : Nat), Vals xs us → Vals (xs.set i x) (us.set i u)
  | _, _, _, .nil => .nil
  | _, _, 0, .cons _ t => .cons r t
  | _, _, i + 1, .cons q t => .cons q (Vals.set r i t)
theorem Vals.append : ∀ {xs ys : List V} {us ws : List Value}, Vals xs us → Vals ys ws → Vals (xs ++ ys) (us ++ ws)
  | _, _, _, _, .nil, s => s
  | _, _, _, _, .cons r t, s => .cons r (Vals.append t s)
theorem Vals.take : ∀ {xs : List V} {us : List Value} (n : Nat), Vals xs us → Vals (xs.take n) (us.take n)
  | _, _, 0, _ => .nil
  | _, _, _ + 1, .nil => .nil
  | _, _, n + 1, .cons r t => .cons r (Vals.take n t)
theorem Vals.drop : ∀ {xs : List V} {us : List Value} (n : Nat), Vals xs us → Vals (xs.drop n) (us.drop n)
  | _, _, 0, r => r
  | _, _, _ + 1, .nil => .nil
  | _, _, n + 1, .cons _ t => Vals.drop n t
def RelO : Option V → Option Value → Prop
  | some v, some u => RelV v u
  | none, none => True
  | _, _ => False
def KV {κ : Type} : List (κ × V) → List (κ × Value) → Prop := Paired fun (p : κ × V) (q : κ × Value) => p.1 = q.1 ∧ RelV p.2 q.2
def kV : Key → V
  | .inl i => .int i
  | .inr x => .str x
inductive HO where
  | lst (xs : List V)
  | tup (xs : List V)
  | dK (kvs : List (Key × V)) | dT (kvs : List (List Key × V))
  | set (S : Int → Bool) (n : Nat)
  | ins (C dx : Addr) (fs : List (Str × V))
  | own (x : Addr)
  | xd (fs : List (Str × V))
  | met (f x : Addr)
  | rng (lo hi : Int)
  | frz (o : Obj) (u : HO)
  | tbl (ps : Array Value)
  | ext (φ : Heap → Prop)
abbrev Hp := Addr → Option HO
def upd (H : Hp) (a : Addr) (o : HO) : Hp := fun b => if b = a then some o else H b
theorem upd_same {H : Hp} {a : Addr} {o : HO} : upd H a o a = some o := by unfold upd; rw [if_pos rfl]
theorem upd_ne {H : Hp} {a b : Addr} {o : HO} (h : b ≠ a) : upd H a o b = H b := by unfold upd; rw [if_neg h]
theorem upd_upd {H : Hp} {a : Addr} {o u : HO} : upd (upd H a o) a u = upd H a u := by
  funext b; unfold upd; split <;> rfl
theorem ne_of {H : Hp} {a b : Addr} {o u : HO} (h : H a = some o) (h' : H b = some u) (d : o ≠ u) : a ≠ b := by
  intro e; subst e; rw [h] at h'; exact d (Option.some.inj h')
theorem ne_of_none {H : Hp} {a b : Addr} {o : HO} (h : H a = some o) (h' : H b = none) : a ≠ b := by
  intro e; subst e; rw [h] at h'; cases h'
section
variable (P : Program) (w : World)
def ObjOk (H : Hp) (h : Heap) (a : Addr) : HO → Prop
  | .lst xs => xs.length ≤ sizeLine ∧ ∃ (its : List Value) (n : Nat), Vals xs its ∧ h.get? a = some { cls := .type "list", data := .seq its.toArray n }
  | .tup xs => xs.length ≤ sizeLine ∧ ∃ its : List Value, Vals xs its ∧ IsTup h a its.toArray
  | .dK kvs => kvs.length ≤ sizeLine ∧ (a == sysModules) = false ∧ ∃ vs, KV kvs vs ∧ h.DictOf (mixKind P w) a vs
  | .dT kvs => kvs.length ≤ sizeLine ∧ (a == sysModules) = false ∧ ∃ xs : List (List Key × Addr × Value),
      Paired (fun (p : List Key × V) (q : List Key × Addr × Value) => p.1 = q.1 ∧ H q.2.1 = some (.tup (p.1.map kV)) ∧ RelV p.2 q.2.2) kvs xs ∧
      ∃ o es ep, h.get? a = some o ∧ o.ExactDict ∧ o.data = .dict es ep ∧ es.toList = xs.map (entryOfKey (tupleKind (mixKind P w))) ∧ (xs.map (·.1)).Nodup
  | .set S n => h.SetOf (intKind P w) a S n
  | .ins C dx fs => H dx = some (.own a) ∧ fs.length ≤ 1000 ∧ dx ≠ a ∧ h.get? a = some (PySem.W.instObj C dx) ∧
      ∃ mA, h.Ns1 dx mA ∧ (∀ f, RelO (fs.lookup f) (mA f)) ∧ PySem.Within mA (fs.map (·.1))
  | .own _ => ∃ o, h.get? a = some o
  | .xd fs => ∃ mA, h.Ns1 a mA ∧ ∀ f, RelO (fs.lookup f) (mA f)
  | .rng lo hi => ∃ t u v, h.get? a = some { cls := .type "range", data := .fields #[.int lo t, .int hi u, .int 1 v] }
  | .frz o u => h.get? a = some o ∧ ObjOk H h a u
  | .tbl ps => h.get? a = some { cls := .none, data := .fields ps }
  | .met f x => h.get? a = some (PySem.W.methodObj (.ref f) (.ref x))
  | .ext φ => φ h ∧ (∃ o, h.get? a = some o) ∧ ∀ h1 h2 : Heap, φ h1 → (∀ o, h1.get? a = some o → h2.get? a = some o) → φ h2
def HOk (H : Hp) (h : Heap) : Prop := ∀ a o, H a = some o → ObjOk P w H h a o
end
section
variable {P : Program} {w : World} {H H' : Hp} {h h' : Heap} {a : Addr} {o : HO}
theorem ObjOk.lt (x : ObjOk P w H h a o) : a < h.objs.size := by
  cases o with
  | lst xs => obtain ⟨_, _, _, _, e⟩ := x; exact Heap.lt_size e
  | tup xs => obtain ⟨_, _, _, p⟩ := x; exact p.lt
  | dK kvs => obtain ⟨_, _, _, _, o, _, _, e, _⟩ := x; exact Heap.lt_size e
  | dT kvs => obtain ⟨_, _, _, _, o, _, _, e, _⟩ := x; exact Heap.lt_size e
  | set S n => obtain ⟨o, _, _, _, e, _⟩ := x; exact Heap.lt_size e
  | ins C dx fs => obtain ⟨_, _, _, e, _⟩ := x; exact Heap.lt_size e
  | own y => obtain ⟨_, e⟩ := x; exact Heap.lt_size e
  | xd fs => obtain ⟨_, ⟨_, _, _, e, _⟩, _⟩ := x; exact Heap.lt_size e
  | rng lo hi => obtain ⟨_, _, _, e⟩ := x; exact Heap.lt_size e
  | frz ob u => obtain ⟨e, _⟩ := x; exact Heap.lt_size e
  | tbl ps => exact Heap.lt_size (show h.get? a = some _ from x)
  | met f y => exact Heap.lt_size (show h.get? a = some _ from x)
  | ext φ => obtain ⟨_, ⟨_, e⟩, _⟩ := x; exact Heap.lt_size e
theorem Paired.mapP {α β : Type} {F G : α → β → Prop} : ∀ {l₁ : List α} {l₂ : List β}, Paired F l₁ l₂ → (∀ a b, F a b → G a b) → Paired G l₁ l₂
  | _, _, .nil, _ => .nil
  | _, _, .cons r t, f => .cons (f _ _ r) (Paired.mapP t f)
theorem ObjOk.stay (x : ObjOk P w H h a o) (k : ∀ b u, (b = a ∨ H b = some (.own a)) → h.get? b = some u → h'.get? b = some u)
    (ho : ∀ b, H b = some (.own a) → H' b = some (.own a)) (ht : ∀ b xs, H b = some (.tup xs) → H' b = some (.tup xs)) : ObjOk P w H' h' a o := by
  induction o with
  | lst xs => obtain ⟨z, its, n, r, e⟩ := x; exact ⟨z, its, n, r, k _ _ (.inl rfl) e⟩
  | tup xs => obtain ⟨z, its, r, ob, e, c⟩ := x; exact ⟨z, its, r, ob, k _ _ (.inl rfl) e, c⟩
  | dK kvs => obtain ⟨z, y, vs, r, ob, es, ep, e, c⟩ := x; exact ⟨z, y, vs, r, ob, es, ep, k _ _ (.inl rfl) e, c⟩
  | dT kvs =>
    obtain ⟨z, y, xs, r, ob, es, ep, e, c⟩ := x
    exact ⟨z, y, xs, Paired.mapP r fun p q z => ⟨z.1, ht _ _ z.2.1, z.2.2⟩, ob, es, ep, k _ _ (.inl rfl) e, c⟩
  | set S n => obtain ⟨ob, es, ep, t, e, c⟩ := x; exact ⟨ob, es, ep, t, k _ _ (.inl rfl) e, c⟩
  | ins C dx fs =>
    obtain ⟨d, z, ne, e, mA, ⟨od, es, ep, e2, c⟩, r⟩ := x
    exact ⟨ho _ d, z, ne, k _ _ (.inl rfl) e, mA, ⟨od, es, ep, k _ _ (.inr d) e2, c⟩, r⟩
  | own y => obtain ⟨ob, e⟩ := x; exact ⟨ob, k _ _ (.inl rfl) e⟩
  | xd fs => obtain ⟨mA, ⟨od, es, ep, e, c⟩, r⟩ := x; exact ⟨mA, ⟨od, es, ep, k _ _ (.inl rfl) e, c⟩, r⟩
  | rng lo hi => obtain ⟨t, u, v, e⟩ := x; exact ⟨t, u, v, k _ _ (.inl rfl) e⟩
  | frz ob u ih => obtain ⟨e, q⟩ := x; exact ⟨k _ _ (.inl rfl) e, ih q⟩
  | tbl ps =>
    have e : h.get? a = some { cls := .none, data := .fields ps } := x
    show h'.get? a = some { cls := .none, data := .fields ps }
    exact k a _ (.inl rfl) e
  | met f y =>
    have e : h.get? a = some (PySem.W.methodObj (.ref f) (.ref y)) := x
    show h'.get? a = some (PySem.W.methodObj (.ref f) (.ref y))
    exact k a _ (.inl rfl) e
  | ext φ => obtain ⟨p, ⟨o, e⟩, st⟩ := x; exact ⟨st _ _ p fun o q => k _ _ (.inl rfl) q, ⟨o, k _ _ (.inl rfl) e⟩, st⟩
theorem HOk.lt (x : HOk P w H h) (e : H a = some o) : a < h.objs.size := (x a o e).lt
theorem HOk.fresh (x : HOk P w H h) (e : h.objs.size ≤ a) : H a = none := by
  cases q : H a with
  | none => rfl
  | some u => exact absurd (Nat.lt_of_lt_of_le (x.lt q) e) (Nat.lt_irrefl _)
theorem HOk.kept (x : HOk P w H h) (k : ∀ b u, h.get? b = some u → h'.get? b = some u) : HOk P w H h' := fun a o e =>
  (x a o e).stay (fun b u _ q => k b u q) (fun _ q => q) fun _ _ q => q
theorem HOk.laid (x : HOk P w H h) (k : ∀ b u, h.get? b = some u → h'.get? b = some u) (hp : h.objs.size ≤ a) (new : ObjOk P w (upd H a o) h' a o) : HOk P w (upd H a o) h' := fun b u e => by
  have hn := x.fresh hp
  by_cases hb : b = a
  · subst hb; rw [upd_same] at e; cases e; exact new
  · rw [upd_ne hb] at e
    exact (x b u e).stay (fun c v _ q => k c v q) (fun c q => by rw [upd_ne (ne_of_none q hn)]; exact q) fun c xs q => by rw [upd_ne (ne_of_none q hn)]; exact q
end
def Rd (H : Hp) (a : Addr) (u : HO) : Prop := H a = some u ∨ ∃ o, H a = some (.frz o u)
theorem Rd.ok {P : Program} {w : World} {H : Hp} {h : Heap} {a : Addr} {u : HO} (r : Rd H a u) (x : HOk P w H h) : ObjOk P w H h a u := by
  rcases r with r | ⟨o, r⟩
  · exact x a u r
  · obtain ⟨_, q⟩ := x a _ r
    exact q
def Mut : Option HO → Prop
  | some (.lst _) => True
  | some (.dK _) => True
  | some (.dT _) => True
  | some (.set _ _) => True
  | some (.ins _ _ _) => True
  | some (.ext _) => True
  | _ => False
section
variable {P : Program} {w : World} {H : Hp} {h h' : Heap} {x e : Addr} {o' : HO}
theorem HOk.write (ok : HOk P w H h) (mu : Mut (H x)) (he : e = x ∨ H e = some (.own x)) (k : ∀ b u, b ≠ e → h.get? b = some u → h'.get? b = some u) (heo : ∃ u, h'.get? e = some u)
    (new : ObjOk P w (upd H x o') h' x o') : HOk P w (upd H x o') h' := fun b u q => by
  have nown : ∀ c y, H c = some (.own y) → c ≠ x := fun c y r z => by subst z; rw [r] at mu; exact mu
  have ntup : ∀ c xs, H c = some (.tup xs) → c ≠ x := fun c xs r z => by subst z; rw [r] at mu; exact mu
  by_cases hb : b = x
  · subst hb; rw [upd_same] at q; cases q; exact new
  · rw [upd_ne hb] at q
    by_cases hbe : b = e
    · have q' : H b = some (.own x) := by
        rcases he with z | z
        · exact absurd (hbe.trans z) hb
        · rw [hbe]; exact z
      rw [q] at q'; cases q'
      obtain ⟨v, hv⟩ := heo
      exact ⟨v, by rw [hbe]; exact hv⟩
    · refine (ok b u q).stay (fun c v hc r => k c v ?_ r) (fun c r => by rw [upd_ne (nown c b r)]; exact r) fun c xs r => by rw [upd_ne (ntup c xs r)]; exact r
      rcases hc with rfl | hc
      · exact hbe
      · rintro rfl
        rcases he with z | z
        · exact nown c b hc z
        · rw [hc] at z; cases z; exact hb rfl
end
structure Un (fs ex : List Addr) (H H' : Hp) (h h' : Heap) : Prop where
  keep : ∀ b o, h.get? b = some o → H b = none → b ∉ fs → b ∉ ex → h'.get? b = some o
  slot : ∀ b o, h.get? b = some o → H b = none → b ∈ fs → b ∉ ex → ∃ sl, h'.get? b = some { o with slots := sl }
  free : ∀ b o, h.get? b = some o → H b = none → b ∉ ex → H' b = none
  there : ∀ b o, h.get? b = some o → b ∉ ex → ∃ o', h'.get? b = some o'
  tups : ∀ b xs, H b = some (.tup xs) → H' b = some (.tup xs)
  frzs : ∀ b o u, H b = some (.frz o u) → H' b = some (.frz o u)
  tbls : ∀ b ps, H b = some (.tbl ps) → ∃ more, H' b = some (.tbl (ps ++ more))
section
variable {fs fs' ex ex' : List Addr} {H H1 H2 : Hp} {h h1 h2 h' : Heap} {a x e : Addr} {o : HO}
theorem Un.any (u : Un fs ex H H1 h h1) {b : Addr} {ob : Obj} (q : h.get? b = some ob) (n : H b = none) (hx : b ∉ ex) : ∃ sl, h1.get? b = some { ob with slots := sl } := by
  by_cases hb : b ∈ fs
  · exact u.slot b ob q n hb hx
  · exact ⟨ob.slots, u.keep b ob q n hb hx⟩
theorem Un.kept (k : ∀ b u, h.get? b = some u → h'.get? b = some u) : Un fs ex H H h h' :=
  ⟨fun b ob q _ _ _ => k b ob q, fun b ob q _ _ _ => ⟨ob.slots, k b ob q⟩, fun _ _ _ n _ => n, fun b ob q _ => ⟨ob, k b ob q⟩, fun _ _ q => q, fun _ _ _ q => q, fun _ ps q => ⟨#[], by rw [q]; simp⟩⟩
theorem Un.refl : Un fs ex H H h h := Un.kept fun _ _ q => q
theorem Un.laid (k : ∀ b u, h.get? b = some u → h'.get? b = some u) (hp : h.objs.size ≤ a) (hn : H a = none) : Un fs ex H (upd H a o) h h' where
  keep := fun b u q _ _ _ => k b u q
  slot := fun b u q _ _ _ => ⟨u.slots, k b u q⟩
  free := fun b u q n _ => by rw [upd_ne (Nat.ne_of_lt (Nat.lt_of_lt_of_le (Heap.lt_size q) hp))]; exact n
  there := fun b u q _ => ⟨u, k b u q⟩
  tups := fun b xs q => by rw [upd_ne (ne_of_none q hn)]; exact q
  frzs := fun b u xs q => by rw [upd_ne (ne_of_none q hn)]; exact q
  tbls := fun b ps q => ⟨#[], by rw [upd_ne (ne_of_none q hn), q]; simp⟩
theorem Un.write (mu : Mut (H x)) (he : e = x ∨ H e = some (.own x)) (k : ∀ b u, b ≠ e → h.get? b = some u → h'.get? b = some u) (heo : ∃ u, h'.get? e = some u) : Un fs ex H (upd H x o) h h' := by
  have hx : ∀ b, H b = none → b ≠ x := fun b n z => by subst z; rw [n] at mu; exact mu
  have hb : ∀ b, H b = none → b ≠ e := fun b n z => by
    subst z
    rcases he with r | r
    · exact hx b n r
    · rw [n] at r; cases r
  have hm : ∀ b u, H b = some u → ¬ Mut (some u) → b ≠ x := fun b u q nm z => by subst z; rw [q] at mu; exact nm mu
  refine ⟨fun b u q n _ _ => k b u (hb b n) q, fun b u q n _ _ => ⟨u.slots, k b u (hb b n) q⟩, fun b u q n _ => by rw [upd_ne (hx b n)]; exact n, fun b u q _ => ?_,
    fun b xs q => by rw [upd_ne (hm b _ q fun z => z)]; exact q, fun b u xs q => by rw [upd_ne (hm b _ q fun z => z)]; exact q, fun b ps q => ⟨#[], by rw [upd_ne (hm b _ q fun z => z), q]; simp⟩⟩
  by_cases hbe : b = e
  · subst hbe; exact heo
  · exact ⟨u, k b u hbe q⟩
end
def trk (h : Heap) (H : Hp) : List Addr := (List.range h.objs.size).filter fun a => (H a).isSome
def hidT (h : Heap) (H : Hp) : Heap := PySem.W.hideAll h (trk h H)
theorem hidT_size (h : Heap) (H : Hp) : (hidT h H).objs.size = h.objs.size := PySem.W.hideAll_size _ _
theorem hidT_get {h : Heap} {H : Hp} {b : Addr} {o : Obj} (e : h.get? b = some o) (n : H b = none) : (hidT h H).get? b = some o :=
  PySem.W.hideAll_get _ e fun hm => by
    have q : (H b).isSome = true := (List.mem_filter.mp hm).2
    rw [n] at q; simp at q
theorem of_hidT {h : Heap} {H : Hp} {b : Addr} {o : Obj} (e : (hidT h H).get? b = some o) : h.get? b = some o ∧ H b = none := by
  have e' : h.get? b = some o := PySem.W.of_hideAll (trk h H) e
  refine ⟨e', ?_⟩
  cases q : H b with
  | none => rfl
  | some x =>
    have hm : b ∈ trk h H := List.mem_filter.mpr ⟨List.mem_range.mpr (Heap.lt_size e'), by simp [q]⟩
    have z : (hidT h H).get? b = none := PySem.W.hideAll_none (trk h H) hm
    rw [z] at e; cases e
end L2
namespace L2
open PySem PySem.Spec PyProof.Rows
structure Mod (K : PySem.W.Frag) (mg : Str → Option Value) (base : Heap) : Prop where
  kin : K.In base
  glob : base.Ns mainGlobals mg
  blt : ∃ mb, base.Ns builtinsNs mb ∧ ∀ x : Str, x ≠ "__name__" → mb x = bootBuiltins x
  nolimit : base.NoLimit
structure Cx where
  prog : Program
  w : World
  K : PySem.W.Frag
  mg : Str → Option Value
  base : Heap
  A : Around
  N : List Str
  s₀ : Shared
  H₀ : Hp
  env : Env
  outer : List Env
  stack : List Env
  ex : List Addr
  fn : Str → Bool
  calm : Bool
  pn : List (Addr × Obj)
  xe : Value → Shared → Prop
def frs (l : List Env) : List Addr := l.filterMap (·.frame)
abbrev Cx.fs (X : Cx) : List Addr := frs X.outer
def Vis (sc : Scope) (x : Str) : Prop := sc.names.lookup x = some .local ∨ sc.names.lookup x = some .cell ∨ sc.names.lookup x = some .free
def Loc (sc : Scope) (x : Str) : Prop := sc.names.lookup x = some .local ∨ sc.names.lookup x = some .cell
def Look (env : Env) (h : Heap) (m : Str → Option Value) (x : Str) (u : Value) : Prop :=
  (env.kindOf x = some .local ∧ m x = some u) ∨ ((env.kindOf x = some .cell ∨ env.kindOf x = some .free) ∧ ∃ c, env.cells.lookup x = some c ∧ h.IsCell c (some u))
structure Cx.Ok (X : Cx) : Prop where
  mod : Mod X.K X.mg X.base
  kind : X.env.scope.kind = .function
  glob : X.env.globals = mainGlobals
  blt : X.env.builtins = builtinsNs
  above : X.s₀.heap.objs.size ≤ X.env.locals
  inj : ∀ x y c, X.env.cells.lookup x = some c → X.env.cells.lookup y = some c → x = y
  has : ∀ x, (X.env.kindOf x = some .cell ∨ X.env.kindOf x = some .free) → ∃ c, X.env.cells.lookup x = some c
  cab : ∀ x c, X.fn x = true → X.env.cells.lookup x = some c → X.s₀.heap.objs.size ≤ c
  hd : X.calm = true → X.A.handled = none
  frames : X.A.frames = some X.stack
  stk : X.stack = X.outer ∨ (X.stack = X.env :: X.outer ∧ X.env.frame = some X.env.locals)
  exf : ∀ b ∈ X.ex, b ≠ X.env.locals ∧ ∀ x c, X.env.cells.lookup x = some c → c ≠ b
  bs : ∀ b o, X.base.get? b = some o → X.s₀.heap.get? b = some o ∧ X.H₀ b = none
  bsz : X.base.objs.size ≤ X.s₀.heap.objs.size
  noex : ∀ b o, X.base.get? b = some o → b ∉ X.ex
  exfs : ∀ b ∈ X.ex, b ∉ X.fs
  funs : X.s₀.heap.FunFrames X.base X.outer
  frf : ∀ b ∈ X.fs, X.H₀ b = none
structure Inv (X : Cx) (pins : List (Addr × Obj)) (σ : List (Option V)) (H : Hp) (s : Shared) : Prop where
  ok : X.Ok
  os : s.os = X.s₀.os
  bare : AllBare s.gens
  base : Un X.fs X.ex X.H₀ H X.s₀.heap s.heap
  loc : ∃ m, s.heap.Ns X.env.locals m ∧ ∀ (i : Nat) (x : Str) (v : V), X.N[i]? = some x → σ[i]? = some (some v) → Vis X.env.scope x → ∃ u, RelV v u ∧ Look X.env s.heap m x u
  cell : ∀ x c, X.env.cells.lookup x = some c → ∃ v, s.heap.IsCell c v
  free : H X.env.locals = none
  freeC : ∀ x c, X.env.cells.lookup x = some c → H c = none
  pin : ∀ p ∈ X.pn ++ pins, s.heap.get? p.1 = some p.2 ∧ H p.1 = none ∧ p.1 ≠ X.env.locals ∧ p.1 ∉ X.fs ∧ ∀ v, p.2.data ≠ .cell v
  hok : HOk X.prog X.w H s.heap
  len : σ.length = X.N.length
section
variable {X : Cx} {pins : List (Addr × Obj)} {σ : List (Option V)} {H H' : Hp} {s : Shared} {h' : Heap}
theorem Cx.Ok.nofr (ok : X.Ok) {b : Addr} {o : Obj} (e : X.base.get? b = some o) : b ∉ X.fs := fun hb => by
  have := (ok.funs.mem hb).1
  rw [e] at this; cases this
theorem Inv.bs (I : Inv X pins σ H s) : ∀ b o, X.base.get? b = some o → s.heap.get? b = some o ∧ H b = none := fun b o e =>
  ⟨I.base.keep b o (I.ok.bs b o e).1 (I.ok.bs b o e).2 (I.ok.nofr e) (I.ok.noex b o e), I.base.free b o (I.ok.bs b o e).1 (I.ok.bs b o e).2 (I.ok.noex b o e)⟩
theorem Inv.bk (I : Inv X pins σ H s) : ∀ b o, X.base.get? b = some o → s.heap.get? b = some o := fun b o e => (I.bs b o e).1
theorem Inv.mod (I : Inv X pins σ H s) : Mod X.K X.mg X.base := I.ok.mod
theorem Inv.kIn (I : Inv X pins σ H s) : X.K.In s.heap := I.ok.mod.kin.keeps I.bk
theorem Inv.lt (I : Inv X pins σ H s) : X.env.locals < s.heap.objs.size := let ⟨_, hn, _⟩ := I.loc; hn.lt
theorem Inv.sz (I : Inv X pins σ H s) : X.s₀.heap.objs.size ≤ s.heap.objs.size := Nat.le_trans I.ok.above (Nat.le_of_lt I.lt)
theorem Inv.nofs (I : Inv X pins σ H s) {a : Addr} (h : s.heap.objs.size ≤ a) : a ∉ X.fs := fun hb => by
  obtain ⟨_, o, ho, _⟩ := I.ok.funs.mem hb
  exact absurd (Nat.lt_of_lt_of_le (Heap.lt_size ho) (Nat.le_trans I.sz h)) (Nat.lt_irrefl _)
theorem Inv.cne (I : Inv X pins σ H s) : ∀ x c, X.env.cells.lookup x = some c → c ≠ X.env.locals := fun x c e z => by
  obtain ⟨v, o, ho, hd⟩ := I.cell x c e
  obtain ⟨m, ⟨o', es, ep, ho', hd', _⟩, _⟩ := I.loc
  rw [z, ho'] at ho; cases ho; rw [hd'] at hd; cases hd
theorem Inv.funs (I : Inv X pins σ H s) : s.heap.FunFrames X.base X.outer := by
  have all : ∀ (l : List Env), (∀ b ∈ frs l, b ∈ X.fs) → X.s₀.heap.FunFrames X.base l → s.heap.FunFrames X.base l := by
    intro l
    induction l with
    | nil => intro _ _; trivial
    | cons env r ih =>
      intro hs hl
      obtain ⟨hk, ⟨L, o, hf, hn, ho, hd⟩, hr⟩ := hl
      have hL : L ∈ X.fs := hs L (by unfold frs; rw [List.filterMap_cons, hf]; exact List.mem_cons_self)
      obtain ⟨sl, e⟩ := I.base.slot L o ho (I.ok.frf L hL) hL fun z => I.ok.exfs L z hL
      exact ⟨hk, ⟨L, _, hf, hn, e, hd⟩, ih (fun b hb => hs b (by unfold frs; rw [List.filterMap_cons, hf]; exact List.mem_cons_of_mem _ hb)) hr⟩
  exact all X.outer (fun _ hb => hb) I.ok.funs
theorem Inv.stack (I : Inv X pins σ H s) : s.heap.FunFrames X.base X.stack := by
  rcases I.ok.stk with e | ⟨e, hf⟩
  · rw [e]; exact I.funs
  · rw [e]
    obtain ⟨m, hn, _⟩ := I.loc
    refine .cons (by rw [I.ok.kind]; decide) hf hn ?_ I.funs
    exact Heap.get?_none_of_le (Nat.le_trans I.ok.bsz I.ok.above)
theorem Inv.stkSub (I : Inv X pins σ H s) : ∀ b ∈ frs X.stack, b ∈ X.env.locals :: X.fs := fun b hb => by
  rcases I.ok.stk with e | ⟨e, hf⟩
  · rw [e] at hb; exact List.mem_cons_of_mem _ hb
  · rw [e] at hb
    unfold frs at hb
    rw [List.filterMap_cons, hf] at hb
    exact hb
theorem Inv.stkFree (I : Inv X pins σ H s) : ∀ b ∈ frs X.stack, H b = none := fun b hb => by
  rcases List.mem_cons.mp (I.stkSub b hb) with e | hb
  · rw [e]; exact I.free
  · obtain ⟨_, o, ho, _⟩ := I.ok.funs.mem hb
    exact I.base.free b o ho (I.ok.frf b hb) fun z => I.ok.exfs b z hb
theorem Inv.step {g' : Array GenState} {t' : Nat} {d' : Drawn} {ch : List Addr} (I : Inv X pins σ H s)
    (hch : ∀ b ∈ ch, (b ∈ X.ex ∨ X.s₀.heap.objs.size ≤ b) ∧ b ≠ X.env.locals ∧ (∀ x c, X.env.cells.lookup x = some c → c ≠ b) ∧ ∀ p ∈ X.pn ++ pins, p.1 ≠ b)
    (keep : ∀ b o, b ≠ X.env.locals → b ∉ X.fs → b ∉ ch → s.heap.get? b = some o → H b = none → h'.get? b = some o)
    (slot : ∀ b o, b ≠ X.env.locals → b ∈ X.fs → b ∉ ch → s.heap.get? b = some o → H b = none → ∃ sl, h'.get? b = some { o with slots := sl }) (free : ∀ b o, b ∉ ch → s.heap.get? b = some o → H b = none → H' b = none)
    (there : ∀ b o, b ∉ ch → s.heap.get? b = some o → ∃ o', h'.get? b = some o')
    (tups : ∀ b xs, H b = some (.tup xs) → H' b = some (.tup xs)) (frzs : ∀ b o u, H b = some (.frz o u) → H' b = some (.frz o u)) (tbls : ∀ b ps, H b = some (.tbl ps) → ∃ more, H' b = some (.tbl (ps ++ more)))
    (ns : ∀ m, s.heap.Ns X.env.locals m → h'.Ns X.env.locals m) (hok : HOk X.prog X.w H' h') (hg : AllBare g') :
    Inv X pins σ H' { s with heap := h', gens := g', drawn := d', toks := t' } := by
  have neL : ∀ b o, X.s₀.heap.get? b = some o → b ≠ X.env.locals := fun b o e => Nat.ne_of_lt (Nat.lt_of_lt_of_le (Heap.lt_size e) I.ok.above)
  have neC : ∀ b o, X.s₀.heap.get? b = some o → b ∉ X.ex → b ∉ ch := fun b o e hx hb => by
    rcases (hch b hb).1 with z | z
    · exact hx z
    · exact absurd (Nat.lt_of_lt_of_le (Heap.lt_size e) z) (Nat.lt_irrefl _)
  have cellK : ∀ x c, X.env.cells.lookup x = some c → ∀ v, s.heap.IsCell c v → h'.IsCell c v := fun x c e v ⟨o, ho, hd⟩ => by
    have nch : c ∉ ch := fun z => (hch c z).2.2.1 x c e rfl
    by_cases hc : c ∈ X.fs
    · obtain ⟨sl, q⟩ := slot c o (I.cne x c e) hc nch ho (I.freeC x c e)
      exact ⟨_, q, hd⟩
    · exact ⟨o, keep c o (I.cne x c e) hc nch ho (I.freeC x c e), hd⟩
  refine ⟨I.ok, I.os, hg, ⟨fun b o e n hb hx => ?_, fun b o e n hb hx => ?_, fun b o e n hx => ?_, fun b o e hx => ?_, fun b xs e => tups b xs (I.base.tups b xs e), fun b o xs e => frzs b o xs (I.base.frzs b o xs e), fun b ps e => ?_⟩, ?_, fun x c e => ?_, ?_, fun x c e => ?_, fun p hp => ?_, hok, I.len⟩
  · exact keep b o (neL b o e) hb (neC b o e hx) (I.base.keep b o e n hb hx) (I.base.free b o e n hx)
  · obtain ⟨sl, e1⟩ := I.base.slot b o e n hb hx
    obtain ⟨sl', e2⟩ := slot b _ (neL b o e) hb (neC b o e hx) e1 (I.base.free b o e n hx)
    exact ⟨sl', e2⟩
  · obtain ⟨o', e1⟩ := I.base.there b o e hx
    exact free b o' (neC b o e hx) e1 (I.base.free b o e n hx)
  · obtain ⟨o', e1⟩ := I.base.there b o e hx
    exact there b o' (neC b o e hx) e1
  · obtain ⟨m1, e1⟩ := I.base.tbls b ps e
    obtain ⟨m2, e2⟩ := tbls b _ e1
    exact ⟨m1 ++ m2, by rw [e2, Array.append_assoc]⟩
  · obtain ⟨m, hn, hl⟩ := I.loc
    refine ⟨m, ns m hn, fun i x v e1 e2 e3 => ?_⟩
    obtain ⟨u, r, l⟩ := hl i x v e1 e2 e3
    refine ⟨u, r, ?_⟩
    rcases l with l | ⟨k, c, e, z⟩
    · exact .inl l
    · exact .inr ⟨k, c, e, cellK x c e _ z⟩
  · obtain ⟨v, z⟩ := I.cell x c e
    exact ⟨v, cellK x c e v z⟩
  · obtain ⟨m, ⟨o, _, _, ho, _⟩, _⟩ := I.loc
    exact free _ o (fun z => (hch _ z).2.1 rfl) ho I.free
  · obtain ⟨v, o, ho, hd⟩ := I.cell x c e
    exact free c o (fun z => (hch c z).2.2.1 x c e rfl) ho (I.freeC x c e)
  · obtain ⟨e, n, ne, nf, d⟩ := I.pin p hp
    have nch : p.1 ∉ ch := fun z => (hch p.1 z).2.2.2 p hp rfl
    exact ⟨keep p.1 p.2 ne nf nch e n, free p.1 p.2 nch e n, ne, nf, d⟩
theorem Inv.un {t' : Nat} (I : Inv X pins σ H s) (u : Un X.fs [] H H' s.heap h') (hok : HOk X.prog X.w H' h') : Inv X pins σ H' { s with heap := h', toks := t' } := by
  obtain ⟨m, ⟨o, es, ep, ho, r⟩, _⟩ := id I.loc
  obtain ⟨sl, hL⟩ := u.any ho I.free (by simp)
  exact I.step (g' := s.gens) (d' := s.drawn) (ch := []) (fun _ z => nomatch z) (fun b o _ hb _ e n => u.keep b o e n hb (by simp)) (fun b o _ hb _ e n => u.slot b o e n hb (by simp)) (fun b o _ e n => u.free b o e n (by simp)) (fun b o _ e => u.there b o e (by simp)) u.tups u.frzs u.tbls (fun m' hm => by
    obtain ⟨o', es', ep', ho', r'⟩ := hm
    rw [ho] at ho'; cases ho'
    exact ⟨_, es', ep', hL, r'⟩) hok I.bare
theorem Inv.call {g' : Array GenState} {t' : Nat} {d' : Drawn} {ch : List Addr} (I : Inv X pins σ H s) (u : Un (frs X.stack) ch H H' s.heap h') (hok : HOk X.prog X.w H' h') (hg : AllBare g')
    (hch : ∀ b ∈ ch, (b ∈ X.ex ∨ X.s₀.heap.objs.size ≤ b) ∧ b ≠ X.env.locals ∧ (∀ x c, X.env.cells.lookup x = some c → c ≠ b) ∧ ∀ p ∈ X.pn ++ pins, p.1 ≠ b) :
    Inv X pins σ H' { s with heap := h', gens := g', drawn := d', toks := t' } := by
  obtain ⟨m, ⟨o, es, ep, ho, r⟩, _⟩ := id I.loc
  obtain ⟨sl, hL⟩ := u.any ho I.free fun z => (hch _ z).2.1 rfl
  exact I.step (ch := ch) hch (fun b o hL hb hc e n => u.keep b o e n (fun z => (List.mem_cons.mp (I.stkSub b z)).elim hL hb) hc) (fun b o _ _ hc e n => u.any e n hc) (fun b o hc e n => u.free b o e n hc) (fun b o hc e => u.there b o e hc) u.tups u.frzs u.tbls (fun m' hm => by
    obtain ⟨o', es', ep', ho', r'⟩ := hm
    rw [ho] at ho'; cases ho'
    exact ⟨_, es', ep', hL, r'⟩) hok hg
theorem Inv.turned {t' : Nat} {it : Addr} (I : Inv X pins σ H s) (k : ∀ b o, b ≠ it → s.heap.get? b = some o → h'.get? b = some o) (hn : H it = none) (hL : it ≠ X.env.locals)
    (h1 : it ∈ X.ex ∨ X.s₀.heap.objs.size ≤ it) (h2 : ∀ x c, X.env.cells.lookup x = some c → c ≠ it) (h3 : ∀ p ∈ X.pn ++ pins, p.1 ≠ it) : Inv X pins σ H { s with heap := h', toks := t' } := by
  have nit : ∀ b u, H b = some u → b ≠ it := fun b u e z => by rw [z, hn] at e; cases e
  refine I.step (g' := s.gens) (d' := s.drawn) (ch := [it]) (fun b hb => ?_) (fun b o _ _ hc e _ => k b o (fun z => hc (by simp [z])) e) (fun b o _ _ hc e _ => ⟨o.slots, k b o (fun z => hc (by simp [z])) e⟩) (fun _ _ _ _ n => n)
    (fun b o hc e => ⟨o, k b o (fun z => hc (by simp [z])) e⟩) (fun _ _ e => e) (fun _ _ _ e => e) (fun b ps e => ⟨#[], by rw [e]; simp⟩) (fun m hm => ?_) (fun b u e => ?_) I.bare
  · have e : b = it := by simpa using hb
    subst e
    exact ⟨h1, hL, h2, h3⟩
  · obtain ⟨o, es, ep, ho, r⟩ := hm
    exact ⟨o, es, ep, k _ o (Ne.symm hL) ho, r⟩
  · refine (I.hok b u e).stay (fun c v hc q => k c v ?_ q) (fun _ q => q) fun _ _ q => q
    rcases hc with z | z
    · rw [z]; exact nit b u e
    · exact nit c _ z
theorem Inv.tok (I : Inv X pins σ H s) (t : Nat) : Inv X pins σ H { s with toks := t } := I.un (h' := s.heap) (t' := t) Un.refl I.hok
theorem Inv.kept {t' : Nat} (I : Inv X pins σ H s) (k : ∀ b u, s.heap.get? b = some u → h'.get? b = some u) : Inv X pins σ H { s with heap := h', toks := t' } := I.un (Un.kept k) (I.hok.kept k)
theorem Inv.laid {a : Addr} {o : HO} {t' : Nat} (I : Inv X pins σ H s) (k : ∀ b u, s.heap.get? b = some u → h'.get? b = some u) (hp : s.heap.objs.size ≤ a) (new : ObjOk X.prog X.w (upd H a o) h' a o) :
    Inv X pins σ (upd H a o) { s with heap := h', toks := t' } := I.un (Un.laid k hp (I.hok.fresh hp)) (I.hok.laid k hp new)
theorem Inv.write {x e : Addr} {o : HO} {t' : Nat} (I : Inv X pins σ H s) (mu : Mut (H x)) (he : e = x ∨ H e = some (.own x)) (k : ∀ b u, b ≠ e → s.heap.get? b = some u → h'.get? b = some u) (heo : ∃ u, h'.get? e = some u)
    (new : ObjOk X.prog X.w (upd H x o) h' x o) : Inv X pins σ (upd H x o) { s with heap := h', toks := t' } := I.un (Un.write mu he k heo) (I.hok.write mu he k heo new)
theorem Inv.pins_of {pins' : List (Addr × Obj)} (I : Inv X pins σ H s) (h : ∀ p ∈ pins', s.heap.get? p.1 = some p.2 ∧ H p.1 = none ∧ p.1 ≠ X.env.locals ∧ p.1 ∉ X.fs ∧ ∀ v, p.2.data ≠ .cell v) : Inv X pins' σ H s :=
  ⟨I.ok, I.os, I.bare, I.base, I.loc, I.cell, I.free, I.freeC, fun p hp => (List.mem_append.mp hp).elim (fun z => I.pin p (List.mem_append_left _ z)) (h p), I.hok, I.len⟩
theorem nodup_ix {N : List Str} (hN : N.Nodup) {i j : Nat} {x : Str} (a : N[i]? = some x) (b : N[j]? = some x) : i = j := by
  obtain ⟨h1, e1⟩ := List.getElem?_eq_some_iff.mp a
  obtain ⟨h2, e2⟩ := List.getElem?_eq_some_iff.mp b
  exact (List.getElem_inj hN).mp (e1.trans e2.symm)
theorem store_ok2 {M : Model} {A : Around} {E : Value → Shared → Prop} {i : Nat} {x : Str} {v : V} {u : Value} {Q : Unit → Shared → Prop} (I : Inv X pins σ H s) (hN : X.N.Nodup) (hi : X.N[i]? = some x) (hx : Loc X.env.scope x) (r : RelV v u)
    (h : ∀ s', Inv X pins (σ.set i (some v)) H s' → (∃ a, Heap.SameBut a s.heap s'.heap ∧ (a = X.env.locals ∨ X.env.cells.lookup x = some a)) → Q () s') (hf : X.fn x = true ∨ X.env.scope.names.lookup x = some .local := by first | exact .inl rfl | exact .inr rfl | assumption) : wpAny M A (storeName X.env x u) Q E s := by
  obtain ⟨m, hn, hl⟩ := id I.loc
  have hcls : (X.env.scope.kind == .class || (X.env.scope.kind == .module && X.env.locals != X.env.globals)) = false := by rw [I.ok.kind]; rfl
  have hiσ : i < σ.length := by rw [I.len]; exact (List.getElem?_eq_some_iff.mp hi).1
  have cne := I.cne
  have tracked : ∀ {a : Addr} {h' : Heap}, (∃ o, s.heap.get? a = some o ∧ H a = none) → Heap.SameBut a s.heap h' → HOk X.prog X.w H h' := fun {a h'} ha hs b ob e => by
    obtain ⟨_, _, hfree⟩ := ha
    refine (I.hok b ob e).stay (fun c w' hc q => (hs.2 c ?_).trans q) (fun _ q => q) fun _ _ q => q
    rintro rfl
    rcases hc with rfl | hc
    · rw [hfree] at e; cases e
    · rw [hfree] at hc; cases hc
  rcases hx with hk | hk
  · refine wpAny_storeName_local hk hn (fun h' hn' hs => ?_) hcls
    obtain ⟨oL, _, _, hoL, _⟩ := id hn
    refine h _ ⟨I.ok, I.os, I.bare, ⟨fun b o e n hb hx => ?_, fun b o e n hb hx => ?_, I.base.free, fun b o e hx => ?_, I.base.tups, I.base.frzs, I.base.tbls⟩, ⟨_, hn', fun j y v' e1 e2 e3 => ?_⟩, fun y c e => ?_, I.free, I.freeC, fun p hp => ?_, tracked ⟨oL, hoL, I.free⟩ hs, by simpa using I.len⟩ ⟨_, hs, .inl rfl⟩
    · exact (hs.2 b (Nat.ne_of_lt (Nat.lt_of_lt_of_le (Heap.lt_size e) I.ok.above))).trans (I.base.keep b o e n hb hx)
    · obtain ⟨sl, e1⟩ := I.base.slot b o e n hb hx
      exact ⟨sl, (hs.2 b (Nat.ne_of_lt (Nat.lt_of_lt_of_le (Heap.lt_size e) I.ok.above))).trans e1⟩
    · obtain ⟨o', e1⟩ := I.base.there b o e hx
      exact ⟨o', (hs.2 b (Nat.ne_of_lt (Nat.lt_of_lt_of_le (Heap.lt_size e) I.ok.above))).trans e1⟩
    · by_cases hj : j = i
      · subst hj
        rw [hi] at e1; cases e1
        rw [List.getElem?_set_self hiσ] at e2
        cases e2
        exact ⟨u, r, .inl ⟨hk, by simp⟩⟩
      · rw [List.getElem?_set_ne (Ne.symm hj)] at e2
        obtain ⟨u', r', q⟩ := hl j y v' e1 e2 e3
        refine ⟨u', r', ?_⟩
        rcases q with ⟨k, e⟩ | ⟨k, c, e, z⟩
        · refine .inl ⟨k, ?_⟩
          have : y ≠ x := fun e => hj (nodup_ix hN e1 (e ▸ hi))
          simp [this, e]
        · exact .inr ⟨k, c, e, z.sameBut hs (cne y c e)⟩
    · obtain ⟨w', z⟩ := I.cell y c e
      exact ⟨w', z.sameBut hs (cne y c e)⟩
    · obtain ⟨e, n, ne, nf, d⟩ := I.pin p hp
      exact ⟨(hs.2 p.1 ne).trans e, n, ne, nf, d⟩
  · have hfn : X.fn x = true := by
      rcases hf with z | z
      · exact z
      · rw [z] at hk; cases hk
    obtain ⟨c, hc⟩ := I.ok.has x (.inl hk)
    obtain ⟨w', z⟩ := I.cell x c hc
    refine wpAny_storeName_cell I.ok.kind hk hc z (fun h' hc' hs => ?_)
    obtain ⟨oc, hoc, hocd⟩ := id z
    refine h { s with heap := h' } ⟨I.ok, I.os, I.bare, ⟨fun b o e n hb hx => ?_, fun b o e n hb hx => ?_, I.base.free, fun b o e hx => ?_, I.base.tups, I.base.frzs, I.base.tbls⟩, ⟨m, hn.sameBut hs (Ne.symm (cne x c hc)), fun j y v' e1 e2 e3 => ?_⟩, fun y c' e => ?_, I.free, I.freeC, fun p hp => ?_, tracked ⟨oc, hoc, I.freeC x c hc⟩ hs, by simpa using I.len⟩ ⟨c, hs, .inr hc⟩
    · exact (hs.2 b (Nat.ne_of_lt (Nat.lt_of_lt_of_le (Heap.lt_size e) (I.ok.cab x c hfn hc)))).trans (I.base.keep b o e n hb hx)
    · obtain ⟨sl, e1⟩ := I.base.slot b o e n hb hx
      exact ⟨sl, (hs.2 b (Nat.ne_of_lt (Nat.lt_of_lt_of_le (Heap.lt_size e) (I.ok.cab x c hfn hc)))).trans e1⟩
    · obtain ⟨o', e1⟩ := I.base.there b o e hx
      exact ⟨o', (hs.2 b (Nat.ne_of_lt (Nat.lt_of_lt_of_le (Heap.lt_size e) (I.ok.cab x c hfn hc)))).trans e1⟩
    · by_cases hj : j = i
      · subst hj
        rw [hi] at e1; cases e1
        rw [List.getElem?_set_self hiσ] at e2
        cases e2
        exact ⟨u, r, .inr ⟨.inl hk, c, hc, hc'⟩⟩
      · rw [List.getElem?_set_ne (Ne.symm hj)] at e2
        obtain ⟨u', r', q⟩ := hl j y v' e1 e2 e3
        refine ⟨u', r', ?_⟩
        rcases q with q | ⟨k, c', e, z'⟩
        · exact .inl q
        · refine .inr ⟨k, c', e, z'.sameBut hs ?_⟩
          rintro rfl
          exact hj (nodup_ix hN e1 (I.ok.inj _ _ _ e hc ▸ hi))
    · by_cases hcc : c' = c
      · subst hcc; exact ⟨_, hc'⟩
      · obtain ⟨w2, z2⟩ := I.cell y c' e
        exact ⟨w2, z2.sameBut hs hcc⟩
    · obtain ⟨e, n, ne, nf, d⟩ := I.pin p hp
      refine ⟨(hs.2 p.1 ?_).trans e, n, ne, nf, d⟩
      intro q
      rw [q, hoc] at e
      have q' : oc = p.2 := Option.some.inj e
      exact d w' (by rw [← q']; exact hocd)
theorem store_ok {M : Model} {A : Around} {E : Value → Shared → Prop} {i : Nat} {x : Str} {v : V} {u : Value} {Q : Unit → Shared → Prop} (I : Inv X pins σ H s) (hN : X.N.Nodup) (hi : X.N[i]? = some x) (hx : Loc X.env.scope x) (r : RelV v u)
    (h : ∀ s', Inv X pins (σ.set i (some v)) H s' → Q () s') (hf : X.fn x = true ∨ X.env.scope.names.lookup x = some .local := by first | exact .inl rfl | exact .inr rfl | assumption) : wpAny M A (storeName X.env x u) Q E s :=
  store_ok2 I hN hi hx r (fun s' I' _ => h s' I') hf
theorem Inv.call' {s' : Shared} {ch : List Addr} (I : Inv X pins σ H s) (ho : s'.os = s.os) (u : Un (frs X.stack) ch H H' s.heap s'.heap) (hok : HOk X.prog X.w H' s'.heap) (hg : AllBare s'.gens)
    (hch : ∀ b ∈ ch, (b ∈ X.ex ∨ X.s₀.heap.objs.size ≤ b) ∧ b ≠ X.env.locals ∧ (∀ x c, X.env.cells.lookup x = some c → c ≠ b) ∧ ∀ p ∈ X.pn ++ pins, p.1 ≠ b) : Inv X pins σ H' s' := by
  obtain ⟨h', g', d', t', o'⟩ := s'
  have e : o' = s.os := ho
  subst e
  exact I.call (g' := g') (t' := t') (d' := d') u hok hg hch
end
abbrev XK := Value → Option Addr → Hp → Prop
abbrev St := List (Option V)
abbrev VK := V → Hp → Prop
abbrev TE := St → Hp → VK → Prop
abbrev TT := St → Hp → (Bool → Hp → Prop) → Prop
abbrev TA := St → Hp → (List V → Hp → Prop) → Prop
structure Ends where
  nx : St → Hp → Prop
  rt : VK
  bk : St → Hp → Prop := fun _ _ => False
  ct : St → Hp → Prop := fun _ _ => False
abbrev TS := Ends → St → Hp → Prop
def EP (X : Cx) (pins : List (Addr × Obj)) (σ : St) (Q : VK) (u : Value) (s' : Shared) : Prop := ∃ v H', Inv X pins σ H' s' ∧ RelV v u ∧ Q v H'
def TP (X : Cx) (pins : List (Addr × Obj)) (σ : St) (Q : Bool → Hp → Prop) (b : Bool) (s' : Shared) : Prop := ∃ H', Inv X pins σ H' s' ∧ Q b H'
def AP (X : Cx) (pins : List (Addr × Obj)) (σ : St) (Q : List V → Hp → Prop) (us : List Value) (s' : Shared) : Prop := ∃ vs H', Inv X pins σ H' s' ∧ Vals vs us ∧ Q vs H'
def SP (X : Cx) (pins : List (Addr × Obj)) (D : Ends) (f : Flow) (s' : Shared) : Prop :=
  match f with
  | .next => ∃ σ' H', Inv X pins σ' H' s' ∧ D.nx σ' H'
  | .brk => ∃ σ' H', Inv X pins σ' H' s' ∧ D.bk σ' H'
  | .cont => ∃ σ' H', Inv X pins σ' H' s' ∧ D.ct σ' H'
  | .ret u => ∃ v σ' H', Inv X pins σ' H' s' ∧ RelV v u ∧ D.rt v H'
def PE (X : Cx) (e : Expr) (t : TE) : Prop :=
  ∀ (pins : List (Addr × Obj)) (s : Shared) (σ : St) (H : Hp) (Q : VK), Inv X pins σ H s → t σ H Q → wpAny (model X.prog X.w) X.A (eval e X.env) (EP X pins σ Q) X.xe s
def PT (X : Cx) (e : Expr) (t : TT) : Prop :=
  ∀ (pins : List (Addr × Obj)) (s : Shared) (σ : St) (H : Hp) (Q : Bool → Hp → Prop), Inv X pins σ H s → t σ H Q → wpAny (model X.prog X.w) X.A (isTrue e X.env (eval e X.env)) (TP X pins σ Q) X.xe s
def PW (X : Cx) (e : Expr) (t : TT) : Prop :=
  ∀ (whole : Sem Value) (pins : List (Addr × Obj)) (s : Shared) (σ : St) (H : Hp) (Q : Bool → Hp → Prop), Inv X pins σ H s → t σ H Q → wpAny (model X.prog X.w) X.A (isTrue e X.env whole) (TP X pins σ Q) X.xe s
theorem PW.pt {X : Cx} {e : Expr} {t : TT} (h : PW X e t) : PT X e t := h _
def PA (X : Cx) (es : List Expr) (t : TA) : Prop :=
  ∀ (pos : Pos) (pins : List (Addr × Obj)) (s : Shared) (σ : St) (H : Hp) (Q : List V → Hp → Prop), Inv X pins σ H s → t σ H Q → wpAny (model X.prog X.w) X.A (spliced (backTo pos (starEach es X.env))) (AP X pins σ Q) X.xe s
def PS (X : Cx) (st : Stmt) (t : TS) : Prop :=
  ∀ (pins : List (Addr × Obj)) (s : Shared) (σ : St) (H : Hp) (D : Ends), Inv X pins σ H s → t D σ H → wpAny (model X.prog X.w) X.A (exec st X.env) (SP X pins D) X.xe s
def PSs (X : Cx) (st : List Stmt) (t : TS) : Prop :=
  ∀ (pins : List (Addr × Obj)) (s : Shared) (σ : St) (H : Hp) (D : Ends), Inv X pins σ H s → t D σ H → wpAny (model X.prog X.w) X.A (execs st X.env) (SP X pins D) X.xe s
theorem thn {α : Type} {t : Sem α} {Q Q' : α → Shared → Prop} {M : Model} {A : Around} {E : Value → Shared → Prop} {s : Shared} (h : wpAny M A t Q E s) (hQ : ∀ a s, Q a s → Q' a s) : wpAny M A t Q' E s := wpAny_mono h hQ fun _ _ x => x
end L2
namespace L2
open PySem PySem.Spec PyProof.Rows
section
variable {X : Cx}
theorem bin {a b : Expr} {ta tb : TE} (ha : PE X a ta) (hb : PE X b tb) {pins : List (Addr × Obj)} {s : Shared} {σ : St} {H : Hp} {R : V → V → Hp → Prop} (I : Inv X pins σ H s) (h : ta σ H fun x H1 => tb σ H1 fun y H2 => R x y H2)
    {α : Type} {Q : α → Shared → Prop} {f : Value → Value → Sem α}
    (hf : ∀ v u s2 x y H2, Inv X pins σ H2 s2 → RelV x v → RelV y u → R x y H2 → wpAny (model X.prog X.w) X.A (f v u) Q X.xe s2) :
    wpAny (model X.prog X.w) X.A (eval a X.env) (fun v s₁ => wpAny (model X.prog X.w) X.A (eval b X.env) (fun u s₂ => wpAny (model X.prog X.w) X.A (f v u) Q X.xe s₂) X.xe s₁) X.xe s := by
  refine thn (ha pins s σ H _ I h) fun v s1 ⟨x, H1, I1, r1, q1⟩ => ?_
  refine thn (hb pins s1 σ H1 _ I1 q1) fun u s2 ⟨y, H2, I2, r2, q2⟩ => ?_
  exact hf v u s2 x y H2 I2 r1 r2 q2
def tVar (i : Nat) : TE := fun σ H Q => ∃ v, σ[i]? = some (some v) ∧ Q v H
def tC (v : V) : TE := fun _ H Q => Q v H
theorem pe_var {i : Nat} {x : Str} {pos : Pos} (hN : X.N[i]? = some x) (hv : Vis X.env.scope x) (hd : (x == ("__debug__" : Str)) = false := by decide) (hcd : (x == ("__classdict__" : Str)) = false := by decide) : PE X (.Name x pos) (tVar i) := by
  intro pins s σ H Q I h
  obtain ⟨v, e, h⟩ := h
  obtain ⟨m, hn, hl⟩ := I.loc
  obtain ⟨u, r, l⟩ := hl i x v hN e hv
  have fin : EP X pins σ Q u s := ⟨v, H, I, r, h⟩
  rcases l with ⟨hk, hm⟩ | ⟨hk, c, hc, hcell⟩
  · exact wpAny_Name (wpAny_loadName_local I.ok.kind hk hn hm fin) hd
  · rcases hk with hk | hk
    · exact wpAny_Name (wpAny_loadName_cell I.ok.kind hk hc hcell fin) hd
    · exact wpAny_Name (wpAny_loadName_free I.ok.kind hk hc hcell fin hcd) hd
theorem pe_int {i j pos} : PE X (.Constant (.int i) j pos) (tC (.int i)) := fun _ _ _ H _ I h => wpAny_Constant_int ⟨.int i, H, I.tok _, ⟨_, rfl⟩, h⟩
theorem pe_bl {b j pos} : PE X (.Constant (.bool b) j pos) (tC (.bl b)) := fun _ _ _ H _ I h => Constant_bool ⟨.bl b, H, I, rfl, h⟩
theorem pe_non {j pos} : PE X (.Constant .none j pos) (tC .non) := fun _ _ _ H _ I h => Constant_none ⟨.non, H, I, rfl, h⟩
theorem pe_str {x j pos} : PE X (.Constant (.str x) j pos) (tC (.str x)) := fun _ _ _ H _ I h => Calls.Constant_str ⟨.str x, H, I.tok _, ⟨_, rfl⟩, h⟩
def Gl (X : Cx) (x : Str) : Prop := X.env.kindOf x = some .globalImplicit
theorem ld_glob {E : Value → Shared → Prop} {pins : List (Addr × Obj)} {s : Shared} {σ : St} {H : Hp} {x : Str} {u : Value} {pos : Pos} {Q : Value → Shared → Prop} (I : Inv X pins σ H s) (hg : Gl X x) (hm : X.mg x = some u) (h : Q u s)
    (hd : (x == ("__debug__" : Str)) = false := by decide) : wpAny (model X.prog X.w) X.A (eval (.Name x pos) X.env) Q E s :=
  Calls.Name_function_global I.ok.kind hg (Calls.loadGlobal_global (by rw [I.ok.glob]; exact I.mod.glob.keeps I.bk) hm h) hd
theorem ld_blt {E : Value → Shared → Prop} {pins : List (Addr × Obj)} {s : Shared} {σ : St} {H : Hp} {x : Str} {u : Value} {pos : Pos} {Q : Value → Shared → Prop} (I : Inv X pins σ H s) (hg : Gl X x) (hm : X.mg x = none) (hv : bootBuiltins x = some u) (h : Q u s)
    (hn : x ≠ "__name__" := by decide) (hd : (x == ("__debug__" : Str)) = false := by decide) : wpAny (model X.prog X.w) X.A (eval (.Name x pos) X.env) Q E s := by
  obtain ⟨mb, h1, h2⟩ := I.mod.blt
  exact Calls.Name_function_global I.ok.kind hg (Calls.loadGlobal_builtin (by rw [I.ok.glob]; exact I.mod.glob.keeps I.bk) hm (by rw [I.ok.blt]; exact h1.keeps I.bk) ((h2 x hn).trans hv) h) hd
theorem pe_bltn {x : Str} {v : V} {u : Value} {pos : Pos} (hg : Gl X x) (hm : X.mg x = none) (hv : bootBuiltins x = some u) (r : RelV v u) (hn : x ≠ "__name__" := by decide) (hd : (x == ("__debug__" : Str)) = false := by decide) : PE X (.Name x pos) (tC v) :=
  fun _ _ _ H _ I h => ld_blt I hg hm hv ⟨v, H, I, r, h⟩ hn hd
variable {a b : Expr} {ta tb : TE} {pos : Pos}
variable {tA tB' : TT} {rest : List Expr}
def tAnd (t u : TT) : TT := fun σ H Q => t σ H fun c H1 => if c = true then u σ H1 Q else Q false H1
def tOr (t u : TT) : TT := fun σ H Q => t σ H fun c H1 => if c = true then Q true H1 else u σ H1 Q
def tNot (t : TT) : TT := fun σ H Q => t σ H fun c H1 => Q (!c) H1
theorem pw_and1 (ha : PT X a tA) : PW X (.BoolOp .And [a] pos) tA := by
  intro wh pins s σ H Q I h
  refine isTrue_and (thn (ha pins s σ H Q I h) fun c s1 e => ?_)
  cases c with
  | true => exact isTrue_and_nil e
  | false => exact e
theorem pw_or1 (ha : PT X a tA) : PW X (.BoolOp .Or [a] pos) tA := by
  intro wh pins s σ H Q I h
  refine isTrue_or (thn (ha pins s σ H Q I h) fun c s1 e => ?_)
  cases c with
  | false => exact isTrue_or_nil e
  | true => exact e
theorem pw_and (ha : PT X a tA) (hb : PW X (.BoolOp .And (b :: rest) pos) tB') : PW X (.BoolOp .And (a :: b :: rest) pos) (tAnd tA tB') := by
  intro wh pins s σ H Q I h
  refine isTrue_and (thn (ha pins s σ H _ I h) fun c s1 ⟨H1, I1, q1⟩ => ?_)
  cases c with
  | true => exact hb wh pins s1 σ H1 Q I1 q1
  | false => exact ⟨H1, I1, q1⟩
theorem pw_or (ha : PT X a tA) (hb : PW X (.BoolOp .Or (b :: rest) pos) tB') : PW X (.BoolOp .Or (a :: b :: rest) pos) (tOr tA tB') := by
  intro wh pins s σ H Q I h
  refine isTrue_or (thn (ha pins s σ H _ I h) fun c s1 ⟨H1, I1, q1⟩ => ?_)
  cases c with
  | true => exact ⟨H1, I1, q1⟩
  | false => exact hb wh pins s1 σ H1 Q I1 q1
theorem pt_not (ha : PT X a tA) : PT X (.UnaryOp .Not a pos) (tNot tA) := by
  intro pins s σ H Q I h
  exact isTrue_not (ha pins s σ H (fun c H1 => Q (!c) H1) I h)
def tAndV (ta tb : TE) : TE := fun σ H Q => ta σ H fun x H1 => ∃ c, x = .bl c ∧ if c = true then tb σ H1 Q else Q (.bl false) H1
theorem pe_one {op} {t : TE} (h : PE X a t) : PE X (.BoolOp op [a] pos) t := fun pins s σ H Q I hw => BoolOp_one (h pins s σ H Q I hw)
theorem pe_and (ha : PE X a ta) (hb : PE X (.BoolOp .And (b :: rest) pos) tb) : PE X (.BoolOp .And (a :: b :: rest) pos) (tAndV ta tb) := by
  intro pins s σ H Q I h
  refine BoolOp_and (thn (ha pins s σ H _ I h) fun v s1 ⟨x, H1, I1, r1, q1⟩ => ?_)
  obtain ⟨c, rfl, q1⟩ := q1
  cases r1
  refine wpAny_truthy_bool ?_
  cases c with
  | true => exact hb pins s1 σ H1 Q I1 q1
  | false => exact ⟨.bl false, H1, I1, rfl, q1⟩
end
end L2
namespace L2
open PySem PySem.Spec PyProof.Rows
def SqL (K : PySem.W.Frag) (H : Hp) (a : Addr) (xs : List V) : Prop :=
  Rd H a (.lst xs) ∨
    ∃ (o : Obj) (its : Array Value) (n : Nat), K.lookup a = some o ∧ o.cls = .type "list" ∧ o.dict = none ∧ o.data = .seq its n ∧ its.size ≤ sizeLine ∧ Vals xs its.toList
def SqT (K : PySem.W.Frag) (H : Hp) (a : Addr) (xs : List V) : Prop :=
  Rd H a (.tup xs) ∨
    ∃ (o : Obj) (its : Array Value) (n : Nat), K.lookup a = some o ∧ o.cls = .type "tuple" ∧ o.data = .seq its n ∧ its.size ≤ sizeLine ∧ Vals xs its.toList
def absV : Value → Option V
  | .none => some .non
  | .bool b => some (.bl b)
  | .int i _ => some (.int i)
  | .str x _ => some (.str x)
  | .bytes b _ => some (.byt b)
  | .float b _ => some (.flt b)
  | .ref a => some (.ref a)
  | .type n => some (.ty n)
  | _ => none
theorem RelV.abs {x : V} {u : Value} (r : RelV x u) : absV u = some x := by
  cases x with
  | non => cases r; rfl
  | bl _ => cases r; rfl
  | int _ => obtain ⟨t, rfl⟩ := r; rfl
  | str _ => obtain ⟨t, rfl⟩ := r; rfl
  | byt _ => obtain ⟨t, rfl⟩ := r; rfl
  | flt _ => obtain ⟨t, rfl⟩ := r; rfl
  | ref _ => cases r; rfl
  | ty _ => cases r; rfl
theorem RelV.inj {x y : V} {u : Value} (r : RelV x u) (q : RelV y u) : x = y := Option.some.inj (r.abs.symm.trans q.abs)
theorem Vals.inj : ∀ {xs ys : List V} {us : List Value}, Vals xs us → Vals ys us → xs = ys
  | _, _, _, .nil, .nil => rfl
  | _, _, _, .cons r t, .cons r' t' => by rw [r.inj r', Vals.inj t t']
section
variable {X : Cx} {pins : List (Addr × Obj)} {σ : St} {H : Hp} {s : Shared} {a : Addr} {xs ys : List V}
theorem SqL.of {K : PySem.W.Frag} (h : H a = some (.lst xs)) : SqL K H a xs := .inl (.inl h)
theorem SqT.of {K : PySem.W.Frag} (h : H a = some (.tup xs)) : SqT K H a xs := .inl (.inl h)
theorem Inv.list (I : Inv X pins σ H s) (h : SqL X.K H a xs) : ∃ its : List Value, Vals xs its ∧ PlainL s.heap a its.toArray ∧ xs.length ≤ sizeLine := by
  rcases h with h | ⟨o, its, n, hk, hc, hd, hs, hz, r⟩
  · obtain ⟨z, its, n, r, e⟩ := h.ok I.hok
    exact ⟨its, r, ⟨_, n, e, rfl, rfl, rfl⟩, z⟩
  · refine ⟨its.toList, r, ⟨o, n, I.kIn a o hk, hc, hd, by simpa using hs⟩, ?_⟩
    have e := r.length
    simp only [Array.length_toList] at e
    omega
theorem Inv.tuple (I : Inv X pins σ H s) (h : SqT X.K H a xs) : ∃ its : List Value, Vals xs its ∧ IsTup s.heap a its.toArray ∧ xs.length ≤ sizeLine := by
  rcases h with h | ⟨o, its, n, hk, hc, hs, hz, r⟩
  · obtain ⟨z, its, r, p⟩ := h.ok I.hok
    exact ⟨its, r, p, z⟩
  · refine ⟨its.toList, r, ⟨o, I.kIn a o hk, hc, n, by simpa using hs⟩, ?_⟩
    have e := r.length
    simp only [Array.length_toList] at e
    omega
theorem Inv.list_inj (I : Inv X pins σ H s) (h : SqL X.K H a xs) (h' : SqL X.K H a ys) : xs = ys := by
  obtain ⟨its, r, ⟨o, n, e, _, _, d⟩, _⟩ := I.list h
  obtain ⟨its', r', ⟨o', n', e', _, _, d'⟩, _⟩ := I.list h'
  rw [e] at e'; cases e'
  rw [d] at d'
  injection d' with d1 _
  have : its = its' := by simpa using congrArg Array.toList d1
  subst this
  exact r.inj r'
theorem Inv.tuple_inj (I : Inv X pins σ H s) (h : SqT X.K H a xs) (h' : SqT X.K H a ys) : xs = ys := by
  obtain ⟨its, r, ⟨o, e, _, n, d⟩, _⟩ := I.tuple h
  obtain ⟨its', r', ⟨o', e', _, n', d'⟩, _⟩ := I.tuple h'
  rw [e] at e'; cases e'
  rw [d] at d'
  injection d' with d1 _
  have : its = its' := by simpa using congrArg Array.toList d1
  subst this
  exact r.inj r'
end
abbrev Cx.wish (X : Cx) (E : Value → Shared → Prop) : Cx := { X with xe := E }
abbrev Cx.nox (X : Cx) : Cx := X.wish fun _ _ => False
theorem Cx.Ok.wish {X : Cx} (ok : X.Ok) (E : Value → Shared → Prop) : (X.wish E).Ok :=
  ⟨ok.mod, ok.kind, ok.glob, ok.blt, ok.above, ok.inj, ok.has, ok.cab, ok.hd, ok.frames, ok.stk, ok.exf, ok.bs, ok.bsz, ok.noex, ok.exfs, ok.funs, ok.frf⟩
theorem Cx.Ok.unwish {X : Cx} {E : Value → Shared → Prop} (ok : (X.wish E).Ok) : X.Ok :=
  ⟨ok.mod, ok.kind, ok.glob, ok.blt, ok.above, ok.inj, ok.has, ok.cab, ok.hd, ok.frames, ok.stk, ok.exf, ok.bs, ok.bsz, ok.noex, ok.exfs, ok.funs, ok.frf⟩
section
variable {X : Cx} {pins : List (Addr × Obj)} {σ : St} {H : Hp} {s : Shared} {E : Value → Shared → Prop}
theorem Inv.wish (I : Inv X pins σ H s) (E : Value → Shared → Prop) : Inv (X.wish E) pins σ H s := ⟨I.ok.wish E, I.os, I.bare, I.base, I.loc, I.cell, I.free, I.freeC, I.pin, I.hok, I.len⟩
theorem Inv.unwish (I : Inv (X.wish E) pins σ H s) : Inv X pins σ H s := ⟨I.ok.unwish, I.os, I.bare, I.base, I.loc, I.cell, I.free, I.freeC, I.pin, I.hok, I.len⟩
theorem SP.unwish {D : Ends} {f : Flow} {s' : Shared} (h : SP (X.wish E) pins D f s') : SP X pins D f s' := by
  cases f with
  | next => obtain ⟨σ', H', I, q⟩ := h; exact ⟨σ', H', I.unwish, q⟩
  | brk => obtain ⟨σ', H', I, q⟩ := h; exact ⟨σ', H', I.unwish, q⟩
  | cont => obtain ⟨σ', H', I, q⟩ := h; exact ⟨σ', H', I.unwish, q⟩
  | ret u => obtain ⟨v, σ', H', I, r, q⟩ := h; exact ⟨v, σ', H', I.unwish, r, q⟩
theorem PSs.nox {st : List Stmt} {t : TS} (h : PSs X.nox st t) : PSs X st t := fun pins s σ H D I hw =>
  wpAny_mono (h pins s σ H D (I.wish _) hw) (fun _ _ q => q.unwish) fun _ _ z => False.elim z
end
section
variable {X : Cx} {st : Stmt} {rest : List Stmt} {t u : TS} {e : Expr} {te : TE} {pos : Pos}
def tNext : TS := fun D σ H => D.nx σ H
def tSeq (t u : TS) : TS := fun D σ H => t { D with nx := u D } σ H
theorem pss_nil : PSs X [] tNext := fun _ _ σ H _ I h => wpAny_execs_nil ⟨σ, H, I, h⟩
theorem pss_cons (h1 : PS X st t) (h2 : PSs X rest u) : PSs X (st :: rest) (tSeq t u) := by
  intro pins s σ H D I h
  refine wpAny_execs_cons (thn (h1 pins s σ H { D with nx := u D } I h) fun f s1 q => ?_)
  cases f with
  | next =>
    obtain ⟨σ', H', I', q⟩ := q
    exact h2 pins s1 σ' H' D I' q
  | ret v => exact q
  | brk => exact q
  | cont => exact q
theorem pss_one (h1 : PS X st t) : PSs X [st] t := by
  intro pins s σ H D I h
  refine wpAny_execs_cons (thn (h1 pins s σ H D I h) fun f s1 q => ?_)
  cases f with
  | next => exact wpAny_execs_nil q
  | ret v => exact q
  | brk => exact q
  | cont => exact q
theorem Inv.quiet {pins : List (Addr × Obj)} {σ : St} {H : Hp} {s : Shared} (I : Inv X pins σ H s) : interactive X.env = false := by simp [interactive, I.ok.kind]
def tDrop (te : TE) : TS := fun D σ H => te σ H fun _ H1 => D.nx σ H1
theorem ps_expr (he : PE X e te) (hs : swapsWith e none pos.line X.env = pure false := by rfl) : PS X (.Expr e pos) (tDrop te) := by
  intro pins s σ H D I h
  exact wpAny_Expr_any (thn (he pins s σ H _ I h) fun v s1 ⟨x, H1, I1, r1, q1⟩ => ⟨σ, H1, I1, q1⟩) I.quiet hs
def tRet (te : TE) : TS := fun D σ H => te σ H D.rt
theorem ps_ret (he : PE X e te) : PS X (.Return (some e) pos) (tRet te) := by
  intro pins s σ H D I h
  exact wpAny_Return_some (thn (he pins s σ H _ I h) fun v s1 ⟨x, H1, I1, r1, q1⟩ => ⟨x, σ, H1, I1, r1, q1⟩)
def tIfS (c : TT) (t u : TS) : TS := fun D σ H => c σ H fun b H1 => if b = true then t D σ H1 else u D σ H1
theorem ps_if {c : Expr} {a b : List Stmt} {tc : TT} (hc : PT X c tc) (ha : PSs X a t) (hb : PSs X b u) : PS X (.If c a b pos) (tIfS tc t u) := by
  intro pins s σ H D I h
  refine wpAny_If (thn (hc pins s σ H _ I h) fun d s1 ⟨H1, I1, q1⟩ => ?_)
  cases d with
  | true => exact ha pins s1 σ H1 D I1 q1
  | false => exact hb pins s1 σ H1 D I1 q1
end
abbrev TG := V → St → Hp → (St → Hp → Prop) → Prop
abbrev TGs := List V → St → Hp → (St → Hp → Prop) → Prop
def PG (X : Cx) (target : Expr) (t : TG) : Prop :=
  ∀ (pins : List (Addr × Obj)) (s : Shared) (σ : St) (H : Hp) (v : V) (u : Value) (Q : St → Hp → Prop), Inv X pins σ H s → RelV v u → t v σ H Q →
    wpAny (model X.prog X.w) X.A (assign target X.env u) (fun _ s' => ∃ σ' H', Inv X pins σ' H' s' ∧ Q σ' H') X.xe s
def PGs (X : Cx) (ts : List Expr) (t : TGs) : Prop :=
  ∀ (pins : List (Addr × Obj)) (s : Shared) (σ : St) (H : Hp) (vs : List V) (us : List Value) (Q : St → Hp → Prop), Inv X pins σ H s → Vals vs us → t vs σ H Q →
    wpAny (model X.prog X.w) X.A (assignInOrder ((assignEach ts X.env).map (·.2)) us) (fun _ s' => ∃ σ' H', Inv X pins σ' H' s' ∧ Q σ' H') X.xe s
abbrev TSet := V → V → V → Hp → (Hp → Prop) → Prop
def PSet (X : Cx) (t : TSet) : Prop :=
  ∀ (pins : List (Addr × Obj)) (s : Shared) (σ : St) (H : Hp) (o i v : V) (ov iv u : Value) (Q : Hp → Prop), Inv X pins σ H s → RelV o ov → RelV i iv → RelV v u → t o i v H Q →
    wpAny (model X.prog X.w) X.A (setItem ov iv u) (fun _ s' => ∃ H', Inv X pins σ H' s' ∧ Q H') X.xe s
section
variable {X : Cx} {pos : Pos}
def gName (i : Nat) : TG := fun v σ H Q => Q (σ.set i (some v)) H
theorem pg_name {i : Nat} {x : Str} (hN : X.N.Nodup) (hi : X.N[i]? = some x) (hx : Loc X.env.scope x) (hf : X.fn x = true ∨ X.env.scope.names.lookup x = some .local := by first | exact .inl rfl | exact .inr rfl | assumption) : PG X (.Name x pos) (gName i) := by
  intro pins s σ H v u Q I r h
  exact wpAny_assign_Name (store_ok I hN hi hx r (fun s' I' => ⟨_, H, I', h⟩) hf)
def gNil : TGs := fun vs σ H Q => vs = [] ∧ Q σ H
def gCons (t : TG) (u : TGs) : TGs := fun vs σ H Q => ∃ v r, vs = v :: r ∧ t v σ H fun σ' H' => u r σ' H' Q
theorem pgs_nil : PGs X [] gNil := by
  intro pins s σ H vs us Q I r h
  obtain ⟨e, h⟩ := h
  subst e
  cases r
  exact assignInOrder_nil ⟨σ, H, I, h⟩
theorem pgs_cons {e : Expr} {es : List Expr} {t : TG} {u : TGs} (h1 : PG X e t) (h2 : PGs X es u)
    (hs : (assignEach (e :: es) X.env).map (·.2) = assign e X.env :: (assignEach es X.env).map (·.2) := by rfl) : PGs X (e :: es) (gCons t u) := by
  intro pins s σ H vs us Q I r h
  obtain ⟨v, vr, e1, h⟩ := h
  subst e1
  cases r with
  | cons r rr =>
    rw [hs]
    refine assignInOrder_cons (thn (h1 pins s σ H _ _ _ I r h) fun _ s1 ⟨σ1, H1, I1, q1⟩ => ?_)
    exact h2 pins s1 σ1 H1 _ _ Q I1 rr q1
def gTup (K : PySem.W.Frag) (n : Nat) (t : TGs) : TG := fun v σ H Q => ∃ a xs, v = .ref a ∧ SqT K H a xs ∧ xs.length = n ∧ t xs σ H Q
theorem pg_tup {es : List Expr} {k : Nat} {t : TGs} {n : Nat} (hc : X.calm = true) (h : PGs X es t)
    (hn : (assignEach es X.env).length = n := by rfl) (hst : (assignEach es X.env).findIdx? (·.1) = none := by rfl) : PG X (.Tuple es k pos) (gTup X.K n t) := by
  intro pins s σ H v u Q I r hw
  obtain ⟨a, xs, e1, hq, hl, hw⟩ := hw
  subst e1
  cases r
  obtain ⟨its, rv, ht, hz⟩ := I.tuple hq
  refine assign_Tuple_tuple (I.ok.hd hc) ht (by simp [hn, ← hl, rv.length]) hst fun h' hx => ?_
  have I1 : Inv X pins σ H { s with heap := h' } := I.kept (t' := s.toks) fun b o e => hx b o (Nat.ne_of_lt (Heap.lt_size e)) e
  exact h pins _ σ H xs _ Q I1 (by simpa using rv) hw
def gSub (to ti : TE) (t : TSet) : TG := fun v σ H Q => to σ H fun o H1 => ti σ H1 fun i H2 => t o i v H2 fun H3 => Q σ H3
theorem pg_sub {o i : Expr} {to ti : TE} {t : TSet} (ho : PE X o to) (hi : PE X i ti) (hs : PSet X t)
    (ha : ∀ v, assign (.Subscript o i pos) X.env v = (do
      let ov ← holding [v] (eval o X.env)
      let iv ← holding [v, ov] (eval i X.env)
      standAt pos
      holding [v, ov, iv] (setItem ov iv v)
      release [v, ov, iv] []) := by intro _; rfl) : PG X (.Subscript o i pos) (gSub to ti t) := by
  intro pins s σ H v u Q I r h
  rw [ha]
  refine wpAny_bind (wpAny_holding (thn (ho pins s σ H _ I h) fun ov s1 ⟨x, H1, I1, r1, q1⟩ => ?_))
  refine wpAny_bind (wpAny_holding (thn (hi pins s1 σ H1 _ I1 q1) fun iv s2 ⟨y, H2, I2, r2, q2⟩ => ?_))
  refine wpAny_bind (wpAny_standAt (wpAny_bind (wpAny_holding (thn (hs pins s2 σ H2 x y v ov iv u _ I2 r1 r2 r q2) fun _ s3 ⟨H3, I3, q3⟩ => ?_))))
  exact wpAny_release ⟨σ, H3, I3, q3⟩
def tAsg (te : TE) (g : TG) : TS := fun D σ H => te σ H fun x H1 => g x σ H1 D.nx
theorem ps_asg {tg e : Expr} {te : TE} {g : TG} (he : PE X e te) (hg : PG X tg g) (hs : swapsWithSole [tg] e pos.line X.env = pure false := by rfl) (hw : swappedStores [tg] e X.env = pure none := by rfl)
    (h1 : (assignEach [tg] X.env).map (·.2) = [assign tg X.env] := by rfl) : PS X (.Assign [tg] e pos) (tAsg te g) := by
  intro pins s σ H D I h
  refine wpAny_Assign_stores (thn (he pins s σ H _ I h) fun v s1 ⟨x, H1, I1, r1, q1⟩ => ?_) hs hw
  rw [h1]
  exact thn (hg pins s1 σ H1 x v _ I1 r1 q1) fun _ s2 q => q
theorem ps_set {i : Nat} {x : Str} {e : Expr} {te : TE} {pos' : Pos} (hN : X.N.Nodup) (hi : X.N[i]? = some x) (hx : Loc X.env.scope x) (he : PE X e te) (hs : swapsWith e (some (.Name x pos')) pos.line X.env = pure false := by rfl) (hf : X.fn x = true ∨ X.env.scope.names.lookup x = some .local := by first | exact .inl rfl | exact .inr rfl | assumption) :
    PS X (.Assign [.Name x pos'] e pos) (tAsg te (gName i)) := by
  intro pins s σ H D I h
  refine wpAny_Assign_Name (thn (he pins s σ H _ I h) fun v s1 ⟨y, H1, I1, r1, q1⟩ => ?_) hs
  exact store_ok I1 hN hi hx r1 (fun s2 I2 => ⟨_, H1, I2, q1⟩) hf
end
section
variable {X : Cx} {pos : Pos}
def tWhile (c : TT) (tb : TS) : TS := fun D σ H => ∃ W : Nat → St → Hp → Prop, (∃ m, W m σ H) ∧ ∀ m σ H, W m σ H →
  c σ H fun b H1 => if b = true then ∃ N : St → Hp → Prop, (∀ σ' H', N σ' H' → ∃ m', m' < m ∧ W m' σ' H') ∧ tb { D with nx := N, ct := N, bk := D.nx } σ H1 else D.nx σ H1
theorem ps_while {c : Expr} {body : List Stmt} {tc : TT} {tb : TS} (hp : PassesOwn (model X.prog X.w) X.A X.env X.xe) (hc : PT X c tc) (hb : PSs X body tb) : PS X (.While c body [] pos) (tWhile tc tb) := by
  intro pins s σ H D I h
  obtain ⟨W, ⟨m0, w0⟩, turn⟩ := h
  refine wpAny_While (codeAny_whileLoop (fun n s' => ∃ σ' H', Inv X pins σ' H' s' ∧ W n σ' H') ?_ m0 ⟨σ, H, I, w0⟩)
  rintro n s1 ⟨σ1, H1, I1, w1⟩
  refine wpAny_passesOwn hp (thn (hc pins s1 σ1 H1 _ I1 (turn n σ1 H1 w1)) fun b s2 ⟨H2, I2, q2⟩ => ?_)
  cases b with
  | true =>
    obtain ⟨N, hN, q2⟩ := q2
    rw [if_pos rfl]
    refine wpAny_passesOwn hp (thn (hb pins s2 σ1 H2 _ I2 q2) fun f s3 q3 => ?_)
    cases f with
    | next =>
      obtain ⟨σ3, H3, I3, n3⟩ := q3
      obtain ⟨m', hm, w3⟩ := hN σ3 H3 n3
      exact ⟨m', hm, σ3, H3, I3, w3⟩
    | cont =>
      obtain ⟨σ3, H3, I3, n3⟩ := q3
      obtain ⟨m', hm, w3⟩ := hN σ3 H3 n3
      exact ⟨m', hm, σ3, H3, I3, w3⟩
    | brk => exact q3
    | ret v => exact q3
  | false =>
    rw [if_neg Bool.false_ne_true]
    exact wpAny_execs_nil ⟨σ1, H2, I2, q2⟩
end
structure It where
  go : Nat → Hp → Prop
  yld : Nat → Hp → V → Hp → Prop
  stop : Nat → Hp → Prop
def FpOk (X : Cx) (pins : List (Addr × Obj)) (H : Hp) (b : Addr) : Prop :=
  H b = none ∧ b ≠ X.env.locals ∧ b ∉ X.fs ∧ (b ∈ X.ex ∨ X.s₀.heap.objs.size ≤ b) ∧ (∀ x c, X.env.cells.lookup x = some c → c ≠ b) ∧ ∀ p ∈ X.pn ++ pins, p.1 ≠ b
theorem Inv.fpOk {X : Cx} {pins : List (Addr × Obj)} {σ : St} {H H' : Hp} {s : Shared} {b : Addr} (I : Inv X pins σ H s) (hb : s.heap.objs.size ≤ b) (hn : H' b = none) : FpOk X pins H' b := by
  refine ⟨hn, Nat.ne_of_gt (Nat.lt_of_lt_of_le I.lt hb), I.nofs hb, .inr (Nat.le_trans I.sz hb), fun x c e z => ?_, fun p hp z => ?_⟩
  · obtain ⟨v, q⟩ := I.cell x c e
    exact absurd (Nat.lt_of_lt_of_le q.lt (by rw [z]; exact hb)) (Nat.lt_irrefl _)
  · exact absurd (Nat.lt_of_lt_of_le (Heap.lt_size (I.pin p hp).1) (by rw [z]; exact hb)) (Nat.lt_irrefl _)
structure Turn (P : Program) (w : World) (K : PySem.W.Frag) (tg : Expr) (J : It) (fp : List Addr) (it : Addr) (tn : Nat → Heap → Prop) : Prop where
  mem : it ∈ fp
  obj : ∀ i h, tn i h → ∀ b ∈ fp, ∃ o, h.get? b = some o ∧ ∀ v, o.data ≠ .cell v
  keep : ∀ i h h', tn i h → (∀ b ∈ fp, ∀ o, h.get? b = some o → h'.get? b = some o) → tn i h'
  item : ∀ (X : Cx), X.prog = P → X.w = w → X.K = K → X.calm = true → ∀ (i : Nat) (pins : List (Addr × Obj)) (s : Shared) (σ : St) (H : Hp) (E : Value → Shared → Prop), Inv X pins σ H s → (∀ b ∈ fp, FpOk X pins H b) → tn i s.heap → J.go i H →
    wpAny (model P w) X.A (pyNext (.ref it)) (fun r s1 => ∃ u, r = some u ∧
      wpAny (model P w) X.A (letOwnedTupleGo tg (.ref it) u) (fun _ s2 => ∃ x H', Inv X pins σ H' s2 ∧ RelV x u ∧ J.yld i H x H' ∧ tn (i + 1) s2.heap ∧ ∀ b ∈ fp, H' b = none) E s1) E s
  done : ∀ (X : Cx), X.prog = P → X.w = w → X.K = K → X.calm = true → ∀ (i : Nat) (pins : List (Addr × Obj)) (s : Shared) (σ : St) (H : Hp) (E : Value → Shared → Prop), Inv X pins σ H s → (∀ b ∈ fp, FpOk X pins H b) → tn i s.heap → J.stop i H →
    wpAny (model P w) X.A (pyNext (.ref it)) (fun r s1 => r = none ∧ Inv X pins σ H s1) E s
  self : ∀ (A : Around) (i : Nat) (s : Shared) (Q : Value → Shared → Prop) (E : Value → Shared → Prop), tn i s.heap → Q (.ref it) s → wpAny (model P w) A (pyIter (.ref it)) Q E s
abbrev TI := St → Hp → (It → Hp → Prop) → Prop
def PIE (X : Cx) (pins : List (Addr × Obj)) (σ : St) (tg : Expr) (R : It → Hp → Prop) (itv : Value) (s2 : Shared) : Prop :=
  ∃ (it : Addr) (fp : List Addr) (tn : Nat → Heap → Prop) (J : It) (H' : Hp), itv = .ref it ∧ Inv X pins σ H' s2 ∧ Turn X.prog X.w X.K tg J fp it tn ∧ tn 0 s2.heap ∧ (∀ b ∈ fp, FpOk X pins H' b) ∧ R J H'
def PI (X : Cx) (tg iter : Expr) (wi : TI) : Prop :=
  ∀ (pins : List (Addr × Obj)) (s : Shared) (σ : St) (H : Hp) (R : It → Hp → Prop), Inv X pins σ H s → wi σ H R →
    wpAny (model X.prog X.w) X.A (eval iter X.env) (fun v s1 => wpAny (model X.prog X.w) X.A (pyIter v) (PIE X pins σ tg R) X.xe s1) X.xe s
theorem go_of {M : Model} {A : Around} {E : Value → Shared → Prop} {s : Shared} {tg : Expr} {it : Addr} {u : Value} {o : Obj} {n : String} {vs : Array Value} {Q : Unit → Shared → Prop} (ho : s.heap.get? it = some o) (hc : o.cls = .type n) (hd : o.data = .fields vs)
    (hn : ["enumerate", "zip", "dict_itemiterator", "dict_reverseitemiterator", "odict_iterator", "itertools.zip_longest", "itertools.pairwise"].contains n = false) (hQ : Q () s) : wpAny M A (letOwnedTupleGo tg (.ref it) u) Q E s := by
  unfold letOwnedTupleGo
  cases tg <;> first
    | exact wpAny_pure hQ
    | (cases u <;> first
        | exact wpAny_pure hQ
        | (refine wpAny_bind (wpAny_load ho ?_)
           rw [hc, hd]
           show wpAny M A (if (["enumerate", "zip", "dict_itemiterator", "dict_reverseitemiterator", "odict_iterator", "itertools.zip_longest", "itertools.pairwise"].contains n && vs[0]? == some (rawInt _)) = true then _ else _) Q E s
           rw [if_neg (by intro h; rw [hn, Bool.false_and] at h; cases h)]
           exact wpAny_pure hQ))
def Itl (K : PySem.W.Frag) (a : Addr) : It :=
  ⟨fun i H => ∃ xs x, SqL K H a xs ∧ xs[i]? = some x, fun i H x H' => H' = H ∧ ∀ xs, SqL K H a xs → xs[i]? = some x, fun i H => ∃ xs, SqL K H a xs ∧ xs.length ≤ i⟩
def Itt (K : PySem.W.Frag) (a : Addr) : It :=
  ⟨fun i H => ∃ xs x, SqT K H a xs ∧ xs[i]? = some x, fun i H x H' => H' = H ∧ ∀ xs, SqT K H a xs → xs[i]? = some x, fun i H => ∃ xs, SqT K H a xs ∧ xs.length ≤ i⟩
def Itr (lo : Int) (n : Nat) : It := ⟨fun i _ => i < n, fun i H x H' => H' = H ∧ x = .int (lo + i), fun i _ => n ≤ i⟩
theorem turn_list {P : Program} {w : World} {K : PySem.W.Frag} {tg : Expr} (a it : Addr) : Turn P w K tg (Itl K a) [it] it (fun i h => h.IsListIter it a i) where
  mem := by simp
  obj := fun i h st b hb => by
    have e : b = it := by simpa using hb
    subst e
    obtain ⟨o, e, c, d⟩ := st
    exact ⟨o, e, fun v z => by rw [d] at z; cases z⟩
  keep := fun i h h' st k => st.at fun o e => k it (by simp) o e
  item := by
    intro X hP hw hK hc i pins s σ H E I hf st hg
    subst hP hw hK
    obtain ⟨xs, x, hq, hx⟩ := hg
    obtain ⟨its, rv, p, hz⟩ := I.list hq
    obtain ⟨u, hu, ru⟩ := rv.get hx
    obtain ⟨f0, f1, f2, f3, f4, f5⟩ := hf it (by simp)
    refine wpAny_pyNext_list_item st p.isList (x := u) (by simpa using hu) fun h' st' sb => ?_
    have I1 : Inv X pins σ H { s with heap := h' } := I.turned (t' := s.toks) (fun b o hb e => (sb.2 b hb).trans e) f0 f1 f3 f4 f5
    obtain ⟨o, e, c, d⟩ := id st'
    exact ⟨u, rfl, go_of (s := { s with heap := h' }) e c d (by decide) ⟨x, H, I1, ru, ⟨rfl, fun ys hy => by rw [I.list_inj hy hq]; exact hx⟩, st', fun b hb => (hf b hb).1⟩⟩
  done := by
    intro X hP hw hK hc i pins s σ H E I hf st hg
    subst hP hw hK
    obtain ⟨xs, hq, hx⟩ := hg
    obtain ⟨its, rv, p, hz⟩ := I.list hq
    obtain ⟨f0, f1, f2, f3, f4, f5⟩ := hf it (by simp)
    have hl := rv.length
    exact wpAny_pyNext_list_end (I.ok.hd hc) st p.isList (by simp; omega) fun h' eb => ⟨rfl, I.turned (t' := s.toks) (fun b o hb e => eb b o hb e) f0 f1 f3 f4 f5⟩
  self := fun _ _ _ _ _ st h => wpAny_pyIter_listiter st h
theorem turn_tuple {P : Program} {w : World} {K : PySem.W.Frag} {tg : Expr} (a it : Addr) : Turn P w K tg (Itt K a) [it] it (fun i h => h.IsTupleIter it a i) where
  mem := by simp
  obj := fun i h st b hb => by
    have e : b = it := by simpa using hb
    subst e
    obtain ⟨o, e, c, d⟩ := st
    exact ⟨o, e, fun v z => by rw [d] at z; cases z⟩
  keep := fun i h h' st k => st.at fun o e => k it (by simp) o e
  item := by
    intro X hP hw hK hc i pins s σ H E I hf st hg
    subst hP hw hK
    obtain ⟨xs, x, hq, hx⟩ := hg
    obtain ⟨its, rv, p, hz⟩ := I.tuple hq
    obtain ⟨u, hu, ru⟩ := rv.get hx
    obtain ⟨f0, f1, f2, f3, f4, f5⟩ := hf it (by simp)
    refine wpAny_pyNext_tuple_item st (show s.heap.IsTuple a its.toArray from p) (x := u) (by simpa using hu) fun h' st' sb => ?_
    have I1 : Inv X pins σ H { s with heap := h' } := I.turned (t' := s.toks) (fun b o hb e => (sb.2 b hb).trans e) f0 f1 f3 f4 f5
    obtain ⟨o, e, c, d⟩ := id st'
    exact ⟨u, rfl, go_of (s := { s with heap := h' }) e c d (by decide) ⟨x, H, I1, ru, ⟨rfl, fun ys hy => by rw [I.tuple_inj hy hq]; exact hx⟩, st', fun b hb => (hf b hb).1⟩⟩
  done := by
    intro X hP hw hK hc i pins s σ H E I hf st hg
    subst hP hw hK
    obtain ⟨xs, hq, hx⟩ := hg
    obtain ⟨its, rv, p, hz⟩ := I.tuple hq
    obtain ⟨f0, f1, f2, f3, f4, f5⟩ := hf it (by simp)
    have hl := rv.length
    exact wpAny_pyNext_tuple_end (I.ok.hd hc) st (show s.heap.IsTuple a its.toArray from p) (by simp; omega) fun h' eb => ⟨rfl, I.turned (t' := s.toks) (fun b o hb e => eb b o hb e) f0 f1 f3 f4 f5⟩
  self := fun _ _ _ _ _ st h => wpAny_pyIter_tupleiter st h
theorem turn_range {P : Program} {w : World} {K : PySem.W.Frag} {tg : Expr} (it : Addr) (lo : Int) (n : Nat) : Turn P w K tg (Itr lo n) [it] it (fun i h => IsRangeIter h it (lo + (i : Nat) * 1) ((n : Int) - (i : Nat)) 1) where
  mem := by simp
  obj := fun i h st b hb => by
    have e : b = it := by simpa using hb
    subst e
    exact ⟨_, st, fun v z => by
      have z' : Data.fields _ = Data.cell v := z
      cases z'⟩
  keep := fun i h h' st k => k it (by simp) _ st
  item := by
    intro X hP hw hK hc i pins s σ H E I hf st hg
    subst hP hw hK
    obtain ⟨f0, f1, f2, f3, f4, f5⟩ := hf it (by simp)
    have W := Walks.range (prog := X.prog) (w := X.w) (I.ok.hd hc) it lo 1 n
    refine W.item i s _ _ hg st fun v h' tk hv st' kk => ?_
    obtain ⟨t, rfl⟩ := hv
    have I1 : Inv X pins σ H { s with heap := h', toks := tk } := I.turned (fun b o hb e => kk b o (by simpa using hb) e) f0 f1 f3 f4 f5
    refine ⟨_, rfl, go_of (s := { s with heap := h', toks := tk }) (n := "range_iterator") st' rfl rfl (by decide) ⟨.int (lo + i), H, I1, ⟨t, ?_⟩, ⟨rfl, rfl⟩, st', fun b hb => (hf b hb).1⟩⟩
    rw [Int.mul_one]
  done := by
    intro X hP hw hK hc i pins s σ H E I hf st hg
    subst hP hw hK
    obtain ⟨f0, f1, f2, f3, f4, f5⟩ := hf it (by simp)
    exact wpAny_pyNext_range_end (I.ok.hd hc) st (by have : n ≤ i := hg; omega) fun h' eb => ⟨rfl, I.turned (t' := s.toks) (fun b o hb e => eb b o hb e) f0 f1 f3 f4 f5⟩
  self := fun _ _ _ _ _ st h => wpAny_pyIter_rangeiter st h
end L2
namespace L2
open PySem PySem.Spec PyProof.Rows
section
variable {X : Cx} {tg : Expr}
theorem range_it {pins : List (Addr × Obj)} {σ : St} {H : Hp} {s : Shared} {R : It → Hp → Prop} {E : Value → Shared → Prop} {lo hi : Int} {t u v : Tok} {tk : Nat} (I : Inv X pins σ H s) (h1 : -(2 ^ 62) ≤ lo) (h2 : lo < 2 ^ 62) (h3 : -(2 ^ 62) ≤ hi) (h4 : hi < 2 ^ 62)
    (q : R (Itr lo (hi - lo).toNat) H) : wpAny (model X.prog X.w) X.A (pyIter (.ref s.heap.objs.size)) (PIE X pins σ tg R) E { s with heap := s.heap.push { cls := .type "range", data := .fields #[.int lo t, .int hi u, .int 1 v] }, toks := tk } := by
  refine wpAny_pyIter_range (IsRange.new ..) (small_one h1 h2 h3 h4) ?_
  have I1 : Inv X pins σ H { s with heap := s.heap.push { cls := .type "range", data := .fields #[.int lo t, .int hi u, .int 1 v] }, toks := tk } := I.kept fun b o e => Heap.get?_push_of_some _ e
  refine ⟨(s.heap.push { cls := .type "range", data := .fields #[.int lo t, .int hi u, .int 1 v] }).objs.size, [(s.heap.push { cls := .type "range", data := .fields #[.int lo t, .int hi u, .int 1 v] }).objs.size], _, _, H, rfl,
    I1.kept (t' := tk) fun b o e => Heap.get?_push_of_some _ e, turn_range _ lo (hi - lo).toNat, ?_, fun b hb => ?_, q⟩
  · have e1 : lo + ((0 : Nat) : Int) * 1 = lo := by simp
    have e2 : (((hi - lo).toNat : Nat) : Int) - ((0 : Nat) : Int) = Builtin.Range.rangeSize lo hi 1 := by rw [rangeSize_one]; split <;> omega
    show IsRangeIter _ _ (lo + ((0 : Nat) : Int) * 1) ((((hi - lo).toNat : Nat) : Int) - ((0 : Nat) : Int)) 1
    rw [e1, e2]
    exact Heap.get?_push_size _ rfl
  · have e : b = (s.heap.push { cls := .type "range", data := .fields #[.int lo t, .int hi u, .int 1 v] }).objs.size := by simpa using hb
    subst e
    exact I1.fpOk (Nat.le_refl _) (I1.hok.fresh (Nat.le_refl _))
def iRng1 (ta : TA) : TI := fun σ H R => ta σ H fun vs H1 => ∃ j : Int, vs = [.int j] ∧ -(2 ^ 62) ≤ j ∧ j < 2 ^ 62 ∧ R (Itr 0 j.toNat) H1
def iRng2 (ta : TA) : TI := fun σ H R => ta σ H fun vs H1 => ∃ i j : Int, vs = [.int i, .int j] ∧ (-(2 ^ 62) ≤ i ∧ i < 2 ^ 62 ∧ -(2 ^ 62) ≤ j ∧ j < 2 ^ 62) ∧ R (Itr i (j - i).toNat) H1
theorem pi_range1 {a : Expr} {ta : TA} {p pos : Pos} (hg : Gl X "range") (hm : X.mg "range" = none) (ha : PA X [a] ta) (hs : starEach [a] X.env = [(false, eval a X.env)] := by rfl) : PI X tg (.Call (.Name "range" p) [a] [] pos) (iRng1 ta) := by
  intro pins s σ H R I h
  refine Call_ (ld_blt I hg hm boot_range (PyProof.Rows.callWith_type1 (thn (ha pos pins s σ H _ I h) fun us s1 ⟨vs, H1, I1, r1, q1⟩ => ?_) hs rfl))
  obtain ⟨j, e, q1, q2, q⟩ := q1
  subst e
  cases r1 with
  | cons r rr =>
    cases rr
    obtain ⟨t, rfl⟩ := r
    exact call_range_1 (range_it I1 (by omega) (by omega) q1 q2 (by simpa using q))
theorem pi_range2 {a b : Expr} {ta : TA} {p pos : Pos} (hg : Gl X "range") (hm : X.mg "range" = none) (ha : PA X [a, b] ta) (hs : starEach [a, b] X.env = [(false, eval a X.env), (false, eval b X.env)] := by rfl) (hs2 : starEach [b] X.env = [(false, eval b X.env)] := by rfl) :
    PI X tg (.Call (.Name "range" p) [a, b] [] pos) (iRng2 ta) := by
  intro pins s σ H R I h
  refine Call_ (ld_blt I hg hm boot_range (PyProof.Rows.callWith_type1 (thn (ha pos pins s σ H _ I h) fun us s1 ⟨vs, H1, I1, r1, q1⟩ => ?_) (by rw [hs, hs2]) (by rw [hs2]; rfl)))
  obtain ⟨i, j, e, ⟨q1, q2, q3, q4⟩, q⟩ := q1
  subst e
  cases r1 with
  | cons r rr =>
    cases rr with
    | cons r' rr =>
      cases rr
      obtain ⟨t, rfl⟩ := r
      obtain ⟨t', rfl⟩ := r'
      exact call_range_2 (range_it I1 q1 q2 q3 q4 q)
def tFor (wi : TI) (g : TG) (tb : TS) : TS := fun D σ H => wi σ H fun J H1 => ∃ W : Nat → Nat → St → Hp → Prop, (∃ m, W 0 m σ H1) ∧ ∀ i m σ H, W i m σ H →
  (J.stop i H ∧ D.nx σ H) ∨ (J.go i H ∧ ∃ N : St → Hp → Prop, (∀ σ' H', N σ' H' → ∃ m', m' < m ∧ W (i + 1) m' σ' H') ∧ ∀ x H', J.yld i H x H' → g x σ H' fun σ2 H2 => tb { D with nx := N, ct := N, bk := D.nx } σ2 H2)
def pinsAt (fp : List Addr) (h : Heap) : List (Addr × Obj) := fp.filterMap fun b => (h.get? b).map fun o => (b, o)
theorem mem_pinsAt {fp : List Addr} {h : Heap} {b : Addr} {o : Obj} (hb : b ∈ fp) (e : h.get? b = some o) : (b, o) ∈ pinsAt fp h := List.mem_filterMap.mpr ⟨b, hb, by rw [e]; rfl⟩
theorem of_pinsAt {fp : List Addr} {h : Heap} {p : Addr × Obj} (hp : p ∈ pinsAt fp h) : p.1 ∈ fp ∧ h.get? p.1 = some p.2 := by
  obtain ⟨b, hb, e⟩ := List.mem_filterMap.mp hp
  cases q : h.get? b with
  | none => rw [q] at e; cases e
  | some o =>
    rw [q] at e
    have e' : (b, o) = p := Option.some.inj e
    subst e'
    exact ⟨hb, q⟩
theorem Inv.pinned {pins : List (Addr × Obj)} {σ : St} {H : Hp} {s : Shared} {fp : List Addr} (I : Inv X pins σ H s) (hf : ∀ b ∈ fp, FpOk X pins H b) (ho : ∀ b ∈ fp, ∃ o, s.heap.get? b = some o ∧ ∀ v, o.data ≠ .cell v) : Inv X (pins ++ pinsAt fp s.heap) σ H s :=
  I.pins_of fun p hp => (List.mem_append.mp hp).elim (fun z => I.pin p (List.mem_append_right _ z)) fun z => by
    obtain ⟨hb, e⟩ := of_pinsAt z
    obtain ⟨f0, f1, f2, _⟩ := hf p.1 hb
    obtain ⟨o, e', d⟩ := ho p.1 hb
    rw [e] at e'; cases e'
    exact ⟨e, f0, f1, f2, d⟩
theorem Inv.unpinned {pins pl : List (Addr × Obj)} {σ : St} {H : Hp} {s : Shared} (I : Inv X (pins ++ pl) σ H s) : Inv X pins σ H s := I.pins_of fun p hp => I.pin p (List.mem_append_right _ (List.mem_append_left _ hp))
theorem ps_for {iter : Expr} {body : List Stmt} {wi : TI} {g : TG} {tb : TS} {pos : Pos} (hp : PassesOwn (model X.prog X.w) X.A X.env X.xe) (hc : X.calm = true) (hi : PI X tg iter wi) (hg : PG X tg g) (hb : PSs X body tb)
    (hs : ∀ x, foldedSetIterable iter X.env x = pure x := by intro _; rfl) : PS X (.For tg iter body [] pos) (tFor wi g tb) := by
  intro pins s σ H D I h
  refine wpAny_For (thn (hi pins s σ H _ I h) fun v s1 h1 => thn h1 fun itv s2 h2 => ?_) hs
  obtain ⟨it, fp, tn, J, H2, e, I2, T, st2, f2, W, ⟨m0, w0⟩, turn⟩ := h2
  subst e
  -- what stays true of the iterator's objects through the loop
  have stat : ∀ {H' : Hp}, (∀ b ∈ fp, H' b = none) → ∀ b ∈ fp, FpOk X pins H' b := fun hn b hb => ⟨hn b hb, (f2 b hb).2⟩
  refine codeAny_forLoop_any (fun n s' => ∃ i σ' H', Inv X pins σ' H' s' ∧ tn i s'.heap ∧ (∀ b ∈ fp, H' b = none) ∧ W i n σ' H') ?_ m0 ⟨0, σ, H2, I2, st2, fun b hb => (f2 b hb).1, w0⟩
  rintro n s3 ⟨i, σ3, H3, I3, st3, fr3, w3⟩
  rcases turn i n σ3 H3 w3 with ⟨stop, qn⟩ | ⟨go, N, hN, step⟩
  · refine wpAny_passesOwn hp (thn (T.done X rfl rfl rfl hc i pins s3 σ3 H3 X.xe I3 (stat fr3) st3 stop) fun r s4 ⟨hr, I4⟩ => ?_)
    subst hr
    exact wpAny_execs_nil ⟨σ3, H3, I4, qn⟩
  · refine wpAny_passesOwn hp (thn (T.item X rfl rfl rfl hc i pins s3 σ3 H3 X.xe I3 (stat fr3) st3 go) fun r s4 ⟨u, hr, h4⟩ => ?_)
    subst hr
    refine wpAny_passesOwn hp (thn h4 fun _ s5 ⟨x, H5, I5, r5, y5, st5, fr5⟩ => ?_)
    have I5' := I5.pinned (stat fr5) (T.obj _ _ st5)
    refine wpAny_passesOwn hp (thn (hg _ s5 σ3 H5 x u _ I5' r5 (step x H5 y5)) fun _ s6 ⟨σ6, H6, I6, q6⟩ => ?_)
    refine wpAny_passesOwn hp (thn (hb _ s6 σ6 H6 _ I6 q6) fun f s7 q7 => ?_)
    have again : ∀ {σ7 : St} {H7 : Hp}, Inv X (pins ++ pinsAt fp s5.heap) σ7 H7 s7 → N σ7 H7 → ∃ m, m < n ∧ ∃ i σ' H', Inv X pins σ' H' s7 ∧ tn i s7.heap ∧ (∀ b ∈ fp, H' b = none) ∧ W i m σ' H' := fun {σ7 H7} I7 n7 => by
      obtain ⟨m', hm, w7⟩ := hN σ7 H7 n7
      refine ⟨m', hm, i + 1, σ7, H7, I7.unpinned, T.keep _ _ _ st5 fun b hb o e => (I7.pin (b, o) (List.mem_append_right _ (List.mem_append_right _ (mem_pinsAt hb e)))).1, fun b hb => ?_, w7⟩
      obtain ⟨o, e, d⟩ := T.obj _ _ st5 b hb
      exact (I7.pin (b, o) (List.mem_append_right _ (List.mem_append_right _ (mem_pinsAt hb e)))).2.1
    cases f with
    | next => obtain ⟨σ7, H7, I7, n7⟩ := q7; exact again I7 n7
    | cont => obtain ⟨σ7, H7, I7, n7⟩ := q7; exact again I7 n7
    | brk => obtain ⟨σ7, H7, I7, q7⟩ := q7; exact ⟨σ7, H7, I7.unpinned, q7⟩
    | ret v => obtain ⟨x7, σ7, H7, I7, r7, q7⟩ := q7; exact ⟨x7, σ7, H7, I7.unpinned, r7, q7⟩
end
theorem for_list {K : PySem.W.Frag} {a : Addr} {xs : List V} {g : TG} {tb : TS} {D : Ends} {σ : St} {H : Hp} (Pv : Nat → St → Hp → Prop) (h0 : Pv 0 σ H) (hl : ∀ i σ H, i ≤ xs.length → Pv i σ H → SqL K H a xs)
    (hs : ∀ i x σ H, xs[i]? = some x → Pv i σ H → g x σ H fun σ2 H2 => tb { D with nx := Pv (i + 1), ct := Pv (i + 1), bk := D.nx } σ2 H2) (hd : ∀ σ H, Pv xs.length σ H → D.nx σ H) :
    ∃ W : Nat → Nat → St → Hp → Prop, (∃ m, W 0 m σ H) ∧ ∀ i m σ H, W i m σ H →
      ((Itl K a).stop i H ∧ D.nx σ H) ∨ ((Itl K a).go i H ∧ ∃ N : St → Hp → Prop, (∀ σ' H', N σ' H' → ∃ m', m' < m ∧ W (i + 1) m' σ' H') ∧ ∀ x H', (Itl K a).yld i H x H' → g x σ H' fun σ2 H2 => tb { D with nx := N, ct := N, bk := D.nx } σ2 H2) := by
  refine ⟨fun i m σ H => m = xs.length - i ∧ i ≤ xs.length ∧ Pv i σ H, ⟨xs.length, by simp, Nat.zero_le _, h0⟩, ?_⟩
  rintro i m σ H ⟨rfl, hi, p⟩
  have q := hl i σ H hi p
  by_cases hlt : i < xs.length
  · refine .inr ⟨⟨xs, xs[i], q, by simp [hlt]⟩, Pv (i + 1), fun σ' H' p' => ⟨xs.length - (i + 1), by omega, rfl, hlt, p'⟩, fun x H' y => ?_⟩
    obtain ⟨e, y⟩ := y
    subst e
    exact hs i x σ _ (y xs q) p
  · have e : i = xs.length := by omega
    subst e
    exact .inl ⟨⟨xs, q, Nat.le_refl _⟩, hd σ H p⟩
theorem for_tup {K : PySem.W.Frag} {a : Addr} {xs : List V} {g : TG} {tb : TS} {D : Ends} {σ : St} {H : Hp} (Pv : Nat → St → Hp → Prop) (h0 : Pv 0 σ H) (hl : ∀ i σ H, i ≤ xs.length → Pv i σ H → SqT K H a xs)
    (hs : ∀ i x σ H, xs[i]? = some x → Pv i σ H → g x σ H fun σ2 H2 => tb { D with nx := Pv (i + 1), ct := Pv (i + 1), bk := D.nx } σ2 H2) (hd : ∀ σ H, Pv xs.length σ H → D.nx σ H) :
    ∃ W : Nat → Nat → St → Hp → Prop, (∃ m, W 0 m σ H) ∧ ∀ i m σ H, W i m σ H →
      ((Itt K a).stop i H ∧ D.nx σ H) ∨ ((Itt K a).go i H ∧ ∃ N : St → Hp → Prop, (∀ σ' H', N σ' H' → ∃ m', m' < m ∧ W (i + 1) m' σ' H') ∧ ∀ x H', (Itt K a).yld i H x H' → g x σ H' fun σ2 H2 => tb { D with nx := N, ct := N, bk := D.nx } σ2 H2) := by
  refine ⟨fun i m σ H => m = xs.length - i ∧ i ≤ xs.length ∧ Pv i σ H, ⟨xs.length, by simp, Nat.zero_le _, h0⟩, ?_⟩
  rintro i m σ H ⟨rfl, hi, p⟩
  have q := hl i σ H hi p
  by_cases hlt : i < xs.length
  · refine .inr ⟨⟨xs, xs[i], q, by simp [hlt]⟩, Pv (i + 1), fun σ' H' p' => ⟨xs.length - (i + 1), by omega, rfl, hlt, p'⟩, fun x H' y => ?_⟩
    obtain ⟨e, y⟩ := y
    subst e
    exact hs i x σ _ (y xs q) p
  · have e : i = xs.length := by omega
    subst e
    exact .inl ⟨⟨xs, q, Nat.le_refl _⟩, hd σ H p⟩
theorem for_range {lo : Int} {n : Nat} {g : TG} {tb : TS} {D : Ends} {σ : St} {H : Hp} (Pv : Nat → St → Hp → Prop) (h0 : Pv 0 σ H)
    (hs : ∀ i σ H, i < n → Pv i σ H → g (.int (lo + i)) σ H fun σ2 H2 => tb { D with nx := Pv (i + 1), ct := Pv (i + 1), bk := D.nx } σ2 H2) (hd : ∀ σ H, Pv n σ H → D.nx σ H) :
    ∃ W : Nat → Nat → St → Hp → Prop, (∃ m, W 0 m σ H) ∧ ∀ i m σ H, W i m σ H →
      ((Itr lo n).stop i H ∧ D.nx σ H) ∨ ((Itr lo n).go i H ∧ ∃ N : St → Hp → Prop, (∀ σ' H', N σ' H' → ∃ m', m' < m ∧ W (i + 1) m' σ' H') ∧ ∀ x H', (Itr lo n).yld i H x H' → g x σ H' fun σ2 H2 => tb { D with nx := N, ct := N, bk := D.nx } σ2 H2) := by
  refine ⟨fun i m σ H => m = n - i ∧ i ≤ n ∧ Pv i σ H, ⟨n, by simp, Nat.zero_le _, h0⟩, ?_⟩
  rintro i m σ H ⟨rfl, hi, p⟩
  by_cases hlt : i < n
  · refine .inr ⟨hlt, Pv (i + 1), fun σ' H' p' => ⟨n - (i + 1), by omega, rfl, hlt, p'⟩, fun x H' y => ?_⟩
    obtain ⟨e, y⟩ := y
    subst e y
    exact hs i σ _ hlt p
  · have e : i = n := by omega
    subst e
    exact .inl ⟨Nat.le_refl _, hd σ H p⟩
end L2
namespace L2
open PySem PySem.Spec PyProof.Rows
abbrev R2 := V → V → Hp → VK → Prop
def OpR (X : Cx) (f : Value → Value → Sem Value) (r : R2) : Prop :=
  ∀ (pins : List (Addr × Obj)) (s : Shared) (σ : St) (H : Hp) (x y : V) (v u : Value) (Q : VK), Inv X pins σ H s → RelV x v → RelV y u → r x y H Q →
    wpAny (model X.prog X.w) X.A (f v u) (EP X pins σ Q) X.xe s
def UnR (X : Cx) (f : Value → Sem Value) (r : V → Hp → VK → Prop) : Prop :=
  ∀ (pins : List (Addr × Obj)) (s : Shared) (σ : St) (H : Hp) (x : V) (v : Value) (Q : VK), Inv X pins σ H s → RelV x v → r x H Q →
    wpAny (model X.prog X.w) X.A (f v) (EP X pins σ Q) X.xe s
def CallR (X : Cx) (f : Value) (r : List V → Hp → VK → Prop) : Prop :=
  ∀ (pins : List (Addr × Obj)) (s : Shared) (σ : St) (H : Hp) (xs : List V) (us : List Value) (Q : VK), Inv X pins σ H s → Vals xs us → r xs H Q →
    wpAny (model X.prog X.w) X.A (call f us) (EP X pins σ Q) X.xe s
def TruR (X : Cx) (r : V → Hp → (Bool → Hp → Prop) → Prop) : Prop :=
  ∀ (pins : List (Addr × Obj)) (s : Shared) (σ : St) (H : Hp) (x : V) (v : Value) (Q : Bool → Hp → Prop), Inv X pins σ H s → RelV x v → r x H Q →
    wpAny (model X.prog X.w) X.A (truthy v) (TP X pins σ Q) X.xe s
def tOp (r : R2) (ta tb : TE) : TE := fun σ H Q => ta σ H fun x H1 => tb σ H1 fun y H2 => r x y H2 Q
def tUn (r : V → Hp → VK → Prop) (ta : TE) : TE := fun σ H Q => ta σ H fun x H1 => r x H1 Q
def rI (C : Int → Int → Prop) (g : Int → Int → V) : R2 := fun x y H Q => ∃ i j, x = .int i ∧ y = .int j ∧ C i j ∧ Q (g i j) H
def rI0 (g : Int → Int → V) : R2 := fun x y H Q => ∃ i j, x = .int i ∧ y = .int j ∧ Q (g i j) H
def rU (g : Int → V) : V → Hp → VK → Prop := fun x H Q => ∃ i, x = .int i ∧ Q (g i) H
section
variable {X : Cx} {a b c : Expr} {ta tb tc : TE} {pos : Pos}
theorem binT (ha : PE X a ta) (hb : PE X b tb) {pins : List (Addr × Obj)} {s : Shared} {σ : St} {H : Hp} {R : V → V → Hp → Prop} (I : Inv X pins σ H s)
    (h : ta σ H fun x H1 => tb σ H1 fun y H2 => R x y H2) {Q : Value → Shared → Prop} {f : Value → Value → Sem Value}
    (hf : ∀ v u s2 x y H2, Inv X pins σ H2 s2 → RelV x v → RelV y u → R x y H2 → wpAny (model X.prog X.w) X.A (f v u) Q X.xe s2) :
    wpAny (model X.prog X.w) X.A (eval a X.env) (fun v s₁ => wpAny (model X.prog X.w) X.A (eval b X.env) (fun u s₂ => wpAny (model X.prog X.w) X.A (f v u) Q X.xe s₂) X.xe s₁) X.xe s := by
  refine thn (ha pins s σ H _ I h) fun v s1 ⟨x, H1, I1, r1, q1⟩ => ?_
  refine thn (hb pins s1 σ H1 _ I1 q1) fun u s2 ⟨y, H2, I2, r2, q2⟩ => ?_
  exact hf v u s2 x y H2 I2 r1 r2 q2
theorem pe_op {op : Operator} {r : R2} (ho : OpR X (binaryOp op) r) (ha : PE X a ta) (hb : PE X b tb) : PE X (.BinOp a op b pos) (tOp r ta tb) := by
  intro pins s σ H Q I h
  exact wpAny_BinOp (binT ha hb I h fun v u s2 x y H2 I2 rx ry q => ho pins s2 σ H2 x y v u Q I2 rx ry q)
theorem pe_un {op : UnaryOp} {r : V → Hp → VK → Prop} (ho : UnR X (unaryOp op) r) (ha : PE X a ta) : PE X (.UnaryOp op a pos) (tUn r ta) := by
  intro pins s σ H Q I h
  exact UnaryOp_ (thn (ha pins s σ H _ I h) fun v s1 ⟨x, H1, I1, r1, q1⟩ => ho pins s1 σ H1 x v Q I1 r1 q1)
theorem opI {f : Value → Value → Sem Value} {C : Int → Int → Prop} {g : Int → Int → Int}
    (rule : ∀ (i j : Int) (t u : Tok) (s : Shared) (Q : Value → Shared → Prop) (E : Value → Shared → Prop), C i j → Q (.int (g i j) s.toks) { s with toks := s.toks + 1 } → wpAny (model X.prog X.w) X.A (f (.int i t) (.int j u)) Q E s) :
    OpR X f (rI C fun i j => .int (g i j)) := by
  intro pins s σ H x y v u Q I rx ry h
  obtain ⟨i, j, rfl, rfl, hc, q⟩ := h
  obtain ⟨t, rfl⟩ := rx
  obtain ⟨t', rfl⟩ := ry
  exact rule i j t t' s _ _ hc ⟨.int (g i j), H, I.tok _, ⟨_, rfl⟩, q⟩
theorem opI0 {f : Value → Value → Sem Value} {g : Int → Int → Int}
    (rule : ∀ (i j : Int) (t u : Tok) (s : Shared) (Q : Value → Shared → Prop) (E : Value → Shared → Prop), Q (.int (g i j) s.toks) { s with toks := s.toks + 1 } → wpAny (model X.prog X.w) X.A (f (.int i t) (.int j u)) Q E s) :
    OpR X f (rI0 fun i j => .int (g i j)) := by
  intro pins s σ H x y v u Q I rx ry h
  obtain ⟨i, j, rfl, rfl, q⟩ := h
  obtain ⟨t, rfl⟩ := rx
  obtain ⟨t', rfl⟩ := ry
  exact rule i j t t' s _ _ ⟨.int (g i j), H, I.tok _, ⟨_, rfl⟩, q⟩
theorem opB0 {f : Value → Value → Sem Value} {g : Int → Int → Bool}
    (rule : ∀ (i j : Int) (t u : Tok) (s : Shared) (Q : Value → Shared → Prop) (E : Value → Shared → Prop), Q (.bool (g i j)) s → wpAny (model X.prog X.w) X.A (f (.int i t) (.int j u)) Q E s) :
    OpR X f (rI0 fun i j => .bl (g i j)) := by
  intro pins s σ H x y v u Q I rx ry h
  obtain ⟨i, j, rfl, rfl, q⟩ := h
  obtain ⟨t, rfl⟩ := rx
  obtain ⟨t', rfl⟩ := ry
  exact rule i j t t' s _ _ ⟨.bl (g i j), H, I, rfl, q⟩
def CDiv (i j : Int) : Prop := 0 < j ∧ j < 1073741824
def CPow (i j : Int) : Prop := 0 ≤ j ∧ j ≤ 1000000 ∧ i.natAbs < 2 ^ 64
def CMul (i j : Int) : Prop := (-(2 ^ 64) < i ∧ i < 2 ^ 64) ∨ (-(2 ^ 64) < j ∧ j < 2 ^ 64)
theorem CMul.ok {i j : Int} (h : CMul i j) : IntMulOk i j := by
  rcases h with ⟨h1, h2⟩ | ⟨h1, h2⟩
  · exact .of_left (intBits_le_64 h1 h2)
  · exact .of_right (intBits_le_64 h1 h2)
theorem op_add : OpR X (binaryOp .Add) (rI0 fun i j => .int (i + j)) := opI0 fun _ _ _ _ _ _ _ q => add_int q
theorem op_sub : OpR X (binaryOp .Sub) (rI0 fun i j => .int (i - j)) := opI0 fun _ _ _ _ _ _ _ q => sub_int q
theorem op_mul : OpR X (binaryOp .Mult) (rI CMul fun i j => .int (i * j)) := opI fun _ _ _ _ _ _ _ hc q => mul_int q hc.ok
theorem op_fdiv : OpR X (binaryOp .FloorDiv) (rI CDiv fun i j => .int (i / j)) := opI fun i j _ _ _ _ _ hc q => by
  have h1 : (0 : Int) < j := hc.1
  have h2 : j < 1073741824 := hc.2
  exact floordiv_int (by omega) (by rw [Int.fdiv_eq_ediv_of_nonneg i (by omega)]; exact q) (.inl (PyProof.noPylong_small (by omega)))
theorem op_mod : OpR X (binaryOp .Mod) (rI (fun _ j => 0 < j) fun i j => .int (i % j)) := opI fun i j _ _ _ _ _ hc q => by
  have h1 : (0 : Int) < j := hc
  exact mod_int' (by omega) (by rw [Int.fmod_eq_emod_of_nonneg i (by omega)]; exact q)
theorem op_pow : OpR X (binaryOp .Pow) (rI CPow fun i j => .int (i ^ j.toNat)) := opI fun _ _ _ _ _ _ _ hc q => pow_int_small hc.1 hc.2.1 hc.2.2 q
theorem unI {f : Value → Sem Value} {g : Int → Int}
    (rule : ∀ (i : Int) (t : Tok) (s : Shared) (Q : Value → Shared → Prop) (E : Value → Shared → Prop), Q (.int (g i) s.toks) { s with toks := s.toks + 1 } → wpAny (model X.prog X.w) X.A (f (.int i t)) Q E s) :
    UnR X f (rU fun i => .int (g i)) := by
  intro pins s σ H x v Q I rx h
  obtain ⟨i, rfl, q⟩ := h
  obtain ⟨t, rfl⟩ := rx
  exact rule i t s _ _ ⟨.int (g i), H, I.tok _, ⟨_, rfl⟩, q⟩
theorem un_neg : UnR X (unaryOp .USub) (rU fun i => .int (-i)) := unI fun _ _ _ _ _ q => neg_int q
end
def scal : V → V → Bool
  | .non, .non => true | .non, .int _ => true | .int _, .non => true | .non, .bl _ => true | .bl _, .non => true | .non, .str _ => true | .str _, .non => true
  | .int _, .int _ => true | .bl _, .bl _ => true | .str _, .str _ => true | .byt _, .byt _ => true
  | .int _, .str _ => true | .str _, .int _ => true | .bl _, .str _ => true | .str _, .bl _ => true
  | _, _ => false
def rEq : R2 := fun x y H Q => scal x y = true ∧ Q (.bl (decide (x = y))) H
def rNe : R2 := fun x y H Q => scal x y = true ∧ Q (.bl (!decide (x = y))) H
theorem dec_int {i j : Int} : decide (V.int i = V.int j) = (i == j) := by
  rw [Bool.eq_iff_iff]
  simp
theorem dec_bl {i j : Bool} : decide (V.bl i = V.bl j) = (i == j) := by
  rw [Bool.eq_iff_iff]
  simp
theorem dec_str {i j : Str} : decide (V.str i = V.str j) = (i == j) := by
  rw [Bool.eq_iff_iff]
  simp
theorem dec_byt {i j : Array UInt8} : decide (V.byt i = V.byt j) = (i.toList == j.toList) := by
  rw [Bool.eq_iff_iff]
  cases i
  cases j
  simp
section
variable {X : Cx} {a b c : Expr} {ta tb tc : TE} {pos : Pos}
theorem fin_bl {pins : List (Addr × Obj)} {σ : St} {H : Hp} {s : Shared} {Q : VK} {k k' : Bool} (I : Inv X pins σ H s) (q : Q (.bl k) H) (e : k = k') : EP X pins σ Q (.bool k') s := by
  subst e
  exact ⟨.bl k, H, I, rfl, q⟩
theorem op_eq : OpR X (compareOp .Eq) rEq := by
  intro pins s σ H x y v u Q I rx ry h
  obtain ⟨hs, q⟩ := h
  cases x with
  | non =>
    cases rx
    cases y with
    | non => cases ry; exact PySem.EqNone.eq_none_none (fin_bl I q (by simp))
    | bl j => cases ry; exact PySem.EqNone.eq_none_bool (fin_bl I q (by simp))
    | int j => obtain ⟨t', rfl⟩ := ry; exact PySem.EqNone.eq_none_int (fin_bl I q (by simp))
    | str j => obtain ⟨t', rfl⟩ := ry; exact PySem.EqNone.eq_none_str (fin_bl I q (by simp))
    | _ => exact absurd (show false = true from hs) Bool.false_ne_true
  | bl i =>
    cases rx
    cases y with
    | non => cases ry; exact PySem.EqNone.eq_bool_none (fin_bl I q (by simp))
    | bl j => cases ry; exact eq_bool (fin_bl I q dec_bl)
    | str j => obtain ⟨t', rfl⟩ := ry; exact PySem.EqMixed.eq_bool_str (fin_bl I q (by simp))
    | _ => exact absurd (show false = true from hs) Bool.false_ne_true
  | int i =>
    obtain ⟨t, rfl⟩ := rx
    cases y with
    | non => cases ry; exact PySem.EqNone.eq_int_none (fin_bl I q (by simp))
    | int j => obtain ⟨t', rfl⟩ := ry; exact eq_int (fin_bl I q dec_int)
    | str j => obtain ⟨t', rfl⟩ := ry; exact PySem.EqMixed.eq_int_str (fin_bl I q (by simp))
    | _ => exact absurd (show false = true from hs) Bool.false_ne_true
  | str i =>
    obtain ⟨t, rfl⟩ := rx
    cases y with
    | non => cases ry; exact PySem.EqNone.eq_str_none (fin_bl I q (by simp))
    | bl j => cases ry; exact PySem.EqMixed.eq_str_bool (fin_bl I q (by simp))
    | int j => obtain ⟨t', rfl⟩ := ry; exact PySem.EqMixed.eq_str_int (fin_bl I q (by simp))
    | str j => obtain ⟨t', rfl⟩ := ry; exact eq_str (fin_bl I q dec_str)
    | _ => exact absurd (show false = true from hs) Bool.false_ne_true
  | byt i =>
    obtain ⟨t, rfl⟩ := rx
    cases y with
    | byt j => obtain ⟨t', rfl⟩ := ry; exact PySem.W.eq_bytes (fin_bl I q dec_byt)
    | _ => exact absurd (show false = true from hs) Bool.false_ne_true
  | _ => cases y <;> exact absurd (show false = true from hs) Bool.false_ne_true
theorem op_ne : OpR X (compareOp .NotEq) rNe := by
  intro pins s σ H x y v u Q I rx ry h
  obtain ⟨hs, q⟩ := h
  cases x with
  | non =>
    cases rx
    cases y with
    | non => cases ry; exact PySem.EqNone.ne_none_none (fin_bl I q (by simp))
    | bl j => cases ry; exact PySem.EqNone.ne_none_bool (fin_bl I q (by simp))
    | int j => obtain ⟨t', rfl⟩ := ry; exact PySem.EqNone.ne_none_int (fin_bl I q (by simp))
    | str j => obtain ⟨t', rfl⟩ := ry; exact PySem.EqNone.ne_none_str (fin_bl I q (by simp))
    | _ => exact absurd (show false = true from hs) Bool.false_ne_true
  | bl i =>
    cases rx
    cases y with
    | non => cases ry; exact PySem.EqNone.ne_bool_none (fin_bl I q (by simp))
    | bl j => cases ry; exact ne_bool (fin_bl I q (congrArg not dec_bl))
    | str j => obtain ⟨t', rfl⟩ := ry; exact PySem.EqMixed.ne_bool_str (fin_bl I q (by simp))
    | _ => exact absurd (show false = true from hs) Bool.false_ne_true
  | int i =>
    obtain ⟨t, rfl⟩ := rx
    cases y with
    | non => cases ry; exact PySem.EqNone.ne_int_none (fin_bl I q (by simp))
    | int j => obtain ⟨t', rfl⟩ := ry; exact ne_int (fin_bl I q (congrArg not dec_int))
    | str j => obtain ⟨t', rfl⟩ := ry; exact PySem.EqMixed.ne_int_str (fin_bl I q (by simp))
    | _ => exact absurd (show false = true from hs) Bool.false_ne_true
  | str i =>
    obtain ⟨t, rfl⟩ := rx
    cases y with
    | non => cases ry; exact PySem.EqNone.ne_str_none (fin_bl I q (by simp))
    | bl j => cases ry; exact PySem.EqMixed.ne_str_bool (fin_bl I q (by simp))
    | int j => obtain ⟨t', rfl⟩ := ry; exact PySem.EqMixed.ne_str_int (fin_bl I q (by simp))
    | str j => obtain ⟨t', rfl⟩ := ry; exact ne_str (fin_bl I q (congrArg not dec_str))
    | _ => exact absurd (show false = true from hs) Bool.false_ne_true
  | byt i =>
    obtain ⟨t, rfl⟩ := rx
    cases y with
    | byt j => obtain ⟨t', rfl⟩ := ry; exact PySem.W.ne_bytes (fin_bl I q (congrArg not dec_byt))
    | _ => exact absurd (show false = true from hs) Bool.false_ne_true
  | _ => cases y <;> exact absurd (show false = true from hs) Bool.false_ne_true
theorem op_lt : OpR X (compareOp .Lt) (rI0 fun i j => .bl (decide (i < j))) := opB0 fun _ _ _ _ _ _ _ q => lt_int q
theorem op_gt : OpR X (compareOp .Gt) (rI0 fun i j => .bl (decide (j < i))) := opB0 fun _ _ _ _ _ _ _ q => gt_int q
theorem op_ge : OpR X (compareOp .GtE) (rI0 fun i j => .bl (decide (j ≤ i))) := opB0 fun _ _ _ _ _ _ _ q => ge_int q
theorem op_isN : OpR X (compareOp .Is) (fun x y H Q => y = .non ∧ Q (.bl (decide (x = .non))) H) := by
  intro pins s σ H x y v u Q I rx ry h
  obtain ⟨rfl, q⟩ := h
  cases ry
  refine is_none_gen (fin_bl I q ?_)
  cases x <;> first
    | (cases rx; rfl)
    | (obtain ⟨t, rfl⟩ := rx; rfl)
theorem op_notN : OpR X (compareOp .IsNot) (fun x y H Q => y = .non ∧ Q (.bl (!decide (x = .non))) H) := by
  intro pins s σ H x y v u Q I rx ry h
  obtain ⟨rfl, q⟩ := h
  cases ry
  refine isnot_none_gen (fin_bl I q ?_)
  cases x <;> first
    | (cases rx; rfl)
    | (obtain ⟨t, rfl⟩ := rx; rfl)
theorem nomark (b : Expr) {op : CmpOp} (h : op ≠ .In := by decide) (h2 : op ≠ .NotIn := by decide) : behindInMarks op b = false := by
  have e1 : (op == CmpOp.In) = false := by cases op <;> first | rfl | exact absurd rfl h
  have e2 : (op == CmpOp.NotIn) = false := by cases op <;> first | rfl | exact absurd rfl h2
  cases b <;> simp [behindInMarks, e1, e2]
theorem pe_cmpR {op : CmpOp} {r : R2} (ho : OpR X (compareOp op) r) (ha : PE X a ta) (hb : PE X b tb) (hm : behindInMarks op b = false) : PE X (.Compare a [op] [b] pos) (tOp r ta tb) := by
  intro pins s σ H Q I h
  exact wpAny_Compare1 (binT ha hb I h fun v u s2 x y H2 I2 rx ry q => ho pins s2 σ H2 x y v u Q I2 rx ry q) hm
def tTest (t : TE) : TT := fun σ H Q => t σ H fun x H' => ∃ k, x = .bl k ∧ Q k H'
theorem pt_cmpR {op : CmpOp} {r : R2} (ho : OpR X (compareOp op) r) (ha : PE X a ta) (hb : PE X b tb) (hm : behindInMarks op b = false) : PT X (.Compare a [op] [b] pos) (tTest (tOp r ta tb)) := by
  intro pins s σ H Q I h
  refine wpAny_isTrue_Compare1 (thn (ha pins s σ H _ I h) fun v s1 ⟨x, H1, I1, r1, q1⟩ => thn (hb pins s1 σ H1 _ I1 q1) fun u s2 ⟨y, H2, I2, r2, q2⟩ =>
    thn (ho pins s2 σ H2 x y v u _ I2 r1 r2 q2) fun c s3 ⟨z, H3, I3, r3, k, e, q3⟩ => ?_) hm
  subst e
  cases r3
  exact wpAny_truthy_bool ⟨H3, I3, q3⟩
def tChain (r r' : R2) (ta tb tc : TE) : TE := fun σ H Q => ta σ H fun x H1 => tb σ H1 fun y H2 => r x y H2 fun z H3 => ∃ k, z = .bl k ∧
  (if k = true then tc σ H3 fun w' H4 => r' y w' H4 Q else Q (.bl false) H3)
theorem pt_chain {op op' : CmpOp} {r r' : R2} (ho : OpR X (compareOp op) r) (ho' : OpR X (compareOp op') r') (ha : PE X a ta) (hb : PE X b tb) (hc : PE X c tc)
    (hm : lastMarks [op, op'] [b, c] = false := by with_unfolding_all rfl) : PT X (.Compare a [op, op'] [b, c] pos) (tTest (tChain r r' ta tb tc)) := by
  intro pins s σ H Q I h
  refine isTrue_chain (thn (ha pins s σ H _ I h) fun v s1 ⟨x, H1, I1, r1, q1⟩ => test_link (thn (hb pins s1 σ H1 _ I1 q1) fun u s2 ⟨y, H2, I2, r2, q2⟩ =>
    thn (ho pins s2 σ H2 x y v u _ I2 r1 r2 q2) fun d s3 ⟨z, H3, I3, r3, k, e, q3⟩ => ?_)) hm
  subst e
  cases r3
  refine wpAny_truthy_bool ?_
  cases k with
  | false =>
    obtain ⟨k', e', q'⟩ := q3
    cases e'
    exact ite_ff ⟨H3, I3, q'⟩
  | true =>
    refine ite_tt (test_last (thn (hc pins s3 σ H3 _ I3 q3) fun w' s4 ⟨z', H4, I4, r4, q4⟩ => thn (ho' pins s4 σ H4 y z' u w' _ I4 r2 r4 q4) fun d' s5 ⟨z2, H5, I5, r5, k2, e2, q5⟩ => ?_))
    subst e2
    cases r5
    exact wpAny_truthy_bool ⟨H5, I5, q5⟩
def TruV (K : PySem.W.Frag) (x : V) (H : Hp) (k : Bool) : Prop :=
  match x with
  | .non => k = false
  | .bl b => k = b
  | .int i => k = (i != 0)
  | .str y => y.length ≤ sizeLine ∧ k = ((y.length : Int) != 0)
  | .byt y => y.size ≤ sizeLine ∧ k = ((y.size : Int) != 0)
  | .ref p => (∃ xs, SqL K H p xs ∧ k = !xs.isEmpty) ∨ (∃ xs, SqT K H p xs ∧ k = !xs.isEmpty) ∨ ∃ kvs, H p = some (.dK kvs) ∧ k = !kvs.isEmpty
  | _ => False
theorem isEmpty_kv {κ : Type} {kvs : List (κ × V)} {vs : List (κ × Value)} (r : KV kvs vs) : (!vs.isEmpty) = !kvs.isEmpty := by
  cases r <;> rfl
theorem isEmpty_of {xs : List V} {its : List Value} (r : Vals xs its) : (!its.toArray.isEmpty) = !xs.isEmpty := by
  cases r <;> simp
theorem line63 : (sizeLine : Nat) < 2 ^ 63 := by rw [sizeLine_eq]; decide
theorem tru_ok : TruR X (fun x H Q => ∃ k, TruV X.K x H k ∧ Q k H) := by
  intro pins s σ H x v Q I rx h
  obtain ⟨k, e, q⟩ := h
  have hl := line63
  have hs : sizeLine = 16777216 := sizeLine_eq
  cases x with
  | non =>
    cases rx
    have e' : k = false := e
    subst e'
    exact truthy_none ⟨H, I, q⟩
  | bl b =>
    cases rx
    have e' : k = b := e
    subst e'
    exact wpAny_truthy_bool ⟨H, I, q⟩
  | int i =>
    obtain ⟨t, rfl⟩ := rx
    have e' : k = (i != 0) := e
    subst e'
    exact PySem.P.truthy_int ⟨H, I, q⟩
  | str y =>
    obtain ⟨t, rfl⟩ := rx
    obtain ⟨hy, e'⟩ : y.length ≤ sizeLine ∧ k = ((y.length : Int) != 0) := e
    subst e'
    exact PySem.P.truthy_str (by omega) ⟨H, I.tok _, q⟩
  | byt y =>
    obtain ⟨t, rfl⟩ := rx
    obtain ⟨hy, e'⟩ : y.size ≤ sizeLine ∧ k = ((y.size : Int) != 0) := e
    subst e'
    exact PySem.W.truthy_bytes (by omega) ⟨H, I.tok _, q⟩
  | ref p =>
    cases rx
    have e' : (∃ xs, SqL X.K H p xs ∧ k = !xs.isEmpty) ∨ (∃ xs, SqT X.K H p xs ∧ k = !xs.isEmpty) ∨ ∃ kvs, H p = some (.dK kvs) ∧ k = !kvs.isEmpty := e
    rcases e' with ⟨xs, hx, e'⟩ | ⟨xs, hx, e'⟩ | ⟨kvs, hx, e'⟩
    · subst e'
      obtain ⟨its, r, pl, hz⟩ := I.list hx
      have hlen := r.length
      exact wpAny_truthy_list pl.isList (by simp only [List.size_toArray]; omega) ⟨H, I.tok _, by rw [isEmpty_of r]; exact q⟩
    · subst e'
      obtain ⟨its, r, pl, hz⟩ := I.tuple hx
      have hlen := r.length
      exact truthy_tuple pl (by simp only [List.size_toArray]; omega) ⟨H, I.tok _, by rw [isEmpty_of r]; exact q⟩
    · subst e'
      obtain ⟨hz, hS, vs, r, m⟩ : kvs.length ≤ sizeLine ∧ (p == sysModules) = false ∧ ∃ vs, KV kvs vs ∧ s.heap.DictOf (mixKind X.prog X.w) p vs := I.hok p _ hx
      have hlen : kvs.length = vs.length := Paired.length r
      exact wpAny_truthy_dict hS m (by omega) ⟨H, I.tok _, by rw [isEmpty_kv r]; exact q⟩
  | _ => exact (show False from e).elim
theorem op_add_str : OpR X (binaryOp .Add) (fun x y H Q => ∃ i j, x = .str i ∧ y = .str j ∧ i.length + j.length ≤ sizeLine ∧ Q (.str (i ++ j)) H) := by
  intro pins s σ H x y v u Q I rx ry h
  obtain ⟨i, j, rfl, rfl, hz, q⟩ := h
  obtain ⟨t, rfl⟩ := rx
  obtain ⟨t', rfl⟩ := ry
  exact add_str (fun t' tk => ⟨.str (i ++ j), H, I.tok _, ⟨_, rfl⟩, q⟩) hz
theorem vals1 {x : V} {us : List Value} (r : Vals [x] us) : ∃ u, us = [u] ∧ RelV x u := by
  cases r with
  | cons r1 r2 => cases r2; exact ⟨_, rfl, r1⟩
theorem vals2 {x y : V} {us : List Value} (r : Vals [x, y] us) : ∃ u w', us = [u, w'] ∧ RelV x u ∧ RelV y w' := by
  cases r with
  | cons r1 r2 =>
    cases r2 with
    | cons r3 r4 => cases r4; exact ⟨_, _, rfl, r1, r3⟩
theorem call_abs : CallR X (.builtin "abs") (fun xs H Q => ∃ i, xs = [.int i] ∧ Q (.int (if i < 0 then -i else i)) H) := by
  intro pins s σ H xs us Q I r h
  obtain ⟨i, rfl, q⟩ := h
  obtain ⟨u, rfl, t, rfl⟩ := vals1 r
  exact call_abs_int fun u tk => ⟨.int (if i < 0 then -i else i), H, I.tok _, ⟨_, rfl⟩, q⟩
theorem call_max2 (hc : X.calm = true) : CallR X (.builtin "max") (fun xs H Q => ∃ i j, xs = [.int i, .int j] ∧ Q (.int (if j > i then j else i)) H) := by
  intro pins s σ H xs us Q I r h
  obtain ⟨i, j, rfl, q⟩ := h
  obtain ⟨u, w', rfl, ⟨t, rfl⟩, ⟨t', rfl⟩⟩ := vals2 r
  refine max_two_ints (I.ok.hd hc) fun h' tk k => ⟨_, H, I.kept k, ?_, q⟩
  by_cases hj : j > i
  · rw [if_pos hj, if_pos hj]; exact ⟨_, rfl⟩
  · rw [if_neg hj, if_neg hj]; exact ⟨_, rfl⟩
theorem call_min2 (hc : X.calm = true) : CallR X (.builtin "min") (fun xs H Q => ∃ i j, xs = [.int i, .int j] ∧ Q (.int (if j < i then j else i)) H) := by
  intro pins s σ H xs us Q I r h
  obtain ⟨i, j, rfl, q⟩ := h
  obtain ⟨u, w', rfl, ⟨t, rfl⟩, ⟨t', rfl⟩⟩ := vals2 r
  refine min_two_ints (I.ok.hd hc) fun h' tk k => ⟨_, H, I.kept k, ?_, q⟩
  by_cases hj : j < i
  · rw [if_pos hj, if_pos hj]; exact ⟨_, rfl⟩
  · rw [if_neg hj, if_neg hj]; exact ⟨_, rfl⟩
end
end L2
namespace L2
open PySem PySem.Spec PyProof.Rows
structure ObjM (h : Heap) (x dx C : Addr) (mA : Str → Option Value) : Prop where
  obj : h.get? x = some (PySem.W.instObj C dx)
  ns : h.Ns1 dx mA
  ne : dx ≠ x
section
variable {prog : Program} {w : World} {A : Around} {E : Value → Shared → Prop} {s : Shared} {K : PySem.W.Frag} {x dx C f : Addr} {mA : Str → Option Value} {name : Str} {v : Value}
end
theorem RelO.some_of {v : V} {o : Option Value} (r : RelO (some v) o) : ∃ u, o = some u ∧ RelV v u := by
  cases o with
  | none => exact (show False from r).elim
  | some u => exact ⟨u, rfl, r⟩
section
variable {P : Program} {w : World} {H H' : Hp} {h h' : Heap} {a C dx : Addr} {fs fs' : List (Str × V)}
end
structure Cls (K : PySem.W.Frag) (C : Addr) : Prop where
  pg : PySem.W.plainGet K C Str.empty = true
  hd : PySem.W.hasDictIn K C = true
  po : PySem.W.plainOver K C = true
  sa : PySem.W.findIn K (.ref C) "__setattr__" = some (some (.builtin "object.__setattr__"))
structure Con (K : PySem.W.Frag) (C : Addr) (f : Str) (v : V) (u : Value) : Prop where
  at_ : PySem.W.findIn K (.ref C) f = some (some u)
  rel : RelV v u
  get : PySem.W.specialIn K u "__get__" = some none
  cp : PySem.W.copiedNames.contains f = false
structure Meth (K : PySem.W.Frag) (C : Addr) (m : Str) (f : Addr) : Prop where
  at_ : PySem.W.findIn K (.ref C) m = some (some (.ref f))
  fn : PySem.W.isFn K (.ref f) = true
  kp : PySem.W.keepIn K (.ref f) = true
section
variable {X : Cx} {pins : List (Addr × Obj)} {σ : St} {H : Hp} {s : Shared} {a C dx : Addr} {fs : List (Str × V)} {f : Str} {v : V} {A : Around} {E : Value → Shared → Prop}
end
section
variable {X : Cx} {o e value : Expr} {f : Str} {pos pos' tpos : Pos} {ta tv : TE}
end
section
variable {X : Cx} {pins : List (Addr × Obj)} {σ : St} {H : Hp} {s : Shared} {A : Around} {E : Value → Shared → Prop} {Q : Value → Shared → Prop} {c : Value} {b : Bool}
inductive TyOf (K : PySem.W.Frag) (H : Hp) : V → Value → Prop where
  | non : TyOf K H .non (.type "NoneType")
  | bl (x : Bool) : TyOf K H (.bl x) (.type "bool")
  | int (i : Int) : TyOf K H (.int i) (.type "int")
  | str (x : Str) : TyOf K H (.str x) (.type "str")
  | flt (x : UInt64) : TyOf K H (.flt x) (.type "float")
  | lst {a : Addr} {xs : List V} (e : H a = some (.lst xs)) : TyOf K H (.ref a) (.type "list")
  | frz {a : Addr} {o : Obj} {xs : List V} (e : H a = some (.frz o (.lst xs))) : TyOf K H (.ref a) (.type "list")
  | tup {a : Addr} {xs : List V} (e : H a = some (.tup xs)) : TyOf K H (.ref a) (.type "tuple")
  | dK {a : Addr} {kvs : List (Key × V)} (e : H a = some (.dK kvs)) : TyOf K H (.ref a) (.type "dict")
  | dT {a : Addr} {kvs : List (List Key × V)} (e : H a = some (.dT kvs)) : TyOf K H (.ref a) (.type "dict")
  | ins {a C dx : Addr} {fs : List (Str × V)} (e : H a = some (.ins C dx fs)) (cl : Cls K C) (ha : PySem.W.findIn K (.ref C) "__class__" = some (some (.builtin "object.__class__")))
      (hn : PySem.W.specialIn K (.builtin "object.__class__") "__get__" = some (some (.builtin "getset_descriptor.__get__"))) (htk : PySem.W.takesIn K (.builtin "object.__class__") = some true)
      (hm : PySem.W.mroIn K C (.type "object") = some true) : TyOf K H (.ref a) (.ref C)
end
end L2
namespace L2
open PySem PySem.Spec PyProof.Rows
structure Room (k : Nat) (A : Around) : Prop where
  hd : A.handled = none
  dp : A.depth + 3 * k + 5 < recursionLimit
  un : A.units + 16 * k + 200 < cLine
theorem Room.mono {j k : Nat} {A : Around} (r : Room k A) (h : j ≤ k) : Room j A := ⟨r.hd, by have := r.dp; omega, by have := r.un; omega⟩
theorem Room.deeper {k : Nat} {A : Around} (r : Room (k + 1) A) (env : Env) : Room k (A.deeper env) :=
  ⟨r.hd, by have := r.dp; show A.depth + 1 + 3 * k + 5 < _; omega, by have := r.un; show A.units + 3 + 16 * k + 200 < _; omega⟩
theorem Room.depth {k : Nat} {A : Around} (r : Room k A) : A.depth < recursionLimit := by have := r.dp; omega
theorem Room.units {k : Nat} {A : Around} (r : Room k A) : A.units + 64 < cLine := by have := r.un; omega
def tNil : TA := fun _ H Q => Q [] H
def tCons (ta : TE) (tr : TA) : TA := fun σ H Q => ta σ H fun x H1 => tr σ H1 fun xs H2 => Q (x :: xs) H2
section
variable {X : Cx} {e : Expr} {es : List Expr} {te : TE} {t : TA} {pos : Pos}
theorem pa_nil : PA X [] tNil := fun _ _ _ _ H Q I h => Calls.spliced_nil ⟨[], H, I, .nil, h⟩
theorem pa_cons (ha : PE X e te) (hr : PA X es t) (hs : starEach (e :: es) X.env = (false, eval e X.env) :: starEach es X.env := by rfl) : PA X (e :: es) (tCons te t) := by
  intro pos pins s σ H Q I h
  rw [hs]
  show wpAny _ _ (spliced ((false, eval e X.env) :: backTo pos (starEach es X.env))) _ _ s
  refine Calls.spliced_cons (thn (ha pins s σ H _ I h) fun u s1 ⟨x, H1, I1, r1, q1⟩ => ?_)
  exact thn (hr pos pins s1 σ H1 _ I1 q1) fun us s2 ⟨xs, H2, I2, r2, q2⟩ => ⟨x :: xs, H2, I2, .cons r1 r2, q2⟩
def tTup (t : TA) : TE := fun σ H Q => t σ H fun xs H1 => xs.length ≤ sizeLine ∧ ∀ p, H1 p = none → Q (.ref p) (upd H1 p (.tup xs))
def tLst (t : TA) : TE := fun σ H Q => t σ H fun xs H1 => xs.length ≤ sizeLine ∧ ∀ p, H1 p = none → Q (.ref p) (upd H1 p (.lst xs))
theorem pe_tup {x1} (h : PA X es t) : PE X (.Tuple es x1 pos) (tTup t) := by
  intro pins s σ H Q I hq
  refine wpAny_Tuple_spliced (thn (h pos pins s σ H _ I hq) fun us s1 ⟨xs, H1, I1, r, z, q⟩ => ⟨by rw [← r.length]; exact z, ?_⟩)
  have hf : H1 s1.heap.objs.size = none := I1.hok.fresh (Nat.le_refl _)
  refine ⟨.ref s1.heap.objs.size, upd H1 s1.heap.objs.size (.tup xs), I1.laid (t' := s1.toks) (fun b u e => Heap.get?_push_of_some _ e) (Nat.le_refl _) ?_, rfl, q _ hf⟩
  exact ⟨z, us, r, ⟨_, Heap.get?_push_size _ rfl, rfl, _, rfl⟩⟩
theorem pe_lst (h : PA X es t) : PE X (.List es pos) (tLst t) := by
  intro pins s σ H Q I hq
  refine wpAny_List_spliced (thn (h pos pins s σ H _ I hq) fun us s1 ⟨xs, H1, I1, r, z, q⟩ => ⟨by rw [← r.length]; exact z, ?_⟩)
  have hf : H1 s1.heap.objs.size = none := I1.hok.fresh (Nat.le_refl _)
  refine ⟨.ref s1.heap.objs.size, upd H1 s1.heap.objs.size (.lst xs), I1.laid (t' := s1.toks) (fun b u e => Heap.get?_push_of_some _ e) (Nat.le_refl _) ?_, rfl, q _ hf⟩
  exact ⟨z, us, 0, r, Heap.get?_push_size _ rfl⟩
end
abbrev Sp := List V → Hp → VK → XK → Prop
abbrev CXT := List Env → Hp → Shared → XK → Value → Shared → Prop
structure Env0 (P : Program) (w : World) (K : PySem.W.Frag) (mg : Str → Option Value) (base : Heap) (A : Around) (outer : List Env) (s : Shared) (H : Hp) : Prop where
  frames : A.frames = some outer
  mod : Mod K mg base
  bs : ∀ b o, base.get? b = some o → s.heap.get? b = some o ∧ H b = none
  bsz : base.objs.size ≤ s.heap.objs.size
  funs : s.heap.FunFrames base outer
  frf : ∀ b ∈ frs outer, H b = none
  hok : HOk P w H s.heap
  bare : AllBare s.gens
def CE (outer : List Env) (P : Program) (w : World) (H : Hp) (s : Shared) (Q : VK) (u : Value) (s' : Shared) : Prop :=
  ∃ v H', s'.os = s.os ∧ AllBare s'.gens ∧ Un (frs outer) [] H H' s.heap s'.heap ∧ HOk P w H' s'.heap ∧ RelV v u ∧ Q v H'
def CR (CX : CXT) (outer : List Env) (P : Program) (w : World) (H : Hp) (s : Shared) (Q : VK) (E : XK) (r : Result) (s' : Shared) : Prop :=
  match r with
  | .ok (.ret u) => CE outer P w H s Q u s'
  | .ok _ => False
  | .error e => CX outer H s E e s'
structure FnOk (P : Program) (w : World) (K : PySem.W.Frag) (mg : Str → Option Value) (base : Heap) (CX : CXT) (k : Nat) (f : Addr) (fd : FuncData) (ps : List Str) (sp : Sp) : Prop where
  len : ∀ vs H Q E, sp vs H Q E → vs.length = ps.length
  run : ∀ (A : Around) (outer : List Env) (s : Shared) (H : Hp) (args : Args) (us : List Value) (vs : List V) (Q : VK) (E : XK), Room k A → Env0 P w K mg base A outer s H → BindsTo s fd args (ps.zip us) → Vals vs us → sp vs H Q E →
    codeAny (model P w) A (.call (.ref f) args) (CR CX outer P w H s Q E) s
section
variable {X : Cx} {pins : List (Addr × Obj)} {σ : St} {H : Hp} {s s' : Shared}
theorem Inv.env0 (I : Inv X pins σ H s) : Env0 X.prog X.w X.K X.mg X.base X.A X.stack s H :=
  ⟨I.ok.frames, I.ok.mod, I.bs, Nat.le_trans I.ok.bsz I.sz, I.stack, I.stkFree, I.hok, I.bare⟩
theorem Inv.after {Q : VK} {u : Value} (I : Inv X pins σ H s) (h : CE X.stack X.prog X.w H s Q u s') : EP X pins σ Q u s' := by
  obtain ⟨v, H', os, bare, un, hok, r, q⟩ := h
  obtain ⟨hh, g, d, t, os'⟩ := s'
  obtain rfl : os' = s.os := os
  exact ⟨v, H', I.call (h' := hh) (g' := g) (d' := d) (t' := t) (ch := []) un hok bare (fun b z => absurd z (by simp)), r, q⟩
end
def tCall (sp : Sp) (dvs : List V) (E : XK) (t : TA) : TE := fun σ H Q => t σ H fun vs H1 => sp (vs ++ dvs) H1 Q E
def Binds (K : PySem.W.Frag) (fd : FuncData) (ps : List Str) (ds : List Value) : Prop :=
  ∀ (s : Shared) (us : List Value), K.In s.heap → (us ++ ds).length = ps.length → BindsTo s fd ⟨us, []⟩ (ps.zip (us ++ ds))
theorem Binds.all {K : PySem.W.Frag} {fd : FuncData} {ps : List Str} (h : ∀ us : List Value, us.length = ps.length → bindArgs fd ⟨us, []⟩ = pure (ps.zip us)) : Binds K fd ps [] := fun s us _ hl => by
  rw [List.append_nil] at hl ⊢
  exact .of_eq (h us hl)
def Passes (CX : CXT) (X : Cx) (E : XK) : Prop := ∀ (pins : List (Addr × Obj)) (σ : St) (H : Hp) (s : Shared) (e : Value) (s' : Shared), Inv X pins σ H s → CX X.stack H s E e s' → X.xe e s'
section
variable {X : Cx} {CX : CXT} {k : Nat} {f C : Addr} {fd : FuncData} {ps : List Str} {sp : Sp} {dvs : List V} {ds : List Value} {E : XK} {x m : Str} {p pos apos : Pos} {e o : Expr} {es : List Expr} {ta : TE} {t : TA}
theorem run_fn {pins : List (Addr × Obj)} {σ : St} {H : Hp} {s : Shared} {Q : VK} {us : List Value} {vs : List V} (F : FnOk X.prog X.w X.K X.mg X.base CX k f fd ps sp) (hr : Room k X.A) (hb : Binds X.K fd ps ds) (hd : Vals dvs ds) (hx : Passes CX X E)
    (I : Inv X pins σ H s) (r : Vals vs us) (h : sp (vs ++ dvs) H Q E) : wpAny (model X.prog X.w) X.A (call (.ref f) us) (EP X pins σ Q) X.xe s := by
  have r2 : Vals (vs ++ dvs) (us ++ ds) := r.append hd
  have hl : (us ++ ds).length = ps.length := by rw [← r2.length]; exact F.len _ _ _ _ h
  refine wpAny_call (codeAny_mono (F.run X.A X.stack s H ⟨us, []⟩ (us ++ ds) (vs ++ dvs) Q E hr I.env0 (hb s us I.kIn hl) r2 h) fun r s' hq => ?_)
  cases r with
  | error e => exact hx pins σ H s e s' I hq
  | ok fl =>
    cases fl with
    | ret u => exact I.after hq
    | next => exact False.elim hq
    | brk => exact False.elim hq
    | cont => exact False.elim hq
theorem pe_call (F : FnOk X.prog X.w X.K X.mg X.base CX k f fd ps sp) (hr : Room k X.A) (hg : Gl X x) (hm : X.mg x = some (.ref f)) (hk : PySem.W.keepIn X.K (.ref f) = true) (hb : Binds X.K fd ps ds) (hd : Vals dvs ds) (hx : Passes CX X E)
    (ha : PA X (e :: es) t) (hdb : (x == ("__debug__" : Str)) = false := by decide) (he : starEach (e :: es) X.env = (false, eval e X.env) :: starEach es X.env := by rfl) (hpl : (backTo pos (starEach es X.env)).any (·.1) = false := by rfl) :
    PE X (.Call (.Name x p) (e :: es) [] pos) (tCall sp dvs E t) := by
  intro pins s σ H Q I h
  refine wpAny_Call_Name_kw (ld_glob I hg hm ?_ hdb)
  refine PySem.W.callWith_K (h₀ := X.base) I.ok.mod.kin hk (thn (ha pos pins s σ H _ I h) fun us s1 ⟨vs, H1, I1, r, q⟩ => ⟨I1.kIn, ?_⟩) he hpl
  exact run_fn F hr hb hd hx I1 r q
structure Mk (K : PySem.W.Frag) (C f : Addr) : Prop where
  makes : PySem.W.makesIn K C = true
  init : PySem.W.findIn K (.ref C) "__init__" = some (some (.ref f))
  fn : PySem.W.isFn K (.ref f) = true
  kp : PySem.W.keepIn K (.ref C) = true
end
section
variable {X : Cx} {CX : CXT} {k : Nat} {f C : Addr} {fd : FuncData} {ps ks : List Str} {sp : Sp} {E : XK} {x m : Str} {p pos apos kpos : Pos} {e o : Expr} {es : List Expr} {kws : List Keyword} {te ta : TE} {t tk : TA} {nm : Option Str}
structure KBinds (K : PySem.W.Frag) (fd : FuncData) (ps ks : List Str) (g : List Value → List Value → List Value) (gV : List V → List V → List V) : Prop where
  to : ∀ (s : Shared) (us ws : List Value), K.In s.heap → (g us ws).length = ps.length → BindsTo s fd ⟨us, ks.zip ws⟩ (ps.zip (g us ws))
  rel : ∀ {vs : List V} {us : List Value} {zs : List V} {ws : List Value}, Vals vs us → Vals zs ws → Vals (gV vs zs) (g us ws)
variable {g : List Value → List Value → List Value} {gV : List V → List V → List V}
end
structure FnScope (N P : List Str) (sc : Scope) : Prop where
  kind : sc.kind = .function
  co : sc.isCoroutine = false
  gen : sc.isGenerator = false
  nd : N.Nodup
  pre : N.take P.length = P
  par : ∀ x ∈ P, sc.names.lookup x = some .local ∨ sc.names.lookup x = some .cell
  nofree : ∀ y ∈ sc.names, y.2 ≠ .free
theorem bindL_out {kindOf : Str → Option NameKind} {x : Str} : ∀ {binds : List (Str × Value)} {m : Str → Option Value}, (∀ v, (x, v) ∉ binds) → bindL kindOf binds m x = m x
  | [], _, _ => rfl
  | (n, v) :: r, m, h => by
    unfold bindL
    rw [bindL_out fun w hw => h w (List.mem_cons_of_mem _ hw)]
    split
    · have : x ≠ n := by rintro rfl; exact h v List.mem_cons_self
      simp [this]
    · rfl
theorem bindC_out {kindOf : Str → Option NameKind} {x : Str} : ∀ {binds : List (Str × Value)} {m : Str → Option Value}, (∀ v, (x, v) ∉ binds) → bindC kindOf binds m x = m x
  | [], _, _ => rfl
  | (n, v) :: r, m, h => by
    unfold bindC
    rw [bindC_out fun w hw => h w (List.mem_cons_of_mem _ hw)]
    split
    · rfl
    · have : x ≠ n := by rintro rfl; exact h v List.mem_cons_self
      simp [this]
theorem bindL_get {kindOf : Str → Option NameKind} {x : Str} {v : Value} : ∀ {P : List Str} {vs : List Value} {i : Nat} {m : Str → Option Value}, P.Nodup → P[i]? = some x → vs[i]? = some v → kindOf x = some .local →
    bindL kindOf (P.zip vs) m x = some v
  | [], _, _, _, _, h, _, _ => by simp at h
  | _ :: _, [], _, _, _, _, h, _ => by simp at h
  | p :: P, w :: vs, 0, m, nd, h1, h2, hk => by
    simp at h1 h2; subst h1; subst h2
    show bindL kindOf ((p, w) :: P.zip vs) m p = _
    unfold bindL
    rw [bindL_out fun v hv => (List.nodup_cons.mp nd).1 (List.of_mem_zip hv).1, if_pos hk]
    simp
  | p :: P, w :: vs, i + 1, m, nd, h1, h2, hk => by
    show bindL kindOf ((p, w) :: P.zip vs) m x = _
    unfold bindL
    exact bindL_get (i := i) (List.nodup_cons.mp nd).2 (by simpa using h1) (by simpa using h2) hk
theorem bindC_get {kindOf : Str → Option NameKind} {x : Str} {v : Value} : ∀ {P : List Str} {vs : List Value} {i : Nat} {m : Str → Option Value}, P.Nodup → P[i]? = some x → vs[i]? = some v → kindOf x ≠ some .local →
    bindC kindOf (P.zip vs) m x = some v
  | [], _, _, _, _, h, _, _ => by simp at h
  | _ :: _, [], _, _, _, _, h, _ => by simp at h
  | p :: P, w :: vs, 0, m, nd, h1, h2, hk => by
    simp at h1 h2; subst h1; subst h2
    show bindC kindOf ((p, w) :: P.zip vs) m p = _
    unfold bindC
    rw [bindC_out fun v hv => (List.nodup_cons.mp nd).1 (List.of_mem_zip hv).1, if_neg hk]
    simp
  | p :: P, w :: vs, i + 1, m, nd, h1, h2, hk => by
    show bindC kindOf ((p, w) :: P.zip vs) m x = _
    unfold bindC
    exact bindC_get (i := i) (List.nodup_cons.mp nd).2 (by simpa using h1) (by simpa using h2) hk
def start (N : List Str) (vs : List V) : St := vs.map some ++ List.replicate (N.length - vs.length) none
def cxOf (CX : CXT) (P : Program) (w : World) (K : PySem.W.Frag) (mg : Str → Option Value) (base : Heap) (N : List Str) (qual : Str) (scope : Scope) (f : Addr) (cd : Value) (A : Around) (outer : List Env) (s : Shared) (H : Hp) (E : XK) : Cx where
  prog := P
  w := w
  K := K
  mg := mg
  base := base
  A := A.deeper (envOfC qual scope s.heap.objs.size f cd)
  N := N
  s₀ := s
  H₀ := H
  env := envOfC qual scope s.heap.objs.size f cd
  outer := outer
  stack := envOfC qual scope s.heap.objs.size f cd :: outer
  ex := []
  calm := true
  fn := fun _ => true
  pn := []
  xe := fun e s' => wpAny (model P w) (A.deeper (envOfC qual scope s.heap.objs.size f cd)) (leaving (envOfC qual scope s.heap.objs.size f cd) e) (fun _ s'' => CX outer H s E e s'') (fun e' s'' => CX outer H s E e' s'') s'
theorem cell_has {sc : Scope} {n : Nat} {x : Str} (h : sc.names.lookup x = some .cell) : ∃ c, (cellsFrom n sc.names []).lookup x = some c := by
  have q := PySem.W.cellsFrom_some sc.names n [] (.inl h)
  exact Option.isSome_iff_exists.mp q
theorem inv_start {CX : CXT} {P : Program} {w : World} {K : PySem.W.Frag} {mg : Str → Option Value} {base : Heap} {N ps : List Str} {qual : Str} {scope : Scope} {f : Addr} {cd : Value} {A : Around} {outer : List Env} {s s1 : Shared} {H : Hp} {E : XK} {us : List Value} {vs : List V}
    (S : FnScope N ps scope) (hd : A.handled = none) (e0 : Env0 P w K mg base A outer s H) (hl : vs.length = ps.length) (r : Vals vs us)
    (x : InCallC s s.heap.objs.size (bindL (envOfC qual scope s.heap.objs.size f cd).kindOf (ps.zip us) fun _ => none) (cellsFrom (s.heap.objs.size + 1) scope.names []) (bindC (envOfC qual scope s.heap.objs.size f cd).kindOf (ps.zip us) fun _ => none) s1) :
    Inv (cxOf CX P w K mg base N qual scope f cd A outer s H E) [] (start N vs) H s1 := by
  have hpl : ps.length ≤ N.length := by have := congrArg List.length S.pre; rw [List.length_take] at this; omega
  obtain ⟨h1, tk, rfl, hk⟩ := x.done
  have noA : ∀ b : Addr, b ∉ (cxOf CX P w K mg base N qual scope f cd A outer s H E).ex := fun b z => absurd (show b ∈ ([] : List Addr) from z) (by simp)
  refine ⟨⟨e0.mod, S.kind, rfl, rfl, Nat.le_refl _, fun y z c h1 h2 => ?_, fun y hy => ?_, fun y c _ h => ?_, fun _ => hd, Around.frames_deeper e0.frames, .inr ⟨rfl, rfl⟩, fun b z => absurd z (noA b), e0.bs, e0.bsz, fun b _ _ => noA b, fun b z => absurd z (noA b), e0.funs, e0.frf⟩,
    rfl, e0.bare, Un.kept hk, ⟨_, x.toInCall.ns, fun i y v h1 h2 h3 => ?_⟩, fun y c h => ⟨_, x.cell y c h⟩, e0.hok.fresh (Nat.le_refl _), fun y c h => ?_, fun p hp => absurd (show p ∈ ([] : List (Addr × Obj)) from hp) (by simp), e0.hok.kept hk, ?_⟩
  · exact name_of_addr x.apart (PySem.mem_of_lookup h1) (PySem.mem_of_lookup h2)
  · have hy : scope.names.lookup y = some .cell ∨ scope.names.lookup y = some .free := hy
    rcases hy with hy | hy
    · exact cell_has hy
    · exact absurd rfl (S.nofree _ (PySem.mem_of_lookup hy))
  · exact Nat.le_of_lt (x.above y c (PySem.mem_of_lookup h))
  · have hi : i < vs.length := by
      unfold start at h2
      by_cases hi : i < vs.length
      · exact hi
      · rw [List.getElem?_append_right (by simpa using hi)] at h2
        rw [List.getElem?_replicate] at h2
        split at h2 <;> cases h2
    have ha : vs[i]? = some v := by
      unfold start at h2
      rw [List.getElem?_append_left (by simpa using hi), List.getElem?_map] at h2
      cases e : vs[i]? with
      | none => rw [e] at h2; cases h2
      | some a => rw [e] at h2; cases h2; rfl
    obtain ⟨u, hu, rv⟩ := r.get ha
    have hp : ps[i]? = some y := by
      rw [← S.pre, List.getElem?_take_of_lt (by omega)]; exact h1
    have ndP : ps.Nodup := by rw [← S.pre]; exact S.nd.sublist (List.take_sublist _ _)
    refine ⟨u, rv, ?_⟩
    rcases S.par y (List.mem_of_getElem? hp) with k | k
    · exact .inl ⟨k, bindL_get ndP hp hu k⟩
    · obtain ⟨c, e⟩ := cell_has (n := s.heap.objs.size + 1) k
      refine .inr ⟨.inl k, c, e, ?_⟩
      have q := x.cell y c e
      rw [bindC_get ndP hp hu (by show scope.names.lookup y ≠ _; rw [k]; decide)] at q
      exact q
  · exact e0.hok.fresh (Nat.le_of_lt (x.above y c (PySem.mem_of_lookup h)))
  · unfold start
    show _ = N.length
    rw [List.length_append, List.length_map, List.length_replicate]
    omega
theorem fn_of {CX : CXT} {P : Program} {w : World} {K : PySem.W.Frag} {mg : Str → Option Value} {base : Heap} {k : Nat} {f : Addr} {name qual : Str} {params : Arguments} {body : List Stmt} {scope : Scope} {dV kV doc pm cdv ct oc : Value} {an od : Option Addr}
    {osl : Array (Option Value)} {N ps : List Str} {sp : Sp} (lk : K.lookup f = some ⟨oc, od, .func (PySem.W.fnOf name qual params body scope dV kV doc pm an cdv ct), osl⟩) (hcd : PySem.W.codeIn K cdv qual = true) (S : FnScope N ps scope)
    (len : ∀ vs H Q E, sp vs H Q E → vs.length = ps.length)
    (hbody : ∀ (A : Around) (outer : List Env) (s : Shared) (H : Hp) (vs : List V) (Q : VK) (E : XK), Room k (A.deeper (envOfC qual scope s.heap.objs.size f cdv)) → sp vs H Q E →
      ∃ t, PSs (cxOf CX P w K mg base N qual scope f cdv A outer s H E) body t ∧ t { nx := fun _ H' => Q .non H', rt := Q } (start N vs) H) :
    FnOk P w K mg base CX (k + 1) f (PySem.W.fnOf name qual params body scope dV kV doc pm an cdv ct) ps sp := by
  refine ⟨len, fun A outer s H args us vs Q E hr e0 hb r hsp => ?_⟩
  have hl := len _ _ _ _ hsp
  have KX : K.In s.heap := e0.mod.kin.keeps fun b o e => (e0.bs b o e).1
  have lim : s.heap.NoLimit := e0.mod.nolimit.keeps fun b o e => (e0.bs b o e).1
  have hkind : ∀ y ∈ ps.zip us, scope.names.lookup y.1 = some .local ∨ (scope.names.lookup y.1 = some .cell ∧ ((cellsFrom (s.heap.objs.size + 1) scope.names []).lookup y.1).isSome = true) := fun ⟨n, v⟩ hy => by
    rcases S.par n (List.of_mem_zip hy).1 with q | q
    · exact .inl q
    · exact .inr ⟨q, PySem.W.cellsFrom_some _ _ _ (.inl q)⟩
  refine codeAny_call_function hr.depth (KX _ _ lk) rfl S.co S.gen rfl (PySem.W.codeRec_of KX hcd) (hb _ _ _ _ ?_)
  refine wpAny_newFunctionEnv_cells S.kind hkind fun env he s1 x => ?_
  subst he
  refine ⟨lim.keeps x.toInCall.keep, codeAny_func ?_⟩
  obtain ⟨t, ht, hq⟩ := hbody A outer s H vs Q E (hr.deeper _) hsp
  have I : Inv (cxOf CX P w K mg base N qual scope f cdv A outer s H E) [] (start N vs) H s1 := inv_start S hr.hd e0 hl r x
  refine wpAny_mono (ht [] s1 (start N vs) H _ I hq) (fun fl s' hs => ?_) fun e s' hs => hs
  have fin : ∀ {σ' : St} {H' : Hp} {v : V} {u : Value}, Inv (cxOf CX P w K mg base N qual scope f cdv A outer s H E) [] σ' H' s' → RelV v u → Q v H' → CE outer P w H s Q u s' :=
    fun {σ' H' v u} J rv q => ⟨v, H', J.os, J.bare, J.base, J.hok, rv, q⟩
  cases fl with
  | ret u =>
    obtain ⟨v, σ', H', J, rv, q⟩ := hs
    exact fin J rv q
  | next =>
    obtain ⟨σ', H', J, q⟩ := hs
    exact fin (v := V.non) (u := Value.none) J rfl q
  | brk =>
    obtain ⟨_, _, _, q⟩ := hs
    exact False.elim q
  | cont =>
    obtain ⟨_, _, _, q⟩ := hs
    exact False.elim q
end L2
namespace L2
open PySem PySem.Spec PyProof.Rows
section
variable {X : Cx} {x : Str} {p pos : Pos} {e : Expr} {es : List Expr} {t : TA} {id T : String} {r : List V → Hp → VK → Prop}
def tCB (r : List V → Hp → VK → Prop) (t : TA) : TE := fun σ H Q => t σ H fun vs H1 => r vs H1 Q
theorem pe_callB (hc : CallR X (.builtin id) r) (hg : Gl X x) (hm : X.mg x = none) (hv : bootBuiltins x = some (.builtin id)) (ha : PA X (e :: es) t) (hn : x ≠ "__name__" := by decide) (hdb : (x == ("__debug__" : Str)) = false := by decide)
    (he : starEach (e :: es) X.env = (false, eval e X.env) :: starEach es X.env := by rfl) (hpl : (backTo pos (starEach es X.env)).any (·.1) = false := by rfl) : PE X (.Call (.Name x p) (e :: es) [] pos) (tCB r t) := by
  intro pins s σ H Q I h
  refine wpAny_Call_Name_kw (ld_blt I hg hm hv ?_ hn hdb)
  exact PyProof.Rows.callWith_builtin1 (thn (ha pos pins s σ H _ I h) fun us s1 ⟨vs, H1, I1, r1, q1⟩ => hc pins s1 σ H1 vs us Q I1 r1 q1) he hpl
theorem pe_callTy (hc : CallR X (.type T) r) (hg : Gl X x) (hm : X.mg x = none) (hv : bootBuiltins x = some (.type T)) (ha : PA X (e :: es) t) (hn : x ≠ "__name__" := by decide) (hdb : (x == ("__debug__" : Str)) = false := by decide)
    (he : starEach (e :: es) X.env = (false, eval e X.env) :: starEach es X.env := by rfl) (hpl : (backTo pos (starEach es X.env)).any (·.1) = false := by rfl) : PE X (.Call (.Name x p) (e :: es) [] pos) (tCB r t) := by
  intro pins s σ H Q I h
  refine wpAny_Call_Name_kw (ld_blt I hg hm hv ?_ hn hdb)
  exact PyProof.Rows.callWith_type1 (thn (ha pos pins s σ H _ I h) fun us s1 ⟨vs, H1, I1, r1, q1⟩ => hc pins s1 σ H1 vs us Q I1 r1 q1) he hpl
end
end L2
namespace HT
open PySem PyProof.Rows
section
open PySem.SeqAt
open PySem.AutoSeq1 (wpAny_loadPart')
open PySem.MeetsSeq PySem.MeetsSeq2 PySem.MeetsSeq3
end
section
variable {prog : Program} {w : World} {A : Around} {E : Value → Shared → Prop} {s : Shared}
theorem cat_tup {t b : Addr} {vs ws : List Value} {Q : Value → Shared → Prop} (ht : IsTup s.heap t vs.toArray) (hb : IsTup s.heap b ws.toArray) (hv : vs ≠ [])
    (h1 : ws = [] → Q (.ref t) s) (h2 : ws ≠ [] → Q (.ref s.heap.objs.size) { s with heap := s.heap.push { cls := .type "tuple", data := .seq (vs ++ ws).toArray } })
    (hsz : vs.length + ws.length ≤ sizeLine) : wpAny (model prog w) A (binaryOp .Add (.ref t) (.ref b)) Q E s := by
  obtain ⟨⟨cls, dd, data, sl⟩, ho, hc, n, hd⟩ := id ht
  obtain ⟨⟨cls2, dd2, data2, sl2⟩, ho2, hc2, n2, hd2⟩ := id hb
  simp only at hc hd hc2 hd2
  subst hc hd hc2 hd2
  have e : vs.toArray ++ ws.toArray = (vs ++ ws).toArray := by simp
  by_cases hw : ws = []
  · exact concat_meets ⟨_, ho, rfl⟩ ⟨_, ho2, rfl⟩ noFill_tuple_add seq_tuple_add PySem.F.slot_tuple_add PySem.F.entry_tuple_add (PySem.F.args_tuple_add_2 _ _)
      (tuple_addW1 t b vs.toArray ws.toArray n n2 dd dd2 sl sl2 (by simpa using hv) (by simp [hw])) ⟨ho, ho2, h1 hw⟩
  · refine concat_meets ⟨_, ho, rfl⟩ ⟨_, ho2, rfl⟩ noFill_tuple_add seq_tuple_add PySem.F.slot_tuple_add PySem.F.entry_tuple_add (PySem.F.args_tuple_add_2 _ _)
      (tuple_addW2 t b vs.toArray ws.toArray n n2 dd dd2 sl sl2 (by simpa using hv) (by simpa using hw) (by rw [List.size_toArray, List.size_toArray]; exact hsz)) ⟨ho, ho2, ?_⟩
    rw [e]
    exact h2 hw
def sIx (n d : Nat) : Option Int → Nat
  | none => d
  | some v => if v < 0 then (v + (n : Int)).toNat else min v.toNat n
theorem sIx_le (n d : Nat) (hd : d ≤ n) (o : Option Int) : sIx n d o ≤ n := by
  cases o with
  | none => exact hd
  | some v =>
    show (if v < 0 then (v + (n : Int)).toNat else min v.toNat n) ≤ n
    by_cases hv : v < 0
    · rw [if_pos hv]; omega
    · rw [if_neg hv]; exact Nat.min_le_right _ _
theorem clip_eq (v : Int) (n d : Nat) : (if v < 0 then max (v + (n : Int)) 0 else min v (n : Int)) = ((sIx n d (some v) : Nat) : Int) := by
  show (if v < 0 then max (v + (n : Int)) 0 else min v (n : Int)) = (((if v < 0 then (v + (n : Int)).toNat else min v.toNat n) : Nat) : Int)
  by_cases hv : v < 0
  · simp only [if_pos hv]; omega
  · simp only [if_neg hv]; omega
theorem adjust_gen (lo hi : Option Int) (n : Nat) : Builtin.Slice.sliceAdjust lo hi 1 (n : Int) = (((sIx n 0 lo : Nat) : Int), ((sIx n n hi : Nat) : Int)) := by
  have h1 : ¬ ((1 : Int) < 0) := by omega
  unfold Builtin.Slice.sliceAdjust
  simp only [h1, if_false]
  refine Prod.ext ?_ ?_
  · cases lo with
    | none => rfl
    | some v => exact clip_eq v n 0
  · cases hi with
    | none => rfl
    | some v => exact clip_eq v n n
theorem places_gen (i j : Nat) : Builtin.Slice.slicePlaces (i : Int) (j : Int) 1 = j - i := by
  unfold Builtin.Slice.slicePlaces
  have h1 : (1 : Int) > 0 := by omega
  simp only [h1, if_true, Int.ediv_one]
  split <;> omega
theorem slicePart_ {v : Value} {o : Option Int} {Q : Option Int → Shared → Prop} (p : IsPart v o) (h : Q o s) : wpAny (model prog w) A (Builtin.Slice.slicePartIndex v) Q E s := by
  cases p with
  | none => exact slicePart_none h
  | int i t => exact slicePart_int h
theorem sliceApplied_gen {sl : Addr} {vl vu : Value} {lo hi : Option Int} {n : Nat} {Q : Int × Int × Nat → Shared → Prop} (hs : s.heap.IsSliceOf sl vl vu .none) (pl : IsPart vl lo) (pu : IsPart vu hi)
    (h : Q (((sIx n 0 lo : Nat) : Int), 1, sIx n n hi - sIx n 0 lo) s) : wpAny (model prog w) A (Builtin.Slice.sliceApplied (.ref sl) (pure (n : Int))) Q E s := by
  obtain ⟨os, hos, hcs, hds⟩ := id hs
  unfold Builtin.Slice.sliceApplied Builtin.Slice.sliceFields
  refine wpAny_bind (wpAny_bind (wpAny_field hos hds (x := vl) rfl (wpAny_bind (wpAny_field hos hds (x := vu) rfl (wpAny_bind (wpAny_field hos hds (x := .none) rfl (wpAny_pure ?_)))))))
  refine wpAny_bind (slicePart_none ?_)
  show wpAny _ _ (if ((1 : Int) == 0) = true then _ else _) _ _ s
  rw [if_neg (by decide)]
  refine wpAny_bind (slicePart_ pl (wpAny_bind (slicePart_ pu (wpAny_bind (wpAny_pure ?_)))))
  show wpAny _ _ (match Builtin.Slice.sliceAdjust lo hi 1 (n : Int) with | (lo, hi) => pure (lo, (1 : Int), Builtin.Slice.slicePlaces lo hi 1)) _ _ s
  rw [adjust_gen lo hi n]
  show wpAny _ _ (pure (((sIx n 0 lo : Nat) : Int), (1 : Int), Builtin.Slice.slicePlaces ((sIx n 0 lo : Nat) : Int) ((sIx n n hi : Nat) : Int) 1)) _ _ s
  rw [places_gen]
  exact wpAny_pure h
theorem pick_gen (xs : Array Value) (i k : Nat) : ((List.range k).filterMap fun (m : Nat) => xs[((i : Int) + (m : Int) * 1).toNat]?).toArray = ((xs.toList.drop i).take k).toArray := by
  have e : (fun (m : Nat) => xs[((i : Int) + (m : Int) * 1).toNat]?) = fun m => xs[i + m]? := by
    funext m
    have : ((i : Int) + (m : Int) * 1).toNat = i + m := by omega
    rw [this]
  rw [e]
  have := pick_run xs i k
  rw [List.filterMap_map] at this
  have e2 : ((fun x => xs[x]?) ∘ fun x => i + x) = fun m => xs[i + m]? := rfl
  rw [e2] at this
  rw [this]
theorem getItem_tuple_cut {t sl : Addr} {items : Array Value} {vl vu : Value} {lo hi : Option Int} {Q : Value → Shared → Prop} (ht : IsTup s.heap t items) (hs : s.heap.IsSliceOf sl vl vu .none) (pl : IsPart vl lo) (pu : IsPart vu hi)
    (hw : ¬ (sIx items.size 0 lo = 0 ∧ sIx items.size items.size hi = items.size))
    (h : Q (.ref s.heap.objs.size) { s with heap := s.heap.push { cls := .type "tuple", data := .seq ((items.toList.drop (sIx items.size 0 lo)).take (sIx items.size items.size hi - sIx items.size 0 lo)).toArray } })
    (hsz : items.size ≤ sizeLine) : wpAny (model prog w) A (getItem (.ref t) (.ref sl)) Q E s := by
  have htake : sizeOk (.seq ((items.toList.drop (sIx items.size 0 lo)).take (sIx items.size items.size hi - sIx items.size 0 lo)).toArray) := by
    show ((items.toList.drop (sIx items.size 0 lo)).take (sIx items.size items.size hi - sIx items.size 0 lo)).toArray.size ≤ sizeLine
    rw [List.size_toArray, List.length_take, List.length_drop, Array.length_toList]
    omega
  have hj : sIx items.size items.size hi ≤ items.size := sIx_le _ _ (Nat.le_refl _) hi
  obtain ⟨os, hos, hcs, hds⟩ := id hs
  have hTs : s.TypeIs (.ref sl) "slice" := ⟨os, hos, hcs⟩
  unfold getItem
  try with_reducible refine wpAny_holding ?_
  first | refine wpAny_bind (wpAny_pure ?_) | skip
  refine wpAny_bind (wpAny_sequenceKey ht.typeIs (by decide) ?_)
  refine wpAny_bind (wpAny_callSpecial?_slot (name := Str.ofString "__getitem__") ht.typeIs PyProof.Rows.slot_tuple_getitem
    (wpAny_call_entry PyProof.Rows.slot_tuple_getitem ht.typeIs entry_tuple_getitem ?_ (args_tuple_getitem _ _)))
  show wpAny _ _ (Builtin.Tuple.tupleItemsOf (.ref t) >>= _) _ _ s
  refine wpAny_bind (tupleItemsOf_ ht ?_)
  refine wpAny_bind (wpAny_typeOf hTs ?_)
  rw [if_pos (by decide)]
  refine wpAny_bind (sliceApplied_gen hs pl pu ?_)
  have hno : ¬ ((((sIx items.size 0 lo : Nat) : Int) == 0 && (1 : Int) == 1 && (sIx items.size items.size hi - sIx items.size 0 lo) == items.size) = true) := by
    intro q
    rw [Bool.and_eq_true, Bool.and_eq_true] at q
    have q1 : ((sIx items.size 0 lo : Nat) : Int) = 0 := eq_of_beq q.1.1
    have q2 : sIx items.size items.size hi - sIx items.size 0 lo = items.size := eq_of_beq q.2
    exact hw ⟨by omega, by omega⟩
  show wpAny _ _ (if (((sIx items.size 0 lo : Nat) : Int) == 0 && (1 : Int) == 1 && (sIx items.size items.size hi - sIx items.size 0 lo) == items.size) = true then _ else _) _ _ s
  rw [if_neg hno, pick_gen]
  first
    | exact wpAny_bind (m := Builtin.Tuple.tupleExact _) (wpAny_newObj_type (wpAny_pure ⟨_, rfl, wpAny_pure h⟩) htake)
    | exact wpAny_bind (m := Builtin.Tuple.tupleExact _) (wpAny_newObj_type (wpAny_bind (wpAny_pure (wpAny_pure ⟨_, rfl, wpAny_pure h⟩))) htake)
    | exact wpAny_bind (wpAny_bind (m := Builtin.Tuple.tupleExact _) (wpAny_newObj_type (wpAny_pure (wpAny_pure ⟨_, rfl, wpAny_pure h⟩)) htake))
    | exact wpAny_bind (wpAny_bind (m := Builtin.Tuple.tupleExact _) (wpAny_newObj_type (wpAny_pure ⟨_, rfl, wpAny_pure h⟩) htake))
end
end HT
namespace L2
open PySem PySem.Spec PyProof.Rows
abbrev TO := St → Hp → (Option Int → Hp → Prop) → Prop
def PO (X : Cx) (e : Option Expr) (t : TO) : Prop :=
  ∀ (pins : List (Addr × Obj)) (s : Shared) (σ : St) (H : Hp) (Q : Option Int → Hp → Prop), Inv X pins σ H s → t σ H Q →
    wpAny (model X.prog X.w) X.A (evalPart e X.env) (fun u s' => ∃ o H', Inv X pins σ H' s' ∧ IsPart u o ∧ Q o H') X.xe s
def tNoPart : TO := fun _ H Q => Q none H
def tPart (t : TE) : TO := fun σ H Q => t σ H fun x H1 => ∃ i, x = .int i ∧ Q (some i) H1
section
variable {X : Cx} {e : Expr} {te : TE} {lo hi : Option Expr} {tl th : TO} {pos p2 : Pos}
theorem po_none : PO X none tNoPart := by
  intro pins s σ H Q I h
  rw [evalPart_none]
  exact wpAny_pure ⟨none, H, I, .none, h⟩
theorem po_some (h : PE X e te) : PO X (some e) (tPart te) := by
  intro pins s σ H Q I hw
  rw [evalPart_some]
  refine thn (h pins s σ H _ I hw) fun u s1 ⟨x, H1, I1, r1, q1⟩ => ?_
  obtain ⟨i, rfl, q⟩ := q1
  obtain ⟨t, rfl⟩ := r1
  exact ⟨some i, H1, I1, .int i t, q⟩
def SlR (X : Cx) (r : V → Option Int → Option Int → Hp → VK → Prop) : Prop :=
  ∀ (pins : List (Addr × Obj)) (s : Shared) (σ : St) (H : Hp) (x : V) (v vl vu : Value) (lo hi : Option Int) (sl : Addr) (Q : VK), Inv X pins σ H s → RelV x v → s.heap.IsSliceOf sl vl vu .none → IsPart vl lo → IsPart vu hi → r x lo hi H Q →
    ∃ T id, typeLookup (.type T) "__getitem__" = pure (some (.builtin id)) ∧ s.TypeIs v T ∧ wpAny (model X.prog X.w) X.A (getItem v (.ref sl)) (EP X pins σ Q) X.xe s
def tSl (r : V → Option Int → Option Int → Hp → VK → Prop) (te : TE) (tl th : TO) : TE := fun σ H Q => te σ H fun x H1 => tl σ H1 fun l H2 => th σ H2 fun u H3 => r x l u H3 Q
theorem pe_slice {r : V → Option Int → Option Int → Hp → VK → Prop} (hr : SlR X r) (he : PE X e te) (hl : PO X lo tl) (hu : PO X hi th) : PE X (.Subscript e (.Slice lo hi none p2) pos) (tSl r te tl th) := by
  intro pins s σ H Q I h
  refine Subscript_ (thn (he pins s σ H _ I h) fun v s1 ⟨x, H1, I1, r1, q1⟩ => ?_)
  refine wpAny_Slice (thn (hl pins s1 σ H1 _ I1 q1) fun vl s2 ⟨l, H2, I2, pl, q2⟩ => thn (hu pins s2 σ H2 _ I2 q2) fun vu s3 ⟨u, H3, I3, pu, q3⟩ => ?_)
  rw [evalPart_none]
  refine wpAny_pure ?_
  have I4 : Inv X pins σ H3 { s3 with heap := s3.heap.push { cls := .type "slice", data := .fields #[vl, vu, .none] } } := I3.kept (t' := s3.toks) fun b ob q => Heap.get?_push_of_some _ q
  obtain ⟨T, id, hT, ht, hg⟩ := hr pins { s3 with heap := s3.heap.push { cls := .type "slice", data := .fields #[vl, vu, .none] } } σ H3 x v vl vu l u s3.heap.objs.size Q I4 r1 (Heap.IsSliceOf.new ..) pl pu q3
  show wpAny (model X.prog X.w) X.A (subscriptTail e (.Slice lo hi none p2) v (.ref s3.heap.objs.size)) (EP X pins σ Q) X.xe { s3 with heap := s3.heap.push { cls := .type "slice", data := .fields #[vl, vu, .none] } }
  exact tail_any (ops := [.ref s3.heap.objs.size, v]) ht hT hg (by with_unfolding_all rfl)
def cutV (xs : List V) (lo hi : Option Int) : List V := (xs.drop (HT.sIx xs.length 0 lo)).take (HT.sIx xs.length xs.length hi - HT.sIx xs.length 0 lo)
theorem cutV_length (xs : List V) (lo hi : Option Int) : (cutV xs lo hi).length ≤ xs.length := by
  unfold cutV
  rw [List.length_take, List.length_drop]
  omega
def rSlT (K : PySem.W.Frag) : V → Option Int → Option Int → Hp → VK → Prop := fun x lo hi H Q => ∃ a xs, x = .ref a ∧ SqT K H a xs ∧
  ¬ (HT.sIx xs.length 0 lo = 0 ∧ HT.sIx xs.length xs.length hi = xs.length) ∧ ∀ p, H p = none → Q (.ref p) (upd H p (.tup (cutV xs lo hi)))
theorem sl_tup : SlR X (rSlT X.K) := by
  intro pins s σ H x v vl vu lo hi sl Q I rx hs pl pu h
  obtain ⟨a, xs, rfl, hx, hw, q⟩ := h
  cases rx
  obtain ⟨its, r, ht, hz⟩ := I.tuple hx
  have hlen : its.toArray.size = xs.length := by rw [List.size_toArray]; exact r.length.symm
  refine ⟨"tuple", _, PyProof.Rows.slot_tuple_getitem.lookup, ht.typeIs, ?_⟩
  refine HT.getItem_tuple_cut ht hs pl pu (by rw [hlen]; exact hw) ?_ (by rw [hlen]; exact hz)
  rw [hlen]
  refine ⟨.ref s.heap.objs.size, _, I.laid (t' := s.toks) (o := .tup (cutV xs lo hi)) (fun b ob q => Heap.get?_push_of_some _ q) (Nat.le_refl _) ?_, rfl, q _ (I.hok.fresh (Nat.le_refl _))⟩
  exact ⟨Nat.le_trans (cutV_length xs lo hi) hz, _, (r.drop (HT.sIx xs.length 0 lo)).take (HT.sIx xs.length xs.length hi - HT.sIx xs.length 0 lo), IsTup.new _ _⟩
def rCatT (K : PySem.W.Frag) : R2 := fun x y H Q => ∃ a b xs ys, x = .ref a ∧ y = .ref b ∧ SqT K H a xs ∧ SqT K H b ys ∧ xs ≠ [] ∧ xs.length + ys.length ≤ sizeLine ∧
  (ys = [] → Q (.ref a) H) ∧ (ys ≠ [] → ∀ p, H p = none → Q (.ref p) (upd H p (.tup (xs ++ ys))))
theorem Vals.nil_iff {xs : List V} {us : List Value} (r : Vals xs us) : us = [] ↔ xs = [] := by
  cases r with
  | nil => simp
  | cons _ _ => simp
theorem op_catT : OpR X (binaryOp .Add) (rCatT X.K) := by
  intro pins s σ H x y v u Q I rx ry h
  obtain ⟨a, b, xs, ys, rfl, rfl, ha, hb, hx, hz, q1, q2⟩ := h
  cases rx
  cases ry
  obtain ⟨its, r1, p1, _⟩ := I.tuple ha
  obtain ⟨its2, r2, p2, _⟩ := I.tuple hb
  refine HT.cat_tup p1 p2 (fun z => hx (r1.nil_iff.mp z)) (fun z => ⟨.ref a, H, I, rfl, q1 (r2.nil_iff.mp z)⟩) (fun z => ?_) (by rw [← r1.length, ← r2.length]; exact hz)
  refine ⟨.ref s.heap.objs.size, _, I.laid (t' := s.toks) (o := .tup (xs ++ ys)) (fun b ob q => Heap.get?_push_of_some _ q) (Nat.le_refl _) ?_, rfl, q2 (fun w => z (r2.nil_iff.mpr w)) _ (I.hok.fresh (Nat.le_refl _))⟩
  exact ⟨by rw [List.length_append]; exact hz, _, r1.append r2, IsTup.new _ _⟩
end
end L2
namespace L2
open PySem PySem.Spec PyProof.Rows
def ixN (n : Nat) (i : Int) : Option Nat := if 0 ≤ i then (if i < n then some i.toNat else none) else if -(n : Int) ≤ i then some (i + n).toNat else none
def atI {α : Type} (xs : List α) (i : Int) : Option α := (ixN xs.length i).bind fun j => xs[j]?
theorem ixN_seq {n : Nat} {i : Int} {j : Nat} (h : ixN n i = some j) : seqIndex? i n = some j ∧ j < n ∧ -(n : Int) ≤ i ∧ i < n := by
  unfold ixN at h
  by_cases h0 : 0 ≤ i
  · rw [if_pos h0] at h
    by_cases h1 : i < n
    · rw [if_pos h1] at h
      have e : i.toNat = j := Option.some.inj h
      exact ⟨by rw [seqIndex_of h0 h1, e], by omega, by omega, h1⟩
    · rw [if_neg h1] at h; cases h
  · rw [if_neg h0] at h
    by_cases h1 : -(n : Int) ≤ i
    · rw [if_pos h1] at h
      have e : (i + n).toNat = j := Option.some.inj h
      exact ⟨by rw [seqIndex_neg (by omega) h1, e], by omega, h1, by omega⟩
    · rw [if_neg h1] at h; cases h
theorem atI_get {α : Type} {xs : List α} {i : Int} {v : α} (h : atI xs i = some v) : ∃ j, seqIndex? i xs.length = some j ∧ xs[j]? = some v ∧ j < xs.length ∧ -(xs.length : Int) ≤ i ∧ i < xs.length := by
  unfold atI at h
  cases e : ixN xs.length i with
  | none => rw [e] at h; cases h
  | some j =>
    rw [e] at h
    obtain ⟨h1, h2, h3, h4⟩ := ixN_seq e
    exact ⟨j, h1, h, h2, h3, h4⟩
theorem atI_nat {α : Type} {xs : List α} {j : Nat} {v : α} (h : xs[j]? = some v) : atI xs (j : Int) = some v := by
  have hj : j < xs.length := (List.getElem?_eq_some_iff.mp h).1
  have e : ixN xs.length (j : Int) = some j := by
    unfold ixN
    rw [if_pos (by omega), if_pos (by omega)]; simp
  unfold atI; rw [e]; exact h
def PlainIx (b : Expr) : Prop := ∀ o i, subscripted b false o i = operate [o, i] (getItem o i)
def IxR (X : Cx) (r : R2) : Prop :=
  ∀ (value slice : Expr) (pins : List (Addr × Obj)) (s : Shared) (σ : St) (H : Hp) (x y : V) (v u : Value) (Q : VK), Inv X pins σ H s → RelV x v → RelV y u → r x y H Q →
    subscripted slice false v u = operate [v, u] (getItem v u) → wpAny (model X.prog X.w) X.A (subscriptTail value slice v u) (EP X pins σ Q) X.xe s
def MtR (X : Cx) (id : String) (r : V → List V → Hp → VK → Prop) : Prop :=
  ∀ (pins : List (Addr × Obj)) (s : Shared) (σ : St) (H : Hp) (x : V) (xs : List V) (v : Value) (us : List Value) (Q : VK), Inv X pins σ H s → RelV x v → Vals xs us → r x xs H Q →
    wpAny (model X.prog X.w) X.A (call (.builtin id) (v :: us)) (EP X pins σ Q) X.xe s
section
variable {X : Cx} {a b : Expr} {ta tb : TE} {pos : Pos}
theorem pe_ix {r : R2} (hr : IxR X r) (ha : PE X a ta) (hb : PE X b tb) (hs : PlainIx b) : PE X (.Subscript a b pos) (tOp r ta tb) := by
  intro pins s σ H Q I h
  exact Subscript_ (binT ha hb I h fun v u s2 x y H2 I2 rx ry q => hr a b pins s2 σ H2 x y v u Q I2 rx ry q (hs _ _))
def rIxL (K : PySem.W.Frag) : R2 := fun x y H Q => ∃ p xs i v, x = .ref p ∧ y = .int i ∧ SqL K H p xs ∧ atI xs i = some v ∧ Q v H
def rIxT (K : PySem.W.Frag) : R2 := fun x y H Q => ∃ p xs i v, x = .ref p ∧ y = .int i ∧ SqT K H p xs ∧ atI xs i = some v ∧ Q v H
def rIxS : R2 := fun x y H Q => ∃ z i c, x = .str z ∧ y = .int i ∧ z.length ≤ sizeLine ∧ atI z.cps.toList i = some c ∧ Q (.str ⟨#[c]⟩) H
theorem ix_list : IxR X (rIxL X.K) := by
  intro value slice pins s σ H x y v u Q I rx ry h hs
  obtain ⟨p, xs, i, z, rfl, rfl, hq, he, q⟩ := h
  cases rx
  obtain ⟨t, rfl⟩ := ry
  obtain ⟨its, r, pl, hz⟩ := I.list hq
  obtain ⟨j, h1, h2, h3, h4, h5⟩ := atI_get he
  obtain ⟨w, ew, rw'⟩ := r.get h2
  have hl := r.length
  have hn := line63
  have fin : EP X pins σ Q w s := ⟨z, H, I, rw', q⟩
  by_cases h0 : 0 ≤ i
  · have hj : i.toNat = j := by
      rw [seqIndex_of h0 h5] at h1
      exact Option.some.inj h1
    exact item_listR pl.isList h0 (by omega) (by rw [hj]; simpa using ew) fin hs
  · have hj : (i + (its.toArray.size : Int)).toNat = j := by
      rw [seqIndex_neg (by omega) h4] at h1
      rw [List.size_toArray, ← hl]
      exact Option.some.inj h1
    exact subscriptTail_builtinR (x := w) pl.isList.typeIs slot_list_getitem.lookup
      (wpAny_getItem_list_neg (Q := fun r s' => r = w ∧ EP X pins σ Q r s') pl.isList (by omega) (by rw [List.size_toArray] <;> omega) (by omega) (by rw [hj]; simpa using ew) ⟨rfl, fin⟩) hs
theorem ix_tup : IxR X (rIxT X.K) := by
  intro value slice pins s σ H x y v u Q I rx ry h hs
  obtain ⟨p, xs, i, z, rfl, rfl, hq, he, q⟩ := h
  cases rx
  obtain ⟨t, rfl⟩ := ry
  obtain ⟨its, r, pl, hz⟩ := I.tuple hq
  obtain ⟨j, h1, h2, h3, h4, h5⟩ := atI_get he
  obtain ⟨w, ew, rw'⟩ := r.get h2
  have hl := r.length
  have hn := line63
  have fin : EP X pins σ Q w s := ⟨z, H, I, rw', q⟩
  exact subscriptTail_builtinR (x := w) pl.typeIs slot_tuple_getitem.lookup
    (getItem_tuple (j := j) (Q := fun r s' => r = w ∧ EP X pins σ Q r s') pl (by omega) (by omega) (by rw [List.size_toArray, ← hl]; exact h1) (by simpa using ew) ⟨rfl, fin⟩) hs
theorem ix_str : IxR X rIxS := by
  intro value slice pins s σ H x y v u Q I rx ry h hs
  obtain ⟨z, i, c, rfl, rfl, hz, he, q⟩ := h
  obtain ⟨t, rfl⟩ := rx
  obtain ⟨t', rfl⟩ := ry
  obtain ⟨j, h1, h2, h3, h4, h5⟩ := atI_get he
  have hl : z.cps.toList.length = z.length := by simp [Str.length]
  rw [hl] at h1 h4 h5
  have hn := line63
  exact tail_any (typeIs_str s z t) slot_str_getitem.lookup (getItem_str (c := c) (by
    have e1 : decide (i < -(2 ^ 63 : Int)) = false := decide_eq_false (by omega)
    have e2 : decide (i ≥ 2 ^ 63) = false := decide_eq_false (by omega)
    rw [e1, e2, Bool.or_false]) (by rw [h1]; simpa using h2) ⟨.str ⟨#[c]⟩, H, I.tok _, ⟨_, rfl⟩, q⟩) hs
theorem mapSeq_set (its : List Value) (n j : Nat) (u : Value) : Obj.mapSeq (·.setIfInBounds j u) { cls := .type "list", data := .seq its.toArray n } = { cls := .type "list", data := .seq (its.set j u).toArray n } := by
  simp [Obj.mapSeq]
theorem Inv.lst {pins : List (Addr × Obj)} {σ : St} {H : Hp} {s : Shared} {p : Addr} {xs : List V} (I : Inv X pins σ H s) (h : H p = some (.lst xs)) :
    ∃ (its : List Value) (n : Nat), Vals xs its ∧ s.heap.get? p = some { cls := .type "list", data := .seq its.toArray n } ∧ xs.length ≤ sizeLine := by
  obtain ⟨z, its, n, r, e⟩ := I.hok p _ h
  exact ⟨its, n, r, e, z⟩
theorem Inv.lstUpd {pins : List (Addr × Obj)} {σ : St} {H : Hp} {s : Shared} {p : Addr} {xs ys : List V} {its its' : List Value} {n n' : Nat} {f : Obj → Obj} (I : Inv X pins σ H s) (h : H p = some (.lst xs))
    (ho : s.heap.get? p = some { cls := .type "list", data := .seq its.toArray n }) (hf : f { cls := .type "list", data := .seq its.toArray n } = { cls := .type "list", data := .seq its'.toArray n' }) (r : Vals ys its') (hz : ys.length ≤ sizeLine) (t : Nat) :
    Inv X pins σ (upd H p (.lst ys)) { s with heap := s.heap.update p f, toks := t } := by
  have e : (s.heap.update p f).get? p = some { cls := .type "list", data := .seq its'.toArray n' } := by
    rw [Heap.get?_update_self f ho (by rw [hf] <;> rfl), hf]
  refine I.write (x := p) (e := p) (by rw [h]; trivial) (.inl rfl) (fun b u hb q => (Heap.get?_update_other _ _ (Ne.symm hb)).trans q) ⟨_, e⟩ ?_
  exact ⟨hz, its', n', r, e⟩
def rSetL : V → V → V → Hp → (Hp → Prop) → Prop := fun o i v H Q => ∃ p xs k j, o = .ref p ∧ i = .int k ∧ H p = some (.lst xs) ∧ ixN xs.length k = some j ∧ Q (upd H p (.lst (xs.set j v)))
theorem set_list : PSet X rSetL := by
  intro pins s σ H o i v ov iv u Q I ro ri rv h
  obtain ⟨p, xs, k, j, rfl, rfl, hp, hj, q⟩ := h
  cases ro
  obtain ⟨t, rfl⟩ := ri
  obtain ⟨its, n, r, ho, hz⟩ := I.lst hp
  obtain ⟨h1, h2, h3, h4⟩ := ixN_seq hj
  have hl := r.length
  have hn := line63
  have I' : Inv X pins σ (upd H p (.lst (xs.set j v))) { s with heap := s.heap.update p (Obj.mapSeq (·.setIfInBounds j u)) } :=
    I.lstUpd hp ho (mapSeq_set its n j u) (r.set rv j) (by rw [List.length_set]; exact hz) s.toks
  by_cases h0 : 0 ≤ k
  · have hk : k.toNat = j := by
      rw [seqIndex_of h0 h4] at h1
      exact Option.some.inj h1
    exact PySem.W.ki_setAt ho h0 (by omega) (by rw [List.size_toArray, ← hl]; exact h4) (by rw [hk]; exact ⟨_, I', q⟩)
  · have hk : (k + (its.toArray.size : Int)).toNat = j := by
      rw [seqIndex_neg (by omega) h3] at h1
      rw [List.size_toArray, ← hl]
      exact Option.some.inj h1
    exact PySem.W.ki_setBack ho (by omega) (by rw [List.size_toArray, ← hl]; exact h3) (by omega) (by rw [hk]; exact ⟨_, I', q⟩)
theorem slice_bounds (lo hi : Option Int) (n : Nat) : (sliceBounds lo hi none n).1 = ((HT.sIx n 0 lo : Nat) : Int) ∧ (sliceBounds lo hi none n).2.1 = ((HT.sIx n n hi : Nat) : Int) ∧ (sliceBounds lo hi none n).2.2 = 1 := by
  refine ⟨?_, ?_, rfl⟩
  · cases lo with
    | none => simp [sliceBounds, HT.sIx]
    | some i =>
      simp only [sliceBounds, HT.sIx, Option.getD_none, show (1 : Int) > 0 by decide, if_true]
      by_cases h : i < 0
      · simp only [h, if_true] <;> omega
      · simp only [h, if_false] <;> omega
  · cases hi with
    | none => simp [sliceBounds, HT.sIx]
    | some i =>
      simp only [sliceBounds, HT.sIx, Option.getD_none, show (1 : Int) > 0 by decide, if_true]
      by_cases h : i < 0
      · simp only [h, if_true] <;> omega
      · simp only [h, if_false] <;> omega
theorem slicePick_cut (its : List Value) (lo hi : Option Int) : slicePick its.toArray lo hi none = ((its.drop (HT.sIx its.length 0 lo)).take (HT.sIx its.length its.length hi - HT.sIx its.length 0 lo)).toArray := by
  obtain ⟨h1, h2, h3⟩ := slice_bounds lo hi its.toArray.size
  unfold slicePick
  rw [h1, h2, h3]
  simp only [sliceRange_one, pick_run, List.size_toArray] <;> rfl
def rSlL (K : PySem.W.Frag) : V → Option Int → Option Int → Hp → VK → Prop := fun x lo hi H Q => ∃ a xs, x = .ref a ∧ SqL K H a xs ∧ ∀ p, H p = none → Q (.ref p) (upd H p (.lst (cutV xs lo hi)))
theorem sl_list : SlR X (rSlL X.K) := by
  intro pins s σ H x v vl vu lo hi sl Q I rx hs pl pu h
  obtain ⟨a, xs, rfl, hx, q⟩ := h
  cases rx
  obtain ⟨its, r, ht, hz⟩ := I.list hx
  have hlen := r.length
  refine ⟨"list", _, slot_list_getitem.lookup, ht.isList.typeIs, ?_⟩
  refine wpAny_getItem_list_slice ht.isList hs pl pu .none (by simp) ?_ (by rw [List.size_toArray] <;> omega)
  rw [slicePick_cut, ← hlen]
  refine ⟨.ref s.heap.objs.size, _, I.laid (t' := s.toks) (o := .lst (cutV xs lo hi)) (fun b ob q => Heap.get?_push_of_some _ q) (Nat.le_refl _) ?_, rfl, q _ (I.hok.fresh (Nat.le_refl _))⟩
  exact ⟨Nat.le_trans (cutV_length xs lo hi) hz, _, 0, (r.drop (HT.sIx xs.length 0 lo)).take (HT.sIx xs.length xs.length hi - HT.sIx xs.length 0 lo), Heap.get?_push_size _ rfl⟩
def flatV : V → Bool
  | .non => true
  | .bl _ => true
  | .int _ => true
  | .str _ => true
  | _ => false
def eqV : V → V → Bool
  | .non, .non => true
  | .bl a, .bl b => a == b
  | .bl a, .int b => (if a then 1 else 0) == b
  | .int a, .bl b => a == (if b then 1 else 0)
  | .int a, .int b => a == b
  | .str a, .str b => a == b
  | _, _ => false
def inV (x : V) (xs : List V) : Bool := xs.any fun y => eqV y x
theorem call_len_seq : CallR X (.builtin "len") (fun xs H Q => ∃ p ys, xs = [.ref p] ∧ (SqL X.K H p ys ∨ SqT X.K H p ys) ∧ Q (.int ys.length) H) := by
  intro pins s σ H xs us Q I r h
  obtain ⟨p, ys, rfl, hq, q⟩ := h
  obtain ⟨u, rfl, rx⟩ := vals1 r
  cases rx
  have hn := line63
  rcases hq with hq | hq
  · obtain ⟨its, r', pl, hz⟩ := I.list hq
    have hlen := r'.length
    exact Calls.call_len_list pl.isList (by simp only [List.size_toArray] <;> omega) ⟨.int ys.length, H, I.tok _, ⟨s.toks + 1, by rw [List.size_toArray, hlen]⟩, q⟩
  · obtain ⟨its, r', pl, hz⟩ := I.tuple hq
    have hlen := r'.length
    exact len_tuple pl (by simp only [List.size_toArray] <;> omega) ⟨.int ys.length, H, I.tok _, ⟨s.toks + 1, by rw [List.size_toArray, hlen]⟩, q⟩
theorem call_len_str : CallR X (.builtin "len") (fun xs H Q => ∃ z, xs = [.str z] ∧ z.length ≤ sizeLine ∧ Q (.int z.length) H) := by
  intro pins s σ H xs us Q I r h
  obtain ⟨z, rfl, hz, q⟩ := h
  obtain ⟨u, rfl, t, rfl⟩ := vals1 r
  have hn := line63
  exact len_str (by omega) ⟨.int z.length, H, I.tok _, ⟨_, rfl⟩, q⟩
theorem call_list_of : CallR X (.type "list") (fun xs H Q => ∃ p ys, xs = [.ref p] ∧ (SqL X.K H p ys ∨ SqT X.K H p ys) ∧ ∀ l, H l = none → Q (.ref l) (upd H l (.lst ys))) := by
  intro pins s σ H xs us Q I r h
  obtain ⟨p, ys, rfl, hq, q⟩ := h
  obtain ⟨u, rfl, rx⟩ := vals1 r
  cases rx
  have fin : ∀ (its : List Value), Vals ys its → ys.length ≤ sizeLine → ∀ (h' : Heap) (c' : Nat), (∀ b o', s.heap.get? b = some o' → h'.get? b = some o') →
      h'.get? s.heap.objs.size = some { cls := .type "list", dict := none, data := .seq its.toArray c', slots := #[] } → EP X pins σ Q (.ref s.heap.objs.size) { s with heap := h' } := fun its r' hz h' c' kp e =>
    ⟨.ref s.heap.objs.size, _, I.laid (t' := s.toks) kp (Nat.le_refl _) (show ObjOk X.prog X.w _ h' _ (.lst ys) from ⟨hz, its, c', r', e⟩), rfl, q _ (I.hok.fresh (Nat.le_refl _))⟩
  rcases hq with hq | hq
  · obtain ⟨its, r', pl, hz⟩ := I.list hq
    have hlen := r'.length
    obtain ⟨o, ho, hc, n, hd⟩ := pl.isList
    exact call_list_seq p (.inl rfl) ho hc hd (fun h' c' kp e => fin its r' hz h' c' kp e) (by simp only [List.size_toArray] <;> omega)
  · obtain ⟨its, r', pl, hz⟩ := I.tuple hq
    have hlen := r'.length
    obtain ⟨o, ho, hc, n, hd⟩ := pl
    exact call_list_seq p (.inr rfl) ho hc hd (fun h' c' kp e => fin its r' hz h' c' kp e) (by simp only [List.size_toArray] <;> omega)
theorem call_tuple_of : CallR X (.type "tuple") (fun xs H Q => ∃ p ys, xs = [.ref p] ∧ ((SqL X.K H p ys ∧ ∀ l, H l = none → Q (.ref l) (upd H l (.tup ys))) ∨ (SqT X.K H p ys ∧ Q (.ref p) H))) := by
  intro pins s σ H xs us Q I r h
  obtain ⟨p, ys, rfl, h⟩ := h
  obtain ⟨u, rfl, rx⟩ := vals1 r
  cases rx
  rcases h with ⟨hq, q⟩ | ⟨hq, q⟩
  · obtain ⟨its, r', pl, hz⟩ := I.list hq
    have hlen := r'.length
    refine call_tuple_list pl.isList (fun h' kp => ?_) (by simp only [List.size_toArray] <;> omega)
    have I1 : Inv X pins σ H { s with heap := h' } := I.kept (t' := s.toks) kp
    have I2 : Inv X pins σ (upd H h'.objs.size (.tup ys)) { s with heap := h'.push { cls := .type "tuple", data := .seq its.toArray } } :=
      I1.laid (t' := s.toks) (fun b o e => Heap.get?_push_of_some _ e) (Nat.le_refl _) (show ObjOk X.prog X.w _ _ _ (.tup ys) from ⟨hz, its, r', IsTup.new _ _⟩)
    exact ⟨.ref h'.objs.size, _, I2, rfl, q _ (I1.hok.fresh (Nat.le_refl _))⟩
  · obtain ⟨its, r', pl, hz⟩ := I.tuple hq
    exact call_tuple_same pl ⟨.ref p, H, I, rfl, q⟩
def tyV (K : PySem.W.Frag) (T : String) (x : V) (H : Hp) : Prop := match x with
  | .str _ => T = "str"
  | .int _ => T = "int"
  | .ref p => (T = "list" ∧ ∃ xs, SqL K H p xs) ∨ (T = "tuple" ∧ ∃ o, K.lookup p = some o ∧ o.cls = .type "tuple" ∧ o.dict = none) ∨
      (T = "dict" ∧ ((∃ kvs, H p = some (.dK kvs)) ∨ ∃ kvs, H p = some (.dT kvs))) ∨ (T = "set" ∧ ∃ S n, H p = some (.set S n))
  | _ => False
theorem tyV_is {pins : List (Addr × Obj)} {σ : St} {H : Hp} {s : Shared} {T : String} {x : V} {v : Value} (I : Inv X pins σ H s) (r : RelV x v) (ty : tyV X.K T x H) :
    s.TypeIs v T ∧ ∀ a, v = .ref a → ∃ ob, s.heap.get? a = some ob ∧ ob.dict = none := by
  cases x with
  | str z =>
    obtain ⟨t, rfl⟩ := r
    cases (show T = "str" from ty)
    exact ⟨typeIs_str s z t, fun _ e => nomatch e⟩
  | int i =>
    obtain ⟨t, rfl⟩ := r
    cases (show T = "int" from ty)
    exact ⟨typeIs_int s i t, fun _ e => nomatch e⟩
  | ref p =>
    cases r
    rcases ty with ⟨rfl, xs, hq⟩ | ⟨rfl, o, hk, hc, hd⟩ | ⟨rfl, hk⟩ | ⟨rfl, S, n, hk⟩
    · obtain ⟨its, _, pl, _⟩ := I.list hq
      refine ⟨pl.isList.typeIs, fun a e => ?_⟩
      cases e
      obtain ⟨o, n, e, c, hd, _⟩ := pl
      exact ⟨o, e, hd⟩
    · refine ⟨⟨o, I.kIn p o hk, hc⟩, fun a e => ?_⟩
      cases e
      exact ⟨o, I.kIn _ o hk, hd⟩
    · have z : ∃ o, s.heap.get? p = some o ∧ o.ExactDict := by
        rcases hk with ⟨kvs, hk⟩ | ⟨kvs, hk⟩
        · obtain ⟨_, _, _, _, o, _, _, e, ex, _⟩ := I.hok p _ hk
          exact ⟨o, e, ex⟩
        · obtain ⟨_, _, _, _, o, _, _, e, ex, _⟩ := I.hok p _ hk
          exact ⟨o, e, ex⟩
      obtain ⟨o, e, ex⟩ := z
      refine ⟨⟨o, e, ex.1⟩, fun a e2 => ?_⟩
      cases e2
      exact ⟨o, e, ex.2.1⟩
    · obtain ⟨o, _, _, _, e, ex, _⟩ := I.hok p _ hk
      refine ⟨⟨o, e, ex.1⟩, fun a e2 => ?_⟩
      cases e2
      exact ⟨o, e, ex.2.1⟩
  | _ => exact False.elim ty
def tBM (K : PySem.W.Frag) (T : String) (r : V → List V → Hp → VK → Prop) (to : TE) (t : TA) : TE := fun σ H Q => to σ H fun x H1 => tyV K T x H1 ∧ t σ H1 fun xs H2 => r x xs H2 Q
variable {o e : Expr} {es : List Expr} {to : TE} {t : TA} {name : Str} {apos cpos : Pos} {T id : String} {r : V → List V → Hp → VK → Prop}
theorem pe_bm (pa : PlainAttrs T) (slot : Slot T name id) (hty : typeOf (.builtin id) = pure (.type "method_descriptor")) (hm : MtR X id r) (ho : PE X o to) (ha : PA X (e :: es) t)
    (hbase : attributeBase o name X.env (eval o X.env) = eval o X.env := by rfl)
    (hfew : ((backTo cpos (starEach (e :: es) X.env)).all (fun x => !x.1) && (backToKw cpos (keywordEach [] X.env)).all (fun x => x.1.isSome)
      && decide ((e :: es).length + ([] : List Keyword).length + (if ([] : List Keyword).isEmpty then 0 else 1) < 30)) = true := by rfl)
    (hline : (apos.endLine == cpos.line) = true := by rfl) (hs : starEach (e :: es) X.env = (false, eval e X.env) :: starEach es X.env := by rfl) (hplain : (backTo cpos (starEach es X.env)).any (·.1) = false := by rfl) :
    PE X (.Call (.Attribute o name apos) (e :: es) [] cpos) (tBM X.K T r to t) := by
  intro pins s σ H Q I h
  refine wpAny_Call_method_late hbase hfew hline rfl (thn (ho pins s σ H _ I h) fun v s1 ⟨x, H1, I1, r1, ty, q1⟩ => ?_)
  obtain ⟨h1, h2⟩ := tyV_is I1 r1 ty
  refine ⟨T, id, pa, slot, hty, h1, h2, ?_⟩
  have hA := ha cpos pins s1 σ H1 _ I1 q1
  rw [hs] at hA ⊢
  refine Calls.callWith_builtin (by show (false || (backTo cpos (starEach es X.env)).any (·.1)) = false; rw [hplain] <;> rfl) (Calls.evalArgs_plain ?_)
  exact thn hA fun us s2 ⟨vs, H2, I2, r2, q2⟩ => hm pins s2 σ H2 x vs v us Q I2 r1 r2 q2
/- xs.append(e), list.index on a module's tuple .. are MtR facts of 06m -/
end
end L2
namespace L2
open PySem PySem.Spec PyProof.Rows
def MtM (X : Cx) (id : String) (r : V → List V → Hp → VK → Prop) : Prop :=
  ∀ (pins : List (Addr × Obj)) (s : Shared) (σ : St) (H : Hp) (x : V) (xs : List V) (v : Value) (us : List Value) (Q : VK), Inv X pins σ H s → RelV x v → Vals xs us → r x xs H Q →
    wpAny (model X.prog X.w) X.A (call (.builtin id) (v :: us)) (EP X pins σ Q) X.xe s
theorem Vals.one : ∀ {x : V} {us : List Value}, Vals [x] us → ∃ u, us = [u] ∧ RelV x u
  | _, _, .cons r .nil => ⟨_, rfl, r⟩
theorem Vals.rep {xs : List V} {us : List Value} (h : Vals xs us) : ∀ k : Nat, Vals (List.replicate k xs).flatten (List.replicate k us).flatten
  | 0 => .nil
  | k + 1 => by
    rw [List.replicate_succ, List.replicate_succ, List.flatten_cons, List.flatten_cons]
    exact Vals.append h (Vals.rep h k)
theorem foldl_rep (its : List Value) : ∀ (k : Nat) (acc : List Value),
    List.foldl (fun x1 x2 => x1 ++ x2) acc.toArray (List.replicate k its.toArray) = (acc ++ (List.replicate k its).flatten).toArray
  | 0, acc => by simp
  | k + 1, acc => by
    have e : acc.toArray ++ its.toArray = (acc ++ its).toArray := by simp
    have e2 : (acc ++ its) ++ (List.replicate k its).flatten = acc ++ (List.replicate (k + 1) its).flatten := by
      rw [List.replicate_succ, List.flatten_cons, List.append_assoc]
    rw [← e2, ← foldl_rep its k (acc ++ its), ← e, List.replicate_succ, List.foldl_cons]
section
variable {X : Cx} {pins : List (Addr × Obj)} {σ : St} {H : Hp} {s : Shared} {l b : Addr} {xs ys zs : List V}
theorem Inv.lset {its its' : List Value} {n : Nat} {f : Array Value → Array Value} {t' : Nat} (I : Inv X pins σ H s) (hH : H l = some (.lst xs))
    (e : s.heap.get? l = some { cls := .type "list", data := .seq its.toArray n }) (hf : f its.toArray = its'.toArray) (hv : Vals ys its') (hz : ys.length ≤ sizeLine) :
    Inv X pins σ (upd H l (.lst ys)) { s with heap := s.heap.update l (Obj.mapSeq f), toks := t' } := by
  have q := PySem.IsL.update e f
  rw [hf] at q
  refine I.write (x := l) (e := l) (by rw [hH]; exact trivial) (.inl rfl) (fun b' u hb hu => (Heap.get?_update_other s.heap (Obj.mapSeq f) (Ne.symm hb)).trans hu) ⟨_, q⟩ ?_
  exact ⟨hz, its', _, hv, q⟩
theorem Inv.lnew {its : List Value} {t' : Nat} (I : Inv X pins σ H s) (hv : Vals ys its) (hz : ys.length ≤ sizeLine) :
    Inv X pins σ (upd H s.heap.objs.size (.lst ys)) { s with heap := s.heap.push { cls := .type "list", data := .seq its.toArray }, toks := t' } :=
  I.laid (fun _ _ q => Heap.get?_push_of_some _ q) (Nat.le_refl _) ⟨hz, its, 0, hv, Heap.get?_push_size _ rfl⟩
theorem Inv.fresh (I : Inv X pins σ H s) : H s.heap.objs.size = none := I.hok.fresh (Nat.le_refl _)
theorem Inv.lstM (I : Inv X pins σ H s) (hH : H l = some (.lst xs)) : xs.length ≤ sizeLine ∧ ∃ (its : List Value) (n : Nat), Vals xs its ∧ xs.length = its.length ∧ s.heap.get? l = some { cls := .type "list", data := .seq its.toArray n } := by
  obtain ⟨z, its, n, r, e⟩ := I.hok l _ hH
  exact ⟨z, its, n, r, r.length, e⟩
theorem notLongL {n : Nat} (h : n ≤ sizeLine) : Builtin.List.listTooLong n = false := by
  unfold Builtin.List.listTooLong
  exact decide_eq_false (by omega)
end
section
variable {X : Cx}
def rAppend : V → List V → Hp → VK → Prop := fun x vs H Q => ∃ l xs y, x = .ref l ∧ vs = [y] ∧ H l = some (.lst xs) ∧ xs.length < sizeLine ∧ Q .non (upd H l (.lst (xs ++ [y])))
theorem mt_append : MtM X "list.append" rAppend := by
  intro pins s σ H x vs v us Q I rx rv h
  obtain ⟨l, xs, y, rfl, rfl, hH, hz, q⟩ := h
  cases rx
  obtain ⟨u, rfl, ru⟩ := rv.one
  obtain ⟨z, its, n, r, hl, e⟩ := I.lstM hH
  refine call_meets F.slot_list_append ⟨_, e, rfl⟩ F.entry_list_append (F.args_list_append_2 _ _) (PySem.list_append l its.toArray n u (by rw [List.size_toArray]; omega)) ⟨e, ?_⟩
  refine ⟨.non, _, I.lset (its' := its ++ [u]) hH e (by simp) (r.append (.cons ru .nil)) ?_, rfl, q⟩
  rw [List.length_append, List.length_singleton]
  omega
def rExtend : V → List V → Hp → VK → Prop := fun x vs H Q => ∃ l b xs zs, x = .ref l ∧ vs = [.ref b] ∧ H l = some (.lst xs) ∧ H b = some (.lst zs) ∧ xs.length + zs.length ≤ sizeLine ∧ Q .non (upd H l (.lst (xs ++ zs)))
theorem mt_extend : MtM X "list.extend" rExtend := by
  intro pins s σ H x vs v us Q I rx rv h
  obtain ⟨l, b, xs, zs, rfl, rfl, hH, hB, hz, q⟩ := h
  cases rx
  obtain ⟨u, rfl, ru⟩ := rv.one
  cases ru
  obtain ⟨z, its, n, r, hl, e⟩ := I.lstM hH
  obtain ⟨z2, its2, n2, r2, hl2, e2⟩ := I.lstM hB
  have hsz : its.toArray.size + its2.toArray.size ≤ sizeLine := by rw [List.size_toArray, List.size_toArray]; omega
  have hlong : ¬ (!its.toArray.isEmpty && Builtin.List.listTooLong (its.toArray.size + its2.toArray.size)) = true := by
    rw [notLongL hsz, Bool.and_false]
    exact Bool.false_ne_true
  refine call_meets F.slot_list_extend ⟨_, e, rfl⟩ F.entry_list_extend (F.args_list_extend_2 _ _)
    (AutoSeq1.list_extend_list_list_0 l its.toArray n b its2.toArray n2 hlong (by rw [List.size_toArray]; omega) (by omega)) ⟨e, e2, ?_⟩
  refine ⟨.non, _, I.lset (its' := its ++ its2) hH e (by simp) (r.append r2) ?_, rfl, q⟩
  rw [List.length_append]
  omega
def rCat : R2 := fun x y H Q => ∃ l b xs zs, x = .ref l ∧ y = .ref b ∧ H l = some (.lst xs) ∧ H b = some (.lst zs) ∧ xs.length + zs.length ≤ sizeLine ∧ ∀ p, H p = none → Q (.ref p) (upd H p (.lst (xs ++ zs)))
theorem op_cat : OpR X (binaryOp .Add) rCat := by
  intro pins s σ H x y v u Q I rx ry h
  obtain ⟨l, b, xs, zs, rfl, rfl, hH, hB, hz, q⟩ := h
  cases rx
  cases ry
  obtain ⟨z, its, n, r, hl, e⟩ := I.lstM hH
  obtain ⟨z2, its2, n2, r2, hl2, e2⟩ := I.lstM hB
  refine PySem.P.add_list e e2 ?_ (by rw [List.size_toArray, List.size_toArray]; omega)
  have ea : its.toArray ++ its2.toArray = (its ++ its2).toArray := by simp
  rw [ea]
  exact ⟨.ref _, _, I.lnew (t' := s.toks) (r.append r2) (by rw [List.length_append]; omega), rfl, q _ I.fresh⟩
def rRep : R2 := fun x y H Q => ∃ l k xs, x = .ref l ∧ y = .int k ∧ H l = some (.lst xs) ∧ -(2 ^ 63) ≤ k ∧ k < 2 ^ 63 ∧ xs.length * k.toNat ≤ sizeLine ∧
  ∀ p, H p = none → Q (.ref p) (upd H p (.lst (List.replicate k.toNat xs).flatten))
theorem len_rep {α : Type} (xs : List α) (k : Nat) : (List.replicate k xs).flatten.length = k * xs.length := by
  induction k with
  | zero => simp
  | succ k ih => rw [List.replicate_succ, List.flatten_cons, List.length_append, ih, Nat.succ_mul, Nat.add_comm]
theorem op_rep : OpR X (binaryOp .Mult) rRep := by
  intro pins s σ H x y v u Q I rx ry h
  obtain ⟨l, k, xs, rfl, rfl, hH, h1, h2, hz, q⟩ := h
  cases rx
  obtain ⟨t, rfl⟩ := ry
  obtain ⟨z, its, n, r, hl, e⟩ := I.lstM hH
  have hlen : its.toArray.size * k.toNat ≤ sizeLine := by rw [List.size_toArray, ← hl]; exact hz
  have hcap : ¬ its.toArray.size * k.toNat > (2 ^ 63 - 1) / 8 := by
    have : (sizeLine : Nat) ≤ (2 ^ 63 - 1) / 8 := by decide
    omega
  have hfit : ¬ (!Builtin.List.listFitsIndex k) = true := by
    rw [fitsIndex_both h1 h2]
    exact Bool.false_ne_true
  have hlong : ¬ Builtin.List.listTooLong (its.toArray.size * k.toNat) = true := by
    rw [notLongL hlen]
    exact Bool.false_ne_true
  have hnew : List.foldl (fun x1 x2 => x1 ++ x2) #[] (List.replicate (if its.toArray.isEmpty = true then 0 else k.toNat) its.toArray) = (List.replicate k.toNat its).flatten.toArray := by
    have f0 : ∀ m : Nat, List.foldl (fun x1 x2 => x1 ++ x2) #[] (List.replicate m its.toArray) = (List.replicate m its).flatten.toArray := fun m => by
      have := foldl_rep its m []
      rw [List.nil_append] at this
      exact this
    rw [f0]
    cases its with
    | nil => simp
    | cons a r' => rw [if_neg (by simp)]
  refine wpAny_binaryOp_repeat_ref (T := "list") (U := "int") (by decide) ⟨_, e, rfl⟩ (fun s' => typeIs_int s' k t) noFill_list_mul F.fills_int_mul F.slot_int_rmul repeat_list F.slot_int_index.lookup
    (call_meets F.slot_int_rmul (typeIs_int s k t) F.entry_int_rmul (F.args_int_rmul_2 _ _) (int___rmul___int_list k t l its.toArray n)
      ⟨e, rfl, ⟨_, e, rfl⟩, call_meets F.slot_list_mul ⟨_, e, rfl⟩ F.entry_list_mul (F.args_list_mul_2 _ _) (AutoListH.list___mul___list_int_3 l its.toArray n k t hfit hcap hlong) ⟨e, ?_⟩⟩)
  rw [hnew]
  exact ⟨.ref _, _, I.lnew (t' := s.toks) (r.rep k.toNat) (by rw [len_rep, Nat.mul_comm]; exact hz), rfl, q _ I.fresh⟩
end
section
variable {prog : Program} {w : World} {A : Around} {E : Value → Shared → Prop} {s : Shared}
set_option maxRecDepth 100000 in
end
section
variable {X : Cx}
end
end L2
namespace Att
open PySem PySem.W PySem.Calls PyProof.Rows
theorem ints_of_wellAll {P : Params} {h : Heap} : ∀ (ns : List Int) (vs : List Value), WellAll P h vs (ns.map WData.int) → IntsAre vs ns := by
  intro ns
  induction ns with
  | nil =>
    intro vs w
    rw [List.map_nil] at w
    cases w
    exact .nil
  | cons n ns ih =>
    intro vs w
    rw [List.map_cons] at w
    cases w with
    | cons a b =>
      cases a
      exact .cons _ _ (ih _ b)
theorem script_of {l : OpenLaw} {n : Nat} (hn : l.most = some n) {P : Params} {h : Heap} {args : List WData} {vals : List Value}
    (hpre : l.row.toRowW.claim.pre args = true) (hwl : WellAll P h vals args) :
    ∃ a vs ns, vals = [Value.ref a] ∧ args = [WData.list (ns.map WData.int)] ∧ h.get? a = some { cls := .type "list", data := .seq vs.toArray } ∧ IntsAre vs ns ∧ ns.length ≤ n := by
  have hsh : WShape.hasAll [] args [.list .int] = true := (pre_splitW hpre).1
  have hc : l.pre.holds [] { args := args } = true := (pre_splitW hpre).2
  obtain ⟨d, r, rfl, h1, h2⟩ := hasAllW_cons hsh
  obtain rfl := hasAllW_nil h2
  obtain ⟨xs, rfl, h3⟩ := hasW_list h1
  obtain ⟨ns, rfl⟩ := items_int h3
  have hlen : ns.length ≤ n := by
    unfold OpenLaw.pre at hc
    have h4 : (WTm.not (.lt (.lit (.int (n : Int))) (.len (.arg 0)))).holds [] { args := [.list (ns.map .int)] } = true := by
      have h4 := (holds_andW hc).1
      rw [hn] at h4
      exact h4
    have h5 := condW_of h4 (w_not (w_lt w_lit (w_len_list (w_arg rfl))))
    rw [List.length_map] at h5
    refine Nat.le_of_not_lt fun q => ?_
    have q' : (n : Int) < ((ns.length : Nat) : Int) := by omega
    first
      | (rw [decide_eq_true q'] at h5; exact absurd h5 (by decide))
      | (simp at h5; omega)
  cases hwl with
  | cons w1 w2 =>
    cases w2
    cases w1 with
    | list ho hall => exact ⟨_, _, ns, rfl, rfl, ho, ints_of_wellAll ns _ hall, hlen⟩
theorem post_true (l : OpenLaw) (args : List WData) : l.row.toRowW.claim.post args (.bool true) args = true :=
  postW_of (r := l.row.toRowW) (X := (true == true))
    (show WShape.has [] (.bool true) .bool = true by first | rfl | decide | simp [WShape.has, WShape.arms, WShape.armsAll])
    (show (WTm.eq .res (.lit (.bool true))).value [] { args := args, res := some (.bool true), after := args } = some (.bool (true == true)) from w_eq_bool (w_res rfl) w_lit) rfl
theorem attach_call {l : OpenLaw} {n : Nat} {q : Program} {loose : List Str} {XP : (Str → Option Value) → Heap → Prop} {YP : World → Heap → Prop} {d : DefRec}
    (hn : l.most = some n) (hdf : d.params.defaults = [])
    (call : ∀ (w : World) (s₀ s₁ : Shared) (mg mb : Str → Option Value) (fa : Addr) (o : Obj) (pm cd doc : Value) (a : Addr) (vs : List Value) (ns : List Int),
      Ground q loose [] XP w s₀ mg mb s₁.heap → YP w s₁.heap →
      s₁.heap.get? fa = some o → o.data = .func (docDef d.name d.params d.body d.scope pm cd doc) → s₁.heap.CodeRec cd d.name → mg d.name = some (.ref fa) →
      s₁.heap.get? a = some { cls := .type "list", data := .seq vs.toArray } → IntsAre vs ns → ns.length ≤ n → s₁.gens = #[] →
      codeAny (model l.prog w) callerA (.call (.ref fa) ⟨[.ref a], []⟩) (fun r s' => r = .ok (.ret (.bool true)) ∧ OldK s₁.heap s'.heap ∧ s'.os = s₁.os ∧ AllBare s'.gens) s₁) :
    WalkO q loose XP YP l.row.toRowW d [] (fun f vs => PySem.call f vs) := by
  intro w s₀ s₁ mg mb G Y fa o pm cd doc dV kV ho hd hcd hD hmg hg args vals as hpre hlay hrd hwl hlo
  obtain rfl : dV = .none := Dflts.none hD hdf
  obtain rfl : kV = .none := Dflts.noKw hD
  obtain ⟨a, vs, ns, rfl, rfl, hobj, hints, hlen⟩ := script_of hn hpre hwl
  refine enter_call (codeAny_mono (call w s₀ s₁ mg mb fa o pm cd doc a vs ns G Y ho (fd_plain hd) hcd hmg hobj hints hlen hg) fun r s' hq => ?_)
  obtain ⟨rfl, h2, h3, h4⟩ := hq
  exact ⟨.inl ⟨.bool true, .bool true, [], rfl, fun _ => rfl, .bool true, post_true l _, fun _ => ⟨List.Pairwise.nil, fun _ hm => (nomatch hm)⟩⟩, h2, h3, h4⟩
section
variable {prog : Program} {w : World} {A : Around} {E : Value → Shared → Prop} {s : Shared} {K : Frag}
end
end Att
namespace L2
open PySem PySem.Spec PyProof.Rows
theorem vals_ints : ∀ {vs : List Value} {ns : List Int}, IntsAre vs ns → Vals (ns.map V.int) vs
  | _, _, .nil => .nil
  | _, _, .cons n t h => .cons ⟨t, rfl⟩ (vals_ints h)
def Only (H : Hp) : Prop := ∀ b, H b = none ∨ ∃ o xs, H b = some (.frz o (.lst xs))
theorem law_call {P : Program} {w : World} {K : PySem.W.Frag} {mg mb : Str → Option Value} {CX : CXT} {k : Nat} {fa a : Addr} {fd : FuncData} {x : Str} {sp : Sp} {s₁ : Shared} {vs : List Value} {ns : List Int}
    (KX : K.In s₁.heap) (hns : s₁.heap.Ns mainGlobals mg) (hb : s₁.heap.Ns builtinsNs mb) (hbb : ∀ x : Str, x ≠ "__name__" → mb x = bootBuiltins x) (hlim : s₁.heap.NoLimit) (hg : s₁.gens = #[])
    (ha : s₁.heap.get? a = some { cls := .type "list", data := .seq vs.toArray }) (hi : IntsAre vs ns) (hl : ns.length ≤ sizeLine) (hr : Room k callerA)
    (F : ∀ base : Heap, K.In base → base.Ns mainGlobals mg → FnOk P w K mg base CX k fa fd [x] sp) (hbind : ∀ (s : Shared) (u : Value), BindsTo s fd ⟨[u], []⟩ [(x, u)])
    (hsp : ∀ H : Hp, Only H → SqL K H a (ns.map V.int) → sp [.ref a] H (fun v _ => v = .bl true) fun _ _ _ => False)
    (hCX : ∀ H e s', CX [] H s₁ (fun _ _ _ => False) e s' → False) :
    codeAny (model P w) callerA (.call (.ref fa) ⟨[.ref a], []⟩) (fun r s' => r = .ok (.ret (.bool true)) ∧ OldK s₁.heap s'.heap ∧ s'.os = s₁.os ∧ AllBare s'.gens) s₁ := by
  have rv := vals_ints hi
  have lenV := hi.length
  -- from an abstract heap in which nothing but the script may be tracked
  have core : ∀ H : Hp, Only H → SqL K H a (ns.map V.int) → HOk P w H s₁.heap → (∀ b, H b ≠ none → b = a) → (H a ≠ none → K.lookup a = none) →
      codeAny (model P w) callerA (.call (.ref fa) ⟨[.ref a], []⟩) (fun r s' => r = .ok (.ret (.bool true)) ∧ OldK s₁.heap s'.heap ∧ s'.os = s₁.os ∧ AllBare s'.gens) s₁ := by
    intro H hO hS hok hA hK
    have base_of : ∀ {b : Addr} {o : Obj}, s₁.heap.get? b = some o → H b = none → (hidT s₁.heap H).get? b = some o := fun e n => hidT_get e n
    have noA : ∀ {b : Addr} {o : Obj} {es : Array DictEntry} {ep : Nat}, s₁.heap.get? b = some o → o.data = .dict es ep → H b = none := fun {b o es ep} e d => by
      cases q : H b with
      | none => rfl
      | some u =>
        have e' : b = a := hA b (by rw [q]; simp)
        subst e'
        rw [ha] at e; cases e
        have d' : Data.seq vs.toArray _ = Data.dict es ep := d
        cases d'
    have nsK : ∀ {b : Addr} {m : Str → Option Value}, s₁.heap.Ns b m → (hidT s₁.heap H).Ns b m := fun {b m} ⟨o, es, ep, e, d, r⟩ => ⟨o, es, ep, base_of e (noA e d), d, r⟩
    have hKb : K.In (hidT s₁.heap H) := fun b o e => base_of (KX b o e) (by
      cases q : H b with
      | none => rfl
      | some u =>
        have e' : b = a := hA b (by rw [q]; simp)
        subst e'
        rw [hK (by rw [q]; simp)] at e; cases e)
    have hM : Mod K mg (hidT s₁.heap H) := ⟨hKb, nsK hns, ⟨mb, nsK hb, hbb⟩, let ⟨mc, h1, h2⟩ := hlim; ⟨mc, nsK h1, h2⟩⟩
    have e0 : Env0 P w K mg (hidT s₁.heap H) callerA [] s₁ H := ⟨rfl, hM, fun b o e => of_hidT e, Nat.le_of_eq (hidT_size _ _), trivial, fun b hb => absurd (show b ∈ ([] : List Addr) from hb) (by simp), hok, .of_eq hg⟩
    refine codeAny_mono ((F _ hKb (nsK hns)).run callerA [] s₁ H ⟨[.ref a], []⟩ [.ref a] [.ref a] _ _ hr e0 (hbind s₁ (.ref a)) (.cons rfl .nil) (hsp H hO hS)) fun r s' h => ?_
    cases r with
    | error e => exact (hCX H e s' h).elim
    | ok fl =>
      cases fl with
      | next => exact False.elim h
      | brk => exact False.elim h
      | cont => exact False.elim h
      | ret u =>
        obtain ⟨v, H', os, bare, un, hok', r', q⟩ := h
        have q' : v = .bl true := q
        subst q'
        obtain rfl : u = Value.bool true := r'
        refine ⟨rfl, OldK.of_keep fun b o e => ?_, os, bare⟩
        cases q : H b with
        | none => exact un.keep b o e q (by intro z; exact absurd (show b ∈ ([] : List Addr) from z) (by simp)) (by simp)
        | some u =>
          rcases hO b with z | ⟨ob, xs, z⟩
          · rw [q] at z; cases z
          · have z2 := un.frzs b ob _ z
            obtain ⟨e1, _⟩ := hok b _ z
            obtain ⟨e2, _⟩ := hok' b _ z2
            rw [e] at e1; cases e1
            exact e2
  cases hk : K.lookup a with
  | some o =>
    -- the script is one of the module's own objects
    have e := KX a o hk
    rw [ha] at e
    cases e
    refine core (fun _ => none) (fun _ => .inl rfl) (.inr ⟨_, vs.toArray, _, hk, rfl, rfl, rfl, by rw [List.size_toArray, lenV]; exact hl, by simpa using rv⟩) (fun b u z => by have z' : (none : Option HO) = some u := z; cases z') (fun b z => absurd rfl z) fun z => absurd rfl z
  | none =>
    refine core (fun b => if b = a then some (.frz { cls := .type "list", data := .seq vs.toArray } (.lst (ns.map V.int))) else none) (fun b => ?_) (.inl (.inr ⟨{ cls := .type "list", data := .seq vs.toArray }, if_pos rfl⟩)) (fun b u z => ?_) (fun b z => ?_) fun _ => hk
    · by_cases hb : b = a
      · exact .inr ⟨_, _, if_pos hb⟩
      · exact .inl (if_neg hb)
    · by_cases hb : b = a
      · have z' := (if_pos hb).symm.trans z
        cases z'
        subst hb
        exact ⟨ha, by rw [List.length_map]; exact hl, vs, _, rv, ha⟩
      · have z' := (if_neg hb).symm.trans z
        cases z'
    · by_cases hb : b = a
      · exact hb
      · exact absurd (if_neg hb) z
end L2
namespace L2
open PySem PySem.Spec PyProof.Rows
theorem walk_of {l : PySem.W.OpenLaw} {n k : Nat} {q : Program} {loose : List Str} {XP : (Str → Option Value) → Heap → Prop} {YP : World → Heap → Prop} {d : DefRec} {K : Params → PySem.W.Frag} {CX : World → CXT} {sp : World → Sp} {x : Str}
    (hn : l.most = some n) (hn2 : n ≤ sizeLine) (hdf : d.params.defaults = []) (hr : Room k callerA)
    (hY : ∀ (w : World) (h : Heap), YP w h → (K w.params).In h)
    (F : ∀ (w : World) (mg : Str → Option Value) (fa : Addr) (h : Heap), (K w.params).In h → h.Ns mainGlobals mg → mg d.name = some (.ref fa) →
      ∃ fd : FuncData, (∀ (s : Shared) (u : Value), BindsTo s fd ⟨[u], []⟩ [(x, u)]) ∧
        ∀ base : Heap, (K w.params).In base → base.Ns mainGlobals mg → FnOk l.prog w (K w.params) mg base (CX w) k fa fd [x] (sp w))
    (hsp : ∀ (w : World) (H : Hp) (a : Addr) (ns : List Int), ns.length ≤ n → Only H → SqL (K w.params) H a (ns.map V.int) → sp w [.ref a] H (fun v _ => v = .bl true) fun _ _ _ => False)
    (hCX : ∀ (w : World) (H : Hp) (s : Shared) (e : Value) (s' : Shared), CX w [] H s (fun _ _ _ => False) e s' → False) :
    PySem.W.WalkO q loose XP YP l.row.toRowW d [] (fun f vs => PySem.call f vs) := by
  refine Att.attach_call hn hdf fun w s₀ s₁ mg mb fa o pm cd doc a vs ns G Y ho hd hcd hmg hobj hints hlen hg => ?_
  have KX := hY w _ Y
  obtain ⟨fd, hb, hF⟩ := F w mg fa _ KX G.T.g hmg
  exact law_call KX G.T.g G.T.b G.T.builtins G.T.nolimit hg hobj hints (Nat.le_trans hlen hn2) hr hF hb (fun H hO hS => hsp w H a ns hlen hO hS) fun H e s' => hCX w H s₁ e s'
end L2
/- THE LAST THEOREM (shape; LID, My.* are yours):
   My.Adr: a structure of the addresses that your layer names (classes, functions); My.Txt K t: a structure (Prop) of the equations over K;
   My.txt_mk : {K} {implicit addresses ..} (e1 : nsIn K mainGlobals "law" = some (some (.ref f))) (e2 : K.lookup f = some ⟨oc, od, .func (fnOf "law" "law" params body scope dV kV doc pm an cdv ct), sl⟩) (e3 : codeIn K cdv "law" = true) .. : ∃ t, My.Txt K t
set_option maxRecDepth 100000 in
set_option maxHeartbeats 0 in
theorem PySem.Challenge.cw_LID_holds : PySem.Challenge.rw_LID.Holds := by
  w_on; o_law; k_head; (case hw => w_witness2)
  k_fill
  refine L2.walk_of (l := PySem.Challenge.rw_LID) (n := 63) (k := 40) (x := "script") (CX := fun w => ..) (sp := fun _ => My.sp_law) rfl (by decide) rfl ⟨rfl, by decide, by decide⟩ (fun w h Y => PySem.W.kIn_of Y) ?F ?S ?C
  case F =>
    intro w mg fa h KX G hmg
    have T : ∃ t, My.Txt (L2.KOf KX) t := by
      dsimp only [L2.KOf]                          -- K must stand as «<heap const> w.params» for k_is
      refine' My.txt_mk ?e1 ?e2 ?e3 ..
      (case e1 => PySem.W.k_is)                    -- in the order: a name -> its address -> its object -> its parts
      (case e2 => PySem.W.k_is)
      ..
    obtain ⟨t, T⟩ := T
    have e0 := hmg.symm.trans (PySem.W.mg_of KX G T.law)
    cases e0                                       -- fa is the law's own address
    exact ⟨_, fun s u => .of_eq rfl, fun base kb nb => My.law_fn T kb nb⟩     -- if «.of_eq rfl» comes too early: refine' ⟨_, ?b, fun base kb nb => My.law_fn T kb nb⟩; exact fun s u => .of_eq rfl
  case S => exact fun w H a ns hl hO hS => ..
  case C => exact ..
(the tactic k_is has no namespace: write k_is) -/
namespace L2
open PySem PySem.Spec PyProof.Rows
def defArgs (s : Stmt) : Arguments := match s with
  | .FunctionDef _ a _ _ _ _ _ _ _ _ => a
  | _ => { posonlyargs := [], args := [], vararg := none, kwonlyargs := [], kw_defaults := [], kwarg := none, defaults := [] }
def defBody (s : Stmt) : List Stmt := match s with
  | .FunctionDef _ _ b _ _ _ _ _ _ _ => b
  | _ => []
def defScope (s : Stmt) : Scope := match s with
  | .FunctionDef _ _ _ _ _ _ sc _ _ _ => sc
  | _ => { kind := .function, names := [], isGenerator := false, isCoroutine := false }
abbrev CX0 : CXT := fun _ _ _ _ _ _ => False
abbrev E0 : XK := fun _ _ _ => False
theorem pass0 {X : Cx} : Passes CX0 X E0 := fun _ _ _ _ _ _ _ h => h.elim
structure Fun (K : PySem.W.Frag) (x qual : Str) (st : Stmt) (f : Addr) (fd : FuncData) : Prop where
  ex : ∃ (oc : Value) (od : Option Addr) (kV doc pm : Value) (an : Option Addr) (cdv ct : Value) (osl : Array (Option Value)),
    fd = PySem.W.fnOf x qual (defArgs st) (defBody st) (defScope st) .none kV doc pm an cdv ct ∧ K.lookup f = some ⟨oc, od, .func fd, osl⟩ ∧ PySem.W.codeIn K cdv qual = true
  kp : PySem.W.keepIn K (.ref f) = true
section
variable {P : Program} {w : World} {K : PySem.W.Frag} {mg : Str → Option Value} {base : Heap}
theorem Fun.ok {x qual : Str} {st : Stmt} {f : Addr} {fd : FuncData} {N ps : List Str} {k : Nat} {sp : Sp} (F : Fun K x qual st f fd) (S : FnScope N ps (defScope st)) (len : ∀ vs H Q E, sp vs H Q E → vs.length = ps.length)
    (hbody : ∀ (cdv : Value) (A : Around) (outer : List Env) (s : Shared) (H : Hp) (vs : List V) (Q : VK) (E : XK), Room k (A.deeper (envOfC qual (defScope st) s.heap.objs.size f cdv)) → sp vs H Q E →
      ∃ t, PSs (cxOf CX0 P w K mg base N qual (defScope st) f cdv A outer s H E).nox (defBody st) t ∧ t { nx := fun _ H' => Q .non H', rt := Q } (start N vs) H) : FnOk P w K mg base CX0 (k + 1) f fd ps sp := by
  obtain ⟨oc, od, kV, doc, pm, an, cdv, ct, osl, rfl, lk, hcd⟩ := F.ex
  refine fn_of lk hcd S len fun A outer s H vs Q E hr hsp => ?_
  obtain ⟨t, h, q⟩ := hbody cdv A outer s H vs Q E hr hsp
  exact ⟨t, h.nox, q⟩
theorem Fun.binds {x qual : Str} {st : Stmt} {f : Addr} {fd : FuncData} {ps : List Str} (F : Fun K x qual st f fd)
    (h : ∀ (kV doc pm : Value) (an : Option Addr) (cdv ct : Value) (us : List Value), us.length = ps.length → bindArgs (PySem.W.fnOf x qual (defArgs st) (defBody st) (defScope st) .none kV doc pm an cdv ct) ⟨us, []⟩ = pure (ps.zip us)) : Binds K fd ps [] := by
  obtain ⟨oc, od, kV, doc, pm, an, cdv, ct, osl, rfl, lk, hcd⟩ := F.ex
  exact .all (h kV doc pm an cdv ct)
theorem fun_mk {x qual : Str} {st : Stmt} {f : Addr} {oc : Value} {od an : Option Addr} {osl : Array (Option Value)} {kV doc pm cdv ct : Value} (l : K.lookup f = some ⟨oc, od, .func (PySem.W.fnOf x qual (defArgs st) (defBody st) (defScope st) .none kV doc pm an cdv ct), osl⟩)
    (c : PySem.W.codeIn K cdv qual = true) (k : PySem.W.keepIn K (.ref f) = true) : Fun K x qual st f (PySem.W.fnOf x qual (defArgs st) (defBody st) (defScope st) .none kV doc pm an cdv ct) := ⟨⟨oc, od, kV, doc, pm, an, cdv, ct, osl, rfl, l, c⟩, k⟩
end
theorem hu_of {A : Around} {k : Nat} (hr : Room k A) : A.units + 1 < cLine := Nat.lt_of_le_of_lt (Nat.add_le_add_left (by decide : 1 ≤ 64) _) hr.units
section
variable {X : Cx}
theorem pv (i : Nat) {x : Str} {pos : Pos} (hN : X.N[i]? = some x := by rfl) (hv : Vis X.env.scope x := by first | exact Or.inl rfl | exact Or.inr (Or.inl rfl) | exact Or.inr (Or.inr rfl)) (hd : (x == ("__debug__" : Str)) = false := by decide)
    (hcd : (x == ("__classdict__" : Str)) = false := by decide) : PE X (.Name x pos) (tVar i) := pe_var hN hv hd hcd
end
theorem iteF {A B : Prop} (h : B) : if false = true then A else B := by
  rw [if_neg Bool.false_ne_true]
  exact h
def Same (H H' : Hp) : Prop := ∀ b o, H b = some o → H' b = some o
theorem Same.refl (H : Hp) : Same H H := fun _ _ h => h
theorem Same.trans {H H1 H2 : Hp} (a : Same H H1) (b : Same H1 H2) : Same H H2 := fun c o h => b c o (a c o h)
theorem Same.free {H H' : Hp} (e : Same H H') {l : Addr} (h : H' l = Option.none) : H l = Option.none := by
  cases q : H l with
  | none => rfl
  | some o =>
    rw [e l o q] at h
    cases h
theorem Same.seq {K : PySem.W.Frag} {H H' : Hp} {a : Addr} {xs : List V} (e : Same H H') (h : SqL K H a xs) : SqL K H' a xs := by
  rcases h with (h | ⟨o, h⟩) | h
  · exact .inl (.inl (e _ _ h))
  · exact .inl (.inr ⟨o, e _ _ h⟩)
  · exact .inr h
end L2
namespace L2
open PySem
def clTo (cells : List (Str × Addr)) : List (Str × NameKind) → List (Str × Addr) → List (Str × Addr)
  | [], acc => acc
  | (n, k) :: r, acc => if k == .free then clTo cells r ((n, (cells.lookup n).getD 0) :: acc) else clTo cells r acc
theorem closureFor_to {scope : Scope} {env : Env} (h : ∀ y ∈ scope.names, y.2 = .free → ∃ c, env.cells.lookup y.1 = some c) :
    closureFor scope env = pure (clTo env.cells scope.names []) := by
  simp only [closureFor]
  generalize ([] : List (Str × Addr)) = acc
  revert h
  generalize scope.names = l
  intro h
  have key : ∀ (l : List (Str × NameKind)) (acc : List (Str × Addr)), (∀ y ∈ l, y.2 = .free → ∃ c, env.cells.lookup y.1 = some c) →
      (forIn l acc (fun x r => if (x.snd == NameKind.free) = true then do
            let a ← cellOf env x.fst
            pure (ForInStep.yield ((x.fst, a) :: r)) else pure (ForInStep.yield r)) : Sem _) = pure (clTo env.cells l acc) := by
    intro l
    induction l with
    | nil => intro acc _; rfl
    | cons y l ih =>
      intro acc h
      obtain ⟨n, k⟩ := y
      rw [List.forIn_cons]
      have hr := fun y hy => h y (List.mem_cons_of_mem _ hy)
      by_cases hk : (k == NameKind.free) = true
      · obtain ⟨c, hc⟩ := h (n, k) List.mem_cons_self (by simpa using hk)
        have hc' : env.cells.lookup n = some c := hc
        have e1 : cellOf env n = pure c := by unfold cellOf; rw [hc']
        simp only [hk, if_true, e1, clTo, hc', Option.getD_some, pure_bind]
        exact ih _ hr
      · simp only [Bool.not_eq_true] at hk
        simp only [hk, Bool.false_eq_true, if_false, clTo, pure_bind]
        exact ih _ hr
  rw [key l acc h]
  rfl
theorem clTo_free {cells : List (Str × Addr)} {x : Str} : ∀ (l : List (Str × NameKind)) (acc : List (Str × Addr)), ((x, NameKind.free) ∈ l ∨ acc.lookup x = some ((cells.lookup x).getD 0)) →
    (clTo cells l acc).lookup x = some ((cells.lookup x).getD 0)
  | [], acc, h => by
    rcases h with h | h
    · cases h
    · exact h
  | (n, k) :: r, acc, h => by
    unfold clTo
    by_cases hk : (k == NameKind.free) = true
    · rw [if_pos hk]
      refine clTo_free r _ ?_
      by_cases e : x = n
      · subst e; right; simp
      · rcases h with h | h
        · left
          rcases List.mem_cons.mp h with h | h
          · injection h with h1 _; exact absurd h1 e
          · exact h
        · right
          rw [List.lookup_cons, beq_eq_false_iff_ne.mpr e]; exact h
    · rw [if_neg hk]
      refine clTo_free r _ ?_
      rcases h with h | h
      · left
        rcases List.mem_cons.mp h with h | h
        · injection h with _ h2; rw [← h2] at hk; exact absurd rfl hk
        · exact h
      · exact .inr h
theorem clTo_of {cells : List (Str × Addr)} {x : Str} {c : Addr} : ∀ (l : List (Str × NameKind)) (acc : List (Str × Addr)), (clTo cells l acc).lookup x = some c →
    acc.lookup x = some c ∨ ((x, NameKind.free) ∈ l ∧ c = (cells.lookup x).getD 0)
  | [], acc, h => .inl h
  | (n, k) :: r, acc, h => by
    unfold clTo at h
    by_cases hk : (k == NameKind.free) = true
    · rw [if_pos hk] at h
      rcases clTo_of r _ h with q | ⟨q1, q2⟩
      · by_cases e : x = n
        · subst e
          rw [List.lookup_cons, beq_self_eq_true] at q
          have hk' : k = .free := by simpa using hk
          subst hk'
          exact .inr ⟨List.mem_cons_self, (Option.some.inj q).symm⟩
        · rw [List.lookup_cons, beq_eq_false_iff_ne.mpr e] at q
          exact .inl q
      · exact .inr ⟨List.mem_cons_of_mem _ q1, q2⟩
    · rw [if_neg hk] at h
      rcases clTo_of r _ h with q | ⟨q1, q2⟩
      · exact .inl q
      · exact .inr ⟨List.mem_cons_of_mem _ q1, q2⟩
section
variable {prog : Program} {w : World} {A : Around}
  {R : Result → Shared → Prop} {s : Shared}
theorem compLoop_any {M : Model} (hM : M = model prog w) {elt target iter : Expr} {ifs : List Expr} {scope : Scope} {pos : Pos} {it acc : Value} {env : Env} (I : Nat → Shared → Prop)
    (turn : ∀ n s, I n s → wpAny M A (pyNext it) (fun r z₁ => match r with
      | none => R (.ok .next) z₁
      | some v => wpAny M A (letOwnedTupleGo target it v) (fun _ z₀ => wpAny M A (assign target env v) (fun _ z₂ =>
          wpAny M A (forIn ifs true fun c r => if r = true then do let ok ← isTrue c env (eval c env); pure (ForInStep.yield ok) else pure (ForInStep.yield r)) (fun ok z₃ =>
            if ok = true then wpAny M A (eval elt env) (fun x z₄ =>
              wpAny M A (call (.builtin "list.append") [acc, x]) (fun _ z₅ => ∃ m, m < n ∧ I m z₅) (notedBy M A env fun e s' => R (.error e) s') z₄) (notedBy M A env fun e s' => R (.error e) s') z₃
            else ∃ m, m < n ∧ I m z₃) (notedBy M A env fun e s' => R (.error e) s') z₂) (notedBy M A env fun e s' => R (.error e) s') z₀) (notedBy M A env fun e s' => R (.error e) s') z₁) (notedBy M A env fun e s' => R (.error e) s') s)
    (n : Nat) (h : I n s) :
    codeAny M A (.compLoop (.ListComp elt [⟨target, iter, ifs, 0⟩] scope pos) 0 it acc env) R s := by
  subst hM
  refine codeAny_loop rfl I (fun k z hz => ?_) n h
  show wpAny _ A (Sem.onRaise (compTurn (.ListComp elt [⟨target, iter, ifs, 0⟩] scope pos) 0 it acc env) _) _ _ z
  rw [compTurn_list]
  refine wpAny_noted (wpAny_bind (wpAny_standAt (wpAny_bind (wpAny_mono (turn k z hz) (fun r z1 g1 => ?_) fun _ _ e => e))))
  match r, g1 with
  | none, g1 => exact wpAny_pure g1
  | some v, g1 =>
    refine wpAny_bind (wpAny_mono g1 (fun _ z2 g2 => wpAny_bind (wpAny_mono g2 (fun _ z3 g3 => wpAny_bind (wpAny_mono g3 (fun b z4 g4 => ?_) fun _ _ e => e)) fun _ _ e => e)) fun _ _ e => e)
    match b, g4 with
    | false, g4 => exact wpAny_pure ⟨rfl, g4⟩
    | true, g4 =>
      refine wpAny_bind (wpAny_bind (wpAny_mono g4 (fun y z5 g5 => wpAny_bind (wpAny_mono g5 (fun _ z6 g6 => ?_) fun _ _ e => e)) fun _ _ e => e))
      exact wpAny_pure (wpAny_pure ⟨rfl, g6⟩)
end
end L2
namespace L2
open PySem PySem.Spec PyProof.Rows
def pick1 (σ : St) : Option Nat → Option V
  | none => none
  | some j => match σ[j]? with
    | some (some v) => some v
    | _ => none
def pick (ix : List (Option Nat)) (σ : St) : St := ix.map (pick1 σ)
theorem pick_get {ix : List (Option Nat)} {σ : St} {i : Nat} {v : V} (h : (pick ix σ)[i]? = some (some v)) : ∃ j, ix[i]? = some (some j) ∧ σ[j]? = some (some v) := by
  unfold pick at h
  rw [List.getElem?_map] at h
  cases e : ix[i]? with
  | none => rw [e] at h; cases h
  | some o =>
    rw [e] at h
    have h' : pick1 σ o = some v := Option.some.inj h
    cases o with
    | none => cases h'
    | some j =>
      refine ⟨j, rfl, ?_⟩
      unfold pick1 at h'
      dsimp only at h'
      split at h'
      · rename_i q; rw [q, h']
      · cases h'
def cxComp (X : Cx) (pins : List (Addr × Obj)) (scope : Scope) (N' : List Str) (fp : List Addr) (s3 : Shared) (H3 : Hp) : Cx where
  prog := X.prog
  w := X.w
  K := X.K
  mg := X.mg
  base := X.base
  A := X.A
  N := N'
  s₀ := s3
  H₀ := H3
  env := compEnvC scope (clTo X.env.cells scope.names []) s3.heap.objs.size X.env
  outer := X.stack
  stack := X.stack
  ex := fp
  fn := fun _ => false
  calm := X.calm
  pn := X.pn ++ pins
  xe := fun _ _ => False
def linkOk (names : List (Str × NameKind)) (N : List Str) : List (Option Nat) → List Str → Bool
  | [], [] => true
  | none :: r, _ :: q => linkOk names N r q
  | some j :: r, x :: q => N[j]? == some x && names.lookup x == some .free && linkOk names N r q
  | _, _ => false
def compOk (sc : Scope) (N : List Str) (scope : Scope) (N' : List Str) (ix : List (Option Nat)) : Bool :=
  scope.names.all (fun y => y.2 != .cell) && scope.names.all (fun y => y.2 != .local || scope.names.lookup y.1 == some .local)
    && scope.names.all (fun y => y.2 != .free || (sc.names.lookup y.1 == some .cell || sc.names.lookup y.1 == some .free)) && linkOk scope.names N ix N'
theorem linkOk_len {names : List (Str × NameKind)} {N : List Str} : ∀ {ix : List (Option Nat)} {N' : List Str}, linkOk names N ix N' = true → ix.length = N'.length
  | [], [], _ => rfl
  | none :: r, _ :: q, h => by simp only [linkOk] at h; simp [linkOk_len h]
  | some j :: r, x :: q, h => by simp only [linkOk, Bool.and_eq_true] at h; simp [linkOk_len h.2]
  | [], _ :: _, h => by simp [linkOk] at h
  | none :: _, [], h => by simp [linkOk] at h
  | some _ :: _, [], h => by simp [linkOk] at h
theorem linkOk_get {names : List (Str × NameKind)} {N : List Str} : ∀ {ix : List (Option Nat)} {N' : List Str} {i j : Nat} {x : Str}, linkOk names N ix N' = true → ix[i]? = some (some j) → N'[i]? = some x →
    N[j]? = some x ∧ names.lookup x = some .free
  | [], [], _, _, _, _, e, _ => by simp at e
  | none :: r, _ :: q, 0, _, _, _, e, _ => by simp at e
  | none :: r, _ :: q, i + 1, _, _, h, e, e' => by
    simp only [linkOk] at h
    exact linkOk_get h (by simpa using e) (by simpa using e')
  | some j :: r, x :: q, 0, _, _, h, e, e' => by
    simp only [linkOk, Bool.and_eq_true] at h
    simp at e e'
    subst e; subst e'
    exact ⟨by simpa using h.1.1, by simpa using h.1.2⟩
  | some j :: r, x :: q, i + 1, _, _, h, e, e' => by
    simp only [linkOk, Bool.and_eq_true] at h
    exact linkOk_get h.2 (by simpa using e) (by simpa using e')
  | [], _ :: _, _, _, _, h, _, _ => by simp [linkOk] at h
  | none :: _, [], _, _, _, h, _, _ => by simp [linkOk] at h
  | some _ :: _, [], _, _, _, h, _, _ => by simp [linkOk] at h
theorem mem_of_lookup {α β : Type} [BEq α] [LawfulBEq α] {x : α} {k : β} : ∀ {l : List (α × β)}, l.lookup x = some k → (x, k) ∈ l
  | [], h => by cases h
  | (n, k') :: r, h => by
    rw [List.lookup_cons] at h
    by_cases e : x == n
    · rw [e] at h
      have e' : x = n := by simpa using e
      cases h
      rw [e']; exact List.mem_cons_self
    · have e' : (x == n) = false := by simpa using e
      rw [e'] at h
      exact List.mem_cons_of_mem _ (mem_of_lookup h)
theorem relabel_back {env : Env} {x : Str} {k : NameKind} : ∀ {names : List (Str × NameKind)}, (∀ y ∈ names, y.2 ≠ .cell) →
    (names.map fun (n, k) => if (k == NameKind.free && env.scope.kind == .function && env.kindOf n == some .cell) then (n, NameKind.cell) else (n, k)).lookup x = some k → (k = .cell ∨ k = .free) → (x, NameKind.free) ∈ names
  | [], _, h, _ => by cases h
  | (n, k') :: r, hc, h, hk => by
    rw [List.map_cons] at h
    have hc' := fun y hy => hc y (List.mem_cons_of_mem _ hy)
    have hk' : k' ≠ .cell := hc (n, k') List.mem_cons_self
    by_cases e : x = n
    · subst e
      dsimp only at h
      split at h
      · rename_i q
        rw [List.lookup_cons, beq_self_eq_true] at h
        have : k' = .free := by simp only [Bool.and_eq_true] at q; simpa using q.1.1
        subst this; exact List.mem_cons_self
      · rw [List.lookup_cons, beq_self_eq_true] at h
        have hkk : k' = k := Option.some.inj h
        subst hkk
        rcases hk with z | z
        · exact absurd z hk'
        · subst z; exact List.mem_cons_self
    · have e' : (x == n) = false := beq_eq_false_iff_ne.mpr e
      refine List.mem_cons_of_mem _ (relabel_back (env := env) hc' ?_ hk)
      dsimp only at h
      split at h
      · rw [List.lookup_cons, e'] at h; exact h
      · rw [List.lookup_cons, e'] at h; exact h
theorem relabel_free {env : Env} {x : Str} : ∀ {names : List (Str × NameKind)}, names.lookup x = some .free →
    (names.map fun (n, k) => if (k == NameKind.free && env.scope.kind == .function && env.kindOf n == some .cell) then (n, NameKind.cell) else (n, k)).lookup x = some .cell ∨
    (names.map fun (n, k) => if (k == NameKind.free && env.scope.kind == .function && env.kindOf n == some .cell) then (n, NameKind.cell) else (n, k)).lookup x = some .free
  | [], h => by cases h
  | (n, k') :: r, h => by
    rw [List.map_cons]
    rw [List.lookup_cons] at h
    by_cases e : x = n
    · subst e
      rw [beq_self_eq_true] at h
      have hk : k' = .free := Option.some.inj h
      subst hk
      dsimp only
      split
      · left; rw [List.lookup_cons, beq_self_eq_true]
      · right; rw [List.lookup_cons, beq_self_eq_true]
    · have e' : (x == n) = false := beq_eq_false_iff_ne.mpr e
      rw [e'] at h
      dsimp only
      split
      · rw [List.lookup_cons, e']; exact relabel_free h
      · rw [List.lookup_cons, e']; exact relabel_free h
structure CompFacts (X : Cx) (scope : Scope) (N' : List Str) (ix : List (Option Nat)) : Prop where
  nocell : ∀ y ∈ scope.names, y.2 ≠ .cell
  names : ∀ y ∈ scope.names, y.2 = .local → scope.names.lookup y.1 = some .local
  free : ∀ x, (x, NameKind.free) ∈ scope.names → X.env.kindOf x = some .cell ∨ X.env.kindOf x = some .free
  len : ix.length = N'.length
  link : ∀ {i j : Nat} {x : Str}, ix[i]? = some (some j) → N'[i]? = some x → X.N[j]? = some x ∧ scope.names.lookup x = some .free
theorem compFacts {X : Cx} {scope : Scope} {N' : List Str} {ix : List (Option Nat)} (h : compOk X.env.scope X.N scope N' ix = true) : CompFacts X scope N' ix := by
  simp only [compOk, Bool.and_eq_true, List.all_eq_true] at h
  obtain ⟨⟨⟨h1, h2⟩, h3⟩, h4⟩ := h
  refine ⟨fun y hy => by simpa using h1 y hy, fun y hy e => ?_, fun x hx => ?_, linkOk_len h4, fun e e' => linkOk_get h4 e e'⟩
  · have q := h2 y hy
    rw [e] at q
    simpa using q
  · have q := h3 _ hx
    have q' : X.env.scope.names.lookup x = some .cell ∨ X.env.scope.names.lookup x = some .free := by simpa using q
    exact q'
section
variable {X : Cx} {pins : List (Addr × Obj)} {σ : St} {H H' : Hp} {s s' : Shared} {scope : Scope} {N' : List Str} {ix : List (Option Nat)} {fp : List Addr}
theorem FpOk.stk {b : Addr} (I : Inv X pins σ H s) (f : FpOk X pins H b) : b ∉ frs X.stack := fun z => by
  rcases List.mem_cons.mp (I.stkSub b z) with q | q
  · exact f.2.1 q
  · exact f.2.2.1 q
theorem clTo_cell (I : Inv X pins σ H s) (F : CompFacts X scope N' ix) {x : Str} {c : Addr} (h : (clTo X.env.cells scope.names []).lookup x = some c) : X.env.cells.lookup x = some c ∧ (x, NameKind.free) ∈ scope.names := by
  rcases clTo_of _ _ h with q | ⟨q1, q2⟩
  · cases q
  · obtain ⟨c', e⟩ := I.ok.has x (F.free x q1)
    rw [e] at q2
    exact ⟨by rw [e, q2]; rfl, q1⟩
theorem ok_comp (I : Inv X pins σ H s) (F : CompFacts X scope N' ix) (hk : scope.kind = .function) (hf : ∀ b ∈ fp, FpOk X pins H b) (ho : ∀ b ∈ fp, ∃ o, s.heap.get? b = some o) : (cxComp X pins scope N' fp s H).Ok where
  mod := I.ok.mod
  kind := hk
  glob := I.ok.glob
  blt := I.ok.blt
  above := Nat.le_refl _
  inj := fun x y c e1 e2 => I.ok.inj x y c (clTo_cell I F e1).1 (clTo_cell I F e2).1
  has := fun x hx => by
    have q : (x, NameKind.free) ∈ scope.names := by
      rcases hx with z | z
      · exact relabel_back F.nocell z (.inl rfl)
      · exact relabel_back F.nocell z (.inr rfl)
    exact ⟨_, clTo_free _ _ (.inl q)⟩
  cab := fun x c e => by cases e
  hd := I.ok.hd
  frames := I.ok.frames
  stk := .inl rfl
  exf := fun b hb => by
    obtain ⟨o, e⟩ := ho b hb
    exact ⟨Nat.ne_of_lt (Heap.lt_size e), fun x c q => (hf b hb).2.2.2.2.1 x c (clTo_cell I F q).1⟩
  bs := fun b o e => I.bs b o e
  bsz := Nat.le_trans I.ok.bsz I.sz
  noex := fun b o e hb => by
    rcases (hf b hb).2.2.2.1 with z | z
    · exact I.ok.noex b o e z
    · exact absurd (Nat.lt_of_lt_of_le (Heap.lt_size (I.ok.bs b o e).1) z) (Nat.lt_irrefl _)
  exfs := fun b hb => FpOk.stk I (hf b hb)
  funs := I.stack
  frf := I.stkFree
theorem inv_comp {h' : Heap} {m : Str → Option Value} {ob : Obj} {t : Nat} (I : Inv X pins σ H s) (F : CompFacts X scope N' ix) (hk : scope.kind = .function) (hf : ∀ b ∈ fp, FpOk X pins H b) (ho : ∀ b ∈ fp, ∃ o, s.heap.get? b = some o)
    (hn : h'.Ns s.heap.objs.size m) (hs : Heap.SameBut s.heap.objs.size (s.heap.push ob) h') :
    Inv (cxComp X pins scope N' fp s H) [] (pick ix σ) H { s with heap := h', toks := t } := by
  have k : ∀ b u, s.heap.get? b = some u → h'.get? b = some u := fun b u e =>
    (hs.2 b (Nat.ne_of_lt (Heap.lt_size e))).trans (Heap.get?_push_of_some _ e)
  refine ⟨ok_comp I F hk hf ho, rfl, I.bare, Un.kept k, ⟨m, hn, fun i x v e1 e2 e3 => ?_⟩, fun x c e => ?_, I.fresh, fun x c e => ?_, fun p hp => ?_, I.hok.kept k, ?_⟩
  · obtain ⟨j, ej, ev⟩ := pick_get e2
    obtain ⟨l1, l2⟩ := F.link ej e1
    have fr : (x, NameKind.free) ∈ scope.names := mem_of_lookup l2
    obtain ⟨m0, hn0, hl⟩ := I.loc
    have vis : Vis X.env.scope x := .inr (F.free x fr)
    obtain ⟨u, r, l⟩ := hl j x v l1 ev vis
    refine ⟨u, r, .inr ⟨relabel_free l2, ?_⟩⟩
    rcases l with ⟨l, _⟩ | ⟨_, c, e, z⟩
    · rcases F.free x fr with q | q
      · rw [q] at l; cases l
      · rw [q] at l; cases l
    · refine ⟨c, ?_, z.keeps k⟩
      show (clTo X.env.cells scope.names []).lookup x = some c
      rw [clTo_free _ _ (.inl fr), e]; rfl
  · obtain ⟨v, z⟩ := I.cell x c (clTo_cell I F e).1
    exact ⟨v, z.keeps k⟩
  · exact I.freeC x c (clTo_cell I F e).1
  · have hp' : p ∈ X.pn ++ pins := by
      have z : p ∈ (X.pn ++ pins) ++ [] := hp
      rwa [List.append_nil] at z
    obtain ⟨e, n, ne, nf, d⟩ := I.pin p hp'
    refine ⟨k _ _ e, n, Nat.ne_of_lt (Heap.lt_size e), fun z => ?_, d⟩
    rcases List.mem_cons.mp (I.stkSub p.1 z) with q | q
    · exact ne q
    · exact nf q
  · show (pick ix σ).length = N'.length
    unfold pick; rw [List.length_map]; exact F.len
theorem HOk.sameBut {P : Program} {w : World} {h h' : Heap} {a : Addr} (ok : HOk P w H h) (hn : H a = none) (hs : Heap.SameBut a h h') : HOk P w H h' := fun b ob e => by
  refine (ok b ob e).stay (fun c w' hc q => (hs.2 c ?_).trans q) (fun _ q => q) fun _ _ q => q
  rintro rfl
  rcases hc with rfl | hc
  · rw [hn] at e; cases e
  · rw [hn] at hc; cases hc
theorem leave_comp {σ' : St} {ps : List (Addr × Obj)} {h' : Heap} (I : Inv X pins σ H s) (hf : ∀ b ∈ fp, FpOk X pins H b) (I' : Inv (cxComp X pins scope N' fp s H) ps σ' H' s') (hs : Heap.SameBut s.heap.objs.size s'.heap h') :
    Inv X pins σ H' { s' with heap := h' } := by
  have bk : ∀ {b o o'}, s.heap.get? b = some o → s'.heap.get? b = some o' → h'.get? b = some o' := fun {b o o'} e e' => (hs.2 b (Nat.ne_of_lt (Heap.lt_size e))).trans e'
  refine I.call' (s' := { s' with heap := h' }) (ch := fp) I'.os ⟨fun b o e n hb hx => ?_, fun b o e n hb hx => ?_, I'.base.free, fun b o e hx => ?_, I'.base.tups, I'.base.frzs, I'.base.tbls⟩ (I'.hok.sameBut I'.free hs) I'.bare fun b hb => ⟨(hf b hb).2.2.2.1, (hf b hb).2.1, (hf b hb).2.2.2.2.1, (hf b hb).2.2.2.2.2⟩
  · exact bk e (I'.base.keep b o e n hb hx)
  · obtain ⟨sl, q⟩ := I'.base.slot b o e n hb hx
    exact ⟨sl, bk e q⟩
  · obtain ⟨o', q⟩ := I'.base.there b o e hx
    exact ⟨o', bk e q⟩
end
def PTs (X : Cx) (ifs : List Expr) (t : TT) : Prop :=
  ∀ (pins : List (Addr × Obj)) (s : Shared) (σ : St) (H : Hp) (Q : Bool → Hp → Prop), Inv X pins σ H s → t σ H Q →
    wpAny (model X.prog X.w) X.A (forIn ifs true fun c r => if r = true then do let ok ← isTrue c X.env (eval c X.env); pure (ForInStep.yield ok) else pure (ForInStep.yield r)) (TP X pins σ Q) X.xe s
def tTrue : TT := fun _ H Q => Q true H
theorem pts_nil {X : Cx} : PTs X [] tTrue := fun _ _ _ H _ I h => wpAny_tests_nil ⟨H, I, h⟩
def CompRuns (J : It) (p : Addr) (g : TG) (tc : TT) (te : TE) (Q : VK) (σ0 : St) (H0 : Hp) : Prop :=
  ∃ W : Nat → Nat → List V → St → Hp → Prop, (∃ m, W 0 m [] σ0 H0) ∧ ∀ i m acc σ' H', W i m acc σ' H' → H' p = some (.lst acc) ∧
    ((J.stop i H' ∧ Q (.ref p) H') ∨ (J.go i H' ∧ acc.length < sizeLine ∧ ∃ N : List V → St → Hp → Prop, (∀ a' σ3 H3, N a' σ3 H3 → ∃ m', m' < m ∧ W (i + 1) m' a' σ3 H3) ∧
      ∀ x H2, J.yld i H' x H2 → g x σ' H2 fun σ3 H3 => tc σ3 H3 fun b H4 =>
        if b = true then te σ3 H4 fun v H5 => H5 p = some (.lst acc) ∧ N (acc ++ [v]) σ3 (upd H5 p (.lst (acc ++ [v]))) else N acc σ3 H4))
def tComp (ix : List (Option Nat)) (wi : TI) (g : TG) (tc : TT) (te : TE) : TE := fun σ H Q => wi σ H fun J H1 => ∀ p, H1 p = none → CompRuns J p g tc te Q (pick ix σ) (upd H1 p (.lst []))
section
variable {X : Cx} {elt tg iter : Expr} {ifs : List Expr} {scope : Scope} {pos : Pos} {N' : List Str} {ix : List (Option Nat)} {wi : TI} {g : TG} {tc : TT} {te : TE}
theorem comp_run {use : Option (Value → Sem Unit)} {R : Value → Shared → Prop} {pins : List (Addr × Obj)} {s : Shared} {σ : St} {H : Hp} {Q : VK} (hc : X.calm = true) (ok : compOk X.env.scope X.N scope N' ix = true) (hk : scope.kind = .function)
    (hi : PI X tg iter wi)
    (hg : ∀ pins fp s3 H3, PG (cxComp X pins scope N' fp s3 H3) tg g) (ht : ∀ pins fp s3 H3, PTs (cxComp X pins scope N' fp s3 H3) ifs tc) (he : ∀ pins fp s3 H3, PE (cxComp X pins scope N' fp s3 H3) elt te)
    (hs : ∀ x, foldedSetIterable iter X.env x = pure x) (I : Inv X pins σ H s) (h : tComp ix wi g tc te σ H Q)
    (fin : ∀ (p C : Addr) (H' : Hp) (s' : Shared), (∃ m, s'.heap.Ns C m) → FpOk X pins H' C → (∀ h', Heap.SameBut C s'.heap h' → Inv X pins σ H' { s' with heap := h' }) → Q (.ref p) H' → compPost (model X.prog X.w) X.A X.xe use R (.ref p) C (.ok .next) s') :
    wpAny (model X.prog X.w) X.A (comprehension (.ListComp elt [⟨tg, iter, ifs, 0⟩] scope pos) scope X.env (firstIterPos [⟨tg, iter, ifs, 0⟩] pos) (newList []) (firstAsync [⟨tg, iter, ifs, 0⟩]) (firstIter [⟨tg, iter, ifs, 0⟩] X.env) use) R X.xe s := by
  have F := compFacts ok
  refine wpAny_comprehension_free (cl := clTo X.env.cells scope.names []) rfl hs (closureFor_to fun y hy e => ?_) hk F.names ?_
  · obtain ⟨n, k⟩ := y
    have e' : k = .free := e
    subst e'
    exact I.ok.has n (F.free n hy)
  refine thn (hi pins s σ H _ I h) fun v s1 h1 => thn h1 fun itv s2 h2 => ?_
  obtain ⟨it, fp, tn, J, H2, e, I2, T, st2, f2, rd⟩ := h2
  subst e
  refine wpAny_newObj_type ?_
  have hp := I2.fresh
  obtain ⟨W, ⟨m0, w0⟩, turn⟩ := rd _ hp
  have I3 := I2.lnew (ys := []) (its := []) (t' := s2.toks) Paired.nil (Nat.zero_le _)
  have hf3 : ∀ b ∈ fp, FpOk X pins (upd H2 s2.heap.objs.size (.lst [])) b := fun b hb => by
    obtain ⟨o, e, _⟩ := T.obj _ _ st2 b hb
    exact ⟨by rw [upd_ne (Nat.ne_of_lt (Heap.lt_size e))]; exact (f2 b hb).1, (f2 b hb).2⟩
  have ho3 : ∀ b ∈ fp, ∃ o, (s2.heap.push { cls := .type "list", data := .seq ([] : List Value).toArray }).get? b = some o := fun b hb => by
    obtain ⟨o, e, _⟩ := T.obj _ _ st2 b hb
    exact ⟨o, Heap.get?_push_of_some _ e⟩
  have hpC : s2.heap.objs.size ≠ (s2.heap.push { cls := .type "list", data := .seq ([] : List Value).toArray }).objs.size := by
    rw [Heap.size_push]; exact Nat.ne_of_lt (Nat.lt_succ_self _)
  refine wpAny_newFunctionEnv F.nocell (by intro y hy; simp at hy) (fun h4 hn4 hs4 => ?_) hk
  have I4 := inv_comp (t := s2.toks + ([] : List (Str × Value)).length) I3 F hk hf3 ho3 hn4 hs4
  have k4 : ∀ b o, s2.heap.get? b = some o → h4.get? b = some o := fun b o e =>
    (hs4.2 b (Nat.ne_of_lt (Nat.lt_of_lt_of_le (Heap.lt_size e) (by rw [Heap.size_push]; exact Nat.le_succ _)))).trans (Heap.get?_push_of_some _ (Heap.get?_push_of_some _ e))
  have st4 : tn 0 h4 := T.keep _ _ _ st2 fun b _ o e => k4 b o e
  have fx : ∀ {H' : Hp} {ps : List (Addr × Obj)}, (∀ b ∈ fp, H' b = none) → (∀ b ∈ fp, ∀ p ∈ ps, p.1 ≠ b) → ∀ b ∈ fp, FpOk (cxComp X pins scope N' fp { s2 with heap := s2.heap.push { cls := .type "list", data := .seq ([] : List Value).toArray }, toks := s2.toks } (upd H2 s2.heap.objs.size (.lst []))) ps H' b := fun {H' ps} hn hps b hb => by
    obtain ⟨o, e⟩ := ho3 b hb
    refine ⟨hn b hb, Nat.ne_of_lt (Heap.lt_size e), FpOk.stk I3 (hf3 b hb), .inl hb, fun x c q => (hf3 b hb).2.2.2.2.1 x c (clTo_cell I3 F q).1, fun p hp => ?_⟩
    rcases List.mem_append.mp hp with z | z
    · exact (hf3 b hb).2.2.2.2.2 p z
    · exact hps b hb p z
  have loop : codeAny (model X.prog X.w) X.A (.compLoop (.ListComp elt [⟨tg, iter, ifs, 0⟩] scope pos) 0 (.ref it) (.ref s2.heap.objs.size) (compEnvC scope (clTo X.env.cells scope.names []) (s2.heap.push { cls := .type "list", data := .seq ([] : List Value).toArray }).objs.size X.env))
      (compPost (model X.prog X.w) X.A X.xe use R (.ref s2.heap.objs.size) (s2.heap.push { cls := .type "list", data := .seq ([] : List Value).toArray }).objs.size) { s2 with heap := h4, toks := s2.toks + ([] : List (Str × Value)).length } := by
    refine compLoop_any rfl (fun n s' => ∃ i acc σ' H', Inv (cxComp X pins scope N' fp { s2 with heap := s2.heap.push { cls := .type "list", data := .seq ([] : List Value).toArray }, toks := s2.toks } (upd H2 s2.heap.objs.size (.lst []))) [] σ' H' s' ∧ tn i s'.heap ∧ (∀ b ∈ fp, H' b = none) ∧ W i n acc σ' H')
      ?_ m0 ⟨0, [], _, _, I4, st4, fun b hb => (hf3 b hb).1, w0⟩
    rintro n s5 ⟨i, acc, σ5, H5, I5, st5, fr5, w5⟩
    obtain ⟨hacc, alt⟩ := turn i n acc σ5 H5 w5
    rcases alt with ⟨stop, q⟩ | ⟨go, hz, N, hN, step⟩
    · refine wpAny_mono (T.done (cxComp X pins scope N' fp { s2 with heap := s2.heap.push { cls := .type "list", data := .seq ([] : List Value).toArray }, toks := s2.toks } (upd H2 s2.heap.objs.size (.lst []))) rfl rfl rfl hc i [] s5 σ5 H5 (fun _ _ => False) I5 (fx (ps := []) fr5 (fun _ _ _ z => nomatch z)) st5 stop) (fun r s6 ⟨hr, I6⟩ => ?_) fun _ _ f => f.elim
      subst hr
      refine fin _ _ H5 s6 ?_ (I3.fpOk (Nat.le_refl _) I6.free) (fun h' hs' => leave_comp I3 hf3 I6 hs') q
      obtain ⟨m, hm, _⟩ := I6.loc
      exact ⟨m, hm⟩
    · refine wpAny_mono (T.item (cxComp X pins scope N' fp { s2 with heap := s2.heap.push { cls := .type "list", data := .seq ([] : List Value).toArray }, toks := s2.toks } (upd H2 s2.heap.objs.size (.lst []))) rfl rfl rfl hc i [] s5 σ5 H5 (fun _ _ => False) I5 (fx (ps := []) fr5 (fun _ _ _ z => nomatch z)) st5 go) (fun r s6 ⟨u, hr, h6⟩ => ?_) fun _ _ f => f.elim
      subst hr
      refine wpAny_mono h6 (fun _ s7 ⟨x, H7, I7, r7, y7, st7, fr7⟩ => ?_) fun _ _ f => f.elim
      have I7' := I7.pinned (fx (ps := []) fr7 (fun _ _ _ z => nomatch z)) (T.obj _ _ st7)
      refine wpAny_mono (hg _ _ _ _ _ s7 σ5 H7 x u _ I7' r7 (step x H7 y7)) (fun _ s8 ⟨σ8, H8, I8, q8⟩ => ?_) fun _ _ f => f.elim
      refine wpAny_mono (ht _ _ _ _ _ s8 σ8 H8 _ I8 q8) (fun b s9 ⟨H9, I9, q9⟩ => ?_) fun _ _ f => f.elim
      have keep : ∀ {σ' : St} {H' : Hp} {s' : Shared}, Inv (cxComp X pins scope N' fp { s2 with heap := s2.heap.push { cls := .type "list", data := .seq ([] : List Value).toArray }, toks := s2.toks } (upd H2 s2.heap.objs.size (.lst []))) ([] ++ pinsAt fp s7.heap) σ' H' s' →
          tn (i + 1) s'.heap ∧ ∀ b ∈ fp, H' b = none := fun {σ' H' s'} I' => by
        refine ⟨T.keep _ _ _ st7 fun b hb o e => (I'.pin (b, o) (List.mem_append_right _ (List.mem_append_right _ (mem_pinsAt hb e)))).1, fun b hb => ?_⟩
        obtain ⟨o, e, d⟩ := T.obj _ _ st7 b hb
        exact (I'.pin (b, o) (List.mem_append_right _ (List.mem_append_right _ (mem_pinsAt hb e)))).2.1
      cases b with
      | false =>
        rw [if_neg Bool.false_ne_true] at q9 ⊢
        obtain ⟨m', hm, w9⟩ := hN _ _ _ q9
        exact ⟨m', hm, i + 1, acc, σ8, H9, I9.unpinned, (keep I9).1, (keep I9).2, w9⟩
      | true =>
        rw [if_pos rfl] at q9 ⊢
        refine wpAny_mono (he _ _ _ _ _ s9 σ8 H9 _ I9 q9) (fun y s10 ⟨v10, H10, I10, r10, hl10, w10⟩ => ?_) fun _ _ f => f.elim
        refine wpAny_mono (mt_append (X := (cxComp X pins scope N' fp { s2 with heap := s2.heap.push { cls := .type "list", data := .seq ([] : List Value).toArray }, toks := s2.toks } (upd H2 s2.heap.objs.size (.lst [])))) _ s10 σ8 H10 (.ref s2.heap.objs.size) [v10] (.ref s2.heap.objs.size) [y] (fun _ H' => N (acc ++ [v10]) σ8 H') I10 rfl (.cons r10 .nil) ⟨_, acc, v10, rfl, rfl, hl10, hz, w10⟩) (fun _ s11 ⟨_, H11, I11, _, n11⟩ => ?_) fun _ _ f => f.elim
        obtain ⟨m', hm, w11⟩ := hN _ _ _ n11
        exact ⟨m', hm, i + 1, acc ++ [v10], σ8, H11, I11.unpinned, (keep I11).1, (keep I11).2, w11⟩
  exact codeAny_compStart_list loop (T.self X.A 0 _ _ _ st4 loop)
theorem pe_comp (N' : List Str) (ix : List (Option Nat)) (hc : X.calm = true) (ok : compOk X.env.scope X.N scope N' ix = true) (hk : scope.kind = .function) (hi : PI X tg iter wi)
    (hg : ∀ pins fp s3 H3, PG (cxComp X pins scope N' fp s3 H3) tg g) (ht : ∀ pins fp s3 H3, PTs (cxComp X pins scope N' fp s3 H3) ifs tc) (he : ∀ pins fp s3 H3, PE (cxComp X pins scope N' fp s3 H3) elt te)
    (hs : ∀ x, foldedSetIterable iter X.env x = pure x := by intro _; rfl) : PE X (.ListComp elt [⟨tg, iter, ifs, 0⟩] scope pos) (tComp ix wi g tc te) := by
  intro pins s σ H Q I h
  rw [eval_ListComp]
  refine comp_run hc ok hk hi hg ht he hs I h fun p C H' s' hm fC inv q => ?_
  obtain ⟨m, hm⟩ := hm
  exact ⟨m, hm, fun h' hs' => ⟨.ref p, H', inv h' hs', rfl, q⟩⟩
end
end L2
namespace L2
open PySem PySem.Spec PyProof.Rows
inductive Dt where
  | non | bl (b : Bool) | int (i : Int) | str (x : Str) | tup (ds : List Dt) | lst (ds : List Dt)
mutual
def Is (H : Hp) : V → Dt → Prop
  | v, .non => v = .non
  | v, .bl b => v = .bl b
  | v, .int i => v = .int i
  | v, .str x => v = .str x
  | v, .tup ds => ∃ a xs, v = .ref a ∧ H a = some (.tup xs) ∧ IsL H xs ds
  | v, .lst ds => ∃ a xs, v = .ref a ∧ H a = some (.lst xs) ∧ IsL H xs ds
def IsL (H : Hp) : List V → List Dt → Prop
  | [], [] => True
  | x :: xs, d :: ds => Is H x d ∧ IsL H xs ds
  | _, _ => False
end
mutual
def dep : Dt → Nat
  | .tup ds => depL ds + 1
  | .lst ds => depL ds + 1
  | _ => 0
def depL : List Dt → Nat
  | [] => 0
  | d :: ds => max (dep d) (depL ds)
end
mutual
def wid : Dt → Nat
  | .tup ds => max ds.length (widL ds)
  | .lst ds => max ds.length (widL ds)
  | _ => 0
def widL : List Dt → Nat
  | [] => 0
  | d :: ds => max (wid d) (widL ds)
end
theorem wid_get {ds : List Dt} {i : Nat} {d : Dt} (h : ds[i]? = some d) : wid d ≤ widL ds := by
  induction ds generalizing i with
  | nil => simp at h
  | cons e ds ih =>
    simp only [widL]
    cases i with
    | zero => simp at h; subst h; omega
    | succ i => have := ih (by simpa using h); omega
mutual
theorem Is.same {H H' : Hp} (h : ∀ b o, H b = some o → H' b = some o) : ∀ {d : Dt} {v : V}, Is H v d → Is H' v d
  | .non, _, k => by simp only [Is] at k ⊢; exact k
  | .bl _, _, k => by simp only [Is] at k ⊢; exact k
  | .int _, _, k => by simp only [Is] at k ⊢; exact k
  | .str _, _, k => by simp only [Is] at k ⊢; exact k
  | .tup ds, _, k => by
    simp only [Is] at k ⊢
    obtain ⟨a, xs, e, h1, h2⟩ := k
    exact ⟨a, xs, e, h _ _ h1, IsL.same h h2⟩
  | .lst ds, _, k => by
    simp only [Is] at k ⊢
    obtain ⟨a, xs, e, h1, h2⟩ := k
    exact ⟨a, xs, e, h _ _ h1, IsL.same h h2⟩
theorem IsL.same {H H' : Hp} (h : ∀ b o, H b = some o → H' b = some o) : ∀ {ds : List Dt} {xs : List V}, IsL H xs ds → IsL H' xs ds
  | [], [], _ => by simp only [IsL]
  | d :: ds, x :: xs, k => by
    simp only [IsL] at k ⊢
    exact ⟨Is.same h k.1, IsL.same h k.2⟩
  | [], _ :: _, k => by simp only [IsL] at k
  | _ :: _, [], k => by simp only [IsL] at k
end
theorem IsL.length {H : Hp} : ∀ {ds : List Dt} {xs : List V}, IsL H xs ds → xs.length = ds.length
  | [], [], _ => rfl
  | d :: ds, x :: xs, k => by
    simp only [IsL] at k
    simp only [List.length_cons, IsL.length k.2]
  | [], _ :: _, k => by simp only [IsL] at k
  | _ :: _, [], k => by simp only [IsL] at k
theorem IsL.get {H : Hp} : ∀ {ds : List Dt} {xs : List V} {i : Nat}, IsL H xs ds → i < ds.length → ∃ x d, xs[i]? = some x ∧ ds[i]? = some d ∧ Is H x d
  | [], _, _, _, h => by simp at h
  | d :: ds, x :: xs, 0, k, _ => by
    simp only [IsL] at k
    exact ⟨x, d, rfl, rfl, k.1⟩
  | d :: ds, x :: xs, i + 1, k, h => by
    simp only [IsL] at k
    obtain ⟨y, e, h1, h2, h3⟩ := IsL.get (i := i) k.2 (by simpa using h)
    exact ⟨y, e, by simpa using h1, by simpa using h2, h3⟩
  | _ :: _, [], _, k, _ => by simp only [IsL] at k
theorem dep_get {ds : List Dt} {i : Nat} {d : Dt} (h : ds[i]? = some d) : dep d ≤ depL ds := by
  induction ds generalizing i with
  | nil => simp at h
  | cons e ds ih =>
    simp only [depL]
    cases i with
    | zero => simp at h; subst h; omega
    | succ i => have := ih (by simpa using h); omega
theorem IsL.ints (H : Hp) : ∀ ns : List Int, IsL H (ns.map V.int) (ns.map Dt.int)
  | [] => by simp only [List.map_nil, IsL]
  | n :: ns => by simp only [List.map_cons, IsL, Is, true_and]; exact IsL.ints H ns
mutual
def toP : Dt → PyData
  | .non => .none
  | .bl b => .bool b
  | .int i => .int i
  | .str x => .str x
  | .tup ds => .tuple (toPs ds)
  | .lst ds => .list (toPs ds)
def toPs : List Dt → List PyData
  | [] => []
  | d :: ds => toP d :: toPs ds
end
mutual
theorem Is.reads {P : Program} {w : World} {H : Hp} {h : Heap} (ok : HOk P w H h) : ∀ {d : Dt} {v : V} {u : Value}, Is H v d → RelV v u → ∃ as, Reads h u (toP d) as
  | .non, _, _, k, r => by simp only [Is] at k; subst k; cases r; exact ⟨_, Reads.none⟩
  | .bl b, _, _, k, r => by simp only [Is] at k; subst k; cases r; exact ⟨_, Reads.bool b⟩
  | .int i, _, _, k, r => by simp only [Is] at k; subst k; obtain ⟨t, rfl⟩ := r; exact ⟨_, Reads.int i t⟩
  | .str x, _, _, k, r => by simp only [Is] at k; subst k; obtain ⟨t, rfl⟩ := r; exact ⟨_, Reads.str x t⟩
  | .tup ds, _, _, k, r => by
    simp only [Is] at k
    obtain ⟨a, xs, rfl, h1, h2⟩ := k
    cases r
    obtain ⟨_, its, rv, o, ho, hc, n, hd⟩ := (show ObjOk P w H h a (.tup xs) from ok a _ h1)
    obtain ⟨as, q⟩ := IsL.reads ok h2 rv
    exact ⟨_, Reads.tuple ho hc hd (by simpa using q)⟩
  | .lst ds, _, _, k, r => by
    simp only [Is] at k
    obtain ⟨a, xs, rfl, h1, h2⟩ := k
    cases r
    obtain ⟨_, its, n, rv, e⟩ := (show ObjOk P w H h a (.lst xs) from ok a _ h1)
    obtain ⟨as, q⟩ := IsL.reads ok h2 rv
    exact ⟨_, Reads.list e rfl rfl (by simpa using q)⟩
theorem IsL.reads {P : Program} {w : World} {H : Hp} {h : Heap} (ok : HOk P w H h) : ∀ {ds : List Dt} {xs : List V} {us : List Value}, IsL H xs ds → Vals xs us → ∃ as, ReadsAll h us (toPs ds) as
  | [], [], _, _, .nil => ⟨_, ReadsAll.nil⟩
  | d :: ds, x :: xs, _, k, .cons r t => by
    simp only [IsL] at k
    obtain ⟨as, q⟩ := Is.reads ok k.1 r
    obtain ⟨bs, q2⟩ := IsL.reads ok k.2 t
    exact ⟨_, ReadsAll.cons q q2⟩
  | [], _ :: _, _, k, _ => by simp only [IsL] at k
  | _ :: _, [], _, k, _ => by simp only [IsL] at k
end
def okD (d : Dt) : Prop := SeqAt.shaped (toP d) = true
def eqD (d e : Dt) : Bool := PyData.eqv (toP d) (toP e)
theorem eqD_self {d : Dt} (h : okD d) : eqD d d = true := SeqAt.eqv_refl _ (SeqAt.canLay_of_shaped h)
end L2
namespace L2
open PySem PySem.Spec PyProof.Rows
section
variable {X : Cx}
theorem OpR.imp {f : Value → Value → Sem Value} {r r' : R2} (h : OpR X f r) (hi : ∀ x y H Q, r' x y H Q → r x y H Q) : OpR X f r' := fun pins s σ H x y v u Q I rx ry q => h pins s σ H x y v u Q I rx ry (hi x y H Q q)
theorem CallR.imp {f : Value} {r r' : List V → Hp → VK → Prop} (h : CallR X f r) (hi : ∀ xs H Q, r' xs H Q → r xs H Q) : CallR X f r' := fun pins s σ H xs us Q I rs q => h pins s σ H xs us Q I rs (hi xs H Q q)
end
section
variable {X : Cx} {pins : List (Addr × Obj)} {σ : St} {H : Hp} {s : Shared} {Q : VK}
theorem endS {z : Str} {t : Tok} (I : Inv X pins σ H s) (q : Q (.str z) H) : EP X pins σ Q (.str z t) s := ⟨.str z, H, I, ⟨t, rfl⟩, q⟩
theorem endN {i : Int} {t : Tok} (I : Inv X pins σ H s) (q : Q (.int i) H) : EP X pins σ Q (.int i t) s := ⟨.int i, H, I, ⟨t, rfl⟩, q⟩
theorem endB {b : Bool} (I : Inv X pins σ H s) (q : Q (.bl b) H) : EP X pins σ Q (.bool b) s := ⟨.bl b, H, I, rfl, q⟩
end
def lstR (H : Hp) (a : Addr) : Option (List V) := match H a with
  | some (.lst xs) => some xs
  | some (.frz _ (.lst xs)) => some xs
  | _ => none
def tupR (H : Hp) (a : Addr) : Option (List V) := match H a with
  | some (.tup xs) => some xs
  | _ => none
def seqR (H : Hp) (a : Addr) : Option (List V) := match lstR H a with
  | some xs => some xs
  | none => tupR H a
theorem lstR_of {H : Hp} {a : Addr} {xs : List V} (h : H a = some (.lst xs)) : lstR H a = some xs := by unfold lstR; rw [h]
theorem tupR_of {H : Hp} {a : Addr} {xs : List V} (h : H a = some (.tup xs)) : tupR H a = some xs := by unfold tupR; rw [h]
theorem seqR_lst {H : Hp} {a : Addr} {xs : List V} (h : H a = some (.lst xs)) : seqR H a = some xs := by unfold seqR; rw [lstR_of h]
theorem seqR_tup {H : Hp} {a : Addr} {xs : List V} (h : H a = some (.tup xs)) : seqR H a = some xs := by
  have e : lstR H a = none := by unfold lstR; rw [h]
  unfold seqR; rw [e]; exact tupR_of h
theorem lstR_sq {K : PySem.W.Frag} {H : Hp} {a : Addr} {xs : List V} (h : lstR H a = some xs) : SqL K H a xs := by
  unfold lstR at h
  split at h
  · rename_i e; cases h; exact .inl (.inl e)
  · rename_i e; cases h; exact .inl (.inr ⟨_, e⟩)
  · cases h
theorem tupR_sq {K : PySem.W.Frag} {H : Hp} {a : Addr} {xs : List V} (h : tupR H a = some xs) : SqT K H a xs := by
  unfold tupR at h
  split at h
  · rename_i e; cases h; exact .inl (.inl e)
  · cases h
theorem seqR_sq {K : PySem.W.Frag} {H : Hp} {a : Addr} {xs : List V} (h : seqR H a = some xs) : SqL K H a xs ∨ SqT K H a xs := by
  unfold seqR at h
  split at h
  · rename_i e; cases h; exact .inl (lstR_sq e)
  · exact .inr (tupR_sq h)
def GetT (H : Hp) (xs : List V) (Q : VK) : Prop := ∀ p H', H' p = some (.tup xs) → (∀ b o, H b = some o → H' b = some o) → Q (.ref p) H'
theorem GetT.new {H : Hp} {xs : List V} {Q : VK} (h : GetT H xs Q) {p : Addr} (hp : H p = none) : Q (.ref p) (upd H p (.tup xs)) :=
  h p _ upd_same fun b o e => by rw [upd_ne (ne_of_none e hp)]; exact e
theorem GetT.old {H : Hp} {xs : List V} {Q : VK} (h : GetT H xs Q) {p : Addr} (hp : H p = some (.tup xs)) : Q (.ref p) H := h p _ hp fun b o e => e
def GetL (H : Hp) (xs : List V) (Q : VK) : Prop := ∀ p, H p = none → Q (.ref p) (upd H p (.lst xs))
def fAdd : R2 := fun x y H Q => match x, y with
  | .int i, .int j => Q (.int (i + j)) H
  | .str i, .str j => i.length + j.length ≤ sizeLine ∧ Q (.str (i ++ j)) H
  | .ref a, .ref b => match H a, H b with
    | some (.lst xs), some (.lst ys) => xs.length + ys.length ≤ sizeLine ∧ GetL H (xs ++ ys) Q
    | some (.tup xs), some (.tup ys) => xs ≠ [] ∧ xs.length + ys.length ≤ sizeLine ∧ GetT H (xs ++ ys) Q
    | _, _ => False
  | _, _ => False
def fMul : R2 := fun x y H Q => match x, y with
  | .int i, .int j => CMul i j ∧ Q (.int (i * j)) H
  | .str z, .int n => z.length * n.toNat ≤ 1000000 ∧ -(2 ^ 62) < n ∧ n < 2 ^ 62 ∧ Q (.str (Txt.mul z n)) H
  | .ref a, .int k => match H a with
    | some (.lst xs) => -(2 ^ 63) ≤ k ∧ k < 2 ^ 63 ∧ xs.length * k.toNat ≤ sizeLine ∧ GetL H (List.replicate k.toNat xs).flatten Q
    | _ => False
  | _, _ => False
def fI (C : Int → Int → Prop) (g : Int → Int → V) : R2 := fun x y H Q => match x, y with
  | .int i, .int j => C i j ∧ Q (g i j) H
  | _, _ => False
def fI0 (g : Int → Int → V) : R2 := fun x y H Q => match x, y with
  | .int i, .int j => Q (g i j) H
  | _, _ => False
theorem fI0_rI0 {g : Int → Int → V} : ∀ x y H Q, fI0 g x y H Q → rI0 g x y H Q := fun x y H Q h => by
  unfold fI0 at h
  split at h
  · exact ⟨_, _, rfl, rfl, h⟩
  · exact h.elim
theorem fI_rI {C : Int → Int → Prop} {g : Int → Int → V} : ∀ x y H Q, fI C g x y H Q → rI C g x y H Q := fun x y H Q h => by
  unfold fI at h
  split at h
  · exact ⟨_, _, rfl, rfl, h.1, h.2⟩
  · exact h.elim
section
variable {X : Cx}
theorem o_add : OpR X (binaryOp .Add) fAdd := by
  intro pins s σ H x y v u Q I rx ry h
  unfold fAdd at h
  split at h
  · exact op_add pins s σ H _ _ v u Q I rx ry ⟨_, _, rfl, rfl, h⟩
  · exact op_add_str pins s σ H _ _ v u Q I rx ry ⟨_, _, rfl, rfl, h.1, h.2⟩
  · split at h
    · rename_i h1 h2
      exact op_cat pins s σ H _ _ v u Q I rx ry ⟨_, _, _, _, rfl, rfl, h1, h2, h.1, h.2⟩
    · rename_i xs ys h1 h2
      refine op_catT pins s σ H _ _ v u Q I rx ry ⟨_, _, _, _, rfl, rfl, SqT.of h1, SqT.of h2, h.1, h.2.1, fun e => ?_, fun _ p hp => h.2.2.new hp⟩
      subst e
      have := h.2.2
      rw [List.append_nil] at this
      exact this.old h1
    · exact h.elim
  · exact h.elim
theorem o_sub : OpR X (binaryOp .Sub) (fI0 fun i j => .int (i - j)) := op_sub.imp fI0_rI0
theorem o_fdiv : OpR X (binaryOp .FloorDiv) (fI CDiv fun i j => .int (i / j)) := op_fdiv.imp fI_rI
theorem o_mod : OpR X (binaryOp .Mod) (fI (fun _ j => 0 < j) fun i j => .int (i % j)) := op_mod.imp fI_rI
theorem o_pow : OpR X (binaryOp .Pow) (fI CPow fun i j => .int (i ^ j.toNat)) := op_pow.imp fI_rI
theorem mulOk_of {z : Str} {n : Int} (h : z.length * n.toNat ≤ 1000000) (h1 : -(2 ^ 62) < n) (h2 : n < 2 ^ 62) : MulOk z n := by
  have e1 : ((2 : Int) ^ 62) = 4611686018427387904 := by decide
  have e2 : ((2 : Int) ^ 63) = 9223372036854775808 := by decide
  rw [e1] at h1 h2
  refine ⟨?_, fun hn _ => ?_, fun hn _ => ?_⟩
  · rw [e2]; simp only [Bool.or_eq_false_iff, decide_eq_false_iff_not]; omega
  · have hp : 0 < n := by omega
    have hz : (z.length : Int) ≤ 1000000 := by
      have : z.length * 1 ≤ z.length * n.toNat := Nat.mul_le_mul_left _ (by omega)
      omega
    have e3 : ((2 : Int) ^ 63 - 1) = 9223372036854775807 := by decide
    rw [e3]
    intro hgt
    have h3 : (9223372036854775807 : Int) / n < z.length := hgt
    have h4 : (9223372036854775807 : Int) < z.length * n := by
      have := Int.lt_mul_of_ediv_lt hp h3
      exact this
    have h5 : (z.length : Int) * n ≤ 1000000 := by
      have e : ((z.length * n.toNat : Nat) : Int) = (z.length : Int) * n := by
        rw [Int.natCast_mul]; congr 1; omega
      omega
    omega
  · unfold Builtin.Str.tooLong sizeLine
    have e4 : (2 : Nat) ^ 24 = 16777216 := by decide
    exact decide_eq_false (by omega)
theorem o_mul : OpR X (binaryOp .Mult) fMul := by
  intro pins s σ H x y v u Q I rx ry h
  unfold fMul at h
  split at h
  · exact op_mul pins s σ H _ _ v u Q I rx ry ⟨_, _, rfl, rfl, h.1, h.2⟩
  · obtain ⟨h1, h2, h3, q⟩ := h
    obtain ⟨t, rfl⟩ := rx
    obtain ⟨t', rfl⟩ := ry
    exact SB.mul (mulOk_of h1 h2 h3) fun t' k => endS (I.tok _) q
  · split at h
    · rename_i h1
      exact op_rep pins s σ H _ _ v u Q I rx ry ⟨_, _, _, rfl, rfl, h1, h.1, h.2.1, h.2.2.1, h.2.2.2⟩
    · exact h.elim
  · exact h.elim
theorem o_lt : OpR X (compareOp .Lt) (fI0 fun i j => .bl (decide (i < j))) := op_lt.imp fI0_rI0
theorem o_gt : OpR X (compareOp .Gt) (fI0 fun i j => .bl (decide (j < i))) := op_gt.imp fI0_rI0
theorem o_ge : OpR X (compareOp .GtE) (fI0 fun i j => .bl (decide (j ≤ i))) := op_ge.imp fI0_rI0
def fEq : R2 := fun x y H Q => (scal x y = true ∧ Q (.bl (decide (x = y))) H) ∨ ∃ d e, Is H x d ∧ Is H y e ∧ okD d ∧ okD e ∧ Q (.bl (eqD d e)) H
def fNe : R2 := fun x y H Q => (scal x y = true ∧ Q (.bl (!decide (x = y))) H) ∨ ∃ d e, Is H x d ∧ Is H y e ∧ okD d ∧ okD e ∧ Q (.bl (!eqD d e)) H
def fIs : R2 := fun x y H Q => y = .non ∧ Q (.bl (decide (x = .non))) H
def fIsNot : R2 := fun x y H Q => y = .non ∧ Q (.bl (!decide (x = .non))) H
theorem o_eq (hu : X.A.units + 64 < cLine) : OpR X (compareOp .Eq) fEq := by
  intro pins s σ H x y v u Q I rx ry h
  rcases h with h | ⟨d, e, h1, h2, h3, h4, q⟩
  · exact op_eq pins s σ H x y v u Q I rx ry h
  · obtain ⟨as, r1⟩ := Is.reads I.hok h1 rx
    obtain ⟨bs, r2⟩ := Is.reads I.hok h2 ry
    exact eq_dataH r1 r2 h3 h4 hu (endB I q)
theorem o_ne (hu : X.A.units + 64 < cLine) : OpR X (compareOp .NotEq) fNe := by
  intro pins s σ H x y v u Q I rx ry h
  rcases h with h | ⟨d, e, h1, h2, h3, h4, q⟩
  · exact op_ne pins s σ H x y v u Q I rx ry h
  · obtain ⟨as, r1⟩ := Is.reads I.hok h1 rx
    obtain ⟨bs, r2⟩ := Is.reads I.hok h2 ry
    exact ne_dataH r1 r2 h3 h4 hu (endB I q)
theorem o_is : OpR X (compareOp .Is) fIs := op_isN
theorem o_isnot : OpR X (compareOp .IsNot) fIsNot := op_notN
def fIn (neg : Bool) : R2 := fun x y H Q => match x, y with
  | .str i, .str j => Q (.bl (xor neg (Txt.contains j i))) H
  | x, .ref p => match seqR H p with
    | some xs => flatV x = true ∧ xs.all flatV = true ∧ Q (.bl (if neg then !inV x xs else inV x xs)) H
    | none => False
  | _, _ => False
def fNeg : V → Hp → VK → Prop := fun x H Q => match x with
  | .int i => Q (.int (-i)) H
  | _ => False
theorem o_neg : UnR X (unaryOp .USub) fNeg := fun pins s σ H x v Q I rx h => by
  unfold fNeg at h
  split at h
  · exact un_neg pins s σ H _ v Q I rx ⟨_, rfl, h⟩
  · exact h.elim
def fIx (K : PySem.W.Frag) : R2 := fun x y H Q => match x, y with
  | .ref p, .int i => ∃ xs v, (SqL K H p xs ∨ SqT K H p xs) ∧ atI xs i = some v ∧ Q v H
  | .str z, .int i => z.length ≤ sizeLine ∧ (match atI z.cps.toList i with | some c => Q (.str ⟨#[c]⟩) H | none => False)
  | _, _ => False
theorem ix_any {K : PySem.W.Frag} (hK : X.K = K := by rfl) : IxR X (fIx K) := by
  subst hK
  intro value slice pins s σ H x y v u Q I rx ry h hs
  unfold fIx at h
  split at h
  · obtain ⟨xs, w', e, e', h⟩ := h
    rcases e with q | q
    · exact ix_list value slice pins s σ H _ _ v u Q I rx ry ⟨_, _, _, _, rfl, rfl, q, e', h⟩ hs
    · exact ix_tup value slice pins s σ H _ _ v u Q I rx ry ⟨_, _, _, _, rfl, rfl, q, e', h⟩ hs
  · obtain ⟨hz, h⟩ := h
    split at h
    · rename_i c e
      exact ix_str value slice pins s σ H _ _ v u Q I rx ry ⟨_, _, _, rfl, rfl, hz, e, h⟩ hs
    · exact h.elim
  · exact h.elim
def fSl (K : PySem.W.Frag) : V → Option Int → Option Int → Hp → VK → Prop := fun x lo hi H Q => match x with
  | .str z => z.length ≤ sizeLine ∧ Q (.str (Txt.slice z lo hi)) H
  | .ref a => (∃ xs, SqL K H a xs ∧ GetL H (cutV xs lo hi) Q) ∨
    (∃ xs, SqT K H a xs ∧ ¬ (HT.sIx xs.length 0 lo = 0 ∧ HT.sIx xs.length xs.length hi = xs.length) ∧ GetT H (cutV xs lo hi) Q)
  | _ => False
theorem sl_str : SlR X (fun x lo hi H Q => ∃ z, x = .str z ∧ z.length ≤ sizeLine ∧ Q (.str (Txt.slice z lo hi)) H) := by
  intro pins s σ H x v vl vu lo hi sl Q I rx hs pl pu h
  obtain ⟨z, rfl, hz, q⟩ := h
  obtain ⟨t, rfl⟩ := rx
  refine ⟨"str", _, PySem.F.slot_str_getitem.lookup, typeIs_str _ _ _, ?_⟩
  have fin : ∀ (l u : Option (Int × Tok)), l.map (·.1) = lo → u.map (·.1) = hi → s.heap.IsSlice sl l u none → wpAny (model X.prog X.w) X.A (getItem (.str z t) (.ref sl)) (EP X pins σ Q) X.xe s := fun l u el eu hs' => by
    subst el eu
    refine wpAny_getItem_str_slice hs' rfl ?_
    have q' : ∀ t' k, EP X pins σ Q (.str (Txt.slice z (l.map (·.1)) (u.map (·.1))) t') { s with toks := k } := fun t' k => endS (I.tok _) q
    exact post_val_or_str ⟨Nat.le_trans (Txt.slice_le z _ _) hz, fun t' k => q' t' k⟩
  cases pl with
  | none =>
    cases pu with
    | none => exact fin none none rfl rfl hs
    | int j u => exact fin none (some (j, u)) rfl rfl hs
  | int i t' =>
    cases pu with
    | none => exact fin (some (i, t')) none rfl rfl hs
    | int j u => exact fin (some (i, t')) (some (j, u)) rfl rfl hs
theorem sl_any {K : PySem.W.Frag} (hK : X.K = K := by rfl) : SlR X (fSl K) := by
  subst hK
  intro pins s σ H x v vl vu lo hi sl Q I rx hs pl pu h
  unfold fSl at h
  split at h
  · exact sl_str pins s σ H _ v vl vu lo hi sl Q I rx hs pl pu ⟨_, rfl, h.1, h.2⟩
  · rcases h with ⟨xs, e, h⟩ | ⟨xs, e, h⟩
    · exact sl_list pins s σ H _ v vl vu lo hi sl Q I rx hs pl pu ⟨_, _, rfl, e, h⟩
    · exact sl_tup pins s σ H _ v vl vu lo hi sl Q I rx hs pl pu ⟨_, _, rfl, e, h.1, fun p hp => h.2.new hp⟩
  · exact h.elim
def fLen (K : PySem.W.Frag) : List V → Hp → VK → Prop := fun xs H Q => match xs with
  | [.str z] => z.length ≤ sizeLine ∧ Q (.int z.length) H
  | [.ref p] => ∃ ys, (SqL K H p ys ∨ SqT K H p ys) ∧ Q (.int ys.length) H
  | _ => False
theorem c_len {K : PySem.W.Frag} (hK : X.K = K := by rfl) : CallR X (.builtin "len") (fLen K) := by
  subst hK
  intro pins s σ H xs us Q I r h
  unfold fLen at h
  split at h
  · exact call_len_str pins s σ H _ us Q I r ⟨_, rfl, h.1, h.2⟩
  · obtain ⟨ys, e, h⟩ := h
    exact call_len_seq pins s σ H _ us Q I r ⟨_, _, rfl, e, h⟩
  · exact h.elim
def f1I (g : Int → V) : List V → Hp → VK → Prop := fun xs H Q => match xs with
  | [.int i] => Q (g i) H
  | _ => False
def f2I (g : Int → Int → V) : List V → Hp → VK → Prop := fun xs H Q => match xs with
  | [.int i, .int j] => Q (g i j) H
  | _ => False
theorem c_abs : CallR X (.builtin "abs") (f1I fun i => .int (if i < 0 then -i else i)) := call_abs.imp fun xs H Q h => by
  unfold f1I at h
  split at h
  · exact ⟨_, rfl, h⟩
  · exact h.elim
theorem c_max (hc : X.calm = true) : CallR X (.builtin "max") (f2I fun i j => .int (if j > i then j else i)) := (call_max2 hc).imp fun xs H Q h => by
  unfold f2I at h
  split at h
  · exact ⟨_, _, rfl, h⟩
  · exact h.elim
theorem c_min (hc : X.calm = true) : CallR X (.builtin "min") (f2I fun i j => .int (if j < i then j else i)) := (call_min2 hc).imp fun xs H Q h => by
  unfold f2I at h
  split at h
  · exact ⟨_, _, rfl, h⟩
  · exact h.elim
def fList : List V → Hp → VK → Prop := fun xs H Q => match xs with
  | [.ref p] => (match seqR H p with | some ys => GetL H ys Q | none => False)
  | _ => False
theorem c_list : CallR X (.type "list") fList := call_list_of.imp fun xs H Q h => by
  unfold fList at h
  split at h
  · split at h
    · rename_i e; exact ⟨_, _, rfl, seqR_sq e, h⟩
    · exact h.elim
  · exact h.elim
def fTuple : List V → Hp → VK → Prop := fun xs H Q => match xs with
  | [.ref p] => (match seqR H p with | some ys => GetT H ys Q | none => False)
  | _ => False
theorem tup_back {H : Hp} {p : Addr} {ys : List V} (h : tupR H p = some ys) : H p = some (.tup ys) := by
  unfold tupR at h
  split at h
  · rename_i e; cases h; exact e
  · cases h
theorem c_tuple : CallR X (.type "tuple") fTuple := call_tuple_of.imp fun xs H Q h => by
  unfold fTuple at h
  split at h
  · split at h
    · rename_i ys e
      refine ⟨_, ys, rfl, ?_⟩
      unfold seqR at e
      split at e
      · rename_i e'; cases e
        exact .inl ⟨lstR_sq e', fun l hl => h.new hl⟩
      · exact .inr ⟨tupR_sq e, h.old (tup_back e)⟩
    · exact h.elim
  · exact h.elim
def fTru (x : V) (H : Hp) (Q : Bool → Hp → Prop) : Prop := match x with
  | .non => Q false H
  | .bl b => Q b H
  | .int i => Q (i != 0) H
  | .str z => z.length ≤ sizeLine ∧ Q ((z.length : Int) != 0) H
  | .ref p => (match seqR H p with | some xs => Q (!xs.isEmpty) H | none => False)
  | _ => False
theorem pt_tru {a : Expr} {ta : TE} (ha : PE X a ta) (he : ∀ whole, isTrue a X.env whole = (do let v ← whole; standAt a.pos; holding [v] (truthy v))) :
    PT X a (fun σ H Q => ta σ H fun x H' => fTru x H' Q) := by
  intro pins s σ H Q I h
  show wpAny _ _ (isTrue a X.env (eval a X.env)) _ _ _
  rw [he]
  refine wpAny_bind (thn (ha pins s σ H _ I h) fun v s1 ⟨x, H1, I1, r1, q1⟩ => wpAny_bind (wpAny_standAt (wpAny_holding ?_)))
  refine tru_ok pins s1 σ H1 x v Q I1 r1 ?_
  have q1 : fTru x H1 Q := q1
  unfold fTru at q1
  split at q1
  · exact ⟨_, rfl, q1⟩
  · exact ⟨_, rfl, q1⟩
  · exact ⟨_, rfl, q1⟩
  · exact ⟨_, ⟨q1.1, rfl⟩, q1.2⟩
  · split at q1
    · rename_i xs e
      refine ⟨_, ?_, q1⟩
      rcases seqR_sq (K := X.K) e with z | z
      · exact .inl ⟨_, z, rfl⟩
      · exact .inr (.inl ⟨_, z, rfl⟩)
    · exact q1.elim
  · exact q1.elim
def fAppend : V → List V → Hp → VK → Prop := fun x vs H Q => match x, vs with
  | .ref l, [y] => (match H l with | some (.lst xs) => xs.length < sizeLine ∧ Q .non (upd H l (.lst (xs ++ [y]))) | _ => False)
  | _, _ => False
theorem m_append1 : MtR X "list.append" fAppend := fun pins s σ H x xs v us Q I rx rs h => by
  unfold fAppend at h
  split at h
  · split at h
    · rename_i e
      exact mt_append pins s σ H _ _ v us Q I rx rs ⟨_, _, _, rfl, rfl, e, h.1, h.2⟩
    · exact h.elim
  · exact h.elim
theorem strsAre_of : ∀ {ys : List Str} {us : List Value}, Vals (ys.map V.str) us → StrsAre us ys
  | [], _, .nil => .nil
  | y :: ys, _, .cons r t => by
    obtain ⟨k, rfl⟩ := r
    exact .cons y k (strsAre_of t)
def strs? : List V → Option (List Str)
  | [] => some []
  | .str z :: r => (strs? r).map (z :: ·)
  | _ => none
theorem strs?_map : ∀ ys : List Str, strs? (ys.map V.str) = some ys
  | [] => rfl
  | y :: ys => by simp only [List.map_cons, strs?, strs?_map ys, Option.map_some]
theorem strs?_of : ∀ {xs : List V} {ys : List Str}, strs? xs = some ys → xs = ys.map V.str
  | [], _, h => by cases h; rfl
  | .str z :: r, ys, h => by
    simp only [strs?] at h
    cases e : strs? r with
    | none => rw [e] at h; cases h
    | some q => rw [e] at h; cases h; rw [strs?_of e]; rfl
  | .non :: _, _, h => by cases h
  | .bl _ :: _, _, h => by cases h
  | .int _ :: _, _, h => by cases h
  | .byt _ :: _, _, h => by cases h
  | .flt _ :: _, _, h => by cases h
  | .ref _ :: _, _, h => by cases h
  | .ty _ :: _, _, h => by cases h
def fJoin : V → List V → Hp → VK → Prop := fun x vs H Q => match x, vs with
  | .str z, [.ref p] => (match lstR H p with
    | some xs => (match strs? xs with
      | some ys => (ys.map (·.length)).sum + ys.length * z.length ≤ 16777216 ∧ Q (.str (Txt.join z ys)) H
      | none => False)
    | none => False)
  | _, _ => False
theorem m_join1 : MtR X "str.join" fJoin := fun pins s σ H x xs v us Q I rx rs h => by
  unfold fJoin at h
  split at h
  · rename_i z p
    split at h
    · rename_i ws e
      split at h
      · rename_i ys e2
        obtain ⟨t, rfl⟩ := rx
        obtain ⟨u, rfl, ru⟩ := vals1 rs
        cases ru
        obtain ⟨its, r', pl, hz⟩ := I.list (lstR_sq e)
        rw [strs?_of e2] at r'
        exact join_list pl.isList (strsAre_of (by simpa using r')) h.1 fun t' k => endS (I.tok _) h.2
      · exact h.elim
    · exact h.elim
  · exact h.elim
def fSS (g : Str → Str → V) : V → List V → Hp → VK → Prop := fun x vs H Q => match x, vs with
  | .str z, [.str y] => Q (g z y) H
  | _, _ => False
def fSSI (g : Str → Str → Int → V) : V → List V → Hp → VK → Prop := fun x vs H Q => match x, vs with
  | .str z, [.str y, .int i] => Q (g z y i) H
  | _, _ => False
theorem m_find1 : MtR X "str.find" (fSS fun z y => .int (Txt.find z y)) := fun pins s σ H x xs v us Q I rx rs h => by
  unfold fSS at h
  split at h
  · obtain ⟨t, rfl⟩ := rx
    obtain ⟨u, rfl, t', rfl⟩ := vals1 rs
    exact SC.find (endN (I.tok _) h)
  · exact h.elim
theorem m_find2 : MtR X "str.find" (fSSI fun z y i => .int (Txt.find3 z y i)) := fun pins s σ H x xs v us Q I rx rs h => by
  unfold fSSI at h
  split at h
  · obtain ⟨t, rfl⟩ := rx
    obtain ⟨u, w', rfl, ⟨t', rfl⟩, ⟨t'', rfl⟩⟩ := vals2 rs
    exact SC.find3 (endN (I.tok _) h)
  · exact h.elim
end
end L2
namespace L2
open PySem PySem.Spec PyProof.Rows
def tyN (H : Hp) : V → Option String
  | .non => some "NoneType"
  | .bl _ => some "bool"
  | .int _ => some "int"
  | .str _ => some "str"
  | .ref a => match H a with
    | some (.lst _) => some "list"
    | some (.frz _ (.lst _)) => some "list"
    | some (.tup _) => some "tuple"
    | _ => none
  | _ => none
def subB (t T : String) : Bool := t == T || (t == "bool" && T == "int")
def tys? : List V → Option (List String)
  | [] => some []
  | .ty T :: r => (tys? r).map (T :: ·)
  | _ => none
def knownT (T : String) : Bool := ["bool", "int", "str", "list", "tuple"].contains T
theorem kitOne_of {K : PySem.W.Frag} {t T : String} (ht : t = "NoneType" ∨ t = "bool" ∨ t = "int" ∨ t = "str" ∨ t = "list" ∨ t = "tuple") (hT : T = "bool" ∨ T = "int" ∨ T = "str" ∨ T = "list" ∨ T = "tuple") :
    PySem.W.kitOne K (.type t) (.type T) = some (subB t T) := by
  rcases ht with rfl | rfl | rfl | rfl | rfl | rfl <;> rcases hT with rfl | rfl | rfl | rfl | rfl <;> kernel_rfl
def fIsi : List V → Hp → VK → Prop := fun xs H Q => match xs with
  | [x, .ty T] => (match tyN H x with
    | some t => knownT T = true ∧ Q (.bl (subB t T)) H
    | none => False)
  | [x, .ref p] => (match tyN H x, tupR H p with
    | some t, some ts => (match tys? ts with
      | some Ts => Ts.all knownT = true ∧ Q (.bl (Ts.any (subB t))) H
      | none => False)
    | _, _ => False)
  | _ => False
section
variable {X : Cx}
theorem tyN_kit {K : PySem.W.Frag} {pins : List (Addr × Obj)} {σ : St} {H : Hp} {s : Shared} {x : V} {u : Value} {t : String} (I : Inv X pins σ H s) (rx : RelV x u) (e : tyN H x = some t) :
    (t = "NoneType" ∨ t = "bool" ∨ t = "int" ∨ t = "str" ∨ t = "list" ∨ t = "tuple") ∧ u ≠ .builtin "__main__.__loader__#opaque" ∧ ∃ Hp', PySem.W.KitX K u (.type t) Hp' ∧ Hp' s.heap := by
  cases x with
  | non => cases (show u = Value.none from rx); cases e; exact ⟨by simp, (fun z => nomatch z), _, PySem.W.kitx_none, True.intro⟩
  | bl b => cases (show u = Value.bool b from rx); cases e; exact ⟨by simp, (fun z => nomatch z), _, PySem.W.kitx_bool, True.intro⟩
  | int i => obtain ⟨k, q⟩ := (show ∃ t, u = Value.int i t from rx); cases q; cases e; exact ⟨by simp, (fun z => nomatch z), _, PySem.W.kitx_int, True.intro⟩
  | str z => obtain ⟨k, q⟩ := (show ∃ t, u = Value.str z t from rx); cases q; cases e; exact ⟨by simp, (fun z => nomatch z), _, PySem.W.kitx_str, True.intro⟩
  | ref a =>
    cases (show u = Value.ref a from rx)
    unfold tyN at e
    dsimp only at e
    split at e
    · rename_i xs ea
      cases e
      obtain ⟨_, _, n, _, h1⟩ := (show ObjOk X.prog X.w H s.heap a (.lst xs) from I.hok a _ ea)
      exact ⟨by simp, (fun z => nomatch z), _, PySem.W.kitx_list, ⟨_, h1, rfl⟩⟩
    · rename_i ob xs ea
      cases e
      obtain ⟨_, _, _, n, _, h1⟩ := (show ObjOk X.prog X.w H s.heap a (.frz ob (.lst xs)) from I.hok a _ ea)
      exact ⟨by simp, (fun z => nomatch z), _, PySem.W.kitx_list, ⟨_, h1, rfl⟩⟩
    · rename_i xs ea
      cases e
      obtain ⟨_, _, _, p⟩ := (show ObjOk X.prog X.w H s.heap a (.tup xs) from I.hok a _ ea)
      obtain ⟨o, h1, h2, _⟩ := p
      exact ⟨by simp, (fun z => nomatch z), _, PySem.W.kitx_tuple, ⟨o, h1, h2⟩⟩
    · cases e
  | byt _ => cases e
  | flt _ => cases e
  | ty _ => cases e
theorem knownT_of {T : String} (h : knownT T = true) : T = "bool" ∨ T = "int" ∨ T = "str" ∨ T = "list" ∨ T = "tuple" := by
  simpa [knownT] using h
theorem tys_any {K : PySem.W.Frag} {t : String} (ht : t = "NoneType" ∨ t = "bool" ∨ t = "int" ∨ t = "str" ∨ t = "list" ∨ t = "tuple") : ∀ {ts : List V} {Ts : List String} {its : List Value}, tys? ts = some Ts → Vals ts its → Ts.all knownT = true →
    PySem.W.kitAny K (.type t) its = some (Ts.any (subB t))
  | [], _, _, e, .nil, _ => by cases e; rfl
  | .ty T :: r, Ts, _, e, .cons rv rt, hk => by
    simp only [tys?] at e
    cases er : tys? r with
    | none => rw [er] at e; cases e
    | some q =>
      rw [er] at e
      cases e
      simp only [List.all_cons, Bool.and_eq_true] at hk
      cases rv
      have h1 := kitOne_of (K := K) ht (knownT_of hk.1)
      have h2 := tys_any (K := K) ht er rt hk.2
      unfold PySem.W.kitAny
      rw [h1]
      cases hb : subB t T with
      | true => simp [hb]
      | false => simp only [List.any_cons, hb, Bool.false_or]; exact h2
  | .non :: _, _, _, e, _, _ => by cases e
  | .bl _ :: _, _, _, e, _, _ => by cases e
  | .int _ :: _, _, _, e, _, _ => by cases e
  | .str _ :: _, _, _, e, _, _ => by cases e
  | .byt _ :: _, _, _, e, _, _ => by cases e
  | .flt _ :: _, _, _, e, _, _ => by cases e
  | .ref _ :: _, _, _, e, _, _ => by cases e
theorem c_isinstance : CallR X (.builtin "isinstance") fIsi := by
  intro pins s σ H xs us Q I r h
  unfold fIsi at h
  split at h
  · rename_i x T
    split at h
    · rename_i t et
      obtain ⟨u, c, rfl, rx, rc⟩ := vals2 r
      cases rc
      obtain ⟨ht, hu, H', hk, hH⟩ := tyN_kit (K := X.K) I rx et
      exact PySem.W.kia_one hk I.kIn hH (kitOne_of ht (knownT_of h.1)) hu fun tk => endB (I.tok _) h.2
    · exact h.elim
  · rename_i x p
    split at h
    · rename_i t ts et ep
      split at h
      · rename_i Ts eT
        obtain ⟨u, c, rfl, rx, rc⟩ := vals2 r
        cases rc
        obtain ⟨ht, hu, H', hk, hH⟩ := tyN_kit (K := X.K) I rx et
        obtain ⟨its, rv, pl, hz⟩ := I.tuple (tupR_sq ep)
        obtain ⟨⟨cls, dd, data, sl⟩, ho, hc, n, hd⟩ := id pl
        simp only at hc hd
        subst hc hd
        exact PySem.W.kia_tup hk I.kIn hH ho (tys_any ht eT rv h.1) hu fun tk => endB (I.tok _) h.2
      · exact h.elim
    · exact h.elim
  · exact h.elim
def bls? : List V → Option (List Bool)
  | [] => some []
  | .bl b :: r => (bls? r).map (b :: ·)
  | _ => none
theorem bls?_map : ∀ bs : List Bool, bls? (bs.map V.bl) = some bs
  | [] => rfl
  | b :: bs => by simp only [List.map_cons, bls?, bls?_map bs, Option.map_some]
theorem bls?_of : ∀ {xs : List V} {bs : List Bool}, bls? xs = some bs → xs = bs.map V.bl
  | [], _, h => by cases h; rfl
  | .bl z :: r, ys, h => by
    simp only [bls?] at h
    cases e : bls? r with
    | none => rw [e] at h; cases h
    | some q => rw [e] at h; cases h; rw [bls?_of e]; rfl
  | .non :: _, _, h => by cases h
  | .str _ :: _, _, h => by cases h
  | .int _ :: _, _, h => by cases h
  | .byt _ :: _, _, h => by cases h
  | .flt _ :: _, _, h => by cases h
  | .ref _ :: _, _, h => by cases h
  | .ty _ :: _, _, h => by cases h
def fAll (f : List Bool → Bool) : List V → Hp → VK → Prop := fun xs H Q => match xs with
  | [.ref p] => (match lstR H p with
    | some ys => (match bls? ys with | some bs => Q (.bl (f bs)) H | none => False)
    | none => False)
  | _ => False
theorem range_all (bs : List Bool) : (List.range bs.length).all (fun i => bs.getD i true) = bs.all id := by
  rw [Bool.eq_iff_iff, List.all_eq_true, List.all_eq_true]
  constructor
  · intro h b hb
    obtain ⟨i, hi, rfl⟩ := List.mem_iff_getElem.mp hb
    have := h i (List.mem_range.mpr hi)
    simpa [List.getD_eq_getElem?_getD, hi] using this
  · intro h i hi
    have hi' := List.mem_range.mp hi
    have := h bs[i] (List.getElem_mem hi')
    simpa [List.getD_eq_getElem?_getD, hi'] using this
theorem c_all (hc : X.calm = true) : CallR X (.builtin "all") (fAll fun bs => bs.all id) := by
  intro pins s σ H xs us Q I r h
  unfold fAll at h
  split at h
  · rename_i p
    split at h
    · rename_i ys e
      split at h
      · rename_i bs eb
        obtain ⟨u, rfl, ru⟩ := vals1 r
        cases ru
        obtain ⟨its, rv, pl, hz⟩ := I.list (lstR_sq e)
        rw [bls?_of eb] at rv
        have hlen := rv.length
        rw [List.length_map] at hlen
        have hlt : p < s.heap.objs.size := by obtain ⟨o, ho, _⟩ := pl.isList; exact Heap.lt_size ho
        refine call_all_walk (wpAny_pyIter_list pl.isList ?_)
        refine ⟨s.heap.objs.size, _, _, _, _, _, (fun i => bs.getD i true), rfl, Walks.list (A := X.A.in1) (show X.A.in1.handled = none from I.ok.hd hc) s.heap.objs.size p (Nat.ne_of_lt hlt) its.toArray, ⟨⟨_, Heap.get?_push_size _ rfl, rfl, rfl⟩, ?_⟩, fun i v s' Q' E' hv hq => ?_, fun h' tk k => ?_⟩
        · obtain ⟨o, ho, q⟩ := pl.isList
          exact ⟨o, Heap.get?_push_of_some _ ho, q⟩
        · have hv' : its[i]? = some v := by simpa using hv
          have hil : i < its.length := (List.getElem?_eq_some_iff.mp hv').1
          obtain ⟨w', hw, rw'⟩ := rv.get (i := i) (x := V.bl (bs.getD i true)) (by rw [List.getElem?_map]; simp [List.getD_eq_getElem?_getD, show i < bs.length by omega])
          rw [hv'] at hw
          cases hw
          cases rw'
          exact wpAny_truthy_bool hq
        · have e2 : (List.range its.toArray.size).all (fun i => bs.getD i true) = bs.all id := by rw [List.size_toArray, ← hlen]; exact range_all bs
          rw [e2]
          have I1 : Inv X pins σ H { s with heap := s.heap.push { cls := .type "list_iterator", data := .fields #[.ref p, .int 0 0] }, toks := s.toks } := I.kept fun b u q => Heap.get?_push_of_some _ q
          have f1 := I.fpOk (H' := H) (b := s.heap.objs.size) (Nat.le_refl _) (I.hok.fresh (Nat.le_refl _))
          exact endB (I1.turned (t' := tk) (it := s.heap.objs.size) (fun b o hb q => k b o (by simpa using hb) q) f1.1 f1.2.1 f1.2.2.2.1 f1.2.2.2.2.1 f1.2.2.2.2.2) h
      · exact h.elim
    · exact h.elim
  · exact h.elim
end
def Its (xs : List V) : It := ⟨fun i _ => i < xs.length, fun i H x H' => H' = H ∧ xs[i]? = some x, fun i _ => i = xs.length⟩
def chs (z : Str) : List V := z.cps.toList.map fun c => V.str ⟨#[c]⟩
theorem chs_length (z : Str) : (chs z).length = z.length := by unfold chs; rw [List.length_map]; rfl
theorem turn_walks {P : Program} {w : World} {K : PySem.W.Frag} {tg : Expr} {it : Addr} {n : Nat} {Pv : Nat → Value → Prop} {St : Nat → Heap → Prop} {xs : List V}
    (hW : ∀ A : Around, A.handled = none → Walks P w A it [it] [it] n Pv St) (hn : xs.length = n) (hx : ∀ i u, Pv i u → ∃ x, xs[i]? = some x ∧ RelV x u)
    (hobj : ∀ i h, St i h → ∃ o ty vs, h.get? it = some o ∧ o.cls = .type ty ∧ o.data = .fields vs ∧ ["enumerate", "zip", "dict_itemiterator", "dict_reverseitemiterator", "odict_iterator", "itertools.zip_longest", "itertools.pairwise"].contains ty = false)
    (hself : ∀ (A : Around) (i : Nat) (s : Shared) (Q : Value → Shared → Prop) (E : Value → Shared → Prop), St i s.heap → Q (.ref it) s → wpAny (model P w) A (pyIter (.ref it)) Q E s) :
    Turn P w K tg (Its xs) [it] it St where
  mem := by simp
  obj := fun i h st b hb => by
    have e : b = it := by simpa using hb
    subst e
    obtain ⟨o, ty, vs, ho, _, hd, _⟩ := hobj i h st
    exact ⟨o, ho, fun v z => by rw [hd] at z; cases z⟩
  keep := fun i h h' st k => (hW {} rfl).frame i h h' st k
  item := by
    intro X hP hw hK hc i pins s σ H E I hf st hg
    subst hP hw hK
    obtain ⟨f0, f1, f2, f3, f4, f5⟩ := hf it (by simp)
    have hlt : i < n := by rw [← hn]; exact hg
    refine (hW X.A (I.ok.hd hc)).item i s _ E hlt st fun v h' tk pv st' k => ?_
    obtain ⟨x, ex, rx⟩ := hx i v pv
    have I1 : Inv X pins σ H { s with heap := h', toks := tk } := I.turned (fun b o hb e => k b o (by simpa using hb) e) f0 f1 f3 f4 f5
    obtain ⟨o, ty, vs, ho, hcl, hd, hnn⟩ := hobj _ _ st'
    exact ⟨v, rfl, go_of (s := { s with heap := h', toks := tk }) ho hcl hd hnn ⟨x, H, I1, rx, ⟨rfl, ex⟩, st', fun b hb => (hf b hb).1⟩⟩
  done := by
    intro X hP hw hK hc i pins s σ H E I hf st hg
    subst hP hw hK
    obtain ⟨f0, f1, f2, f3, f4, f5⟩ := hf it (by simp)
    have e : i = n := by rw [← hn]; exact hg
    subst e
    exact (hW X.A (I.ok.hd hc)).done s _ E st fun h' tk k => ⟨rfl, I.turned (fun b o hb e => k b o (by simpa using hb) e) f0 f1 f3 f4 f5⟩
  self := hself
section
variable {X : Cx} {tg : Expr}
def anyIt (K : PySem.W.Frag) (R : It → Hp → Prop) : V → Hp → Prop := fun x H1 => match x with
  | .str z => R (Its (chs z)) H1
  | .ref a => (∃ xs, SqL K H1 a xs ∧ R (Itl K a) H1) ∨ (∃ xs, SqT K H1 a xs ∧ R (Itt K a) H1)
  | _ => False
def iAny (K : PySem.W.Frag) (te : TE) : TI := fun σ H R => te σ H (anyIt K R)
theorem sign_rel {z : Str} {i : Nat} {u : Value} (h : SignAt z i u) : ∃ x, (chs z)[i]? = some x ∧ RelV x u := by
  obtain ⟨c, k, hc, rfl⟩ := h
  refine ⟨.str ⟨#[c]⟩, ?_, ⟨k, rfl⟩⟩
  unfold chs
  rw [List.getElem?_map, Array.getElem?_toList, hc]
  rfl
theorem pi_any {K : PySem.W.Frag} {l : Expr} {tl : TE} (hl : PE X l tl) (hK : X.K = K := by rfl) : PI X tg l (iAny K tl) := by
  subst hK
  intro pins s σ H R I h
  refine thn (hl pins s σ H _ I h) fun v s1 ⟨x, H1, I1, r1, q1⟩ => ?_
  have fresh1 : ∀ b ∈ [s1.heap.objs.size], FpOk X pins H1 b := fun b hb => by
    have e : b = s1.heap.objs.size := by simpa using hb
    subst e
    exact I1.fpOk (Nat.le_refl _) (I1.hok.fresh (Nat.le_refl _))
  have kept1 : ∀ ob : Obj, Inv X pins σ H1 { s1 with heap := s1.heap.push ob } := fun ob => I1.kept (t' := s1.toks) fun b o e => Heap.get?_push_of_some _ e
  unfold anyIt at q1
  split at q1
  · rename_i z
    obtain ⟨t, rfl⟩ := r1
    have hlen : (chs z).length = z.cps.size := by unfold chs; simp
    cases ha : z.cps.all (· < 128)
    · refine wpAny_pyIter_wide ha ⟨s1.heap.objs.size, [s1.heap.objs.size], _, _, H1, rfl, kept1 _, turn_walks (fun A hA => Walks.strWide hA s1.heap.objs.size z t) hlen (fun i u hu => sign_rel hu) ?_ (fun A i s Q E st q => wpAny_pyIter_striter_wide st q), ⟨_, Heap.get?_push_size _ rfl, rfl, rfl⟩, fresh1, q1⟩
      intro i h st
      obtain ⟨o, ho, hc, hd⟩ := st
      exact ⟨o, _, _, ho, hc, hd, by decide⟩
    · refine wpAny_pyIter_ascii ha ⟨s1.heap.objs.size, [s1.heap.objs.size], _, _, H1, rfl, kept1 _, turn_walks (fun A hA => Walks.strAscii hA s1.heap.objs.size z t) hlen (fun i u hu => sign_rel hu) ?_ (fun A i s Q E st q => wpAny_pyIter_striter_ascii st q), ⟨_, Heap.get?_push_size _ rfl, rfl, rfl⟩, fresh1, q1⟩
      intro i h st
      obtain ⟨o, ho, hc, hd⟩ := st
      exact ⟨o, _, _, ho, hc, hd, by decide⟩
  · rename_i a
    cases r1
    rcases q1 with ⟨xs, e, q1⟩ | ⟨xs, e, q1⟩
    · obtain ⟨its, rv, p, hz⟩ := I1.list e
      exact wpAny_pyIter_list p.isList ⟨s1.heap.objs.size, [s1.heap.objs.size], _, _, H1, rfl, kept1 _, turn_list a _, ⟨_, Heap.get?_push_size _ rfl, rfl, rfl⟩, fresh1, q1⟩
    · obtain ⟨its, rv, p, hz⟩ := I1.tuple e
      exact wpAny_pyIter_tuple (show s1.heap.IsTuple a its.toArray from p) ⟨s1.heap.objs.size, [s1.heap.objs.size], _, _, H1, rfl, kept1 _, turn_tuple a _, ⟨_, Heap.get?_push_size _ rfl, rfl, rfl⟩, fresh1, q1⟩
  · exact q1.elim
end
theorem for_its {xs : List V} {g : TG} {tb : TS} {D : Ends} {σ : St} {H : Hp} (Pv : Nat → St → Hp → Prop) (h0 : Pv 0 σ H)
    (hs : ∀ i x σ H, xs[i]? = some x → Pv i σ H → g x σ H fun σ2 H2 => tb { D with nx := Pv (i + 1), ct := Pv (i + 1), bk := D.nx } σ2 H2) (hd : ∀ σ H, Pv xs.length σ H → D.nx σ H) :
    ∃ W : Nat → Nat → St → Hp → Prop, (∃ m, W 0 m σ H) ∧ ∀ i m σ H, W i m σ H →
      ((Its xs).stop i H ∧ D.nx σ H) ∨ ((Its xs).go i H ∧ ∃ N : St → Hp → Prop, (∀ σ' H', N σ' H' → ∃ m', m' < m ∧ W (i + 1) m' σ' H') ∧ ∀ x H', (Its xs).yld i H x H' → g x σ H' fun σ2 H2 => tb { D with nx := N, ct := N, bk := D.nx } σ2 H2) := by
  refine ⟨fun i m σ H => m = xs.length - i ∧ i ≤ xs.length ∧ Pv i σ H, ⟨xs.length, by simp, Nat.zero_le _, h0⟩, fun i m σ' H' w => ?_⟩
  obtain ⟨rfl, hi, p⟩ := w
  by_cases hlt : i < xs.length
  · refine .inr ⟨hlt, Pv (i + 1), fun σ2 H2 p' => ⟨xs.length - (i + 1), by omega, rfl, hlt, p'⟩, fun x H2 y => ?_⟩
    obtain ⟨rfl, y⟩ := y
    exact hs i x σ' _ y p
  · have e : i = xs.length := by omega
    exact .inl ⟨e, hd σ' H' (e ▸ p)⟩
theorem comp_of {J : It} {n : Nat} {val : Nat → V} {p : Addr} {g : TG} {tc : TT} {te : TE} {Q : VK} {σ0 : St} {H0 : Hp} (Pv : Nat → List V → St → Hp → Prop)
    (hgo : ∀ i acc σ H, i < n → Pv i acc σ H → J.go i H) (hst : ∀ acc σ H, Pv n acc σ H → J.stop n H) (hy : ∀ i acc σ H x H', i < n → Pv i acc σ H → J.yld i H x H' → H' = H ∧ x = val i)
    (h0 : Pv 0 [] σ0 H0) (hp : ∀ i acc σ H, Pv i acc σ H → H p = some (.lst acc) ∧ acc.length ≤ i) (hz : n ≤ sizeLine)
    (hs : ∀ i acc σ H, i < n → Pv i acc σ H → g (val i) σ H fun σ3 H3 => tc σ3 H3 fun b H4 =>
      if b = true then te σ3 H4 fun v H5 => H5 p = some (.lst acc) ∧ Pv (i + 1) (acc ++ [v]) σ3 (upd H5 p (.lst (acc ++ [v]))) else Pv (i + 1) acc σ3 H4)
    (hd : ∀ acc σ H, Pv n acc σ H → Q (.ref p) H) :
    CompRuns J p g tc te Q σ0 H0 := by
  refine ⟨fun i m acc σ H => m = n - i ∧ i ≤ n ∧ Pv i acc σ H, ⟨n, by simp, Nat.zero_le _, h0⟩, fun i m acc σ' H' w => ?_⟩
  obtain ⟨rfl, hi, q⟩ := w
  obtain ⟨q1, q2⟩ := hp i acc σ' H' q
  refine ⟨q1, ?_⟩
  by_cases hlt : i < n
  · refine .inr ⟨hgo i acc σ' H' hlt q, by omega, Pv (i + 1), fun a' σ3 H3 k => ⟨n - (i + 1), by omega, rfl, hlt, k⟩, fun x H2 y => ?_⟩
    obtain ⟨rfl, rfl⟩ := hy i acc σ' H' x H2 hlt q y
    exact hs i acc σ' _ hlt q
  · have e : i = n := by omega
    subst e
    exact .inl ⟨hst acc σ' H' q, hd acc σ' H' q⟩
theorem comp_range {lo : Int} {n : Nat} {p : Addr} {g : TG} {tc : TT} {te : TE} {Q : VK} {σ0 : St} {H0 : Hp} (Pv : Nat → List V → St → Hp → Prop)
    (h0 : Pv 0 [] σ0 H0) (hp : ∀ i acc σ H, Pv i acc σ H → H p = some (.lst acc) ∧ acc.length ≤ i) (hz : n ≤ sizeLine)
    (hs : ∀ i acc σ H, i < n → Pv i acc σ H → g (.int (lo + i)) σ H fun σ3 H3 => tc σ3 H3 fun b H4 =>
      if b = true then te σ3 H4 fun v H5 => H5 p = some (.lst acc) ∧ Pv (i + 1) (acc ++ [v]) σ3 (upd H5 p (.lst (acc ++ [v]))) else Pv (i + 1) acc σ3 H4)
    (hd : ∀ acc σ H, Pv n acc σ H → Q (.ref p) H) : CompRuns (Itr lo n) p g tc te Q σ0 H0 :=
  comp_of (J := Itr lo n) (val := fun i => .int (lo + i)) Pv (fun _ _ _ _ h _ => h) (fun _ _ _ _ => Nat.le_refl n) (fun _ _ _ _ _ _ _ _ y => y) h0 hp hz hs hd
theorem comp_list {K : PySem.W.Frag} {a : Addr} {xs : List V} {p : Addr} {g : TG} {tc : TT} {te : TE} {Q : VK} {σ0 : St} {H0 : Hp} (Pv : Nat → List V → St → Hp → Prop)
    (hl : ∀ i acc σ H, i ≤ xs.length → Pv i acc σ H → SqL K H a xs)
    (h0 : Pv 0 [] σ0 H0) (hp : ∀ i acc σ H, Pv i acc σ H → H p = some (.lst acc) ∧ acc.length ≤ i) (hz : xs.length ≤ sizeLine)
    (hs : ∀ i acc σ H, i < xs.length → Pv i acc σ H → g (xs.getD i .non) σ H fun σ3 H3 => tc σ3 H3 fun b H4 =>
      if b = true then te σ3 H4 fun v H5 => H5 p = some (.lst acc) ∧ Pv (i + 1) (acc ++ [v]) σ3 (upd H5 p (.lst (acc ++ [v]))) else Pv (i + 1) acc σ3 H4)
    (hd : ∀ acc σ H, Pv xs.length acc σ H → Q (.ref p) H) : CompRuns (Itl K a) p g tc te Q σ0 H0 :=
  comp_of (J := Itl K a) (n := xs.length) (val := fun i => xs.getD i .non) Pv
    (fun i acc σ H hi q => ⟨xs, xs[i], (hl i acc σ H (Nat.le_of_lt hi) q), by simp [hi]⟩) (fun acc σ H q => ⟨xs, (hl _ acc σ H (Nat.le_refl _) q), Nat.le_refl _⟩)
    (fun i acc σ H x _ hi q y => ⟨y.1, by have := y.2 xs (hl i acc σ H (Nat.le_of_lt hi) q); rw [List.getD_eq_getElem?_getD, this]; rfl⟩) h0 hp hz hs hd
section
variable {X : Cx} {o e : Expr} {es : List Expr} {to : TE} {t : TA} {name : Str} {apos cpos : Pos} {T id : String} {r : V → List V → Hp → VK → Prop}
theorem pe_bmK {K : PySem.W.Frag} (pa : PlainAttrs T) (slot : Slot T name id) (hty : typeOf (.builtin id) = pure (.type "method_descriptor")) (hm : MtR X id r) (ho : PE X o to) (ha : PA X (e :: es) t) (hK : X.K = K := by rfl)
    (hb : attributeBase o name X.env (eval o X.env) = eval o X.env := by rfl)
    (hf : ((backTo cpos (starEach (e :: es) X.env)).all (fun x => !x.1) && (backToKw cpos (keywordEach [] X.env)).all (fun x => x.1.isSome) && decide ((e :: es).length + ([] : List Keyword).length + (if ([] : List Keyword).isEmpty then 0 else 1) < 30)) = true := by rfl)
    (hl : (apos.endLine == cpos.line) = true := by rfl) (he : starEach (e :: es) X.env = (false, eval e X.env) :: starEach es X.env := by rfl) (hpl : (backTo cpos (starEach es X.env)).any (·.1) = false := by rfl) : PE X (.Call (.Attribute o name apos) (e :: es) [] cpos) (tBM K T r to t) := by
  subst hK
  exact pe_bm pa slot hty hm ho ha hb hf hl he hpl
end
def fSet : V → V → V → Hp → (Hp → Prop) → Prop := fun o i v H Q => match o, i with
  | .ref p, .int k => (match H p with
    | some (.lst xs) => (match ixN xs.length k with | some j => Q (upd H p (.lst (xs.set j v))) | none => False)
    | _ => False)
  | _, _ => False
theorem set_l {X : Cx} : PSet X fSet := fun pins s σ H o i v ov iv u Q I ro ri rv h => by
  unfold fSet at h
  split at h
  · split at h
    · rename_i xs e
      split at h
      · rename_i j ej
        exact set_list pins s σ H _ _ v ov iv u Q I ro ri rv ⟨_, _, _, _, rfl, rfl, e, ej, h⟩
      · exact h.elim
    · exact h.elim
  · exact h.elim
structure Dn (P : Program) (w : World) (K : PySem.W.Frag) (mg : Str → Option Value) (base : Heap) (x : Str) (k : Nat) (ps : List Str) (sp : Sp) : Prop where
  ex : ∃ (f : Addr) (fd : FuncData), mg x = some (.ref f) ∧ PySem.W.keepIn K (.ref f) = true ∧ Binds K fd ps [] ∧ FnOk P w K mg base CX0 k f fd ps sp
theorem pe_callD {X : Cx} {x : Str} {k : Nat} {ps : List Str} {sp : Sp} {e : Expr} {es : List Expr} {t : TA} {p pos : Pos} (D : Dn X.prog X.w X.K X.mg X.base x k ps sp) (hr : Room k X.A) (hg : Gl X x) (ha : PA X (e :: es) t)
    (hdb : (x == ("__debug__" : Str)) = false := by decide) (he : starEach (e :: es) X.env = (false, eval e X.env) :: starEach es X.env := by rfl) (hpl : (backTo pos (starEach es X.env)).any (·.1) = false := by rfl) :
    PE X (.Call (.Name x p) (e :: es) [] pos) (tCall sp [] E0 t) := by
  obtain ⟨f, fd, h1, h2, h3, h4⟩ := D.ex
  exact pe_call h4 hr hg h1 h2 h3 .nil pass0 ha hdb he hpl
end L2
namespace L2
open PySem
open Sem (wp)
open AutoSeq1 (wpAny_loadPart')
section
variable {prog : Program} {w : World} {A : Around} {E : Value → Shared → Prop} {s : Shared}
theorem nextT_item {it t : Addr} {i : Nat} {items : Array Value} {x : Value} {Q : Value → Shared → Prop} (hit : s.heap.IsTupleIter it t i) (ht : s.heap.IsTuple t items) (hx : items[i]? = some x)
    (hQ : ∀ h', h'.IsTupleIter it t (i + 1) → Heap.SameBut it s.heap h' → Q x { s with heap := h' }) : wpAny (model prog w) A (Builtin.SmallTypes.nextOf (.ref it)) Q E s := by
  obtain ⟨ob, hob, hcl, hdt⟩ := id hit
  obtain ⟨ot, hot, _, nt, hdot⟩ := ht
  unfold Builtin.SmallTypes.nextOf
  refine wpAny_bind (wpAny_callSpecial?_slot (name := Str.ofString "__next__") hit.typeIs F.slot_tuple_iterator_next (wpAny_call_entry F.slot_tuple_iterator_next hit.typeIs F.entry_tuple_iterator_next ?_ (F.args_tuple_iterator_next_1 _)))
  show wpAny _ _ (field (.ref it) 0 >>= _) _ _ s
  refine wpAny_bind (wpAny_field hob hdt (x := .ref t) rfl ?_)
  have nn : ¬ ((Value.ref t == Value.none) = true) := Bool.false_ne_true
  show wpAny _ _ (if (Value.ref t == Value.none) = true then _ else _) _ _ s
  rw [if_neg nn]
  show wpAny _ _ (field (.ref it) 1 >>= _) _ _ s
  refine wpAny_bind (wpAny_field hob hdt (x := .int i 0) rfl ?_)
  show wpAny _ _ (seqItems? (.ref t) >>= _) _ _ s
  refine wpAny_bind (wpAny_seqItems hot hdot ?_)
  simp only [Int.toNat_natCast, hx]
  refine wpAny_bind (wpAny_setField hob hdt (by simp) (wpAny_pure ⟨x, rfl, wpAny_pure (hQ _ ?_ (Heap.SameBut.update ..))⟩))
  exact ⟨_, Heap.get?_update_self _ hob (Obj.isFreed_of_fields (Obj.data_mapFields hdt _)), (Obj.cls_mapFields ..).trans hcl, by rw [Obj.data_mapFields hdt]; simp [rawInt]⟩
theorem nextT_end {it t : Addr} {i : Nat} {items : Array Value} {Q : Value → Shared → Prop} (hh : A.handled = none) (hit : s.heap.IsTupleIter it t i) (ht : s.heap.IsTuple t items) (hx : items[i]? = none)
    (hE : ∀ h' e, Heap.ExtBut it s.heap h' → (∃ o, h'.get? e = some o ∧ o.cls = .type "StopIteration") → E (.ref e) { s with heap := h' }) : wpAny (model prog w) A (Builtin.SmallTypes.nextOf (.ref it)) Q E s := by
  obtain ⟨ob, hob, hcl, hdt⟩ := id hit
  obtain ⟨ot, hot, _, nt, hdot⟩ := ht
  unfold Builtin.SmallTypes.nextOf
  refine wpAny_bind (wpAny_callSpecial?_slot (name := Str.ofString "__next__") hit.typeIs F.slot_tuple_iterator_next (wpAny_call_entry F.slot_tuple_iterator_next hit.typeIs F.entry_tuple_iterator_next ?_ (F.args_tuple_iterator_next_1 _)))
  show wpAny _ _ (field (.ref it) 0 >>= _) _ _ s
  refine wpAny_bind (wpAny_field hob hdt (x := .ref t) rfl ?_)
  have nn : ¬ ((Value.ref t == Value.none) = true) := Bool.false_ne_true
  show wpAny _ _ (if (Value.ref t == Value.none) = true then _ else _) _ _ s
  rw [if_neg nn]
  show wpAny _ _ (field (.ref it) 1 >>= _) _ _ s
  refine wpAny_bind (wpAny_field hob hdt (x := .int i 0) rfl ?_)
  show wpAny _ _ (seqItems? (.ref t) >>= _) _ _ s
  refine wpAny_bind (wpAny_seqItems hot hdot ?_)
  simp only [Int.toNat_natCast, hx]
  refine wpAny_bind (wpAny_rule (wpAny_bind (wpAny_setField hob hdt (by simp) ?_)))
  show wpAny _ _ (newExc (.type "StopIteration") [] >>= _) _ _ _
  refine wpAny_bind ?_
  simp only [newExc, newTuple]
  refine wpAny_bind (wpAny_newObj_type ?_ (by size_fits))
  refine wpAny_bind (m := firstArgMember _ _) (wpAny_of_eq (a := Value.none) (by first | rfl | (simp only [firstArgMember]; rfl)) (wpAny_newObj_type ?_ (by size_fits)))
  simp only [raiseNew]
  refine wpAny_bind (wpAny_handled ?_)
  first | rw [show A.in1.handled = none from hh] | rw [hh]
  exact wpAny_bind (wpAny_pure (wpAny_throw (hE _ _ (((Heap.SameBut.update ..).extBut.push _).push _) ⟨_, Heap.get?_push_size _ rfl, rfl⟩)))
end
theorem drawsTuple {prog : Program} {w : World} {A : Around} (hh : A.handled = none) (it t : Addr) (hne : t ≠ it) (items : Array Value) :
    Draws prog w A it [it, t] items.size (fun i v => items[i]? = some v) (fun i h => h.IsTupleIter it t i ∧ h.IsTuple t items) where
  live := fun _ _ st => let ⟨o, ho, _⟩ := st.1; ⟨o, ho⟩
  frame := fun _ _ _ st hk => ⟨st.1.at fun o e => hk it (by simp) o e, let ⟨o, ho, r⟩ := st.2; ⟨o, hk t (by simp) o ho, r⟩⟩
  item := fun i s Q E hi st hQ => by
    refine nextT_item st.1 st.2 (x := items[i]) (by simp [hi]) fun h' hit' hs' => ?_
    exact hQ _ h' s.toks (by simp [hi]) ⟨hit', st.2.extBut hs'.extBut hne⟩ hs'
  done := fun s Q E st hE => nextT_end hh st.1 st.2 (by simp) hE
set_option maxHeartbeats 4000000 in
theorem enum_newT (l : Addr) (items : Array Value) (n : Nat) (dct : Option Addr) (sl : Array (Option Value)) (b : Int) (u : Tok) (hb : Builtin.SmallTypes.fitsIndex b = true) :
    Meets (Builtin.«enumerate.__new__» ⟨[.type "enumerate", .ref l], [(Str.ofString "start", .int b u)]⟩) (fun _ R s => s.heap.get? l = some { cls := .type "tuple", dict := dct, data := .seq items n, slots := sl } ∧
      R (.ok (.ret (.ref (s.heap.push { cls := .type "tuple_iterator", data := .fields #[.ref l, .int 0 0] }).objs.size)))
        { s with heap := (s.heap.push { cls := .type "tuple_iterator", data := .fields #[.ref l, .int 0 0] }).push { cls := .type "enumerate", data := .fields #[.none, .bool false, .ref s.heap.objs.size, rawInt b, .none, .none] } }) :=
  .of_wp fun prog w A R s h => by
    obtain ⟨hp, g, d, tk, os⟩ := s; obtain ⟨hl, h⟩ := h
    have hsub := sub_enumerate
    have hL : Heap.IsTuple (Shared.heap ⟨hp, g, d, tk, os⟩) l items := ⟨_, hl, rfl, n, rfl⟩
    have hb' : (!Builtin.SmallTypes.fitsIndex b) = false := by rw [hb]; rfl
    wp_walk using wpAny_loadPart' hl
    refine wpAny_stack_any fun st => wpAny_pure ?_
    split
    · rename_i c _ _ _ _ _
      cases (c == Value.type "enumerate")
      · wp_walk using wpAny_loadPart' hl, wpAny_pyIter_tuple hL
        exact ⟨_, rfl, h⟩
      · wp_walk using wpAny_loadPart' hl, wpAny_pyIter_tuple hL
        exact ⟨_, rfl, h⟩
    · wp_walk using wpAny_loadPart' hl, wpAny_pyIter_tuple hL
      exact ⟨_, rfl, h⟩
set_option maxHeartbeats 4000000 in
theorem enum_newL (l : Addr) (items : Array Value) (n : Nat) (dct : Option Addr) (sl : Array (Option Value)) (b : Int) (u : Tok) (hb : Builtin.SmallTypes.fitsIndex b = true) :
    Meets (Builtin.«enumerate.__new__» ⟨[.type "enumerate", .ref l], [(Str.ofString "start", .int b u)]⟩) (fun _ R s => s.heap.get? l = some { cls := .type "list", dict := dct, data := .seq items n, slots := sl } ∧
      R (.ok (.ret (.ref (s.heap.push { cls := .type "list_iterator", data := .fields #[.ref l, .int 0 0] }).objs.size)))
        { s with heap := (s.heap.push { cls := .type "list_iterator", data := .fields #[.ref l, .int 0 0] }).push { cls := .type "enumerate", data := .fields #[.none, .bool false, .ref s.heap.objs.size, rawInt b, .none, .none] } }) :=
  .of_wp fun prog w A R s h => by
    obtain ⟨hp, g, d, tk, os⟩ := s; obtain ⟨hl, h⟩ := h
    have hsub := sub_enumerate
    have hL : Heap.IsList (Shared.heap ⟨hp, g, d, tk, os⟩) l items := ⟨_, hl, rfl, n, rfl⟩
    have hb' : (!Builtin.SmallTypes.fitsIndex b) = false := by rw [hb]; rfl
    wp_walk using wpAny_loadPart' hl
    refine wpAny_stack_any fun st => wpAny_pure ?_
    split
    · rename_i c _ _ _ _ _
      cases (c == Value.type "enumerate")
      · wp_walk using wpAny_loadPart' hl, wpAny_pyIter_list hL
        exact ⟨_, rfl, h⟩
      · wp_walk using wpAny_loadPart' hl, wpAny_pyIter_list hL
        exact ⟨_, rfl, h⟩
    · wp_walk using wpAny_loadPart' hl, wpAny_pyIter_list hL
      exact ⟨_, rfl, h⟩
section
variable {prog : Program} {w : World} {A : Around} {E : Value → Shared → Prop} {s : Shared}
theorem initK {T newId : String} {self : Value} {rest : List Value} {kw : List (Str × Value)} (hl : typeLookup (.type T) "__init__" = pure (some (.builtin "object.__init__")))
    (hm : Bind.madeBy (.type T) = pure (some newId)) (hne : (some newId != some "object.__new__") = true) :
    Meets (Builtin.«object.__init__» ⟨self :: rest, kw⟩) (fun _ R s => s.TypeIs self T ∧ R (.ok (.ret .none)) s) := by
  refine Meets.of_wp fun prog w A R s hs => ?_
  obtain ⟨hT, hq⟩ := hs
  cases rest with
  | nil =>
    cases kw with
    | nil => exact wpAny_pure ⟨_, rfl, hq⟩
    | cons k kw =>
      repeat (any_goals (first | assumption | wp_step))
      exact ⟨_, rfl, hq⟩
  | cons a rest =>
    repeat (any_goals (first | assumption | wp_step))
    exact ⟨_, rfl, hq⟩
set_option maxHeartbeats 4000000 in
theorem callTypeK {T newId initId : String} {Bn Bi : Builtin} {args : List Value} {kw : List (Str × Value)} {S : Spec} {Q Q₁ : Value → Shared → Prop} (ft : TypeCalled T newId initId)
    (hct : checkTypeCall T ⟨args, kw⟩ = pure ()) (hcn : checkBuiltinCall newId ⟨.type T :: args, kw⟩ = pure ())
    (entryN : entryFor table newId = some Bn) (entryI : entryFor table initId = some Bi) (g : Meets (Bn ⟨.type T :: args, kw⟩) S) (h : S A.in1 (wants Q₁ E) s)
    (hnext : ∀ obj s₁, Q₁ obj s₁ → s₁.TypeIs obj T ∧ argsOk initId ⟨obj :: args, kw⟩ ∧ ∃ Si, Meets (Bi ⟨obj :: args, kw⟩) Si ∧ Si A.in1 (wants (fun r s₂ => r = .none ∧ Q obj s₂) E) s₁) :
    wpAny (model prog w) A (call (.type T) args kw) Q E s := by
  obtain ⟨c, tl, hmro⟩ := ft.mro
  have hmade := ft.made
  have hsub := ft.sub
  refine wpAny_call (codeAny_of_tree ?_)
  show wpAny _ _ (callAny (.type T) _) _ _ _
  refine wpAny_pure ⟨Code.quiet_builtin _ (by decide +kernel), codeAny_builtin F.entry_type_call ?_⟩
  rw [Around.under_plain (weight_type_call_type T args kw) (units_type_call_type T args kw)]
  have h1 := ft.notType
  have h2 := ft.canCreate
  repeat (any_goals (first | assumption | wp_step))
  refine codeAny_mono (codeAny_call_builtin ft.plain entryN (wpAny_of_eq hcn (g prog w A.in1 _ s h))) fun r s₁ hr => ?_
  cases r with
  | error e => exact hr
  | ok fl =>
    cases fl with
    | ret obj =>
      obtain ⟨hT, hok, Si, gi, hsi⟩ := hnext _ _ hr
      have hli := ft.init.lookup
      have hbi := ft.init.bind obj
      repeat (any_goals (first | assumption | wp_step))
      refine codeAny_mono (codeAny_call_builtin ft.init.plain entryI (ft.init.check _ _ _ _ _ _ _ _ hT hok (gi prog w A.in1 _ s₁ hsi))) fun r₂ s₂ hr₂ => ?_
      cases r₂ with
      | error e => exact hr₂
      | ok fl₂ =>
        cases fl₂ with
        | ret r =>
          obtain ⟨rfl, hq⟩ := hr₂
          repeat (any_goals (first | assumption | wp_step))
        | _ => exact hr₂.elim
    | _ => exact hr.elim
theorem chk1 (a b : Value) : checkTypeCall "enumerate" ⟨[a], [(Str.ofString "start", b)]⟩ = pure () := by kernel_rfl
theorem chk2 (a b : Value) : checkBuiltinCall "enumerate.__new__" ⟨[.type "enumerate", a], [(Str.ofString "start", b)]⟩ = pure () := by kernel_rfl
theorem argsK (obj a b : Value) : argsOk "object.__init__" ⟨[obj, a], [(Str.ofString "start", b)]⟩ := by
  unfold argsOk
  rw [signature?_of (id := "object.__init__") (n := ['_', '_', 't', 'i', 'n', 'i', '_', '_']) (o := ['t', 'c', 'e', 'j', 'b', 'o']) (by kernel_rfl) F.owner_object]
  kernel_rfl
theorem call_enumT {l : Addr} {items : Array Value} {b : Int} {u : Tok} {Q : Value → Shared → Prop} (hL : s.heap.IsTuple l items) (hb : Builtin.SmallTypes.fitsIndex b = true)
    (h : ∀ h', IsEnum h' (s.heap.objs.size + 1) s.heap.objs.size b .none → h'.IsTupleIter s.heap.objs.size l 0 → (∀ b o, s.heap.get? b = some o → h'.get? b = some o) → Q (.ref (s.heap.objs.size + 1)) { s with heap := h' }) :
    wpAny (model prog w) A (call (.type "enumerate") [.ref l] [(Str.ofString "start", .int b u)]) Q E s := by
  obtain ⟨⟨c, dct, dt, sl⟩, hl, hc, n, hd⟩ := hL
  simp only at hc hd
  subst hc hd
  refine callTypeK (Q₁ := fun obj s₁ => s₁.TypeIs obj "enumerate" ∧ Q obj s₁) F.called_enumerate (chk1 _ _) (chk2 _ _) F.entry_enumerate_new F.entry_object_init (enum_newT l items n dct sl b u hb) ⟨hl, ?_⟩
    fun obj s₁ hq => ⟨hq.1, argsK obj _ _, _, initK F.called_enumerate.init.lookup F.called_enumerate.made (by decide), hq.1, rfl, hq.2⟩
  have hz : (s.heap.push { cls := .type "tuple_iterator", data := .fields #[.ref l, .int 0 0] }).objs.size = s.heap.objs.size + 1 := Heap.size_push ..
  show _ ∧ _
  rw [hz]
  have he : IsEnum ((s.heap.push { cls := .type "tuple_iterator", data := .fields #[.ref l, .int 0 0] }).push { cls := .type "enumerate", data := .fields #[.none, .bool false, .ref s.heap.objs.size, rawInt b, .none, .none] }) (s.heap.objs.size + 1) s.heap.objs.size b .none := by
    have := Heap.get?_push_size (s.heap.push { cls := .type "tuple_iterator", data := .fields #[.ref l, .int 0 0] }) (o := { cls := .type "enumerate", data := .fields #[.none, .bool false, .ref s.heap.objs.size, rawInt b, .none, .none] }) rfl
    rw [hz] at this; exact this
  exact ⟨⟨_, he, rfl⟩, h _ he ⟨_, Heap.get?_push_of_some _ (Heap.get?_push_size _ rfl), rfl, rfl⟩ fun b o x => Heap.get?_push_of_some _ (Heap.get?_push_of_some _ x)⟩
theorem call_enumL {l : Addr} {items : Array Value} {b : Int} {u : Tok} {Q : Value → Shared → Prop} (hL : s.heap.IsList l items) (hb : Builtin.SmallTypes.fitsIndex b = true)
    (h : ∀ h', IsEnum h' (s.heap.objs.size + 1) s.heap.objs.size b .none → h'.IsListIter s.heap.objs.size l 0 → (∀ b o, s.heap.get? b = some o → h'.get? b = some o) → Q (.ref (s.heap.objs.size + 1)) { s with heap := h' }) :
    wpAny (model prog w) A (call (.type "enumerate") [.ref l] [(Str.ofString "start", .int b u)]) Q E s := by
  obtain ⟨⟨c, dct, dt, sl⟩, hl, hc, n, hd⟩ := hL
  simp only at hc hd
  subst hc hd
  refine callTypeK (Q₁ := fun obj s₁ => s₁.TypeIs obj "enumerate" ∧ Q obj s₁) F.called_enumerate (chk1 _ _) (chk2 _ _) F.entry_enumerate_new F.entry_object_init (enum_newL l items n dct sl b u hb) ⟨hl, ?_⟩
    fun obj s₁ hq => ⟨hq.1, argsK obj _ _, _, initK F.called_enumerate.init.lookup F.called_enumerate.made (by decide), hq.1, rfl, hq.2⟩
  have hz : (s.heap.push { cls := .type "list_iterator", data := .fields #[.ref l, .int 0 0] }).objs.size = s.heap.objs.size + 1 := Heap.size_push ..
  show _ ∧ _
  rw [hz]
  have he : IsEnum ((s.heap.push { cls := .type "list_iterator", data := .fields #[.ref l, .int 0 0] }).push { cls := .type "enumerate", data := .fields #[.none, .bool false, .ref s.heap.objs.size, rawInt b, .none, .none] }) (s.heap.objs.size + 1) s.heap.objs.size b .none := by
    have := Heap.get?_push_size (s.heap.push { cls := .type "list_iterator", data := .fields #[.ref l, .int 0 0] }) (o := { cls := .type "enumerate", data := .fields #[.none, .bool false, .ref s.heap.objs.size, rawInt b, .none, .none] }) rfl
    rw [hz] at this; exact this
  exact ⟨⟨_, he, rfl⟩, h _ he ⟨_, Heap.get?_push_of_some _ (Heap.get?_push_size _ rfl), rfl, rfl⟩ fun b o x => Heap.get?_push_of_some _ (Heap.get?_push_of_some _ x)⟩
end
end L2
namespace L2
open PySem PySem.Spec PyProof.Rows
section
variable {X : Cx} {pins : List (Addr × Obj)} {σ : St} {H : Hp} {s : Shared} {h' : Heap}
theorem Inv.turnedL {t' : Nat} {ch : List Addr} (I : Inv X pins σ H s) (k : ∀ b u, b ∉ ch → s.heap.get? b = some u → h'.get? b = some u) (hf : ∀ b ∈ ch, FpOk X pins H b) : Inv X pins σ H { s with heap := h', toks := t' } := by
  have nch : ∀ b u, H b = some u → b ∉ ch := fun b u e z => by rw [(hf b z).1] at e; cases e
  refine I.step (g' := s.gens) (d' := s.drawn) (ch := ch) (fun b hb => ⟨(hf b hb).2.2.2.1, (hf b hb).2.1, (hf b hb).2.2.2.2.1, (hf b hb).2.2.2.2.2⟩)
    (fun b u _ _ hc e _ => k b u hc e) (fun b u _ _ hc e _ => ⟨u.slots, k b u hc e⟩) (fun _ _ _ _ n => n)
    (fun b u hc e => ⟨u, k b u hc e⟩) (fun _ _ e => e) (fun _ _ _ e => e) (fun b ps e => ⟨#[], by rw [e]; simp⟩) (fun m hm => ?_) (fun b u e => ?_) I.bare
  · obtain ⟨ob, es, ep, ho, r⟩ := hm
    exact ⟨ob, es, ep, k _ ob (fun z => (hf _ z).2.1 rfl) ho, r⟩
  · refine (I.hok b u e).stay (fun c v hc q => k c v ?_ q) (fun _ q => q) fun _ _ q => q
    rcases hc with z | z
    · rw [z]; exact nch b u e
    · exact nch c _ z
theorem Inv.turnedNew {t' : Nat} {ch : List Addr} {T : Addr} {o : HO} (I : Inv X pins σ H s) (hT : s.heap.objs.size ≤ T)
    (k : ∀ b u, b ∉ ch → s.heap.get? b = some u → h'.get? b = some u) (hf : ∀ b ∈ ch, FpOk X pins H b) (new : ObjOk X.prog X.w (upd H T o) h' T o) :
    Inv X pins σ (upd H T o) { s with heap := h', toks := t' } := by
  have hn : H T = none := I.hok.fresh hT
  have nch : ∀ b u, H b = some u → b ∉ ch := fun b u e z => by rw [(hf b z).1] at e; cases e
  refine I.step (g' := s.gens) (d' := s.drawn) (ch := ch) (fun b hb => ⟨(hf b hb).2.2.2.1, (hf b hb).2.1, (hf b hb).2.2.2.2.1, (hf b hb).2.2.2.2.2⟩)
    (fun b u _ _ hc e _ => k b u hc e) (fun b u _ _ hc e _ => ⟨u.slots, k b u hc e⟩) (fun b u _ e n => by rw [upd_ne (Nat.ne_of_lt (Nat.lt_of_lt_of_le (Heap.lt_size e) hT))]; exact n)
    (fun b u hc e => ⟨u, k b u hc e⟩) (fun b xs e => by rw [upd_ne (ne_of_none e hn)]; exact e) (fun b u v e => by rw [upd_ne (ne_of_none e hn)]; exact e) (fun b ps e => ⟨#[], by rw [upd_ne (ne_of_none e hn), e]; simp⟩)
    (fun m hm => ?_) (fun b u e => ?_) I.bare
  · obtain ⟨ob, es, ep, ho, r⟩ := hm
    exact ⟨ob, es, ep, k _ ob (fun z => (hf _ z).2.1 rfl) ho, r⟩
  · by_cases hb : b = T
    · subst hb; rw [upd_same] at e; cases e; exact new
    · rw [upd_ne hb] at e
      refine (I.hok b u e).stay (fun c v hc q => k c v ?_ q) (fun c q => by rw [upd_ne (ne_of_none q hn)]; exact q) fun c xs q => by rw [upd_ne (ne_of_none q hn)]; exact q
      rcases hc with z | z
      · rw [z]; exact nch b u e
      · exact nch c _ z
end
theorem Draws.shift {P : Program} {w : World} {A : Around} {it : Addr} {fp : List Addr} {n : Nat} {Pv : Nat → Value → Prop} {St : Nat → Heap → Prop} (D : Draws P w A it fp n Pv St) (b : Nat) :
    Draws P w A it fp (b + n) (fun j x => b ≤ j ∧ Pv (j - b) x) (fun j h => b ≤ j ∧ St (j - b) h) where
  live := fun j h st => D.live _ _ st.2
  frame := fun j h h' st k => ⟨st.1, D.frame _ _ _ st.2 k⟩
  item := fun j s Q E hj st hQ => D.item (j - b) s Q E (by have := st.1; omega) st.2 fun x h' tk hP hS sb => hQ x h' tk ⟨st.1, hP⟩ ⟨by have := st.1; omega, by rw [show j + 1 - b = j - b + 1 by have := st.1; omega]; exact hS⟩ sb
  done := fun s Q E st hE => D.done s Q E (by have := st.2; rwa [Nat.add_sub_cancel_left] at this) hE
def Ien (b : Nat) (xs : List V) (ok : Hp → Prop) : It :=
  ⟨fun i H => ok H ∧ i < xs.length, fun i H x H' => ∃ T v, H T = none ∧ xs[i]? = some v ∧ x = .ref T ∧ H' = upd H T (.tup [.int ((b : Int) + (i : Int)), v]), fun i H => ok H ∧ i = xs.length⟩
def DrawAt (P : Program) (w : World) (A : Around) (it : Addr) (xs : List V) (St0 : Nat → Heap → Prop) (H : Hp) (i : Nat) (h : Heap) : Prop :=
  ∃ (fp : List Addr) (Pv : Nat → Value → Prop) (St : Nat → Heap → Prop), Draws P w A it fp xs.length Pv St ∧ it ∈ fp ∧ (∀ b ∈ fp, b = it ∨ H b ≠ none) ∧ St i h ∧ (∀ j x, Pv j x → ∃ v, xs[j]? = some v ∧ RelV v x) ∧ ∀ j h', St j h' → St0 j h'
theorem turn_enum {P : Program} {w : World} {K : PySem.W.Frag} {elts : List Expr} {k : Nat} {pos : Pos} {e it : Addr} {xs : List V} {b : Nat} {ok : Hp → Prop} {St0 : Nat → Heap → Prop} (hei : e ≠ it)
    (hD : ∀ (X : Cx), X.prog = P → X.w = w → X.K = K → X.calm = true → ∀ (i : Nat) (pins : List (Addr × Obj)) (s : Shared) (σ : St) (H : Hp), Inv X pins σ H s → ok H → H it = none → St0 i s.heap → DrawAt P w X.A.in1 it xs St0 H i s.heap)
    (hobj : ∀ i h, St0 i h → ∃ o, h.get? it = some o ∧ ∀ v, o.data ≠ .cell v) (hkeep : ∀ i h h', St0 i h → (∀ o, h.get? it = some o → h'.get? it = some o) → St0 i h') :
    Turn P w K (.Tuple elts k pos) (Ien b xs ok) [e, it] e (fun i h => (∃ old, IsEnum h e it ((b + i : Nat) : Int) old) ∧ St0 i h) where
  mem := by simp
  obj := fun i h st c hc => by
    rcases List.mem_cons.mp hc with z | z
    · obtain ⟨⟨old, he⟩, _⟩ := st
      rw [z]
      exact ⟨_, he, fun v q => by
        have q' : Data.fields _ = Data.cell v := q
        cases q'⟩
    · have z' : c = it := by simpa using z
      rw [z']
      exact hobj i h st.2
  keep := fun i h h' st kk => by
    obtain ⟨⟨old, he⟩, hs⟩ := st
    exact ⟨⟨old, kk e (by simp) _ he⟩, hkeep i h h' hs fun o q => kk it (by simp) o q⟩
  item := by
    intro X hP hw hK hc i pins s σ H E I hf st hg
    subst hP hw hK
    obtain ⟨⟨old, he⟩, hs⟩ := st
    obtain ⟨hok, hlt⟩ := hg
    obtain ⟨fp, Pv, St, D, hif, hfp, hst, hrel, hback⟩ := hD X rfl rfl rfl hc i pins s σ H I hok (hf it (by simp)).1 hs
    have hef : e ∉ fp := fun z => by
      rcases hfp e z with q | q
      · exact hei q
      · exact q (hf e (by simp)).1
    have W := WalksT.enumerateD (Draws.shift D b) e hei hef hif
    refine W.item (b + i) s _ E (by omega) ⟨⟨old, he⟩, by omega, by rw [Nat.add_sub_cancel_left]; exact hst⟩ fun T vals h1 tk hPv hT hTup hm hk => ⟨.ref T, rfl, ?_⟩
    obtain ⟨t, x, ⟨_, hPx⟩, rfl⟩ := hPv
    rw [Nat.add_sub_cancel_left] at hPx
    obtain ⟨v, hv, rv⟩ := hrel _ _ hPx
    have apart := W.apart _ _ _ hm
    refine W.go elts k pos (b + i) T _ _ E hm fun h2 st2 hk2 => ?_
    have kk : ∀ c u, c ∉ [e, it] → s.heap.get? c = some u → h2.get? c = some u := fun c u hc q => hk2 c u hc (hk c u hc q)
    have tup2 : IsTup h2 T #[.int ((b + i : Nat) : Int) t, x] := by
      obtain ⟨o, ho, r⟩ := hTup
      exact ⟨o, hk2 T o apart ho, r⟩
    refine ⟨.ref T, upd H T (.tup [.int ((b : Int) + (i : Int)), v]), I.turnedNew (t' := tk) hT kk hf ?_, rfl, ⟨T, v, I.hok.fresh hT, hv, rfl, rfl⟩, ?_, ?_⟩
    · refine ⟨by show 2 ≤ sizeLine; decide, [.int ((b + i : Nat) : Int) t, x], .cons ⟨t, ?_⟩ (.cons rv .nil), tup2⟩
      rw [Int.natCast_add]
    · obtain ⟨⟨old2, he2⟩, _, hs2⟩ := st2
      refine ⟨⟨old2, he2⟩, hback _ _ ?_⟩
      rwa [show b + i + 1 - b = i + 1 by omega] at hs2
    · intro c hc
      have hlt : c < s.heap.objs.size := by
        rcases List.mem_cons.mp hc with z | z
        · rw [z]; exact Heap.lt_size he
        · have z' : c = it := by simpa using z
          rw [z']
          obtain ⟨o, ho, _⟩ := hobj i _ hs
          exact Heap.lt_size ho
      rw [upd_ne (Nat.ne_of_lt (Nat.lt_of_lt_of_le hlt hT))]
      exact (hf c hc).1
  done := by
    intro X hP hw hK hc i pins s σ H E I hf st hg
    subst hP hw hK
    obtain ⟨⟨old, he⟩, hs⟩ := st
    obtain ⟨hok, rfl⟩ := hg
    obtain ⟨fp, Pv, St, D, hif, hfp, hst, hrel, hback⟩ := hD X rfl rfl rfl hc _ pins s σ H I hok (hf it (by simp)).1 hs
    have hef : e ∉ fp := fun z => by
      rcases hfp e z with q | q
      · exact hei q
      · exact q (hf e (by simp)).1
    have W := WalksT.enumerateD (Draws.shift D b) e hei hef hif
    exact W.done s _ E ⟨⟨old, he⟩, by omega, by rw [Nat.add_sub_cancel_left]; exact hst⟩ fun h1 tk hk => ⟨rfl, I.turnedL hk hf⟩
  self := fun A i s Q E st q => by
    obtain ⟨⟨old, he⟩, _⟩ := st
    exact wpAny_pyIter_enum he q
section
variable {X : Cx}
end
def enItS (n : Nat) (R : It → Hp → Prop) : V → Hp → Prop := fun x H1 => match x with
  | .ref a => (∃ xs, H1 a = some (.lst xs) ∧ R (Ien n xs fun H => H a = some (.lst xs)) H1) ∨ (∃ xs, H1 a = some (.tup xs) ∧ R (Ien n xs fun H => H a = some (.tup xs)) H1)
  | _ => False
def iEnumS (te ts : TE) : TI := fun σ H R => te σ H fun x H1 => ts σ H1 fun y H2 => ∃ n : Nat, y = .int (n : Int) ∧ n < 1000000 ∧ enItS n R x H2
theorem drawList {X : Cx} {pins : List (Addr × Obj)} {σ : St} {H : Hp} {s : Shared} {it a : Addr} {xs : List V} {i : Nat} (hc : X.calm = true) (I : Inv X pins σ H s) (h : SqL X.K H a xs) (hn : H it = none) (ha : H a ≠ none) (st : s.heap.IsListIter it a i) :
    DrawAt X.prog X.w X.A.in1 it xs (fun i h => h.IsListIter it a i) H i s.heap := by
  obtain ⟨its, rv, pl, hz⟩ := I.list h
  have hl : its.toArray.size = xs.length := by rw [List.size_toArray]; exact rv.length.symm
  have hne : a ≠ it := fun z => ha (z ▸ hn)
  refine ⟨[it, a], _, _, hl ▸ Draws.list (A := X.A.in1) (show X.A.in1.handled = none from I.ok.hd hc) it a hne its.toArray, by simp, fun b hb => ?_, ⟨st, pl.isList⟩, fun j x hx => ?_, fun _ _ q => q.1⟩
  · rcases List.mem_cons.mp hb with z | z
    · exact .inl z
    · have z' : b = a := by simpa using z
      rw [z']; exact .inr ha
  · have hx' : its[j]? = some x := by simpa using hx
    have hj : j < xs.length := by rw [rv.length]; exact (List.getElem?_eq_some_iff.mp hx').1
    obtain ⟨u, hu, ru⟩ := rv.get (i := j) (x := xs[j]) (by simp [hj])
    rw [hx'] at hu
    cases hu
    exact ⟨xs[j], by simp [hj], ru⟩
theorem drawTup {X : Cx} {pins : List (Addr × Obj)} {σ : St} {H : Hp} {s : Shared} {it a : Addr} {xs : List V} {i : Nat} (hc : X.calm = true) (I : Inv X pins σ H s) (h : SqT X.K H a xs) (hn : H it = none) (ha : H a ≠ none) (st : s.heap.IsTupleIter it a i) :
    DrawAt X.prog X.w X.A.in1 it xs (fun i h => h.IsTupleIter it a i) H i s.heap := by
  obtain ⟨its, rv, pl, hz⟩ := I.tuple h
  have hl : its.toArray.size = xs.length := by rw [List.size_toArray]; exact rv.length.symm
  have hne : a ≠ it := fun z => ha (z ▸ hn)
  refine ⟨[it, a], _, _, hl ▸ drawsTuple (A := X.A.in1) (show X.A.in1.handled = none from I.ok.hd hc) it a hne its.toArray, by simp, fun b hb => ?_, ⟨st, pl⟩, fun j x hx => ?_, fun _ _ q => q.1⟩
  · rcases List.mem_cons.mp hb with z | z
    · exact .inl z
    · have z' : b = a := by simpa using z
      rw [z']; exact .inr ha
  · have hx' : its[j]? = some x := by simpa using hx
    have hj : j < xs.length := by rw [rv.length]; exact (List.getElem?_eq_some_iff.mp hx').1
    obtain ⟨u, hu, ru⟩ := rv.get (i := j) (x := xs[j]) (by simp [hj])
    rw [hx'] at hu
    cases hu
    exact ⟨xs[j], by simp [hj], ru⟩
section
variable {X : Cx}
theorem pi_enumS {elts : List Expr} {k : Nat} {tpos : Pos} {a b : Expr} {ta tb : TE} {p pos kpos : Pos} (hg : Gl X "enumerate") (hm : X.mg "enumerate" = none) (ha : PE X a ta) (hb : PE X b tb) (hs : starEach [a] X.env = [(false, eval a X.env)] := by rfl) :
    PI X (.Tuple elts k tpos) (.Call (.Name "enumerate" p) [a] [⟨some "start", b, kpos⟩] pos) (iEnumS ta tb) := by
  intro pins s σ H R I h
  refine wpAny_Call_Name_kw (ld_blt I hg hm boot_enumerate ?_)
  refine PySem.W.callWith_of (P := fun _ => True) (by rw [hs]; rfl) (fun _ _ => ⟨.machine, .inr (.inl rfl), PySem.W.Looks.of_pure rfl⟩) (PyProof.Rows.evalArgs_kw2 (by rfl) ?_ hs)
  rw [hs]
  show wpAny _ _ (spliced ((false, eval a X.env) :: backTo pos (starEach [] X.env))) _ _ s
  refine Calls.spliced_cons (thn (ha pins s σ H _ I h) fun u s1 ⟨x, H1, I1, ru, q1⟩ => Calls.spliced_nil ?_)
  show wpAny _ _ (evalAll ((do let v ← eval b X.env; standAt pos; pure v) :: [])) _ _ s1
  refine wpAny_evalAll_cons (wpAny_bind (thn (hb pins s1 σ H1 _ I1 q1) fun u2 s2 ⟨y, H2, I2, ry, n, ey, hn, q2⟩ => wpAny_bind (wpAny_standAt (wpAny_pure (wpAny_evalAll_nil ⟨trivial, ?_⟩)))))
  subst ey
  obtain ⟨t, rfl⟩ := ry
  show wpAny _ _ (call (.type "enumerate") [u] [(Str.ofString "start", .int (n : Int) t)]) _ _ s2
  have hfit : Builtin.SmallTypes.fitsIndex (n : Int) = true := by
    unfold Builtin.SmallTypes.fitsIndex
    have e : ((2 : Int) ^ 63) = 9223372036854775808 := by decide
    simp only [e, Bool.and_eq_true, decide_eq_true_eq]
    omega
  unfold enItS at q2
  split at q2
  · rename_i l _
    cases ru
    have fp : ∀ b ∈ [s2.heap.objs.size + 1, s2.heap.objs.size], FpOk X pins H2 b := fun b hb => by
      have : s2.heap.objs.size ≤ b := by
        rcases List.mem_cons.mp hb with z | z
        · rw [z]; exact Nat.le_succ _
        · have z' : b = s2.heap.objs.size := by simpa using z
          rw [z']; exact Nat.le_refl _
      exact I2.fpOk this (I2.hok.fresh this)
    rcases q2 with ⟨xs, hl, q2⟩ | ⟨xs, hl, q2⟩
    · obtain ⟨its, rv, pl, hz⟩ := I2.list (SqL.of hl)
      refine call_enumL pl.isList hfit fun h1 he hit hk => ?_
      refine wpAny_pyIter_enum he ?_
      refine ⟨s2.heap.objs.size + 1, [s2.heap.objs.size + 1, s2.heap.objs.size], _, _, H2, rfl, I2.kept (t' := s2.toks) hk, turn_enum (b := n) (ok := fun H => H l = some (.lst xs)) (xs := xs) (St0 := fun i h => h.IsListIter s2.heap.objs.size l i) (Nat.succ_ne_self _) ?_ ?_ ?_, ⟨⟨.none, he⟩, hit⟩, fp, q2⟩
      · intro X' h1 h2 h3 hc i pins s σ H I ok hn st
        exact h1 ▸ h2 ▸ drawList hc I (SqL.of ok) hn (by rw [ok]; exact fun z => nomatch z) st
      · intro i h st
        obtain ⟨o, ho, hc, hd⟩ := st
        exact ⟨o, ho, fun v q => by rw [hd] at q; cases q⟩
      · intro i h h' st kk
        exact st.at kk
    · obtain ⟨its, rv, pl, hz⟩ := I2.tuple (SqT.of hl)
      refine call_enumT pl hfit fun h1 he hit hk => ?_
      refine wpAny_pyIter_enum he ?_
      refine ⟨s2.heap.objs.size + 1, [s2.heap.objs.size + 1, s2.heap.objs.size], _, _, H2, rfl, I2.kept (t' := s2.toks) hk, turn_enum (b := n) (ok := fun H => H l = some (.tup xs)) (xs := xs) (St0 := fun i h => h.IsTupleIter s2.heap.objs.size l i) (Nat.succ_ne_self _) ?_ ?_ ?_, ⟨⟨.none, he⟩, hit⟩, fp, q2⟩
      · intro X' h1 h2 h3 hc i pins s σ H I ok hn st
        exact h1 ▸ h2 ▸ drawTup hc I (SqT.of ok) hn (by rw [ok]; exact fun z => nomatch z) st
      · intro i h st
        obtain ⟨o, ho, hc, hd⟩ := st
        exact ⟨o, ho, fun v q => by rw [hd] at q; cases q⟩
      · intro i h h' st kk
        exact st.at kk
  · exact q2.elim
end
theorem for_en {b : Nat} {xs : List V} {ok : Hp → Prop} {g : TG} {tb : TS} {D : Ends} {σ : St} {H : Hp} (Pv : Nat → St → Hp → Prop) (h0 : Pv 0 σ H) (hok : ∀ i σ H, i ≤ xs.length → Pv i σ H → ok H)
    (hs : ∀ i v σ H T, xs[i]? = some v → Pv i σ H → H T = none → g (.ref T) σ (upd H T (.tup [.int ((b : Int) + (i : Int)), v])) fun σ2 H2 => tb { D with nx := Pv (i + 1), ct := Pv (i + 1), bk := D.nx } σ2 H2) (hd : ∀ σ H, Pv xs.length σ H → D.nx σ H) :
    ∃ W : Nat → Nat → St → Hp → Prop, (∃ m, W 0 m σ H) ∧ ∀ i m σ H, W i m σ H →
      ((Ien b xs ok).stop i H ∧ D.nx σ H) ∨ ((Ien b xs ok).go i H ∧ ∃ N : St → Hp → Prop, (∀ σ' H', N σ' H' → ∃ m', m' < m ∧ W (i + 1) m' σ' H') ∧ ∀ x H', (Ien b xs ok).yld i H x H' → g x σ H' fun σ2 H2 => tb { D with nx := N, ct := N, bk := D.nx } σ2 H2) := by
  refine ⟨fun i m σ H => m = xs.length - i ∧ i ≤ xs.length ∧ Pv i σ H, ⟨xs.length, by simp, Nat.zero_le _, h0⟩, fun i m σ' H' w => ?_⟩
  obtain ⟨rfl, hi, p⟩ := w
  have ho := hok i σ' H' hi p
  by_cases hlt : i < xs.length
  · refine .inr ⟨⟨ho, hlt⟩, Pv (i + 1), fun σ2 H2 p' => ⟨xs.length - (i + 1), by omega, rfl, hlt, p'⟩, fun x H2 y => ?_⟩
    obtain ⟨T, v, hT, hv, rfl, rfl⟩ := y
    exact hs i v σ' H' T hv p hT
  · have e : i = xs.length := by omega
    exact .inl ⟨⟨ho, e⟩, hd σ' H' (e ▸ p)⟩
end L2
namespace L2
open PySem PySem.Spec PyProof.Rows
section
variable {σ : St} {H : Hp} {D : Ends} {Q : VK} {QB : Bool → Hp → Prop} {QA : List V → Hp → Prop}
theorem i_seq {t u : TS} (h : t { D with nx := u D } σ H) : tSeq t u D σ H := h
theorem i_ifs {c : TT} {t u : TS} (h : c σ H fun b H1 => if b = true then t D σ H1 else u D σ H1) : tIfS c t u D σ H := h
theorem i_next (h : D.nx σ H) : tNext D σ H := h
theorem i_ret {te : TE} (h : te σ H D.rt) : tRet te D σ H := h
theorem i_drop {te : TE} (h : te σ H fun _ H1 => D.nx σ H1) : tDrop te D σ H := h
theorem i_asg {te : TE} {g : TG} (h : te σ H fun x H1 => g x σ H1 D.nx) : tAsg te g D σ H := h
theorem i_name {i : Nat} {v : V} {K : St → Hp → Prop} (h : K (σ.set i (some v)) H) : gName i v σ H K := h
theorem i_gsub {to ti : TE} {t : TSet} {v : V} {K : St → Hp → Prop} (h : to σ H fun o H1 => ti σ H1 fun i H2 => t o i v H2 fun H3 => K σ H3) : gSub to ti t v σ H K := h
theorem i_gtup {K' : PySem.W.Frag} {n : Nat} {t : TGs} {a : Addr} {xs : List V} {K : St → Hp → Prop} (h1 : H a = some (.tup xs)) (h2 : xs.length = n) (h : t xs σ H K) : gTup K' n t (.ref a) σ H K := ⟨a, xs, rfl, SqT.of h1, h2, h⟩
theorem i_gnil {K : St → Hp → Prop} (h : K σ H) : gNil [] σ H K := ⟨rfl, h⟩
theorem i_gcons {t : TG} {u : TGs} {v : V} {r : List V} {K : St → Hp → Prop} (h : t v σ H fun σ' H' => u r σ' H' K) : gCons t u (v :: r) σ H K := ⟨v, r, rfl, h⟩
theorem i_for {wi : TI} {g : TG} {tb : TS} (h : wi σ H fun J H1 => ∃ W : Nat → Nat → St → Hp → Prop, (∃ m, W 0 m σ H1) ∧ ∀ i m σ H, W i m σ H →
  (J.stop i H ∧ D.nx σ H) ∨ (J.go i H ∧ ∃ N : St → Hp → Prop, (∀ σ' H', N σ' H' → ∃ m', m' < m ∧ W (i + 1) m' σ' H') ∧ ∀ x H', J.yld i H x H' → g x σ H' fun σ2 H2 => tb { D with nx := N, ct := N, bk := D.nx } σ2 H2)) : tFor wi g tb D σ H := h
theorem i_var {i : Nat} {v : V} (e : σ[i]? = some (some v)) (h : Q v H) : tVar i σ H Q := ⟨v, e, h⟩
theorem i_c {v : V} (h : Q v H) : tC v σ H Q := h
theorem i_op {r : R2} {ta tb : TE} (h : ta σ H fun x H1 => tb σ H1 fun y H2 => r x y H2 Q) : tOp r ta tb σ H Q := h
theorem i_un {r : V → Hp → VK → Prop} {ta : TE} (h : ta σ H fun x H1 => r x H1 Q) : tUn r ta σ H Q := h
theorem i_test {t : TE} (h : t σ H fun x H' => ∃ k, x = .bl k ∧ QB k H') : tTest t σ H QB := h
theorem i_bl {b : Bool} {P : Bool → Prop} (h : P b) : ∃ k, V.bl b = .bl k ∧ P k := ⟨b, rfl, h⟩
theorem i_and {t u : TT} (h : t σ H fun c H1 => if c = true then u σ H1 QB else QB false H1) : tAnd t u σ H QB := h
theorem i_or {t u : TT} (h : t σ H fun c H1 => if c = true then QB true H1 else u σ H1 QB) : tOr t u σ H QB := h
theorem i_not {t : TT} (h : t σ H fun c H1 => QB (!c) H1) : tNot t σ H QB := h
theorem i_andV {ta tb : TE} (h : ta σ H fun x H1 => ∃ c, x = .bl c ∧ if c = true then tb σ H1 Q else Q (.bl false) H1) : tAndV ta tb σ H Q := h
theorem i_chain {r r' : R2} {ta tb tc : TE} (h : ta σ H fun x H1 => tb σ H1 fun y H2 => r x y H2 fun z H3 => ∃ k, z = .bl k ∧ (if k = true then tc σ H3 fun w' H4 => r' y w' H4 Q else Q (.bl false) H3)) : tChain r r' ta tb tc σ H Q := h
theorem i_nil (h : QA [] H) : tNil σ H QA := h
theorem i_cons {ta : TE} {tr : TA} (h : ta σ H fun x H1 => tr σ H1 fun xs H2 => QA (x :: xs) H2) : tCons ta tr σ H QA := h
theorem i_cb {r : List V → Hp → VK → Prop} {t : TA} (h : t σ H fun vs H1 => r vs H1 Q) : tCB r t σ H Q := h
theorem i_call {sp : Sp} {dvs : List V} {E : XK} {t : TA} (h : t σ H fun vs H1 => sp (vs ++ dvs) H1 Q E) : tCall sp dvs E t σ H Q := h
theorem i_lst {t : TA} (h : t σ H fun xs H1 => xs.length ≤ sizeLine ∧ ∀ p, H1 p = none → Q (.ref p) (upd H1 p (.lst xs))) : tLst t σ H Q := h
theorem i_tup {t : TA} (h : t σ H fun xs H1 => xs.length ≤ sizeLine ∧ ∀ p, H1 p = none → Q (.ref p) (upd H1 p (.tup xs))) : tTup t σ H Q := h
theorem i_bm {K : PySem.W.Frag} {T : String} {r : V → List V → Hp → VK → Prop} {to : TE} {t : TA} (h : to σ H fun x H1 => tyV K T x H1 ∧ t σ H1 fun xs H2 => r x xs H2 Q) : tBM K T r to t σ H Q := h
theorem i_sl {r : V → Option Int → Option Int → Hp → VK → Prop} {te : TE} {tl th : TO} (h : te σ H fun x H1 => tl σ H1 fun l H2 => th σ H2 fun u H3 => r x l u H3 Q) : tSl r te tl th σ H Q := h
theorem i_nopart {K : Option Int → Hp → Prop} (h : K none H) : tNoPart σ H K := h
theorem i_part {t : TE} {K : Option Int → Hp → Prop} (h : t σ H fun x H1 => ∃ i, x = .int i ∧ K (some i) H1) : tPart t σ H K := h
theorem i_exI {i : Int} {P : Int → Prop} (h : P i) : ∃ k, V.int i = .int k ∧ P k := ⟨i, rfl, h⟩
theorem i_comp {ix : List (Option Nat)} {wi : TI} {g : TG} {tc : TT} {te : TE} (h : wi σ H fun J H1 => ∀ p, H1 p = none → CompRuns J p g tc te Q (pick ix σ) (upd H1 p (.lst []))) : tComp ix wi g tc te σ H Q := h
theorem i_true (h : QB true H) : tTrue σ H QB := h
theorem i_rng1 {ta : TA} {R : It → Hp → Prop} (h : ta σ H fun vs H1 => ∃ j : Int, vs = [.int j] ∧ -(2 ^ 62) ≤ j ∧ j < 2 ^ 62 ∧ R (Itr 0 j.toNat) H1) : iRng1 ta σ H R := h
theorem p62 : ((2 : Int) ^ 62) = 4611686018427387904 := by decide
theorem p63 : ((2 : Int) ^ 63) = 9223372036854775808 := by decide
theorem i_r1 {j : Int} {P : Int → Prop} (h1 : -1000000000 ≤ j ∧ j ≤ 1000000000) (h : P j) : ∃ k : Int, [V.int j] = [.int k] ∧ -(2 ^ 62) ≤ k ∧ k < 2 ^ 62 ∧ P k := ⟨j, rfl, by rw [p62]; omega, by rw [p62]; omega, h⟩
theorem i_rng2 {ta : TA} {R : It → Hp → Prop} (h : ta σ H fun vs H1 => ∃ i j : Int, vs = [.int i, .int j] ∧ (-(2 ^ 62) ≤ i ∧ i < 2 ^ 62 ∧ -(2 ^ 62) ≤ j ∧ j < 2 ^ 62) ∧ R (Itr i (j - i).toNat) H1) : iRng2 ta σ H R := h
theorem i_r2 {i j : Int} {P : Int → Int → Prop} (h1 : -1000000000 ≤ i ∧ i ≤ 1000000000 ∧ -1000000000 ≤ j ∧ j ≤ 1000000000) (h : P i j) : ∃ a b : Int, [V.int i, V.int j] = [.int a, .int b] ∧ (-(2 ^ 62) ≤ a ∧ a < 2 ^ 62 ∧ -(2 ^ 62) ≤ b ∧ b < 2 ^ 62) ∧ P a b := ⟨i, j, rfl, by rw [p62]; omega, h⟩
theorem i_any {K : PySem.W.Frag} {te : TE} {R : It → Hp → Prop} (h : te σ H (anyIt K R)) : iAny K te σ H R := h
theorem i_anyS {K : PySem.W.Frag} {R : It → Hp → Prop} {z : Str} (h : R (Its (chs z)) H) : anyIt K R (.str z) H := h
theorem i_anyL {K : PySem.W.Frag} {R : It → Hp → Prop} {a : Addr} {xs : List V} (h1 : SqL K H a xs) (h : R (Itl K a) H) : anyIt K R (.ref a) H := .inl ⟨xs, h1, h⟩
theorem i_anyT {K : PySem.W.Frag} {R : It → Hp → Prop} {a : Addr} {xs : List V} (h1 : SqT K H a xs) (h : R (Itt K a) H) : anyIt K R (.ref a) H := .inr ⟨xs, h1, h⟩
theorem i_enumS {te ts : TE} {R : It → Hp → Prop} (h : te σ H fun x H1 => ts σ H1 fun y H2 => ∃ n : Nat, y = .int (n : Int) ∧ n < 1000000 ∧ enItS n R x H2) : iEnumS te ts σ H R := h
theorem i_enSL {n : Nat} {R : It → Hp → Prop} {a : Addr} {xs : List V} (h1 : H a = some (.lst xs)) (h : R (Ien n xs fun H => H a = some (.lst xs)) H) : enItS n R (.ref a) H := .inl ⟨xs, h1, h⟩
theorem i_enST {n : Nat} {R : It → Hp → Prop} {a : Addr} {xs : List V} (h1 : H a = some (.tup xs)) (h : R (Ien n xs fun H => H a = some (.tup xs)) H) : enItS n R (.ref a) H := .inr ⟨xs, h1, h⟩
theorem i_tyS {K : PySem.W.Frag} {z : Str} {R : Prop} (h : R) : tyV K "str" (.str z) H ∧ R := ⟨rfl, h⟩
theorem i_tyL {K : PySem.W.Frag} {p : Addr} {xs : List V} {R : Prop} (h1 : SqL K H p xs) (h : R) : tyV K "list" (.ref p) H ∧ R := ⟨.inl ⟨rfl, xs, h1⟩, h⟩
theorem i_fI0 {g : Int → Int → V} {i j : Int} (h : Q (g i j) H) : fI0 g (.int i) (.int j) H Q := h
theorem i_fI {C : Int → Int → Prop} {g : Int → Int → V} {i j : Int} (c : C i j) (h : Q (g i j) H) : fI C g (.int i) (.int j) H Q := ⟨c, h⟩
theorem i_addI {i j : Int} (h : Q (.int (i + j)) H) : fAdd (.int i) (.int j) H Q := h
theorem i_addS {i j : Str} (c : i.length + j.length ≤ sizeLine) (h : Q (.str (i ++ j)) H) : fAdd (.str i) (.str j) H Q := ⟨c, h⟩
theorem i_addL {a b : Addr} {xs ys : List V} (h1 : H a = some (.lst xs)) (h2 : H b = some (.lst ys)) (c : xs.length + ys.length ≤ sizeLine) (h : ∀ p, H p = none → Q (.ref p) (upd H p (.lst (xs ++ ys)))) : fAdd (.ref a) (.ref b) H Q := by
  show (match H a, H b with | some (.lst xs), some (.lst ys) => _ | some (.tup xs), some (.tup ys) => _ | _, _ => _)
  rw [h1, h2]; exact ⟨c, h⟩
theorem i_mulI {i j : Int} (c : CMul i j) (h : Q (.int (i * j)) H) : fMul (.int i) (.int j) H Q := ⟨c, h⟩
theorem i_mulL {a : Addr} {xs : List V} {k : Int} (h1 : H a = some (.lst xs)) (c : -1000000000 ≤ k ∧ k ≤ 1000000000 ∧ xs.length * k.toNat ≤ 1000000) (h : ∀ p, H p = none → Q (.ref p) (upd H p (.lst (List.replicate k.toNat xs).flatten))) : fMul (.ref a) (.int k) H Q := by
  show (match H a with | some (.lst xs) => _ | _ => _)
  rw [h1]; exact ⟨by rw [p63]; omega, by rw [p63]; omega, Nat.le_trans c.2.2 (by decide), h⟩
theorem i_ixK {K : PySem.W.Frag} {p : Addr} {i : Int} {xs : List V} {v : V} (h1 : SqL K H p xs) (h2 : atI xs i = some v) (h : Q v H) : fIx K (.ref p) (.int i) H Q := ⟨xs, v, .inl h1, h2, h⟩
theorem i_ixR {K : PySem.W.Frag} {p : Addr} {i : Int} {xs : List V} {v : V} (h1 : seqR H p = some xs) (h2 : atI xs i = some v) (h : Q v H) : fIx K (.ref p) (.int i) H Q := ⟨xs, v, seqR_sq h1, h2, h⟩
theorem i_ixS {K : PySem.W.Frag} {z : Str} {i : Int} {c : Nat} (hz : z.length ≤ sizeLine) (h2 : atI z.cps.toList i = some c) (h : Q (.str ⟨#[c]⟩) H) : fIx K (.str z) (.int i) H Q := by
  refine ⟨hz, ?_⟩
  rw [h2]; exact h
theorem i_set {p : Addr} {k : Int} {v : V} {xs : List V} {j : Nat} {K : Hp → Prop} (h1 : H p = some (.lst xs)) (h2 : ixN xs.length k = some j) (h : K (upd H p (.lst (xs.set j v)))) : fSet (.ref p) (.int k) v H K := by
  show (match H p with | some (.lst xs) => (match ixN xs.length k with | some j => K (upd H p (.lst (xs.set j v))) | none => False) | _ => False)
  rw [h1]; dsimp only; rw [h2]; exact h
theorem i_neg {i : Int} (h : Q (.int (-i)) H) : fNeg (.int i) H Q := h
theorem i_eq {x y : V} (c : scal x y = true) (h : Q (.bl (decide (x = y))) H) : fEq x y H Q := .inl ⟨c, h⟩
theorem i_ne {x y : V} (c : scal x y = true) (h : Q (.bl (!decide (x = y))) H) : fNe x y H Q := .inl ⟨c, h⟩
theorem i_neD {x y : V} {d : Dt} (h1 : Is H x d) (h2 : Is H y d) (c : okD d) (h : Q (.bl false) H) : fNe x y H Q := .inr ⟨d, d, h1, h2, c, c, by rw [eqD_self c]; exact h⟩
theorem i_is {x : V} (h : Q (.bl (decide (x = .non))) H) : fIs x .non H Q := ⟨rfl, h⟩
theorem i_isnot {x : V} (h : Q (.bl (!decide (x = .non))) H) : fIsNot x .non H Q := ⟨rfl, h⟩
theorem i_lenS {K : PySem.W.Frag} {z : Str} (hz : z.length ≤ sizeLine) (h : Q (.int z.length) H) : fLen K [.str z] H Q := ⟨hz, h⟩
theorem i_lenK {K : PySem.W.Frag} {p : Addr} {xs : List V} (h1 : SqL K H p xs) (h : Q (.int xs.length) H) : fLen K [.ref p] H Q := ⟨xs, .inl h1, h⟩
theorem i_lenR {K : PySem.W.Frag} {p : Addr} {xs : List V} (h1 : seqR H p = some xs) (h : Q (.int xs.length) H) : fLen K [.ref p] H Q := ⟨xs, seqR_sq h1, h⟩
theorem i_1I {g : Int → V} {i : Int} (h : Q (g i) H) : f1I g [.int i] H Q := h
theorem i_2I {g : Int → Int → V} {i j : Int} (h : Q (g i j) H) : f2I g [.int i, .int j] H Q := h
theorem i_listR {p : Addr} {xs : List V} (h1 : seqR H p = some xs) (h : ∀ q, H q = none → Q (.ref q) (upd H q (.lst xs))) : fList [.ref p] H Q := by
  show (match seqR H p with | some ys => GetL H ys Q | none => False)
  rw [h1]; exact h
theorem i_tupleR {p : Addr} {xs : List V} (h1 : seqR H p = some xs) (h : GetT H xs Q) : fTuple [.ref p] H Q := by
  show (match seqR H p with | some ys => GetT H ys Q | none => False)
  rw [h1]; exact h
theorem i_slS {K : PySem.W.Frag} {z : Str} {lo hi : Option Int} (hz : z.length ≤ sizeLine) (h : Q (.str (Txt.slice z lo hi)) H) : fSl K (.str z) lo hi H Q := ⟨hz, h⟩
theorem i_slL {K : PySem.W.Frag} {a : Addr} {xs : List V} {lo hi : Option Int} (h1 : SqL K H a xs) (h : ∀ q, H q = none → Q (.ref q) (upd H q (.lst (cutV xs lo hi)))) : fSl K (.ref a) lo hi H Q := .inl ⟨xs, h1, h⟩
theorem i_truB {b : Bool} (h : QB b H) : fTru (.bl b) H QB := h
theorem i_appL {l : Addr} {y : V} {xs : List V} (h1 : H l = some (.lst xs)) (c : xs.length < sizeLine) (h : Q .non (upd H l (.lst (xs ++ [y])))) : fAppend (.ref l) [y] H Q := by
  show (match H l with | some (.lst xs) => xs.length < sizeLine ∧ Q .non (upd H l (.lst (xs ++ [y]))) | _ => False)
  rw [h1]; exact ⟨c, h⟩
theorem i_join {z : Str} {p : Addr} {ys : List Str} (h1 : lstR H p = some (ys.map V.str)) (c : (ys.map (·.length)).sum + ys.length * z.length ≤ 16777216) (h : Q (.str (Txt.join z ys)) H) : fJoin (.str z) [.ref p] H Q := by
  show (match lstR H p with | some xs => (match strs? xs with | some ys => (ys.map (·.length)).sum + ys.length * z.length ≤ 16777216 ∧ Q (.str (Txt.join z ys)) H | none => False) | none => False)
  rw [h1]; dsimp only; rw [strs?_map]; exact ⟨c, h⟩
theorem i_SS {g : Str → Str → V} {z y : Str} (h : Q (g z y) H) : fSS g (.str z) [.str y] H Q := h
theorem i_SSI {g : Str → Str → Int → V} {z y : Str} {i : Int} (h : Q (g z y i) H) : fSSI g (.str z) [.str y, .int i] H Q := h
theorem i_allL {f : List Bool → Bool} {p : Addr} {bs : List Bool} (h1 : lstR H p = some (bs.map V.bl)) (h : Q (.bl (f bs)) H) : fAll f [.ref p] H Q := by
  show (match lstR H p with | some ys => (match bls? ys with | some bs => Q (.bl (f bs)) H | none => False) | none => False)
  rw [h1]; dsimp only; rw [bls?_map]; exact h
theorem i_isi {x : V} {t T : String} (h1 : tyN H x = some t) (c : knownT T = true) (h : Q (.bl (subB t T)) H) : fIsi [x, .ty T] H Q := by
  show (match tyN H x with | some t => knownT T = true ∧ Q (.bl (subB t T)) H | none => False)
  rw [h1]; exact ⟨c, h⟩
theorem i_isi2 {x : V} {p : Addr} {t T T' : String} (h1 : tyN H x = some t) (h2 : H p = some (.tup [.ty T, .ty T'])) (c : knownT T = true ∧ knownT T' = true) (h : Q (.bl (subB t T || subB t T')) H) : fIsi [x, .ref p] H Q := by
  show (match tyN H x, tupR H p with | some t, some ts => (match tys? ts with | some Ts => Ts.all knownT = true ∧ Q (.bl (Ts.any (subB t))) H | none => False) | _, _ => False)
  rw [h1, tupR_of h2]
  show [T, T'].all knownT = true ∧ Q (.bl ([T, T'].any (subB t))) H
  refine ⟨by simp [c.1, c.2], ?_⟩
  have e : [T, T'].any (subB t) = (subB t T || subB t T') := by simp
  rw [e]; exact h
end
theorem iteD {c A B : Prop} [Decidable c] (h1 : c → A) (h2 : ¬ c → B) : if decide c = true then A else B := by
  by_cases h : c
  · rw [if_pos (decide_eq_true h)]; exact h1 h
  · rw [if_neg (by rw [decide_eq_false h]; exact Bool.false_ne_true)]; exact h2 h
theorem iteDT {c A B : Prop} [Decidable c] (hc : c) (h : A) : if decide c = true then A else B := by rw [if_pos (decide_eq_true hc)]; exact h
theorem iteDF {c A B : Prop} [Decidable c] (hc : ¬ c) (h : B) : if decide c = true then A else B := by rw [if_neg (by rw [decide_eq_false hc]; exact Bool.false_ne_true)]; exact h
theorem iteBT {b : Bool} {A B : Prop} (h : b = true) (hA : A) : if b = true then A else B := by rw [if_pos h]; exact hA
theorem iteBF {b : Bool} {A B : Prop} (h : b = false) (hB : B) : if b = true then A else B := by rw [h]; exact iteF hB
theorem szc {xs : List V} (h : decide (xs.length ≤ 1000) = true) : xs.length ≤ sizeLine := Nat.le_trans (of_decide_eq_true h) (by decide)
theorem szn {n : Nat} (h : n ≤ 1000000) : n ≤ sizeLine := Nat.le_trans h (by decide)
theorem i_sz {xs : List V} {R : Prop} (h : xs.length ≤ sizeLine) (r : R) : xs.length ≤ sizeLine ∧ R := ⟨h, r⟩
theorem tyN_tup {H : Hp} {a : Addr} {xs : List V} (h : H a = some (.tup xs)) : tyN H (.ref a) = some "tuple" := by
  show (match H a with | some (.lst _) => some "list" | some (.frz _ (.lst _)) => some "list" | some (.tup _) => some "tuple" | _ => none) = _
  rw [h]
theorem tyN_lst {H : Hp} {a : Addr} {xs : List V} (h : H a = some (.lst xs)) : tyN H (.ref a) = some "list" := by
  show (match H a with | some (.lst _) => some "list" | some (.frz _ (.lst _)) => some "list" | some (.tup _) => some "tuple" | _ => none) = _
  rw [h]
theorem same_new {H : Hp} {p : Addr} (h : H p = none) (o : HO) : Same H (upd H p o) := fun b u q => by rw [upd_ne (ne_of_none q h)]; exact q
theorem atI_0 {α : Type} (x : α) (xs : List α) : atI (x :: xs) 0 = some x := atI_nat (xs := x :: xs) (j := 0) (v := x) rfl
theorem atI_1 {α : Type} (x y : α) (xs : List α) : atI (x :: y :: xs) 1 = some y := atI_nat (xs := x :: y :: xs) (j := 1) (v := y) rfl
theorem atI_2 {α : Type} (x y z : α) (xs : List α) : atI (x :: y :: z :: xs) 2 = some z := atI_nat (xs := x :: y :: z :: xs) (j := 2) (v := z) rfl
theorem atI_3 {α : Type} (x y z u : α) (xs : List α) : atI (x :: y :: z :: u :: xs) 3 = some u := atI_nat (xs := x :: y :: z :: u :: xs) (j := 3) (v := u) rfl
theorem ixN_of {n : Nat} {i : Int} (h : 0 ≤ i) (h2 : i < n) : ixN n i = some i.toNat := by
  unfold ixN; rw [if_pos h, if_pos h2]
theorem seqR_upd {H : Hp} {p : Addr} {xs : List V} : seqR (upd H p (.lst xs)) p = some xs := seqR_lst upd_same
theorem lstR_upd {H : Hp} {p : Addr} {xs : List V} : lstR (upd H p (.lst xs)) p = some xs := lstR_of upd_same
theorem seqR_updT {H : Hp} {p : Addr} {xs : List V} : seqR (upd H p (.tup xs)) p = some xs := seqR_tup upd_same
theorem atI_of {α : Type} {xs : List α} {i : Int} {v : α} (h : 0 ≤ i) (h2 : xs[i.toNat]? = some v) : atI xs i = some v := by
  have e : i = ((i.toNat : Nat) : Int) := by omega
  rw [e]; exact atI_nat h2
theorem CMul.l {i j : Int} (h1 : -(2 ^ 64) < i) (h2 : i < 2 ^ 64) : CMul i j := .inl ⟨h1, h2⟩
theorem CMul.r {i j : Int} (h1 : -(2 ^ 64) < j) (h2 : j < 2 ^ 64) : CMul i j := .inr ⟨h1, h2⟩
def Off (p : Addr) (H H' : Hp) : Prop := ∀ b, b ≠ p → H' b = H b
def Kept (p : Addr) (H H' : Hp) : Prop := ∀ b o, b ≠ p → H b = some o → H' b = some o
theorem Off.kept {p : Addr} {H H' : Hp} (h : Off p H H') : Kept p H H' := fun b o hb e => (h b hb).trans e
theorem Off.refl (p : Addr) (H : Hp) : Off p H H := fun _ _ => rfl
theorem Off.trans {p : Addr} {H H1 H2 : Hp} (a : Off p H H1) (b : Off p H1 H2) : Off p H H2 := fun c hc => (b c hc).trans (a c hc)
theorem Off.upd {p : Addr} {H H1 : Hp} (a : Off p H H1) (o : HO) : Off p H (L2.upd H1 p o) := fun c hc => (upd_ne hc).trans (a c hc)
theorem Kept.refl (p : Addr) (H : Hp) : Kept p H H := fun _ _ _ e => e
theorem Kept.trans {p : Addr} {H H1 H2 : Hp} (a : Kept p H H1) (b : Kept p H1 H2) : Kept p H H2 := fun c o hc e => b c o hc (a c o hc e)
theorem Kept.new {p q : Addr} {H H1 : Hp} (a : Kept p H H1) (hq : H1 q = none) (o : HO) : Kept p H (L2.upd H1 q o) := fun c u hc e => by
  rw [upd_ne (ne_of_none (a c u hc e) hq)]; exact a c u hc e
end L2
namespace L2
def joinL (sep : List Nat) : List (List Nat) → List Nat
  | [] => []
  | [x] => x
  | x :: y :: r => x ++ sep ++ joinL sep (y :: r)
theorem joinL_nil : ∀ ls : List (List Nat), joinL [] ls = ls.flatten
  | [] => rfl
  | [x] => by simp [joinL]
  | x :: y :: r => by
    have := joinL_nil (y :: r)
    simp only [joinL, this, List.append_nil, List.flatten_cons]
def isLow (c : Nat) : Bool := decide (97 ≤ c ∧ c ≤ 122)
def Low (l : List Nat) : Prop := ∀ c ∈ l, isLow c = true
structure RS where
  w : List Nat
  g : List Nat
  lacks : Bool
end L2
namespace L2
open PySem PySem.Builtin PySem.Builtin.Str
def S (l : List Nat) : Str := ⟨l.toArray⟩
theorem S_cps (l : List Nat) : (S l).cps.toList = l := rfl
theorem S_length (l : List Nat) : (S l).length = l.length := by show l.toArray.size = _; simp
theorem S_append (a b : List Nat) : S a ++ S b = S (a ++ b) := by
  show (⟨a.toArray ++ b.toArray⟩ : Str) = ⟨(a ++ b).toArray⟩
  rw [List.append_toArray]
theorem S_inj {a b : List Nat} (h : S a = S b) : a = b := by
  have := congrArg (fun z : Str => z.cps.toList) h
  exact this
def sx (n d : Nat) : Option Int → Nat
  | none => d
  | some v => if v < 0 then (v + (n : Int)).toNat else min v.toNat n
def cutA {α : Type} (l : List α) (lo hi : Option Int) : List α := (l.drop (sx l.length 0 lo)).take (sx l.length l.length hi - sx l.length 0 lo)
theorem sx_le (n d : Nat) (hd : d ≤ n) (o : Option Int) : sx n d o ≤ n := by
  cases o with
  | none => exact hd
  | some v => simp only [sx]; split <;> omega
theorem sliceIx (lo hi : Option Int) (n : Nat) : strSliceIndices lo hi 1 n = (List.range (sx n n hi - sx n 0 lo)).map (sx n 0 lo + ·) := by
  have key : ∀ (a c : Nat), sliceRange (a : Int) (c : Int) 1 = (List.range (c - a)).map (a + ·) := fun a c => by
    unfold sliceRange
    have e : (if (1 : Int) > 0 then (if (a : Int) < (c : Int) then ((c : Int) - a + 1 - 1) / 1 else 0) else (if (a : Int) > (c : Int) then ((a : Int) - c - 1 - 1) / (-1) else 0)).toNat = c - a := by
      rw [if_pos (by decide)]
      split
      · rw [Int.ediv_one]; omega
      · omega
    simp only [e]
    apply List.map_congr_left
    intro k _
    omega
  have cl : ∀ v : Int, max 0 (min (if v < 0 then v + (n : Int) else v) (n : Int)) = (((if v < 0 then (v + (n : Int)).toNat else min v.toNat n) : Nat) : Int) := fun v => by
    by_cases hv : v < 0
    · simp only [if_pos hv]; omega
    · simp only [if_neg hv]; omega
  unfold strSliceIndices
  have h1 : ((1 : Int) > 0) = True := by simp
  cases lo with
  | none =>
    cases hi with
    | none => simp only [h1, if_true]; exact key 0 n
    | some v => simp only [h1, if_true, cl]; exact key 0 _
  | some u =>
    cases hi with
    | none => simp only [h1, if_true, cl]; exact key _ n
    | some v => simp only [h1, if_true, cl]; exact key _ _
theorem pickL (l : List Nat) : ∀ (m a : Nat), a + m ≤ l.length → ((List.range m).map (a + ·)).filterMap (l.toArray[·]?) = (l.drop a).take m
  | 0, a, _ => by simp
  | m + 1, a, h => by
    have ha : a < l.length := by omega
    rw [List.range_succ_eq_map, List.map_cons, List.filterMap_cons, List.map_map]
    have e : ((a + ·) ∘ Nat.succ) = ((a + 1) + ·) := by funext k; simp; omega
    have := pickL l m (a + 1) (by omega)
    rw [e, this, List.drop_eq_getElem_cons ha, List.take_succ_cons]
    simp [ha]
theorem slice_raw (l : List Nat) (lo hi : Option Int) :
    (if ((1 : Int) == 1 && (strSliceIndices lo hi 1 (S l).length).length == (S l).length) = true then S l else ⟨((strSliceIndices lo hi 1 (S l).length).filterMap ((S l).cps[·]?)).toArray⟩ : Str) = S (cutA l lo hi) := by
  have h1 := sx_le l.length l.length (Nat.le_refl _) hi
  have h2 := sx_le l.length 0 (Nat.zero_le _) lo
  rw [S_length, sliceIx]
  unfold cutA
  generalize sx l.length l.length hi = c at *
  generalize sx l.length 0 lo = a at *
  split
  · rename_i hc
    simp only [List.length_map, List.length_range, beq_self_eq_true, Bool.true_and, beq_iff_eq] at hc
    by_cases h0 : l.length = 0
    · have : l = [] := List.length_eq_zero_iff.mp h0
      subst this; simp
    · have ha : a = 0 := by omega
      have hc' : c = l.length := by omega
      subst ha hc'
      simp
  · by_cases hac : a ≤ c
    · show S _ = S _
      congr 1
      exact pickL l _ a (by omega)
    · have : c - a = 0 := by omega
      rw [this]
      simp [S]
theorem occ_stop (s sub : Str) (hi : Nat) : ∀ (l : List Nat) (arr : Array Nat) (f : Nat), 1 ≤ arr.size → (forIn l (arr, f) (StrLaws.occBody s sub hi 1)).run.fst = arr
  | [], _, _, _ => rfl
  | a :: l, arr, f, h => by
    rw [List.forIn_cons]
    unfold StrLaws.occBody
    have c : ¬ ((((arr, f).fst.size < 1 ∧ (arr, f).snd ≤ a) ∧ a + sub.length ≤ hi) ∧ subAt s sub a = true) := fun q => by
      have t : arr.size < 1 := q.1.1.1
      omega
    rw [if_neg c]
    exact occ_stop s sub hi l arr f h
theorem occ_first (s sub : Str) (hi : Nat) : ∀ (l : List Nat) (f : Nat), (∀ i ∈ l, f ≤ i) →
    (forIn l ((#[] : Array Nat), f) (StrLaws.occBody s sub hi 1)).run.fst.toList = (l.find? fun i => decide (i + sub.length ≤ hi) && subAt s sub i).toList
  | [], _, _ => rfl
  | a :: l, f, hf => by
    rw [List.forIn_cons]
    unfold StrLaws.occBody
    have ha : f ≤ a := hf a List.mem_cons_self
    by_cases hc : a + sub.length ≤ hi ∧ subAt s sub a = true
    · have c1 : ((((#[] : Array Nat), f).fst.size < 1 ∧ ((#[] : Array Nat), f).snd ≤ a) ∧ a + sub.length ≤ hi) ∧ subAt s sub a = true := ⟨⟨⟨by simp, ha⟩, hc.1⟩, hc.2⟩
      rw [if_pos c1]
      have e := occ_stop s sub hi l (#[].push a) (a + sub.length) (by simp)
      have e2 : (decide (a + sub.length ≤ hi) && subAt s sub a) = true := by simp [hc.1, hc.2]
      rw [List.find?_cons, e2]
      show ((forIn l ((#[] : Array Nat).push a, a + sub.length) (StrLaws.occBody s sub hi 1)).run.fst).toList = _
      rw [e]
      simp
    · have c2 : ¬ (((((#[] : Array Nat), f).fst.size < 1 ∧ ((#[] : Array Nat), f).snd ≤ a) ∧ a + sub.length ≤ hi) ∧ subAt s sub a = true) := fun q => hc ⟨q.1.2, q.2⟩
      rw [if_neg c2]
      have e2 : (decide (a + sub.length ≤ hi) && subAt s sub a) = false := by
        rw [Bool.eq_false_iff]
        intro q
        simp only [Bool.and_eq_true, decide_eq_true_eq] at q
        exact hc q
      rw [List.find?_cons, e2]
      exact occ_first s sub hi l f fun i hi' => hf i (List.mem_cons_of_mem _ hi')
def fits (p l : List Nat) (i : Nat) : Bool := decide (i + p.length ≤ l.length) && ((l.drop i).take p.length == p)
theorem subAt_S (l p : List Nat) (i : Nat) : subAt (S l) (S p) i = ((l.drop i).take p.length == p) := by
  rw [StrLaws.subAt_eq, S_length]; rfl
theorem occ_S (l p : List Nat) (k : Nat) : occurrences (S l) (S p) k (S l).length 1 = ((List.range' k (l.length + 1 - k)).find? (fits p l)).toList := by
  rw [StrLaws.occ_eq, S_length, occ_first _ _ _ _ k (fun i hi => by have := List.mem_range'.mp hi; omega)]
  have e : (fun i => decide (i + (S p).length ≤ l.length) && subAt (S l) (S p) i) = fits p l := by
    funext i
    rw [subAt_S, S_length]; rfl
  rw [e]
def findL (p l : List Nat) (k : Nat) : Int := match (List.range' k (l.length + 1 - k)).find? (fits p l) with
  | some i => (i : Int)
  | none => -1
theorem find_raw (l p : List Nat) (k : Nat) : (match occurrences (S l) (S p) k (S l).length 1 with | i :: _ => (i : Int) | [] => -1) = findL p l k := by
  rw [occ_S]
  unfold findL
  cases (List.range' k (l.length + 1 - k)).find? (fits p l) <;> rfl
theorem joinS (sep : List Nat) : ∀ ls : List (List Nat), Str.join (S sep) (ls.map S) = S (joinL sep ls)
  | [] => rfl
  | [x] => rfl
  | x :: y :: r => by
    have ih := joinS sep (y :: r)
    show S x ++ S sep ++ Str.join (S sep) ((y :: r).map S) = _
    rw [ih, S_append, S_append]
    rfl
end L2
namespace L2
open PySem PySem.Spec PyProof.Rows
def LET : Str := S [97, 98, 99, 100, 101, 102, 103, 104, 105, 106, 107, 108, 109, 110, 111, 112, 113, 114, 115, 116, 117, 118, 119, 120, 121, 122]
theorem let_eq : Str.ofString "abcdefghijklmnopqrstuvwxyz" = LET := by decide +kernel
def FeedAt (H : Hp) (p : Addr) (n : Nat) : Prop := ∃ a b c : Int, H p = some (.lst [.int a, .int b, .int c]) ∧ 0 ≤ a ∧ 0 ≤ b ∧ b < 2147483399 ∧ 0 ≤ c ∧ c ≤ n
theorem FeedAt.mono {H : Hp} {p : Addr} {n m : Nat} (h : FeedAt H p n) (e : n ≤ m) : FeedAt H p m := by
  obtain ⟨a, b, c, h1, h2, h3, h4, h5, h6⟩ := h
  exact ⟨a, b, c, h1, h2, h3, h4, h5, by omega⟩
theorem FeedAt.new {H : Hp} {p q : Addr} {n : Nat} {o : HO} (h : FeedAt H p n) (hq : H q = none) : FeedAt (upd H q o) p n := by
  obtain ⟨a, b, c, h1, r⟩ := h
  exact ⟨a, b, c, by rw [upd_ne (ne_of_none h1 hq)]; exact h1, r⟩
theorem FeedAt.some {H : Hp} {p : Addr} {n : Nat} (h : FeedAt H p n) : ∃ o, H p = some o := by
  obtain ⟨a, b, c, h1, r⟩ := h
  exact ⟨_, h1⟩
def feedTop : Nat := 1000000
def spFeed (K : PySem.W.Frag) : Sp := fun vs H Q _ => ∃ (a : Addr) (ns : List Int) (k : Int), vs = [.ref a, .int k] ∧ SqL K H a (ns.map V.int) ∧ 0 ≤ k ∧ k < 1000 ∧
  ∀ (p : Addr) (H' : Hp), H p = none → FeedAt H' p 0 → Off p H H' → Q (.ref p) H'
def spNext : Sp := fun vs H Q _ => ∃ (p : Addr) (m : Int) (n : Nat), vs = [.ref p, .int m] ∧ FeedAt H p n ∧ n < feedTop ∧ 0 < m ∧ m < 1073741824 ∧
  ∀ (d : Int) (H' : Hp), 0 ≤ d → d < m → FeedAt H' p (n + 1) → Off p H H' → Q (.int d) H'
def spLetters : Sp := fun vs H Q _ => ∃ (p : Addr) (n : Nat), vs = [.ref p] ∧ FeedAt H p n ∧ n + 3 < feedTop ∧
  ∀ (l : List Nat) (H' : Hp), Low l → 2 ≤ l.length → l.length ≤ 26 → FeedAt H' p (n + 3) → Off p H H' → Q (.str (S l)) H'
def spWord : Sp := fun vs H Q _ => ∃ (p : Addr) (n : Nat) (l : List Nat) (m : Nat), vs = [.ref p, .str (S l), .int m] ∧ FeedAt H p n ∧ n + 30 < feedTop ∧ Low l ∧ 1 ≤ l.length ∧ l.length ≤ 26 ∧ 1 ≤ m ∧ m ≤ 25 ∧
  ∀ (w : List Nat) (H' : Hp), Low w → 1 ≤ w.length → w.length ≤ m → FeedAt H' p (n + 30) → Kept p H H' → Q (.str (S w)) H'
def spAlike (n : Nat) : Sp := fun vs H Q _ => ∃ (u v : V) (d : Dt), vs = [u, v] ∧ Is H u d ∧ Is H v d ∧ dep d < n ∧ wid d ≤ 100000 ∧ ∀ H', Same H H' → Q (.bl true) H'
end L2
namespace L2
open PySem PySem.Spec PyProof.Rows
end L2
namespace L2
open PySem PySem.Spec PyProof.Rows
theorem slice_S (l : List Nat) (lo hi : Option Int) : Txt.slice (S l) lo hi = S (cutA l lo hi) := slice_raw l lo hi
theorem find_S (l p : List Nat) : Txt.find (S l) (S p) = findL p l 0 := find_raw l p 0
theorem find3_S (l p : List Nat) (k : Nat) : Txt.find3 (S l) (S p) (k : Int) = findL p l k := by
  have e : fromIndex (S l).length (k : Int) = k := by
    unfold fromIndex
    rw [if_neg (by omega)]; omega
  show (match Builtin.Str.occurrences (S l) (S p) (fromIndex (S l).length (k : Int)) (S l).length 1 with | k :: _ => (k : Int) | [] => -1) = _
  rw [e]; exact find_raw l p k
theorem join_S (sep : List Nat) (ls : List (List Nat)) : Txt.join (S sep) (ls.map S) = S (joinL sep ls) := by
  show Builtin.Str.glued (S sep) (ls.map S) = _
  rw [StrLaws.glued_eq_join, joinS]
theorem chs_S (l : List Nat) : chs (S l) = l.map fun c => V.str (S [c]) := rfl
theorem chs_get {l : List Nat} {i : Nat} (h : i < l.length) : (chs (S l)).getD i .non = V.str (S [l[i]]) := by
  rw [chs_S]; simp [List.getD_eq_getElem?_getD, h]
theorem cut_plain {α : Type} (l : List α) (i j : Nat) (h : j ≤ l.length) (hij : i ≤ j) : cutA l (some (i : Int)) (some (j : Int)) = (l.drop i).take (j - i) := by
  unfold cutA
  have e1 : sx l.length 0 (some (i : Int)) = i := by simp only [sx]; rw [if_neg (by omega)]; omega
  have e2 : sx l.length l.length (some (j : Int)) = j := by simp only [sx]; rw [if_neg (by omega)]; omega
  rw [e1, e2]
theorem cut_from {α : Type} (l : List α) (i : Nat) (h : i ≤ l.length) : cutA l (some (i : Int)) none = l.drop i := by
  unfold cutA
  have e1 : sx l.length 0 (some (i : Int)) = i := by simp only [sx]; rw [if_neg (by omega)]; omega
  rw [e1]
  show (l.drop i).take (l.length - i) = _
  rw [List.take_of_length_le (by simp)]
theorem cutV_eq (xs : List V) (lo hi : Option Int) : cutV xs lo hi = cutA xs lo hi := rfl
theorem Low_cut {l : List Nat} (h : Low l) (lo hi : Option Int) : Low (cutA l lo hi) := fun c hc => h c (List.mem_of_mem_drop (List.mem_of_mem_take hc))
theorem Low_append {a b : List Nat} (ha : Low a) (hb : Low b) : Low (a ++ b) := fun c hc => (List.mem_append.mp hc).elim (ha c) (hb c)
theorem cut_length {α : Type} (l : List α) (lo hi : Option Int) : (cutA l lo hi).length = sx l.length l.length hi - sx l.length 0 lo := by
  have h1 := sx_le l.length l.length (Nat.le_refl _) hi
  unfold cutA
  rw [List.length_take, List.length_drop]
  omega
def LETL : List Nat := [97, 98, 99, 100, 101, 102, 103, 104, 105, 106, 107, 108, 109, 110, 111, 112, 113, 114, 115, 116, 117, 118, 119, 120, 121, 122]
theorem low_LETL : Low LETL := by unfold Low; decide
theorem t_let : Str.ofString "abcdefghijklmnopqrstuvwxyz" = S LETL := let_eq
theorem t_empty : Str.ofString "" = S [] := by decide +kernel
theorem t_dot : Str.ofString "." = S [46] := by decide +kernel
theorem joined_one (ws : List Nat) : Txt.join (S []) (ws.map fun c => S [c]) = S ws := by
  have e : (ws.map fun c => S [c]) = (ws.map fun c => [c]).map S := by rw [List.map_map]; rfl
  rw [e, join_S, joinL_nil]
  congr 1
  clear e
  induction ws with
  | nil => rfl
  | cons c ws ih => simp only [List.map_cons, List.flatten_cons]; rw [ih]; rfl
theorem sum_one (ws : List Nat) : ((ws.map fun c => S [c]).map (·.length)).sum = ws.length := by
  induction ws with
  | nil => rfl
  | cons c ws ih => simp only [List.map_cons, List.sum_cons, List.length_cons, S_length, List.length_nil]; rw [List.map_map] at ih ⊢; omega
theorem map_one (ws : List Nat) : (ws.map fun c => V.str (S [c])) = (ws.map fun c => S [c]).map V.str := by rw [List.map_map]; rfl
theorem FeedAt.same {H H' : Hp} {p : Addr} {n : Nat} (h : FeedAt H p n) (k : ∀ b o, H b = Option.some o → H' b = Option.some o) : FeedAt H' p n := by
  obtain ⟨a, b, c, h1, r⟩ := h
  exact ⟨a, b, c, k _ _ h1, r⟩
theorem Kept.same {p : Addr} {H H1 H2 : Hp} (a : Kept p H H1) (b : ∀ c o, H1 c = some o → H2 c = some o) : Kept p H H2 := fun c o hc e => b c o (a c o hc e)
theorem Kept.off {p : Addr} {H H1 H2 : Hp} (a : Kept p H H1) (b : Off p H1 H2) : Kept p H H2 := fun c o hc e => (b c hc).trans (a c o hc e)
theorem i_ixC {K : PySem.W.Frag} {H : Hp} {Q : VK} {l : List Nat} {i : Int} {c : Nat} (hz : l.length ≤ 1000000) (h2 : atI l i = some c) (h : Q (.str (S [c])) H) : fIx K (.str (S l)) (.int i) H Q := i_ixS (szn (by rw [S_length]; exact hz)) h2 h
theorem i_addC {H : Hp} {Q : VK} {a b : List Nat} (hz : a.length + b.length ≤ 1000000) (h : Q (.str (S (a ++ b))) H) : fAdd (.str (S a)) (.str (S b)) H Q := i_addS (szn (by rw [S_length, S_length]; exact hz)) (by rw [S_append]; exact h)
theorem i_slC {K : PySem.W.Frag} {H : Hp} {Q : VK} {l : List Nat} {lo hi : Option Int} (hz : l.length ≤ 1000000) (h : Q (.str (S (cutA l lo hi))) H) : fSl K (.str (S l)) lo hi H Q := i_slS (szn (by rw [S_length]; exact hz)) (by rw [slice_S]; exact h)
theorem i_lenC {K : PySem.W.Frag} {H : Hp} {Q : VK} {l : List Nat} (hz : l.length ≤ 1000000) (h : Q (.int (l.length : Int)) H) : fLen K [.str (S l)] H Q := i_lenS (szn (by rw [S_length]; exact hz)) (by rw [S_length]; exact h)
theorem i_mulZ {H : Hp} {Q : VK} {a : Addr} {x : V} {k : Int} (h1 : H a = some (.lst [x])) (c : 0 ≤ k ∧ k ≤ 1000000) (h : ∀ p, H p = none → Q (.ref p) (upd H p (.lst (List.replicate k.toNat x)))) : fMul (.ref a) (.int k) H Q := by
  refine i_mulL h1 ⟨by omega, by omega, by simp; omega⟩ fun p hp => ?_
  have e : (List.replicate k.toNat [x]).flatten = List.replicate k.toNat x := by
    generalize k.toNat = m
    induction m with
    | zero => rfl
    | succ m ih => rw [List.replicate_succ, List.flatten_cons, ih]; rfl
  rw [e]; exact h p hp
theorem cutA_map {α β : Type} (g : α → β) (l : List α) (lo hi : Option Int) : cutA (l.map g) lo hi = (cutA l lo hi).map g := by
  unfold cutA
  rw [List.length_map, List.map_take, List.map_drop]
def patD (x : List Nat × List Int) : Dt := .tup [.str (S x.1), .tup (x.2.map Dt.int)]
def patsD (xs : List (List Nat × List Int)) : Dt := .lst (xs.map patD)
structure GP (x : List Nat × List Int) : Prop where
  ne : 1 ≤ x.1.length
  le : x.1.length ≤ 22
  len : x.2.length = x.1.length + 1
  num : ∀ v ∈ x.2, 0 ≤ v ∧ v ≤ 9
  cs : ∀ c ∈ x.1, c < 128
theorem IsL_intsD {H : Hp} : ∀ {g : List Int} {xs : List V}, L2.IsL H xs (g.map Dt.int) → xs = g.map V.int
  | [], [], _ => rfl
  | [], _ :: _, h => by simp only [List.map_nil, L2.IsL] at h
  | _ :: _, [], h => by simp only [List.map_cons, L2.IsL] at h
  | k :: g, x :: xs, h => by
    simp only [List.map_cons, L2.IsL, Is] at h
    rw [h.1, IsL_intsD h.2]; rfl
theorem isPat {H : Hp} {v : V} {x : List Nat × List Int} (h : Is H v (patD x)) : ∃ a t, v = .ref a ∧ H a = some (.tup [.str (S x.1), .ref t]) ∧ H t = some (.tup (x.2.map V.int)) := by
  simp only [Is, patD] at h
  obtain ⟨a, xs, rfl, ha, hxs⟩ := h
  match xs, hxs with
  | [], h => simp only [L2.IsL] at h
  | [_], h => simp only [L2.IsL] at h; exact h.2.elim
  | _ :: _ :: _ :: _, h => simp only [L2.IsL] at h; exact h.2.2.elim
  | [y, z], h =>
    simp only [L2.IsL, Is] at h
    obtain ⟨rfl, ⟨t, ys, rfl, ht, hys⟩, _⟩ := h
    have := IsL_intsD hys
    subst this
    exact ⟨a, t, rfl, ha, ht⟩
theorem isPat_mk {H : Hp} {a t : Addr} {x : List Nat × List Int} (h1 : H a = some (.tup [.str (S x.1), .ref t])) (h2 : H t = some (.tup (x.2.map V.int))) : Is H (.ref a) (patD x) := by
  simp only [Is, patD, L2.IsL]
  exact ⟨a, _, rfl, h1, rfl, ⟨t, _, rfl, h2, IsL.ints _ _⟩, trivial⟩
theorem isPats {H : Hp} {v : V} {xs : List (List Nat × List Int)} (h : Is H v (patsD xs)) : ∃ a ys, v = .ref a ∧ H a = some (.lst ys) ∧ L2.IsL H ys (xs.map patD) := by
  simp only [Is, patsD] at h
  exact h
theorem IsL.append {H : Hp} : ∀ {ds es : List Dt} {xs ys : List V}, L2.IsL H xs ds → L2.IsL H ys es → L2.IsL H (xs ++ ys) (ds ++ es)
  | [], _, [], _, _, h => h
  | d :: ds, es, x :: xs, ys, h, k => by
    simp only [L2.IsL] at h
    simp only [List.cons_append, L2.IsL]
    exact ⟨h.1, IsL.append h.2 k⟩
  | [], _, _ :: _, _, h, _ => by simp only [L2.IsL] at h
  | _ :: _, _, [], _, h, _ => by simp only [L2.IsL] at h
theorem head_dot {s : List Nat} : (cutA s none (some 1) = [46]) ↔ s.head? = some 46 := by
  cases s with
  | nil => simp [cutA, sx]
  | cons c s =>
    have e : cutA (c :: s) none (some 1) = [c] := by
      unfold cutA
      have e2 : sx (c :: s).length (c :: s).length (some 1) = 1 := by simp only [sx]; rw [if_neg (by decide)]; simp
      rw [e2]; rfl
    rw [e]; simp
theorem last_dot {s : List Nat} : (cutA s (some (-1)) none = [46]) ↔ s.getLast? = some 46 := by
  cases h : s.getLast? with
  | none =>
    have : s = [] := by simpa using h
    subst this
    simp [cutA, sx]
  | some c =>
    obtain ⟨r, rfl⟩ := List.getLast?_eq_some_iff.mp h
    have e : cutA (r ++ [c]) (some (-1)) none = [c] := by
      unfold cutA
      have e1 : sx (r ++ [c]).length 0 (some (-1)) = r.length := by simp only [sx]; rw [if_pos (by decide)]; simp; omega
      have e2 : sx (r ++ [c]).length (r ++ [c]).length none = r.length + 1 := by simp [sx]
      rw [e1, e2]; simp
    rw [e]; simp
end L2
namespace L2
abbrev Pat := List Nat × List Int
def mx (a b : Int) : Int := if b > a then b else a
theorem mx_le {a b c : Int} : mx a b ≤ c ↔ a ≤ c ∧ b ≤ c := by unfold mx; split <;> omega
def put (t : List Int) (p : Nat) (v : Int) : List Int := t.set p (mx (t.getD p 0) v)
theorem put_length (t : List Int) (p : Nat) (v : Int) : (put t p v).length = t.length := by unfold put; simp
theorem put_get (t : List Int) (p q : Nat) (v : Int) (hq : q < t.length) : (put t p v).getD q 0 = if p = q then mx (t.getD q 0) v else t.getD q 0 := by
  unfold put
  simp only [List.getD_eq_getElem?_getD, List.getElem?_set]
  by_cases h : p = q
  · subst h; simp [hq]
  · simp [h]
def laid (t : List Int) (b : Nat) : List Int → List Int
  | [] => t
  | v :: r => laid (put t b v) (b + 1) r
theorem laid_snoc (b : Nat) (v : Int) : ∀ (r : List Int) (t : List Int) (c : Nat), laid t c (r ++ [v]) = put (laid t c r) (c + r.length) v
  | [], t, c => by simp [laid]
  | x :: r, t, c => by
    simp only [List.cons_append, laid, List.length_cons]
    rw [laid_snoc b v r]
    congr 1; omega
theorem laid_length : ∀ (ns : List Int) (t : List Int) (b : Nat), (laid t b ns).length = t.length
  | [], _, _ => rfl
  | v :: r, t, b => by simp only [laid]; rw [laid_length r, put_length]
def laidN (m : Int) (p b : Nat) : List Int → Int
  | [] => m
  | v :: r => laidN (if b = p then mx m v else m) p (b + 1) r
theorem laid_get : ∀ (ns : List Int) (t : List Int) (b q : Nat), q < t.length → (laid t b ns).getD q 0 = laidN (t.getD q 0) q b ns
  | [], _, _, _, _ => rfl
  | v :: r, t, b, q, h => by
    simp only [laid, laidN]
    rw [laid_get r _ _ q (by rw [put_length]; exact h), put_get t b q v h]
def places (p f : List Nat) : List Nat := (List.range f.length).filter (fits p f)
def tellP (f : List Nat) (t : List Int) (x : Pat) : List Int := (places x.1 f).foldl (fun t b => laid t b x.2) t
def tellA (f : List Nat) (t : List Int) (xs : List Pat) : List Int := xs.foldl (tellP f) t
def numP (f : List Nat) (p : Nat) (m : Int) (x : Pat) : Int := (places x.1 f).foldl (fun m b => laidN m p b x.2) m
def numA (f : List Nat) (p : Nat) (m : Int) (xs : List Pat) : Int := xs.foldl (numP f p) m
theorem foldl_laid (ns : List Int) : ∀ (bs : List Nat) (t : List Int), (bs.foldl (fun t b => laid t b ns) t).length = t.length ∧ ∀ q, q < t.length → (bs.foldl (fun t b => laid t b ns) t).getD q 0 = bs.foldl (fun m b => laidN m q b ns) (t.getD q 0)
  | [], t => ⟨rfl, fun _ _ => rfl⟩
  | b :: bs, t => by
    obtain ⟨h1, h2⟩ := foldl_laid ns bs (laid t b ns)
    rw [laid_length] at h1 h2
    refine ⟨by simpa using h1, fun q hq => ?_⟩
    simp only [List.foldl_cons]
    rw [h2 q hq, laid_get ns t b q hq]
theorem tellA_get (f : List Nat) : ∀ (xs : List Pat) (t : List Int), (tellA f t xs).length = t.length ∧ ∀ q, q < t.length → (tellA f t xs).getD q 0 = numA f q (t.getD q 0) xs
  | [], t => ⟨rfl, fun _ _ => rfl⟩
  | x :: xs, t => by
    obtain ⟨h1, h2⟩ := foldl_laid x.2 (places x.1 f) t
    obtain ⟨h3, h4⟩ := tellA_get f xs (tellP f t x)
    have e : (tellP f t x).length = t.length := h1
    rw [e] at h3 h4
    refine ⟨h3, fun q hq => ?_⟩
    show (tellA f (tellP f t x) xs).getD q 0 = _
    rw [h4 q hq]
    show numA f q ((tellP f t x).getD q 0) xs = numA f q (numP f q (t.getD q 0) x) xs
    rw [show (tellP f t x).getD q 0 = numP f q (t.getD q 0) x from h2 q hq]
def frame (w : List Nat) : List Nat := 46 :: (w ++ [46])
theorem frame_length (w : List Nat) : (frame w).length = w.length + 2 := by simp [frame]
def vals (xs : List Pat) (w : List Nat) : List Int := (List.range (w.length - 1)).map fun j => numA (frame w) (j + 2) 0 xs
theorem vals_length (xs : List Pat) (w : List Nat) : (vals xs w).length = w.length - 1 := by simp [vals]
theorem vals_get (xs : List Pat) (w : List Nat) (j : Nat) (h : j < w.length - 1) : (vals xs w)[j]? = some (numA (frame w) (j + 2) 0 xs) := by
  simp [vals, h]
theorem rep_get (n q : Nat) : (List.replicate n (0 : Int)).getD q 0 = 0 := by
  simp only [List.getD_eq_getElem?_getD, List.getElem?_replicate]; split <;> rfl
theorem ext_getD {a b : List Int} (h : a.length = b.length) (k : ∀ q, q < a.length → a.getD q 0 = b.getD q 0) : a = b := by
  apply List.ext_getElem h
  intro i h1 h2
  have := k i h1
  simpa [List.getD_eq_getElem?_getD, h1, h2] using this
theorem program_vals (xs : List Pat) (w : List Nat) (h : 1 ≤ w.length) : cutA (tellA (frame w) (List.replicate ((frame w).length + 1) 0) xs) (some 2) (some (-2)) = vals xs w := by
  obtain ⟨h1, h2⟩ := tellA_get (frame w) xs (List.replicate ((frame w).length + 1) 0)
  rw [List.length_replicate] at h1 h2
  unfold cutA
  rw [h1]
  rw [frame_length] at h1 h2 ⊢
  have e1 : sx (w.length + 2 + 1) 0 (some 2) = 2 := by simp only [sx]; rw [if_neg (by decide)]; show min 2 (w.length + 2 + 1) = 2; omega
  have e2 : sx (w.length + 2 + 1) (w.length + 2 + 1) (some (-2)) = w.length + 1 := by simp only [sx]; rw [if_pos (by decide)]; omega
  rw [e1, e2]
  apply ext_getD
  · rw [vals_length, List.length_take, List.length_drop, h1]; omega
  · intro q hq
    rw [List.length_take, List.length_drop, h1] at hq
    have hq' : q < w.length - 1 := by omega
    have := h2 (2 + q) (by omega)
    rw [rep_get] at this
    have e3 : (vals xs w).getD q 0 = numA (frame w) (q + 2) 0 xs := by rw [List.getD_eq_getElem?_getD, vals_get xs w q hq']; rfl
    rw [e3, Nat.add_comm q 2, ← this]
    simp only [List.getD_eq_getElem?_getD, List.getElem?_take, List.getElem?_drop]
    rw [if_pos (by omega)]
def lput (n : Nat) (t : List Int) (p : Nat) (v : Int) : List Int := if 2 ≤ p ∧ p ≤ n then put t (p - 2) v else t
def llaid (n : Nat) (t : List Int) (b : Nat) : List Int → List Int
  | [] => t
  | v :: r => llaid n (lput n t b v) (b + 1) r
theorem llaid_snoc (n : Nat) (v : Int) : ∀ (r : List Int) (t : List Int) (c : Nat), llaid n t c (r ++ [v]) = lput n (llaid n t c r) (c + r.length) v
  | [], t, c => by simp [llaid]
  | x :: r, t, c => by
    simp only [List.cons_append, llaid, List.length_cons]
    rw [llaid_snoc n v r]
    congr 1; omega
theorem lput_length (n : Nat) (t : List Int) (p : Nat) (v : Int) : (lput n t p v).length = t.length := by
  unfold lput; split
  · rw [put_length]
  · rfl
theorem llaid_length (n : Nat) : ∀ (ns : List Int) (t : List Int) (b : Nat), (llaid n t b ns).length = t.length
  | [], _, _ => rfl
  | v :: r, t, b => by simp only [llaid]; rw [llaid_length n r, lput_length]
theorem llaid_get (n : Nat) : ∀ (ns : List Int) (t : List Int) (b j : Nat), t.length = n - 1 → j < n - 1 → (llaid n t b ns).getD j 0 = laidN (t.getD j 0) (j + 2) b ns
  | [], _, _, _, _, _ => rfl
  | v :: r, t, b, j, ht, hj => by
    simp only [llaid, laidN]
    rw [llaid_get n r _ _ j (by rw [lput_length]; exact ht) hj]
    congr 1
    unfold lput
    by_cases hb : 2 ≤ b ∧ b ≤ n
    · rw [if_pos hb, put_get t (b - 2) j v (by omega)]
      by_cases e : b = j + 2
      · rw [if_pos e, if_pos (by omega)]
      · rw [if_neg e, if_neg (by omega)]
    · rw [if_neg hb, if_neg (by omega)]
def lawP (n : Nat) (f : List Nat) (t : List Int) (x : Pat) : List Int := (places x.1 f).foldl (fun t b => llaid n t b x.2) t
def lawA (n : Nat) (f : List Nat) (t : List Int) (xs : List Pat) : List Int := xs.foldl (lawP n f) t
theorem foldl_llaid (n : Nat) (ns : List Int) : ∀ (bs : List Nat) (t : List Int), t.length = n - 1 → (bs.foldl (fun t b => llaid n t b ns) t).length = n - 1 ∧ ∀ j, j < n - 1 → (bs.foldl (fun t b => llaid n t b ns) t).getD j 0 = bs.foldl (fun m b => laidN m (j + 2) b ns) (t.getD j 0)
  | [], t, h => ⟨h, fun _ _ => rfl⟩
  | b :: bs, t, h => by
    obtain ⟨h1, h2⟩ := foldl_llaid n ns bs (llaid n t b ns) (by rw [llaid_length]; exact h)
    refine ⟨by simpa using h1, fun j hj => ?_⟩
    simp only [List.foldl_cons]
    rw [h2 j hj, llaid_get n ns t b j h hj]
theorem lawA_get (n : Nat) (f : List Nat) : ∀ (xs : List Pat) (t : List Int), t.length = n - 1 → (lawA n f t xs).length = n - 1 ∧ ∀ j, j < n - 1 → (lawA n f t xs).getD j 0 = numA f (j + 2) (t.getD j 0) xs
  | [], t, h => ⟨h, fun _ _ => rfl⟩
  | x :: xs, t, h => by
    obtain ⟨h1, h2⟩ := foldl_llaid n x.2 (places x.1 f) t h
    obtain ⟨h3, h4⟩ := lawA_get n f xs (lawP n f t x) h1
    refine ⟨h3, fun j hj => ?_⟩
    show (lawA n f (lawP n f t x) xs).getD j 0 = _
    rw [h4 j hj]
    show numA f (j + 2) ((lawP n f t x).getD j 0) xs = numA f (j + 2) (numP f (j + 2) (t.getD j 0) x) xs
    rw [show (lawP n f t x).getD j 0 = numP f (j + 2) (t.getD j 0) x from h2 j hj]
theorem law_vals (xs : List Pat) (w : List Nat) : lawA w.length (frame w) (List.replicate (w.length - 1) 0) xs = vals xs w := by
  obtain ⟨h1, h2⟩ := lawA_get w.length (frame w) xs (List.replicate (w.length - 1) 0) (by simp)
  apply ext_getD
  · rw [h1, vals_length]
  · intro j hj
    rw [h1] at hj
    rw [h2 j hj, rep_get, List.getD_eq_getElem?_getD, vals_get xs w j hj]; rfl
def placesFrom (p f : List Nat) (k : Nat) : List Nat := (List.range' k (f.length + 1 - k)).filter (fits p f)
theorem places_all {p f : List Nat} (hp : p ≠ []) : placesFrom p f 0 = places p f := by
  unfold placesFrom places
  rw [Nat.sub_zero, ← List.range_eq_range', List.range_succ, List.filter_append]
  have : fits p f f.length = false := by
    unfold fits
    have : 0 < p.length := List.length_pos_iff.mpr hp
    rw [decide_eq_false (by omega)]; rfl
  simp [this]
theorem fits_lt {p f : List Nat} {i : Nat} (hp : p ≠ []) (h : fits p f i = true) : i < f.length := by
  unfold fits at h
  have : 0 < p.length := List.length_pos_iff.mpr hp
  simp only [Bool.and_eq_true, decide_eq_true_eq] at h
  omega
theorem find_step (p f : List Nat) : ∀ (m k : Nat), (List.range' k m).find? (fits p f) = none → (List.range' k m).filter (fits p f) = [] := fun m k h => by
  rw [List.filter_eq_nil_iff]
  intro a ha
  have := List.find?_eq_none.mp h a ha
  exact this
theorem find_some (p f : List Nat) : ∀ (m k i : Nat), (List.range' k m).find? (fits p f) = some i → k ≤ i ∧ i < k + m ∧ fits p f i = true ∧ (List.range' k m).filter (fits p f) = i :: (List.range' (i + 1) (k + m - (i + 1))).filter (fits p f)
  | 0, k, i, h => by simp at h
  | m + 1, k, i, h => by
    rw [List.range'_succ, List.find?_cons] at h
    cases hk : fits p f k with
    | true =>
      rw [hk] at h
      cases h
      refine ⟨Nat.le_refl _, by omega, hk, ?_⟩
      rw [List.range'_succ, List.filter_cons, hk, if_pos rfl]
      congr 3
      omega
    | false =>
      rw [hk] at h
      obtain ⟨h1, h2, h3, h4⟩ := find_some p f m (k + 1) i h
      refine ⟨by omega, by omega, h3, ?_⟩
      rw [List.range'_succ, List.filter_cons, hk, if_neg Bool.false_ne_true, h4]
      congr 3
      omega
theorem findL_neg {p f : List Nat} {k : Nat} (h : findL p f k < 0) : placesFrom p f k = [] := by
  unfold findL at h
  split at h
  · omega
  · rename_i e; exact find_step p f _ _ e
theorem findL_pos {p f : List Nat} {k : Nat} (hk : k ≤ f.length) (h : 0 ≤ findL p f k) : ∃ i : Nat, findL p f k = i ∧ k ≤ i ∧ i ≤ f.length ∧ fits p f i = true ∧ placesFrom p f k = i :: placesFrom p f (i + 1) := by
  unfold findL at h ⊢
  split at h
  · rename_i i e
    obtain ⟨h1, h2, h3, h4⟩ := find_some p f _ _ _ e
    refine ⟨i, rfl, h1, by omega, h3, ?_⟩
    unfold placesFrom
    rw [h4]
    congr 3
    omega
  · omega
theorem laidN_eq (p : Nat) : ∀ (ns : List Int) (m : Int) (b : Nat), laidN m p b ns = if b ≤ p ∧ p < b + ns.length then mx m (ns.getD (p - b) 0) else m
  | [], m, b => by
    simp only [laidN, List.length_nil]
    rw [if_neg (by omega)]
  | v :: r, m, b => by
    simp only [laidN, List.length_cons]
    rw [laidN_eq p r]
    by_cases e : b = p
    · subst e
      rw [if_pos rfl, if_neg (by omega), if_pos (by omega), Nat.sub_self]; rfl
    · rw [if_neg e]
      by_cases h : b + 1 ≤ p ∧ p < b + 1 + r.length
      · have : p - b = (p - (b + 1)) + 1 := by omega
        rw [if_pos h, if_pos (by omega), this]; rfl
      · rw [if_neg h, if_neg (by omega)]
def Tells (f : List Nat) (p : Nat) (xs : List Pat) (v : Int) : Prop := ∃ x ∈ xs, ∃ b ∈ places x.1 f, b ≤ p ∧ p < b + x.2.length ∧ v = x.2.getD (p - b) 0
theorem numP_le (f : List Nat) (p : Nat) (x : Pat) (m c : Int) : numP f p m x ≤ c ↔ m ≤ c ∧ ∀ b ∈ places x.1 f, b ≤ p → p < b + x.2.length → x.2.getD (p - b) 0 ≤ c := by
  unfold numP
  generalize places x.1 f = bs
  induction bs generalizing m with
  | nil => simp
  | cons b bs ih =>
    simp only [List.foldl_cons]
    rw [ih, laidN_eq]
    constructor
    · rintro ⟨h1, h2⟩
      split at h1
      · rename_i hc
        have := mx_le.mp h1
        refine ⟨this.1, fun b' hb' k1 k2 => ?_⟩
        rcases List.mem_cons.mp hb' with rfl | hb'
        · exact this.2
        · exact h2 b' hb' k1 k2
      · rename_i hc
        refine ⟨h1, fun b' hb' k1 k2 => ?_⟩
        rcases List.mem_cons.mp hb' with rfl | hb'
        · exact absurd ⟨k1, k2⟩ hc
        · exact h2 b' hb' k1 k2
    · rintro ⟨h1, h2⟩
      refine ⟨?_, fun b' hb' => h2 b' (List.mem_cons_of_mem _ hb')⟩
      split
      · rename_i hc
        exact mx_le.mpr ⟨h1, h2 b List.mem_cons_self hc.1 hc.2⟩
      · exact h1
theorem numA_le (f : List Nat) (p : Nat) : ∀ (xs : List Pat) (m c : Int), numA f p m xs ≤ c ↔ m ≤ c ∧ ∀ v, Tells f p xs v → v ≤ c
  | [], m, c => by
    show m ≤ c ↔ _
    constructor
    · exact fun h => ⟨h, fun v ⟨x, hx, _⟩ => by cases hx⟩
    · exact fun h => h.1
  | x :: xs, m, c => by
    show numA f p (numP f p m x) xs ≤ c ↔ _
    rw [numA_le f p xs, numP_le]
    constructor
    · rintro ⟨⟨h1, h2⟩, h3⟩
      refine ⟨h1, fun v ⟨y, hy, b, hb, k1, k2, e⟩ => ?_⟩
      rcases List.mem_cons.mp hy with rfl | hy
      · rw [e]; exact h2 b hb k1 k2
      · exact h3 v ⟨y, hy, b, hb, k1, k2, e⟩
    · rintro ⟨h1, h2⟩
      exact ⟨⟨h1, fun b hb k1 k2 => h2 _ ⟨x, List.mem_cons_self, b, hb, k1, k2, rfl⟩⟩, fun v ⟨y, hy, r⟩ => h2 v ⟨y, List.mem_cons_of_mem _ hy, r⟩⟩
end L2
namespace L2
open PySem PySem.Spec PyProof.Rows
def fExtend : V → List V → Hp → VK → Prop := fun x vs H Q => match x, vs with
  | .ref l, [.ref b] => (match H l, H b with | some (.lst xs), some (.lst zs) => xs.length + zs.length ≤ sizeLine ∧ Q .non (upd H l (.lst (xs ++ zs))) | _, _ => False)
  | _, _ => False
theorem m_extend1 {X : Cx} : MtR X "list.extend" fExtend := fun pins s σ H x xs v us Q I rx rs h => by
  unfold fExtend at h
  split at h
  · split at h
    · rename_i e e2
      exact mt_extend pins s σ H _ _ v us Q I rx rs ⟨_, _, _, _, rfl, rfl, e, e2, h.1, h.2⟩
    · exact h.elim
  · exact h.elim
theorem i_extL {H : Hp} {Q : VK} {l b : Addr} {xs zs : List V} (h1 : H l = some (.lst xs)) (h2 : H b = some (.lst zs)) (c : xs.length + zs.length ≤ sizeLine) (h : Q .non (upd H l (.lst (xs ++ zs)))) : fExtend (.ref l) [.ref b] H Q := by
  show (match H l, H b with | some (.lst xs), some (.lst zs) => xs.length + zs.length ≤ sizeLine ∧ Q .non (upd H l (.lst (xs ++ zs))) | _, _ => False)
  rw [h1, h2]; exact ⟨c, h⟩
mutual
def tOnly : Dt → Bool
  | .lst _ => false
  | .tup ds => tOnlyL ds
  | _ => true
def tOnlyL : List Dt → Bool
  | [] => true
  | d :: ds => tOnly d && tOnlyL ds
end
def Tk (H H' : Hp) : Prop := ∀ b xs, H b = some (.tup xs) → H' b = some (.tup xs)
mutual
theorem Is.tk {H H' : Hp} (h : Tk H H') : ∀ {d : Dt} {v : V}, tOnly d = true → Is H v d → Is H' v d
  | .non, _, _, k => by simp only [Is] at k ⊢; exact k
  | .bl _, _, _, k => by simp only [Is] at k ⊢; exact k
  | .int _, _, _, k => by simp only [Is] at k ⊢; exact k
  | .str _, _, _, k => by simp only [Is] at k ⊢; exact k
  | .tup ds, _, t, k => by
    simp only [tOnly] at t
    simp only [Is] at k ⊢
    obtain ⟨a, xs, e, h1, h2⟩ := k
    exact ⟨a, xs, e, h _ _ h1, IsL.tk h t h2⟩
  | .lst ds, _, t, _ => by simp only [tOnly] at t; cases t
theorem IsL.tk {H H' : Hp} (h : Tk H H') : ∀ {ds : List Dt} {xs : List V}, tOnlyL ds = true → IsL H xs ds → IsL H' xs ds
  | [], [], _, _ => by simp only [IsL]
  | [], _ :: _, _, k => by simp only [IsL] at k
  | _ :: _, [], _, k => by simp only [IsL] at k
  | d :: ds, x :: xs, t, k => by
    simp only [tOnlyL, Bool.and_eq_true] at t
    simp only [IsL] at k ⊢
    exact ⟨Is.tk h t.1 k.1, IsL.tk h t.2 k.2⟩
end
abbrev Fit := Nat × List Int
def fitD (x : Fit) : Dt := .tup [.int (x.1 : Int), .tup (x.2.map Dt.int)]
def fitsD (xs : List Fit) : Dt := .lst (xs.map fitD)
theorem isFit {H : Hp} {v : V} {x : Fit} (h : Is H v (fitD x)) : ∃ a t, v = .ref a ∧ H a = some (.tup [.int (x.1 : Int), .ref t]) ∧ H t = some (.tup (x.2.map V.int)) := by
  simp only [Is, fitD] at h
  obtain ⟨a, xs, rfl, ha, hxs⟩ := h
  match xs, hxs with
  | [], h => simp only [L2.IsL] at h
  | [_], h => simp only [L2.IsL] at h; exact h.2.elim
  | _ :: _ :: _ :: _, h => simp only [L2.IsL] at h; exact h.2.2.elim
  | [y, z], h =>
    simp only [L2.IsL, Is] at h
    obtain ⟨rfl, ⟨t, ys, rfl, ht, hys⟩, _⟩ := h
    have := IsL_intsD hys
    subst this
    exact ⟨a, t, rfl, ha, ht⟩
theorem isFits {H : Hp} {v : V} {xs : List Fit} (h : Is H v (fitsD xs)) : ∃ a ys, v = .ref a ∧ H a = some (.lst ys) ∧ L2.IsL H ys (xs.map fitD) := by
  simp only [Is, fitsD] at h
  exact h
def layF (t : List Int) (xs : List Fit) : List Int := xs.foldl (fun t x => laid t x.1 x.2) t
theorem layF_length : ∀ (xs : List Fit) (t : List Int), (layF t xs).length = t.length
  | [], _ => rfl
  | x :: xs, t => by show (layF (laid t x.1 x.2) xs).length = _; rw [layF_length xs, laid_length]
theorem layF_append (t : List Int) (xs ys : List Fit) : layF t (xs ++ ys) = layF (layF t xs) ys := List.foldl_append
theorem layF_take {xs : List Fit} {i : Nat} (h : i < xs.length) (t : List Int) : layF t (xs.take (i + 1)) = laid (layF t (xs.take i)) xs[i].1 xs[i].2 := by
  rw [List.take_succ, List.getElem?_eq_getElem h, layF_append]; rfl
end L2
namespace L2
open PySem PySem.Spec PyProof.Rows
section
variable {κ : Type} [DecidableEq κ]
def valV (kvs : List (κ × V)) (k : κ) : Option V := (kvs.find? fun kv => decide (kv.1 = k)).map (·.2)
def putK (kvs : List (κ × V)) (k : κ) (v : V) : List (κ × V) :=
  if (kvs.any fun kv => decide (kv.1 = k)) = true then kvs.map (fun kv => if kv.1 = k then (kv.1, v) else kv) else kvs ++ [(k, v)]
theorem valV_pos {p : κ × V} {r : List (κ × V)} {k : κ} (e : p.1 = k) : valV (p :: r) k = some p.2 := by simp [valV, List.find?_cons, e]
theorem valV_neg {p : κ × V} {r : List (κ × V)} {k : κ} (e : ¬ p.1 = k) : valV (p :: r) k = valV r k := by simp [valV, List.find?_cons, e]
theorem valV_any (k : κ) : ∀ kvs : List (κ × V), (kvs.any fun kv => decide (kv.1 = k)) = (valV kvs k).isSome
  | [] => rfl
  | p :: r => by
    rw [List.any_cons]
    by_cases e : p.1 = k
    · simp only [valV_pos e, decide_eq_true e, Bool.true_or, Option.isSome_some]
    · rw [valV_neg e, decide_eq_false e, Bool.false_or]; exact valV_any k r
theorem length_putK (kvs : List (κ × V)) (k : κ) (v : V) : (putK kvs k v).length ≤ kvs.length + 1 := by
  unfold putK
  split
  · rw [List.length_map]; omega
  · rw [List.length_append, List.length_cons, List.length_nil]; omega
theorem putK_new {kvs : List (κ × V)} {k : κ} (v : V) (h : valV kvs k = none) : putK kvs k v = kvs ++ [(k, v)] := by
  unfold putK
  rw [valV_any, h]
  exact if_neg (by decide)
theorem RelO.isSome_eq {o : Option V} {u : Option Value} (r : RelO o u) : o.isSome = u.isSome := by
  cases o with
  | none => cases u with
    | none => rfl
    | some _ => exact (show False from r).elim
  | some _ => cases u with
    | none => exact (show False from r).elim
    | some _ => rfl
theorem RelO.getD {o : Option V} {u : Option Value} {d : V} {d' : Value} (r : RelO o u) (rd : RelV d d') : RelV (o.getD d) (u.getD d') := by
  cases o with
  | none => cases u with
    | none => exact rd
    | some _ => exact (show False from r).elim
  | some _ => cases u with
    | none => exact (show False from r).elim
    | some _ => exact r
theorem KV.val {kvs : List (κ × V)} {vs : List (κ × Value)} (r : KV kvs vs) (k : κ) : RelO (valV kvs k) (valueAt vs k) := by
  unfold KV at r
  induction r with
  | nil => exact True.intro
  | @cons p q ps qs h t ih =>
    obtain ⟨h1, h2⟩ := h
    by_cases e : p.1 = k
    · have e' : q.1 = k := h1.symm.trans e
      have b : valueAt (q :: qs) k = some q.2 := by simp [valueAt, List.find?_cons, e']
      rw [valV_pos e, b]; exact h2
    · have e' : ¬ q.1 = k := fun z => e (h1.trans z)
      have b : valueAt (q :: qs) k = valueAt qs k := by simp [valueAt, List.find?_cons, e']
      rw [valV_neg e, b]; exact ih
theorem KV.any {kvs : List (κ × V)} {vs : List (κ × Value)} (r : KV kvs vs) (k : κ) : (kvs.any fun kv => decide (kv.1 = k)) = vs.any fun kv => decide (kv.1 = k) := by
  unfold KV at r
  induction r with
  | nil => rfl
  | cons h t ih => rw [List.any_cons, List.any_cons, ih, h.1]
theorem KV.repl {kvs : List (κ × V)} {vs : List (κ × Value)} (r : KV kvs vs) (k : κ) {y : V} {u : Value} (ry : RelV y u) :
    KV (kvs.map fun kv => if kv.1 = k then (kv.1, y) else kv) (vs.map fun kv => if kv.1 = k then (kv.1, u) else kv) := by
  unfold KV at r ⊢
  induction r with
  | nil => exact .nil
  | @cons p q ps qs h t ih =>
    rw [List.map_cons, List.map_cons]
    refine .cons ?_ ih
    obtain ⟨h1, h2⟩ := h
    by_cases e : p.1 = k
    · rw [if_pos e, if_pos (h1.symm.trans e)]; exact ⟨h1, ry⟩
    · rw [if_neg e, if_neg (fun z => e (h1.trans z))]; exact ⟨h1, h2⟩
theorem KV.put {kvs : List (κ × V)} {vs : List (κ × Value)} (r : KV kvs vs) (k : κ) {y : V} {u : Value} (ry : RelV y u) : KV (putK kvs k y) (stored vs k u) := by
  unfold putK stored
  rw [r.any k]
  by_cases e : (vs.any fun kv => decide (kv.1 = k)) = true
  · rw [if_pos e, if_pos e]; exact r.repl k ry
  · rw [if_neg e, if_neg e]; exact Paired.snoc r ⟨rfl, ry⟩
theorem KV.length {kvs : List (κ × V)} {vs : List (κ × Value)} (r : KV kvs vs) : kvs.length = vs.length := Paired.length r
end
theorem kV_is {P : Program} {w : World} {k : Key} {u : Value} (r : RelV (kV k) u) : (mixKind P w).is k u = true := by
  cases k with
  | inl i => obtain ⟨t, e⟩ := (show ∃ t, u = Value.int i t from r); subst e; exact mixKind_int P w i t
  | inr x => obtain ⟨t, e⟩ := (show ∃ t, u = Value.str x t from r); subst e; exact mixKind_str P w x t
theorem items_are {P : Program} {w : World} : ∀ {ks : List Key} {us : List Value}, Vals (ks.map kV) us → ItemsAre (mixKind P w) ks us
  | [], _, r => by rw [List.map_nil] at r; cases r; exact .nil
  | k :: ks, _, r => by
    rw [List.map_cons] at r
    cases r with
    | cons h t => exact .cons (kV_is h) (items_are t)
abbrev KT (H : Hp) : List (List Key × V) → List (List Key × Addr × Value) → Prop := Paired fun p q => p.1 = q.1 ∧ H q.2.1 = some (.tup (p.1.map kV)) ∧ RelV p.2 q.2.2
theorem KT.val {H : Hp} {kvs : List (List Key × V)} {xs : List (List Key × Addr × Value)} (r : KT H kvs xs) (k : List Key) : RelO (valV kvs k) ((atKey xs k).map (·.2)) := by
  induction r with
  | nil => exact True.intro
  | @cons p q ps qs h t ih =>
    obtain ⟨h1, _, h2⟩ := h
    by_cases e : p.1 = k
    · have e' : q.1 = k := h1.symm.trans e
      have b : atKey (q :: qs) k = some q.2 := by simp [atKey, List.find?_cons, e']
      rw [valV_pos e, b]; exact h2
    · have e' : ¬ q.1 = k := fun z => e (h1.trans z)
      have b : atKey (q :: qs) k = atKey qs k := by simp [atKey, List.find?_cons, e']
      rw [valV_neg e, b]; exact ih
theorem KT.repl {H : Hp} {kvs : List (List Key × V)} {xs : List (List Key × Addr × Value)} (r : KT H kvs xs) (k : List Key) {y : V} {u : Value} (ry : RelV y u) :
    KT H (kvs.map fun kv => if kv.1 = k then (kv.1, y) else kv) (xs.map (putAt k u)) := by
  induction r with
  | nil => exact .nil
  | @cons p q ps qs h t ih =>
    rw [List.map_cons, List.map_cons]
    refine .cons ?_ ih
    obtain ⟨h1, h2, h3⟩ := h
    unfold putAt
    by_cases e : p.1 = k
    · rw [if_pos e, if_pos (h1.symm.trans e)]; exact ⟨h1, h2, ry⟩
    · rw [if_neg e, if_neg (fun z => e (h1.trans z))]; exact ⟨h1, h2, h3⟩
theorem KT.put {H : Hp} {kvs : List (List Key × V)} {xs : List (List Key × Addr × Value)} (r : KT H kvs xs) (k : List Key) {b : Addr} {y : V} {u : Value} (hb : H b = some (.tup (k.map kV))) (ry : RelV y u) :
    KT H (putK kvs k y) (storedH xs k b u) := by
  have e : (kvs.any fun kv => decide (kv.1 = k)) = (atKey xs k).isSome := by
    rw [valV_any, (r.val k).isSome_eq, Option.isSome_map]
  unfold putK storedH
  rw [e]
  by_cases q : (atKey xs k).isSome = true
  · rw [if_pos q, if_pos q]; exact r.repl k ry
  · rw [if_neg q, if_neg q]; exact Paired.snoc r ⟨rfl, hb, ry⟩
theorem KT.keeps {H H' : Hp} {kvs : List (List Key × V)} {xs : List (List Key × Addr × Value)} (r : KT H kvs xs) (ht : ∀ b ys, H b = some (.tup ys) → H' b = some (.tup ys)) : KT H' kvs xs :=
  Paired.mapP r fun _ _ z => ⟨z.1, ht _ _ z.2.1, z.2.2⟩
section
variable {P : Program} {w : World} {H : Hp} {h : Heap} {a : Addr}
theorem rd_of {u : HO} (ok : HOk P w H h) (e : Rd H a u) : ObjOk P w H h a u := e.ok ok
theorem dk_rd {kvs : List (Key × V)} (ok : HOk P w H h) (e : Rd H a (.dK kvs)) : kvs.length ≤ sizeLine ∧ (a == sysModules) = false ∧ ∃ vs, KV kvs vs ∧ h.DictOf (mixKind P w) a vs :=
  show ObjOk P w H h a (.dK kvs) from rd_of ok e
theorem dk_of {kvs : List (Key × V)} (ok : HOk P w H h) (e : H a = some (.dK kvs)) : kvs.length ≤ sizeLine ∧ (a == sysModules) = false ∧ ∃ vs, KV kvs vs ∧ h.DictOf (mixKind P w) a vs := dk_rd ok (.inl e)
theorem key_of {ks : List Key} (ok : HOk P w H h) (e : H a = some (.tup (ks.map kV))) : (tupleKind (mixKind P w)).is h ks a := by
  obtain ⟨_, its, r, o, h1, h2, n, h3⟩ := (show ObjOk P w H h a (.tup (ks.map kV)) from ok a _ e)
  exact ⟨o, its.toArray, n, h1, h2, h3, by simpa using items_are r⟩
theorem dt_rd {kvs : List (List Key × V)} (ok : HOk P w H h) (e : Rd H a (.dT kvs)) : kvs.length ≤ sizeLine ∧ (a == sysModules) = false ∧
    ∃ xs, KT H kvs xs ∧ h.DictOfH (tupleKind (mixKind P w)) a xs := by
  obtain ⟨z, y, xs, r, o, es, ep, h1, h2, h3, h4, h5⟩ := (show ObjOk P w H h a (.dT kvs) from rd_of ok e)
  refine ⟨z, y, xs, r, o, es, ep, h1, h2, h3, h4, fun x hx => ?_, h5⟩
  have all : ∀ {l : List (List Key × V)} {m : List (List Key × Addr × Value)}, KT H l m → ∀ x ∈ m, (tupleKind (mixKind P w)).is h x.1 x.2.1 := by
    intro l m q
    induction q with
    | nil => intro x hx; exact nomatch hx
    | @cons p q ps qs hq t ih =>
      intro x hx
      rcases List.mem_cons.mp hx with e | hx
      · subst e
        exact key_of ok (by rw [← hq.1]; exact hq.2.1)
      · exact ih x hx
  exact all r x hx
theorem dt_of {kvs : List (List Key × V)} (ok : HOk P w H h) (e : H a = some (.dT kvs)) : kvs.length ≤ sizeLine ∧ (a == sysModules) = false ∧
    ∃ xs, KT H kvs xs ∧ h.DictOfH (tupleKind (mixKind P w)) a xs := dt_rd ok (.inl e)
end
def DGet (H : Hp) (a : Addr) (y : V) (r : Option V) : Prop :=
  (∃ kvs k, Rd H a (.dK kvs) ∧ y = kV k ∧ r = valV kvs k) ∨ ∃ kvs k b, Rd H a (.dT kvs) ∧ y = .ref b ∧ H b = some (.tup (k.map kV)) ∧ r = valV kvs k
def DPut (H : Hp) (a : Addr) (y v : V) (H' : Hp) : Prop :=
  (∃ kvs k, H a = some (.dK kvs) ∧ y = kV k ∧ kvs.length < sizeLine ∧ H' = upd H a (.dK (putK kvs k v))) ∨
  ∃ kvs k b, H a = some (.dT kvs) ∧ y = .ref b ∧ H b = some (.tup (k.map kV)) ∧ kvs.length < sizeLine ∧ H' = upd H a (.dT (putK kvs k v))
theorem DGet.k {H : Hp} {a : Addr} {kvs : List (Key × V)} {k : Key} (e : H a = some (.dK kvs)) : DGet H a (kV k) (valV kvs k) := .inl ⟨kvs, k, .inl e, rfl, rfl⟩
theorem DPut.k {H : Hp} {a : Addr} {kvs : List (Key × V)} {k : Key} {v : V} (e : H a = some (.dK kvs)) (hl : kvs.length < sizeLine) : DPut H a (kV k) v (upd H a (.dK (putK kvs k v))) := .inl ⟨kvs, k, e, rfl, hl, rfl⟩
section
variable {X : Cx} {pins : List (Addr × Obj)} {σ : St} {H : Hp} {s : Shared} {a : Addr} {y v : V} {u r : Value} {o : Option V} {A : Around} {E : Value → Shared → Prop}
theorem Inv.big (I : Inv X pins σ H s) : sysModules < s.heap.objs.size := by
  have h : mainGlobals < s.heap.objs.size := (I.mod.glob.keeps I.bk).lt
  exact Nat.lt_trans (by decide) h
theorem d_getItem {Q : Value → Shared → Prop} (hu : A.units + 1 < cLine) (I : Inv X pins σ H s) (g : DGet H a y (some v)) (ry : RelV y u) (h : ∀ w' s', Inv X pins σ H s' → RelV v w' → Q w' s') :
    wpAny (model X.prog X.w) A (getItem (.ref a) u) Q E s := by
  rcases g with ⟨kvs, k, e, ey, l⟩ | ⟨kvs, k, b, e, ey, eb, l⟩
  · subst ey
    obtain ⟨z, hd, vs, rel, dd⟩ := dk_rd I.hok e
    obtain ⟨w', hw, rw'⟩ := RelO.some_of (v := v) (o := valueAt vs k) (by rw [l]; exact rel.val k)
    exact wpAny_getItem_of (kV_is ry) dd.mapOf hw (h w' _ (I.tok _) rw')
  · subst ey
    cases (show u = Value.ref b from ry)
    obtain ⟨z, hd, xs, rel, dd⟩ := dt_rd I.hok e
    obtain ⟨w', hw, rw'⟩ := RelO.some_of (v := v) (o := (atKey xs k).map (·.2)) (by rw [l]; exact rel.val k)
    obtain ⟨p, hp, hp2⟩ := Option.map_eq_some_iff.mp hw
    refine wpAny_getItem_heap (tupleKind_room_in1 hu) (key_of I.hok eb) dd hp ?_
    rw [hp2]
    exact h w' _ (I.tok _) rw'
theorem d_write {h' : Heap} {t' : Nat} {ob : HO} (I : Inv X pins σ H s) (mu : Mut (H a)) (hs : Heap.SameBut a s.heap h') (he : ∃ q, h'.get? a = some q) (new : ObjOk X.prog X.w (upd H a ob) h' a ob) :
    Inv X pins σ (upd H a ob) { s with heap := h', toks := t' } :=
  I.write (x := a) (e := a) mu (.inl rfl) (fun b q hb z => (hs.2 b hb).trans z) he new
theorem dk_new {P : Program} {w : World} {H' : Hp} {h' : Heap} {kvs : List (Key × V)} {vs : List (Key × Value)} (z : kvs.length ≤ sizeLine) (hd : (a == sysModules) = false) (rel : KV kvs vs) (dd : h'.DictOf (mixKind P w) a vs) :
    ObjOk P w H' h' a (.dK kvs) := ⟨z, hd, vs, rel, dd⟩
theorem d_setItem {H' : Hp} {Q : Unit → Shared → Prop} (hu : A.units + 1 < cLine) (I : Inv X pins σ H s) (g : DPut H a y v H') (ry : RelV y u) (rv : RelV v r) (h : ∀ s', Inv X pins σ H' s' → Q () s') :
    wpAny (model X.prog X.w) A (setItem (.ref a) u r) Q E s := by
  rcases g with ⟨kvs, k, e, ey, l, eH⟩ | ⟨kvs, k, b, e, ey, eb, l, eH⟩
  · subst ey eH
    obtain ⟨z, hd, vs, rel, dd⟩ := dk_of I.hok e
    have hz : vs.length ≤ sizeLine := by rw [← rel.length]; exact z
    have hl : (putK kvs k v).length ≤ sizeLine := by have := length_putK kvs k v; omega
    refine wpAny_setItem_pairs (hsz := hz) (kV_is ry) dd fun h' dd' hs => h _ ?_
    have he : ∃ q, h'.get? a = some q := let ⟨q, _, _, hq, _⟩ := dd'; ⟨q, hq⟩
    exact d_write I (by rw [e]; exact True.intro) hs he (dk_new hl hd (rel.put k rv) dd')
  · subst ey eH
    cases (show u = Value.ref b from ry)
    obtain ⟨z, hd, xs, rel, dd⟩ := dt_of I.hok e
    have hz : xs.length ≤ sizeLine := by rw [← Paired.length rel]; exact z
    have hl : (putK kvs k v).length ≤ sizeLine := by have := length_putK kvs k v; omega
    refine wpAny_setItem_heap (hsz := hz) (tupleKind_room_in1 hu) (key_of I.hok eb) dd fun h' dd' hs => h _ ?_
    obtain ⟨q, es, ep, hq, h2, h3, h4, _, h5⟩ := dd'
    refine d_write I (by rw [e]; exact True.intro) hs ⟨q, hq⟩ ⟨hl, hd, _, (rel.put k eb rv).keeps fun c ys ec => ?_, q, es, ep, hq, h2, h3, h4, h5⟩
    rw [upd_ne (ne_of ec e (fun z => nomatch z))]
    exact ec
end
section
variable {X : Cx} {pins : List (Addr × Obj)} {σ : St} {H : Hp} {s : Shared} {a : Addr} {kvs : List (Key × V)} {k : Key} {u : Value} {A : Around} {E : Value → Shared → Prop}
end
def NoSl (i : Expr) : Prop := ∀ ov iv, subscripted i false ov iv = operate [ov, iv] (getItem ov iv)
theorem subD_of {prog : Program} {w : World} {A : Around} {E : Value → Shared → Prop} {s : Shared} {env : Env} {value slice : Expr} {pos : Pos} {T id : String} {Q : Value → Shared → Prop}
    (hl : typeLookup (.type T) "__getitem__" = pure (some (.builtin id))) (hs : NoSl slice)
    (h : wpAny (model prog w) A (eval value env) (fun o s₁ => wpAny (model prog w) A (eval slice env) (fun i s₂ => s₂.TypeIs o T ∧ wpAny (model prog w) A (getItem o i) Q E s₂) E s₁) E s) :
    wpAny (model prog w) A (eval (.Subscript value slice pos) env) Q E s := by
  refine Subscript_ (wpAny_mono h (fun o s₁ h₁ => wpAny_mono h₁ (fun i s₂ h₂ => ?_) fun _ _ x => x) fun _ _ x => x)
  obtain ⟨hT, h₂⟩ := h₂
  unfold subscriptTail
  refine wpAny_bind ?_
  rw [getitemInPython_of_ne hT.not_modules]
  refine wpAny_bind (wpAny_specialOf hT hl ?_)
  have fin : wpAny (model prog w) A (subscripted slice false o i) (fun r s₃ => wpAny (model prog w) A (letTemporaryGo value o r >>= fun _ => pure r) Q E s₃) E s₂ := by
    rw [hs o i]
    exact wpAny_operating (wpAny_mono h₂ (fun r s₃ h₃ => wpAny_bind (wpAny_letTemporaryGo (wpAny_pure h₃))) fun _ _ x => x)
  first
    | exact wpAny_pure (wpAny_bind fin)
    | exact wpAny_bind (wpAny_pure (wpAny_bind fin))
    | exact wpAny_bind fin
theorem dict_typeIs {X : Cx} {pins : List (Addr × Obj)} {σ : St} {H : Hp} {s : Shared} {a : Addr} {y : V} {o : Option V} (I : Inv X pins σ H s) (g : DGet H a y o) : s.TypeIs (.ref a) "dict" := by
  rcases g with ⟨kvs, k, e, _, _⟩ | ⟨kvs, k, b, e, _, _, _⟩
  · obtain ⟨_, _, vs, _, dd⟩ := dk_rd I.hok e
    exact dd.typeIs
  · obtain ⟨_, _, xs, _, dd⟩ := dt_rd I.hok e
    exact dd.typeIs
def tDGet (td ty : TE) : TE := fun σ H Q => td σ H fun x H1 => ty σ H1 fun y H2 => ∃ a v, x = .ref a ∧ DGet H2 a y (some v) ∧ Q v H2
def sDPut (td ty tv : TE) : TS := fun D σ H => tv σ H fun v H1 => td σ H1 fun x H2 => ty σ H2 fun y H3 => ∃ a H4, x = .ref a ∧ DPut H3 a y v H4 ∧ D.nx σ H4
section
variable {X : Cx} {o i e value : Expr} {pos pos' tpos : Pos} {td ty tv : TE}
theorem pe_dget (hu : X.A.units + 1 < cLine) (ho : PE X o td) (hi : PE X i ty) (hs : NoSl i) : PE X (.Subscript o i pos) (tDGet td ty) := by
  intro pins s σ H Q I h
  refine subD_of PySem.F.slot_dict_getitem.lookup hs (thn (ho pins s σ H _ I h) fun u s1 ⟨x, H1, I1, rx, q1⟩ => thn (hi pins s1 σ H1 _ I1 q1) fun iv s2 ⟨y, H2, I2, ry, a, v, ex, g, q2⟩ => ?_)
  subst ex
  obtain rfl : u = Value.ref a := rx
  exact ⟨dict_typeIs I2 g, d_getItem hu I2 g ry fun w' s3 I3 rw' => ⟨v, H2, I3, rw', q2⟩⟩
theorem ps_dput (hu : X.A.units + 1 < cLine) (ho : PE X o td) (hi : PE X i ty) (hv : PE X value tv) (hs : swapsWith value (some (.Subscript o i pos')) pos.line X.env = pure false) :
    PS X (.Assign [.Subscript o i pos'] value pos) (sDPut td ty tv) := by
  intro pins s σ H D I h
  refine wpAny_Assign_Subscript (thn (hv pins s σ H _ I h) fun r s1 ⟨v, H1, I1, rv, q1⟩ => thn (ho pins s1 σ H1 _ I1 q1) fun u s2 ⟨x, H2, I2, rx, q2⟩ => thn (hi pins s2 σ H2 _ I2 q2) fun iv s3 ⟨y, H3, I3, ry, a, H4, ex, g, q3⟩ => ?_) hs
  subst ex
  obtain rfl : u = Value.ref a := rx
  exact d_setItem hu I3 g ry rv fun s4 I4 => ⟨σ, H4, I4, q3⟩
end
theorem dk_empty {P : Program} {w : World} {H : Hp} (h : Heap) (hb : sysModules < h.objs.size) : ObjOk P w H (h.push { cls := .type "dict", data := .dict #[] }) h.objs.size (.dK []) :=
  ⟨Nat.zero_le _, beq_eq_false_iff_ne.mpr (Ne.symm (Nat.ne_of_lt hb)), [], .nil, Heap.DictOf.new h⟩
def tDNewK : TE := fun _ H Q => ∀ p, H p = none → Q (.ref p) (upd H p (.dK []))
section
variable {X : Cx} {pos : Pos}
theorem pe_dnewK : PE X (.Dict [] [] pos) tDNewK := fun pins s σ H Q I h =>
  wpAny_Dict_empty ⟨.ref s.heap.objs.size, _, I.laid (a := s.heap.objs.size) (o := .dK []) (t' := s.toks) (fun _ _ q => Heap.get?_push_of_some _ q) (Nat.le_refl _) (dk_empty s.heap I.big), rfl, h _ (I.hok.fresh (Nat.le_refl _))⟩
end
def tPairs : List (TE × TE) → St → Hp → (List (V × V) → Hp → Prop) → Prop
  | [], _, H, Q => Q [] H
  | (tk, tv) :: r, σ, H, Q => tk σ H fun x H1 => tv σ H1 fun y H2 => tPairs r σ H2 fun ps H3 => Q ((x, y) :: ps) H3
abbrev VV : List (V × V) → List (Value × Value) → Prop := Paired fun p q => RelV p.1 q.1 ∧ RelV p.2 q.2
def PPs (X : Cx) (pos : Pos) (keys : List (Option Expr)) (values : List Expr) (trs : List (TE × TE)) : Prop :=
  ∀ (pins : List (Addr × Obj)) (s : Shared) (σ : St) (H : Hp) (Q : List (V × V) → Hp → Prop), Inv X pins σ H s → tPairs trs σ H Q →
    wpAny (model X.prog X.w) X.A (evalPairs (pairTrees keys values X.env pos)) (fun vs s' => ∃ ps H', Inv X pins σ H' s' ∧ VV ps vs ∧ Q ps H') X.xe s
theorem pps_nil {X : Cx} {pos : Pos} : PPs X pos [] [] [] := fun pins s σ H Q I h => pairTrees_nil_walk ⟨[], H, I, .nil, h⟩
theorem pps_cons {X : Cx} {pos : Pos} {k v : Expr} {ks : List (Option Expr)} {vs : List Expr} {tk tv : TE} {trs : List (TE × TE)} (hk : PE X k tk) (hv : PE X v tv) (hr : PPs X pos ks vs trs) :
    PPs X pos (some k :: ks) (v :: vs) ((tk, tv) :: trs) := fun pins s σ H Q I h =>
  pairTrees_cons_walk (thn (hk pins s σ H _ I h) fun u s1 ⟨x, H1, I1, rx, q1⟩ => thn (hv pins s1 σ H1 _ I1 q1) fun w2 s2 ⟨y, H2, I2, ry, q2⟩ =>
    thn (hr pins s2 σ H2 _ I2 q2) fun ws s3 ⟨ps, H3, I3, rel, q3⟩ => ⟨(x, y) :: ps, H3, I3, .cons ⟨rx, ry⟩ rel, q3⟩)
def mergeK (kvs more : List (Key × V)) : List (Key × V) := more.foldl (fun acc kv => putK acc kv.1 kv.2) kvs
theorem KV.merge : ∀ {more : List (Key × V)} {rs : List (Key × Value)} {kvs : List (Key × V)} {vs : List (Key × Value)}, KV more rs → KV kvs vs → KV (mergeK kvs more) (merged vs rs) := by
  intro more rs kvs vs r
  unfold KV at r
  induction r generalizing kvs vs with
  | nil => intro q; exact q
  | @cons p q ps qs h t ih =>
    intro r0
    have e : KV (putK kvs p.1 p.2) (stored vs q.1 q.2) := by
      have := r0.put p.1 h.2
      rw [← h.1]; exact this
    exact ih e
theorem length_mergeK : ∀ (more kvs : List (Key × V)), (mergeK kvs more).length ≤ kvs.length + more.length
  | [], kvs => by show kvs.length ≤ kvs.length + 0; omega
  | p :: r, kvs => by
    have h1 := length_mergeK r (putK kvs p.1 p.2)
    have h2 := length_putK kvs p.1 p.2
    show (mergeK (putK kvs p.1 p.2) r).length ≤ _
    rw [List.length_cons]; omega
theorem carries_of {P : Program} {w : World} : ∀ {kvs : List (Key × V)} {ws : List (Value × Value)}, VV (kvs.map fun kv => (kV kv.1, kv.2)) ws → ∃ rs, Carries (mixKind P w) ws rs ∧ KV kvs rs
  | [], _, r => by rw [List.map_nil] at r; cases r; exact ⟨[], True.intro, .nil⟩
  | p :: kvs, _, r => by
    rw [List.map_cons] at r
    cases r with
    | @cons a b as bs h t =>
      obtain ⟨rs, c, q⟩ := carries_of (P := P) (w := w) t
      obtain ⟨b1, b2⟩ := b
      exact ⟨(p.1, b2) :: rs, ⟨kV_is h.1, rfl, c⟩, .cons ⟨rfl, h.2⟩ q⟩
def tDisp (trs : List (TE × TE)) : TE := fun σ H Q => ∀ p, H p = none → tPairs trs σ (upd H p (.dK [])) fun ps H2 => H2 p = some (.dK []) ∧ ∃ kvs : List (Key × V), ps = kvs.map (fun kv => (kV kv.1, kv.2)) ∧ kvs.length ≤ 15 ∧ Q (.ref p) (upd H2 p (.dK (mergeK [] kvs)))
theorem pe_disp {X : Cx} {pos : Pos} {keys : List (Option Expr)} {values : List Expr} {trs : List (TE × TE)} (h : PPs X pos keys values trs) (hall : keys.all (·.isSome) = true) (hl : keys.length = values.length) (h0 : keys ≠ [])
    (h15 : keys.length ≤ 15) : PE X (.Dict keys values pos) (tDisp trs) := by
  intro pins s σ H Q I q
  have hn := I.hok.fresh (Nat.le_refl s.heap.objs.size)
  have I1 := I.laid (a := s.heap.objs.size) (o := .dK []) (h' := s.heap.push { cls := .type "dict", data := .dict #[] }) (t' := s.toks) (fun _ _ q => Heap.get?_push_of_some _ q) (Nat.le_refl _) (dk_empty s.heap I.big)
  refine wpAny_Dict_walk (knd := mixKind X.prog X.w) hall hl h0 h15 (thn (h pins _ σ _ _ I1 (q _ hn)) fun ws s2 ⟨ps, H2, I2, rel, e, kvs, ep, lk, q2⟩ => ?_)
  subst ep
  obtain ⟨rs, c, rk⟩ := carries_of (P := X.prog) (w := X.w) rel
  obtain ⟨z, hd, vs0, r0, dd⟩ := dk_of I2.hok e
  cases r0
  refine ⟨rs, c, dd, fun h' dd' hs => ⟨.ref s.heap.objs.size, _, ?_, rfl, q2⟩⟩
  have hz : (mergeK [] kvs).length ≤ sizeLine := by
    have h1 := length_mergeK kvs []
    rw [List.length_nil] at h1
    rw [sizeLine_eq]; omega
  have he : ∃ q, h'.get? s.heap.objs.size = some q := let ⟨q, _, _, hq, _⟩ := dd'; ⟨q, hq⟩
  exact d_write I2 (by rw [e]; exact True.intro) hs he (dk_new hz hd (rk.merge .nil) dd')
structure M1 (X : Cx) (o : Expr) (m : Str) (apos : Pos) (e : Expr) (cpos : Pos) : Prop where
  base : attributeBase o m X.env (eval o X.env) = eval o X.env
  few : ((backTo cpos (starEach [e] X.env)).all (fun x => !x.1) && (backToKw cpos (keywordEach [] X.env)).all (fun x => x.1.isSome)
    && decide (([e] : List Expr).length + ([] : List Keyword).length + (if ([] : List Keyword).isEmpty then 0 else 1) < 30)) = true
  line : (apos.endLine == cpos.line) = true
  trees : backTo cpos (starEach [e] X.env) = [(false, eval e X.env)]
structure M2 (X : Cx) (o : Expr) (m : Str) (apos : Pos) (e f : Expr) (cpos : Pos) : Prop where
  base : attributeBase o m X.env (eval o X.env) = eval o X.env
  few : ((backTo cpos (starEach [e, f] X.env)).all (fun x => !x.1) && (backToKw cpos (keywordEach [] X.env)).all (fun x => x.1.isSome)
    && decide (([e, f] : List Expr).length + ([] : List Keyword).length + (if ([] : List Keyword).isEmpty then 0 else 1) < 30)) = true
  line : (apos.endLine == cpos.line) = true
  trees : backTo cpos (starEach [e, f] X.env) = [(false, eval e X.env), (false, eval f X.env)]
def IsD (H : Hp) (a : Addr) : Prop := (∃ kvs, Rd H a (.dK kvs)) ∨ ∃ kvs, Rd H a (.dT kvs)
theorem isD_at {X : Cx} {pins : List (Addr × Obj)} {σ : St} {H : Hp} {s : Shared} {a : Addr} (I : Inv X pins σ H s) (d : IsD H a) :
    s.TypeIs (.ref a) "dict" ∧ (∀ b, Value.ref a = .ref b → ∃ ob, s.heap.get? b = some ob ∧ ob.dict = none) ∧ (a == sysModules) = false := by
  rcases d with ⟨kvs, e⟩ | ⟨kvs, e⟩
  · obtain ⟨_, hd, vs, _, dd⟩ := dk_rd I.hok e
    refine ⟨dd.typeIs, fun b q => ?_, hd⟩
    cases q
    obtain ⟨ob, _, _, h1, h2, _⟩ := dd
    exact ⟨ob, h1, h2.2.1⟩
  · obtain ⟨_, hd, xs, _, dd⟩ := dt_rd I.hok e
    refine ⟨dd.typeIs, fun b q => ?_, hd⟩
    cases q
    obtain ⟨ob, _, _, h1, h2, _⟩ := dd
    exact ⟨ob, h1, h2.2.1⟩
section
variable {X : Cx} {pins : List (Addr × Obj)} {σ : St} {H : Hp} {s : Shared} {a : Addr} {y d : V} {u r : Value} {o : Option V} {A : Around} {E : Value → Shared → Prop}
theorem d_get1 {Q : Value → Shared → Prop} (hu : A.units + 1 < cLine) (I : Inv X pins σ H s) (g : DGet H a y o) (ry : RelV y u) (h : ∀ w' s', Inv X pins σ H s' → RelV (o.getD .non) w' → Q w' s') :
    wpAny (model X.prog X.w) A (call (.builtin "dict.get") [.ref a, u]) Q E s := by
  rcases g with ⟨kvs, k, e, ey, l⟩ | ⟨kvs, k, b, e, ey, eb, l⟩
  · subst ey
    obtain ⟨z, hd, vs, rel, dd⟩ := dk_rd I.hok e
    refine call_meetsIn PySem.F.slot_dict_get dd.typeIs PySem.F.entry_dict_get (PySem.F.args_dict_get_2 _ _) (meets_dict_get (mixKind X.prog X.w) a (kV_is ry) hd) ⟨_, dd.mapOf, h _ _ (I.tok _) ?_⟩
    rw [l]
    exact (rel.val k).getD rfl
  · subst ey
    cases (show u = Value.ref b from ry)
    obtain ⟨z, hd, xs, rel, dd⟩ := dt_rd I.hok e
    refine call_meetsIn PySem.F.slot_dict_get dd.typeIs PySem.F.entry_dict_get (PySem.F.args_dict_get_2 _ _) (meetsH_dict_get (tupleKind (mixKind X.prog X.w)) a b hd) ⟨tupleKind_room_in1 hu, k, xs, key_of I.hok eb, dd, h _ _ (I.tok _) ?_⟩
    rw [l]
    exact (rel.val k).getD rfl
theorem d_get2 {Q : Value → Shared → Prop} (hu : A.units + 1 < cLine) (I : Inv X pins σ H s) (g : DGet H a y o) (ry : RelV y u) (rd : RelV d r) (h : ∀ w' s', Inv X pins σ H s' → RelV (o.getD d) w' → Q w' s') :
    wpAny (model X.prog X.w) A (call (.builtin "dict.get") [.ref a, u, r]) Q E s := by
  rcases g with ⟨kvs, k, e, ey, l⟩ | ⟨kvs, k, b, e, ey, eb, l⟩
  · subst ey
    obtain ⟨z, hd, vs, rel, dd⟩ := dk_rd I.hok e
    refine call_meetsIn PySem.F.slot_dict_get dd.typeIs PySem.F.entry_dict_get (PySem.F.args_dict_get_3 _ _ _) (meets_dict_get_default (mixKind X.prog X.w) a (kV_is ry) hd r) ⟨_, dd.mapOf, h _ _ (I.tok _) ?_⟩
    rw [l]
    exact (rel.val k).getD rd
  · subst ey
    cases (show u = Value.ref b from ry)
    obtain ⟨z, hd, xs, rel, dd⟩ := dt_rd I.hok e
    refine call_meetsIn PySem.F.slot_dict_get dd.typeIs PySem.F.entry_dict_get (PySem.F.args_dict_get_3 _ _ _) (meetsH_dict_get_default (tupleKind (mixKind X.prog X.w)) a b hd r) ⟨tupleKind_room_in1 hu, k, xs, key_of I.hok eb, dd, h _ _ (I.tok _) ?_⟩
    rw [l]
    exact (rel.val k).getD rd
end
def tDGet1 (td ty : TE) : TE := fun σ H Q => td σ H fun x H1 => ∃ a, x = .ref a ∧ IsD H1 a ∧ ty σ H1 fun y H2 => ∃ o, DGet H2 a y o ∧ Q (o.getD .non) H2
def tDGet2 (td ty tx : TE) : TE := fun σ H Q => td σ H fun x H1 => ∃ a, x = .ref a ∧ IsD H1 a ∧ ty σ H1 fun y H2 => tx σ H2 fun z H3 => ∃ o, DGet H3 a y o ∧ Q (o.getD z) H3
section
variable {X : Cx} {o e f : Expr} {apos cpos : Pos} {td ty tx : TE}
theorem pe_dget1 (hu : X.A.units + 1 < cLine) (ho : PE X o td) (he : PE X e ty) (m : M1 X o "get" apos e cpos) : PE X (.Call (.Attribute o "get" apos) [e] [] cpos) (tDGet1 td ty) := by
  intro pins s σ H Q I h
  refine wpAny_Call_method m.base m.few m.line PySem.F.plainAttrs_dict PySem.F.slot_dict_get PySem.F.type_dict_get (thn (ho pins s σ H _ I h) fun u s1 ⟨x, H1, I1, rx, a, ex, d, q1⟩ => ?_)
  subst ex
  obtain rfl : u = Value.ref a := rx
  obtain ⟨t1, t2, _⟩ := isD_at I1 d
  refine ⟨t1, t2, ?_⟩
  rw [m.trees]
  refine Calls.callWith_builtin rfl (Calls.evalArgs_plain (Calls.spliced_cons (thn (he pins s1 σ H1 _ I1 q1) fun iv s2 ⟨y, H2, I2, ry, ov, g, q2⟩ => Calls.spliced_nil ?_)))
  exact d_get1 hu I2 g ry fun w' s3 I3 rw' => ⟨_, H2, I3, rw', q2⟩
theorem pe_dget2 (hu : X.A.units + 1 < cLine) (ho : PE X o td) (he : PE X e ty) (hf : PE X f tx) (m : M2 X o "get" apos e f cpos) : PE X (.Call (.Attribute o "get" apos) [e, f] [] cpos) (tDGet2 td ty tx) := by
  intro pins s σ H Q I h
  refine wpAny_Call_method m.base m.few m.line PySem.F.plainAttrs_dict PySem.F.slot_dict_get PySem.F.type_dict_get (thn (ho pins s σ H _ I h) fun u s1 ⟨x, H1, I1, rx, a, ex, d, q1⟩ => ?_)
  subst ex
  obtain rfl : u = Value.ref a := rx
  obtain ⟨t1, t2, _⟩ := isD_at I1 d
  refine ⟨t1, t2, ?_⟩
  rw [m.trees]
  refine Calls.callWith_builtin rfl (Calls.evalArgs_plain (Calls.spliced_cons (thn (he pins s1 σ H1 _ I1 q1) fun iv s2 ⟨y, H2, I2, ry, q2⟩ =>
    Calls.spliced_cons (thn (hf pins s2 σ H2 _ I2 q2) fun fv s3 ⟨z, H3, I3, rz, ov, g, q3⟩ => Calls.spliced_nil ?_))))
  exact d_get2 hu I3 g ry rz fun w' s4 I4 rw' => ⟨_, H3, I4, rw', q3⟩
end
section
variable {X : Cx} {pins : List (Addr × Obj)} {σ : St} {H : Hp} {s : Shared} {a : Addr} {kvs : List (Key × V)} {A : Around} {E : Value → Shared → Prop}
end
section
variable {X : Cx} {pins : List (Addr × Obj)} {σ : St} {H : Hp} {s : Shared} {a : Addr} {y : V} {u : Value} {A : Around} {E : Value → Shared → Prop}
end
end L2
namespace L2
def bT (ns : List (List Nat)) : List (Key × V) := ns.map fun z => ((Sum.inr (S z) : Key), V.bl true)
def addN (ns : List (List Nat)) (z : List Nat) : List (List Nat) := if z ∈ ns then ns else ns ++ [z]
def begS (ns : List (List Nat)) (s : List Nat) (k : Nat) : List (List Nat) := (List.range k).foldl (fun ns j => addN ns (s.take (j + 1))) ns
def begA (ns : List (List Nat)) (xs : List Pat) : List (List Nat) := xs.foldl (fun ns x => begS ns x.1 x.1.length) ns
def begs (xs : List Pat) : List (List Nat) := begA [[]] xs
theorem kS_inj {a b : List Nat} (h : (Sum.inr (S a) : Key) = Sum.inr (S b)) : a = b := by
  injection h with h
  exact S_inj h
theorem bT_any (ns : List (List Nat)) (z : List Nat) : ((bT ns).any fun kv => decide (kv.1 = (Sum.inr (S z) : Key))) = decide (z ∈ ns) := by
  unfold bT
  rw [List.any_map, Bool.eq_iff_iff, List.any_eq_true, decide_eq_true_iff]
  constructor
  · rintro ⟨y, hy, e⟩
    have := kS_inj (of_decide_eq_true e)
    rw [← this]; exact hy
  · intro hz
    exact ⟨z, hz, decide_eq_true rfl⟩
theorem bT_put (ns : List (List Nat)) (z : List Nat) : putK (bT ns) (Sum.inr (S z)) (.bl true) = bT (addN ns z) := by
  unfold putK addN
  rw [bT_any]
  by_cases h : z ∈ ns
  · rw [if_pos (decide_eq_true h), if_pos h]
    unfold bT
    rw [List.map_map]
    apply List.map_congr_left
    intro y _
    show (if (Sum.inr (S y) : Key) = Sum.inr (S z) then ((Sum.inr (S y) : Key), V.bl true) else ((Sum.inr (S y) : Key), V.bl true)) = _
    rw [ite_self]
  · rw [if_neg (by rw [decide_eq_false h]; exact Bool.false_ne_true), if_neg h]
    unfold bT
    rw [List.map_append]; rfl
theorem mem_addN {ns : List (List Nat)} {z y : List Nat} : y ∈ addN ns z ↔ y ∈ ns ∨ y = z := by
  unfold addN
  split
  · rename_i h
    exact ⟨.inl, fun q => q.elim id fun q => q ▸ h⟩
  · rw [List.mem_append, List.mem_singleton]
theorem nodup_addN {ns : List (List Nat)} {z : List Nat} (h : ns.Nodup) : (addN ns z).Nodup := by
  unfold addN
  split
  · exact h
  · rename_i hz
    rw [List.nodup_append]
    refine ⟨h, by simp, fun a ha b hb => ?_⟩
    have : b = z := by simpa using hb
    rintro rfl
    exact hz (this ▸ ha)
theorem len_addN (ns : List (List Nat)) (z : List Nat) : (addN ns z).length ≤ ns.length + 1 := by
  unfold addN
  split
  · omega
  · simp
theorem begS_succ (ns : List (List Nat)) (s : List Nat) (k : Nat) : begS ns s (k + 1) = addN (begS ns s k) (s.take (k + 1)) := by
  unfold begS; rw [List.range_succ, List.foldl_append]; rfl
theorem mem_begS {ns : List (List Nat)} {s y : List Nat} : ∀ {k : Nat}, y ∈ begS ns s k ↔ y ∈ ns ∨ ∃ e, 1 ≤ e ∧ e ≤ k ∧ y = s.take e
  | 0 => by
    show y ∈ ns ↔ _
    exact ⟨.inl, fun q => q.elim id fun ⟨e, a, b, _⟩ => by omega⟩
  | k + 1 => by
    rw [begS_succ, mem_addN, mem_begS]
    constructor
    · rintro ((h | ⟨e, a, b, c⟩) | h)
      · exact .inl h
      · exact .inr ⟨e, a, by omega, c⟩
      · exact .inr ⟨k + 1, by omega, by omega, h⟩
    · rintro (h | ⟨e, a, b, c⟩)
      · exact .inl (.inl h)
      · by_cases z : e = k + 1
        · exact .inr (z ▸ c)
        · exact .inl (.inr ⟨e, a, by omega, c⟩)
theorem nodup_begS {ns : List (List Nat)} {s : List Nat} (h : ns.Nodup) : ∀ {k : Nat}, (begS ns s k).Nodup
  | 0 => h
  | k + 1 => by rw [begS_succ]; exact nodup_addN (nodup_begS h)
theorem len_begS (ns : List (List Nat)) (s : List Nat) : ∀ k : Nat, (begS ns s k).length ≤ ns.length + k
  | 0 => Nat.le_refl _
  | k + 1 => by
    rw [begS_succ]
    have := len_addN (begS ns s k) (s.take (k + 1))
    have := len_begS ns s k
    omega
theorem begA_snoc (ns : List (List Nat)) (xs : List Pat) (x : Pat) : begA ns (xs ++ [x]) = begS (begA ns xs) x.1 x.1.length := by
  unfold begA; rw [List.foldl_append]; rfl
theorem mem_begA {y : List Nat} : ∀ {xs : List Pat} {ns : List (List Nat)}, y ∈ begA ns xs ↔ y ∈ ns ∨ ∃ x ∈ xs, ∃ e, 1 ≤ e ∧ e ≤ x.1.length ∧ y = x.1.take e
  | [], ns => by
    show y ∈ ns ↔ _
    exact ⟨.inl, fun q => q.elim id fun ⟨x, hx, _⟩ => nomatch hx⟩
  | x :: xs, ns => by
    show y ∈ begA (begS ns x.1 x.1.length) xs ↔ _
    rw [mem_begA, mem_begS]
    constructor
    · rintro ((h | h) | ⟨z, hz, h⟩)
      · exact .inl h
      · exact .inr ⟨x, List.mem_cons_self, h⟩
      · exact .inr ⟨z, List.mem_cons_of_mem _ hz, h⟩
    · rintro (h | ⟨z, hz, h⟩)
      · exact .inl (.inl h)
      · rcases List.mem_cons.mp hz with rfl | hz
        · exact .inl (.inr h)
        · exact .inr ⟨z, hz, h⟩
theorem nodup_begA : ∀ {xs : List Pat} {ns : List (List Nat)}, ns.Nodup → (begA ns xs).Nodup
  | [], _, h => h
  | x :: xs, ns, h => nodup_begA (xs := xs) (nodup_begS h)
theorem mem_begs {xs : List Pat} {y : List Nat} : y ∈ begs xs ↔ y = [] ∨ ∃ x ∈ xs, ∃ e, 1 ≤ e ∧ e ≤ x.1.length ∧ y = x.1.take e := by
  unfold begs; rw [mem_begA, List.mem_singleton]
theorem nodup_begs (xs : List Pat) : (begs xs).Nodup := nodup_begA (by simp)
theorem len_begA {c : Nat} : ∀ (xs : List Pat) (ns : List (List Nat)), (∀ x ∈ xs, x.1.length ≤ c) → (begA ns xs).length ≤ ns.length + xs.length * c
  | [], ns, _ => by show ns.length ≤ _; simp
  | x :: xs, ns, h => by
    have h1 := len_begA xs (begS ns x.1 x.1.length) fun y hy => h y (List.mem_cons_of_mem _ hy)
    have h2 := len_begS ns x.1 x.1.length
    have h3 := h x List.mem_cons_self
    show (begA (begS ns x.1 x.1.length) xs).length ≤ _
    rw [List.length_cons, Nat.succ_mul]
    omega
end L2
namespace L2
def NT (H : Hp) : List (Key × V) → List Pat → Prop
  | [], [] => True
  | kv :: kvs, g :: gs => kv.1 = Sum.inr (S g.1) ∧ (∃ t, kv.2 = .ref t ∧ H t = some (.tup (g.2.map V.int))) ∧ NT H kvs gs
  | _, _ => False
def lookP (gs : List Pat) (z : List Nat) : Option Pat := gs.find? fun g => decide (g.1 = z)
theorem NT.val {H : Hp} {z : List Nat} : ∀ {kvs : List (Key × V)} {gs : List Pat}, NT H kvs gs → (lookP gs z = none ∧ valV kvs (Sum.inr (S z)) = none) ∨ ∃ g t, lookP gs z = some g ∧ g ∈ gs ∧ g.1 = z ∧ valV kvs (Sum.inr (S z)) = some (.ref t) ∧ H t = some (.tup (g.2.map V.int))
  | [], [], _ => .inl ⟨rfl, rfl⟩
  | [], _ :: _, h => h.elim
  | _ :: _, [], h => h.elim
  | kv :: kvs, g :: gs, h => by
    obtain ⟨h1, ⟨t, h2, h3⟩, h4⟩ := h
    by_cases e : g.1 = z
    · refine .inr ⟨g, t, ?_, List.mem_cons_self, e, ?_, h3⟩
      · unfold lookP; rw [List.find?_cons, decide_eq_true e]
      · rw [valV_pos (by rw [h1, e]), h2]
    · have hl : lookP (g :: gs) z = lookP gs z := by unfold lookP; rw [List.find?_cons, decide_eq_false e]
      have hv : valV (kv :: kvs) (Sum.inr (S z)) = valV kvs (Sum.inr (S z)) := valV_neg fun q => e (kS_inj (h1.symm.trans q))
      rw [hl, hv]
      rcases NT.val (z := z) h4 with q | ⟨g', t', a, b, c, d, f⟩
      · exact .inl q
      · exact .inr ⟨g', t', a, List.mem_cons_of_mem _ b, c, d, f⟩
theorem NT.same {H H' : Hp} (s : Same H H') : ∀ {kvs : List (Key × V)} {gs : List Pat}, NT H kvs gs → NT H' kvs gs
  | [], [], _ => trivial
  | [], _ :: _, h => h.elim
  | _ :: _, [], h => h.elim
  | kv :: kvs, g :: gs, h => by
    obtain ⟨h1, ⟨t, h2, h3⟩, h4⟩ := h
    exact ⟨h1, ⟨t, h2, s _ _ h3⟩, NT.same s h4⟩
end L2
namespace L2
open PySem
def zipMx : List Int → List Int → List Int
  | a :: as, b :: bs => mx a b :: zipMx as bs
  | _, _ => []
theorem zipMx_len : ∀ {a b : List Int}, a.length = b.length → (zipMx a b).length = a.length
  | [], [], _ => rfl
  | [], _ :: _, h => by simp at h
  | _ :: _, [], h => by simp at h
  | a :: as, b :: bs, h => by simp only [zipMx, List.length_cons]; rw [zipMx_len (by simpa using h)]
theorem zipMx_get : ∀ {a b : List Int} {i : Nat} (h1 : i < a.length) (h2 : i < b.length), (zipMx a b)[i]? = some (mx a[i] b[i])
  | a :: as, b :: bs, 0, _, _ => rfl
  | a :: as, b :: bs, i + 1, h1, h2 => by
    have h1' : i < as.length := by simpa using h1
    have h2' : i < bs.length := by simpa using h2
    simp only [zipMx, List.getElem?_cons_succ, List.getElem_cons_succ]
    exact zipMx_get h1' h2'
theorem zipMx_take {a b : List Int} {i : Nat} (h1 : i < a.length) (h2 : i < b.length) : (zipMx a b).take (i + 1) = (zipMx a b).take i ++ [mx a[i] b[i]] := by
  rw [List.take_succ, zipMx_get h1 h2]; rfl
def putG (gs : List Pat) (s : List Nat) (ns : List Int) : List Pat :=
  if (gs.any fun g => decide (g.1 = s)) = true then gs.map (fun g => if g.1 = s then (g.1, ns) else g) else gs ++ [(s, ns)]
def grtS (gs : List Pat) (x : Pat) : List Pat := putG gs x.1 (zipMx (((lookP gs x.1).map (·.2)).getD x.2) x.2)
def grt (xs : List Pat) : List Pat := xs.foldl grtS []
theorem grt_snoc (xs : List Pat) (x : Pat) : grt (xs ++ [x]) = grtS (grt xs) x := by unfold grt; rw [List.foldl_append]; rfl
theorem NT.anyK {H : Hp} {s : List Nat} : ∀ {kvs : List (Key × V)} {gs : List Pat}, NT H kvs gs → (kvs.any fun kv => decide (kv.1 = (Sum.inr (S s) : Key))) = gs.any fun g => decide (g.1 = s)
  | [], [], _ => rfl
  | [], _ :: _, h => h.elim
  | _ :: _, [], h => h.elim
  | kv :: kvs, g :: gs, h => by
    obtain ⟨h1, _, h4⟩ := h
    rw [List.any_cons, List.any_cons, NT.anyK h4]
    congr 1
    rw [h1]
    by_cases e : g.1 = s
    · rw [decide_eq_true e, decide_eq_true (by rw [e])]
    · rw [decide_eq_false e, decide_eq_false fun q => e (kS_inj q)]
theorem NT.append {H : Hp} : ∀ {kvs kvs' : List (Key × V)} {gs gs' : List Pat}, NT H kvs gs → NT H kvs' gs' → NT H (kvs ++ kvs') (gs ++ gs')
  | [], _, [], _, _, h => h
  | [], _, _ :: _, _, h, _ => h.elim
  | _ :: _, _, [], _, h, _ => h.elim
  | kv :: kvs, _, g :: gs, _, h, h' => ⟨h.1, h.2.1, NT.append h.2.2 h'⟩
theorem NT.mapP {H : Hp} {s : List Nat} {ns : List Int} {t : Addr} (ht : H t = some (.tup (ns.map V.int))) : ∀ {kvs : List (Key × V)} {gs : List Pat}, NT H kvs gs → NT H (kvs.map fun kv => if kv.1 = (Sum.inr (S s) : Key) then (kv.1, .ref t) else kv) (gs.map fun g => if g.1 = s then (g.1, ns) else g)
  | [], [], _ => trivial
  | [], _ :: _, h => h.elim
  | _ :: _, [], h => h.elim
  | kv :: kvs, g :: gs, h => by
    obtain ⟨h1, h2, h4⟩ := h
    rw [List.map_cons, List.map_cons]
    by_cases e : g.1 = s
    · rw [if_pos e, if_pos (by rw [h1, e])]
      exact ⟨h1, ⟨t, rfl, ht⟩, NT.mapP ht h4⟩
    · rw [if_neg e, if_neg (by rw [h1]; exact fun q => e (kS_inj q))]
      exact ⟨h1, h2, NT.mapP ht h4⟩
theorem NT.put {H : Hp} {s : List Nat} {ns : List Int} {t : Addr} {kvs : List (Key × V)} {gs : List Pat} (h : NT H kvs gs) (ht : H t = some (.tup (ns.map V.int))) : NT H (putK kvs (Sum.inr (S s)) (.ref t)) (putG gs s ns) := by
  unfold putK putG
  rw [h.anyK]
  split
  · exact h.mapP ht
  · exact h.append ⟨rfl, ⟨t, rfl, ht⟩, trivial⟩
theorem NT.tups {H H' : Hp} (hk : ∀ b zs, H b = some (.tup zs) → H' b = some (.tup zs)) : ∀ {kvs : List (Key × V)} {gs : List Pat}, NT H kvs gs → NT H' kvs gs
  | [], [], _ => trivial
  | [], _ :: _, h => h.elim
  | _ :: _, [], h => h.elim
  | kv :: kvs, g :: gs, h => by
    obtain ⟨h1, ⟨t, h2, h3⟩, h4⟩ := h
    exact ⟨h1, ⟨t, h2, hk _ _ h3⟩, NT.tups hk h4⟩
theorem mem_putG {gs : List Pat} {s : List Nat} {ns : List Int} {g : Pat} (h : g ∈ putG gs s ns) : g ∈ gs ∨ g = (s, ns) := by
  unfold putG at h
  split at h
  · obtain ⟨g', hg', e⟩ := List.mem_map.mp h
    split at e
    · rename_i q
      right
      rw [← e, q]
    · left; rw [← e]; exact hg'
  · rcases List.mem_append.mp h with h | h
    · exact .inl h
    · right; simpa using h
theorem lookP_mem {gs : List Pat} {z : List Nat} {g : Pat} (h : lookP gs z = some g) : g ∈ gs ∧ g.1 = z := ⟨List.mem_of_find?_eq_some h, by have := List.find?_some h; simpa using this⟩
theorem grt_ok : ∀ {xs : List Pat} {gs : List Pat}, (∀ g ∈ gs, g.2.length = g.1.length + 1) → (∀ x ∈ xs, x.2.length = x.1.length + 1) → ∀ g ∈ xs.foldl grtS gs, g.2.length = g.1.length + 1
  | [], gs, h, _ => h
  | x :: xs, gs, h, hx => by
    refine grt_ok (xs := xs) (gs := grtS gs x) (fun g hg => ?_) fun y hy => hx y (List.mem_cons_of_mem _ hy)
    rcases mem_putG hg with q | q
    · exact h g q
    · rw [q]
      have hxx := hx x List.mem_cons_self
      show (zipMx _ _).length = _
      have hl : (((lookP gs x.1).map (·.2)).getD x.2).length = x.2.length := by
        cases e : lookP gs x.1 with
        | none => rfl
        | some g' =>
          obtain ⟨q1, q2⟩ := lookP_mem e
          show g'.2.length = _
          rw [h g' q1, q2, hxx]
      rw [zipMx_len hl, hl, hxx]
end L2
namespace L2
theorem begs_nil (xs : List Pat) : [] ∈ begs xs := mem_begs.mpr (.inl rfl)
theorem mem_begs_pre {xs : List Pat} {y : List Nat} (hy : y ≠ []) : y ∈ begs xs ↔ ∃ x ∈ xs, y <+: x.1 := by
  rw [mem_begs]
  constructor
  · rintro (h | ⟨x, hx, e, h1, h2, h3⟩)
    · exact absurd h hy
    · exact ⟨x, hx, h3 ▸ List.take_prefix _ _⟩
  · rintro ⟨x, hx, h⟩
    have hl := List.length_pos_iff.mpr hy
    refine .inr ⟨x, hx, y.length, hl, h.length_le, ?_⟩
    exact List.prefix_iff_eq_take.mp h
theorem begs_self {xs : List Pat} {x : Pat} (h : x ∈ xs) : x.1 ∈ begs xs := by
  by_cases hs : x.1 = []
  · rw [hs]; exact begs_nil xs
  · exact (mem_begs_pre hs).mpr ⟨x, h, List.prefix_refl _⟩
theorem lookP_putG {gs : List Pat} {s : List Nat} {ns : List Int} {z : List Nat} : lookP (putG gs s ns) z = if z = s then some (s, ns) else lookP gs z := by
  unfold putG
  by_cases h : (gs.any fun g => decide (g.1 = s)) = true
  · rw [if_pos h]
    induction gs with
    | nil => simp at h
    | cons g gs ih =>
      unfold lookP at ih ⊢
      rw [List.map_cons, List.find?_cons, List.find?_cons]
      by_cases hg : g.1 = s
      · rw [if_pos hg]
        by_cases hz : z = s
        · rw [if_pos hz, decide_eq_true (show (g.1, ns).1 = z from hg.trans hz.symm), hg]
        · rw [if_neg hz, decide_eq_false (show ¬ (g.1, ns).1 = z from fun q => hz (q.symm.trans hg))]
          show List.find? (fun g => decide (g.1 = z)) (gs.map _) = List.find? (fun g => decide (g.1 = z)) gs
          by_cases ha : (gs.any fun g => decide (g.1 = s)) = true
          · have := ih ha
            rw [if_neg hz] at this
            exact this
          · have he : gs.map (fun g => if g.1 = s then (g.1, ns) else g) = gs := by
              conv => rhs; rw [← List.map_id gs]
              apply List.map_congr_left
              intro y hy
              rw [if_neg]
              · rfl
              · intro q
                exact ha (List.any_eq_true.mpr ⟨y, hy, decide_eq_true q⟩)
            rw [he]
      · rw [if_neg hg]
        have ha : (gs.any fun g => decide (g.1 = s)) = true := by
          rw [List.any_cons, decide_eq_false hg, Bool.false_or] at h; exact h
        have := ih ha
        by_cases hz : z = s
        · rw [if_pos hz] at this ⊢
          rw [decide_eq_false (show ¬ g.1 = z from fun q => hg (q.trans hz))]
          exact this
        · rw [if_neg hz] at this ⊢
          rw [this]
  · rw [if_neg h]
    unfold lookP
    rw [List.find?_append]
    by_cases hz : z = s
    · rw [if_pos hz]
      have : List.find? (fun g : Pat => decide (g.1 = z)) gs = none := by
        rw [List.find?_eq_none]
        intro y hy q
        exact h (List.any_eq_true.mpr ⟨y, hy, by rw [hz] at q; exact q⟩)
      rw [this, Option.none_or, List.find?_cons, decide_eq_true (show (s, ns).1 = z from hz.symm)]
    · rw [if_neg hz]
      have : List.find? (fun g : Pat => decide (g.1 = z)) [(s, ns)] = none := by
        rw [List.find?_cons, decide_eq_false (show ¬ (s, ns).1 = z from fun q => hz q.symm)]; rfl
      rw [this, Option.or_none]
theorem grt_look {xs : List Pat} (hx : ∀ x ∈ xs, x.2.length = x.1.length + 1) : ∀ n, n ≤ xs.length → ∀ (z : List Nat),
    (lookP (grt (xs.take n)) z = none → ∀ x ∈ xs.take n, x.1 ≠ z) ∧ (∀ g, lookP (grt (xs.take n)) z = some g → g.2.length = z.length + 1 ∧ ∀ (j : Nat) (c : Int), j < z.length + 1 → (g.2.getD j 0 ≤ c ↔ ∀ x ∈ xs.take n, x.1 = z → x.2.getD j 0 ≤ c))
  | 0, _, z => ⟨fun _ x hx => (by simp at hx), fun g h => by
      have : lookP (grt (xs.take 0)) z = none := rfl
      rw [this] at h; cases h⟩
  | n + 1, hn, z => by
    have ih := grt_look hx n (by omega)
    have hn' : n < xs.length := by omega
    have htk : xs.take (n + 1) = xs.take n ++ [xs[n]] := by rw [List.take_succ, List.getElem?_eq_getElem hn']; rfl
    have hxn := hx _ (List.getElem_mem hn')
    rw [htk, grt_snoc]
    generalize xs[n] = x at hxn ⊢
    unfold grtS
    rw [lookP_putG]
    by_cases hz : z = x.1
    · rw [if_pos hz]
      refine ⟨(fun q => by cases q), fun g q => ?_⟩
      cases q
      obtain ⟨ih1, ih2⟩ := ih x.1
      cases e : lookP (grt (xs.take n)) x.1 with
      | none =>
        have hno := ih1 e
        show (zipMx x.2 x.2).length = _ ∧ ∀ (j : Nat) (c : Int), j < _ → ((zipMx x.2 x.2).getD j 0 ≤ c ↔ _)
        refine ⟨by rw [zipMx_len rfl, hxn, hz], fun j c hj => ?_⟩
        have hj' : j < x.2.length := by rw [hxn, ← hz]; exact hj
        have h1 : (zipMx x.2 x.2).getD j 0 = x.2.getD j 0 := by
          rw [List.getD_eq_getElem?_getD, zipMx_get hj' hj', List.getD_eq_getElem?_getD, List.getElem?_eq_getElem hj']
          show mx _ _ = _
          unfold mx; split <;> rfl
        rw [h1]
        refine ⟨fun h y hy hyz => ?_, fun h => h x (List.mem_append.mpr (.inr (by simp))) hz.symm⟩
        rcases List.mem_append.mp hy with q | q
        · exact absurd (hyz.trans hz) (hno y q)
        · have : y = x := by simpa using q
          rw [this]; exact h
      | some g0 =>
        obtain ⟨hl0, hg0⟩ := ih2 g0 e
        have hl : g0.2.length = x.2.length := by rw [hl0, hxn]
        show (zipMx g0.2 x.2).length = _ ∧ ∀ (j : Nat) (c : Int), j < _ → ((zipMx g0.2 x.2).getD j 0 ≤ c ↔ _)
        refine ⟨by rw [zipMx_len hl, hl0, hz], fun j c hj => ?_⟩
        have hj' : j < x.2.length := by rw [hxn, ← hz]; exact hj
        have hj0 : j < g0.2.length := by rw [hl]; exact hj'
        have h1 : (zipMx g0.2 x.2).getD j 0 = mx (g0.2.getD j 0) (x.2.getD j 0) := by
          rw [List.getD_eq_getElem?_getD, zipMx_get hj0 hj', List.getD_eq_getElem?_getD, List.getElem?_eq_getElem hj0, List.getD_eq_getElem?_getD, List.getElem?_eq_getElem hj']; rfl
        rw [h1, mx_le, hg0 j c (by rw [← hz]; exact hj)]
        refine ⟨fun h y hy hyz => ?_, fun h => ⟨fun y hy hyz => h y (List.mem_append.mpr (.inl hy)) (hyz.trans hz.symm), h x (List.mem_append.mpr (.inr (by simp))) hz.symm⟩⟩
        rcases List.mem_append.mp hy with q | q
        · exact h.1 y q (hyz.trans hz)
        · have : y = x := by simpa using q
          rw [this]; exact h.2
    · rw [if_neg hz]
      obtain ⟨ih1, ih2⟩ := ih z
      refine ⟨fun q y hy => ?_, fun g q => ⟨(ih2 g q).1, fun j c hj => ?_⟩⟩
      · rcases List.mem_append.mp hy with h | h
        · exact ih1 q y h
        · have : y = x := by simpa using h
          rw [this]; exact fun w => hz w.symm
      · rw [(ih2 g q).2 j c hj]
        refine ⟨fun h y hy hyz => ?_, fun h y hy => h y (List.mem_append.mpr (.inl hy))⟩
        rcases List.mem_append.mp hy with h' | h'
        · exact h y h' hyz
        · have : y = x := by simpa using h'
          rw [this] at hyz; exact absurd hyz.symm hz
theorem mem_places {p f : List Nat} {b : Nat} : b ∈ places p f ↔ b < f.length ∧ b + p.length ≤ f.length ∧ (f.drop b).take p.length = p := by
  unfold places fits
  rw [List.mem_filter, List.mem_range]
  simp
end L2
namespace L2
open PySem PySem.Spec PyProof.Rows
open Sem (wp)
open AutoSeq1 (wpAny_loadPart')
set_option maxHeartbeats 4000000 in
theorem enum_newT0 (l : Addr) (items : Array Value) (n : Nat) (dct : Option Addr) (sl : Array (Option Value)) :
    Meets (Builtin.«enumerate.__new__» ⟨[.type "enumerate", .ref l], []⟩) (fun _ R s => s.heap.get? l = some { cls := .type "tuple", dict := dct, data := .seq items n, slots := sl } ∧
      R (.ok (.ret (.ref (s.heap.push { cls := .type "tuple_iterator", data := .fields #[.ref l, .int 0 0] }).objs.size)))
        { s with heap := (s.heap.push { cls := .type "tuple_iterator", data := .fields #[.ref l, .int 0 0] }).push { cls := .type "enumerate", data := .fields #[.none, .bool false, .ref s.heap.objs.size, rawInt 0, .none, .none] } }) :=
  .of_wp fun prog w A R s h => by
    obtain ⟨hp, g, d, tk, os⟩ := s; obtain ⟨hl, h⟩ := h
    have hsub := sub_enumerate
    have hL : Heap.IsTuple (Shared.heap ⟨hp, g, d, tk, os⟩) l items := ⟨_, hl, rfl, n, rfl⟩
    wp_walk using wpAny_loadPart' hl
    refine wpAny_stack_any fun st => wpAny_pure ?_
    split
    · rename_i c _ _ _ _ _
      cases (c == Value.type "enumerate")
      · wp_walk using wpAny_loadPart' hl, wpAny_pyIter_tuple hL
        exact ⟨_, rfl, h⟩
      · wp_walk using wpAny_loadPart' hl, wpAny_pyIter_tuple hL
        exact ⟨_, rfl, h⟩
    · wp_walk using wpAny_loadPart' hl, wpAny_pyIter_tuple hL
      exact ⟨_, rfl, h⟩
set_option maxHeartbeats 4000000 in
theorem enum_newL0 (l : Addr) (items : Array Value) (n : Nat) (dct : Option Addr) (sl : Array (Option Value)) :
    Meets (Builtin.«enumerate.__new__» ⟨[.type "enumerate", .ref l], []⟩) (fun _ R s => s.heap.get? l = some { cls := .type "list", dict := dct, data := .seq items n, slots := sl } ∧
      R (.ok (.ret (.ref (s.heap.push { cls := .type "list_iterator", data := .fields #[.ref l, .int 0 0] }).objs.size)))
        { s with heap := (s.heap.push { cls := .type "list_iterator", data := .fields #[.ref l, .int 0 0] }).push { cls := .type "enumerate", data := .fields #[.none, .bool false, .ref s.heap.objs.size, rawInt 0, .none, .none] } }) :=
  .of_wp fun prog w A R s h => by
    obtain ⟨hp, g, d, tk, os⟩ := s; obtain ⟨hl, h⟩ := h
    have hsub := sub_enumerate
    have hL : Heap.IsList (Shared.heap ⟨hp, g, d, tk, os⟩) l items := ⟨_, hl, rfl, n, rfl⟩
    wp_walk using wpAny_loadPart' hl
    refine wpAny_stack_any fun st => wpAny_pure ?_
    split
    · rename_i c _ _ _ _ _
      cases (c == Value.type "enumerate")
      · wp_walk using wpAny_loadPart' hl, wpAny_pyIter_list hL
        exact ⟨_, rfl, h⟩
      · wp_walk using wpAny_loadPart' hl, wpAny_pyIter_list hL
        exact ⟨_, rfl, h⟩
    · wp_walk using wpAny_loadPart' hl, wpAny_pyIter_list hL
      exact ⟨_, rfl, h⟩
theorem chk10 (a : Value) : checkTypeCall "enumerate" ⟨[a], []⟩ = pure () := by kernel_rfl
theorem chk20 (a : Value) : checkBuiltinCall "enumerate.__new__" ⟨[.type "enumerate", a], []⟩ = pure () := by kernel_rfl
section
variable {prog : Program} {w : World} {A : Around} {E : Value → Shared → Prop} {s : Shared}
theorem call_enumT0 {l : Addr} {items : Array Value} {Q : Value → Shared → Prop} (hL : s.heap.IsTuple l items)
    (h : ∀ h', IsEnum h' (s.heap.objs.size + 1) s.heap.objs.size 0 .none → h'.IsTupleIter s.heap.objs.size l 0 → (∀ b o, s.heap.get? b = some o → h'.get? b = some o) → Q (.ref (s.heap.objs.size + 1)) { s with heap := h' }) :
    wpAny (model prog w) A (call (.type "enumerate") [.ref l]) Q E s := by
  obtain ⟨⟨c, dct, dt, sl⟩, hl, hc, n, hd⟩ := hL
  simp only at hc hd
  subst hc hd
  refine callTypeK (Q₁ := fun obj s₁ => s₁.TypeIs obj "enumerate" ∧ Q obj s₁) F.called_enumerate (chk10 _) (chk20 _) F.entry_enumerate_new F.entry_object_init (enum_newT0 l items n dct sl) ⟨hl, ?_⟩
    fun obj s₁ hq => ⟨hq.1, F.args_object_init_2 obj _, _, initK F.called_enumerate.init.lookup F.called_enumerate.made (by decide), hq.1, rfl, hq.2⟩
  have hz : (s.heap.push { cls := .type "tuple_iterator", data := .fields #[.ref l, .int 0 0] }).objs.size = s.heap.objs.size + 1 := Heap.size_push ..
  show _ ∧ _
  rw [hz]
  have he : IsEnum ((s.heap.push { cls := .type "tuple_iterator", data := .fields #[.ref l, .int 0 0] }).push { cls := .type "enumerate", data := .fields #[.none, .bool false, .ref s.heap.objs.size, rawInt 0, .none, .none] }) (s.heap.objs.size + 1) s.heap.objs.size 0 .none := by
    have := Heap.get?_push_size (s.heap.push { cls := .type "tuple_iterator", data := .fields #[.ref l, .int 0 0] }) (o := { cls := .type "enumerate", data := .fields #[.none, .bool false, .ref s.heap.objs.size, rawInt 0, .none, .none] }) rfl
    rw [hz] at this; exact this
  exact ⟨⟨_, he, rfl⟩, h _ he ⟨_, Heap.get?_push_of_some _ (Heap.get?_push_size _ rfl), rfl, rfl⟩ fun b o x => Heap.get?_push_of_some _ (Heap.get?_push_of_some _ x)⟩
theorem call_enumL0 {l : Addr} {items : Array Value} {Q : Value → Shared → Prop} (hL : s.heap.IsList l items)
    (h : ∀ h', IsEnum h' (s.heap.objs.size + 1) s.heap.objs.size 0 .none → h'.IsListIter s.heap.objs.size l 0 → (∀ b o, s.heap.get? b = some o → h'.get? b = some o) → Q (.ref (s.heap.objs.size + 1)) { s with heap := h' }) :
    wpAny (model prog w) A (call (.type "enumerate") [.ref l]) Q E s := by
  obtain ⟨⟨c, dct, dt, sl⟩, hl, hc, n, hd⟩ := hL
  simp only at hc hd
  subst hc hd
  refine callTypeK (Q₁ := fun obj s₁ => s₁.TypeIs obj "enumerate" ∧ Q obj s₁) F.called_enumerate (chk10 _) (chk20 _) F.entry_enumerate_new F.entry_object_init (enum_newL0 l items n dct sl) ⟨hl, ?_⟩
    fun obj s₁ hq => ⟨hq.1, F.args_object_init_2 obj _, _, initK F.called_enumerate.init.lookup F.called_enumerate.made (by decide), hq.1, rfl, hq.2⟩
  have hz : (s.heap.push { cls := .type "list_iterator", data := .fields #[.ref l, .int 0 0] }).objs.size = s.heap.objs.size + 1 := Heap.size_push ..
  show _ ∧ _
  rw [hz]
  have he : IsEnum ((s.heap.push { cls := .type "list_iterator", data := .fields #[.ref l, .int 0 0] }).push { cls := .type "enumerate", data := .fields #[.none, .bool false, .ref s.heap.objs.size, rawInt 0, .none, .none] }) (s.heap.objs.size + 1) s.heap.objs.size 0 .none := by
    have := Heap.get?_push_size (s.heap.push { cls := .type "list_iterator", data := .fields #[.ref l, .int 0 0] }) (o := { cls := .type "enumerate", data := .fields #[.none, .bool false, .ref s.heap.objs.size, rawInt 0, .none, .none] }) rfl
    rw [hz] at this; exact this
  exact ⟨⟨_, he, rfl⟩, h _ he ⟨_, Heap.get?_push_of_some _ (Heap.get?_push_size _ rfl), rfl, rfl⟩ fun b o x => Heap.get?_push_of_some _ (Heap.get?_push_of_some _ x)⟩
end
section
variable {X : Cx}
def iEnumL (te : TE) : TI := fun σ H R => te σ H (enItS 0 R)
theorem pi_enumL {elts : List Expr} {k : Nat} {tpos : Pos} {a : Expr} {ta : TE} {p pos : Pos} (hg : Gl X "enumerate") (hm : X.mg "enumerate" = none) (ha : PE X a ta) (hs : starEach [a] X.env = [(false, eval a X.env)] := by rfl) :
    PI X (.Tuple elts k tpos) (.Call (.Name "enumerate" p) [a] [] pos) (iEnumL ta) := by
  intro pins s σ H R I h
  refine Call_ (ld_blt I hg hm boot_enumerate (PyProof.Rows.callWith_type1 ?_ hs rfl))
  rw [hs]
  show wpAny _ _ (spliced ((false, eval a X.env) :: backTo pos (starEach [] X.env))) _ _ s
  refine Calls.spliced_cons (thn (ha pins s σ H _ I h) fun u s2 ⟨x, H2, I2, ru, q2⟩ => Calls.spliced_nil ?_)
  unfold enItS at q2
  split at q2
  · rename_i l
    cases ru
    have fp : ∀ b ∈ [s2.heap.objs.size + 1, s2.heap.objs.size], FpOk X pins H2 b := fun b hb => by
      have : s2.heap.objs.size ≤ b := by
        rcases List.mem_cons.mp hb with z | z
        · rw [z]; exact Nat.le_succ _
        · have z' : b = s2.heap.objs.size := by simpa using z
          rw [z']; exact Nat.le_refl _
      exact I2.fpOk this (I2.hok.fresh this)
    rcases q2 with ⟨xs, hl, q2⟩ | ⟨xs, hl, q2⟩
    · obtain ⟨its, rv, pl, hz⟩ := I2.list (SqL.of hl)
      refine call_enumL0 pl.isList fun h1 he hit hk => ?_
      refine wpAny_pyIter_enum he ?_
      refine ⟨s2.heap.objs.size + 1, [s2.heap.objs.size + 1, s2.heap.objs.size], _, _, H2, rfl, I2.kept (t' := s2.toks) hk, turn_enum (b := 0) (ok := fun H => H l = some (.lst xs)) (xs := xs) (St0 := fun i h => h.IsListIter s2.heap.objs.size l i) (Nat.succ_ne_self _) ?_ ?_ ?_, ⟨⟨.none, he⟩, hit⟩, fp, q2⟩
      · intro X' h1 h2 h3 hc i pins s σ H I ok hn st
        exact h1 ▸ h2 ▸ drawList hc I (SqL.of ok) hn (by rw [ok]; exact fun z => nomatch z) st
      · intro i h st
        obtain ⟨o, ho, hc, hd⟩ := st
        exact ⟨o, ho, fun v q => by rw [hd] at q; cases q⟩
      · intro i h h' st kk
        exact st.at kk
    · obtain ⟨its, rv, pl, hz⟩ := I2.tuple (SqT.of hl)
      refine call_enumT0 pl fun h1 he hit hk => ?_
      refine wpAny_pyIter_enum he ?_
      refine ⟨s2.heap.objs.size + 1, [s2.heap.objs.size + 1, s2.heap.objs.size], _, _, H2, rfl, I2.kept (t' := s2.toks) hk, turn_enum (b := 0) (ok := fun H => H l = some (.tup xs)) (xs := xs) (St0 := fun i h => h.IsTupleIter s2.heap.objs.size l i) (Nat.succ_ne_self _) ?_ ?_ ?_, ⟨⟨.none, he⟩, hit⟩, fp, q2⟩
      · intro X' h1 h2 h3 hc i pins s σ H I ok hn st
        exact h1 ▸ h2 ▸ drawTup hc I (SqT.of ok) hn (by rw [ok]; exact fun z => nomatch z) st
      · intro i h st
        obtain ⟨o, ho, hc, hd⟩ := st
        exact ⟨o, ho, fun v q => by rw [hd] at q; cases q⟩
      · intro i h h' st kk
        exact st.at kk
  · exact q2.elim
end
end L2
namespace L2
open PySem PySem.Spec PyProof.Rows
structure Dm (P : Program) (w : World) (K : PySem.W.Frag) (mg : Str → Option Value) (base : Heap) (C : Addr) (m : Str) (k : Nat) (ps : List Str) (sp : Sp) : Prop where
  ex : ∃ (f : Addr) (fd : FuncData), Meth K C m f ∧ Binds K fd ps [] ∧ FnOk P w K mg base CX0 k f fd ps sp
structure Dk (P : Program) (w : World) (K : PySem.W.Frag) (mg : Str → Option Value) (base : Heap) (C : Addr) (k : Nat) (ps : List Str) (sp : Sp) : Prop where
  ex : ∃ (f : Addr) (fd : FuncData), Mk K C f ∧ Binds K fd ps [] ∧ FnOk P w K mg base CX0 k f fd ps sp
section
variable {X : Cx} {k : Nat} {C : Addr} {ps : List Str} {sp : Sp} {x m : Str} {p pos apos : Pos} {e o : Expr} {es : List Expr} {ta : TE} {t : TA}
end
section
variable {σ : St} {H : Hp} {Q : VK} {D : Ends}
end
end L2
namespace L2
open PySem
open Sem (wp)
structure ZA (z TI TO i1 i2 : Addr) (f1 f2 : List Addr) : Prop where
  TIz : TI ≠ z
  TOz : TO ≠ z
  i1z : i1 ≠ z
  i2z : i2 ≠ z
  TITO : TI ≠ TO
  TIi1 : TI ≠ i1
  TIi2 : TI ≠ i2
  TOi1 : TO ≠ i1
  TOi2 : TO ≠ i2
  i12 : i1 ≠ i2
  zf1 : z ∉ f1
  zf2 : z ∉ f2
  of1 : TO ∉ f1
  of2 : TO ∉ f2
  i1f2 : i1 ∉ f2
  i2f1 : i2 ∉ f1
theorem Draws.still {P : Program} {w : World} {A : Around} {it c : Addr} {fp : List Addr} {n i : Nat} {Pv : Nat → Value → Prop} {St : Nat → Heap → Prop} {h h' : Heap} (D : Draws P w A it fp n Pv St) (st : St i h) (k : Heap.ExtBut c h h') (hc : c ∉ fp) : St i h' :=
  D.frame _ _ _ st fun b hb o e => k b o (fun z => hc (z ▸ hb)) e
section
variable {prog : Program} {w : World} {A : Around} {E : Value → Shared → Prop} {s : Shared}
theorem zip_itemD {z TI TO i1 i2 : Addr} {f1 f2 : List Addr} {n1 n2 k1 k2 : Nat} {P1 P2 : Nat → Value → Prop} {S1 S2 : Nat → Heap → Prop} {a b : Value} {Q : Value → Shared → Prop}
    (D1 : Draws prog w A i1 f1 n1 P1 S1) (D2 : Draws prog w A i2 f2 n2 P2 S2) (Z : ZA z TI TO i1 i2 f1 f2)
    (hz : IsZip s.heap z TI TO .none) (hTI : IsPair s.heap TI (.ref i1) (.ref i2)) (hTO : IsPair s.heap TO a b) (h1 : S1 k1 s.heap) (h2 : S2 k2 s.heap) (l1 : k1 < n1) (l2 : k2 < n2)
    (hQ : ∀ x y h' tk, P1 k1 x → P2 k2 y → IsZip h' z TI TO (rawInt s.heap.objs.size) → IsPair h' TO x y → S1 (k1 + 1) h' → S2 (k2 + 1) h' → IsPair h' s.heap.objs.size x y →
      (∀ c o, c ≠ z → c ≠ TO → c ≠ i1 → c ≠ i2 → s.heap.get? c = some o → h'.get? c = some o) → Q (.ref s.heap.objs.size) { s with heap := h', toks := tk }) :
    wpAny (model prog w) A (Builtin.«zip.__next__» ⟨[.ref z], []⟩) (fun fin s' => ∃ v, fin = .done (.ret v) ∧ Q v s') E s := by
  show wpAny _ _ (field (.ref z) 2 >>= _) _ _ _
  refine wpAny_bind (wpAny_field hz rfl (x := .bool false) rfl ?_)
  show wpAny _ _ (field (.ref z) 3 >>= _) _ _ _
  refine wpAny_bind (wpAny_field hz rfl (x := .ref TI) rfl (wpAny_bind (wpAny_seqItems hTI rfl ?_)))
  show wpAny _ _ (Builtin.SmallTypes.ownedTupleIsFree (.ref z) >>= _) _ _ _
  refine wpAny_bind ?_
  unfold Builtin.SmallTypes.ownedTupleIsFree
  refine wpAny_bind (wpAny_field hz rfl (x := .none) rfl (wpAny_pure ?_))
  simp only [if_true]
  refine wpAny_bind (wpAny_rule (wpAny_bind (wpAny_field hz rfl (x := .ref TO) rfl (wpAny_bind (wpAny_setField_rec hz (by simp) fun g1 zg1 b1 => ?_)))))
  have zg1' : IsZip g1 z TI TO .ellipsis := zg1
  refine wpAny_bind ?_
  simp only [List.zipIdx_cons, List.zipIdx_nil, List.forIn_cons, List.forIn_nil]
  refine wpAny_bind (wpAny_bind (wpAny_onRaise ?_))
  show wpAny _ _ (Builtin.SmallTypes.nextOf (.ref i1) >>= _) _ _ _
  refine wpAny_bind (D1.item k1 _ _ _ l1 (Draws.still D1 h1 b1.extBut Z.zf1) fun x g2 tk1 hx h1' b2 => wpAny_pure ?_)
  have to2 : IsPair g2 TO a b := b2.extBut _ _ Z.TOi1 (b1.extBut _ _ Z.TOz hTO)
  refine wpAny_bind (wpAny_seqItems to2 rfl (wpAny_bind (wpAny_updateSeq_pair to2 fun g3 to3 b3 => ?_)))
  have to3' : IsPair g3 TO x b := to3
  refine wpAny_bind (wpAny_letGo (wpAny_pure ?_))
  refine wpAny_bind (wpAny_bind (wpAny_onRaise ?_))
  show wpAny _ _ (Builtin.SmallTypes.nextOf (.ref i2) >>= _) _ _ _
  refine wpAny_bind (D2.item k2 _ _ _ l2 (Draws.still D2 (Draws.still D2 (Draws.still D2 h2 b1.extBut Z.zf2) b2.extBut Z.i1f2) b3.extBut Z.of2) fun y g4 tk2 hy h2' b4 => wpAny_pure ?_)
  have to4 : IsPair g4 TO x b := b4.extBut _ _ Z.TOi2 to3'
  refine wpAny_bind (wpAny_seqItems to4 rfl (wpAny_bind (wpAny_updateSeq_pair to4 fun g5 to5 b5 => ?_)))
  have to5' : IsPair g5 TO x y := to5
  refine wpAny_bind (wpAny_letGo (wpAny_pure (wpAny_pure ?_)))
  refine wpAny_bind (wpAny_seqItems to5' rfl (wpAny_bind (wpAny_newTuple ?_)))
  have sz : g5.objs.size = s.heap.objs.size := by rw [b5.1, b4.1, b3.1, b2.1, b1.1]
  have zg5 : IsZip g5 z TI TO .ellipsis := b5.extBut _ _ Z.TOz.symm (b4.extBut _ _ Z.i2z.symm (b3.extBut _ _ Z.TOz.symm (b2.extBut _ _ Z.i1z.symm zg1')))
  have kp : ∀ c o, c ≠ z → c ≠ TO → c ≠ i1 → c ≠ i2 → s.heap.get? c = some o → g5.get? c = some o := fun c o c1 c2 c3 c4 e =>
    b5.extBut _ _ c2 (b4.extBut _ _ c4 (b3.extBut _ _ c2 (b2.extBut _ _ c3 (b1.extBut _ _ c1 e))))
  have s1 : S1 (k1 + 1) g5 := Draws.still D1 (Draws.still D1 (Draws.still D1 h1' b3.extBut Z.of1) b4.extBut Z.i2f1) b5.extBut Z.of1
  have s2 : S2 (k2 + 1) g5 := Draws.still D2 h2' b5.extBut Z.of2
  have zlt : z < g5.objs.size := Heap.lt_size zg5
  show wpAny _ _ (Builtin.SmallTypes.ownedTupleHandOut (.ref z) (.ref g5.objs.size) >>= _) _ _ _
  refine wpAny_bind ?_
  unfold Builtin.SmallTypes.ownedTupleHandOut
  have zg6 : IsZip (g5.push { cls := .type "tuple", data := .seq #[x, y] }) z TI TO .ellipsis := Heap.get?_push_of_some _ zg5
  refine wpAny_bind (wpAny_setField_rec zg6 (by simp) fun g7 zg7 b7 => ?_)
  have zg7' : IsZip g7 z TI TO (rawInt g5.objs.size) := zg7
  refine wpAny_setField_rec zg7' (by simp) fun g8 zg8 b8 => ?_
  have zg8' : IsZip g8 z TI TO (rawInt g5.objs.size) := zg8
  have up : ∀ c o, c ≠ z → g5.get? c = some o → g8.get? c = some o := fun c o c1 e => b8.extBut _ _ c1 (b7.extBut _ _ c1 (Heap.get?_push_of_some _ e))
  have tp : IsPair g8 g5.objs.size x y := b8.extBut _ _ (Nat.ne_of_gt zlt) (b7.extBut _ _ (Nat.ne_of_gt zlt) (Heap.get?_push_size _ rfl))
  rw [sz] at zg8' tp
  refine wpAny_pure ⟨_, rfl, ?_⟩
  show Q (.ref g5.objs.size) _
  rw [sz]
  exact hQ x y g8 _ hx hy zg8' (up _ _ Z.TOz to5') (D1.frame _ _ _ s1 fun c hc o e => up c o (fun q => Z.zf1 (q ▸ hc)) e) (D2.frame _ _ _ s2 fun c hc o e => up c o (fun q => Z.zf2 (q ▸ hc)) e) tp fun c o c1 c2 c3 c4 e => up c o c1 (kp c o c1 c2 c3 c4 e)
theorem zip_endD {z TI TO i1 i2 : Addr} {f1 f2 : List Addr} {n1 n2 k : Nat} {P1 P2 : Nat → Value → Prop} {S1 S2 : Nat → Heap → Prop} {a b : Value} {Q : Fin → Shared → Prop}
    (D1 : Draws prog w A i1 f1 n1 P1 S1) (D2 : Draws prog w A i2 f2 n2 P2 S2) (Z : ZA z TI TO i1 i2 f1 f2)
    (hz : IsZip s.heap z TI TO .none) (hTI : IsPair s.heap TI (.ref i1) (.ref i2)) (hTO : IsPair s.heap TO a b) (h1 : S1 k s.heap) (h2 : S2 k s.heap) (hk : k = min n1 n2)
    (hE : ∀ h' e tk, (∀ c o, c ≠ z → c ≠ TO → c ≠ i1 → c ≠ i2 → s.heap.get? c = some o → h'.get? c = some o) → (∃ o, h'.get? e = some o ∧ o.cls = .type "StopIteration") → E (.ref e) { s with heap := h', toks := tk }) :
    wpAny (model prog w) A (Builtin.«zip.__next__» ⟨[.ref z], []⟩) Q E s := by
  show wpAny _ _ (field (.ref z) 2 >>= _) _ _ _
  refine wpAny_bind (wpAny_field hz rfl (x := .bool false) rfl ?_)
  show wpAny _ _ (field (.ref z) 3 >>= _) _ _ _
  refine wpAny_bind (wpAny_field hz rfl (x := .ref TI) rfl (wpAny_bind (wpAny_seqItems hTI rfl ?_)))
  show wpAny _ _ (Builtin.SmallTypes.ownedTupleIsFree (.ref z) >>= _) _ _ _
  refine wpAny_bind ?_
  unfold Builtin.SmallTypes.ownedTupleIsFree
  refine wpAny_bind (wpAny_field hz rfl (x := .none) rfl (wpAny_pure ?_))
  simp only [if_true]
  refine wpAny_bind (wpAny_rule (wpAny_bind (wpAny_field hz rfl (x := .ref TO) rfl (wpAny_bind (wpAny_setField_rec hz (by simp) fun g1 zg1 b1 => ?_)))))
  have zg1' : IsZip g1 z TI TO .ellipsis := zg1
  refine wpAny_bind ?_
  simp only [List.zipIdx_cons, List.zipIdx_nil, List.forIn_cons, List.forIn_nil]
  refine wpAny_bind (wpAny_bind (wpAny_onRaise ?_))
  show wpAny _ _ (Builtin.SmallTypes.nextOf (.ref i1) >>= _) _ _ _
  have h1g := Draws.still D1 h1 b1.extBut Z.zf1
  by_cases c : n1 ≤ n2
  · have e : k = n1 := by omega
    subst e
    refine wpAny_bind (D1.done _ _ _ h1g fun g2 e b2 he => ?_)
    obtain ⟨oe, hoe, hce⟩ := he
    have zg2 : IsZip g2 z TI TO .ellipsis := b2 _ _ Z.i1z.symm zg1'
    have hez : e ≠ z := fun x => by subst x; rw [zg2] at hoe; cases hoe; simp at hce
    exact wpAny_setField_rec zg2 (by simp) fun g3 _ b3 => hE g3 e _ (fun c o c1 _ c3 _ x => b3.extBut _ _ c1 (b2 _ _ c3 (b1.extBut _ _ c1 x))) ⟨oe, b3.extBut _ _ hez hoe, hce⟩
  · have e : k = n2 := by omega
    subst e
    refine wpAny_bind (D1.item k _ _ _ (by omega) h1g fun x g2 tk1 hx h1' b2 => wpAny_pure ?_)
    have to2 : IsPair g2 TO a b := b2.extBut _ _ Z.TOi1 (b1.extBut _ _ Z.TOz hTO)
    refine wpAny_bind (wpAny_seqItems to2 rfl (wpAny_bind (wpAny_updateSeq_pair to2 fun g3 to3 b3 => ?_)))
    refine wpAny_bind (wpAny_letGo (wpAny_pure ?_))
    refine wpAny_bind (wpAny_bind (wpAny_onRaise ?_))
    show wpAny _ _ (Builtin.SmallTypes.nextOf (.ref i2) >>= _) _ _ _
    refine wpAny_bind (D2.done _ _ _ (Draws.still D2 (Draws.still D2 (Draws.still D2 h2 b1.extBut Z.zf2) b2.extBut Z.i1f2) b3.extBut Z.of2) fun g4 e b4 he => ?_)
    obtain ⟨oe, hoe, hce⟩ := he
    have zg4 : IsZip g4 z TI TO .ellipsis := b4 _ _ Z.i2z.symm (b3.extBut _ _ Z.TOz.symm (b2.extBut _ _ Z.i1z.symm zg1'))
    have hez : e ≠ z := fun x => by subst x; rw [zg4] at hoe; cases hoe; simp at hce
    exact wpAny_setField_rec zg4 (by simp) fun g5 _ b5 => hE g5 e _ (fun c o c1 c2 c3 c4 x => b5.extBut _ _ c1 (b4 _ _ c4 (b3.extBut _ _ c2 (b2.extBut _ _ c3 (b1.extBut _ _ c1 x))))) ⟨oe, b5.extBut _ _ hez hoe, hce⟩
end
theorem IsTuple_push {h : Heap} {l : Addr} {ys : Array Value} (hl : h.IsTuple l ys) (o : Obj) : (h.push o).IsTuple l ys := by
  obtain ⟨u, e, r⟩ := hl
  exact ⟨u, Heap.get?_push_of_some _ e, r⟩
set_option maxHeartbeats 4000000 in
section
variable {prog : Program} {w : World} {A : Around} {E : Value → Shared → Prop} {s : Shared}
end
end L2
namespace L2
open PySem PySem.Spec PyProof.Rows
def Izp (xs ys : List V) (ok : Hp → Prop) : It :=
  ⟨fun i H => ok H ∧ i < xs.length ∧ i < ys.length, fun i H x H' => ∃ T u v, H T = none ∧ xs[i]? = some u ∧ ys[i]? = some v ∧ x = .ref T ∧ H' = upd H T (.tup [u, v]), fun i H => ok H ∧ i = min xs.length ys.length⟩
theorem zn1 {n i j : Nat} (h : i ≠ j) : n + i ≠ n + j := by omega
theorem zn2 {n j : Nat} (h : 0 ≠ j) : n ≠ n + j := by omega
theorem zn3 {n j : Nat} (h : 0 ≠ j) : n + j ≠ n := by omega
section
variable {X : Cx}
end
theorem comp_zip {xs ys : List V} {ok : Hp → Prop} {p : Addr} {g : TG} {tc : TT} {te : TE} {Q : VK} {σ0 : St} {H0 : Hp} (n : Nat) (hn : n = min xs.length ys.length) (Pv : Nat → List V → St → Hp → Prop)
    (hok : ∀ i acc σ H, i ≤ n → Pv i acc σ H → ok H) (h0 : Pv 0 [] σ0 H0) (hp : ∀ i acc σ H, Pv i acc σ H → H p = some (.lst acc) ∧ acc.length ≤ i) (hz : n ≤ sizeLine)
    (hs : ∀ i u v acc σ H T, xs[i]? = some u → ys[i]? = some v → Pv i acc σ H → H T = none → g (.ref T) σ (upd H T (.tup [u, v])) fun σ3 H3 => tc σ3 H3 fun bb H4 =>
      if bb = true then te σ3 H4 fun v H5 => H5 p = some (.lst acc) ∧ Pv (i + 1) (acc ++ [v]) σ3 (upd H5 p (.lst (acc ++ [v]))) else Pv (i + 1) acc σ3 H4)
    (hd : ∀ acc σ H, Pv n acc σ H → Q (.ref p) H) : CompRuns (Izp xs ys ok) p g tc te Q σ0 H0 := by
  refine ⟨fun i m acc σ H => m = n - i ∧ i ≤ n ∧ Pv i acc σ H, ⟨n, by simp, Nat.zero_le _, h0⟩, fun i m acc σ' H' w => ?_⟩
  obtain ⟨rfl, hi, q⟩ := w
  obtain ⟨q1, q2⟩ := hp i acc σ' H' q
  have ho := hok i acc σ' H' hi q
  refine ⟨q1, ?_⟩
  by_cases hlt : i < n
  · refine .inr ⟨⟨ho, by omega, by omega⟩, by omega, Pv (i + 1), fun a' σ3 H3 k => ⟨n - (i + 1), by omega, rfl, hlt, k⟩, fun x H2 y => ?_⟩
    obtain ⟨T, u, v, hT, hu, hv, rfl, rfl⟩ := y
    exact hs i u v acc σ' H' T hu hv q hT
  · have e : i = n := by omega
    subst e
    exact .inl ⟨⟨ho, hn⟩, hd acc σ' H' q⟩
end L2
namespace L2
open PySem PySem.Spec PyProof.Rows
def ints? : List V → Option (List Int)
  | [] => some []
  | .int i :: r => (ints? r).map (i :: ·)
  | _ => none
theorem ints?_of : ∀ {xs : List V} {ns : List Int}, ints? xs = some ns → xs = ns.map V.int
  | [], ns, h => by cases h; rfl
  | x :: r, ns, h => by
    cases x with
    | int i =>
      simp only [ints?, Option.map_eq_some_iff] at h
      obtain ⟨l, hl, rfl⟩ := h
      rw [ints?_of hl]; rfl
    | _ => simp [ints?] at h
theorem ints?_map : ∀ ns : List Int, ints? (ns.map V.int) = some ns
  | [] => rfl
  | n :: ns => by simp only [List.map_cons, ints?, ints?_map ns]; rfl
def fBest (le : Int → Int → Prop) : List V → Hp → VK → Prop := fun xs H Q => match xs with
  | [.ref p] => (match tupR H p with
    | some ys => (match ints? ys with
      | some ns => ns ≠ [] ∧ ∀ m, m ∈ ns → (∀ n ∈ ns, le n m) → Q (.int m) H
      | none => False)
    | none => False)
  | _ => False
theorem i_best {le : Int → Int → Prop} {H : Hp} {Q : VK} {p : Addr} {ns : List Int} (h : H p = some (.tup (ns.map V.int))) (h0 : ns ≠ []) (q : ∀ m, m ∈ ns → (∀ n ∈ ns, le n m) → Q (.int m) H) : fBest le [.ref p] H Q := by
  have e : tupR H p = some (ns.map V.int) := by unfold tupR; rw [h]
  show match tupR H p with | some ys => (match ints? ys with | some ns => _ | none => False) | none => False
  rw [e]
  show match ints? (ns.map V.int) with | some ns => _ | none => False
  rw [ints?_map]
  exact ⟨h0, q⟩
section
variable {X : Cx}
theorem c_max1 (hc : X.calm = true) : CallR X (.builtin "max") (fBest (· ≤ ·)) := by
  intro pins s σ H xs us Q I r h
  unfold fBest at h
  split at h
  · rename_i p
    split at h
    · rename_i ys e
      split at h
      · rename_i ns en
        obtain ⟨h0, q⟩ := h
        obtain ⟨u, rfl, ru⟩ := vals1 r
        cases ru
        obtain ⟨its, rv, pl, hz⟩ := I.tuple (tupR_sq e)
        rw [ints?_of en] at rv
        have hlen := rv.length
        rw [List.length_map] at hlen
        have hlt : p < s.heap.objs.size := by obtain ⟨o, ho, _⟩ := pl; exact Heap.lt_size ho
        have hval : ∀ (i : Nat) (v : Value), its.toArray[i]? = some v → ∃ t, v = .int (ns.getD i 0) t := fun i v hv => by
          have hv' : its[i]? = some v := by simpa using hv
          have hil : i < its.length := (List.getElem?_eq_some_iff.mp hv').1
          obtain ⟨w', hw, t, rfl⟩ := rv.get (i := i) (x := V.int (ns.getD i 0)) (by rw [List.getElem?_map]; simp [List.getD_eq_getElem?_getD, show i < ns.length by omega])
          rw [hv'] at hw
          cases hw
          exact ⟨t, rfl⟩
        have hpos : 0 < ns.length := List.length_pos_iff.mpr h0
        refine call_max_walk (wpAny_pyIter_tuple pl ?_)
        refine ⟨s.heap.objs.size, _, _, _, _, _, _, rfl, Walks.tuple (A := X.A.in1) (show X.A.in1.handled = none from I.ok.hd hc) s.heap.objs.size p (Nat.ne_of_lt hlt) its.toArray, ⟨⟨_, Heap.get?_push_size _ rfl, rfl, rfl⟩, ?_⟩, ?_, ?_, CmpOf.ints_gt (fun i => ns.getD i 0) hval, fun v h' tk hv k => ?_⟩
        · obtain ⟨o, ho, q⟩ := pl
          exact ⟨o, Heap.get?_push_of_some _ ho, q⟩
        · intro b hb
          have hs : (s.heap.push { cls := .type "tuple_iterator", data := .fields #[.ref p, .int 0 0] }).objs.size = s.heap.objs.size + 1 := Heap.size_push ..
          show b < (s.heap.push _).objs.size
          rw [hs]
          rcases List.mem_cons.mp hb with z | z
          · rw [z]; exact Nat.lt_succ_self _
          · have z' : b = p := by simpa using z
            rw [z']; exact Nat.lt_succ_of_lt hlt
        · rw [List.size_toArray]; omega
        · obtain ⟨t, rfl⟩ := hval _ _ hv
          rw [List.size_toArray]
          obtain ⟨b1, b2⟩ := argBest_gt (fun i => ns.getD i 0) (its.length - 1)
          have I1 : Inv X pins σ H { s with heap := s.heap.push { cls := .type "tuple_iterator", data := .fields #[.ref p, .int 0 0] }, toks := s.toks } := I.kept fun b u q => Heap.get?_push_of_some _ q
          have f1 := I.fpOk (H' := H) (b := s.heap.objs.size) (Nat.le_refl _) (I.hok.fresh (Nat.le_refl _))
          refine ⟨.int _, H, I1.turned (t' := tk) (it := s.heap.objs.size) (fun b o hb q => k b o (by simpa using hb) q) f1.1 f1.2.1 f1.2.2.2.1 f1.2.2.2.2.1 f1.2.2.2.2.2, ⟨_, rfl⟩, q _ ?_ fun n hn => ?_⟩
          · rw [List.getD_eq_getElem?_getD, List.getElem?_eq_getElem (show argBest _ _ < ns.length by omega)]
            exact List.getElem_mem _
          · obtain ⟨j, hj, rfl⟩ := List.getElem_of_mem hn
            have := b2 j (by omega)
            rw [List.getD_eq_getElem?_getD (i := j), List.getElem?_eq_getElem hj] at this
            exact this
      · exact h.elim
    · exact h.elim
  · exact h.elim
end
end L2
namespace L2
open PySem
end L2
namespace L2
open PySem PySem.Spec PyProof.Rows
def fInsert : V → List V → Hp → VK → Prop := fun x vs H Q => match x, vs with
  | .ref l, [.int i, y] => (match H l with | some (.lst xs) => 0 ≤ i ∧ i ≤ xs.length ∧ xs.length < 1000000 ∧ Q .non (upd H l (.lst (xs.take i.toNat ++ y :: xs.drop i.toNat))) | _ => False)
  | _, _ => False
section
variable {X : Cx}
theorem Vals.take' {xs : List V} {us : List Value} (h : Vals xs us) : ∀ n, Vals (xs.take n) (us.take n) := by
  induction h with
  | nil => intro n; simp; exact .nil
  | cons r rs ih =>
    intro n
    cases n with
    | zero => simp; exact .nil
    | succ n => simp only [List.take_succ_cons]; exact .cons r (ih n)
theorem Vals.drop' {xs : List V} {us : List Value} (h : Vals xs us) : ∀ n, Vals (xs.drop n) (us.drop n) := by
  induction h with
  | nil => intro n; simp; exact .nil
  | cons r rs ih =>
    intro n
    cases n with
    | zero => simp only [List.drop_zero]; exact .cons r rs
    | succ n => simp only [List.drop_succ_cons]; exact ih n
theorem m_insert2 : MtR X "list.insert" fInsert := fun pins s σ H x vs v us Q I rx rs h => by
  unfold fInsert at h
  split at h
  · rename_i l i y
    split at h
    · rename_i xs hH
      obtain ⟨h0, h1, hz, q⟩ := h
      cases rx
      cases rs with
      | cons r1 rs =>
        cases rs with
        | cons r2 rs =>
          cases rs
          obtain ⟨t, rfl⟩ := r1
          rename_i u
          obtain ⟨z, its, n, r, hl, e⟩ := I.lstM hH
          have hlen := r.length
          have hfit : Builtin.List.listFitsIndex i = true := by
            unfold Builtin.List.listFitsIndex
            have e : ((2 : Int) ^ 63) = 9223372036854775808 := by decide
            simp only [e, Bool.and_eq_true, decide_eq_true_eq]
            omega
          have hbig : 1000000 ≤ sizeLine := by decide
          have hsz : its.toArray.size ≤ sizeLine := by
            rw [List.size_toArray]
            omega
          refine call_meets F.slot_list_insert ⟨_, e, rfl⟩ F.entry_list_insert (F.args_list_insert_3 _ _ _) (PySem.AutoSeq1.list_insert_list_int_val_1 l its.toArray n i t u (by simp [hfit]) hsz) ⟨e, ?_⟩
          refine ⟨.non, _, I.lset (its' := its.take i.toNat ++ u :: its.drop i.toNat) hH e ?_ ((Vals.take' r _).append (.cons r2 (Vals.drop' r _))) ?_, rfl, q⟩
          · apply Array.toList_inj.mp
            have hk : (if i < 0 then (i + ((its.toArray.size : Nat) : Int)).toNat else min i.toNat its.toArray.size) = i.toNat := by
              rw [if_neg (by omega), List.size_toArray]
              omega
            show ((its.toArray.extract 0 (if i < 0 then (i + ((its.toArray.size : Nat) : Int)).toNat else min i.toNat its.toArray.size)).push u ++ its.toArray.extract (if i < 0 then (i + ((its.toArray.size : Nat) : Int)).toNat else min i.toNat its.toArray.size)).toList = _
            rw [hk]
            simp
            exact List.take_of_length_le (by rw [List.length_drop]; exact Nat.le_refl _)
          · have : (xs.take i.toNat ++ y :: xs.drop i.toNat).length = xs.length + 1 := by
              rw [List.length_append, List.length_cons, List.length_take, List.length_drop]; omega
            omega
    · exact h.elim
  · exact h.elim
end
end L2
namespace L2
open PySem PySem.Spec PyProof.Rows
theorem i_insL {l : Addr} {i : Int} {y : V} {xs : List V} {H : Hp} {Q : VK} (h1 : H l = some (.lst xs)) (h2 : 0 ≤ i ∧ i ≤ xs.length ∧ xs.length < 1000000) (h : Q .non (upd H l (.lst (xs.take i.toNat ++ y :: xs.drop i.toNat)))) : fInsert (.ref l) [.int i, y] H Q := by
  show (match H l with | some (.lst xs) => 0 ≤ i ∧ i ≤ xs.length ∧ xs.length < 1000000 ∧ Q .non (upd H l (.lst (xs.take i.toNat ++ y :: xs.drop i.toNat))) | _ => False)
  rw [h1]; exact ⟨h2.1, h2.2.1, h2.2.2, h⟩
structure View where
  t : List Nat
  b : Option Nat
  i : Int
  j : Int
end L2
namespace L2
open PySem PySem.Spec PyProof.Rows
def Lay (n : Nat) (d : Dt) : Prop := PyData.canLay0 (toP d) = true ∧ PyData.depth (toP d) ≤ n
theorem Lay.ok {n : Nat} {d : Dt} (h : Lay n d) (hn : n ≤ 64) : okD d := by
  unfold okD SeqAt.shaped
  rw [h.1, decide_eq_true (Nat.le_trans h.2 hn)]; rfl
theorem lay_all {n : Nat} : ∀ {ds : List Dt}, (∀ d ∈ ds, Lay n d) → PyData.canLayAll0 (toPs ds) = true ∧ PyData.depthAll (toPs ds) ≤ n
  | [], _ => ⟨rfl, Nat.zero_le _⟩
  | d :: ds, h => by
    have h1 := h d List.mem_cons_self
    have h2 := lay_all (ds := ds) fun e he => h e (List.mem_cons_of_mem _ he)
    simp only [toPs, PyData.canLayAll0, PyData.depthAll, h1.1, h2.1, Bool.and_self, true_and]
    have := h1.2
    have := h2.2
    omega
theorem Lay.lst {n : Nat} {ds : List Dt} (h : ∀ d ∈ ds, Lay n d) : Lay (n + 1) (.lst ds) := by
  have := lay_all h
  unfold Lay
  simp only [toP, PyData.canLay0, PyData.depth, this.1, true_and]
  omega
theorem Lay.tup {n : Nat} {ds : List Dt} (h : ∀ d ∈ ds, Lay n d) : Lay (n + 1) (.tup ds) := by
  have := lay_all h
  unfold Lay
  simp only [toP, PyData.canLay0, PyData.depth, this.1, true_and]
  omega
theorem Lay.mono {n m : Nat} {d : Dt} (h : Lay n d) (hm : n ≤ m) : Lay m d := ⟨h.1, Nat.le_trans h.2 hm⟩
theorem Lay.int {i : Int} : Lay 0 (.int i) := ⟨rfl, Nat.le_refl _⟩
theorem Lay.non : Lay 0 .non := ⟨rfl, Nat.le_refl _⟩
theorem Lay.str {l : List Nat} (h : ∀ c ∈ l, c < 128) : Lay 0 (.str (S l)) := by
  refine ⟨?_, Nat.le_refl _⟩
  simp only [toP, PyData.canLay0]
  unfold PyData.strOk
  rw [← Array.all_toList]
  show (l.all fun x => decide (x < 0x110000)) = true
  rw [List.all_eq_true]
  intro c hc
  have := h c hc
  exact decide_eq_true (by omega)
theorem Lay.ints {n : List Int} : ∀ d ∈ n.map Dt.int, Lay 0 d := fun d hd => by
  obtain ⟨x, _, rfl⟩ := List.mem_map.mp hd
  exact Lay.int
end L2
namespace L2
open PySem PySem.Spec PyProof.Rows
section
variable {X : Cx}
theorem KV.key {κ : Type} : ∀ {kvs : List (κ × V)} {vs : List (κ × Value)}, KV kvs vs → vs.map (·.1) = kvs.map (·.1)
  | [], [], _ => rfl
  | _ :: _, _ :: _, .cons r t => by
    simp only [List.map_cons]
    rw [KV.key t, r.1]
theorem collect_dk {pins : List (Addr × Obj)} {σ : St} {H : Hp} {s : Shared} {a : Addr} {kvs : List (Key × V)} {A : Around} {E : Value → Shared → Prop} {R : List Value → Shared → Prop} (I : Inv X pins σ H s) (hh : A.handled = none) (e : H a = some (.dK kvs))
    (h : ∀ (h' : Heap) (tk : Nat) (acc : List Value), (∀ b o, s.heap.get? b = some o → h'.get? b = some o) → acc.length = kvs.length → (∀ (j : Nat) v, acc[j]? = some v → ∃ p, kvs[j]? = some p ∧ RelV (kV p.1) v) → R acc { s with heap := h', toks := tk }) :
    wpAny (model X.prog X.w) A (collect (.ref a)) R E s := by
  obtain ⟨z, hd, vs, rel, dd⟩ := dk_of I.hok e
  obtain ⟨ep, hat⟩ := dd.dictAt
  have hk := KV.key rel
  have hl : vs.length = kvs.length := by rw [← List.length_map (f := (·.1)), hk, List.length_map]
  refine PySem.W.kdu_collect (PySem.W.kdl_dict (knd := mixKind X.prog X.w) (kvs := vs) (ep := ep) hd) hh hat (by rw [hl]; exact z) fun h' tk acc hkk hacc => ?_
  refine h h' tk acc.toList hkk (by rw [Array.length_toList, hacc.1, hl]) fun j v hv => ?_
  obtain ⟨k, x, hx, hi⟩ := hacc.2 j v (by rw [← Array.getElem?_toList]; exact hv)
  have hj : (kvs.map (·.1))[j]? = some k := by rw [← hk, List.getElem?_map, hx]; rfl
  rw [List.getElem?_map] at hj
  cases hp : kvs[j]? with
  | none => rw [hp] at hj; cases hj
  | some p =>
    rw [hp] at hj
    have hj : p.1 = k := by injection hj
    refine ⟨p, rfl, ?_⟩
    rw [hj]
    rcases keyIs_shape (show keyIs k v = true from hi) with ⟨i, t, rfl, rfl⟩ | ⟨y, t, rfl, rfl⟩
    · exact ⟨t, rfl⟩
    · exact ⟨t, rfl⟩
def fSortD : List V → Hp → VK → Prop := fun xs H Q => match xs with
  | [.ref a] => (∃ (ns : List Int) (kvs : List (Key × V)), H a = some (.dK kvs) ∧ kvs.map (·.1) = ns.map Sum.inl ∧ ns.length < 64 ∧ ∀ (q : Addr) (ms : List Int), H q = none → ms.Perm ns → ms.Pairwise (· ≤ ·) → Q (.ref q) (upd H q (.lst (ms.map V.int)))) ∨
    (∃ (ss : List Str) (kvs : List (Key × V)), H a = some (.dK kvs) ∧ kvs.map (·.1) = ss.map Sum.inr ∧ ss.length < 64 ∧ ∀ (q : Addr) (ms : List Str), H q = none → ms.Perm ss → sortedS ms = true → Q (.ref q) (upd H q (.lst (ms.map V.str))))
  | _ => False
theorem sortDS {H : Hp} {Q : VK} {a : Addr} {ss : List Str} {kvs : List (Key × V)} (h1 : H a = some (.dK kvs)) (h2 : kvs.map (·.1) = ss.map Sum.inr) (h3 : ss.length < 64) (h : ∀ (q : Addr) (ms : List Str), H q = none → ms.Perm ss → sortedS ms = true → Q (.ref q) (upd H q (.lst (ms.map V.str)))) : fSortD [.ref a] H Q := .inr ⟨ss, kvs, h1, h2, h3, h⟩
theorem vals_intsA : ∀ {vs : List Value} {ns : List Int}, IntsAre vs ns → Vals (ns.map V.int) vs
  | _, _, .nil => .nil
  | _, _, .cons n t h => .cons ⟨t, rfl⟩ (vals_intsA h)
theorem vals_strsA : ∀ {vs : List Value} {ns : List Str}, StrsAre vs ns → Vals (ns.map V.str) vs
  | _, _, .nil => .nil
  | _, _, .cons n t h => .cons ⟨t, rfl⟩ (vals_strsA h)
theorem c_sortD (hc : X.calm = true) : CallR X (.builtin "sorted") fSortD := by
  intro pins s σ H xs us Q I r h
  unfold fSortD at h
  split at h
  · rename_i a
    obtain ⟨u, rfl, ru⟩ := vals1 r
    cases ru
    refine PySem.Calls.call_function_entry kind_sorted plain_sorted entry_sorted (args_sorted1 _) ?_
    unfold Builtin.«sorted»
    refine wpAny_bind (m := checkCount "sorted" 1 1 _) (wpAny_pure ?_)
    have key : ∀ (h1 : Heap) (out : Array Value) (acc : List Value) (b : Addr) (o : Obj), h1.get? b = some o → (sortedHeap (h1.push (seqObj "list" acc.toArray 0)) h1.objs.size acc out).get? b = some o := fun h1 out acc b o eb => by
      have hlt := Heap.lt_size eb
      rw [sortedHeap_old (Nat.ne_of_lt hlt) (by rw [Heap.size_push]; exact Nat.lt_succ_of_lt hlt)]
      exact Heap.get?_push_of_some _ eb
    rcases h with ⟨ns, kvs, e, hk, h64, q⟩ | ⟨ss, kvs, e, hk, h64, q⟩
    · have hl : kvs.length = ns.length := by rw [← List.length_map (f := (·.1)), hk, List.length_map]
      refine wpAny_bind (collect_dk I (A := X.A.in1) (show X.A.in1.handled = none from I.ok.hd hc) e fun h1 tk acc hkk hal hacc => ?_)
      have hint : ∀ (j : Nat) v, acc[j]? = some v → ∃ n t, ns[j]? = some n ∧ v = .int n t := fun j v hv => by
        obtain ⟨p, hp, hr⟩ := hacc j v hv
        have hj : (ns.map (Sum.inl : Int → Key))[j]? = some p.1 := by rw [← hk, List.getElem?_map, hp]; rfl
        rw [List.getElem?_map] at hj
        cases hn : ns[j]? with
        | none => rw [hn] at hj; cases hj
        | some n =>
          rw [hn] at hj
          have hj : (Sum.inl n : Key) = p.1 := by injection hj
          rw [← hj] at hr
          obtain ⟨t, rfl⟩ := (show ∃ t, v = Value.int n t from hr)
          exact ⟨n, t, rfl, rfl⟩
      have hI : IntsAre acc ns := by
        have h0 := intsAre_map acc fun v hv => by
          obtain ⟨j, hj⟩ := List.mem_iff_getElem?.mp hv
          obtain ⟨n, t, _, ev⟩ := hint j v hj
          exact ⟨n, t, ev⟩
        have he : acc.map numOf = ns := by
          apply List.ext_getElem?
          intro j
          rw [List.getElem?_map]
          cases hv : acc[j]? with
          | none =>
            have : ns[j]? = none := by
              rw [List.getElem?_eq_none_iff] at hv ⊢
              omega
            rw [this]; rfl
          | some v =>
            obtain ⟨n, t, hn, ev⟩ := hint j v hv
            rw [hn, ev]; rfl
        rw [he] at h0; exact h0
      have hsl : acc.length < 64 := by omega
      have hszA : acc.length ≤ sizeLine := Nat.le_trans (Nat.le_of_lt hsl) (by decide)
      have hszB : acc.toArray.size ≤ sizeLine := by rw [List.size_toArray]; exact hszA
      refine wpAny_bind (wpAny_newList ?_ (by first | exact hszA | exact hszB))
      have hoL : (h1.push (seqObj "list" acc.toArray 0)).get? h1.objs.size = some (seqObj "list" acc.toArray 0) := Heap.get?_push_size _ rfl
      show wpAny _ _ _ _ _ { s with heap := h1.push (seqObj "list" acc.toArray 0), toks := tk }
      refine wpAny_bind (wpAny_holding (wpAny_call_entry slot_list_sort ⟨_, hoL, rfl⟩ entry_list_sort (list_sort_tree hoL hI hsl fun out ns' a1 a2 a3 => ⟨_, rfl, ?_⟩) (args_list_sort _)))
      refine wpAny_pure ⟨_, rfl, ?_⟩
      obtain ⟨ep, he⟩ := sortedHeap_at (out := out) hoL
      have I1 : Inv X pins σ H { s with heap := h1, toks := tk } := I.kept (t' := tk) hkk
      have hol : ns'.length = ns.length := a2.length_eq
      refine ⟨.ref h1.objs.size, _, I1.laid (t' := tk) (fun b o eb => key h1 out acc b o eb) (Nat.le_refl _) (show ObjOk X.prog X.w _ _ _ (.lst (ns'.map V.int)) from ⟨by rw [List.length_map]; exact Nat.le_trans (by omega) (show 64 ≤ sizeLine by decide), out.toList, ep, vals_intsA a1, by rw [Array.toArray_toList]; exact he⟩), rfl, q _ _ (I1.hok.fresh (Nat.le_refl _)) a2 a3⟩
    · have hl : kvs.length = ss.length := by rw [← List.length_map (f := (·.1)), hk, List.length_map]
      refine wpAny_bind (collect_dk I (A := X.A.in1) (show X.A.in1.handled = none from I.ok.hd hc) e fun h1 tk acc hkk hal hacc => ?_)
      have hint : ∀ (j : Nat) v, acc[j]? = some v → ∃ n t, ss[j]? = some n ∧ v = .str n t := fun j v hv => by
        obtain ⟨p, hp, hr⟩ := hacc j v hv
        have hj : (ss.map (Sum.inr : Str → Key))[j]? = some p.1 := by rw [← hk, List.getElem?_map, hp]; rfl
        rw [List.getElem?_map] at hj
        cases hn : ss[j]? with
        | none => rw [hn] at hj; cases hj
        | some n =>
          rw [hn] at hj
          have hj : (Sum.inr n : Key) = p.1 := by injection hj
          rw [← hj] at hr
          obtain ⟨t, rfl⟩ := (show ∃ t, v = Value.str n t from hr)
          exact ⟨n, t, rfl, rfl⟩
      have hSt : StrsAre acc ss := by
        have h0 := strsAre_map acc fun v hv => by
          obtain ⟨j, hj⟩ := List.mem_iff_getElem?.mp hv
          obtain ⟨n, t, _, ev⟩ := hint j v hj
          exact ⟨n, t, ev⟩
        have he : acc.map strOf = ss := by
          apply List.ext_getElem?
          intro j
          rw [List.getElem?_map]
          cases hv : acc[j]? with
          | none =>
            have : ss[j]? = none := by
              rw [List.getElem?_eq_none_iff] at hv ⊢
              omega
            rw [this]; rfl
          | some v =>
            obtain ⟨n, t, hn, ev⟩ := hint j v hv
            rw [hn, ev]; rfl
        rw [he] at h0; exact h0
      have hsl : acc.length < 64 := by omega
      have hszA : acc.length ≤ sizeLine := Nat.le_trans (Nat.le_of_lt hsl) (by decide)
      have hszB : acc.toArray.size ≤ sizeLine := by rw [List.size_toArray]; exact hszA
      refine wpAny_bind (wpAny_newList ?_ (by first | exact hszA | exact hszB))
      have hoL : (h1.push (seqObj "list" acc.toArray 0)).get? h1.objs.size = some (seqObj "list" acc.toArray 0) := Heap.get?_push_size _ rfl
      show wpAny _ _ _ _ _ { s with heap := h1.push (seqObj "list" acc.toArray 0), toks := tk }
      refine wpAny_bind (wpAny_holding (wpAny_call_entry slot_list_sort ⟨_, hoL, rfl⟩ entry_list_sort (list_sort_treeK strKind_oneLt hoL hSt.keysOf (fun v₁ v₂ rest e => keyKind_strs (by rw [← e]; exact hSt)) hsl fun st' hp hs => ⟨_, rfl, ?_⟩) (args_list_sort _)))
      refine wpAny_pure ⟨_, rfl, ?_⟩
      obtain ⟨ss', a1, a2, a3⟩ := sorted_out_str hSt hp hs
      generalize (arrOf st').map (·.2) = out at a1
      obtain ⟨ep, he⟩ := sortedHeap_at (out := out) hoL
      have I1 : Inv X pins σ H { s with heap := h1, toks := tk } := I.kept (t' := tk) hkk
      have hol : ss'.length = ss.length := a2.length_eq
      refine ⟨.ref h1.objs.size, _, I1.laid (t' := tk) (fun b o eb => key h1 out acc b o eb) (Nat.le_refl _) (show ObjOk X.prog X.w _ _ _ (.lst (ss'.map V.str)) from ⟨by rw [List.length_map]; exact Nat.le_trans (by omega) (show 64 ≤ sizeLine by decide), out.toList, ep, vals_strsA a1, by rw [Array.toArray_toList]; exact he⟩), rfl, q _ _ (I1.hok.fresh (Nat.le_refl _)) a2 a3⟩
  · exact h.elim
end
end L2
namespace L2
open PySem PySem.Spec PyProof.Rows
theorem ltC_irrefl : ∀ a : List Nat, ltCps a a = false
  | [] => rfl
  | a :: r => by simp [ltCps, ltC_irrefl r]
def leC (a b : List Nat) : Prop := ltCps b a = false
theorem leC_trans : ∀ {a b c : List Nat}, leC a b → leC b c → leC a c
  | [], _, c, _, _ => by unfold leC; cases c <;> rfl
  | x :: a, [], c, h, _ => by unfold leC at h; simp [ltCps] at h
  | x :: a, y :: b, [], _, h => by unfold leC at h; simp [ltCps] at h
  | x :: a, y :: b, z :: c, h1, h2 => by
    unfold leC at h1 h2 ⊢
    simp only [ltCps, Bool.or_eq_false_iff, decide_eq_false_iff_not, Bool.and_eq_false_iff, beq_eq_false_iff_ne, ne_eq] at h1 h2 ⊢
    obtain ⟨a1, a2⟩ := h1
    obtain ⟨b1, b2⟩ := h2
    refine ⟨by omega, ?_⟩
    by_cases e : z = x
    · right
      have e1 : y = x := by omega
      have e2 : z = y := by omega
      exact leC_trans (a2.resolve_left (by simpa using e1)) (b2.resolve_left (by simpa using e2))
    · exact .inl e
theorem rising_pw : ∀ {p : Str} {l : List Str}, risingS p l = true → (p :: l).Pairwise fun a b => leC a.cps.toList b.cps.toList
  | p, [], _ => by simp
  | p, x :: r, h => by
    simp only [risingS, Bool.and_eq_true, Bool.not_eq_true'] at h
    have ih := rising_pw h.2
    refine List.pairwise_cons.mpr ⟨fun y hy => ?_, ih⟩
    rcases List.mem_cons.mp hy with rfl | hy
    · exact h.1
    · exact leC_trans (show leC p.cps.toList x.cps.toList from h.1) (List.rel_of_pairwise_cons ih hy)
theorem sortedS_pw {l : List Str} (h : sortedS l = true) : l.Pairwise fun a b => leC a.cps.toList b.cps.toList := by
  cases l with
  | nil => exact List.Pairwise.nil
  | cons x r => exact rising_pw h
end L2
namespace L2
open PySem
section
variable {prog : Program} {w : World} {A : Around} {E : Value → Shared → Prop} {s : Shared}
def heldZ (T : Addr) (f : Bool) (TI TO : Addr) : Obj := { cls := .type "zip", dict := none, data := .fields #[rawInt T, .bool f, .bool false, .ref TI, .ref TO], slots := #[] }
theorem load_alive {M : Model} {a : Addr} {o : Obj} {Q : Option Obj → Shared → Prop} (h : s.heap.get? a = some o) (q : Q (some o) s) : wpAny M A (loadIfAlive a) Q E s := fun Γ p hΓ => by
  show PySem.Sem.wp M Γ (.loadIfAlive a .pure) _ _ p s
  rw [PySem.Sem.wp_loadIfAlive, h]
  exact q
theorem free_held {z T TI TO : Addr} {f : Bool} {oT : Obj} {Q : Bool → Shared → Prop} (hz : s.heap.get? z = some (heldZ T f TI TO)) (hoT : s.heap.get? T = some oT)
    (h : ∀ g, g.get? z = some (heldZ T true TI TO) → Heap.SameBut z s.heap g → Q false { s with heap := g }) : wpAny (model prog w) A (Builtin.SmallTypes.ownedTupleIsFree (.ref z)) Q E s := by
  unfold Builtin.SmallTypes.ownedTupleIsFree
  refine wpAny_bind (wpAny_field hz rfl (x := rawInt T) rfl ?_)
  show wpAny _ _ (loadIfAlive (((T : Nat) : Int)).toNat >>= _) _ _ _
  rw [Int.toNat_natCast]
  refine wpAny_bind (load_alive hoT ?_)
  rw [if_neg (by simp)]
  refine wpAny_bind (wpAny_field hz rfl (x := .bool f) rfl ?_)
  cases f with
  | false =>
    rw [if_pos (by decide)]
    exact wpAny_bind (wpAny_setField_rec hz (by simp) fun g zg b => wpAny_pure (h g zg b))
  | true =>
    rw [if_neg (by decide)]
    have e : s = { s with heap := s.heap } := by cases s; rfl
    rw [e]
    exact wpAny_pure (h s.heap hz (Heap.SameBut.refl _ _))
theorem zip_itemH {z TI TO i1 i2 T : Addr} {f : Bool} {f1 f2 : List Addr} {n1 n2 k1 k2 : Nat} {P1 P2 : Nat → Value → Prop} {S1 S2 : Nat → Heap → Prop} {Q : Value → Shared → Prop}
    (D1 : Draws prog w A i1 f1 n1 P1 S1) (D2 : Draws prog w A i2 f2 n2 P2 S2) (Z : ZA z TI TO i1 i2 f1 f2)
    (hz : s.heap.get? z = some (heldZ T f TI TO)) (hT : ∃ o, s.heap.get? T = some o) (hTI : IsPair s.heap TI (.ref i1) (.ref i2)) (h1 : S1 k1 s.heap) (h2 : S2 k2 s.heap) (l1 : k1 < n1) (l2 : k2 < n2)
    (hQ : ∀ x y h' tk, P1 k1 x → P2 k2 y → h'.get? z = some (heldZ T true TI TO) → S1 (k1 + 1) h' → S2 (k2 + 1) h' → IsPair h' s.heap.objs.size x y →
      (∀ c o, c ≠ z → c ≠ i1 → c ≠ i2 → s.heap.get? c = some o → h'.get? c = some o) → Q (.ref s.heap.objs.size) { s with heap := h', toks := tk }) :
    wpAny (model prog w) A (Builtin.«zip.__next__» ⟨[.ref z], []⟩) (fun fin s' => ∃ v, fin = .done (.ret v) ∧ Q v s') E s := by
  obtain ⟨oT, hoT⟩ := hT
  show wpAny _ _ (field (.ref z) 2 >>= _) _ _ _
  refine wpAny_bind (wpAny_field hz rfl (x := .bool false) rfl ?_)
  show wpAny _ _ (field (.ref z) 3 >>= _) _ _ _
  refine wpAny_bind (wpAny_field hz rfl (x := .ref TI) rfl (wpAny_bind (wpAny_seqItems hTI rfl ?_)))
  show wpAny _ _ (Builtin.SmallTypes.ownedTupleIsFree (.ref z) >>= _) _ _ _
  refine wpAny_bind (free_held hz hoT fun g zg b1 => ?_)
  rw [if_neg Bool.false_ne_true]
  dsimp only
  rw [← Array.forIn_toList]
  simp only [List.forIn_cons, List.forIn_nil]
  refine wpAny_bind (wpAny_bind (wpAny_bind (wpAny_holding ?_)))
  show wpAny _ _ (Builtin.SmallTypes.nextOf (.ref i1) >>= _) _ _ _
  refine wpAny_bind (D1.item k1 _ _ _ l1 (Draws.still D1 h1 b1.extBut Z.zf1) fun x g2 tk1 hx h1' b2 => wpAny_pure (wpAny_pure ?_))
  dsimp only
  refine wpAny_bind (wpAny_bind (wpAny_holding ?_))
  show wpAny _ _ (Builtin.SmallTypes.nextOf (.ref i2) >>= _) _ _ _
  refine wpAny_bind (D2.item k2 _ _ _ l2 (Draws.still D2 (Draws.still D2 h2 b1.extBut Z.zf2) b2.extBut Z.i1f2) fun y g3 tk2 hy h2' b3 => wpAny_pure (wpAny_pure (wpAny_pure ?_)))
  dsimp only
  have sz : g3.objs.size = s.heap.objs.size := by rw [b3.1, b2.1, b1.1]
  refine wpAny_bind (wpAny_newTuple ?_ (by show 2 ≤ sizeLine; decide))
  refine wpAny_pure ⟨_, rfl, ?_⟩
  have zg3 : g3.get? z = some (heldZ T true TI TO) := b3.extBut _ _ Z.i2z.symm (b2.extBut _ _ Z.i1z.symm zg)
  have s1 : S1 (k1 + 1) g3 := Draws.still D1 h1' b3.extBut Z.i2f1
  show Q (.ref g3.objs.size) _
  have tp : IsPair (g3.push { cls := .type "tuple", data := .seq #[x, y] }) g3.objs.size x y := Heap.get?_push_size _ rfl
  rw [sz] at tp ⊢
  exact hQ x y _ _ hx hy (Heap.get?_push_of_some _ zg3) (D1.frame _ _ _ s1 fun c hc o e => Heap.get?_push_of_some _ e) (D2.frame _ _ _ h2' fun c hc o e => Heap.get?_push_of_some _ e) tp fun c o c1 c3 c4 e => Heap.get?_push_of_some _ (b3.extBut _ _ c4 (b2.extBut _ _ c3 (b1.extBut _ _ c1 e)))
def zO (f0 : Value) (f : Bool) (TI TO : Addr) : Obj := { cls := .type "zip", dict := none, data := .fields #[f0, .bool f, .bool false, .ref TI, .ref TO], slots := #[] }
theorem load_dead {M : Model} {a : Addr} {Q : Option Obj → Shared → Prop} (h : s.heap.get? a = none) (q : Q none s) : wpAny M A (loadIfAlive a) Q E s := fun Γ p hΓ => by
  show PySem.Sem.wp M Γ (.loadIfAlive a .pure) _ _ p s
  rw [PySem.Sem.wp_loadIfAlive, h]
  exact q
theorem free_dead {z T TI TO : Addr} {f : Bool} {Q : Bool → Shared → Prop} (hz : s.heap.get? z = some (heldZ T f TI TO)) (hT : s.heap.get? T = none) (h : Q true s) : wpAny (model prog w) A (Builtin.SmallTypes.ownedTupleIsFree (.ref z)) Q E s := by
  unfold Builtin.SmallTypes.ownedTupleIsFree
  refine wpAny_bind (wpAny_field hz rfl (x := rawInt T) rfl ?_)
  show wpAny _ _ (loadIfAlive (((T : Nat) : Int)).toNat >>= _) _ _ _
  rw [Int.toNat_natCast]
  refine wpAny_bind (load_dead hT ?_)
  rw [if_pos (by simp)]
  exact wpAny_pure h
theorem zip_itemF {z TI TO i1 i2 T : Addr} {f : Bool} {f1 f2 : List Addr} {n1 n2 k1 k2 : Nat} {P1 P2 : Nat → Value → Prop} {S1 S2 : Nat → Heap → Prop} {a b : Value} {Q : Value → Shared → Prop}
    (D1 : Draws prog w A i1 f1 n1 P1 S1) (D2 : Draws prog w A i2 f2 n2 P2 S2) (Z : ZA z TI TO i1 i2 f1 f2)
    (hz : s.heap.get? z = some (heldZ T f TI TO)) (hT : s.heap.get? T = none) (hTI : IsPair s.heap TI (.ref i1) (.ref i2)) (hTO : IsPair s.heap TO a b) (h1 : S1 k1 s.heap) (h2 : S2 k2 s.heap) (l1 : k1 < n1) (l2 : k2 < n2)
    (hQ : ∀ x y h' tk, P1 k1 x → P2 k2 y → h'.get? z = some (heldZ s.heap.objs.size false TI TO) → IsPair h' TO x y → S1 (k1 + 1) h' → S2 (k2 + 1) h' → IsPair h' s.heap.objs.size x y →
      (∀ c o, c ≠ z → c ≠ TO → c ≠ i1 → c ≠ i2 → s.heap.get? c = some o → h'.get? c = some o) → Q (.ref s.heap.objs.size) { s with heap := h', toks := tk }) :
    wpAny (model prog w) A (Builtin.«zip.__next__» ⟨[.ref z], []⟩) (fun fin s' => ∃ v, fin = .done (.ret v) ∧ Q v s') E s := by
  show wpAny _ _ (field (.ref z) 2 >>= _) _ _ _
  refine wpAny_bind (wpAny_field hz rfl (x := .bool false) rfl ?_)
  show wpAny _ _ (field (.ref z) 3 >>= _) _ _ _
  refine wpAny_bind (wpAny_field hz rfl (x := .ref TI) rfl (wpAny_bind (wpAny_seqItems hTI rfl ?_)))
  show wpAny _ _ (Builtin.SmallTypes.ownedTupleIsFree (.ref z) >>= _) _ _ _
  refine wpAny_bind (free_dead hz hT ?_)
  simp only [if_true]
  refine wpAny_bind (wpAny_rule (wpAny_bind (wpAny_field hz rfl (x := .ref TO) rfl (wpAny_bind (wpAny_setField_rec hz (by simp) fun g1 zg1 b1 => ?_)))))
  have zg1' : g1.get? z = some (zO .ellipsis f TI TO) := zg1
  refine wpAny_bind ?_
  simp only [List.zipIdx_cons, List.zipIdx_nil, List.forIn_cons, List.forIn_nil]
  refine wpAny_bind (wpAny_bind (wpAny_onRaise ?_))
  show wpAny _ _ (Builtin.SmallTypes.nextOf (.ref i1) >>= _) _ _ _
  refine wpAny_bind (D1.item k1 _ _ _ l1 (Draws.still D1 h1 b1.extBut Z.zf1) fun x g2 tk1 hx h1' b2 => wpAny_pure ?_)
  have to2 : IsPair g2 TO a b := b2.extBut _ _ Z.TOi1 (b1.extBut _ _ Z.TOz hTO)
  refine wpAny_bind (wpAny_seqItems to2 rfl (wpAny_bind (wpAny_updateSeq_pair to2 fun g3 to3 b3 => ?_)))
  have to3' : IsPair g3 TO x b := to3
  refine wpAny_bind (wpAny_letGo (wpAny_pure ?_))
  refine wpAny_bind (wpAny_bind (wpAny_onRaise ?_))
  show wpAny _ _ (Builtin.SmallTypes.nextOf (.ref i2) >>= _) _ _ _
  refine wpAny_bind (D2.item k2 _ _ _ l2 (Draws.still D2 (Draws.still D2 (Draws.still D2 h2 b1.extBut Z.zf2) b2.extBut Z.i1f2) b3.extBut Z.of2) fun y g4 tk2 hy h2' b4 => wpAny_pure ?_)
  have to4 : IsPair g4 TO x b := b4.extBut _ _ Z.TOi2 to3'
  refine wpAny_bind (wpAny_seqItems to4 rfl (wpAny_bind (wpAny_updateSeq_pair to4 fun g5 to5 b5 => ?_)))
  have to5' : IsPair g5 TO x y := to5
  refine wpAny_bind (wpAny_letGo (wpAny_pure (wpAny_pure ?_)))
  refine wpAny_bind (wpAny_seqItems to5' rfl (wpAny_bind (wpAny_newTuple ?_)))
  have sz : g5.objs.size = s.heap.objs.size := by rw [b5.1, b4.1, b3.1, b2.1, b1.1]
  have zg5 : g5.get? z = some (zO .ellipsis f TI TO) := b5.extBut _ _ Z.TOz.symm (b4.extBut _ _ Z.i2z.symm (b3.extBut _ _ Z.TOz.symm (b2.extBut _ _ Z.i1z.symm zg1')))
  have kp : ∀ c o, c ≠ z → c ≠ TO → c ≠ i1 → c ≠ i2 → s.heap.get? c = some o → g5.get? c = some o := fun c o c1 c2 c3 c4 e =>
    b5.extBut _ _ c2 (b4.extBut _ _ c4 (b3.extBut _ _ c2 (b2.extBut _ _ c3 (b1.extBut _ _ c1 e))))
  have s1 : S1 (k1 + 1) g5 := Draws.still D1 (Draws.still D1 (Draws.still D1 h1' b3.extBut Z.of1) b4.extBut Z.i2f1) b5.extBut Z.of1
  have s2 : S2 (k2 + 1) g5 := Draws.still D2 h2' b5.extBut Z.of2
  have zlt : z < g5.objs.size := Heap.lt_size zg5
  show wpAny _ _ (Builtin.SmallTypes.ownedTupleHandOut (.ref z) (.ref g5.objs.size) >>= _) _ _ _
  refine wpAny_bind ?_
  unfold Builtin.SmallTypes.ownedTupleHandOut
  have zg6 : (g5.push { cls := .type "tuple", data := .seq #[x, y] }).get? z = some (zO .ellipsis f TI TO) := Heap.get?_push_of_some _ zg5
  refine wpAny_bind (wpAny_setField_rec zg6 (by simp) fun g7 zg7 b7 => ?_)
  have zg7' : g7.get? z = some (zO (rawInt g5.objs.size) f TI TO) := zg7
  refine wpAny_setField_rec zg7' (by simp) fun g8 zg8 b8 => ?_
  have zg8' : g8.get? z = some (heldZ g5.objs.size false TI TO) := zg8
  have up : ∀ c o, c ≠ z → g5.get? c = some o → g8.get? c = some o := fun c o c1 e => b8.extBut _ _ c1 (b7.extBut _ _ c1 (Heap.get?_push_of_some _ e))
  have tp : IsPair g8 g5.objs.size x y := b8.extBut _ _ (Nat.ne_of_gt zlt) (b7.extBut _ _ (Nat.ne_of_gt zlt) (Heap.get?_push_size _ rfl))
  rw [sz] at zg8' tp
  refine wpAny_pure ⟨_, rfl, ?_⟩
  show Q (.ref g5.objs.size) _
  rw [sz]
  exact hQ x y g8 _ hx hy zg8' (up _ _ Z.TOz to5') (D1.frame _ _ _ s1 fun c hc o e => up c o (fun q => Z.zf1 (q ▸ hc)) e) (D2.frame _ _ _ s2 fun c hc o e => up c o (fun q => Z.zf2 (q ▸ hc)) e) tp fun c o c1 c2 c3 c4 e => up c o c1 (kp c o c1 c2 c3 c4 e)
theorem zip_endF {z TI TO i1 i2 T : Addr} {f : Bool} {f1 f2 : List Addr} {n1 n2 k : Nat} {P1 P2 : Nat → Value → Prop} {S1 S2 : Nat → Heap → Prop} {a b : Value} {Q : Fin → Shared → Prop}
    (D1 : Draws prog w A i1 f1 n1 P1 S1) (D2 : Draws prog w A i2 f2 n2 P2 S2) (Z : ZA z TI TO i1 i2 f1 f2)
    (hz : s.heap.get? z = some (heldZ T f TI TO)) (hT : s.heap.get? T = none) (hTI : IsPair s.heap TI (.ref i1) (.ref i2)) (hTO : IsPair s.heap TO a b) (h1 : S1 k s.heap) (h2 : S2 k s.heap) (hk : k = min n1 n2)
    (hE : ∀ h' e tk, (∀ c o, c ≠ z → c ≠ TO → c ≠ i1 → c ≠ i2 → s.heap.get? c = some o → h'.get? c = some o) → (∃ o, h'.get? e = some o ∧ o.cls = .type "StopIteration") → E (.ref e) { s with heap := h', toks := tk }) :
    wpAny (model prog w) A (Builtin.«zip.__next__» ⟨[.ref z], []⟩) Q E s := by
  show wpAny _ _ (field (.ref z) 2 >>= _) _ _ _
  refine wpAny_bind (wpAny_field hz rfl (x := .bool false) rfl ?_)
  show wpAny _ _ (field (.ref z) 3 >>= _) _ _ _
  refine wpAny_bind (wpAny_field hz rfl (x := .ref TI) rfl (wpAny_bind (wpAny_seqItems hTI rfl ?_)))
  show wpAny _ _ (Builtin.SmallTypes.ownedTupleIsFree (.ref z) >>= _) _ _ _
  refine wpAny_bind (free_dead hz hT ?_)
  simp only [if_true]
  refine wpAny_bind (wpAny_rule (wpAny_bind (wpAny_field hz rfl (x := .ref TO) rfl (wpAny_bind (wpAny_setField_rec hz (by simp) fun g1 zg1 b1 => ?_)))))
  have zg1' : g1.get? z = some (zO .ellipsis f TI TO) := zg1
  refine wpAny_bind ?_
  simp only [List.zipIdx_cons, List.zipIdx_nil, List.forIn_cons, List.forIn_nil]
  refine wpAny_bind (wpAny_bind (wpAny_onRaise ?_))
  show wpAny _ _ (Builtin.SmallTypes.nextOf (.ref i1) >>= _) _ _ _
  have h1g := Draws.still D1 h1 b1.extBut Z.zf1
  by_cases c : n1 ≤ n2
  · have e : k = n1 := by omega
    subst e
    refine wpAny_bind (D1.done _ _ _ h1g fun g2 e b2 he => ?_)
    obtain ⟨oe, hoe, hce⟩ := he
    have zg2 : g2.get? z = some (zO .ellipsis f TI TO) := b2 _ _ Z.i1z.symm zg1'
    have hez : e ≠ z := fun x => by subst x; rw [zg2] at hoe; cases hoe; simp [zO] at hce
    exact wpAny_setField_rec zg2 (by simp) fun g3 _ b3 => hE g3 e _ (fun c o c1 _ c3 _ x => b3.extBut _ _ c1 (b2 _ _ c3 (b1.extBut _ _ c1 x))) ⟨oe, b3.extBut _ _ hez hoe, hce⟩
  · have e : k = n2 := by omega
    subst e
    refine wpAny_bind (D1.item k _ _ _ (by omega) h1g fun x g2 tk1 hx h1' b2 => wpAny_pure ?_)
    have to2 : IsPair g2 TO a b := b2.extBut _ _ Z.TOi1 (b1.extBut _ _ Z.TOz hTO)
    refine wpAny_bind (wpAny_seqItems to2 rfl (wpAny_bind (wpAny_updateSeq_pair to2 fun g3 to3 b3 => ?_)))
    refine wpAny_bind (wpAny_letGo (wpAny_pure ?_))
    refine wpAny_bind (wpAny_bind (wpAny_onRaise ?_))
    show wpAny _ _ (Builtin.SmallTypes.nextOf (.ref i2) >>= _) _ _ _
    refine wpAny_bind (D2.done _ _ _ (Draws.still D2 (Draws.still D2 (Draws.still D2 h2 b1.extBut Z.zf2) b2.extBut Z.i1f2) b3.extBut Z.of2) fun g4 e b4 he => ?_)
    obtain ⟨oe, hoe, hce⟩ := he
    have zg4 : g4.get? z = some (zO .ellipsis f TI TO) := b4 _ _ Z.i2z.symm (b3.extBut _ _ Z.TOz.symm (b2.extBut _ _ Z.i1z.symm zg1'))
    have hez : e ≠ z := fun x => by subst x; rw [zg4] at hoe; cases hoe; simp [zO] at hce
    exact wpAny_setField_rec zg4 (by simp) fun g5 _ b5 => hE g5 e _ (fun c o c1 c2 c3 c4 x => b5.extBut _ _ c1 (b4 _ _ c4 (b3.extBut _ _ c2 (b2.extBut _ _ c3 (b1.extBut _ _ c1 x))))) ⟨oe, b5.extBut _ _ hez hoe, hce⟩
theorem zip_endH {z TI TO i1 i2 T : Addr} {f : Bool} {f1 f2 : List Addr} {n1 n2 k : Nat} {P1 P2 : Nat → Value → Prop} {S1 S2 : Nat → Heap → Prop} {Q : Fin → Shared → Prop}
    (D1 : Draws prog w A i1 f1 n1 P1 S1) (D2 : Draws prog w A i2 f2 n2 P2 S2) (Z : ZA z TI TO i1 i2 f1 f2)
    (hz : s.heap.get? z = some (heldZ T f TI TO)) (hT : ∃ o, s.heap.get? T = some o) (hTI : IsPair s.heap TI (.ref i1) (.ref i2)) (h1 : S1 k s.heap) (h2 : S2 k s.heap) (hk : k = min n1 n2)
    (hE : ∀ h' e tk, (∀ c o, c ≠ z → c ≠ TO → c ≠ i1 → c ≠ i2 → s.heap.get? c = some o → h'.get? c = some o) → (∃ o, h'.get? e = some o ∧ o.cls = .type "StopIteration") → E (.ref e) { s with heap := h', toks := tk }) :
    wpAny (model prog w) A (Builtin.«zip.__next__» ⟨[.ref z], []⟩) Q E s := by
  obtain ⟨oT, hoT⟩ := hT
  show wpAny _ _ (field (.ref z) 2 >>= _) _ _ _
  refine wpAny_bind (wpAny_field hz rfl (x := .bool false) rfl ?_)
  show wpAny _ _ (field (.ref z) 3 >>= _) _ _ _
  refine wpAny_bind (wpAny_field hz rfl (x := .ref TI) rfl (wpAny_bind (wpAny_seqItems hTI rfl ?_)))
  show wpAny _ _ (Builtin.SmallTypes.ownedTupleIsFree (.ref z) >>= _) _ _ _
  refine wpAny_bind (free_held hz hoT fun g zg b1 => ?_)
  rw [if_neg Bool.false_ne_true]
  dsimp only
  rw [← Array.forIn_toList]
  simp only [List.forIn_cons, List.forIn_nil]
  refine wpAny_bind (wpAny_bind (wpAny_bind (wpAny_holding ?_)))
  show wpAny _ _ (Builtin.SmallTypes.nextOf (.ref i1) >>= _) _ _ _
  have h1g := Draws.still D1 h1 b1.extBut Z.zf1
  by_cases c : n1 ≤ n2
  · have e : k = n1 := by omega
    subst e
    exact wpAny_bind (D1.done _ _ _ h1g fun g2 e b2 he => hE g2 e _ (fun c o c1 _ c3 _ x => b2 _ _ c3 (b1.extBut _ _ c1 x)) he)
  · have e : k = n2 := by omega
    subst e
    refine wpAny_bind (D1.item k _ _ _ (by omega) h1g fun x g2 tk1 hx h1' b2 => wpAny_pure (wpAny_pure ?_))
    dsimp only
    refine wpAny_bind (wpAny_bind (wpAny_holding ?_))
    show wpAny _ _ (Builtin.SmallTypes.nextOf (.ref i2) >>= _) _ _ _
    exact wpAny_bind (D2.done _ _ _ (Draws.still D2 (Draws.still D2 h2 b1.extBut Z.zf2) b2.extBut Z.i1f2) fun g4 e b4 he => hE g4 e _ (fun c o c1 c2 c3 c4 x => b4 _ _ c4 (b2.extBut _ _ c3 (b1.extBut _ _ c1 x))) he)
theorem zip_itemA {z TI TO i1 i2 : Addr} {f1 f2 : List Addr} {n1 n2 k1 k2 : Nat} {P1 P2 : Nat → Value → Prop} {S1 S2 : Nat → Heap → Prop} {a b : Value} {Q : Value → Shared → Prop}
    (D1 : Draws prog w A i1 f1 n1 P1 S1) (D2 : Draws prog w A i2 f2 n2 P2 S2) (Z : ZA z TI TO i1 i2 f1 f2)
    (hz : IsZip s.heap z TI TO .none ∨ ∃ T f, s.heap.get? z = some (heldZ T f TI TO)) (hTI : IsPair s.heap TI (.ref i1) (.ref i2)) (hTO : IsPair s.heap TO a b) (h1 : S1 k1 s.heap) (h2 : S2 k2 s.heap) (l1 : k1 < n1) (l2 : k2 < n2)
    (hQ : ∀ x y h' tk, P1 k1 x → P2 k2 y → (∃ T f, h'.get? z = some (heldZ T f TI TO)) → (∃ a b, IsPair h' TO a b) → S1 (k1 + 1) h' → S2 (k2 + 1) h' → IsPair h' s.heap.objs.size x y →
      (∀ c o, c ≠ z → c ≠ TO → c ≠ i1 → c ≠ i2 → s.heap.get? c = some o → h'.get? c = some o) → Q (.ref s.heap.objs.size) { s with heap := h', toks := tk }) :
    wpAny (model prog w) A (Builtin.«zip.__next__» ⟨[.ref z], []⟩) (fun fin s' => ∃ v, fin = .done (.ret v) ∧ Q v s') E s := by
  rcases hz with hz | ⟨T, f, hz⟩
  · exact zip_itemD D1 D2 Z hz hTI hTO h1 h2 l1 l2 fun x y h' tk hx hy c1 c2 c3 c4 c5 hk => hQ x y h' tk hx hy ⟨_, false, c1⟩ ⟨_, _, c2⟩ c3 c4 c5 hk
  · cases hT : s.heap.get? T with
    | none => exact zip_itemF D1 D2 Z hz hT hTI hTO h1 h2 l1 l2 fun x y h' tk hx hy c1 c2 c3 c4 c5 hk => hQ x y h' tk hx hy ⟨_, false, c1⟩ ⟨_, _, c2⟩ c3 c4 c5 hk
    | some o => exact zip_itemH D1 D2 Z hz ⟨o, hT⟩ hTI h1 h2 l1 l2 fun x y h' tk hx hy c1 c3 c4 c5 hk => hQ x y h' tk hx hy ⟨_, _, c1⟩ ⟨_, _, hk _ _ Z.TOz Z.TOi1 Z.TOi2 hTO⟩ c3 c4 c5 fun c o c1 _ c3 c4 e => hk c o c1 c3 c4 e
theorem zip_endA {z TI TO i1 i2 : Addr} {f1 f2 : List Addr} {n1 n2 k : Nat} {P1 P2 : Nat → Value → Prop} {S1 S2 : Nat → Heap → Prop} {a b : Value} {Q : Fin → Shared → Prop}
    (D1 : Draws prog w A i1 f1 n1 P1 S1) (D2 : Draws prog w A i2 f2 n2 P2 S2) (Z : ZA z TI TO i1 i2 f1 f2)
    (hz : IsZip s.heap z TI TO .none ∨ ∃ T f, s.heap.get? z = some (heldZ T f TI TO)) (hTI : IsPair s.heap TI (.ref i1) (.ref i2)) (hTO : IsPair s.heap TO a b) (h1 : S1 k s.heap) (h2 : S2 k s.heap) (hk : k = min n1 n2)
    (hE : ∀ h' e tk, (∀ c o, c ≠ z → c ≠ TO → c ≠ i1 → c ≠ i2 → s.heap.get? c = some o → h'.get? c = some o) → (∃ o, h'.get? e = some o ∧ o.cls = .type "StopIteration") → E (.ref e) { s with heap := h', toks := tk }) :
    wpAny (model prog w) A (Builtin.«zip.__next__» ⟨[.ref z], []⟩) Q E s := by
  rcases hz with hz | ⟨T, f, hz⟩
  · exact zip_endD D1 D2 Z hz hTI hTO h1 h2 hk hE
  · cases hT : s.heap.get? T with
    | none => exact zip_endF D1 D2 Z hz hT hTI hTO h1 h2 hk hE
    | some o => exact zip_endH D1 D2 Z hz ⟨o, hT⟩ hTI h1 h2 hk hE
end
open PySem.Spec PyProof.Rows
theorem turn_zipN {P : Program} {w : World} {K : PySem.W.Frag} {nm : Str} {pos : Pos} {z TI TO i1 i2 : Addr} {xs ys : List V} {ok : Hp → Prop} {S1 S2 : Nat → Heap → Prop}
    (n1 : TI ≠ z) (n2 : TO ≠ z) (n3 : i1 ≠ z) (n4 : i2 ≠ z) (n5 : TI ≠ TO) (n6 : TI ≠ i1) (n7 : TI ≠ i2) (n8 : TO ≠ i1) (n9 : TO ≠ i2) (n10 : i1 ≠ i2)
    (hD1 : ∀ (X : Cx), X.prog = P → X.w = w → X.K = K → X.calm = true → ∀ (i : Nat) (pins : List (Addr × Obj)) (s : Shared) (σ : St) (H : Hp), Inv X pins σ H s → ok H → H i1 = none → S1 i s.heap → DrawAt P w X.A.in1 i1 xs S1 H i s.heap)
    (hD2 : ∀ (X : Cx), X.prog = P → X.w = w → X.K = K → X.calm = true → ∀ (i : Nat) (pins : List (Addr × Obj)) (s : Shared) (σ : St) (H : Hp), Inv X pins σ H s → ok H → H i2 = none → S2 i s.heap → DrawAt P w X.A.in1 i2 ys S2 H i s.heap)
    (o1 : ∀ i h, S1 i h → ∃ o, h.get? i1 = some o ∧ ∀ v, o.data ≠ .cell v) (o2 : ∀ i h, S2 i h → ∃ o, h.get? i2 = some o ∧ ∀ v, o.data ≠ .cell v)
    (k1 : ∀ i h h', S1 i h → (∀ o, h.get? i1 = some o → h'.get? i1 = some o) → S1 i h') (k2 : ∀ i h h', S2 i h → (∀ o, h.get? i2 = some o → h'.get? i2 = some o) → S2 i h') :
    Turn P w K (.Name nm pos) (Izp xs ys ok) [z, TI, TO, i1, i2] z (fun i h => (IsZip h z TI TO .none ∨ ∃ T f, h.get? z = some (heldZ T f TI TO)) ∧ IsPair h TI (.ref i1) (.ref i2) ∧ (∃ a b, IsPair h TO a b) ∧ S1 i h ∧ S2 i h) where
  mem := by simp
  obj := fun i h st c hc => by
    obtain ⟨a1, a2, ⟨a, b, a3⟩, a4, a5⟩ := st
    simp only [List.mem_cons, List.not_mem_nil, or_false] at hc
    rcases hc with q | q | q | q | q <;> rw [q]
    · rcases a1 with a1 | ⟨T, f, a1⟩
      · exact ⟨_, a1, fun v q => by have q' : Data.fields _ = Data.cell v := q; cases q'⟩
      · exact ⟨_, a1, fun v q => by have q' : Data.fields _ = Data.cell v := q; cases q'⟩
    · exact ⟨_, a2, fun v q => by have q' : Data.seq _ _ = Data.cell v := q; cases q'⟩
    · exact ⟨_, a3, fun v q => by have q' : Data.seq _ _ = Data.cell v := q; cases q'⟩
    · exact o1 i h a4
    · exact o2 i h a5
  keep := fun i h h' st kk => by
    obtain ⟨a1, a2, ⟨a, b, a3⟩, a4, a5⟩ := st
    exact ⟨a1.imp (fun q => kk z (by simp) _ q) fun ⟨T, f, q⟩ => ⟨T, f, kk z (by simp) _ q⟩, kk TI (by simp) _ a2, ⟨a, b, kk TO (by simp) _ a3⟩, k1 i h h' a4 fun o q => kk i1 (by simp) o q, k2 i h h' a5 fun o q => kk i2 (by simp) o q⟩
  item := by
    intro X hP hw hK hc i pins s σ H E I hf st hg
    subst hP hw hK
    obtain ⟨a1, a2, ⟨a, b, a3⟩, a4, a5⟩ := st
    obtain ⟨hok, hl1, hl2⟩ := hg
    obtain ⟨f1, P1, T1, D1, m1, hf1, st1, r1, bk1⟩ := hD1 X rfl rfl rfl hc i pins s σ H I hok (hf i1 (by simp)).1 a4
    obtain ⟨f2, P2, T2, D2, m2, hf2, st2, r2, bk2⟩ := hD2 X rfl rfl rfl hc i pins s σ H I hok (hf i2 (by simp)).1 a5
    have out1 : ∀ c ∈ [z, TI, TO, i1, i2], c ≠ i1 → c ∉ f1 := fun c hc hn q => by
      rcases hf1 c q with e | e
      · exact hn e
      · exact e (hf c hc).1
    have out2 : ∀ c ∈ [z, TI, TO, i1, i2], c ≠ i2 → c ∉ f2 := fun c hc hn q => by
      rcases hf2 c q with e | e
      · exact hn e
      · exact e (hf c hc).1
    have Z : ZA z TI TO i1 i2 f1 f2 := ⟨n1, n2, n3, n4, n5, n6, n7, n8, n9, n10, out1 z (by simp) n3.symm, out2 z (by simp) n4.symm, out1 TO (by simp) n8, out2 TO (by simp) n9, out2 i1 (by simp) n10, out1 i2 (by simp) n10.symm⟩
    have hTy : s.TypeIs (.ref z) "zip" := by
      rcases a1 with a1 | ⟨T, f, a1⟩
      · exact ⟨_, a1, rfl⟩
      · exact ⟨_, a1, rfl⟩
    have hzlt : z < s.heap.objs.size := by
      rcases a1 with a1 | ⟨T, f, a1⟩
      · exact Heap.lt_size a1
      · exact Heap.lt_size a1
    unfold pyNext
    refine wpAny_bind (wpAny_attempt (wpAny_callSpecial?_slot (name := Str.ofString "__next__") hTy F.slot_zip_next (wpAny_call_entry F.slot_zip_next hTy F.entry_zip_next
      (zip_itemA D1 D2 Z a1 a2 a3 st1 st2 (by omega) (by omega) fun x y h2 tk hx hy c1 c2 c3 c4 c5 hk => wpAny_pure ?_) (F.args_zip_next_1 _))))
    obtain ⟨u, hu, ru⟩ := r1 _ _ hx
    obtain ⟨v, hv, rv⟩ := r2 _ _ hy
    refine ⟨.ref s.heap.objs.size, rfl, ?_⟩
    show wpAny _ _ (pure ()) _ _ _
    have kk : ∀ c u, c ∉ [z, TI, TO, i1, i2] → s.heap.get? c = some u → h2.get? c = some u := fun c u hc q => hk c u (fun e => hc (by simp [e])) (fun e => hc (by simp [e])) (fun e => hc (by simp [e])) (fun e => hc (by simp [e])) q
    have tup2 : IsTup h2 s.heap.objs.size #[x, y] := ⟨_, c5, rfl, _, rfl⟩
    refine wpAny_pure ⟨.ref s.heap.objs.size, upd H s.heap.objs.size (.tup [u, v]), I.turnedNew (t' := tk) (Nat.le_refl _) kk hf ?_, rfl, ⟨s.heap.objs.size, u, v, I.hok.fresh (Nat.le_refl _), hu, hv, rfl, rfl⟩, ?_, ?_⟩
    · exact ⟨by show 2 ≤ sizeLine; decide, [x, y], .cons ru (.cons rv .nil), tup2⟩
    · exact ⟨.inr c1, hk _ _ Z.TIz Z.TITO Z.TIi1 Z.TIi2 a2, c2, bk1 _ _ c3, bk2 _ _ c4⟩
    · intro c hc
      have hlt : c < s.heap.objs.size := by
        simp only [List.mem_cons, List.not_mem_nil, or_false] at hc
        rcases hc with q | q | q | q | q <;> rw [q]
        · exact hzlt
        · exact Heap.lt_size a2
        · exact Heap.lt_size a3
        · obtain ⟨o, ho, _⟩ := o1 i _ a4; exact Heap.lt_size ho
        · obtain ⟨o, ho, _⟩ := o2 i _ a5; exact Heap.lt_size ho
      rw [upd_ne (Nat.ne_of_lt hlt)]
      exact (hf c hc).1
  done := by
    intro X hP hw hK hc i pins s σ H E I hf st hg
    subst hP hw hK
    obtain ⟨a1, a2, ⟨a, b, a3⟩, a4, a5⟩ := st
    obtain ⟨hok, rfl⟩ := hg
    obtain ⟨f1, P1, T1, D1, m1, hf1, st1, r1, bk1⟩ := hD1 X rfl rfl rfl hc _ pins s σ H I hok (hf i1 (by simp)).1 a4
    obtain ⟨f2, P2, T2, D2, m2, hf2, st2, r2, bk2⟩ := hD2 X rfl rfl rfl hc _ pins s σ H I hok (hf i2 (by simp)).1 a5
    have out1 : ∀ c ∈ [z, TI, TO, i1, i2], c ≠ i1 → c ∉ f1 := fun c hc hn q => by
      rcases hf1 c q with e | e
      · exact hn e
      · exact e (hf c hc).1
    have out2 : ∀ c ∈ [z, TI, TO, i1, i2], c ≠ i2 → c ∉ f2 := fun c hc hn q => by
      rcases hf2 c q with e | e
      · exact hn e
      · exact e (hf c hc).1
    have Z : ZA z TI TO i1 i2 f1 f2 := ⟨n1, n2, n3, n4, n5, n6, n7, n8, n9, n10, out1 z (by simp) n3.symm, out2 z (by simp) n4.symm, out1 TO (by simp) n8, out2 TO (by simp) n9, out2 i1 (by simp) n10, out1 i2 (by simp) n10.symm⟩
    have sub : ∀ c, c ∉ [z, TI, TO, i1, i2] → c ∉ [z, TO, i1, i2] := fun c hc q => hc (by simp only [List.mem_cons, List.not_mem_nil, or_false] at q ⊢; rcases q with q | q | q | q <;> simp [q])
    have hTy : s.TypeIs (.ref z) "zip" := by
      rcases a1 with a1 | ⟨T, f, a1⟩
      · exact ⟨_, a1, rfl⟩
      · exact ⟨_, a1, rfl⟩
    unfold pyNext
    refine wpAny_bind (wpAny_attempt (wpAny_callSpecial?_slot (name := Str.ofString "__next__") hTy F.slot_zip_next (wpAny_call_entry F.slot_zip_next hTy F.entry_zip_next
      (zip_endA D1 D2 Z a1 a2 a3 st1 st2 rfl fun h' e tk hk he => ?_) (F.args_zip_next_1 _))))
    obtain ⟨o, ho, hc⟩ := he
    refine wpAny_bind (wpAny_isInstance (T := "StopIteration") (b := true) ⟨o, ho, hc⟩ isSubtype_stop ?_)
    exact wpAny_pure ⟨rfl, I.turnedL (fun c u hc q => hk c u (fun e => hc (by simp [e])) (fun e => hc (by simp [e])) (fun e => hc (by simp [e])) (fun e => hc (by simp [e])) q) hf⟩
  self := fun A i s Q E st q => by
    rcases st.1 with a1 | ⟨T, f, a1⟩
    · exact wpAny_pyIter_zip a1 q
    · have hTy : s.TypeIs (.ref z) "zip" := ⟨_, a1, rfl⟩
      refine wpAny_pyIter_slot hTy F.slot_zip_iter (wpAny_call_entry F.slot_zip_iter hTy F.entry_zip_iter ?_ (F.args_zip_iter_1 _))
      show wpAny _ _ (ret (.ref z)) _ _ s
      exact wpAny_pure ⟨_, rfl, "zip", _, hTy, F.slot_zip_next.lookup, q⟩
end L2
namespace L2
open PySem
open Sem (wp)
abbrev zt1 (h : Heap) (l1 : Addr) : Heap := h.push { cls := .type "tuple_iterator", data := .fields #[.ref l1, .int 0 0] }
abbrev zt2 (h : Heap) (l1 l : Addr) : Heap := (zt1 h l1).push { cls := .type "tuple_iterator", data := .fields #[.ref l, .int 0 0] }
abbrev zt3 (h : Heap) (l1 l : Addr) : Heap := (zt2 h l1 l).push { cls := .type "tuple", data := .seq #[.ref h.objs.size, .ref (zt1 h l1).objs.size] }
abbrev zt4 (h : Heap) (l1 l : Addr) : Heap := (zt3 h l1 l).push { cls := .type "tuple", data := .seq #[.none, .none] }
abbrev zt5 (h : Heap) (l1 l : Addr) : Heap := (zt4 h l1 l).push { cls := .type "zip", data := .fields #[.none, .bool false, .bool false, .ref (zt2 h l1 l).objs.size, .ref (zt3 h l1 l).objs.size] }
set_option maxHeartbeats 4000000 in
theorem zip_newTT (l1 l : Addr) (xs ys : Array Value) :
    Meets (Builtin.«zip.__new__» ⟨[.type "zip", .ref l1, .ref l], []⟩) (fun _ R s => s.heap.IsTuple l1 xs ∧ s.heap.IsTuple l ys ∧
      R (.ok (.ret (.ref (zt4 s.heap l1 l).objs.size))) { s with heap := zt5 s.heap l1 l }) :=
  .of_wp fun prog w A R s h => by
    obtain ⟨hp, g, d, tk, os⟩ := s; obtain ⟨hl1, hl, h⟩ := h
    have hsub := sub_zip
    have hL : Heap.IsTuple (Shared.heap ⟨hp.push { cls := .type "tuple_iterator", data := .fields #[.ref l1, .int 0 0] }, g, d, tk, os⟩) l ys := IsTuple_push hl _
    wp_walk using wpAny_pyIter_tuple hl1, wpAny_pyIter_tuple hL
    exact ⟨_, rfl, h⟩
section
variable {prog : Program} {w : World} {A : Around} {E : Value → Shared → Prop} {s : Shared}
theorem call_zipTT {l1 l : Addr} {xs ys : Array Value} {Q : Value → Shared → Prop} (hl1 : s.heap.IsTuple l1 xs) (hl : s.heap.IsTuple l ys)
    (h : ∀ h', IsZip h' (s.heap.objs.size + 4) (s.heap.objs.size + 2) (s.heap.objs.size + 3) .none → IsPair h' (s.heap.objs.size + 2) (.ref s.heap.objs.size) (.ref (s.heap.objs.size + 1)) →
      IsPair h' (s.heap.objs.size + 3) .none .none → h'.IsTupleIter s.heap.objs.size l1 0 → h'.IsTupleIter (s.heap.objs.size + 1) l 0 →
      (∀ c o, s.heap.get? c = some o → h'.get? c = some o) → Q (.ref (s.heap.objs.size + 4)) { s with heap := h' }) :
    wpAny (model prog w) A (call (.type "zip") [.ref l1, .ref l]) Q E s := by
  refine callType_new F.called_zip (by decide) (F.typeCall_zip_2 _ _) (F.newCall_zip_2 _ _) (fun obj => F.args_object_init_3 obj _ _) F.entry_zip_new (zip_newTT l1 l xs ys) ⟨hl1, hl, ?_⟩
  have z1 : (zt1 s.heap l1).objs.size = s.heap.objs.size + 1 := Heap.size_push ..
  have z2 : (zt2 s.heap l1 l).objs.size = s.heap.objs.size + 2 := by rw [Heap.size_push, z1]
  have z3 : (zt3 s.heap l1 l).objs.size = s.heap.objs.size + 3 := by rw [Heap.size_push, z2]
  have z4 : (zt4 s.heap l1 l).objs.size = s.heap.objs.size + 4 := by rw [Heap.size_push, z3]
  have p5 : (zt5 s.heap l1 l).get? (zt4 s.heap l1 l).objs.size = some _ := Heap.get?_push_size _ rfl
  have p4 : (zt5 s.heap l1 l).get? (zt3 s.heap l1 l).objs.size = some _ := Heap.get?_push_of_some _ (Heap.get?_push_size _ rfl)
  have p3 : (zt5 s.heap l1 l).get? (zt2 s.heap l1 l).objs.size = some _ := Heap.get?_push_of_some _ (Heap.get?_push_of_some _ (Heap.get?_push_size _ rfl))
  have p2 : (zt5 s.heap l1 l).get? (zt1 s.heap l1).objs.size = some _ := Heap.get?_push_of_some _ (Heap.get?_push_of_some _ (Heap.get?_push_of_some _ (Heap.get?_push_size _ rfl)))
  have p1 : (zt5 s.heap l1 l).get? s.heap.objs.size = some _ := Heap.get?_push_of_some _ (Heap.get?_push_of_some _ (Heap.get?_push_of_some _ (Heap.get?_push_of_some _ (Heap.get?_push_size _ rfl))))
  show _ ∧ _
  rw [z2, z3, z4] at p5
  rw [z1, z2] at p3
  rw [z3] at p4
  rw [z1] at p2
  rw [z4]
  exact ⟨⟨_, p5, rfl⟩, h _ p5 p3 p4 ⟨_, p1, rfl, rfl⟩ ⟨_, p2, rfl, rfl⟩ fun c o e => Heap.get?_push_of_some _ (Heap.get?_push_of_some _ (Heap.get?_push_of_some _ (Heap.get?_push_of_some _ (Heap.get?_push_of_some _ e))))⟩
end
open PySem.Spec PyProof.Rows
section
variable {X : Cx}
def zpItT (R : It → Hp → Prop) : V → V → Hp → Prop := fun x y H1 => match x, y with
  | .ref b, .ref a => ∃ xs ys, H1 b = some (.tup xs) ∧ H1 a = some (.tup ys) ∧ R (Izp xs ys fun H => H b = some (.tup xs) ∧ H a = some (.tup ys)) H1
  | _, _ => False
def iZipT (ta tb : TE) : TI := fun σ H R => ta σ H fun x H1 => tb σ H1 fun y H2 => zpItT R x y H2
theorem pi_zipT {nm : Str} {tpos : Pos} {a b : Expr} {ta tb : TE} {p pos : Pos} (hg : Gl X "zip") (hm : X.mg "zip" = none) (ha : PE X a ta) (hb : PE X b tb) (hs : starEach [a, b] X.env = (false, eval a X.env) :: starEach [b] X.env := by rfl) (hs2 : starEach [b] X.env = [(false, eval b X.env)] := by rfl) :
    PI X (.Name nm tpos) (.Call (.Name "zip" p) [a, b] [] pos) (iZipT ta tb) := by
  intro pins s σ H R I h
  refine Call_ (ld_blt I hg hm (by decide +kernel : bootBuiltins "zip" = some (.type "zip")) (PyProof.Rows.callWith_type1 ?_ hs (by rw [hs2]; rfl)))
  rw [hs, hs2]
  show wpAny _ _ (spliced ((false, eval a X.env) :: backTo pos [(false, eval b X.env)])) _ _ s
  refine Calls.spliced_cons (thn (ha pins s σ H _ I h) fun u s1 ⟨x, H1, I1, ru, q1⟩ => ?_)
  show wpAny _ _ (spliced ((false, eval b X.env) :: [])) _ _ s1
  refine Calls.spliced_cons (thn (hb pins s1 σ H1 _ I1 q1) fun u2 s2 ⟨y, H2, I2, ru2, q2⟩ => Calls.spliced_nil ?_)
  have q2 : zpItT R x y H2 := q2
  obtain ⟨l0, l, rfl, rfl⟩ : ∃ l0 l, x = .ref l0 ∧ y = .ref l := by
    unfold zpItT at q2
    split at q2
    · exact ⟨_, _, rfl, rfl⟩
    · exact q2.elim
  cases ru
  cases ru2
  obtain ⟨xs, ys, hl0, hl, q2⟩ := q2
  obtain ⟨its0, rv0, pl0, hz0⟩ := I2.tuple (SqT.of hl0)
  obtain ⟨its, rv, pl, hz⟩ := I2.tuple (SqT.of hl)
  refine call_zipTT pl0 pl fun h1 c1 c2 c3 c4 c5 hk => ?_
  refine wpAny_pyIter_zip c1 ?_
  refine ⟨_, [_, _, _, _, _], _, _, H2, rfl, I2.kept (t' := s2.toks) hk, turn_zipN (z := s2.heap.objs.size + 4) (TI := s2.heap.objs.size + 2) (TO := s2.heap.objs.size + 3) (i1 := s2.heap.objs.size) (i2 := s2.heap.objs.size + 1) (ok := fun H => H l0 = some (.tup xs) ∧ H l = some (.tup ys)) (xs := xs) (ys := ys)
    (S1 := fun i h => h.IsTupleIter s2.heap.objs.size l0 i) (S2 := fun i h => h.IsTupleIter (s2.heap.objs.size + 1) l i) (zn1 (by decide)) (zn1 (by decide)) (zn2 (by decide)) (zn1 (by decide)) (zn1 (by decide)) (zn3 (by decide)) (zn1 (by decide)) (zn3 (by decide)) (zn1 (by decide)) (zn2 (by decide)) ?_ ?_ ?_ ?_ ?_ ?_, ⟨.inl c1, c2, ⟨_, _, c3⟩, c4, c5⟩, ?_, q2⟩
  · intro X' h1 h2 h3 hc i pins s σ H I ok hn st
    exact h1 ▸ h2 ▸ drawTup hc I (SqT.of ok.1) hn (by rw [ok.1]; exact fun z => nomatch z) st
  · intro X' h1 h2 h3 hc i pins s σ H I ok hn st
    exact h1 ▸ h2 ▸ drawTup hc I (SqT.of ok.2) hn (by rw [ok.2]; exact fun z => nomatch z) st
  · intro i h st
    obtain ⟨o, ho, hc, hd⟩ := st
    exact ⟨o, ho, fun v q => by rw [hd] at q; cases q⟩
  · intro i h st
    obtain ⟨o, ho, hc, hd⟩ := st
    exact ⟨o, ho, fun v q => by rw [hd] at q; cases q⟩
  · intro i h h' st kk
    exact st.at kk
  · intro i h h' st kk
    exact st.at kk
  · intro c hc
    have hle : s2.heap.objs.size ≤ c := by
      simp only [List.mem_cons, List.not_mem_nil, or_false] at hc
      rcases hc with q | q | q | q | q <;> rw [q] <;> first | exact Nat.le_add_right _ _ | exact Nat.le_refl _
    exact I2.fpOk hle (I2.hok.fresh hle)
end
end L2
namespace L2
open PySem PySem.Spec PyProof.Rows
theorem ltC_drop : ∀ {y : List Nat}, y ≠ [] → ltCps y.dropLast y = true
  | [], h => absurd rfl h
  | [c], _ => rfl
  | c :: d :: r, _ => by
    have ih := ltC_drop (y := d :: r) (by simp)
    rw [List.dropLast_cons₂]
    simp only [ltCps, ih, Bool.and_true, beq_self_eq_true, Bool.or_true]
structure Nms (ns : List (List Nat)) : Prop where
  nd : ns.Nodup
  so : ns.Pairwise leC
  root : [] ∈ ns
  par : ∀ y ∈ ns, y ≠ [] → y.dropLast ∈ ns
def kid (z y : List Nat) : Bool := decide (y ≠ [] ∧ y.dropLast = z)
def waysN (ns : List (List Nat)) (z : List Nat) (n : Nat) : List (Nat × Nat) := (List.range n).filterMap fun j => if kid z (ns.getD j []) = true then some ((ns.getD j []).getLastD 0, j) else none
theorem waysN_succ (ns : List (List Nat)) (z : List Nat) (n : Nat) : waysN ns z (n + 1) = waysN ns z n ++ (if kid z (ns.getD n []) = true then [((ns.getD n []).getLastD 0, n)] else []) := by
  unfold waysN
  rw [List.range_succ, List.filterMap_append]
  congr 1
  by_cases h : kid z (ns.getD n []) = true
  · rw [if_pos h]; simp only [List.filterMap_cons, List.filterMap_nil, if_pos h]
  · rw [if_neg h]; simp only [List.filterMap_cons, List.filterMap_nil, if_neg h]
theorem waysN_len (ns : List (List Nat)) (z : List Nat) (n : Nat) : (waysN ns z n).length ≤ n := by
  have := List.length_filterMap_le (fun j => if kid z (ns.getD j []) = true then some ((ns.getD j []).getLastD 0, j) else none) (List.range n)
  rw [List.length_range] at this
  exact this
theorem mem_ways {ns : List (List Nat)} {z : List Nat} {n : Nat} {p : Nat × Nat} : p ∈ waysN ns z n ↔ p.2 < n ∧ kid z (ns.getD p.2 []) = true ∧ p.1 = (ns.getD p.2 []).getLastD 0 := by
  unfold waysN
  rw [List.mem_filterMap]
  constructor
  · rintro ⟨j, hj, h⟩
    rw [List.mem_range] at hj
    by_cases hk : kid z (ns.getD j []) = true
    · rw [if_pos hk] at h
      cases h
      exact ⟨hj, hk, rfl⟩
    · rw [if_neg hk] at h; cases h
  · rintro ⟨h1, h2, h3⟩
    refine ⟨p.2, List.mem_range.mpr h1, ?_⟩
    rw [if_pos h2, ← h3]
theorem kid_eq {z y : List Nat} (h : kid z y = true) : y = z ++ [y.getLastD 0] := by
  unfold kid at h
  obtain ⟨h1, h2⟩ := of_decide_eq_true h
  have := List.dropLast_concat_getLast h1
  rw [h2] at this
  rw [List.getLastD_eq_getLast?, List.getLast?_eq_getLast h1]
  exact this.symm
theorem getD_lt {ns : List (List Nat)} {i : Nat} (h : i < ns.length) : ns.getD i [] = ns[i] := by
  rw [List.getD_eq_getElem?_getD, List.getElem?_eq_getElem h]; rfl
theorem Nms.lt {ns : List (List Nat)} (h : Nms ns) {i j : Nat} (hij : i < j) (hj : j < ns.length) : leC ns[i] ns[j] ∧ ns[i] ≠ ns[j] :=
  ⟨List.pairwise_iff_getElem.mp h.so i j (by omega) hj hij, List.pairwise_iff_getElem.mp h.nd i j (by omega) hj hij⟩
theorem Nms.up {ns : List (List Nat)} (h : Nms ns) {i : Nat} (hi : i < ns.length) (hne : ns[i] ≠ []) : ∃ p, ∃ hp : p < i, ns[p] = ns[i].dropLast := by
  obtain ⟨p, hp, e⟩ := List.getElem_of_mem (h.par _ (List.getElem_mem hi) hne)
  have hlt := ltC_drop hne
  rcases Nat.lt_trichotomy p i with h1 | h1 | h1
  · exact ⟨p, h1, e⟩
  · subst h1
    rw [← e, ltC_irrefl] at hlt; cases hlt
  · have := (h.lt h1 hp).1
    unfold leC at this
    rw [e, hlt] at this; cases this
theorem Nms.zero {ns : List (List Nat)} (h : Nms ns) : ∃ h0 : 0 < ns.length, ns[0] = [] := by
  obtain ⟨p, hp, e⟩ := List.getElem_of_mem h.root
  rcases Nat.eq_zero_or_pos p with h1 | h1
  · subst h1; exact ⟨hp, e⟩
  · exfalso
    obtain ⟨a, b⟩ := h.lt h1 hp
    rw [e] at a b
    unfold leC at a
    cases e2 : ns[0] with
    | nil => exact b e2
    | cons x r => rw [e2] at a; simp [ltCps] at a
theorem ways_none {ns : List (List Nat)} (h : Nms ns) {i : Nat} (hi : i < ns.length) : ∀ {n : Nat}, n ≤ i + 1 → waysN ns ns[i] n = []
  | 0, _ => rfl
  | n + 1, hn => by
    rw [waysN_succ, ways_none h hi (by omega), List.nil_append]
    have hn' : n < ns.length := by omega
    rw [getD_lt hn']
    by_cases hk : kid ns[i] ns[n] = true
    · exfalso
      unfold kid at hk
      obtain ⟨h1, h2⟩ := of_decide_eq_true hk
      obtain ⟨p, hp, e⟩ := h.up hn' h1
      rw [h2] at e
      exact (h.lt (show p < i by omega) hi).2 e
    · rw [if_neg hk]
theorem kid_iff {ns : List (List Nat)} (h : Nms ns) {i k p : Nat} (hi : i < ns.length) (hk : k < ns.length) (hp : p < ns.length) (hne : ns[i] ≠ []) (e : ns[p] = ns[i].dropLast) : kid ns[k] ns[i] = decide (k = p) := by
  unfold kid
  by_cases q : k = p
  · subst q
    rw [decide_eq_true ⟨hne, e.symm⟩, decide_eq_true rfl]
  · rw [decide_eq_false q, decide_eq_false fun z => ?_]
    rw [z.2] at e
    rcases Nat.lt_or_gt_of_ne q with l | l
    · exact (h.lt l hp).2 e.symm
    · exact (h.lt l hk).2 e
theorem begs_nms {xs : List Pat} {ns : List (List Nat)} (hp : ns.Perm (begs xs)) (hs : sortedS (ns.map S) = true) : Nms ns := by
  refine ⟨hp.nodup_iff.mpr (nodup_begs xs), ?_, hp.mem_iff.mpr (mem_begs.mpr (.inl rfl)), fun y hy hne => ?_⟩
  · have := sortedS_pw hs
    rw [List.pairwise_map] at this
    exact this.imp fun {a b} h => by simpa [S_cps] using h
  · rw [hp.mem_iff, mem_begs] at hy ⊢
    rcases hy with rfl | ⟨x, hx, e, h1, h2, rfl⟩
    · exact absurd rfl hne
    · rw [List.dropLast_eq_take, List.take_take, List.length_take, Nat.min_eq_left h2, Nat.min_eq_left (Nat.sub_le _ _)]
      rcases Nat.eq_or_lt_of_le h1 with h | h
      · left; rw [← h]; simp
      · refine .inr ⟨x, hx, e - 1, by omega, by omega, ?_⟩
        rfl
theorem names_of {l : List (List Nat)} {ms : List Str} (h : ms.Perm (l.map S)) : ∃ ns : List (List Nat), ms = ns.map S ∧ ns.Perm l := by
  refine ⟨ms.map fun z => z.cps.toList, ?_, ?_⟩
  · rw [List.map_map]
    conv => lhs; rw [← List.map_id ms]
    refine List.map_congr_left fun z _ => ?_
    obtain ⟨⟨z⟩⟩ := z
    rfl
  · have := h.map fun z => z.cps.toList
    rw [List.map_map] at this
    have e : (l.map ((fun z : Str => z.cps.toList) ∘ S)) = l := by
      conv => rhs; rw [← List.map_id l]
      exact List.map_congr_left fun z _ => by simp [S_cps]
    rw [e] at this
    exact this
end L2
namespace L2
open PySem PySem.Spec PyProof.Rows
abbrev Kt := List (Nat × Nat) × Option (List Int)
structure GoodW (xs : List Pat) (ks : List Kt) (nm : Nat → List Nat) : Prop where
  z : nm 0 = []
  pos : 0 < ks.length
  way : ∀ i (h : i < ks.length) c p, ks[i].1.find? (fun q => decide (q.1 = c)) = some p → p.2 < ks.length ∧ nm p.2 = nm i ++ [c]
  no : ∀ i (h : i < ks.length) c, ks[i].1.find? (fun q => decide (q.1 = c)) = none → nm i ++ [c] ∉ begs xs
  num : ∀ i (h : i < ks.length), ks[i].2 = (lookP (grt xs) (nm i)).map (·.2)
def fitsB (gs : List Pat) (f : List Nat) (b n : Nat) : List Fit := (List.range n).filterMap fun e => (lookP gs ((f.drop b).take (e + 1))).map fun g => (b, g.2)
theorem fitsB_succ (gs : List Pat) (f : List Nat) (b n : Nat) : fitsB gs f b (n + 1) = fitsB gs f b n ++ (match (lookP gs ((f.drop b).take (n + 1))).map (·.2) with | none => [] | some g => [(b, g)]) := by
  unfold fitsB
  rw [List.range_succ, List.filterMap_append]
  congr 1
  cases e : lookP gs ((f.drop b).take (n + 1)) with
  | none => simp only [List.filterMap_cons, List.filterMap_nil, e, Option.map_none]
  | some g => simp only [List.filterMap_cons, List.filterMap_nil, e, Option.map_some]
theorem fitsB_len (gs : List Pat) (f : List Nat) (b n : Nat) : (fitsB gs f b n).length ≤ n := by
  have := List.length_filterMap_le (fun e => (lookP gs ((f.drop b).take (e + 1))).map fun g => (b, g.2)) (List.range n)
  rw [List.length_range] at this
  exact this
theorem grt_names : ∀ {xs gs : List Pat} {g : Pat}, g ∈ xs.foldl grtS gs → g ∈ gs ∨ ∃ x ∈ xs, g.1 = x.1
  | [], gs, g, h => .inl h
  | x :: xs, gs, g, h => by
    rcases grt_names (xs := xs) h with h | ⟨y, hy, e⟩
    · rcases mem_putG h with h | h
      · exact .inl h
      · exact .inr ⟨x, List.mem_cons_self, by rw [h]⟩
    · exact .inr ⟨y, List.mem_cons_of_mem _ hy, e⟩
theorem look_begs {xs : List Pat} {z : List Nat} {g : Pat} (h : lookP (grt xs) z = some g) : z ∈ begs xs := by
  obtain ⟨h1, h2⟩ := lookP_mem h
  rcases grt_names h1 with h | ⟨x, hx, e⟩
  · cases h
  · rw [← h2, e]; exact begs_self hx
theorem begs_take {xs : List Pat} {z : List Nat} (h : z ∈ begs xs) (k : Nat) : z.take k ∈ begs xs := by
  rcases mem_begs.mp h with rfl | ⟨x, hx, e, h1, h2, rfl⟩
  · rw [List.take_nil]; exact h
  · rw [List.take_take]
    rcases Nat.eq_zero_or_pos (min k e) with q | q
    · rw [q]; exact begs_nil xs
    · exact mem_begs.mpr (.inr ⟨x, hx, min k e, q, by omega, rfl⟩)
theorem fitsB_stop {xs : List Pat} {f : List Nat} {b e : Nat} (h : (f.drop b).take (e + 1) ∉ begs xs) : ∀ n, e ≤ n → fitsB (grt xs) f b n = fitsB (grt xs) f b e
  | 0, hn => by have : e = 0 := by omega
                rw [this]
  | n + 1, hn => by
    rcases Nat.eq_or_lt_of_le hn with q | q
    · rw [q]
    · have ih := fitsB_stop h n (by omega)
      rw [fitsB_succ, ih]
      have : lookP (grt xs) ((f.drop b).take (n + 1)) = none := by
        cases e2 : lookP (grt xs) ((f.drop b).take (n + 1)) with
        | none => rfl
        | some g =>
          exfalso
          have := begs_take (look_begs e2) (e + 1)
          rw [List.take_take, Nat.min_eq_left (by omega)] at this
          exact h this
      rw [this]
      simp
def fitsW (gs : List Pat) (f : List Nat) (n : Nat) : List Fit := (List.range n).flatMap fun b => fitsB gs f b (f.length - b)
theorem fitsW_succ (gs : List Pat) (f : List Nat) (n : Nat) : fitsW gs f (n + 1) = fitsW gs f n ++ fitsB gs f n (f.length - n) := by
  unfold fitsW
  rw [List.range_succ, List.flatMap_append]
  simp
theorem mem_fitsB {gs : List Pat} {f : List Nat} {b n : Nat} {x : Fit} : x ∈ fitsB gs f b n ↔ ∃ e, e < n ∧ ∃ g, lookP gs ((f.drop b).take (e + 1)) = some g ∧ x = (b, g.2) := by
  unfold fitsB
  rw [List.mem_filterMap]
  constructor
  · rintro ⟨e, he, h⟩
    rw [List.mem_range] at he
    cases e2 : lookP gs ((f.drop b).take (e + 1)) with
    | none => rw [e2] at h; cases h
    | some g => rw [e2] at h; cases h; exact ⟨e, he, g, e2, rfl⟩
  · rintro ⟨e, he, g, h, rfl⟩
    exact ⟨e, List.mem_range.mpr he, by rw [h]; rfl⟩
theorem mem_fitsW {gs : List Pat} {f : List Nat} {n : Nat} {x : Fit} : x ∈ fitsW gs f n ↔ ∃ b, b < n ∧ ∃ e, e < f.length - b ∧ ∃ g, lookP gs ((f.drop b).take (e + 1)) = some g ∧ x = (b, g.2) := by
  unfold fitsW
  rw [List.mem_flatMap]
  constructor
  · rintro ⟨b, hb, h⟩
    exact ⟨b, List.mem_range.mp hb, mem_fitsB.mp h⟩
  · rintro ⟨b, hb, h⟩
    exact ⟨b, List.mem_range.mpr hb, mem_fitsB.mpr h⟩
theorem layF_le (q : Nat) (c : Int) : ∀ (fs : List Fit) (t : List Int), q < t.length → ((layF t fs).getD q 0 ≤ c ↔ t.getD q 0 ≤ c ∧ ∀ x ∈ fs, x.1 ≤ q → q < x.1 + x.2.length → x.2.getD (q - x.1) 0 ≤ c)
  | [], t, _ => ⟨fun h => ⟨h, fun x hx => nomatch hx⟩, fun h => h.1⟩
  | x :: fs, t, hq => by
    have ih := layF_le q c fs (laid t x.1 x.2) (by rw [laid_length]; exact hq)
    show (layF (laid t x.1 x.2) fs).getD q 0 ≤ c ↔ _
    rw [ih, laid_get _ _ _ _ hq, laidN_eq]
    constructor
    · rintro ⟨h1, h2⟩
      by_cases hc : x.1 ≤ q ∧ q < x.1 + x.2.length
      · rw [if_pos hc, mx_le] at h1
        refine ⟨h1.1, fun y hy => ?_⟩
        rcases List.mem_cons.mp hy with rfl | hy
        · exact fun _ _ => h1.2
        · exact h2 y hy
      · rw [if_neg hc] at h1
        refine ⟨h1, fun y hy => ?_⟩
        rcases List.mem_cons.mp hy with rfl | hy
        · exact fun a b => absurd ⟨a, b⟩ hc
        · exact h2 y hy
    · rintro ⟨h1, h2⟩
      refine ⟨?_, fun y hy => h2 y (List.mem_cons_of_mem _ hy)⟩
      by_cases hc : x.1 ≤ q ∧ q < x.1 + x.2.length
      · rw [if_pos hc, mx_le]
        exact ⟨h1, h2 x List.mem_cons_self hc.1 hc.2⟩
      · rw [if_neg hc]; exact h1
theorem eq_of_le {a b : Int} (h : ∀ c, a ≤ c ↔ b ≤ c) : a = b := by
  have h1 := (h b).mpr (Int.le_refl _)
  have h2 := (h a).mp (Int.le_refl _)
  omega
theorem wood_vals {xs : List Pat} (hx : ∀ x ∈ xs, 1 ≤ x.1.length ∧ x.2.length = x.1.length + 1) (w : List Nat) (hw : 1 ≤ w.length) : cutA (layF (List.replicate (w.length + 3) 0) (fitsW (grt xs) (frame w) (frame w).length)) (some 2) (some (-2)) = vals xs w := by
  rw [← program_vals xs w hw]
  have hg := fun z => grt_look (xs := xs) (fun x h => (hx x h).2) xs.length (Nat.le_refl _) z
  rw [List.take_length] at hg
  congr 1
  rw [frame_length]
  obtain ⟨t1, t2⟩ := tellA_get (frame w) xs (List.replicate (w.length + 2 + 1) 0)
  rw [List.length_replicate] at t1 t2
  apply ext_getD
  · rw [layF_length, t1, List.length_replicate]
  · intro q hq
    rw [layF_length, List.length_replicate] at hq
    rw [t2 q (by omega), rep_get]
    refine eq_of_le fun c => ?_
    rw [layF_le q c _ _ (by rw [List.length_replicate]; exact hq), rep_get, numA_le]
    refine and_congr_right fun _ => ?_
    constructor
    · rintro h v ⟨x, hxm, b, hb, h1, h2, rfl⟩
      obtain ⟨p1, p2, p3⟩ := mem_places.mp hb
      obtain ⟨hl, hl2⟩ := hx x hxm
      cases e : lookP (grt xs) x.1 with
      | none => exact absurd rfl ((hg x.1).1 e x hxm)
      | some g =>
        obtain ⟨g1, g2⟩ := (hg x.1).2 g e
        have hm : (b, g.2) ∈ fitsW (grt xs) (frame w) (w.length + 2) := by
          refine mem_fitsW.mpr ⟨b, by rw [frame_length] at p1; exact p1, x.1.length - 1, by omega, g, ?_, rfl⟩
          rw [show x.1.length - 1 + 1 = x.1.length by omega, p3]; exact e
        have := h _ hm h1 (by show q < b + g.2.length; rw [g1]; omega)
        exact (g2 (q - b) c (by omega)).mp this x hxm rfl
    · rintro h y hy h1 h2
      obtain ⟨b, hb, e, he, g, hlk, rfl⟩ := mem_fitsW.mp hy
      obtain ⟨g1, g2⟩ := (hg _).2 g hlk
      have hl : ((frame w).drop b |>.take (e + 1)).length = e + 1 := by rw [List.length_take, List.length_drop]; omega
      have h1 : b ≤ q := h1
      have h2 : q < b + g.2.length := h2
      rw [g1, hl] at h2
      refine (g2 (q - b) c (by rw [hl]; omega)).mpr fun x hxm hxe => h _ ⟨x, hxm, b, ?_, h1, ?_, rfl⟩
      · refine mem_places.mpr ⟨by rw [frame_length]; exact hb, ?_, ?_⟩
        · rw [hxe, hl]; omega
        · rw [hxe, hl]
      · rw [(hx x hxm).2, hxe, hl]; omega
theorem fitsW_in {xs : List Pat} (hx : ∀ x ∈ xs, x.2.length = x.1.length + 1) {f : List Nat} {n : Nat} : ∀ x ∈ fitsW (grt xs) f n, x.1 + x.2.length ≤ f.length + 1 := fun x h => by
  obtain ⟨b, hb, e, he, g, hlk, rfl⟩ := mem_fitsW.mp h
  have hg := grt_look (xs := xs) hx xs.length (Nat.le_refl _) ((f.drop b).take (e + 1))
  rw [List.take_length] at hg
  have := (hg.2 g hlk).1
  rw [List.length_take, List.length_drop] at this
  show b + g.2.length ≤ _
  omega
def woodK (ns : List (List Nat)) (gs : List Pat) : List Kt := (List.range ns.length).map fun i => (waysN ns (ns.getD i []) ns.length, (lookP gs (ns.getD i [])).map (·.2))
theorem find_ways {ns : List (List Nat)} {z : List Nat} {n c : Nat} : (∀ p, (waysN ns z n).find? (fun q => decide (q.1 = c)) = some p → p.2 < n ∧ ns.getD p.2 [] = z ++ [c]) ∧ ((waysN ns z n).find? (fun q => decide (q.1 = c)) = none → ∀ j, j < n → ns.getD j [] ≠ z ++ [c]) := by
  constructor
  · intro p hp
    obtain ⟨b1, b2, b3⟩ := mem_ways.mp (List.mem_of_find?_eq_some hp)
    have hc : p.1 = c := by have := List.find?_some hp; simpa using this
    have := kid_eq b2
    rw [← b3, hc] at this
    exact ⟨b1, this⟩
  · intro hn j hj e
    have hk : kid z (ns.getD j []) = true := by
      unfold kid
      rw [e]
      exact decide_eq_true ⟨by simp, by simp⟩
    have hm : (c, j) ∈ waysN ns z n := mem_ways.mpr ⟨hj, hk, by rw [e]; simp⟩
    have := List.find?_eq_none.mp hn _ hm
    simp at this
theorem woodK_good {xs : List Pat} {ns : List (List Nat)} (hN : Nms ns) (hp : ns.Perm (begs xs)) : GoodW xs (woodK ns (grt xs)) (fun i => ns.getD i []) := by
  obtain ⟨h0, e0⟩ := hN.zero
  have hl : (woodK ns (grt xs)).length = ns.length := by unfold woodK; rw [List.length_map, List.length_range]
  have hi : ∀ i (h : i < (woodK ns (grt xs)).length), (woodK ns (grt xs))[i] = (waysN ns (ns.getD i []) ns.length, (lookP (grt xs) (ns.getD i [])).map (·.2)) := fun i h => by
    simp only [woodK, List.getElem_map, List.getElem_range]
  refine ⟨by rw [getD_lt h0, e0], by omega, fun i h c p hf => ?_, fun i h c hf hm => ?_, fun i h => by rw [hi i h]⟩
  · rw [hi i h] at hf
    rw [hl]
    exact find_ways.1 p hf
  · rw [hi i h] at hf
    obtain ⟨j, hj, e⟩ := List.getElem_of_mem (hp.mem_iff.mpr hm)
    exact find_ways.2 hf j hj (by rw [getD_lt hj]; exact e)
end L2
namespace L2
open PySem PySem.Spec PyProof.Rows
def kAt (ks : List Kt) (m : Nat) : Kt := ks.getD m ([], none)
def turnK (ord : List Nat) (ks : List Kt) : List Kt := ord.map fun m => ((kAt ks m).1.map fun p => (p.1, ord.idxOf p.2), (kAt ks m).2)
theorem kAt_lt {ks : List Kt} {m : Nat} (h : m < ks.length) : kAt ks m = ks[m] := by
  unfold kAt; rw [List.getD_eq_getElem?_getD, List.getElem?_eq_getElem h]; rfl
theorem turn_good {xs : List Pat} {ks : List Kt} {nm : Nat → List Nat} (h : GoodW xs ks nm) {ord : List Nat} (hp : ord.Perm (List.range ks.length)) (h0 : ord[0]? = some 0) : GoodW xs (turnK ord ks) (fun k => nm (ord.getD k 0)) := by
  have hl : ord.length = ks.length := by rw [hp.length_eq, List.length_range]
  have hlt : ∀ m ∈ ord, m < ks.length := fun m hm => List.mem_range.mp (hp.mem_iff.mp hm)
  have hnd : ord.Nodup := hp.nodup_iff.mpr List.nodup_range
  have htl : (turnK ord ks).length = ord.length := by unfold turnK; rw [List.length_map]
  have hi : ∀ i (h : i < (turnK ord ks).length), ∃ (hio : i < ord.length) (hm : ord[i] < ks.length), (turnK ord ks)[i] = (ks[ord[i]].1.map fun p => (p.1, ord.idxOf p.2), ks[ord[i]].2) ∧ ord.getD i 0 = ord[i] := fun i hh => by
    have hio : i < ord.length := by omega
    have hm := hlt _ (List.getElem_mem hio)
    refine ⟨hio, hm, ?_, by rw [List.getD_eq_getElem?_getD, List.getElem?_eq_getElem hio]; rfl⟩
    simp only [turnK, List.getElem_map, kAt_lt hm]
  refine ⟨?_, by rw [htl, hl]; exact h.pos, fun i hh c p hf => ?_, fun i hh c hf => ?_, fun i hh => ?_⟩
  · show nm (ord.getD 0 0) = []
    rw [List.getD_eq_getElem?_getD, h0]; exact h.z
  · obtain ⟨hio, hm, e, eo⟩ := hi i hh
    rw [e] at hf
    simp only [List.find?_map] at hf
    cases e2 : ks[ord[i]].1.find? (fun q => decide (q.1 = c)) with
    | none =>
      have : ks[ord[i]].1.find? ((fun q : Nat × Nat => decide (q.1 = c)) ∘ fun p => (p.1, ord.idxOf p.2)) = none := e2
      rw [this] at hf; cases hf
    | some q =>
      have : ks[ord[i]].1.find? ((fun q : Nat × Nat => decide (q.1 = c)) ∘ fun p => (p.1, ord.idxOf p.2)) = some q := e2
      rw [this] at hf
      cases hf
      obtain ⟨w1, w2⟩ := h.way ord[i] hm c q e2
      have hq : q.2 ∈ ord := hp.mem_iff.mpr (List.mem_range.mpr w1)
      have hqi := List.idxOf_lt_length_iff.mpr hq
      refine ⟨by rw [htl]; exact hqi, ?_⟩
      show nm (ord.getD (ord.idxOf q.2) 0) = nm (ord.getD i 0) ++ [c]
      rw [eo, ← w2, List.getD_eq_getElem?_getD, List.getElem?_eq_getElem hqi]
      show nm ord[ord.idxOf q.2] = nm q.2
      rw [List.getElem_idxOf hqi]
  · obtain ⟨hio, hm, e, eo⟩ := hi i hh
    rw [e] at hf
    simp only [List.find?_map] at hf
    have e2 : ks[ord[i]].1.find? (fun q => decide (q.1 = c)) = none := by
      cases e2 : ks[ord[i]].1.find? (fun q => decide (q.1 = c)) with
      | none => rfl
      | some q =>
        have : ks[ord[i]].1.find? ((fun q : Nat × Nat => decide (q.1 = c)) ∘ fun p => (p.1, ord.idxOf p.2)) = some q := e2
        rw [this] at hf; cases hf
    show nm (ord.getD i 0) ++ [c] ∉ begs xs
    rw [eo]
    exact h.no ord[i] hm c e2
  · obtain ⟨hio, hm, e, eo⟩ := hi i hh
    rw [e]
    show ks[ord[i]].2 = (lookP (grt xs) (nm (ord.getD i 0))).map (·.2)
    rw [eo]
    exact h.num ord[i] hm
theorem val_rangeI {ord : List Nat} (hn : ord.Nodup) : ∀ {i p : Nat}, i ≤ ord.length → p < i → valV ((List.range i).map fun k => ((Sum.inl ((ord.getD k 0 : Nat) : Int) : Key), V.int (k : Int))) (Sum.inl ((ord.getD p 0 : Nat) : Int)) = some (.int (p : Int)) := by
  intro i p hi hp
  have gd : ∀ k, k < ord.length → ∃ h : k < ord.length, ord.getD k 0 = ord[k] := fun k h => ⟨h, by rw [List.getD_eq_getElem?_getD, List.getElem?_eq_getElem h]; rfl⟩
  unfold valV
  have hf : ((List.range i).map fun k => ((Sum.inl ((ord.getD k 0 : Nat) : Int) : Key), V.int (k : Int))).find? (fun kv => decide (kv.1 = (Sum.inl ((ord.getD p 0 : Nat) : Int) : Key))) = some ((Sum.inl ((ord.getD p 0 : Nat) : Int) : Key), V.int (p : Int)) := by
    rw [List.find?_map]
    have : (List.range i).find? ((fun kv : Key × V => decide (kv.1 = (Sum.inl ((ord.getD p 0 : Nat) : Int) : Key))) ∘ fun k => ((Sum.inl ((ord.getD k 0 : Nat) : Int) : Key), V.int (k : Int))) = some p := by
      rw [List.find?_range_eq_some]
      refine ⟨by simp, List.mem_range.mpr hp, fun j hj => ?_⟩
      simp only [Function.comp, Bool.not_eq_true', decide_eq_false_iff_not]
      intro e
      injection e with e
      have e : ord.getD j 0 = ord.getD p 0 := by omega
      obtain ⟨h1, e1⟩ := gd j (by omega)
      obtain ⟨h2, e2⟩ := gd p (by omega)
      rw [e1, e2] at e
      exact List.pairwise_iff_getElem.mp hn j p h1 h2 hj e
    rw [this]; rfl
  rw [hf]; rfl
theorem val_rangeI_none {ord : List Nat} (hn : ord.Nodup) {i : Nat} (hi : i < ord.length) : valV ((List.range i).map fun k => ((Sum.inl ((ord.getD k 0 : Nat) : Int) : Key), V.int (k : Int))) (Sum.inl ((ord.getD i 0 : Nat) : Int)) = none := by
  have gd : ∀ k, k < ord.length → ∃ h : k < ord.length, ord.getD k 0 = ord[k] := fun k h => ⟨h, by rw [List.getD_eq_getElem?_getD, List.getElem?_eq_getElem h]; rfl⟩
  unfold valV
  have hf : ((List.range i).map fun k => ((Sum.inl ((ord.getD k 0 : Nat) : Int) : Key), V.int (k : Int))).find? (fun kv => decide (kv.1 = (Sum.inl ((ord.getD i 0 : Nat) : Int) : Key))) = none := by
    rw [List.find?_eq_none]
    intro kv hkv
    obtain ⟨j, hj, rfl⟩ := List.mem_map.mp hkv
    have hj := List.mem_range.mp hj
    simp only [decide_eq_true_eq]
    intro e
    injection e with e
    have e : ord.getD j 0 = ord.getD i 0 := by omega
    obtain ⟨h1, e1⟩ := gd j (by omega)
    obtain ⟨h2, e2⟩ := gd i (by omega)
    rw [e1, e2] at e
    exact List.pairwise_iff_getElem.mp hn j i h1 h2 hj e
  rw [hf]; rfl
theorem put_rangeI {ord : List Nat} (hn : ord.Nodup) {i : Nat} (hi : i < ord.length) : putK ((List.range i).map fun k => ((Sum.inl ((ord.getD k 0 : Nat) : Int) : Key), V.int (k : Int))) (Sum.inl ((ord.getD i 0 : Nat) : Int)) (.int (i : Int)) = (List.range (i + 1)).map fun k => ((Sum.inl ((ord.getD k 0 : Nat) : Int) : Key), V.int (k : Int)) := by
  rw [putK_new _ (val_rangeI_none hn hi), List.range_succ, List.map_append]; rfl
theorem ord_ins {ord : List Nat} {k i : Nat} (hp : ord.Perm (List.range k)) (h0 : ord[0]? = some 0) (h1 : 1 ≤ i) (h2 : i ≤ ord.length) : (ord.take i ++ [k] ++ ord.drop i).Perm (List.range (k + 1)) ∧ (ord.take i ++ [k] ++ ord.drop i)[0]? = some 0 := by
  constructor
  · rw [List.range_succ]
    have e : (ord.take i ++ [k] ++ ord.drop i).Perm (ord.take i ++ ord.drop i ++ [k]) := by
      rw [List.append_assoc, List.append_assoc]
      exact List.Perm.append_left _ List.perm_append_comm
    rw [List.take_append_drop] at e
    exact e.trans (List.Perm.append_right _ hp)
  · rw [List.append_assoc, List.getElem?_append_left (by rw [List.length_take]; omega), List.getElem?_take, if_pos (by omega)]
    exact h0
end L2
namespace L2
open PySem PySem.Spec PyProof.Rows
section
variable {X : Cx} {tg : Expr}
end
section
variable {X : Cx}
end
end L2
set_option maxHeartbeats 4000000
namespace K21
open PySem L2
local macro_rules | `(tactic| walk_at "sc") => `(tactic| first | assumption | omega | exact rfl | decide | exact szn (by omega) | (simp only [List.length_cons, List.length_nil, List.length_map, S_length] <;> omega) | trivial)
local macro_rules | `(tactic| walk_at "sq") => `(tactic| first | assumption | exact seqR_upd | exact seqR_updT | (exact seqR_lst (by assumption)) | (exact seqR_tup (by assumption)))
local macro_rules | `(tactic| walk_at "sl") => `(tactic| first | assumption | exact SqL.of upd_same | exact SqL.of (by assumption))
local macro_rules | `(tactic| walk_at "st") => `(tactic| first | assumption | exact SqT.of upd_same | exact SqT.of (by assumption))
local macro_rules | `(tactic| walk_at "lq") => `(tactic| first | assumption | exact lstR_upd | (exact lstR_of (by assumption)))
local macro_rules | `(tactic| walk_at "at") => `(tactic| first | exact atI_0 _ _ | exact atI_1 _ _ _ | exact atI_2 _ _ _ _ | exact atI_3 _ _ _ _ _ | assumption)
local macro_rules | `(tactic| walk_at "mu") => `(tactic| first | (exact CMul.l (by omega) (by omega)) | (exact CMul.r (by omega) (by omega)) | (exact CMul.l (by decide) (by decide)) | (exact CMul.r (by decide) (by decide)))
local macro_rules | `(tactic| walk_at "sd") => `(tactic| first | omega | (simp only [List.length_append, List.length_cons, List.length_nil, List.length_map, frame_length] <;> omega))
local macro_rules | `(tactic| walk_at "g1") => `(tactic| first
  | (with_reducible refine i_seq ?_) | (with_reducible refine i_ifs ?_) | (with_reducible refine i_asg ?_) | (with_reducible refine i_op ?_) | ((with_reducible refine' i_var ?k1 ?_); (case k1 => exact rfl)) | (with_reducible refine i_c ?_)
  | (with_reducible refine i_ret ?_) | (with_reducible refine i_next ?_) | (with_reducible refine i_drop ?_) | (with_reducible refine i_name ?_) | (with_reducible refine i_gsub ?_) | (with_reducible refine i_test ?_) | (with_reducible refine i_bl ?_)
  | (with_reducible refine i_fI0 ?_) | (with_reducible refine i_addI ?_) | ((with_reducible refine' i_fI ?k1 ?_); (case k1 => walk_at "sc")) | ((with_reducible refine' i_mulI ?k1 ?_); (case k1 => walk_at "mu"))
  | ((with_reducible refine' i_ixR ?k1 ?k2 ?_); (case k1 => walk_at "sq"); (case k2 => walk_at "at")) | (with_reducible refine i_cons ?_) | (with_reducible refine i_nil ?_) | (with_reducible refine i_cb ?_) | (with_reducible refine i_call ?_)
  | (with_reducible refine i_and ?_) | (with_reducible refine i_or ?_) | (with_reducible refine i_not ?_) | (with_reducible refine i_andV ?_) | (with_reducible refine i_orV ?_) | (with_reducible refine i_notV ?_) | (with_reducible refine i_ifE ?_) | (with_reducible refine i_chain ?_)
  | (with_reducible refine i_un ?_) | (with_reducible refine i_neg ?_) | (with_reducible refine i_sl ?_) | (with_reducible refine i_nopart ?_) | (with_reducible refine i_part ?_) | (with_reducible refine i_exI ?_)
  | ((with_reducible refine' i_eq ?k1 ?_); (case k1 => exact rfl)) | ((with_reducible refine' i_ne ?k1 ?_); (case k1 => exact rfl)) | (with_reducible refine i_is ?_) | (with_reducible refine i_isnot ?_) | (with_reducible refine i_inS ?_)
  | ((with_reducible refine' i_lenC ?k1 ?_); (case k1 => walk_at "sd")) | ((with_reducible refine' i_lenS ?k1 ?_); (case k1 => walk_at "sc")) | ((with_reducible refine' i_lenR ?k1 ?_); (case k1 => walk_at "sq")) | (with_reducible refine i_1I ?_) | (with_reducible refine i_2I ?_) | (with_reducible refine i_intB ?_) | (with_reducible refine i_intI ?_)
  | ((with_reducible refine' i_addC ?k1 ?_); (case k1 => walk_at "sd")) | ((with_reducible refine' i_slC ?k1 ?_); (case k1 => walk_at "sd")) | ((with_reducible refine' i_addS ?k1 ?_); (case k1 => walk_at "sc")) | ((with_reducible refine' i_slS ?k1 ?_); (case k1 => walk_at "sc")) | (with_reducible refine i_truB ?_) | (with_reducible refine i_truI ?_) | (with_reducible refine i_SS ?_) | (with_reducible refine i_SSI ?_)
  | ((with_reducible refine' i_appL ?k1 ?k2 ?_); (case k1 => first | assumption | exact upd_same); (case k2 => walk_at "sc")) | (with_reducible refine i_rng1 ?_) | (with_reducible refine i_rng2 ?_) | ((with_reducible refine' i_r1 ?k1 ?_); (case k1 => omega)) | (with_reducible refine i_comp ?_) | (with_reducible refine i_true ?_)
  | (with_reducible refine i_data ?_) | (with_reducible refine i_bm ?_) | (with_reducible refine i_bm0 ?_) | (with_reducible refine i_tyS ?_) | ((with_reducible refine' i_tyL ?k1 ?_); (case k1 => walk_at "sl")) | (with_reducible refine i_for ?_) | (with_reducible refine i_any ?_) | (with_reducible refine i_anyS ?_) | ((with_reducible refine' i_anyL ?k1 ?_); (case k1 => walk_at "sl")) | ((with_reducible refine' i_anyT ?k1 ?_); (case k1 => walk_at "st")) | (with_reducible refine i_enumS ?_) | (with_reducible refine i_enum ?_) | (with_reducible refine i_enS ?_)
  | ((with_reducible refine' i_lenK ?k1 ?_); (case k1 => assumption)) | ((with_reducible refine' i_ixK ?k1 ?k2 ?_); (case k1 => assumption); (case k2 => walk_at "at"))
  | (with_reducible refine i_lst ?_) | (with_reducible refine i_tup ?_) | (with_reducible refine i_retN ?_) | ((with_reducible refine' iteBT ?k1 ?_); (case k1 => first | exact rfl | decide)) | ((with_reducible refine' iteBF ?k1 ?_); (case k1 => first | exact rfl | decide)) | ((with_reducible refine' iteDF ?k1 ?_); (case k1 => intro z; cases z)) | ((with_reducible refine' iteDT ?k1 ?_); (case k1 => exact rfl)) | ((with_reducible refine' i_sz ?k1 ?_); (case k1 => exact szc rfl)) | ((with_reducible refine' i_isi ?k1 ?k2 ?_); (case k1 => first | exact rfl | (exact tyN_tup (by assumption)) | (exact tyN_lst (by assumption))); (case k2 => exact rfl)) | ((with_reducible refine' i_r2 ?k1 ?_); (case k1 => omega)) | ((with_reducible show Ends.nx _ _ _); dsimp only) | ((with_reducible show Ends.rt _ _ _); dsimp only) | ((with_reducible refine' i_set ?k1 ?k2 ?_); (case k1 => first | assumption | exact upd_same); (case k2 => first | exact rfl | (exact ixN_of (by omega) (by omega)))))
local macro_rules | `(tactic| walk_at "go") => `(tactic| repeat (walk_at "g1"))
seal L2.PSs L2.PS L2.PE L2.PT L2.PA L2.PI L2.PG L2.PTs L2.PGs L2.PO L2.PW
def top (i : Nat) : Stmt := PySem.Challenge.pw_breakwords_k21_values_by_a_wood.main.body.getD i (.Pass ⟨0, 0, 0, 0⟩)
structure Txt (mg : Str → Option Value) (tk : Nat → Tok) : Prop where
  z_len : mg "len" = none
  z_abs : mg "abs" = none
  z_all : mg "all" = none
  z_range : mg "range" = none
  z_enumerate : mg "enumerate" = none
  z_isinstance : mg "isinstance" = none
  z_tuple : mg "tuple" = none
  z_list : mg "list" = none
  z_bool : mg "bool" = none
  z_str : mg "str" = none
  z_int : mg "int" = none
  z_min : mg "min" = none
  z_max : mg "max" = none
  z_sorted : mg "sorted" = none
  z_zip : mg "zip" = none
abbrev s_law_feed : Stmt := top 10
theorem sc_law_feed : FnScope ["_law_script", "_law_k", "_law_cell", "_law_left"] ["_law_script", "_law_k"] (defScope s_law_feed) := ⟨rfl, rfl, rfl, by decide +kernel, rfl, by decide +kernel, by decide +kernel⟩
abbrev s_law_next : Stmt := top 11
theorem sc_law_next : FnScope ["_law_feed_here", "_law_many", "_law_digit", "_law_mixed"] ["_law_feed_here", "_law_many"] (defScope s_law_next) := ⟨rfl, rfl, rfl, by decide +kernel, rfl, by decide +kernel, by decide +kernel⟩
abbrev s_law_alike : Stmt := top 12
theorem sc_law_alike : FnScope ["_law_found", "_law_due"] ["_law_found", "_law_due"] (defScope s_law_alike) := ⟨rfl, rfl, rfl, by decide +kernel, rfl, by decide +kernel, by decide +kernel⟩
section
variable {P : Program} {w : World} {K : PySem.W.Frag} {mg : Str → Option Value} {base : Heap} {f : Addr} {fd : FuncData} {tk : Nat → Tok}
theorem ok_law_feed (T : Txt mg tk) (F : Fun K "_law_feed" "_law_feed" s_law_feed f fd) : FnOk P w K mg base CX0 1 f fd ["_law_script", "_law_k"] (spFeed K) := by
  refine F.ok sc_law_feed (fun vs H Q E h => ?_) (fun cdv A outer s H vs Q E hr h => ?_)
  · obtain ⟨a, ns, k, rfl, _⟩ := h
    rfl
  obtain ⟨a, ns, k, rfl, hl, hk0, hk1, q⟩ := h
  have nd := sc_law_feed.nd
  refine ⟨_, (pss_cons (ps_set (i := 2) nd rfl (Or.inl rfl) pe_int)
    (pss_cons (ps_if (pt_cmpR o_gt (pe_callB (c_len (K := K)) rfl T.z_len (by decide +kernel) (pa_cons (pv 0) pa_nil)) pe_int (nomark _))
     (pss_one (ps_set (i := 2) nd rfl (Or.inl rfl) (pe_ix (ix_any (K := K)) (pv 0) (pe_op o_mod (pv 1) (pe_callB (c_len (K := K)) rfl T.z_len (by decide +kernel) (pa_cons (pv 0) pa_nil))) (fun _ _ => rfl))))
     pss_nil)
    (pss_cons (ps_set (i := 3) nd rfl (Or.inl rfl) (pe_callB c_abs rfl T.z_abs (by decide +kernel) (pa_cons (pv 2) pa_nil)))
    (pss_cons (ps_if (pt_cmpR o_lt (pv 3) (pe_op o_pow pe_int pe_int) (nomark _))
     (pss_one (ps_set (i := 3) nd rfl (Or.inl rfl) pe_int))
     pss_nil)
    (pss_one (ps_ret (pe_lst (pa_cons (pv 3) (pa_cons (pe_op o_mod (pe_op o_add (pe_op o_add (pv 2) (pe_op o_mul pe_int (pv 1))) pe_int) pe_int) (pa_cons pe_int pa_nil)))))))))), ?_⟩
  rw [show L2.start ["_law_script", "_law_k", "_law_cell", "_law_left"] [.ref a, .int k] = [some (.ref a), some (.int k), none, none] from rfl]
  have fin : ∀ (cell left : Int), 0 ≤ left → ∀ p, H p = none → Q (.ref p) (upd H p (.lst [.int left, .int ((cell + 7919 * k + 13) % 2147483399), .int 0])) := fun cell left h0 p hp =>
    q p _ hp ⟨left, _, 0, upd_same, h0, Int.emod_nonneg _ (by decide), Int.emod_lt_of_pos _ (by decide), Int.le_refl 0, Int.le_refl 0⟩ ((Off.refl p H).upd _)
  have hlen : (ns.map V.int).length = ns.length := List.length_map _
  walk_at "go"
  refine iteD (fun c => ?_) (fun c => ?_)
  · rw [hlen] at c
    walk_at "go"
    have hix : (k % (ns.length : Int)).toNat < ns.length := by
      have h1 := Int.emod_lt_of_pos k c
      have h2 := Int.emod_nonneg k (show (ns.length : Int) ≠ 0 by omega)
      omega
    refine i_ixK (v := .int ns[(k % (ns.length : Int)).toNat]) hl ?_ ?_
    · rw [hlen]
      exact atI_of (Int.emod_nonneg k (by omega)) (by rw [List.getElem?_map, List.getElem?_eq_getElem hix]; rfl)
    walk_at "go"
    refine iteD (fun c => ?_) (fun c => ?_)
    · walk_at "go"
      exact (fun p hp => fin _ 0 (Int.le_refl 0) p hp)
    · walk_at "go"
      refine (fun p hp => fin _ _ ?_ p hp)
      split <;> omega
  · walk_at "go"
    exact fun p hp => fin 0 0 (Int.le_refl 0) p hp
theorem ok_law_next (F : Fun K "_law_next" "_law_next" s_law_next f fd) : FnOk P w K mg base CX0 1 f fd ["_law_feed_here", "_law_many"] spNext := by
  refine F.ok sc_law_next (fun vs H Q E h => ?_) (fun cdv A outer s H vs Q E hr h => ?_)
  · obtain ⟨p, m, n, rfl, _⟩ := h
    rfl
  obtain ⟨p, m, n, rfl, ⟨a, b, c, h1, ha, hb0, hb1, hc0, hc1⟩, hn, hm0, hm1, q⟩ := h
  have nd := sc_law_next.nd
  refine ⟨_, (pss_cons (ps_if (pt_cmpR o_gt (pe_ix (ix_any (K := K)) (pv 0) pe_int (fun _ _ => rfl)) pe_int (nomark _))
     (pss_cons (ps_set (i := 2) nd rfl (Or.inl rfl) (pe_op o_mod (pe_ix (ix_any (K := K)) (pv 0) pe_int (fun _ _ => rfl)) (pv 1)))
    (pss_cons (ps_asg (pe_op o_fdiv (pe_ix (ix_any (K := K)) (pv 0) pe_int (fun _ _ => rfl)) (pv 1)) (pg_sub (pv 0) pe_int set_l))
    (pss_one (ps_ret (pv 2)))))
     pss_nil)
    (pss_cons (ps_asg (pe_op o_add (pe_ix (ix_any (K := K)) (pv 0) pe_int (fun _ _ => rfl)) pe_int) (pg_sub (pv 0) pe_int set_l))
    (pss_cons (ps_set (i := 3) nd rfl (Or.inl rfl) (pe_op o_mod (pe_op o_mul (pe_op o_mod (pe_op o_add (pe_op o_add (pe_ix (ix_any (K := K)) (pv 0) pe_int (fun _ _ => rfl)) (pe_op o_mul pe_int (pe_ix (ix_any (K := K)) (pv 0) pe_int (fun _ _ => rfl)))) pe_int) pe_int) pe_int) pe_int))
    (pss_cons (ps_set (i := 3) nd rfl (Or.inl rfl) (pe_op o_mod (pe_op o_mul (pe_op o_mod (pe_op o_add (pe_op o_mul (pv 3) pe_int) (pe_op o_mul (pe_ix (ix_any (K := K)) (pv 0) pe_int (fun _ _ => rfl)) (pe_ix (ix_any (K := K)) (pv 0) pe_int (fun _ _ => rfl)))) pe_int) pe_int) pe_int))
    (pss_one (ps_ret (pe_op o_mod (pe_op o_fdiv (pv 3) pe_int) (pv 1)))))))), ?_⟩
  rw [show L2.start ["_law_feed_here", "_law_many", "_law_digit", "_law_mixed"] [.ref p, .int m] = [some (.ref p), some (.int m), none, none] from rfl]
  unfold feedTop at hn
  walk_at "go"
  refine iteD (fun c0 => ?_) (fun c0 => ?_)
  · walk_at "go"
    exact q _ _ (Int.emod_nonneg _ (by omega)) (Int.emod_lt_of_pos _ hm0) ⟨a / m, b, c, upd_same, Int.ediv_nonneg ha (by omega), hb0, hb1, hc0, by omega⟩ ((Off.refl p H).upd _)
  · walk_at "go"
    exact q _ _ (Int.emod_nonneg _ (by omega)) (Int.emod_lt_of_pos _ hm0) ⟨a, b, c + 1, upd_same, ha, hb0, hb1, by omega, by omega⟩ ((Off.refl p H).upd _)
theorem ok_law_alike (T : Txt mg tk) (F : Fun K "_law_alike" "_law_alike" s_law_alike f fd) (bF : Binds K fd ["_law_found", "_law_due"] []) (mF : mg "_law_alike" = some (.ref f)) :
    ∀ n, FnOk P w K mg base CX0 n f fd ["_law_found", "_law_due"] (spAlike n)
  | 0 => by
    have no : ∀ vs H Q E, ¬ spAlike 0 vs H Q E := fun vs H Q E h => by
      obtain ⟨u, v, d, _, _, _, h0, _⟩ := h
      omega
    exact ⟨fun vs H Q E h => absurd h (no vs H Q E), fun A outer s H args us vs Q E _ _ _ _ h => absurd h (no vs H Q E)⟩
  | n + 1 => by
    have D_law_alike : Dn P w K mg base "_law_alike" n ["_law_found", "_law_due"] (spAlike n) := ⟨f, fd, mF, F.kp, bF, ok_law_alike T F bF mF n⟩
    refine F.ok sc_law_alike (fun vs H Q E h => ?_) (fun cdv A outer s H vs Q E hr h => ?_)
    · obtain ⟨u, v, d, rfl, _⟩ := h
      rfl
    obtain ⟨u, v, d, rfl, hu, hv, hd, hw, q⟩ := h
    have nd := sc_law_alike.nd
    refine ⟨_, (pss_cons (ps_if (pt_tru (pe_callB c_isinstance rfl T.z_isinstance (by decide +kernel) (pa_cons (pv 1) (pa_cons (pe_tup (pa_cons (pe_bltn (v := .ty "tuple") rfl T.z_tuple (by decide +kernel) rfl) (pa_cons (pe_bltn (v := .ty "list") rfl T.z_list (by decide +kernel) rfl) pa_nil))) pa_nil))) (fun _ => rfl))
     (pss_cons (ps_if (PW.pt (pw_or (pt_cmpR (o_ne hr.units) (pe_callB c_isinstance rfl T.z_isinstance (by decide +kernel) (pa_cons (pv 1) (pa_cons (pe_bltn (v := .ty "tuple") rfl T.z_tuple (by decide +kernel) rfl) pa_nil))) (pe_callB c_isinstance rfl T.z_isinstance (by decide +kernel) (pa_cons (pv 0) (pa_cons (pe_bltn (v := .ty "tuple") rfl T.z_tuple (by decide +kernel) rfl) pa_nil))) (nomark _)) (pw_or1 (pt_cmpR (o_ne hr.units) (pe_callB c_isinstance rfl T.z_isinstance (by decide +kernel) (pa_cons (pv 1) (pa_cons (pe_bltn (v := .ty "list") rfl T.z_list (by decide +kernel) rfl) pa_nil))) (pe_callB c_isinstance rfl T.z_isinstance (by decide +kernel) (pa_cons (pv 0) (pa_cons (pe_bltn (v := .ty "list") rfl T.z_list (by decide +kernel) rfl) pa_nil))) (nomark _)))))
     (pss_one (ps_ret pe_bl))
     pss_nil)
    (pss_cons (ps_if (pt_cmpR (o_ne hr.units) (pe_callB (c_len (K := K)) rfl T.z_len (by decide +kernel) (pa_cons (pv 0) pa_nil)) (pe_callB (c_len (K := K)) rfl T.z_len (by decide +kernel) (pa_cons (pv 1) pa_nil)) (nomark _))
     (pss_one (ps_ret pe_bl))
     pss_nil)
    (pss_one (ps_ret (pe_callB (c_all rfl) rfl T.z_all (by decide +kernel) (pa_cons (pe_comp ["_law_found", "_law_due", "_law_k"] [some 0, some 1, none] rfl (by kernel_rfl) rfl (pi_range1 rfl T.z_range (pa_cons (pe_callB (c_len (K := K)) rfl T.z_len (by decide +kernel) (pa_cons (pv 1) pa_nil)) pa_nil)) (fun _ _ _ _ => (pg_name (i := 2) (show (["_law_found", "_law_due", "_law_k"] : List Str).Nodup by decide +kernel) rfl (Or.inl rfl) (Or.inr rfl))) (fun _ _ _ _ => pts_nil) (fun _ _ _ _ => (pe_callD D_law_alike (hr.mono (by first | decide | omega)) rfl (pa_cons (pe_ix (ix_any (K := K)) (pv 0) (pv 2) (fun _ _ => rfl)) (pa_cons (pe_ix (ix_any (K := K)) (pv 1) (pv 2) (fun _ _ => rfl)) pa_nil))))) pa_nil))))))
     pss_nil)
    (pss_cons (ps_if (PW.pt (pw_or (pt_cmpR o_is (pv 1) pe_non (nomark _)) (pw_or1 (pt_cmpR o_is (pv 0) pe_non (nomark _)))))
     (pss_one (ps_ret (pe_and (pe_cmpR o_is (pv 1) pe_non (nomark _)) (pe_one (pe_cmpR o_is (pv 0) pe_non (nomark _))))))
     pss_nil)
    (pss_cons (ps_if (PW.pt (pw_or (pt_tru (pe_callB c_isinstance rfl T.z_isinstance (by decide +kernel) (pa_cons (pv 1) (pa_cons (pe_bltn (v := .ty "bool") rfl T.z_bool (by decide +kernel) rfl) pa_nil))) (fun _ => rfl)) (pw_or1 (pt_tru (pe_callB c_isinstance rfl T.z_isinstance (by decide +kernel) (pa_cons (pv 0) (pa_cons (pe_bltn (v := .ty "bool") rfl T.z_bool (by decide +kernel) rfl) pa_nil))) (fun _ => rfl)))))
     (pss_one (ps_ret (pe_and (pe_callB c_isinstance rfl T.z_isinstance (by decide +kernel) (pa_cons (pv 1) (pa_cons (pe_bltn (v := .ty "bool") rfl T.z_bool (by decide +kernel) rfl) pa_nil))) (pe_and (pe_callB c_isinstance rfl T.z_isinstance (by decide +kernel) (pa_cons (pv 0) (pa_cons (pe_bltn (v := .ty "bool") rfl T.z_bool (by decide +kernel) rfl) pa_nil))) (pe_one (pe_cmpR (o_eq hr.units) (pv 0) (pv 1) (nomark _)))))))
     pss_nil)
    (pss_cons (ps_if (pt_tru (pe_callB c_isinstance rfl T.z_isinstance (by decide +kernel) (pa_cons (pv 1) (pa_cons (pe_bltn (v := .ty "str") rfl T.z_str (by decide +kernel) rfl) pa_nil))) (fun _ => rfl))
     (pss_one (ps_ret (pe_and (pe_callB c_isinstance rfl T.z_isinstance (by decide +kernel) (pa_cons (pv 0) (pa_cons (pe_bltn (v := .ty "str") rfl T.z_str (by decide +kernel) rfl) pa_nil))) (pe_one (pe_cmpR (o_eq hr.units) (pv 0) (pv 1) (nomark _))))))
     pss_nil)
    (pss_one (ps_ret (pe_and (pe_callB c_isinstance rfl T.z_isinstance (by decide +kernel) (pa_cons (pv 0) (pa_cons (pe_bltn (v := .ty "int") rfl T.z_int (by decide +kernel) rfl) pa_nil))) (pe_one (pe_cmpR (o_eq hr.units) (pv 0) (pv 1) (nomark _)))))))))), ?_⟩
    rw [show L2.start ["_law_found", "_law_due"] [u, v] = [some (u), some (v)] from rfl]
    walk_at "go"
    intro p hp
    walk_at "go"
    have s1 : Same H (upd H p (.tup [.ty "tuple", .ty "list"])) := same_new hp _
    have hu1 := Is.same s1 hu
    have hv1 := Is.same s1 hv
    cases d with
    | non =>
      simp only [Is] at hu hv
      subst hu hv
      refine i_isi2 (t := "NoneType") (T := "tuple") (T' := "list") rfl upd_same ⟨rfl, rfl⟩ ?_
      walk_at "go"
      exact q _ s1
    | bl b =>
      simp only [Is] at hu hv
      subst hu hv
      refine i_isi2 (t := "bool") (T := "tuple") (T' := "list") rfl upd_same ⟨rfl, rfl⟩ ?_
      walk_at "go"
      rw [decide_eq_true rfl]
      exact q _ s1
    | int i =>
      simp only [Is] at hu hv
      subst hu hv
      refine i_isi2 (t := "int") (T := "tuple") (T' := "list") rfl upd_same ⟨rfl, rfl⟩ ?_
      walk_at "go"
      rw [decide_eq_true rfl]
      exact q _ s1
    | str x =>
      simp only [Is] at hu hv
      subst hu hv
      refine i_isi2 (t := "str") (T := "tuple") (T' := "list") rfl upd_same ⟨rfl, rfl⟩ ?_
      walk_at "go"
      rw [decide_eq_true rfl]
      exact q _ s1
    | tup ds =>
      simp only [Is] at hu1 hv1
      obtain ⟨a, xs, rfl, ha, hxs⟩ := hu1
      obtain ⟨b, ys, rfl, hb, hys⟩ := hv1
      have l1 := hxs.length
      have l2 := hys.length
      simp only [wid, dep] at hw hd
      refine i_isi2 (t := "tuple") (T := "tuple") (T' := "list") (tyN_tup hb) upd_same ⟨rfl, rfl⟩ ?_
      walk_at "go"
      refine iteBF (by rw [l1, l2, decide_eq_true rfl]; rfl) ?_
      have hl3 : (ys.length : Int) ≤ 100000 := by omega
      walk_at "go"
      intro r hr0
      have s2 : Same (upd H p (.tup [.ty "tuple", .ty "list"])) (upd (upd H p (.tup [.ty "tuple", .ty "list"])) r (.lst [])) := same_new hr0 _
      refine comp_range (fun i acc σ H' => ∃ v, σ = [some (.ref a), some (.ref b), v] ∧ acc = (List.replicate i true).map V.bl ∧ Same (upd H p (.tup [.ty "tuple", .ty "list"])) H' ∧ H' r = some (.lst acc))
        ⟨none, rfl, rfl, s2, upd_same⟩ (fun i acc σ H' ⟨_, _, e, _, e2⟩ => ⟨e2, by rw [e]; simp⟩) (szn (by omega)) ?_ ?_
      · rintro i acc σ H' hi ⟨v, rfl, rfl, s3, e3⟩
        have hi' : i < ds.length := by omega
        obtain ⟨x, d, hx, hd1, hI⟩ := IsL.get (IsL.same s3 hxs) hi'
        obtain ⟨y, d', hy, hd2, hJ⟩ := IsL.get (IsL.same s3 hys) hi'
        rw [hd1] at hd2
        cases hd2
        have hax := s3 _ _ ha
        have hby := s3 _ _ hb
        walk_at "go"
        refine i_ixR (seqR_tup hax) (atI_of (by omega) (by simpa using hx)) ?_
        walk_at "go"
        refine i_ixR (seqR_tup hby) (atI_of (by omega) (by simpa using hy)) ?_
        walk_at "go"
        have hdd := dep_get hd1
        have hww := wid_get hd1
        refine ⟨x, y, d, rfl, hI, hJ, by omega, by omega, fun H4 s4 => ⟨s4 _ _ e3, ?_⟩⟩
        refine ⟨_, rfl, ?_, fun c o e => ?_, upd_same⟩
        · rw [List.replicate_succ', List.map_append]; rfl
        · have hcr : c ≠ r := fun z => by rw [z, hr0] at e; cases e
          rw [upd_ne hcr]
          exact s4 _ _ (s3 _ _ e)
      · rintro acc σ H' ⟨v, rfl, rfl, s3, e3⟩
        walk_at "go"
        refine i_allL (lstR_of e3) ?_
        walk_at "go"
        have e : (List.replicate (0 + (ys.length : Int) - 0).toNat true).all id = true := by simp
        simp only [List.all_replicate]
        have e5 : ∀ k : Nat, (if k = 0 then true else id true) = true := fun k => by split <;> rfl
        rw [e5]
        exact q _ fun c o k => s3 _ _ (s1 _ _ k)
    | lst ds =>
      simp only [Is] at hu1 hv1
      obtain ⟨a, xs, rfl, ha, hxs⟩ := hu1
      obtain ⟨b, ys, rfl, hb, hys⟩ := hv1
      have l1 := hxs.length
      have l2 := hys.length
      simp only [wid, dep] at hw hd
      refine i_isi2 (t := "list") (T := "tuple") (T' := "list") (tyN_lst hb) upd_same ⟨rfl, rfl⟩ ?_
      walk_at "go"
      refine iteBF (by rw [l1, l2, decide_eq_true rfl]; rfl) ?_
      have hl3 : (ys.length : Int) ≤ 100000 := by omega
      walk_at "go"
      intro r hr0
      have s2 : Same (upd H p (.tup [.ty "tuple", .ty "list"])) (upd (upd H p (.tup [.ty "tuple", .ty "list"])) r (.lst [])) := same_new hr0 _
      refine comp_range (fun i acc σ H' => ∃ v, σ = [some (.ref a), some (.ref b), v] ∧ acc = (List.replicate i true).map V.bl ∧ Same (upd H p (.tup [.ty "tuple", .ty "list"])) H' ∧ H' r = some (.lst acc))
        ⟨none, rfl, rfl, s2, upd_same⟩ (fun i acc σ H' ⟨_, _, e, _, e2⟩ => ⟨e2, by rw [e]; simp⟩) (szn (by omega)) ?_ ?_
      · rintro i acc σ H' hi ⟨v, rfl, rfl, s3, e3⟩
        have hi' : i < ds.length := by omega
        obtain ⟨x, d, hx, hd1, hI⟩ := IsL.get (IsL.same s3 hxs) hi'
        obtain ⟨y, d', hy, hd2, hJ⟩ := IsL.get (IsL.same s3 hys) hi'
        rw [hd1] at hd2
        cases hd2
        have hax := s3 _ _ ha
        have hby := s3 _ _ hb
        walk_at "go"
        refine i_ixR (seqR_lst hax) (atI_of (by omega) (by simpa using hx)) ?_
        walk_at "go"
        refine i_ixR (seqR_lst hby) (atI_of (by omega) (by simpa using hy)) ?_
        walk_at "go"
        have hdd := dep_get hd1
        have hww := wid_get hd1
        refine ⟨x, y, d, rfl, hI, hJ, by omega, by omega, fun H4 s4 => ⟨s4 _ _ e3, ?_⟩⟩
        refine ⟨_, rfl, ?_, fun c o e => ?_, upd_same⟩
        · rw [List.replicate_succ', List.map_append]; rfl
        · have hcr : c ≠ r := fun z => by rw [z, hr0] at e; cases e
          rw [upd_ne hcr]
          exact s4 _ _ (s3 _ _ e)
      · rintro acc σ H' ⟨v, rfl, rfl, s3, e3⟩
        walk_at "go"
        refine i_allL (lstR_of e3) ?_
        walk_at "go"
        have e : (List.replicate (0 + (ys.length : Int) - 0).toNat true).all id = true := by simp
        simp only [List.all_replicate]
        have e5 : ∀ k : Nat, (if k = 0 then true else id true) = true := fun k => by split <;> rfl
        rw [e5]
        exact q _ fun c o k => s3 _ _ (s1 _ _ k)
end
abbrev s_law_letters : Stmt := top 13
theorem sc_law_letters : FnScope ["_law_feed_here", "_law_every", "_law_at"] ["_law_feed_here"] (defScope s_law_letters) := ⟨rfl, rfl, rfl, by decide +kernel, rfl, by decide +kernel, by decide +kernel⟩
abbrev s_law_word : Stmt := top 14
theorem sc_law_word : FnScope ["_law_feed_here", "_law_letters_here", "_law_most"] ["_law_feed_here", "_law_letters_here", "_law_most"] (defScope s_law_word) := ⟨rfl, rfl, rfl, by decide +kernel, rfl, by decide +kernel, by decide +kernel⟩
section
variable {P : Program} {w : World} {K : PySem.W.Frag} {mg : Str → Option Value} {base : Heap} {f : Addr} {fd : FuncData} {tk : Nat → Tok}
theorem ok_law_letters (T : Txt mg tk) (F : Fun K "_law_letters" "_law_letters" s_law_letters f fd) (D_law_next : Dn P w K mg base "_law_next" 1 ["_law_feed_here", "_law_many"] spNext) : FnOk P w K mg base CX0 2 f fd ["_law_feed_here"] spLetters := by
  refine F.ok sc_law_letters (fun vs H Q E h => ?_) (fun cdv A outer s H vs Q E hr h => ?_)
  · obtain ⟨p, n, rfl, _⟩ := h
    rfl
  obtain ⟨p, n, rfl, hf, hn, q⟩ := h
  have nd := sc_law_letters.nd
  refine ⟨_, (pss_cons (ps_set (i := 1) nd rfl (Or.inl rfl) pe_str)
    (pss_cons (ps_if (pt_cmpR (o_eq hr.units) (pe_callD D_law_next (hr.mono (by first | decide | omega)) rfl (pa_cons (pv 0) (pa_cons pe_int pa_nil))) pe_int (nomark _))
     (pss_one (ps_ret (pv 1)))
     pss_nil)
    (pss_cons (ps_set (i := 2) nd rfl (Or.inl rfl) (pe_callD D_law_next (hr.mono (by first | decide | omega)) rfl (pa_cons (pv 0) (pa_cons pe_int pa_nil))))
    (pss_one (ps_ret (pe_slice (sl_any (K := K)) (pv 1) (po_some (pv 2)) (po_some (pe_op o_add (pe_op o_add (pv 2) pe_int) (pe_callD D_law_next (hr.mono (by first | decide | omega)) rfl (pa_cons (pv 0) (pa_cons pe_int pa_nil))))))))))), ?_⟩
  rw [show L2.start ["_law_feed_here", "_law_every", "_law_at"] [.ref p] = [some (.ref p), none, none] from rfl]
  rw [t_let]
  walk_at "go"
  refine ⟨p, 8, n, rfl, hf, by omega, by decide, by decide, fun d H1 hd0 hd1 hf1 o1 => ?_⟩
  walk_at "go"
  refine iteD (fun c => ?_) (fun c => ?_)
  · walk_at "go"
    exact q LETL H1 low_LETL (by decide) (by decide) (hf1.mono (by omega)) o1
  · walk_at "go"
    refine ⟨p, 23, n + 1, rfl, hf1, by omega, by decide, by decide, fun at_ H2 ha0 ha1 hf2 o2 => ?_⟩
    walk_at "go"
    refine ⟨p, 3, n + 1 + 1, rfl, hf2, by omega, by decide, by decide, fun d3 H3 hb0 hb1 hf3 o3 => ?_⟩
    walk_at "go"
    rw [slice_S]
    have hl : LETL.length = 26 := rfl
    have hc := cut_length LETL (some at_) (some (at_ + 2 + d3))
    rw [hl] at hc
    have e1 : sx 26 0 (some at_) = at_.toNat := by simp only [sx]; rw [if_neg (by omega)]; omega
    have e2 : sx 26 26 (some (at_ + 2 + d3)) = min (at_ + 2 + d3).toNat 26 := by simp only [sx]; rw [if_neg (by omega)]
    rw [e1, e2] at hc
    exact q _ H3 (Low_cut low_LETL _ _) (by omega) (by omega) (hf3.mono (by omega)) ((o1.trans o2).trans o3)
theorem ok_law_word (T : Txt mg tk) (F : Fun K "_law_word" "_law_word" s_law_word f fd) (D_law_next : Dn P w K mg base "_law_next" 1 ["_law_feed_here", "_law_many"] spNext) : FnOk P w K mg base CX0 2 f fd ["_law_feed_here", "_law_letters_here", "_law_most"] spWord := by
  refine F.ok sc_law_word (fun vs H Q E h => ?_) (fun cdv A outer s H vs Q E hr h => ?_)
  · obtain ⟨p, n, l, m, rfl, _⟩ := h
    rfl
  obtain ⟨p, n, l, m, rfl, hf, hn, hl, hl1, hl2, hm1, hm2, q⟩ := h
  have nd := sc_law_word.nd
  refine ⟨_, (pss_one (ps_ret (pe_bmK (K := K) PySem.F.plainAttrs_str PySem.F.slot_str_join PySem.F.type_str_join m_join1 pe_str (pa_cons (pe_comp ["_law_letters_here", "_law_feed_here", "_law_k"] [some 1, some 0, none] rfl (by kernel_rfl) rfl (pi_range1 rfl T.z_range (pa_cons (pe_op o_add pe_int (pe_callD D_law_next (hr.mono (by first | decide | omega)) rfl (pa_cons (pv 0) (pa_cons (pv 2) pa_nil)))) pa_nil)) (fun _ _ _ _ => (pg_name (i := 2) (show (["_law_letters_here", "_law_feed_here", "_law_k"] : List Str).Nodup by decide +kernel) rfl (Or.inl rfl) (Or.inr rfl))) (fun _ _ _ _ => pts_nil) (fun _ _ _ _ => (pe_ix (ix_any (K := K)) (pv 0) (pe_callD D_law_next (hr.mono (by first | decide | omega)) rfl (pa_cons (pv 1) (pa_cons (pe_callB (c_len (K := K)) rfl T.z_len (by decide +kernel) (pa_cons (pv 0) pa_nil)) pa_nil))) (fun _ _ => rfl)))) pa_nil)))), ?_⟩
  rw [show L2.start ["_law_feed_here", "_law_letters_here", "_law_most"] [.ref p, .str (S l), .int (m : Int)] = [some (.ref p), some (.str (S l)), some (.int (m : Int))] from rfl]
  rw [t_empty]
  walk_at "go"
  refine ⟨p, m, n, rfl, hf, by omega, by omega, by omega, fun d H1 hd0 hd1 hf1 o1 => ?_⟩
  walk_at "go"
  intro r hr0
  have k1 : Kept p H (upd H1 r (.lst [])) := o1.kept.new hr0 _
  have pr : p ≠ r := by
    obtain ⟨o, e⟩ := hf1.some
    exact ne_of_none e hr0
  refine comp_range (fun i acc σ H' => ∃ (v : Option V) (ws : List Nat), σ = [some (.str (S l)), some (.ref p), v] ∧ acc = (ws.map fun c => V.str (S [c])) ∧ ws.length = i ∧ Low ws ∧ FeedAt H' p (n + 1 + i) ∧ Kept p H H' ∧ H' r = some (.lst acc))
    ⟨none, [], rfl, rfl, rfl, (fun c hc => nomatch hc), hf1.new hr0, k1, upd_same⟩ (fun i acc σ H' ⟨_, ws, _, e, e1, _, _, _, e2⟩ => ⟨e2, by rw [e, List.length_map]; omega⟩) (szn (by omega)) ?_ ?_
  · rintro i acc σ H' hi ⟨v, ws, rfl, rfl, hw1, hw2, hf2, k2, e2⟩
    have hll : (S l).length ≤ sizeLine := szn (by rw [S_length]; omega)
    walk_at "go"
    refine ⟨p, _, n + 1 + i, rfl, hf2, by omega, by omega, by omega, fun c H3 hc0 hc1 hf3 o3 => ?_⟩
    have hcl : c.toNat < l.length := by omega
    refine i_ixS (c := l[c.toNat]) hll (atI_of hc0 (by rw [S_cps]; simp [hcl])) ?_
    have e3 : H3 r = some (.lst (ws.map fun c => V.str (S [c]))) := (o3 r pr.symm).trans e2
    refine ⟨e3, _, ws ++ [l[c.toNat]], rfl, by rw [List.map_append]; rfl, by rw [List.length_append, hw1]; rfl, Low_append hw2 (fun x hx => ?_), ?_, ?_, upd_same⟩
    · have : x = l[c.toNat] := by simpa using hx
      rw [this]
      exact hl _ (List.getElem_mem _)
    · obtain ⟨a1, b1, c1, g1, g2⟩ := hf3
      exact ⟨a1, b1, c1, by rw [upd_ne pr]; exact g1, g2⟩
    · intro b o hb e
      have hbr : b ≠ r := fun z => by
        subst z
        have := k1
        by_cases hz : H b = none
        · rw [hz] at e; cases e
        · have e4 := o1 b hb
          rw [hr0] at e4
          exact hz e4.symm
      rw [upd_ne hbr]
      exact (o3 b hb).trans (k2 b o hb e)
  · rintro acc σ H' ⟨v, ws, rfl, rfl, hw1, hw2, hf2, k2, e2⟩
    walk_at "go"
    have hs := sum_one ws
    refine i_join (ys := ws.map fun c => S [c]) (by rw [← map_one]; exact lstR_of e2) ?_ ?_
    · rw [hs, List.length_map, S_length]
      simp only [List.length_nil, Nat.mul_zero]
      omega
    · rw [joined_one]
      walk_at "go"
      exact q ws H' hw2 (by omega) (by omega) (hf2.mono (by omega)) k2
end
abbrev s_law_numbers : Stmt := top 15
theorem sc_law_numbers : FnScope ["_law_feed_here", "_law_signs", "_law_few", "_law_numbers_here", "_law_place", "_law_number"] ["_law_feed_here", "_law_signs", "_law_few"] (defScope s_law_numbers) := ⟨rfl, rfl, rfl, by decide +kernel, rfl, by decide +kernel, by decide +kernel⟩
abbrev s_law_pattern : Stmt := top 16
theorem sc_law_pattern : FnScope ["_law_feed_here", "_law_letters_here", "_law_word_here", "_law_most", "_law_text", "_law_at", "_law_signs"] ["_law_feed_here", "_law_letters_here", "_law_word_here", "_law_most"] (defScope s_law_pattern) := ⟨rfl, rfl, rfl, by decide +kernel, rfl, by decide +kernel, by decide +kernel⟩
abbrev s_law_patterns : Stmt := top 17
theorem sc_law_patterns : FnScope ["_law_feed_here", "_law_letters_here", "_law_words", "_law_most", "_law_found", "_law_k", "_law_word_here"] ["_law_feed_here", "_law_letters_here", "_law_words", "_law_most"] (defScope s_law_patterns) := ⟨rfl, rfl, rfl, by decide +kernel, rfl, by decide +kernel, by decide +kernel⟩
def spNumbers : Sp := fun vs H Q _ => ∃ (p : Addr) (n : Nat) (s : List Nat) (few : Int), vs = [.ref p, .str (S s), .int few] ∧ FeedAt H p n ∧ n + 100 < feedTop ∧ s.length ≤ 30 ∧ 0 < few ∧ few < 1000 ∧
  ∀ (t : Addr) (ns : List Int) (H' : Hp), H' t = some (.tup (ns.map V.int)) → ns.length = s.length + 1 → (∀ (j : Nat) v, ns[j]? = some v → 0 ≤ v ∧ v ≤ 9 ∧ (j = 0 → s.head? = some 46 → v = 0) ∧ (j = s.length → s.getLast? = some 46 → v = 0)) → FeedAt H' p (n + 100) → Kept p H H' → Q (.ref t) H'
def spPattern : Sp := fun vs H Q _ => ∃ (p : Addr) (n : Nat) (l w : List Nat) (m : Nat), vs = [.ref p, .str (S l), .str (S w), .int (m : Int)] ∧ FeedAt H p n ∧ n + 200 < feedTop ∧ Low l ∧ 1 ≤ l.length ∧ l.length ≤ 26 ∧ Low w ∧ 1 ≤ w.length ∧ w.length ≤ 20 ∧ 1 ≤ m ∧ m ≤ 22 ∧
  ∀ (v : V) (x : Pat) (H' : Hp), Is H' v (patD x) → GP x → x.1.length ≤ m + 1 → FeedAt H' p (n + 200) → Kept p H H' → Q v H'
def GW (w : List Nat) : Prop := Low w ∧ 1 ≤ w.length ∧ w.length ≤ 20
def spPatterns : Sp := fun vs H Q _ => ∃ (p : Addr) (n : Nat) (l : List Nat) (a : Addr) (ws : List (List Nat)) (m : Nat), vs = [.ref p, .str (S l), .ref a, .int (m : Int)] ∧ FeedAt H p n ∧ n + 300 * m + 300 < feedTop ∧ Low l ∧ 1 ≤ l.length ∧ l.length ≤ 26 ∧
  H a = some (.lst (ws.map fun w => V.str (S w))) ∧ 1 ≤ ws.length ∧ ws.length ≤ 100 ∧ (∀ w ∈ ws, GW w) ∧ m ≤ 100 ∧ a ≠ p ∧
  ∀ (r : Addr) (ys : List V) (xs : List Pat) (H' : Hp), H' r = some (.lst ys) → L2.IsL H' ys (xs.map patD) → (∀ x ∈ xs, GP x ∧ x.1.length ≤ 5) → xs.length ≤ m → FeedAt H' p (n + 300 * m + 300) → Kept p H H' → H r = none → Q (.ref r) H'
section
variable {P : Program} {w : World} {K : PySem.W.Frag} {mg : Str → Option Value} {base : Heap} {f : Addr} {fd : FuncData} {tk : Nat → Tok}
theorem ok_law_numbers (T : Txt mg tk) (F : Fun K "_law_numbers" "_law_numbers" s_law_numbers f fd) (D_law_next : Dn P w K mg base "_law_next" 1 ["_law_feed_here", "_law_many"] spNext) : FnOk P w K mg base CX0 2 f fd ["_law_feed_here", "_law_signs", "_law_few"] spNumbers := by
  refine F.ok sc_law_numbers (fun vs H Q E h => ?_) (fun cdv A outer s H vs Q E hr h => ?_)
  · obtain ⟨p, n, s, few, rfl, _⟩ := h
    rfl
  obtain ⟨p, n, sg, few, rfl, hf, hn, hs, hfew, hfew2, q⟩ := h
  have nd := sc_law_numbers.nd
  refine ⟨_, (pss_cons (ps_set (i := 3) nd rfl (Or.inl rfl) (pe_lst pa_nil))
    (pss_cons (ps_for PassesOwn.never rfl (pi_range1 rfl T.z_range (pa_cons (pe_op o_add (pe_callB (c_len (K := K)) rfl T.z_len (by decide +kernel) (pa_cons (pv 1) pa_nil)) pe_int) pa_nil)) (pg_name (i := 4) nd rfl (Or.inl rfl))
     (pss_cons (ps_set (i := 5) nd rfl (Or.inl rfl) pe_int)
    (pss_cons (ps_if (pt_cmpR (o_eq hr.units) (pe_callD D_law_next (hr.mono (by first | decide | omega)) rfl (pa_cons (pv 0) (pa_cons (pv 2) pa_nil))) pe_int (nomark _))
     (pss_one (ps_set (i := 5) nd rfl (Or.inl rfl) (pe_op o_add pe_int (pe_callD D_law_next (hr.mono (by first | decide | omega)) rfl (pa_cons (pv 0) (pa_cons pe_int pa_nil))))))
     pss_nil)
    (pss_cons (ps_if (PW.pt (pw_or (PW.pt (pw_and (pt_cmpR (o_eq hr.units) (pv 4) pe_int (nomark _)) (pw_and1 (pt_cmpR (o_eq hr.units) (pe_slice (sl_any (K := K)) (pv 1) po_none (po_some pe_int)) pe_str (nomark _))))) (pw_or1 (PW.pt (pw_and (pt_cmpR (o_eq hr.units) (pv 4) (pe_callB (c_len (K := K)) rfl T.z_len (by decide +kernel) (pa_cons (pv 1) pa_nil)) (nomark _)) (pw_and1 (pt_cmpR (o_eq hr.units) (pe_slice (sl_any (K := K)) (pv 1) (po_some (pe_un o_neg pe_int)) po_none) pe_str (nomark _))))))))
     (pss_one (ps_set (i := 5) nd rfl (Or.inl rfl) pe_int))
     pss_nil)
    (pss_one (ps_expr (pe_bmK (K := K) PySem.F.plainAttrs_list PySem.F.slot_list_append PySem.F.type_list_append m_append1 (pv 3) (pa_cons (pv 5) pa_nil))))))))
    (pss_one (ps_ret (pe_callTy c_tuple rfl T.z_tuple (by decide +kernel) (pa_cons (pv 3) pa_nil)))))), ?_⟩
  rw [show L2.start ["_law_feed_here", "_law_signs", "_law_few", "_law_numbers_here", "_law_place", "_law_number"] [.ref p, .str (S sg), .int few] = [some (.ref p), some (.str (S sg)), some (.int few), none, none, none] from rfl]
  rw [t_dot]
  walk_at "go"
  intro a ha
  have pa : p ≠ a := by obtain ⟨o, e⟩ := hf.some; exact ne_of_none e ha
  walk_at "go"
  refine for_range (fun i σ H' => ∃ (v4 v5 : Option V) (ns : List Int), σ = [some (.ref p), some (.str (S sg)), some (.int few), some (.ref a), v4, v5] ∧ ns.length = i ∧ (∀ (j : Nat) v, ns[j]? = some v → 0 ≤ v ∧ v ≤ 9 ∧ (j = 0 → sg.head? = some 46 → v = 0) ∧ (j = sg.length → sg.getLast? = some 46 → v = 0)) ∧ FeedAt H' p (n + 2 * i) ∧ Kept p H H' ∧ H' a = some (.lst (ns.map V.int)))
    ⟨none, none, [], rfl, rfl, (fun j v e => by simp at e), hf.new ha, (Kept.refl p H).new ha _, upd_same⟩ ?_ ?_
  · rintro i σ H1 hi ⟨v4, v5, ns, rfl, hl, hns, hf1, k1, e1⟩
    walk_at "go"
    refine ⟨p, few, n + 2 * i, rfl, hf1, by omega, hfew, by omega, fun d H2 hd0 hd1 hf2 o2 => ?_⟩
    have key : ∀ (num : Int) (H3 : Hp), 0 ≤ num → num ≤ 9 → FeedAt H3 p (n + 2 * i + 2) → Kept p H H3 → H3 a = some (.lst (ns.map V.int)) →
        ∀ (b : Bool), (b = false → (i = 0 → sg.head? = some 46 → num = 0) ∧ (i = sg.length → sg.getLast? = some 46 → num = 0)) →
        ∃ (v4 v5 : Option V) (ns' : List Int), [some (V.ref p), some (.str (S sg)), some (.int few), some (.ref a), some (.int (0 + (i : Int))), some (.int (if b then 0 else num))] = [some (.ref p), some (.str (S sg)), some (.int few), some (.ref a), v4, v5] ∧ ns'.length = i + 1 ∧ (∀ (j : Nat) v, ns'[j]? = some v → 0 ≤ v ∧ v ≤ 9 ∧ (j = 0 → sg.head? = some 46 → v = 0) ∧ (j = sg.length → sg.getLast? = some 46 → v = 0)) ∧
          FeedAt (upd H3 a (.lst (ns.map V.int ++ [.int (if b then 0 else num)]))) p (n + 2 * (i + 1)) ∧ Kept p H (upd H3 a (.lst (ns.map V.int ++ [.int (if b then 0 else num)]))) ∧ (upd H3 a (.lst (ns.map V.int ++ [.int (if b then 0 else num)]))) a = some (.lst (ns'.map V.int)) := by
      intro num H3 h0 h9 hf3 k3 e3 b hb
      refine ⟨_, _, ns ++ [if b then 0 else num], rfl, by simp [hl], fun j v e => ?_, ?_, fun c o hc e => ?_, by rw [upd_same, List.map_append]; rfl⟩
      · by_cases hj : j < ns.length
        · rw [List.getElem?_append_left hj] at e
          exact hns j v e
        · have hj2 : j = ns.length := by
            have := (List.getElem?_eq_some_iff.mp e).1
            simp at this; omega
          subst hj2
          rw [List.getElem?_append_right (Nat.le_refl _), Nat.sub_self] at e
          simp only [List.getElem?_cons_zero, Option.some.injEq] at e
          subst e
          cases b with
          | true => exact ⟨Int.le_refl 0, (by show (0 : Int) ≤ 9; decide), fun _ _ => rfl, fun _ _ => rfl⟩
          | false => exact ⟨h0, h9, fun z => (hb rfl).1 (by omega), fun z => (hb rfl).2 (by omega)⟩
      · obtain ⟨a1, b1, c1, g1, g2⟩ := hf3
        exact ⟨a1, b1, c1, by rw [upd_ne pa]; exact g1, by omega⟩
      · have hca : c ≠ a := fun z => by rw [z, ha] at e; cases e
        rw [upd_ne hca]; exact k3 c o hc e
    have e2 : H2 a = some (.lst (ns.map V.int)) := (o2 a pa.symm).trans e1
    have hlen2 : (ns.map V.int).length < 1000000 := by rw [List.length_map]; omega
    have hz : ∀ (num : Int) (H3 : Hp), 0 ≤ num → num ≤ 9 → FeedAt H3 p (n + 2 * i + 2) → Kept p H H3 → H3 a = some (.lst (ns.map V.int)) → True := fun _ _ _ _ _ _ _ => trivial
    walk_at "go"
    refine iteD (fun c => ?_) (fun c => ?_)
    · walk_at "go"
      refine ⟨p, 9, n + 2 * i + 1, rfl, hf2, by omega, by decide, by decide, fun d2 H3 hg0 hg1 hf3 o3 => ?_⟩
      have e3 : H3 a = some (.lst (ns.map V.int)) := (o3 a pa.symm).trans e2
      have kk := key (1 + d2) H3 (by omega) (by omega) hf3 ((k1.off o2).off o3) e3
      walk_at "go"
      refine iteD (fun c1 => ?_) (fun c1 => ?_)
      · walk_at "go"
        refine iteD (fun c2 => ?_) (fun c2 => ?_)
        · walk_at "go"
          exact kk true (fun z => nomatch z)
        · walk_at "go"
          refine iteD (fun c3 => ?_) (fun c3 => ?_)
          · walk_at "go"
            refine iteD (fun c4 => ?_) (fun c4 => ?_)
            · walk_at "go"
              exact kk true (fun z => nomatch z)
            · walk_at "go"
              refine kk false (fun _ => ⟨fun _ z => absurd (congrArg (fun l => V.str (S l)) (head_dot.mpr z)) c2, fun _ z => absurd (congrArg (fun l => V.str (S l)) (last_dot.mpr z)) c4⟩)
          · walk_at "go"
            refine kk false (fun _ => ⟨fun _ z => absurd (congrArg (fun l => V.str (S l)) (head_dot.mpr z)) c2, fun z _ => absurd (by rw [z]; simp) c3⟩)
      · walk_at "go"
        refine iteD (fun c3 => ?_) (fun c3 => ?_)
        · walk_at "go"
          refine iteD (fun c4 => ?_) (fun c4 => ?_)
          · walk_at "go"
            exact kk true (fun z => nomatch z)
          · walk_at "go"
            refine kk false (fun _ => ⟨fun z _ => absurd (by rw [z]; rfl) c1, fun _ z => absurd (congrArg (fun l => V.str (S l)) (last_dot.mpr z)) c4⟩)
        · walk_at "go"
          refine kk false (fun _ => ⟨fun z _ => absurd (by rw [z]; rfl) c1, fun z _ => absurd (by rw [z]; simp) c3⟩)
    · have kk := key 0 H2 (by omega) (by omega) (hf2.mono (by omega)) (k1.off o2) e2 false (fun _ => ⟨fun _ _ => rfl, fun _ _ => rfl⟩)
      walk_at "go"
      refine iteD (fun c1 => ?_) (fun c1 => ?_)
      · walk_at "go"
        refine iteD (fun c2 => ?_) (fun c2 => ?_)
        · walk_at "go"
          exact kk
        · walk_at "go"
          refine iteD (fun c3 => ?_) (fun c3 => ?_)
          · walk_at "go"
            refine iteD (fun c4 => ?_) (fun c4 => ?_)
            · walk_at "go"
              exact kk
            · walk_at "go"
              exact kk
          · walk_at "go"
            exact kk
      · walk_at "go"
        refine iteD (fun c3 => ?_) (fun c3 => ?_)
        · walk_at "go"
          refine iteD (fun c4 => ?_) (fun c4 => ?_)
          · walk_at "go"
            exact kk
          · walk_at "go"
            exact kk
        · walk_at "go"
          exact kk
  · rintro σ H1 ⟨v4, v5, ns, rfl, hl, hns, hf1, k1, e1⟩
    walk_at "go"
    refine i_tupleR (seqR_lst e1) fun t H2 ht k2 => ?_
    walk_at "go"
    exact q t ns H2 ht (by omega) hns ((FeedAt.same hf1 k2).mono (by omega)) (k1.same k2)
end
theorem cut_mem {α : Type} {l : List α} {lo hi : Option Int} {c : α} (h : c ∈ cutA l lo hi) : c ∈ l := List.mem_of_mem_drop (List.mem_of_mem_take h)
theorem Low_lt {l : List Nat} (h : Low l) : ∀ c ∈ l, c < 128 := fun c hc => by
  have := h c hc
  unfold isLow at this
  simp at this
  omega
section
variable {P : Program} {w : World} {K : PySem.W.Frag} {mg : Str → Option Value} {base : Heap} {f : Addr} {fd : FuncData} {tk : Nat → Tok}
theorem ok_law_pattern (T : Txt mg tk) (F : Fun K "_law_pattern" "_law_pattern" s_law_pattern f fd) (D_law_next : Dn P w K mg base "_law_next" 1 ["_law_feed_here", "_law_many"] spNext) (D_law_word : Dn P w K mg base "_law_word" 2 ["_law_feed_here", "_law_letters_here", "_law_most"] spWord) (D_law_numbers : Dn P w K mg base "_law_numbers" 2 ["_law_feed_here", "_law_signs", "_law_few"] spNumbers) : FnOk P w K mg base CX0 3 f fd ["_law_feed_here", "_law_letters_here", "_law_word_here", "_law_most"] spPattern := by
  refine F.ok sc_law_pattern (fun vs H Q E h => ?_) (fun cdv A outer s H vs Q E hr h => ?_)
  · obtain ⟨p, n, l, w', m, rfl, _⟩ := h
    rfl
  obtain ⟨p, n, l, w', m, rfl, hf, hn, hl, hl1, hl2, hw, hw1, hw2, hm1, hm2, q⟩ := h
  have nd := sc_law_pattern.nd
  refine ⟨_, (pss_cons (ps_set (i := 4) nd rfl (Or.inl rfl) (pe_op o_add (pe_op o_add pe_str (pv 2)) pe_str))
    (pss_cons (ps_set (i := 5) nd rfl (Or.inl rfl) (pe_callD D_law_next (hr.mono (by first | decide | omega)) rfl (pa_cons (pv 0) (pa_cons (pe_op o_sub (pe_callB (c_len (K := K)) rfl T.z_len (by decide +kernel) (pa_cons (pv 4) pa_nil)) pe_int) pa_nil))))
    (pss_cons (ps_set (i := 6) nd rfl (Or.inl rfl) (pe_slice (sl_any (K := K)) (pv 4) (po_some (pv 5)) (po_some (pe_op o_add (pe_op o_add (pv 5) pe_int) (pe_callD D_law_next (hr.mono (by first | decide | omega)) rfl (pa_cons (pv 0) (pa_cons (pv 3) pa_nil)))))))
    (pss_cons (ps_if (pt_cmpR (o_eq hr.units) (pe_callD D_law_next (hr.mono (by first | decide | omega)) rfl (pa_cons (pv 0) (pa_cons pe_int pa_nil))) pe_int (nomark _))
     (pss_one (ps_set (i := 6) nd rfl (Or.inl rfl) (pe_callD D_law_word (hr.mono (by first | decide | omega)) rfl (pa_cons (pv 0) (pa_cons (pv 1) (pa_cons (pv 3) pa_nil))))))
     pss_nil)
    (pss_cons (ps_if (pt_cmpR (o_eq hr.units) (pv 6) pe_str (nomark _))
     (pss_one (ps_set (i := 6) nd rfl (Or.inl rfl) (pe_slice (sl_any (K := K)) (pv 4) po_none (po_some pe_int))))
     pss_nil)
    (pss_one (ps_ret (pe_tup (pa_cons (pv 6) (pa_cons (pe_callD D_law_numbers (hr.mono (by first | decide | omega)) rfl (pa_cons (pv 0) (pa_cons (pv 6) (pa_cons pe_int pa_nil)))) pa_nil)))))))))), ?_⟩
  rw [show L2.start ["_law_feed_here", "_law_letters_here", "_law_word_here", "_law_most", "_law_text", "_law_at", "_law_signs"] [.ref p, .str (S l), .str (S w'), .int (m : Int)] = [some (.ref p), some (.str (S l)), some (.str (S w')), some (.int (m : Int)), none, none, none] from rfl]
  rw [t_dot]
  walk_at "go"
  have htl : ([46] ++ w' ++ [46]).length = w'.length + 2 := by simp
  have htc : ∀ c ∈ [46] ++ w' ++ [46], c < 128 := fun c hc => by
    simp only [List.mem_append, List.mem_singleton] at hc
    rcases hc with (h | h) | h
    · omega
    · exact Low_lt hw c h
    · omega
  generalize [46] ++ w' ++ [46] = tx at htl htc ⊢
  refine ⟨p, _, n, rfl, hf, by omega, by omega, by omega, fun at_ H1 ha0 ha1 hf1 o1 => ?_⟩
  walk_at "go"
  refine ⟨p, _, n + 1, rfl, hf1, by omega, by omega, by omega, fun d H2 hd0 hd1 hf2 o2 => ?_⟩
  have hc1 := cut_length tx (some at_) (some (at_ + 1 + d))
  have e1 : sx tx.length 0 (some at_) = at_.toNat := by simp only [sx]; rw [if_neg (by omega)]; omega
  have e2 : sx tx.length tx.length (some (at_ + 1 + d)) = min (at_ + 1 + d).toNat tx.length := by simp only [sx]; rw [if_neg (by omega)]
  rw [e1, e2] at hc1
  have hcc : ∀ c ∈ cutA tx (some at_) (some (at_ + 1 + d)), c < 128 := fun c hc => htc c (cut_mem hc)
  walk_at "go"
  refine ⟨p, _, n + 1 + 1, rfl, hf2, by omega, by omega, by omega, fun d4 H3 hd40 hd41 hf3 o3 => ?_⟩
  have k3 := ((o1.kept).off o2).off o3
  walk_at "go"
  have hcut2 := cut_length tx none (some 2)
  have e3 : sx tx.length tx.length (some 2) = 2 := by simp only [sx]; rw [if_neg (by decide)]; show min 2 tx.length = 2; omega
  rw [e3] at hcut2
  have hcut2' : (cutA tx none (some 2)).length = 2 := by rw [hcut2]; rfl
  refine iteD (fun c => ?_) (fun c => ?_)
  · walk_at "go"
    refine ⟨p, n + 3, l, m, rfl, hf3, by omega, hl, hl1, hl2, hm1, by omega, fun w2 H4 hw20 hw21 hw22 hf4 k4 => ?_⟩
    have hsg1 : 1 ≤ w2.length := hw21
    have hsg2 : w2.length ≤ 22 := by omega
    have hsg3 := Low_lt hw20
    have k5 := k3.trans k4
    walk_at "go"
    refine iteD (fun c2 => ?_) (fun c2 => ?_)
    · walk_at "go"
      refine ⟨p, n + 33, _, 2, rfl, hf4, by omega, by omega, by decide, by decide, fun t ns H5 ht hns hnz hf5 k6 => ?_⟩
      walk_at "go"
      intro r hr0
      walk_at "go"
      have tr : t ≠ r := ne_of_none ht hr0
      refine q (.ref r) (cutA tx none (some 2), ns) _ (isPat_mk upd_same (by rw [upd_ne tr]; exact ht)) ⟨by show 1 ≤ (cutA tx none (some 2)).length; omega, by show (cutA tx none (some 2)).length ≤ 22; omega, hns, fun v hv => ?_, fun c hc => htc c (cut_mem hc)⟩ (by first | (show (cutA tx none (some 2)).length ≤ m + 1; omega) | (show w2.length ≤ m + 1; omega) | (show (cutA tx (some at_) (some (at_ + 1 + d))).length ≤ m + 1; omega)) ((hf5.new hr0).mono (by omega)) ((k5.trans k6).new hr0 _)
      obtain ⟨j, hj⟩ := List.mem_iff_getElem?.mp hv
      exact ⟨(hnz j v hj).1, (hnz j v hj).2.1⟩
    · walk_at "go"
      refine ⟨p, n + 33, _, 2, rfl, hf4, by omega, by omega, by decide, by decide, fun t ns H5 ht hns hnz hf5 k6 => ?_⟩
      walk_at "go"
      intro r hr0
      walk_at "go"
      have tr : t ≠ r := ne_of_none ht hr0
      refine q (.ref r) (w2, ns) _ (isPat_mk upd_same (by rw [upd_ne tr]; exact ht)) ⟨hsg1, hsg2, hns, fun v hv => ?_, hsg3⟩ (by first | (show (cutA tx none (some 2)).length ≤ m + 1; omega) | (show w2.length ≤ m + 1; omega) | (show (cutA tx (some at_) (some (at_ + 1 + d))).length ≤ m + 1; omega)) ((hf5.new hr0).mono (by omega)) ((k5.trans k6).new hr0 _)
      obtain ⟨j, hj⟩ := List.mem_iff_getElem?.mp hv
      exact ⟨(hnz j v hj).1, (hnz j v hj).2.1⟩
  · walk_at "go"
    refine iteD (fun c2 => ?_) (fun c2 => ?_)
    · walk_at "go"
      refine ⟨p, n + 3, _, 2, rfl, hf3, by omega, by omega, by decide, by decide, fun t ns H5 ht hns hnz hf5 k6 => ?_⟩
      walk_at "go"
      intro r hr0
      walk_at "go"
      have tr : t ≠ r := ne_of_none ht hr0
      refine q (.ref r) (cutA tx none (some 2), ns) _ (isPat_mk upd_same (by rw [upd_ne tr]; exact ht)) ⟨by show 1 ≤ (cutA tx none (some 2)).length; omega, by show (cutA tx none (some 2)).length ≤ 22; omega, hns, fun v hv => ?_, fun c hc => htc c (cut_mem hc)⟩ (by first | (show (cutA tx none (some 2)).length ≤ m + 1; omega) | (show w2.length ≤ m + 1; omega) | (show (cutA tx (some at_) (some (at_ + 1 + d))).length ≤ m + 1; omega)) ((hf5.new hr0).mono (by omega)) ((k3.trans k6).new hr0 _)
      obtain ⟨j, hj⟩ := List.mem_iff_getElem?.mp hv
      exact ⟨(hnz j v hj).1, (hnz j v hj).2.1⟩
    · walk_at "go"
      refine ⟨p, n + 3, _, 2, rfl, hf3, by omega, by omega, by decide, by decide, fun t ns H5 ht hns hnz hf5 k6 => ?_⟩
      walk_at "go"
      intro r hr0
      walk_at "go"
      have tr : t ≠ r := ne_of_none ht hr0
      refine q (.ref r) (cutA tx (some at_) (some (at_ + 1 + d)), ns) _ (isPat_mk upd_same (by rw [upd_ne tr]; exact ht)) ⟨by show 1 ≤ (cutA tx (some at_) (some (at_ + 1 + d))).length; omega, by show (cutA tx (some at_) (some (at_ + 1 + d))).length ≤ 22; omega, hns, fun v hv => ?_, hcc⟩ (by first | (show (cutA tx none (some 2)).length ≤ m + 1; omega) | (show w2.length ≤ m + 1; omega) | (show (cutA tx (some at_) (some (at_ + 1 + d))).length ≤ m + 1; omega)) ((hf5.new hr0).mono (by omega)) ((k3.trans k6).new hr0 _)
      obtain ⟨j, hj⟩ := List.mem_iff_getElem?.mp hv
      exact ⟨(hnz j v hj).1, (hnz j v hj).2.1⟩
theorem IsL_kept {p : Addr} {H H' : Hp} (hn : ∀ b o, H b = some o → b ≠ p → H' b = some o) (hp : ∃ a b c : Int, H p = some (.lst [.int a, .int b, .int c])) : ∀ {xs : List Pat} {ys : List V}, L2.IsL H ys (xs.map patD) → L2.IsL H' ys (xs.map patD)
  | [], [], _ => by simp only [List.map_nil, L2.IsL]
  | [], _ :: _, h => by simp only [List.map_nil, L2.IsL] at h
  | _ :: _, [], h => by simp only [List.map_cons, L2.IsL] at h
  | x :: xs, y :: ys, h => by
    simp only [List.map_cons, L2.IsL] at h ⊢
    refine ⟨?_, IsL_kept hn hp h.2⟩
    obtain ⟨a, t, rfl, h1, h2⟩ := isPat h.1
    obtain ⟨a0, b0, c0, h3⟩ := hp
    exact isPat_mk (hn a _ h1 (ne_of h1 h3 (by intro z; cases z))) (hn t _ h2 (ne_of h2 h3 (by intro z; cases z)))
theorem IsL_mono {H H' : Hp} {r : Addr} {zs : List V} (hn : ∀ b o, H b = some o → b ≠ r → H' b = some o) (hr : H r = some (.lst zs)) : ∀ {xs : List Pat} {ys : List V}, L2.IsL H ys (xs.map patD) → L2.IsL H' ys (xs.map patD)
  | [], [], _ => by simp only [List.map_nil, L2.IsL]
  | [], _ :: _, h => by simp only [List.map_nil, L2.IsL] at h
  | _ :: _, [], h => by simp only [List.map_cons, L2.IsL] at h
  | x :: xs, y :: ys, h => by
    simp only [List.map_cons, L2.IsL] at h ⊢
    refine ⟨?_, IsL_mono hn hr h.2⟩
    obtain ⟨a, t, rfl, h1, h2⟩ := isPat h.1
    exact isPat_mk (hn a _ h1 (ne_of h1 hr (by intro z; cases z))) (hn t _ h2 (ne_of h2 hr (by intro z; cases z)))
theorem FeedAt.ex {H : Hp} {p : Addr} {n : Nat} (h : FeedAt H p n) : ∃ a b c : Int, H p = Option.some (.lst [.int a, .int b, .int c]) := by
  obtain ⟨a, b, c, h1, _⟩ := h
  exact ⟨a, b, c, h1⟩
theorem ok_law_patterns (T : Txt mg tk) (F : Fun K "_law_patterns" "_law_patterns" s_law_patterns f fd) (D_law_next : Dn P w K mg base "_law_next" 1 ["_law_feed_here", "_law_many"] spNext) (D_law_pattern : Dn P w K mg base "_law_pattern" 3 ["_law_feed_here", "_law_letters_here", "_law_word_here", "_law_most"] spPattern) : FnOk P w K mg base CX0 4 f fd ["_law_feed_here", "_law_letters_here", "_law_words", "_law_most"] spPatterns := by
  refine F.ok sc_law_patterns (fun vs H Q E h => ?_) (fun cdv A outer s H vs Q E hr h => ?_)
  · obtain ⟨p, n, l, a, ws, m, rfl, _⟩ := h
    rfl
  obtain ⟨p, n, l, a, ws, m, rfl, hf, hn, hl, hl1, hl2, ha, hws1, hws2, hws3, hm, hap, q⟩ := h
  have nd := sc_law_patterns.nd
  refine ⟨_, (pss_cons (ps_set (i := 4) nd rfl (Or.inl rfl) (pe_lst pa_nil))
    (pss_cons (ps_for PassesOwn.never rfl (pi_range1 rfl T.z_range (pa_cons (pe_callD D_law_next (hr.mono (by first | decide | omega)) rfl (pa_cons (pv 0) (pa_cons (pe_op o_add (pv 3) pe_int) pa_nil))) pa_nil)) (pg_name (i := 5) nd rfl (Or.inl rfl))
     (pss_cons (ps_set (i := 6) nd rfl (Or.inl rfl) (pe_ix (ix_any (K := K)) (pv 2) (pe_callD D_law_next (hr.mono (by first | decide | omega)) rfl (pa_cons (pv 0) (pa_cons (pe_callB (c_len (K := K)) rfl T.z_len (by decide +kernel) (pa_cons (pv 2) pa_nil)) pa_nil))) (fun _ _ => rfl)))
    (pss_one (ps_expr (pe_bmK (K := K) PySem.F.plainAttrs_list PySem.F.slot_list_append PySem.F.type_list_append m_append1 (pv 4) (pa_cons (pe_callD D_law_pattern (hr.mono (by first | decide | omega)) rfl (pa_cons (pv 0) (pa_cons (pv 1) (pa_cons (pv 6) (pa_cons pe_int pa_nil))))) pa_nil))))))
    (pss_one (ps_ret (pv 4))))), ?_⟩
  rw [show L2.start ["_law_feed_here", "_law_letters_here", "_law_words", "_law_most", "_law_found", "_law_k", "_law_word_here"] [.ref p, .str (S l), .ref a, .int (m : Int)] = [some (.ref p), some (.str (S l)), some (.ref a), some (.int (m : Int)), none, none, none] from rfl]
  walk_at "go"
  intro r hr0
  have pr : p ≠ r := by obtain ⟨o, e⟩ := hf.some; exact ne_of_none e hr0
  have ar : a ≠ r := ne_of_none ha hr0
  walk_at "go"
  refine ⟨p, _, n, rfl, hf.new hr0, by omega, by omega, by omega, fun d H1 hd0 hd1 hf1 o1 => ?_⟩
  have e1 : H1 r = some (.lst []) := (o1 r pr.symm).trans upd_same
  have k1 : Kept p H H1 := ((Kept.refl p H).new hr0 _).off o1
  walk_at "go"
  refine for_range (fun i σ H' => ∃ (v5 v6 : Option V) (ys : List V) (xs : List Pat), σ = [some (.ref p), some (.str (S l)), some (.ref a), some (.int (m : Int)), some (.ref r), v5, v6] ∧ xs.length = i ∧ H' r = some (.lst ys) ∧ L2.IsL H' ys (xs.map patD) ∧ (∀ x ∈ xs, GP x ∧ x.1.length ≤ 5) ∧ FeedAt H' p (n + 1 + 300 * i) ∧ Kept p H H')
    ⟨none, none, [], [], rfl, rfl, e1, (by simp only [List.map_nil, L2.IsL]), (fun x hx => nomatch hx), hf1, k1⟩ ?_ ?_
  · rintro i σ H2 hi ⟨v5, v6, ys, xs, rfl, hxl, e2, hys, hgp, hf2, k2⟩
    have ha2 := k2 a _ hap ha
    have hyl := hys.length
    rw [List.length_map] at hyl
    walk_at "go"
    rw [List.length_map]
    refine ⟨p, _, n + 1 + 300 * i, rfl, hf2, by omega, by omega, by omega, fun c H3 hc0 hc1 hf3 o3 => ?_⟩
    have ha3 : H3 a = _ := (o3 a hap).trans ha2
    have hcl : c.toNat < ws.length := by omega
    refine i_ixR (v := .str (S ws[c.toNat])) (seqR_lst ha3) (atI_of hc0 (by rw [List.getElem?_map, List.getElem?_eq_getElem hcl]; rfl)) ?_
    have hg := hws3 _ (List.getElem_mem hcl)
    have e3 : H3 r = some (.lst ys) := (o3 r pr.symm).trans e2
    have hys3 : L2.IsL H3 ys (xs.map patD) := IsL_kept (fun b o e hb => (o3 b hb).trans e) (FeedAt.ex hf2) hys
    walk_at "go"
    refine ⟨p, n + 2 + 300 * i, l, ws[c.toNat], 4, rfl, hf3.mono (by omega), by omega, hl, hl1, hl2, hg.1, hg.2.1, hg.2.2, by decide, by decide, fun v x H4 hv hx hx5 hf4 k4 => ?_⟩
    have e4 : H4 r = some (.lst ys) := k4 r _ pr.symm e3
    have hys4 : L2.IsL H4 ys (xs.map patD) := IsL_kept (fun b o e hb => k4 b o hb e) (FeedAt.ex hf3) hys3
    have hsz : ys.length < sizeLine := szn (by omega)
    walk_at "go"
    have up : ∀ b o, H4 b = some o → b ≠ r → (upd H4 r (.lst (ys ++ [v]))) b = some o := fun b o e hb => by rw [upd_ne hb]; exact e
    refine ⟨_, _, ys ++ [v], xs ++ [x], rfl, by simp [hxl], upd_same, ?_, ?_, ?_, fun b o hb e => ?_⟩
    · rw [List.map_append]
      refine IsL.append (IsL_mono up e4 hys4) ?_
      have h1 : L2.IsL H4 [v] ([x].map patD) := by simp only [List.map_cons, List.map_nil, L2.IsL]; exact ⟨hv, trivial⟩
      exact IsL_mono up e4 h1
    · intro z hz
      rcases List.mem_append.mp hz with h | h
      · exact hgp z h
      · have : z = x := by simpa using h
        rw [this]; exact ⟨hx, by omega⟩
    · obtain ⟨a1, b1, c1, g1, g2⟩ := hf4
      exact ⟨a1, b1, c1, by rw [upd_ne pr]; exact g1, by omega⟩
    · have hbr : b ≠ r := fun z => by rw [z, hr0] at e; cases e
      rw [upd_ne hbr]
      exact k4 b o hb ((o3 b hb).trans (k2 b o hb e))
  · rintro σ H2 ⟨v5, v6, ys, xs, rfl, hxl, e2, hys, hgp, hf2, k2⟩
    walk_at "go"
    exact q r ys xs H2 e2 hys hgp (by omega) (hf2.mono (by omega)) k2 hr0
end
abbrev s_values_by_fits : Stmt := top 1
theorem sc_values_by_fits : FnScope ["fits", "word", "told", "begin", "numbers", "place", "number"] ["fits", "word"] (defScope s_values_by_fits) := ⟨rfl, rfl, rfl, by decide +kernel, rfl, by decide +kernel, by decide +kernel⟩
def spValues : Sp := fun vs H Q _ => ∃ (v : V) (xs : List Pat) (w : List Nat), vs = [v, .str (S w)] ∧ Is H v (patsD xs) ∧ (∀ x ∈ xs, 1 ≤ x.1.length ∧ x.1.length ≤ 1000 ∧ x.2.length ≤ x.1.length + 1) ∧ xs.length ≤ 1000 ∧ 1 ≤ w.length ∧ w.length ≤ 100 ∧
  ∀ (r : Addr) (H' : Hp), H r = none → H' r = some (.lst ((vals xs w).map V.int)) → Same H H' → Q (.ref r) H'
theorem frame_eq (w : List Nat) : [46] ++ w ++ [46] = frame w := by simp [frame]
theorem set_put (t : List Int) (p : Nat) (v : Int) (h : p < t.length) : (t.map V.int).set p (.int (if v > t[p] then v else t[p])) = (put t p v).map V.int := by
  unfold put mx
  rw [List.map_set]
  have : t.getD p 0 = t[p] := by simp [List.getD_eq_getElem?_getD, h]
  rw [this]
def spByFits : Sp := fun vs H Q _ => ∃ (v : V) (xs : List Fit) (w : List Nat), vs = [v, .str (S w)] ∧ Is H v (fitsD xs) ∧ (∀ x ∈ xs, x.1 + x.2.length ≤ w.length + 3) ∧ w.length ≤ 100 ∧
  ∀ (r : Addr) (H' : Hp), H r = none → H' r = some (.lst ((cutA (layF (List.replicate (w.length + 3) 0) xs) (some 2) (some (-2))).map V.int)) → Same H H' → Q (.ref r) H'
section
variable {P : Program} {w : World} {K : PySem.W.Frag} {mg : Str → Option Value} {base : Heap} {f : Addr} {fd : FuncData} {tk : Nat → Tok}
theorem ok_values_by_fits (T : Txt mg tk) (F : Fun K "values_by_fits" "values_by_fits" s_values_by_fits f fd) : FnOk P w K mg base CX0 1 f fd ["fits", "word"] spByFits := by
  refine F.ok sc_values_by_fits (fun vs H Q E h => ?_) (fun cdv A outer s H vs Q E hr h => ?_)
  · obtain ⟨v, xs, w, rfl, _⟩ := h
    rfl
  obtain ⟨v, xs, w', rfl, hv, hxs, hw2, q⟩ := h
  obtain ⟨a, ys, rfl, ha, hys⟩ := isFits hv
  have nd := sc_values_by_fits.nd
  refine ⟨_, (pss_cons (ps_set (i := 2) nd rfl (Or.inl rfl) (pe_op o_mul (pe_lst (pa_cons pe_int pa_nil)) (pe_op o_add (pe_callB (c_len (K := K)) rfl T.z_len (by decide +kernel) (pa_cons (pv 1) pa_nil)) pe_int)))
    (pss_cons (ps_for PassesOwn.never rfl (pi_any (K := K) (pv 0)) (pg_tup rfl (pgs_cons (pg_name (i := 3) nd rfl (Or.inl rfl)) (pgs_cons (pg_name (i := 4) nd rfl (Or.inl rfl)) pgs_nil)))
     (pss_one (ps_for PassesOwn.never rfl (pi_enumS rfl T.z_enumerate (pv 4) (pv 3)) (pg_tup rfl (pgs_cons (pg_name (i := 5) nd rfl (Or.inl rfl)) (pgs_cons (pg_name (i := 6) nd rfl (Or.inl rfl)) pgs_nil)))
     (pss_one (ps_asg (pe_callB (c_max rfl) rfl T.z_max (by decide +kernel) (pa_cons (pe_ix (ix_any (K := K)) (pv 2) (pv 5) (fun _ _ => rfl)) (pa_cons (pv 6) pa_nil))) (pg_sub (pv 2) (pv 5) set_l))))))
    (pss_one (ps_ret (pe_slice (sl_any (K := K)) (pv 2) (po_some pe_int) (po_some (pe_un o_neg pe_int))))))), ?_⟩
  rw [show L2.start ["fits", "word", "told", "begin", "numbers", "place", "number"] [.ref a, .str (S w')] = [some (.ref a), some (.str (S w')), none, none, none, none, none] from rfl]
  walk_at "go"
  intro b0 hb0
  walk_at "go"
  refine i_mulZ upd_same (by omega) fun t ht0 => ?_
  have hrep : (List.replicate (((w'.length : Nat) : Int) + 3).toNat (V.int 0)) = (List.replicate (w'.length + 3) (0 : Int)).map V.int := by
    rw [List.map_replicate]; congr 1
  rw [hrep]
  have s0 : Same H (upd (upd H b0 (.lst [.int 0])) t (.lst ((List.replicate (w'.length + 3) (0 : Int)).map V.int))) := (same_new hb0 _).trans (same_new ht0 _)
  have htH : H t = none := (same_new hb0 _).free ht0
  have ha0 := s0 _ _ ha
  walk_at "go"
  refine for_list (K := K) (xs := ys) (fun i σ H' => ∃ (v3 v4 v5 v6 : Option V), σ = [some (.ref a), some (.str (S w')), some (.ref t), v3, v4, v5, v6] ∧ H' t = some (.lst ((layF (List.replicate (w'.length + 3) 0) (xs.take i)).map V.int)) ∧ Same H H')
    ⟨none, none, none, none, rfl, upd_same, s0⟩ (fun i σ H' _ ⟨_, _, _, _, _, _, s1⟩ => SqL.of (s1 _ _ ha)) ?_ ?_
  · rintro i x σ H1 hx ⟨v3, v4, v5, v6, rfl, e1, s1⟩
    have hil : i < xs.length := by
      have h1 := (List.getElem?_eq_some_iff.mp hx).1
      have h2 := hys.length
      rw [List.length_map] at h2; omega
    obtain ⟨x', d, hx1, hx2, hx3⟩ := IsL.get hys (i := i) (by rw [List.length_map]; exact hil)
    rw [hx] at hx1
    cases hx1
    rw [List.getElem?_map, List.getElem?_eq_getElem hil] at hx2
    cases hx2
    obtain ⟨pa, nt, rfl, hpa, hnt⟩ := isFit hx3
    have hg := hxs _ (List.getElem_mem hil)
    have hpa1 := s1 _ _ hpa
    have hnt1 := s1 _ _ hnt
    have hT1 := layF_length (xs.take i) (List.replicate (w'.length + 3) 0)
    rw [List.length_replicate] at hT1
    rw [layF_take hil]
    generalize layF (List.replicate (w'.length + 3) 0) (xs.take i) = T1 at e1 hT1 ⊢
    generalize xs[i] = xi at hg hpa1 hnt1 hnt ⊢
    obtain ⟨b, ns⟩ := xi
    refine i_gtup hpa1 rfl (i_gcons (i_name (i_gcons (i_name (i_gnil ?_)))))
    have hg : b + ns.length ≤ w'.length + 3 := hg
    have hnt1 : H1 nt = some (.tup (ns.map V.int)) := hnt1
    have hnt : H nt = some (.tup (ns.map V.int)) := hnt
    walk_at "go"
    refine ⟨b, rfl, by omega, i_enST hnt1 ?_⟩
    refine for_en (b := b) (xs := ns.map V.int) (fun k σ H' => ∃ (v5 v6 : Option V), σ = [some (.ref a), some (.str (S w')), some (.ref t), some (.int (b : Int)), some (.ref nt), v5, v6] ∧ H' t = some (.lst ((laid T1 b (ns.take k)).map V.int)) ∧ Same H H')
      ⟨_, _, rfl, e1, s1⟩ (fun k σ H' _ ⟨_, _, _, _, s4⟩ => s4 _ _ hnt) ?_ ?_
    · rintro k z σ H4 T4 hz ⟨v5, v6, rfl, e4, s4⟩ hT4
      have hkl : k < ns.length := by
        have := (List.getElem?_eq_some_iff.mp hz).1
        simpa using this
      rw [List.getElem?_map, List.getElem?_eq_getElem hkl] at hz
      cases hz
      have htT : t ≠ T4 := ne_of_none e4 hT4
      have hL2 := laid_length (ns.take k) T1 b
      have htk2 : ns.take (k + 1) = ns.take k ++ [ns[k]] := by rw [List.take_succ, List.getElem?_eq_getElem hkl]; rfl
      have hsn := laid_snoc b ns[k] (ns.take k) T1 b
      rw [← htk2, List.length_take, Nat.min_eq_left (Nat.le_of_lt hkl)] at hsn
      rw [hsn]
      generalize laid T1 b (ns.take k) = T2 at e4 hL2 ⊢
      have e5 : (upd H4 T4 (.tup [.int ((b : Int) + (k : Int)), .int ns[k]])) t = some (.lst (T2.map V.int)) := by rw [upd_ne htT]; exact e4
      have hbk : b + k < T2.length := by omega
      refine i_gtup upd_same rfl (i_gcons (i_name (i_gcons (i_name (i_gnil ?_)))))
      walk_at "go"
      refine i_ixR (v := .int T2[b + k]) (seqR_lst e5) (atI_of (by omega) (by rw [show ((b : Int) + (k : Int)).toNat = b + k by omega, List.getElem?_map, List.getElem?_eq_getElem hbk]; rfl)) ?_
      walk_at "go"
      refine i_set (j := b + k) e5 (by rw [List.length_map]; rw [ixN_of (by omega) (by omega)]; rfl) ?_
      rw [set_put T2 (b + k) ns[k] hbk]
      walk_at "go"
      refine ⟨_, _, rfl, upd_same, fun c o e => ?_⟩
      have hct : c ≠ t := fun z => by rw [z, htH] at e; cases e
      rw [upd_ne hct]
      exact (same_new hT4 _) c o (s4 c o e)
    · rintro σ H4 ⟨v5, v6, rfl, e4, s4⟩
      rw [List.length_map, List.take_length] at e4
      walk_at "go"
      exact ⟨_, _, _, _, rfl, e4, s4⟩
  · rintro σ H1 ⟨v3, v4, v5, v6, rfl, e1, s1⟩
    have h2 := hys.length
    rw [List.length_map] at h2
    rw [h2, List.take_length] at e1
    walk_at "go"
    refine i_slL (SqL.of e1) fun r hr1 => ?_
    rw [cutV_eq, cutA_map]
    walk_at "go"
    exact q r _ (s1.free hr1) upd_same (s1.trans (same_new hr1 _))
end
abbrev s_law_values : Stmt := top 18
theorem sc_law_values : FnScope ["_law_patterns_here", "_law_word_here", "_law_text", "_law_found", "_law_signs", "_law_numbers_here", "_law_place", "_law_k"] ["_law_patterns_here", "_law_word_here"] (defScope s_law_values) := ⟨rfl, rfl, rfl, by decide +kernel, rfl, by decide +kernel, by decide +kernel⟩
theorem i_while {σ : St} {H : Hp} {D : Ends} {c : TT} {tb : TS} (h : ∃ W : Nat → St → Hp → Prop, (∃ m, W m σ H) ∧ ∀ m σ H, W m σ H →
  c σ H fun b H1 => if b = true then ∃ N : St → Hp → Prop, (∀ σ' H', N σ' H' → ∃ m', m' < m ∧ W m' σ' H') ∧ tb { D with nx := N, ct := N, bk := D.nx } σ H1 else D.nx σ H1) : tWhile c tb D σ H := h
section
variable {P : Program} {w : World} {K : PySem.W.Frag} {mg : Str → Option Value} {base : Heap} {f : Addr} {fd : FuncData} {tk : Nat → Tok}
theorem ok_law_values (T : Txt mg tk) (F : Fun K "_law_values" "_law_values" s_law_values f fd) : FnOk P w K mg base CX0 1 f fd ["_law_patterns_here", "_law_word_here"] spValues := by
  refine F.ok sc_law_values (fun vs H Q E h => ?_) (fun cdv A outer s H vs Q E hr h => ?_)
  · obtain ⟨v, xs, w, rfl, _⟩ := h
    rfl
  obtain ⟨v, xs, w', rfl, hv, hxs, hxl, hw1, hw2, q⟩ := h
  obtain ⟨a, ys, rfl, ha, hys⟩ := isPats hv
  have nd := sc_law_values.nd
  refine ⟨_, (pss_cons (ps_set (i := 2) nd rfl (Or.inl rfl) (pe_op o_add (pe_op o_add pe_str (pv 1)) pe_str))
    (pss_cons (ps_set (i := 3) nd rfl (Or.inl rfl) (pe_op o_mul (pe_lst (pa_cons pe_int pa_nil)) (pe_op o_sub (pe_callB (c_len (K := K)) rfl T.z_len (by decide +kernel) (pa_cons (pv 1) pa_nil)) pe_int)))
    (pss_cons (ps_for PassesOwn.never rfl (pi_any (K := K) (pv 0)) (pg_tup rfl (pgs_cons (pg_name (i := 4) nd rfl (Or.inl rfl)) (pgs_cons (pg_name (i := 5) nd rfl (Or.inl rfl)) pgs_nil)))
     (pss_cons (ps_set (i := 6) nd rfl (Or.inl rfl) (pe_bmK (K := K) PySem.F.plainAttrs_str PySem.F.slot_str_find PySem.F.type_str_find m_find1 (pv 2) (pa_cons (pv 4) pa_nil)))
    (pss_one (ps_while PassesOwn.never (pt_cmpR o_ge (pv 6) pe_int (nomark _))
     (pss_cons (ps_for PassesOwn.never rfl (pi_range1 rfl T.z_range (pa_cons (pe_callB (c_len (K := K)) rfl T.z_len (by decide +kernel) (pa_cons (pv 5) pa_nil)) pa_nil)) (pg_name (i := 7) nd rfl (Or.inl rfl))
     (pss_one (ps_if (pt_chain o_lt o_lt pe_int (pe_op o_sub (pe_op o_add (pv 6) (pv 7)) pe_int) (pe_callB (c_len (K := K)) rfl T.z_len (by decide +kernel) (pa_cons (pv 1) pa_nil)))
     (pss_one (ps_asg (pe_callB (c_max rfl) rfl T.z_max (by decide +kernel) (pa_cons (pe_ix (ix_any (K := K)) (pv 3) (pe_op o_sub (pe_op o_add (pv 6) (pv 7)) pe_int) (fun _ _ => rfl)) (pa_cons (pe_ix (ix_any (K := K)) (pv 5) (pv 7) (fun _ _ => rfl)) pa_nil))) (pg_sub (pv 3) (pe_op o_sub (pe_op o_add (pv 6) (pv 7)) pe_int) set_l)))
     pss_nil)))
    (pss_one (ps_set (i := 6) nd rfl (Or.inl rfl) (pe_bmK (K := K) PySem.F.plainAttrs_str PySem.F.slot_str_find PySem.F.type_str_find m_find2 (pv 2) (pa_cons (pv 4) (pa_cons (pe_op o_add (pv 6) pe_int) pa_nil))))))))))
    (pss_one (ps_ret (pv 3)))))), ?_⟩
  rw [show L2.start ["_law_patterns_here", "_law_word_here", "_law_text", "_law_found", "_law_signs", "_law_numbers_here", "_law_place", "_law_k"] [.ref a, .str (S w')] = [some (.ref a), some (.str (S w')), none, none, none, none, none, none] from rfl]
  rw [t_dot]
  have hfl := frame_length w'
  walk_at "go"
  rw [frame_eq]
  intro b0 hb0
  walk_at "go"
  refine i_mulZ upd_same (by omega) fun t ht0 => ?_
  have hrep : (List.replicate (((w'.length : Nat) : Int) - 1).toNat (V.int 0)) = (List.replicate (w'.length - 1) (0 : Int)).map V.int := by
    rw [List.map_replicate]; congr 1; omega
  rw [hrep]
  have s0 : Same H (upd (upd H b0 (.lst [.int 0])) t (.lst ((List.replicate (w'.length - 1) (0 : Int)).map V.int))) := (same_new hb0 _).trans (same_new ht0 _)
  have htH : H t = none := (same_new hb0 _).free ht0
  have ha0 := s0 _ _ ha
  walk_at "go"
  refine for_list (K := K) (xs := ys) (fun i σ H' => ∃ (v4 v5 v6 v7 : Option V), σ = [some (.ref a), some (.str (S w')), some (.str (S (frame w'))), some (.ref t), v4, v5, v6, v7] ∧ H' t = some (.lst ((lawA w'.length (frame w') (List.replicate (w'.length - 1) 0) (xs.take i)).map V.int)) ∧ Same H H')
    ⟨none, none, none, none, rfl, upd_same, s0⟩ (fun i σ H' _ ⟨_, _, _, _, _, _, s1⟩ => SqL.of (s1 _ _ ha)) ?_ ?_
  · rintro i x σ H1 hx ⟨v4, v5, v6, v7, rfl, e1, s1⟩
    have hil : i < xs.length := by
      have h1 := (List.getElem?_eq_some_iff.mp hx).1
      have h2 := hys.length
      rw [List.length_map] at h2; omega
    obtain ⟨x', d, hx1, hx2, hx3⟩ := IsL.get hys (i := i) (by rw [List.length_map]; exact hil)
    rw [hx] at hx1
    cases hx1
    rw [List.getElem?_map, List.getElem?_eq_getElem hil] at hx2
    cases hx2
    obtain ⟨pa, nt, rfl, hpa, hnt⟩ := isPat hx3
    obtain ⟨hg1, hg2, hg3⟩ := hxs _ (List.getElem_mem hil)
    have hpne : xs[i].1 ≠ [] := List.length_pos_iff.mp hg1
    have hpa1 := s1 _ _ hpa
    have hnt1 := s1 _ _ hnt
    obtain ⟨hT1, _⟩ := lawA_get w'.length (frame w') (xs.take i) (List.replicate (w'.length - 1) 0) (by simp)
    generalize hT : lawA w'.length (frame w') (List.replicate (w'.length - 1) 0) (xs.take i) = T0 at e1 hT1
    refine i_gtup hpa1 rfl (i_gcons (i_name (i_gcons (i_name (i_gnil ?_)))))
    walk_at "go"
    rw [find_S]
    refine i_while ⟨fun m σ H' => ∃ (k : Nat) (bs : List Nat) (v7 : Option V), m = (frame w').length + 1 - k ∧ k ≤ (frame w').length ∧ placesFrom xs[i].1 (frame w') 0 = bs ++ placesFrom xs[i].1 (frame w') k ∧
      σ = [some (.ref a), some (.str (S w')), some (.str (S (frame w'))), some (.ref t), some (.str (S xs[i].1)), some (.ref nt), some (.int (findL xs[i].1 (frame w') k)), v7] ∧ H' t = some (.lst ((bs.foldl (fun t b => llaid w'.length t b xs[i].2) T0).map V.int)) ∧ Same H H', ⟨_, 0, [], _, rfl, Nat.zero_le _, rfl, rfl, e1, s1⟩, ?_⟩
    rintro m σ H2 ⟨k, bs, v7, rfl, hk, hbs, rfl, e2, s2⟩
    walk_at "go"
    refine iteD (fun c => ?_) (fun c => ?_)
    · obtain ⟨b, hfb, hkb, hbf, hfit, hpl⟩ := findL_pos hk c
      rw [hfb]
      have hblt := fits_lt hpne hfit
      have hnt2 := s2 _ _ hnt
      have hL1 := (foldl_llaid w'.length xs[i].2 bs T0 hT1).1
      have hfl2 : bs ++ placesFrom xs[i].1 (frame w') k = (bs ++ [b]) ++ placesFrom xs[i].1 (frame w') (b + 1) := by rw [hpl, List.append_assoc]; rfl
      rw [hfl2] at hbs
      have hfold : (bs ++ [b]).foldl (fun t b => llaid w'.length t b xs[i].2) T0 = llaid w'.length (bs.foldl (fun t b => llaid w'.length t b xs[i].2) T0) b xs[i].2 := by rw [List.foldl_append]; rfl
      generalize bs.foldl (fun t b => llaid w'.length t b xs[i].2) T0 = T1 at e2 hL1 hfold
      refine ⟨fun σ' H' => ∃ (v7 : Option V), σ' = [some (.ref a), some (.str (S w')), some (.str (S (frame w'))), some (.ref t), some (.str (S xs[i].1)), some (.ref nt), some (.int (findL xs[i].1 (frame w') (b + 1))), v7] ∧ H' t = some (.lst ((llaid w'.length T1 b xs[i].2).map V.int)) ∧ Same H H', ?_, ?_⟩
      · rintro σ' H' ⟨v7', rfl, e', s'⟩
        refine ⟨(frame w').length + 1 - (b + 1), by omega, b + 1, bs ++ [b], v7', rfl, by omega, hbs, rfl, ?_, s'⟩
        rw [hfold]; exact e'
      · walk_at "go"
        rw [List.length_map]
        walk_at "go"
        refine for_range (fun j σ H' => ∃ (v7 : Option V), σ = [some (.ref a), some (.str (S w')), some (.str (S (frame w'))), some (.ref t), some (.str (S xs[i].1)), some (.ref nt), some (.int (b : Int)), v7] ∧ H' t = some (.lst ((llaid w'.length T1 b (xs[i].2.take j)).map V.int)) ∧ Same H H')
          ⟨_, rfl, e2, s2⟩ ?_ ?_
        · rintro j σ H3 hj ⟨v7, rfl, e3, s3⟩
          have hj : j < xs[i].2.length := by omega
          have hnt3 := s3 _ _ hnt
          have htk2 : xs[i].2.take (j + 1) = xs[i].2.take j ++ [xs[i].2[j]] := by rw [List.take_succ, List.getElem?_eq_getElem hj]; rfl
          have hsn := llaid_snoc w'.length xs[i].2[j] (xs[i].2.take j) T1 b
          rw [← htk2, List.length_take, Nat.min_eq_left (Nat.le_of_lt hj)] at hsn
          have hL2 := llaid_length w'.length (xs[i].2.take j) T1 b
          rw [hsn]
          generalize llaid w'.length T1 b (xs[i].2.take j) = T2 at e3 hL2 ⊢
          walk_at "go"
          have key : ∀ (hc : 2 ≤ b + j ∧ b + j ≤ w'.length), (lput w'.length T2 (b + j) xs[i].2[j]) = put T2 (b + j - 2) xs[i].2[j] := fun hc => by unfold lput; rw [if_pos hc]
          have key2 : ∀ (hc : ¬ (2 ≤ b + j ∧ b + j ≤ w'.length)), (lput w'.length T2 (b + j) xs[i].2[j]) = T2 := fun hc => by unfold lput; rw [if_neg hc]
          refine iteD (fun c1 => ?_) (fun c1 => ?_)
          · walk_at "go"
            refine iteD (fun c2 => ?_) (fun c2 => ?_)
            · have hc : 2 ≤ b + j ∧ b + j ≤ w'.length := by omega
              have hbk : b + j - 2 < T2.length := by omega
              have hix : ((b : Int) + (0 + (j : Int)) - 2).toNat = b + j - 2 := by omega
              walk_at "go"
              refine i_ixR (v := .int T2[b + j - 2]) (seqR_lst e3) (atI_of (by omega) (by rw [hix, List.getElem?_map, List.getElem?_eq_getElem hbk]; rfl)) ?_
              walk_at "go"
              refine i_ixR (v := .int xs[i].2[j]) (seqR_tup hnt3) (atI_of (by omega) (by rw [show (0 + (j : Int)).toNat = j by omega, List.getElem?_map, List.getElem?_eq_getElem hj]; rfl)) ?_
              walk_at "go"
              refine i_set (j := b + j - 2) e3 (by rw [List.length_map, ixN_of (by omega) (by omega), hix]) ?_
              rw [set_put T2 (b + j - 2) xs[i].2[j] hbk, ← key hc]
              walk_at "go"
              refine ⟨_, rfl, upd_same, fun c o e => ?_⟩
              have hct : c ≠ t := fun z => by rw [z, htH] at e; cases e
              rw [upd_ne hct]
              exact s3 c o e
            · walk_at "go"
              rw [key2 (by omega)]
              exact ⟨_, rfl, e3, s3⟩
          · walk_at "go"
            rw [key2 (by omega)]
            exact ⟨_, rfl, e3, s3⟩
        · rintro σ H3 ⟨v7, rfl, e3, s3⟩
          have hz : ((xs[i].2.length : Nat) : Int).toNat = xs[i].2.length := by omega
          rw [hz, List.take_length] at e3
          walk_at "go"
          rw [show (b : Int) + 1 = ((b + 1 : Nat) : Int) by omega, find3_S]
          walk_at "go"
          exact ⟨_, rfl, e3, s3⟩
    · walk_at "go"
      have hn := findL_neg (p := xs[i].1) (f := frame w') (k := k) (by omega)
      rw [hn, List.append_nil, places_all hpne] at hbs
      refine ⟨_, _, _, _, rfl, ?_, s2⟩
      rw [List.take_succ, List.getElem?_eq_getElem hil]
      show H2 t = some (.lst ((List.foldl (lawP w'.length (frame w')) _ (xs.take i ++ [xs[i]])).map V.int))
      rw [List.foldl_append]
      show H2 t = some (.lst ((lawP w'.length (frame w') (lawA w'.length (frame w') (List.replicate (w'.length - 1) 0) (xs.take i)) xs[i]).map V.int))
      rw [hT]
      unfold lawP
      rw [hbs]
      exact e2
  · rintro σ H1 ⟨v4, v5, v6, v7, rfl, e1, s1⟩
    have h2 := hys.length
    rw [List.length_map] at h2
    rw [h2, List.take_length, law_vals] at e1
    walk_at "go"
    exact q t _ htH e1 s1
end
abbrev s_beginnings : Stmt := top 3
theorem sc_beginnings : FnScope ["patterns", "met", "pattern", "signs", "end"] ["patterns"] (defScope s_beginnings) := ⟨rfl, rfl, rfl, by decide +kernel, rfl, by decide +kernel, by decide +kernel⟩
theorem i_disp {trs : List (TE × TE)} {σ : St} {H : Hp} {Q : VK} (h : ∀ p, H p = none → tPairs trs σ (upd H p (.dK [])) fun ps H2 => H2 p = some (.dK []) ∧ ∃ kvs : List (Key × V), ps = kvs.map (fun kv => (kV kv.1, kv.2)) ∧ kvs.length ≤ 15 ∧ Q (.ref p) (upd H2 p (.dK (mergeK [] kvs)))) : tDisp trs σ H Q := h
theorem i_dput {td ty tv : TE} {D : Ends} {σ : St} {H : Hp} (h : tv σ H fun v H1 => td σ H1 fun x H2 => ty σ H2 fun y H3 => ∃ a H4, x = .ref a ∧ DPut H3 a y v H4 ∧ D.nx σ H4) : sDPut td ty tv D σ H := h
def spBegs : Sp := fun vs H Q _ => ∃ (v : V) (xs : List Pat), vs = [v] ∧ Is H v (patsD xs) ∧ (∀ x ∈ xs, x.1.length ≤ 100) ∧ xs.length ≤ 1000 ∧ ∀ (a : Addr) (H' : Hp), H a = none → H' a = some (.dK (bT (begs xs))) → Same H H' → Q (.ref a) H'
section
variable {P : Program} {w : World} {K : PySem.W.Frag} {mg : Str → Option Value} {base : Heap} {f : Addr} {fd : FuncData} {tk : Nat → Tok}
theorem ok_beginnings (T : Txt mg tk) (F : Fun K "beginnings" "beginnings" s_beginnings f fd) : FnOk P w K mg base CX0 1 f fd ["patterns"] spBegs := by
  refine F.ok sc_beginnings (fun vs H Q E h => ?_) (fun cdv A outer s H vs Q E hr h => ?_)
  · obtain ⟨v, xs, rfl, _⟩ := h
    rfl
  obtain ⟨v, xs, rfl, hv, hxs, hxl, q⟩ := h
  have nd := sc_beginnings.nd
  obtain ⟨b, ys, rfl, hb, hys⟩ := isPats hv
  have hyl : ys.length = xs.length := by have := hys.length; simpa using this
  refine ⟨_, (pss_cons (ps_set (i := 1) nd rfl (Or.inl rfl) (pe_disp (pps_cons pe_str pe_bl pps_nil) rfl rfl (by simp) (by decide)))
    (pss_cons (ps_for PassesOwn.never rfl (pi_any (K := K) (pv 0)) (pg_name (i := 2) nd rfl (Or.inl rfl))
     (pss_cons (ps_set (i := 3) nd rfl (Or.inl rfl) (pe_ix (ix_any (K := K)) (pv 2) pe_int (fun _ _ => rfl)))
    (pss_one (ps_for PassesOwn.never rfl (pi_range2 rfl T.z_range (pa_cons pe_int (pa_cons (pe_op o_add (pe_callB (c_len (K := K)) rfl T.z_len (by decide +kernel) (pa_cons (pv 3) pa_nil)) pe_int) pa_nil))) (pg_name (i := 4) nd rfl (Or.inl rfl))
     (pss_one (ps_dput (hu_of hr) (pv 1) (pe_slice (sl_any (K := K)) (pv 3) po_none (po_some (pv 4))) pe_bl rfl))))))
    (pss_one (ps_ret (pv 1))))), ?_⟩
  rw [show L2.start ["patterns", "met", "pattern", "signs", "end"] [.ref b] = [some (.ref b), none, none, none, none] from rfl]
  rw [t_empty]
  walk_at "go"
  refine i_disp fun a ha => ?_
  simp only [tPairs]
  walk_at "go"
  refine ⟨upd_same, [(Sum.inr (S []), .bl true)], rfl, by decide, ?_⟩
  rw [upd_upd]
  have hm : mergeK [] [((Sum.inr (S []) : Key), V.bl true)] = bT [[]] := rfl
  rw [hm]
  have s1 := same_new ha (.dK (bT [[]]))
  have e1 : (upd H a (.dK (bT [[]]))) a = some (.dK (bT [[]])) := upd_same
  have hb1 := s1 _ _ hb
  have hys1 := IsL.same s1 hys
  have put : ∀ {H2 : Hp} {ns : List (List Nat)} {z : List Nat} {kvs}, H2 a = some (.dK kvs) → Same H H2 → Same H (upd H2 a (.dK (bT ns))) := fun {H2 ns z kvs} e s c o ec => by
    have hc : c ≠ a := fun q => by rw [q, ha] at ec; cases ec
    rw [upd_ne hc]; exact s c o ec
  walk_at "go"
  refine for_list (K := K) (xs := ys) (fun i σ H' => ∃ (v2 v3 v4 : Option V), σ = [some (.ref b), some (.ref a), v2, v3, v4] ∧ H' a = some (.dK (bT (begA [[]] (xs.take i)))) ∧ Same H H')
    ⟨none, none, none, rfl, e1, s1⟩ (fun i σ H' _ ⟨_, _, _, _, _, s⟩ => SqL.of (s _ _ hb)) ?_ ?_
  · rintro i y σ H2 hy ⟨v2, v3, v4, rfl, e2, s2⟩
    have hi : i < xs.length := by
      have := (List.getElem?_eq_some_iff.mp hy).1
      omega
    obtain ⟨y', d, hy', hd1, hI⟩ := IsL.get (IsL.same s2 hys) (show i < (xs.map patD).length by simpa using hi)
    rw [hy] at hy'
    cases hy'
    rw [List.getElem?_map, List.getElem?_eq_getElem hi] at hd1
    cases hd1
    obtain ⟨a2, t2, rfl, ea2, et2⟩ := isPat hI
    have hxi := hxs xs[i] (List.getElem_mem hi)
    have hbl := len_begA (c := 100) (xs.take i) [[]] fun x hx => hxs x (List.mem_of_mem_take hx)
    have htl : (xs.take i).length ≤ 1000 := by rw [List.length_take]; omega
    have hm2 : (xs.take i).length * 100 ≤ 1000 * 100 := Nat.mul_le_mul_right _ htl
    walk_at "go"
    refine for_range (fun j σ H' => ∃ (v4 : Option V), σ = [some (.ref b), some (.ref a), some (.ref a2), some (.str (S xs[i].1)), v4] ∧ H' a = some (.dK (bT (begS (begA [[]] (xs.take i)) xs[i].1 j))) ∧ Same H H') ⟨_, rfl, e2, s2⟩ ?_ ?_
    · rintro j σ H3 hj ⟨v4', rfl, e3, s3⟩
      have hj : j < xs[i].1.length := by omega
      refine i_dput ?_
      walk_at "go"
      have hcut : cutA xs[i].1 none (some (1 + (j : Int))) = xs[i].1.take (j + 1) := by
        have := cut_plain xs[i].1 0 (j + 1) (by omega) (by omega)
        rw [show (1 + (j : Int)) = ((j + 1 : Nat) : Int) by omega]
        have e0 : cutA xs[i].1 none (some ((j + 1 : Nat) : Int)) = cutA xs[i].1 (some ((0 : Nat) : Int)) (some ((j + 1 : Nat) : Int)) := by
          unfold cutA
          simp [sx]
        rw [e0, this, List.drop_zero, Nat.sub_zero]
      rw [hcut]
      have hbs := len_begS (begA [[]] (xs.take i)) xs[i].1 j
      refine ⟨a, _, rfl, DPut.k (k := Sum.inr (S (xs[i].1.take (j + 1)))) e3 ?_, ?_⟩
      · have hle : (bT (begS (begA [[]] (xs.take i)) xs[i].1 j)).length ≤ 200000 := by
          unfold bT
          rw [List.length_map]
          simp only [List.length_cons, List.length_nil] at hbl
          omega
        exact Nat.lt_of_le_of_lt hle (by decide)
      · walk_at "go"
        rw [bT_put, ← begS_succ]
        exact ⟨_, rfl, upd_same, put (z := []) e3 s3⟩
    · rintro σ H3 ⟨v4', rfl, e3, s3⟩
      have hz : (((xs[i].1.length : Nat) : Int) + 1 - 1).toNat = xs[i].1.length := by omega
      refine ⟨_, _, _, rfl, ?_, s3⟩
      rw [e3, List.take_succ, List.getElem?_eq_getElem hi]
      show some (HO.dK (bT _)) = some (HO.dK (bT (begA [[]] (xs.take i ++ [xs[i]]))))
      rw [begA_snoc]
      congr 4
  · rintro σ H2 ⟨v2, v3, v4, rfl, e2, s2⟩
    rw [hyl, List.take_length] at e2
    walk_at "go"
    exact q a H2 ha e2 s2
end
abbrev s_greatest_numbers : Stmt := top 4
theorem sc_greatest_numbers : FnScope ["patterns", "greatest", "pattern", "signs", "earlier"] ["patterns"] (defScope s_greatest_numbers) := ⟨rfl, rfl, rfl, by decide +kernel, rfl, by decide +kernel, by decide +kernel⟩
theorem i_dget2 {td ty tx : TE} {σ : St} {H : Hp} {Q : VK} (h : td σ H fun x H1 => ∃ a, x = .ref a ∧ IsD H1 a ∧ ty σ H1 fun y H2 => tx σ H2 fun z H3 => ∃ o, DGet H3 a y o ∧ Q (o.getD z) H3) : tDGet2 td ty tx σ H Q := h
theorem i_dnewK {σ : St} {H : Hp} {Q : VK} (h : ∀ p, H p = none → Q (.ref p) (upd H p (.dK []))) : tDNewK σ H Q := h
theorem i_zipT {σ : St} {H : Hp} {R : It → Hp → Prop} {ta tb : TE} (h : ta σ H fun x H1 => tb σ H1 fun y H2 => zpItT R x y H2) : iZipT ta tb σ H R := h
def spGrt : Sp := fun vs H Q _ => ∃ (v : V) (xs : List Pat), vs = [v] ∧ Is H v (patsD xs) ∧ (∀ x ∈ xs, x.1.length ≤ 100 ∧ x.2.length = x.1.length + 1) ∧ xs.length ≤ 1000 ∧ ∀ (a : Addr) (kvs : List (Key × V)) (H' : Hp), H a = none → H' a = some (.dK kvs) → NT H' kvs (grt xs) → Same H H' → Q (.ref a) H'
theorem i_zpT {R : It → Hp → Prop} {H : Hp} {b a : Addr} {xs ys : List V} (h1 : H b = some (.tup xs)) (h2 : H a = some (.tup ys)) (h : R (Izp xs ys fun H => H b = some (.tup xs) ∧ H a = some (.tup ys)) H) : zpItT R (.ref b) (.ref a) H := ⟨xs, ys, h1, h2, h⟩
theorem best_mx {a b m : Int} (h1 : m ∈ [a, b]) (h2 : ∀ n ∈ [a, b], n ≤ m) : m = mx a b := by
  have q1 := h2 a (by simp)
  have q2 := h2 b (by simp)
  simp at h1
  unfold mx
  split <;> rcases h1 with h | h <;> omega
section
variable {P : Program} {w : World} {K : PySem.W.Frag} {mg : Str → Option Value} {base : Heap} {f : Addr} {fd : FuncData} {tk : Nat → Tok}
theorem ok_greatest_numbers (T : Txt mg tk) (F : Fun K "greatest_numbers" "greatest_numbers" s_greatest_numbers f fd) : FnOk P w K mg base CX0 1 f fd ["patterns"] spGrt := by
  refine F.ok sc_greatest_numbers (fun vs H Q E h => ?_) (fun cdv A outer s H vs Q E hr h => ?_)
  · obtain ⟨v, xs, rfl, _⟩ := h
    rfl
  obtain ⟨v, xs, rfl, hv, hxs, hxl, q⟩ := h
  have nd := sc_greatest_numbers.nd
  obtain ⟨b, ys, rfl, hb, hys⟩ := isPats hv
  have hyl : ys.length = xs.length := by have := hys.length; simpa using this
  refine ⟨_, (pss_cons (ps_set (i := 1) nd rfl (Or.inl rfl) pe_dnewK)
    (pss_cons (ps_for PassesOwn.never rfl (pi_any (K := K) (pv 0)) (pg_name (i := 2) nd rfl (Or.inl rfl))
     (pss_cons (ps_set (i := 3) nd rfl (Or.inl rfl) (pe_ix (ix_any (K := K)) (pv 2) pe_int (fun _ _ => rfl)))
    (pss_cons (ps_set (i := 4) nd rfl (Or.inl rfl) (pe_dget2 (hu_of hr) (pv 1) (pv 3) (pe_ix (ix_any (K := K)) (pv 2) pe_int (fun _ _ => rfl)) ⟨rfl, rfl, rfl, rfl⟩))
    (pss_one (ps_dput (hu_of hr) (pv 1) (pv 3) (pe_callTy c_tuple rfl T.z_tuple (by decide +kernel) (pa_cons (pe_comp ["both"] [none] rfl (by kernel_rfl) rfl (pi_zipT rfl T.z_zip (pv 4) (pe_ix (ix_any (K := K)) (pv 2) pe_int (fun _ _ => rfl))) (fun _ _ _ _ => (pg_name (i := 0) (show (["both"] : List Str).Nodup by decide +kernel) rfl (Or.inl rfl) (Or.inr rfl))) (fun _ _ _ _ => pts_nil) (fun _ _ _ _ => (pe_callB (c_max1 rfl) rfl T.z_max (by decide +kernel) (pa_cons (pv 0) pa_nil)))) pa_nil)) rfl)))))
    (pss_one (ps_ret (pv 1))))), ?_⟩
  rw [show L2.start ["patterns", "greatest", "pattern", "signs", "earlier"] [.ref b] = [some (.ref b), none, none, none, none] from rfl]
  walk_at "go"
  refine i_dnewK fun a ha => ?_
  have s1 := same_new ha (.dK [])
  walk_at "go"
  refine i_anyL (SqL.of (s1 _ _ hb)) ?_
  refine for_list (K := K) (xs := ys) (fun i σ H' => ∃ (v2 v3 v4 : Option V) (kvs : List (Key × V)), σ = [some (.ref b), some (.ref a), v2, v3, v4] ∧ H' a = some (.dK kvs) ∧ NT H' kvs (grt (xs.take i)) ∧ kvs.length ≤ i ∧ Same H H')
    ⟨none, none, none, [], rfl, upd_same, trivial, Nat.le_refl _, s1⟩ (fun i σ H' _ ⟨_, _, _, _, _, _, _, _, s⟩ => SqL.of (s _ _ hb)) ?_ ?_
  · rintro i y σ H2 hy ⟨v2, v3, v4, kvs, rfl, e2, hN, hkl, s2⟩
    have hi : i < xs.length := by
      have := (List.getElem?_eq_some_iff.mp hy).1
      omega
    obtain ⟨y', d, hy', hd1, hI⟩ := IsL.get (IsL.same s2 hys) (show i < (xs.map patD).length by simpa using hi)
    rw [hy] at hy'
    cases hy'
    rw [List.getElem?_map, List.getElem?_eq_getElem hi] at hd1
    cases hd1
    obtain ⟨a2, t2, rfl, ea2, et2⟩ := isPat hI
    obtain ⟨hx1, hx2⟩ := hxs xs[i] (List.getElem_mem hi)
    walk_at "go"
    refine i_dget2 ?_
    walk_at "go"
    refine ⟨a, rfl, .inl ⟨kvs, .inl e2⟩, ?_⟩
    walk_at "go"
    have hgl := grt_ok (xs := xs.take i) (gs := []) (fun g hg => nomatch hg) fun x hx => (hxs x (List.mem_of_mem_take hx)).2
    obtain ⟨te, es, hte, hes, heq, hel⟩ : ∃ te es, (valV kvs (Sum.inr (S xs[i].1))).getD (.ref t2) = .ref te ∧ H2 te = some (.tup (es.map V.int)) ∧ es = ((lookP (grt (xs.take i)) xs[i].1).map (·.2)).getD xs[i].2 ∧ es.length = xs[i].2.length := by
      rcases hN.val (z := xs[i].1) with ⟨q1, q2⟩ | ⟨g, t, q1, hgm, hgz, q2, q3⟩
      · exact ⟨t2, xs[i].2, by rw [q2]; rfl, et2, by rw [q1]; rfl, rfl⟩
      · refine ⟨t, g.2, by rw [q2]; rfl, q3, by rw [q1]; rfl, ?_⟩
        rw [hgl g hgm, hgz, hx2]
    refine ⟨_, DGet.k (k := Sum.inr (S xs[i].1)) e2, ?_⟩
    rw [hte]
    walk_at "go"
    refine i_dput ?_
    walk_at "go"
    refine i_zipT ?_
    walk_at "go"
    refine i_zpT hes et2 ?_
    intro r hr0
    have ra : a ≠ r := ne_of_none e2 hr0
    refine comp_zip xs[i].2.length (by rw [List.length_map, List.length_map]; omega) (fun j acc σ H' => ∃ v1, σ = [v1] ∧ acc = ((zipMx es xs[i].2).take j).map V.int ∧ Same H2 H' ∧ H' r = some (.lst acc))
      (fun j acc σ H' _ ⟨_, _, _, s3, _⟩ => ⟨s3 _ _ hes, s3 _ _ et2⟩) ⟨none, rfl, rfl, same_new hr0 _, upd_same⟩ (fun j acc σ H' ⟨_, _, e, _, e3⟩ => ⟨e3, by rw [e, List.length_map, List.length_take]; omega⟩) (szn (by omega)) ?_ ?_
    · rintro j u v acc σ H3 T2 hu hv' ⟨v1, rfl, rfl, s3, e3⟩ hT
      have hj : j < xs[i].2.length := by
        have := (List.getElem?_eq_some_iff.mp hv').1
        simpa using this
      have hj2 : j < es.length := by omega
      rw [List.getElem?_map, List.getElem?_eq_getElem hj2] at hu
      cases hu
      rw [List.getElem?_map, List.getElem?_eq_getElem hj] at hv'
      cases hv'
      have s4 := same_new hT (.tup [.int es[j], .int xs[i].2[j]])
      have e4 := s4 _ _ e3
      walk_at "go"
      refine i_best (ns := [es[j], xs[i].2[j]]) upd_same (by simp) fun m hm1 hm2 => ?_
      rw [best_mx hm1 hm2]
      refine ⟨e4, _, rfl, ?_, fun c o e => ?_, upd_same⟩
      · rw [zipMx_take hj2 hj, List.map_append]; rfl
      · have hc : c ≠ r := fun z => by rw [z, hr0] at e; cases e
        rw [upd_ne hc]; exact s4 _ _ (s3 c o e)
    · rintro acc σ H3 ⟨v1, rfl, rfl, s3, e3⟩
      rw [← hel, ← zipMx_len hel, List.take_length] at e3
      walk_at "go"
      refine i_tupleR (seqR_lst e3) fun t H4 ht k4 => ?_
      walk_at "go"
      have s4 : Same H2 H4 := fun c o e => k4 c o (s3 c o e)
      have e4 := s4 _ _ e2
      have hN4 := (hN.same s4).put (s := xs[i].1) ht
      refine ⟨a, _, rfl, DPut.k (k := Sum.inr (S xs[i].1)) e4 (Nat.lt_of_le_of_lt (show kvs.length ≤ 1000 by omega) (by decide)), ?_⟩
      refine ⟨_, _, _, _, rfl, upd_same, ?_, ?_, fun c o e => ?_⟩
      · rw [List.take_succ, List.getElem?_eq_getElem hi]
        show NT _ _ (grt (xs.take i ++ [xs[i]]))
        rw [grt_snoc]
        have hg : grtS (grt (xs.take i)) xs[i] = putG (grt (xs.take i)) xs[i].1 (zipMx es xs[i].2) := by unfold grtS; rw [← heq]
        rw [hg]
        exact hN4.tups fun b' zs e => by
          have hb' : b' ≠ a := fun z => by rw [z, e4] at e; cases e
          rw [upd_ne hb']; exact e
      · have := length_putK kvs (Sum.inr (S xs[i].1) : Key) (V.ref t)
        omega
      · have hc : c ≠ a := fun z => by rw [z, ha] at e; cases e
        rw [upd_ne hc]; exact s4 _ _ (s2 c o e)
  · rintro σ H2 ⟨v2, v3, v4, kvs, rfl, e2, hN, hkl, s2⟩
    rw [hyl, List.take_length] at hN
    walk_at "go"
    exact q a kvs H2 ha e2 hN s2
end
abbrev s_wood_of : Stmt := top 5
theorem sc_wood_of : FnScope ["patterns", "greatest", "names", "ways", "number", "name"] ["patterns"] (defScope s_wood_of) := ⟨rfl, rfl, rfl, by decide +kernel, rfl, by decide +kernel, by decide +kernel⟩
def wayD (p : Nat × Nat) : Dt := .tup [.str (S [p.1]), .int (p.2 : Int)]
def numD : Option (List Int) → Dt
  | none => .non
  | some g => .tup (g.map Dt.int)
def knD (ns : List (List Nat)) (gs : List Pat) (i : Nat) : Dt := .tup [.tup ((waysN ns (ns.getD i []) ns.length).map wayD), numD ((lookP gs (ns.getD i [])).map (·.2))]
def woodD (ns : List (List Nat)) (gs : List Pat) : List Dt := (List.range ns.length).map (knD ns gs)
theorem wayD_only : ∀ l : List (Nat × Nat), tOnlyL (l.map wayD) = true
  | [] => rfl
  | x :: l => by simp only [List.map_cons, tOnlyL, wayD_only l, wayD, tOnly]; rfl
theorem ints_only : ∀ l : List Int, tOnlyL (l.map Dt.int) = true
  | [] => rfl
  | x :: l => by simp only [List.map_cons, tOnlyL, ints_only l, tOnly]; rfl
theorem knD_only (ns : List (List Nat)) (gs : List Pat) (i : Nat) : tOnly (knD ns gs i) = true := by
  unfold knD
  cases (lookP gs (ns.getD i [])).map (·.2) with
  | none => simp only [tOnly, tOnlyL, wayD_only, numD]; rfl
  | some g => simp only [tOnly, tOnlyL, wayD_only, numD, ints_only]; rfl
theorem knL_only (ns : List (List Nat)) (gs : List Pat) : ∀ l : List Nat, tOnlyL (l.map (knD ns gs)) = true
  | [] => rfl
  | x :: l => by simp only [List.map_cons, tOnlyL, knL_only ns gs l, knD_only]; rfl
def spWood : Sp := fun vs H Q _ => ∃ (v : V) (xs : List Pat), vs = [v] ∧ Is H v (patsD xs) ∧ (∀ x ∈ xs, x.1.length ≤ 100 ∧ x.2.length = x.1.length + 1) ∧ xs.length ≤ 1000 ∧ (begs xs).length < 64 ∧
  ∀ (r : Addr) (ys : List V) (ns : List (List Nat)) (H' : Hp), H r = none → H' r = some (.lst ys) → L2.IsL H' ys (woodD ns (grt xs)) → ns.Perm (begs xs) → Nms ns → Same H H' → Q (.ref r) H'
structure WL (H0 H : Hp) (wd : Addr) (ns : List (List Nat)) (ad : Nat → Addr) (i m : Nat) : Prop where
  d : H wd = some (.dK ((List.range i).map fun k => ((Sum.inr (S (ns.getD k [])) : Key), V.ref (ad k))))
  l : ∀ k, k < i → ∃ vs, H (ad k) = some (.lst vs) ∧ L2.IsL H vs ((waysN ns (ns.getD k []) m).map wayD)
  n : ∀ k, k < i → H0 (ad k) = none
  a : ∀ j k, j < i → k < i → ad j = ad k → j = k
theorem WL.same {H0 H H' : Hp} {wd : Addr} {ns : List (List Nat)} {ad : Nat → Addr} {i m : Nat} (s : Same H H') (h : WL H0 H wd ns ad i m) : WL H0 H' wd ns ad i m :=
  ⟨s _ _ h.d, fun k hk => by obtain ⟨vs, a, b⟩ := h.l k hk; exact ⟨vs, s _ _ a, IsL.same s b⟩, h.n, h.a⟩
theorem WL.put {H0 H H' : Hp} {wd ai : Addr} {ns : List (List Nat)} {ad : Nat → Addr} {i m : Nat} (h : WL H0 H wd ns ad i m) (hk : ∀ b o, b ≠ wd → H b = some o → H' b = some o) (hd : H' wd = some (.dK ((List.range (i + 1)).map fun k => ((Sum.inr (S (ns.getD k [])) : Key), V.ref (if k = i then ai else ad k)))))
    (hn : H0 ai = none) (hf : H ai = none) (ha : H' ai = some (.lst [])) (hw : waysN ns (ns.getD i []) m = []) : WL H0 H' wd ns (fun k => if k = i then ai else ad k) (i + 1) m := by
  have tk : Tk H H' := fun b zs e => hk b _ (fun z => by rw [z, h.d] at e; cases e) e
  have hne : ∀ k, k < i → ad k ≠ ai := fun k hk' z => by
    obtain ⟨vs, e, _⟩ := h.l k hk'
    rw [z, hf] at e; cases e
  refine ⟨hd, fun k hk' => ?_, fun k hk' => ?_, fun j k hj hk' e => ?_⟩
  · by_cases q : k = i
    · subst q
      refine ⟨[], ?_, ?_⟩
      · show H' (if k = k then ai else ad k) = _
        rw [if_pos rfl]; exact ha
      · rw [hw]; simp only [List.map_nil, L2.IsL]
    · obtain ⟨vs, e, hv⟩ := h.l k (by omega)
      refine ⟨vs, ?_, IsL.tk tk (wayD_only _) hv⟩
      show H' (if k = i then ai else ad k) = _
      rw [if_neg q]
      exact hk _ _ (fun z => by rw [z, h.d] at e; cases e) e
  · by_cases q : k = i
    · show H0 (if k = i then ai else ad k) = _
      rw [if_pos q]; exact hn
    · show H0 (if k = i then ai else ad k) = _
      rw [if_neg q]; exact h.n k (by omega)
  · have e : (if j = i then ai else ad j) = (if k = i then ai else ad k) := e
    by_cases q : j = i
    · by_cases q2 : k = i
      · omega
      · rw [if_pos q, if_neg q2] at e
        exact absurd e.symm (hne k (by omega))
    · by_cases q2 : k = i
      · rw [if_neg q, if_pos q2] at e
        exact absurd e (hne j (by omega))
      · rw [if_neg q, if_neg q2] at e
        exact h.a j k (by omega) (by omega) e
theorem WL.app {H0 H H' : Hp} {wd t : Addr} {ns : List (List Nat)} {ad : Nat → Addr} {i m p : Nat} {vs : List V} (h : WL H0 H wd ns ad i m) (hp : p < i) (hkid : ∀ k, k < i → kid (ns.getD k []) (ns.getD m []) = decide (k = p)) (e : H (ad p) = some (.lst vs))
    (ht : H t = some (.tup [.str (S [(ns.getD m []).getLastD 0]), .int (m : Int)])) (hH : H' = upd H (ad p) (.lst (vs ++ [.ref t]))) : WL H0 H' wd ns ad i (m + 1) := by
  subst hH
  have tk : Tk H (upd H (ad p) (.lst (vs ++ [.ref t]))) := fun b zs eb => by
    rw [upd_ne fun z => by rw [z, e] at eb; cases eb]; exact eb
  refine ⟨?_, fun k hk => ?_, h.n, h.a⟩
  · rw [upd_ne fun z => by have := h.d; rw [z, e] at this; cases this]; exact h.d
  · obtain ⟨us, eu, hu⟩ := h.l k hk
    rw [waysN_succ, hkid k hk]
    by_cases q : k = p
    · subst q
      rw [e] at eu
      cases eu
      refine ⟨vs ++ [.ref t], upd_same, ?_⟩
      rw [decide_eq_true rfl, if_pos rfl, List.map_append]
      refine IsL.append (IsL.tk tk (wayD_only _) hu) ?_
      simp only [List.map_cons, List.map_nil, L2.IsL, wayD, Is]
      exact ⟨⟨t, _, rfl, tk _ _ ht, rfl, rfl, trivial⟩, trivial⟩
    · rw [decide_eq_false q, if_neg Bool.false_ne_true, List.append_nil]
      refine ⟨us, ?_, IsL.tk tk (wayD_only _) hu⟩
      rw [upd_ne fun z => q (h.a k p hk hp z)]; exact eu
theorem WL.skip {H0 H : Hp} {wd : Addr} {ns : List (List Nat)} {ad : Nat → Addr} {i m : Nat} (h : WL H0 H wd ns ad i m) (hm : ns.getD m [] = []) : WL H0 H wd ns ad i (m + 1) := by
  refine ⟨h.d, fun k hk => ?_, h.n, h.a⟩
  rw [waysN_succ, hm, show kid (ns.getD k []) [] = false by unfold kid; exact decide_eq_false fun z => z.1 rfl, if_neg Bool.false_ne_true, List.append_nil]
  exact h.l k hk
theorem val_range {ns : List (List Nat)} (hn : ns.Nodup) {ad : Nat → Addr} : ∀ {i p : Nat}, i ≤ ns.length → p < i → valV ((List.range i).map fun k => ((Sum.inr (S (ns.getD k [])) : Key), V.ref (ad k))) (Sum.inr (S (ns.getD p []))) = some (.ref (ad p)) := by
  intro i p hi hp
  unfold valV
  have hf : ((List.range i).map fun k => ((Sum.inr (S (ns.getD k [])) : Key), V.ref (ad k))).find? (fun kv => decide (kv.1 = (Sum.inr (S (ns.getD p [])) : Key))) = some ((Sum.inr (S (ns.getD p [])) : Key), V.ref (ad p)) := by
    rw [List.find?_map]
    have : (List.range i).find? ((fun kv : Key × V => decide (kv.1 = (Sum.inr (S (ns.getD p [])) : Key))) ∘ fun k => ((Sum.inr (S (ns.getD k [])) : Key), V.ref (ad k))) = some p := by
      rw [List.find?_range_eq_some]
      refine ⟨by simp, List.mem_range.mpr hp, fun j hj => ?_⟩
      simp only [Function.comp, Bool.not_eq_true', decide_eq_false_iff_not]
      intro e
      have e := kS_inj e
      rw [getD_lt (by omega), getD_lt (by omega)] at e
      exact List.pairwise_iff_getElem.mp hn j p (by omega) (by omega) hj e
    rw [this]; rfl
  rw [hf]; rfl
theorem val_range_none {ns : List (List Nat)} (hn : ns.Nodup) {ad : Nat → Addr} {i : Nat} (hi : i < ns.length) : valV ((List.range i).map fun k => ((Sum.inr (S (ns.getD k [])) : Key), V.ref (ad k))) (Sum.inr (S (ns.getD i []))) = none := by
  unfold valV
  have hf : ((List.range i).map fun k => ((Sum.inr (S (ns.getD k [])) : Key), V.ref (ad k))).find? (fun kv => decide (kv.1 = (Sum.inr (S (ns.getD i [])) : Key))) = none := by
    rw [List.find?_eq_none]
    intro kv hkv
    obtain ⟨j, hj, rfl⟩ := List.mem_map.mp hkv
    have hj := List.mem_range.mp hj
    simp only [decide_eq_true_eq]
    intro e
    have e := kS_inj e
    rw [getD_lt (by omega), getD_lt (by omega)] at e
    exact List.pairwise_iff_getElem.mp hn j i (by omega) (by omega) hj e
  rw [hf]; rfl
theorem i_enumL {te : TE} {σ : St} {H : Hp} {R : It → Hp → Prop} (h : te σ H (enItS 0 R)) : iEnumL te σ H R := h
theorem i_dget0 {td ty : TE} {σ : St} {H : Hp} {Q : VK} (h : td σ H fun x H1 => ty σ H1 fun y H2 => ∃ a v, x = .ref a ∧ DGet H2 a y (some v) ∧ Q v H2) : tDGet td ty σ H Q := h
theorem i_dget1 {td ty : TE} {σ : St} {H : Hp} {Q : VK} (h : td σ H fun x H1 => ∃ a, x = .ref a ∧ IsD H1 a ∧ ty σ H1 fun y H2 => ∃ o, DGet H2 a y o ∧ Q (o.getD .non) H2) : tDGet1 td ty σ H Q := h
theorem put_range {ns : List (List Nat)} (hn : ns.Nodup) {ad : Nat → Addr} {i : Nat} {ai : Addr} (hi : i < ns.length) : putK ((List.range i).map fun k => ((Sum.inr (S (ns.getD k [])) : Key), V.ref (ad k))) (Sum.inr (S (ns.getD i []))) (.ref ai) = (List.range (i + 1)).map fun k => ((Sum.inr (S (ns.getD k [])) : Key), V.ref (if k = i then ai else ad k)) := by
  rw [putK_new _ (val_range_none hn hi), List.range_succ, List.map_append]
  congr 1
  · refine List.map_congr_left fun k hk => ?_
    have := List.mem_range.mp hk
    rw [if_neg (by omega)]
  · simp
section
variable {P : Program} {w : World} {K : PySem.W.Frag} {mg : Str → Option Value} {base : Heap} {f : Addr} {fd : FuncData} {tk : Nat → Tok}
theorem ok_wood_of (T : Txt mg tk) (F : Fun K "wood_of" "wood_of" s_wood_of f fd) (D_beginnings : Dn P w K mg base "beginnings" 1 ["patterns"] spBegs) (D_greatest_numbers : Dn P w K mg base "greatest_numbers" 1 ["patterns"] spGrt) : FnOk P w K mg base CX0 2 f fd ["patterns"] spWood := by
  refine F.ok sc_wood_of (fun vs H Q E h => ?_) (fun cdv A outer s H vs Q E hr h => ?_)
  · obtain ⟨v, xs, rfl, _⟩ := h
    rfl
  obtain ⟨v, xs, rfl, hv, hxx, hxl, hbl, q⟩ := h
  have nd := sc_wood_of.nd
  refine ⟨_, (pss_cons (ps_set (i := 1) nd rfl (Or.inr rfl) (pe_callD D_greatest_numbers (hr.mono (by first | decide | omega)) rfl (pa_cons (pv 0) pa_nil)))
    (pss_cons (ps_set (i := 2) nd rfl (Or.inl rfl) (pe_callB (c_sortD rfl) rfl T.z_sorted (by decide +kernel) (pa_cons (pe_callD D_beginnings (hr.mono (by first | decide | omega)) rfl (pa_cons (pv 0) pa_nil)) pa_nil)))
    (pss_cons (ps_set (i := 3) nd rfl (Or.inr rfl) pe_dnewK)
    (pss_cons (ps_for PassesOwn.never rfl (pi_enumL rfl T.z_enumerate (pv 2)) (pg_tup rfl (pgs_cons (pg_name (i := 4) nd rfl (Or.inl rfl)) (pgs_cons (pg_name (i := 5) nd rfl (Or.inl rfl)) pgs_nil)))
     (pss_cons (ps_dput (hu_of hr) (pv 3) (pv 5) (pe_lst pa_nil) rfl)
    (pss_one (ps_if (pt_cmpR (o_ne hr.units) (pv 5) pe_str (nomark _))
     (pss_one (ps_expr (pe_bmK (K := K) PySem.F.plainAttrs_list PySem.F.slot_list_append PySem.F.type_list_append m_append1 (pe_dget (hu_of hr) (pv 3) (pe_slice (sl_any (K := K)) (pv 5) po_none (po_some (pe_un o_neg pe_int))) (fun _ _ => rfl)) (pa_cons (pe_tup (pa_cons (pe_ix (ix_any (K := K)) (pv 5) (pe_un o_neg pe_int) (fun _ _ => rfl)) (pa_cons (pv 4) pa_nil))) pa_nil))))
     pss_nil))))
    (pss_one (ps_ret (pe_comp ["ways", "greatest", "name"] [some 3, some 1, none] rfl (by kernel_rfl) rfl (pi_any (K := K) (pv 2)) (fun _ _ _ _ => (pg_name (i := 2) (show (["ways", "greatest", "name"] : List Str).Nodup by decide +kernel) rfl (Or.inl rfl) (Or.inr rfl))) (fun _ _ _ _ => pts_nil) (fun _ _ _ _ => (pe_tup (pa_cons (pe_callTy c_tuple rfl T.z_tuple (by decide +kernel) (pa_cons (pe_dget (hu_of hr) (pv 0) (pv 2) (fun _ _ => rfl)) pa_nil)) (pa_cons (pe_dget1 (hu_of hr) (pv 1) (pv 2) ⟨rfl, rfl, rfl, rfl⟩) pa_nil))))))))))), ?_⟩
  rw [show L2.start ["patterns", "greatest", "names", "ways", "number", "name"] [v] = [some (v), none, none, none, none, none] from rfl]
  rw [t_empty]
  walk_at "go"
  refine ⟨v, xs, rfl, hv, hxx, hxl, fun g gkvs H1 hg eg hNT s1 => ?_⟩
  walk_at "go"
  refine ⟨v, xs, rfl, Is.same s1 hv, fun x hx' => (hxx x hx').1, hxl, fun b H2 hb eb s2 => ?_⟩
  walk_at "go"
  refine sortDS (ss := (begs xs).map S) eb ?_ (by rw [List.length_map]; exact hbl) fun nl mm hnl hp hs => ?_
  · unfold bT; rw [List.map_map, List.map_map]; rfl
  obtain ⟨ns, rfl, hpn⟩ := names_of hp
  have hN := begs_nms hpn hs
  have hnl64 : ns.length < 64 := by rw [hpn.length_eq]; exact hbl
  have enl := upd_same (H := H2) (a := nl) (o := .lst ((ns.map S).map V.str))
  have s3 := same_new hnl (.lst ((ns.map S).map V.str))
  generalize upd H2 nl (.lst ((ns.map S).map V.str)) = H3 at enl s3 ⊢
  have s03 := (s1.trans s2).trans s3
  have hg3 := (s2.trans s3) _ _ eg
  have hNT3 := hNT.same (s2.trans s3)
  rw [List.map_map] at enl
  walk_at "go"
  refine i_dnewK fun wd hwd => ?_
  have s4 := same_new hwd (.dK [])
  have ewd := upd_same (H := H3) (a := wd) (o := .dK [])
  generalize upd H3 wd (.dK []) = H4 at s4 ewd ⊢
  walk_at "go"
  refine i_enumL ?_
  walk_at "go"
  refine i_enSL (s4 _ _ enl) ?_
  have s04 := s03.trans s4
  refine for_en (fun i σ H' => ∃ (v4 v5 : Option V) (ad : Nat → Addr), σ = [some v, some (.ref g), some (.ref nl), some (.ref wd), v4, v5] ∧ WL H4 H' wd ns ad i i ∧ ∀ b o, b ≠ wd → H4 b = some o → H' b = some o)
    ⟨none, none, fun _ => 0, rfl, ⟨ewd, (fun k hk => by omega), (fun k hk => by omega), (fun j k hj => by omega)⟩, fun b o _ e => e⟩ (fun _ _ H' _ ⟨_, _, _, _, _, k⟩ => k _ _ (fun z => by rw [z, hwd] at enl; cases enl) (s4 _ _ enl)) ?_ ?_
  · rintro i x σ H5 T5 hx ⟨v4, v5, ad, rfl, wl, k5⟩ hT5
    rw [List.getElem?_map] at hx
    obtain ⟨hi, rfl⟩ : ∃ hi : i < ns.length, x = V.str (S ns[i]) := by
      cases e : ns[i]? with
      | none => rw [e] at hx; cases hx
      | some y =>
        rw [e] at hx; cases hx
        obtain ⟨h1, h2⟩ := List.getElem?_eq_some_iff.mp e
        exact ⟨h1, by rw [h2]; rfl⟩
    refine i_gtup upd_same rfl (i_gcons (i_name (i_gcons (i_name (i_gnil ?_)))))
    have hii : V.int (((0 : Nat) : Int) + (i : Int)) = V.int (i : Int) := by congr 1; omega
    rw [hii]
    have sT := same_new hT5 (.tup [.int (i : Int), .str (S ns[i])])
    generalize upd H5 T5 (.tup [.int (i : Int), .str (S ns[i])]) = H6 at sT ⊢
    have wl6 := wl.same sT
    have k6 : ∀ b o, b ≠ wd → H4 b = some o → H6 b = some o := fun b o hb e => sT _ _ (k5 b o hb e)
    have hgi := getD_lt hi
    walk_at "go"
    refine i_dput ?_
    walk_at "go"
    intro ai hai
    have s7 := same_new hai (.lst [])
    have eai := upd_same (H := H6) (a := ai) (o := .lst [])
    generalize upd H6 ai (.lst []) = H7 at s7 eai ⊢
    have wl7 := wl6.same s7
    walk_at "go"
    refine ⟨wd, _, rfl, DPut.k (k := Sum.inr (S ns[i])) wl7.d (szn (by rw [List.length_map, List.length_range]; omega)), ?_⟩
    rw [← hgi, put_range hN.nd hi]
    have hai4 : H4 ai = none := by
      cases e : H4 ai with
      | none => rfl
      | some o =>
        by_cases hb : ai = wd
        · rw [hb, wl6.d] at hai; cases hai
        · have := k6 ai o hb e
          rw [hai] at this; cases this
    have haiw : ai ≠ wd := fun z => by rw [z, wl6.d] at hai; cases hai
    generalize hkv : (List.range (i + 1)).map (fun k => ((Sum.inr (S (ns.getD k [])) : Key), V.ref (if k = i then ai else ad k))) = kvs8
    have ewd8 := upd_same (H := H7) (a := wd) (o := .dK kvs8)
    have up8 : ∀ b o, b ≠ wd → H7 b = some o → (upd H7 wd (.dK kvs8)) b = some o := fun b o hb e => by rw [upd_ne hb]; exact e
    generalize upd H7 wd (.dK kvs8) = H8 at ewd8 up8 ⊢
    rw [← hkv] at ewd8
    have wl8 : WL H4 H8 wd ns (fun k => if k = i then ai else ad k) (i + 1) i := wl6.put (fun b o hb e => up8 b o hb (s7 _ _ e)) ewd8 hai4 hai (up8 _ _ haiw eai) (by rw [hgi]; exact ways_none hN hi (by omega))
    have k8 : ∀ b o, b ≠ wd → H4 b = some o → H8 b = some o := fun b o hb e => up8 b o hb (s7 _ _ (k6 b o hb e))
    clear hkv wl wl6 wl7 up8 k6 k5 s7 sT
    generalize (fun k => if k = i then ai else ad k) = ad' at wl8
    walk_at "go"
    by_cases hne : ns[i] = []
    · refine iteBF (by rw [hgi, hne]; simp) ?_
      walk_at "go"
      exact ⟨_, _, ad', rfl, wl8.skip (by rw [hgi, hne]), k8⟩
    · refine iteBT (by rw [hgi, decide_eq_false fun z => hne (S_inj (by injection z))]; rfl) ?_
      obtain ⟨p, hp, ep⟩ := hN.up hi hne
      obtain ⟨vs, evs, hvs⟩ := wl8.l p (by omega)
      have hvl := hvs.length
      rw [List.length_map] at hvl
      have hwn := waysN_len ns (ns.getD p []) i
      have hsz : vs.length < sizeLine := szn (by omega)
      have hcut : cutA ns[i] none (some (-1)) = ns[p] := by
        rw [ep]
        have e1 : sx ns[i].length 0 none = 0 := rfl
        have e2 : sx ns[i].length ns[i].length (some (-1)) = ns[i].length - 1 := by simp only [sx]; rw [if_pos (by decide)]; omega
        unfold cutA
        rw [e1, e2, List.drop_zero, Nat.sub_zero, List.dropLast_eq_take]
      have hlast : atI ns[i] (-1) = some (ns[i].getLastD 0) := by
        have h1 : ixN ns[i].length (-1) = some (ns[i].length - 1) := by
          have : 1 ≤ ns[i].length := by
            cases e : ns[i] with
            | nil => exact absurd e hne
            | cons x r => simp
          unfold ixN
          simp
          omega
        unfold atI
        rw [h1, List.getLastD_eq_getLast?, List.getLast?_eq_getElem?]
        cases e : ns[i][ns[i].length - 1]? with
        | none =>
          rw [List.getElem?_eq_none_iff] at e
          exact absurd (List.length_eq_zero_iff.mp (by omega)) hne
        | some c => simp [e]
      have hbnd : ns[i].length ≤ 100 := by
        have := (hpn.mem_iff (a := ns[i])).mp (List.getElem_mem hi)
        rcases mem_begs.mp this with h | ⟨x, hx', e, h1, h2, h3⟩
        · rw [h]; decide
        · rw [h3, List.length_take]
          have := (hxx x hx').1
          omega
      rw [hgi]
      walk_at "go"
      refine i_dget0 ?_
      walk_at "go"
      rw [hcut]
      have hgp : ns.getD p [] = ns[p] := getD_lt (by omega)
      have hval := val_range (ad := ad') hN.nd (i := i + 1) (p := p) (by omega) (by omega)
      rw [hgp] at hval
      refine ⟨wd, _, rfl, hval ▸ DGet.k (k := Sum.inr (S ns[p])) wl8.d, ?_⟩
      walk_at "go"
      refine i_ixC (by omega) hlast ?_
      walk_at "go"
      intro t ht
      have s9 := same_new ht (.tup [.str (S [ns[i].getLastD 0]), .int (i : Int)])
      have et := upd_same (H := H8) (a := t) (o := .tup [.str (S [ns[i].getLastD 0]), .int (i : Int)])
      generalize upd H8 t (.tup [.str (S [ns[i].getLastD 0]), .int (i : Int)]) = H9 at s9 et ⊢
      have evs9 := s9 _ _ evs
      walk_at "go"
      refine ⟨_, _, ad', rfl, (wl8.same s9).app (p := p) (by omega) (fun k hk => ?_) evs9 (by rw [hgi]; exact et) rfl, fun b o hb e => ?_⟩
      · rw [getD_lt (show k < ns.length by omega), hgi]
        exact kid_iff hN hi (by omega) (by omega) hne ep
      · have : b ≠ ad' p := fun z => by
          have := wl8.n p (by omega)
          rw [← z, e] at this; cases this
        rw [upd_ne this]
        exact s9 _ _ (k8 b o hb e)
  · rintro σ H5 ⟨v4, v5, ad, rfl, wl, k5⟩
    rw [List.length_map] at wl
    have hgw : g ≠ wd := fun z => by rw [z, hwd] at hg3; cases hg3
    have hnw : nl ≠ wd := fun z => by rw [z, hwd] at enl; cases enl
    have eg5 := k5 _ _ hgw (s4 _ _ hg3)
    have hNT5 : NT H5 gkvs (grt xs) := (hNT3.same s4).tups fun b zs e => k5 b _ (fun z => by rw [z, ewd] at e; cases e) e
    have enl5 := k5 _ _ hnw (s4 _ _ enl)
    have hwdH : H wd = none := by
      cases e : H wd with
      | none => rfl
      | some o => have := s03 _ _ e; rw [hwd] at this; cases this
    have s05 : Same H H5 := fun b o e => k5 b o (fun z => by rw [z, hwdH] at e; cases e) (s04 _ _ e)
    walk_at "go"
    intro r hr0
    have hrH : H r = none := s05.free hr0
    refine comp_list (K := K) (xs := ns.map (V.str ∘ S)) (fun j acc σ H' => ∃ (v : Option V), σ = [some (.ref wd), some (.ref g), v] ∧ acc.length = j ∧ L2.IsL H' acc ((List.range j).map (knD ns (grt xs))) ∧ H' r = some (.lst acc) ∧ Same H5 H')
      (fun i acc σ H' _ ⟨_, _, _, _, _, s⟩ => SqL.of (s _ _ enl5)) ⟨none, rfl, rfl, (by simp only [List.range_zero, List.map_nil, L2.IsL]), upd_same, same_new hr0 _⟩ (fun i acc σ H' ⟨_, _, e, _, e2, _⟩ => ⟨e2, by omega⟩) (szn (by rw [List.length_map]; omega)) ?_ ?_
    · rintro j acc σ Ha hj ⟨v0, rfl, hal, hacc, er, sa⟩
      rw [List.length_map] at hj
      have hgj : (ns.map (V.str ∘ S)).getD j .non = .str (S ns[j]) := by
        rw [List.getD_eq_getElem?_getD, List.getElem?_map, List.getElem?_eq_getElem hj]; rfl
      rw [hgj]
      have hgi := getD_lt hj
      have wla := wl.same sa
      obtain ⟨vs, evs, hvs⟩ := wla.l j hj
      have hval := val_range (ad := ad) hN.nd (i := ns.length) (p := j) (Nat.le_refl _) hj
      rw [hgi] at hval hvs
      walk_at "go"
      refine i_dget0 ?_
      walk_at "go"
      refine ⟨wd, _, rfl, hval ▸ DGet.k (k := Sum.inr (S ns[j])) wla.d, ?_⟩
      walk_at "go"
      refine i_tupleR (seqR_lst evs) fun t1 Hb et1 sb => ?_
      walk_at "go"
      refine i_dget1 ?_
      have egb := sb _ _ (sa _ _ eg5)
      walk_at "go"
      refine ⟨g, rfl, .inl ⟨gkvs, .inl egb⟩, ?_⟩
      walk_at "go"
      refine ⟨_, DGet.k (k := Sum.inr (S ns[j])) egb, ?_⟩
      have hrange : (List.range (j + 1)).map (knD ns (grt xs)) = (List.range j).map (knD ns (grt xs)) ++ [knD ns (grt xs) j] := by rw [List.range_succ, List.map_append]; rfl
      have erb := sb _ _ er
      have haccb := IsL.same sb hacc
      have hvsb := IsL.same sb hvs
      have fin : ∀ (nv : V), Is Hb nv (numD ((lookP (grt xs) ns[j]).map (·.2))) → ∀ (p : Addr), Hb p = none → (upd Hb p (.tup [.ref t1, nv])) r = some (.lst acc) ∧ ∃ v, [some (V.ref wd), some (V.ref g), v0].set 2 (some (V.str (S ns[j]))) = [some (V.ref wd), some (V.ref g), v] ∧ (acc ++ [V.ref p]).length = j + 1 ∧ L2.IsL (upd (upd Hb p (.tup [.ref t1, nv])) r (.lst (acc ++ [V.ref p]))) (acc ++ [V.ref p]) ((List.range (j + 1)).map (knD ns (grt xs))) ∧ (upd (upd Hb p (.tup [.ref t1, nv])) r (.lst (acc ++ [V.ref p]))) r = some (.lst (acc ++ [V.ref p])) ∧ Same H5 (upd (upd Hb p (.tup [.ref t1, nv])) r (.lst (acc ++ [V.ref p]))) := fun nv hnv p hp => by
        have sp := same_new hp (.tup [.ref t1, nv])
        have ep := upd_same (H := Hb) (a := p) (o := .tup [.ref t1, nv])
        generalize upd Hb p (.tup [.ref t1, nv]) = Hc at sp ep ⊢
        have erc := sp _ _ erb
        have tk : Tk Hc (upd Hc r (.lst (acc ++ [V.ref p]))) := fun b zs e => by
          rw [upd_ne fun z => by rw [z, erc] at e; cases e]; exact e
        refine ⟨erc, _, rfl, by rw [List.length_append, hal]; rfl, ?_, upd_same, fun b o e => ?_⟩
        · rw [hrange]
          refine IsL.append (IsL.tk tk (knL_only _ _ _) (IsL.same sp haccb)) ?_
          have hk : Is Hc (.ref p) (knD ns (grt xs) j) := by
            unfold knD
            rw [hgi]
            have h1 : Is Hc (.ref t1) (.tup ((waysN ns ns[j] ns.length).map wayD)) := by
              rw [L2.Is.eq_def]
              exact ⟨t1, vs, rfl, sp _ _ et1, IsL.same sp hvsb⟩
            have h2 := Is.same sp hnv
            rw [L2.Is.eq_def]
            refine ⟨p, _, rfl, ep, ?_⟩
            simp only [L2.IsL]
            exact ⟨h1, h2, trivial⟩
          simp only [L2.IsL]
          exact ⟨Is.tk tk (knD_only _ _ _) hk, trivial⟩
        · have hbr : b ≠ r := fun z => by rw [z, hr0] at e; cases e
          rw [upd_ne hbr]
          exact sp _ _ (sb _ _ (sa _ _ e))
      rcases (hNT5.same (Same.trans sa sb)).val (z := ns[j]) with ⟨h1, h2⟩ | ⟨g', t', h1, h2, h3, h4, h5⟩
      · rw [h2]
        walk_at "go"
        exact fin .non (by rw [h1]; simp only [Option.map_none, numD, Is])
      · rw [h4]
        walk_at "go"
        refine fin (.ref t') ?_
        rw [h1]
        simp only [Option.map_some, numD, Is]
        refine ⟨t', _, rfl, h5, L2.IsL.ints _ _⟩
    · rintro acc σ Ha ⟨v0, rfl, hal, hacc, er, sa⟩
      rw [List.length_map] at hal hacc
      walk_at "go"
      exact q r acc ns Ha hrH er hacc hpn hN (s05.trans sa)
end
abbrev s_number_by_way : Stmt := top 6
theorem sc_number_by_way : FnScope ["knot", "sign", "way"] ["knot", "sign"] (defScope s_number_by_way) := ⟨rfl, rfl, rfl, by decide +kernel, rfl, by decide +kernel, by decide +kernel⟩
abbrev s_fits_from : Stmt := top 7
theorem sc_fits_from : FnScope ["wood", "framed", "begin", "fits", "knot", "sign", "number"] ["wood", "framed", "begin"] (defScope s_fits_from) := ⟨rfl, rfl, rfl, by decide +kernel, rfl, by decide +kernel, by decide +kernel⟩
abbrev s_wood_values : Stmt := top 8
theorem sc_wood_values : FnScope ["wood", "word", "framed", "fits", "begin"] ["wood", "word"] (defScope s_wood_values) := ⟨rfl, rfl, rfl, by decide +kernel, rfl, by decide +kernel, by decide +kernel⟩
def kD (k : Kt) : Dt := .tup [.tup (k.1.map wayD), numD k.2]
theorem woodD_eq (ns : List (List Nat)) (gs : List Pat) : woodD ns gs = (woodK ns gs).map kD := by
  unfold woodD woodK
  rw [List.map_map]
  rfl
theorem isWays {H : Hp} : ∀ {l : List (Nat × Nat)} {vs : List V}, L2.IsL H vs (l.map wayD) → ∀ (i : Nat) (h : i < l.length), ∃ t, vs[i]? = some (.ref t) ∧ H t = some (.tup [.str (S [l[i].1]), .int (l[i].2 : Int)])
  | [], vs, _, i, h => by simp at h
  | x :: l, [], h, _, _ => by simp [L2.IsL] at h
  | x :: l, v :: vs, h, i, hi => by
    simp only [List.map_cons, L2.IsL] at h
    cases i with
    | zero =>
      have h1 := h.1
      unfold wayD at h1
      have h1 : ∃ a zs, v = .ref a ∧ H a = some (.tup zs) ∧ L2.IsL H zs [.str (S [x.1]), .int (x.2 : Int)] := by
        rw [L2.Is.eq_def] at h1
        exact h1
      obtain ⟨t, zs, rfl, e, hz⟩ := h1
      refine ⟨t, rfl, ?_⟩
      match zs, hz with
      | [a, b], hz =>
        simp only [L2.IsL, Is] at hz
        rw [e, hz.1, hz.2.1]; rfl
      | [], hz => simp [L2.IsL] at hz
      | [_], hz => simp [L2.IsL] at hz
      | _ :: _ :: _ :: _, hz => simp [L2.IsL] at hz
    | succ i => simpa using isWays h.2 i (by simpa using hi)
theorem isTupZ {H : Hp} {v : V} {ns : List Int} (h : Is H v (.tup (ns.map Dt.int))) : ∃ t, v = .ref t ∧ H t = some (.tup (ns.map V.int)) := by
  simp only [Is] at h
  obtain ⟨t, vs, rfl, e, h⟩ := h
  refine ⟨t, rfl, ?_⟩
  rw [e]
  congr 2
  clear e
  induction ns generalizing vs with
  | nil =>
    cases vs with
    | nil => rfl
    | cons x r => simp [L2.IsL] at h
  | cons n ns ih =>
    cases vs with
    | nil => simp [L2.IsL] at h
    | cons x r =>
      simp only [List.map_cons, L2.IsL, Is] at h
      rw [h.1, ih r h.2]; rfl
theorem isK {H : Hp} {v : V} {k : Kt} (h : Is H v (kD k)) : ∃ (a t : Addr) (vs : List V) (nv : V), v = .ref a ∧ H a = some (.tup [.ref t, nv]) ∧ H t = some (.tup vs) ∧ L2.IsL H vs (k.1.map wayD) ∧ Is H nv (numD k.2) := by
  unfold kD at h
  have h : ∃ a zs, v = .ref a ∧ H a = some (.tup zs) ∧ L2.IsL H zs [.tup (k.1.map wayD), numD k.2] := by
    rw [L2.Is.eq_def] at h
    exact h
  obtain ⟨a, zs, rfl, e, hz⟩ := h
  match zs, hz with
  | [x, b], hz =>
    simp only [L2.IsL] at hz
    obtain ⟨h1, h2, _⟩ := hz
    have h1 : ∃ t vs, x = .ref t ∧ H t = some (.tup vs) ∧ L2.IsL H vs (k.1.map wayD) := by
      rw [L2.Is.eq_def] at h1
      exact h1
    obtain ⟨t, vs, rfl, et, hv⟩ := h1
    exact ⟨a, t, vs, b, rfl, e, et, hv, h2⟩
  | [], hz => simp [L2.IsL] at hz
  | [_], hz => simp [L2.IsL] at hz
  | _ :: _ :: _ :: _, hz => simp [L2.IsL] at hz
def spNbw : Sp := fun vs H Q _ => ∃ (v : V) (k : Kt) (c : Nat), vs = [v, .str (S [c])] ∧ Is H v (kD k) ∧ k.1.length ≤ 1000 ∧ Q (match k.1.find? (fun q => decide (q.1 = c)) with | some p => .int (p.2 : Int) | none => .non) H
def spFrom : Sp := fun vs H Q _ => ∃ (wl : Addr) (ys : List V) (xs : List Pat) (ks : List Kt) (nm : Nat → List Nat) (f : List Nat) (b : Nat), vs = [.ref wl, .str (S f), .int (b : Int)] ∧ H wl = some (.lst ys) ∧ L2.IsL H ys (ks.map kD) ∧ GoodW xs ks nm ∧ (∀ k ∈ ks, k.1.length ≤ 1000) ∧ f.length ≤ 200 ∧ b ≤ f.length ∧
  ∀ (r : Addr) (zs : List V) (H' : Hp), H r = none → H' r = some (.lst zs) → L2.IsL H' zs ((fitsB (grt xs) f b (f.length - b)).map fitD) → Same H H' → Q (.ref r) H'
def spWV : Sp := fun vs H Q _ => ∃ (wl : Addr) (ys : List V) (xs : List Pat) (ks : List Kt) (nm : Nat → List Nat) (w : List Nat), vs = [.ref wl, .str (S w)] ∧ H wl = some (.lst ys) ∧ L2.IsL H ys (ks.map kD) ∧ GoodW xs ks nm ∧ (∀ k ∈ ks, k.1.length ≤ 1000) ∧ (∀ x ∈ xs, 1 ≤ x.1.length ∧ x.2.length = x.1.length + 1) ∧ 1 ≤ w.length ∧ w.length ≤ 100 ∧
  ∀ (r : Addr) (H' : Hp), H r = none → H' r = some (.lst ((vals xs w).map V.int)) → Same H H' → Q (.ref r) H'
theorem fitD_only : ∀ l : List Fit, tOnlyL (l.map fitD) = true
  | [] => rfl
  | x :: l => by simp only [List.map_cons, tOnlyL, fitD_only l, fitD, tOnly, tOnlyL, ints_only]; rfl
section
variable {P : Program} {w : World} {K : PySem.W.Frag} {mg : Str → Option Value} {base : Heap} {f : Addr} {fd : FuncData} {tk : Nat → Tok}
theorem ok_number_by_way (T : Txt mg tk) (F : Fun K "number_by_way" "number_by_way" s_number_by_way f fd) : FnOk P w K mg base CX0 1 f fd ["knot", "sign"] spNbw := by
  refine F.ok sc_number_by_way (fun vs H Q E h => ?_) (fun cdv A outer s H vs Q E hr h => ?_)
  · obtain ⟨v, k, c, rfl, _⟩ := h
    rfl
  obtain ⟨v, k, c, rfl, hv, hkl, q⟩ := h
  have nd := sc_number_by_way.nd
  obtain ⟨a, t, vs, nv, rfl, ea, et, hvs, _⟩ := isK hv
  have hvl := hvs.length
  rw [List.length_map] at hvl
  refine ⟨_, (pss_cons (ps_for PassesOwn.never rfl (pi_any (K := K) (pe_ix (ix_any (K := K)) (pv 0) pe_int (fun _ _ => rfl))) (pg_name (i := 2) nd rfl (Or.inl rfl))
     (pss_one (ps_if (pt_cmpR (o_eq hr.units) (pe_ix (ix_any (K := K)) (pv 2) pe_int (fun _ _ => rfl)) (pv 1) (nomark _))
     (pss_one (ps_ret (pe_ix (ix_any (K := K)) (pv 2) pe_int (fun _ _ => rfl))))
     pss_nil)))
    (pss_one (ps_ret pe_non))), ?_⟩
  rw [show L2.start ["knot", "sign", "way"] [.ref a, .str (S [c])] = [some (.ref a), some (.str (S [c])), none] from rfl]
  walk_at "go"
  refine for_tup (K := K) (xs := vs) (fun j σ H' => ∃ (v2 : Option V), σ = [some (.ref a), some (.str (S [c])), v2] ∧ H' = H ∧ k.1.find? (fun q => decide (q.1 = c)) = (k.1.drop j).find? (fun q => decide (q.1 = c)))
    ⟨none, rfl, rfl, rfl⟩ (fun j σ H' _ ⟨_, _, e, _⟩ => by rw [e]; exact SqT.of et) ?_ ?_
  · rintro j x σ H2 hx ⟨v2, rfl, rfl, hfd⟩
    have hj : j < k.1.length := by have := (List.getElem?_eq_some_iff.mp hx).1; omega
    obtain ⟨tw, h1, h2⟩ := isWays hvs j hj
    rw [hx] at h1
    cases h1
    rw [List.drop_eq_getElem_cons hj, List.find?_cons] at hfd
    generalize k.1[j] = p at h2 hfd
    walk_at "go"
    by_cases hc : p.1 = c
    · rw [decide_eq_true hc] at hfd
      refine iteBT (by rw [hc]; exact decide_eq_true rfl) ?_
      walk_at "go"
      rw [hfd] at q
      exact q
    · rw [decide_eq_false hc] at hfd
      refine iteBF (decide_eq_false fun z => hc (by have := S_inj (by injection z); injection this)) ?_
      walk_at "go"
      exact ⟨_, rfl, rfl, hfd⟩
  · rintro σ H2 ⟨v2, rfl, rfl, hfd⟩
    rw [hvl, List.drop_length] at hfd
    have hfd : k.1.find? (fun q => decide (q.1 = c)) = none := hfd
    walk_at "go"
    rw [hfd] at q
    exact q
theorem ok_fits_from (T : Txt mg tk) (F : Fun K "fits_from" "fits_from" s_fits_from f fd) (D_number_by_way : Dn P w K mg base "number_by_way" 1 ["knot", "sign"] spNbw) : FnOk P w K mg base CX0 2 f fd ["wood", "framed", "begin"] spFrom := by
  refine F.ok sc_fits_from (fun vs H Q E h => ?_) (fun cdv A outer s H vs Q E hr h => ?_)
  · obtain ⟨wl, ys, xs, ks, nm, fr, b, rfl, _⟩ := h
    rfl
  obtain ⟨wl, ys, xs, ks, nm, fr, b, rfl, hwl, hys, hG, hkl, hfl, hb, q⟩ := h
  have nd := sc_fits_from.nd
  have hyl := hys.length
  rw [List.length_map] at hyl
  have knot : ∀ (H' : Hp), Same H H' → ∀ m (h : m < ks.length), ∃ v, ys[m]? = some v ∧ Is H' v (kD ks[m]) := fun H' s m hm => by
    obtain ⟨v, d, h1, h2, h3⟩ := IsL.get (IsL.same s hys) (i := m) (by rw [List.length_map]; exact hm)
    rw [List.getElem?_map, List.getElem?_eq_getElem hm] at h2
    cases h2
    exact ⟨v, h1, h3⟩
  refine ⟨_, (pss_cons (ps_set (i := 3) nd rfl (Or.inl rfl) (pe_lst pa_nil))
    (pss_cons (ps_set (i := 4) nd rfl (Or.inl rfl) (pe_ix (ix_any (K := K)) (pv 0) pe_int (fun _ _ => rfl)))
    (pss_cons (ps_for PassesOwn.never rfl (pi_any (K := K) (pe_slice (sl_any (K := K)) (pv 1) (po_some (pv 2)) po_none)) (pg_name (i := 5) nd rfl (Or.inl rfl))
     (pss_cons (ps_set (i := 6) nd rfl (Or.inl rfl) (pe_callD D_number_by_way (hr.mono (by first | decide | omega)) rfl (pa_cons (pv 4) (pa_cons (pv 5) pa_nil))))
    (pss_cons (ps_if (pt_cmpR o_is (pv 6) pe_non (nomark _))
     (pss_one (ps_ret (pv 3)))
     pss_nil)
    (pss_cons (ps_set (i := 4) nd rfl (Or.inl rfl) (pe_ix (ix_any (K := K)) (pv 0) (pv 6) (fun _ _ => rfl)))
    (pss_one (ps_if (pt_cmpR o_isnot (pe_ix (ix_any (K := K)) (pv 4) pe_int (fun _ _ => rfl)) pe_non (nomark _))
     (pss_one (ps_expr (pe_bmK (K := K) PySem.F.plainAttrs_list PySem.F.slot_list_append PySem.F.type_list_append m_append1 (pv 3) (pa_cons (pe_tup (pa_cons (pv 2) (pa_cons (pe_ix (ix_any (K := K)) (pv 4) pe_int (fun _ _ => rfl)) pa_nil))) pa_nil))))
     pss_nil))))))
    (pss_one (ps_ret (pv 3)))))), ?_⟩
  rw [show L2.start ["wood", "framed", "begin", "fits", "knot", "sign", "number"] [.ref wl, .str (S fr), .int (b : Int)] = [some (.ref wl), some (.str (S fr)), some (.int (b : Int)), none, none, none, none] from rfl]
  walk_at "go"
  intro r hr0
  have s1 := same_new hr0 (.lst [])
  have er := upd_same (H := H) (a := r) (o := .lst [])
  generalize upd H r (.lst []) = H1 at s1 er ⊢
  have hwl1 := s1 _ _ hwl
  obtain ⟨k0, hk0, hkd0⟩ := knot H1 s1 0 hG.pos
  walk_at "go"
  refine i_ixR (v := k0) (seqR_lst hwl1) (atI_of (Int.le_refl 0) hk0) ?_
  walk_at "go"
  rw [cut_from fr b hb]
  have hgl : (fr.drop b).length = fr.length - b := by rw [List.length_drop]
  have hfB : ∀ e, fitsB (grt xs) fr b e = fitsB (grt xs) fr b e := fun _ => rfl
  refine for_its (xs := chs (S (fr.drop b))) (fun e σ H' => ∃ (i : Nat) (kv : V) (v5 v6 : Option V) (zs : List V), σ = [some (.ref wl), some (.str (S fr)), some (.int (b : Int)), some (.ref r), some kv, v5, v6] ∧ i < ks.length ∧ nm i = (fr.drop b).take e ∧ ys[i]? = some kv ∧ H' r = some (.lst zs) ∧ L2.IsL H' zs ((fitsB (grt xs) fr b e).map fitD) ∧ Same H H')
    ⟨0, k0, none, none, [], rfl, hG.pos, (by rw [hG.z, List.take_zero]), hk0, er, (by simp only [fitsB, List.range_zero, List.filterMap_nil, List.map_nil, L2.IsL]), s1⟩ ?_ ?_
  · rintro e x σ Ha hx ⟨i, kv, v5, v6, zs, rfl, hi, hnm, hkv, era, hzs, sa⟩
    have he : e < (fr.drop b).length := by
      have := (List.getElem?_eq_some_iff.mp hx).1
      rw [chs_length, S_length] at this
      exact this
    have hxe : x = V.str (S [(fr.drop b)[e]]) := by
      have := chs_get he
      rw [List.getD_eq_getElem?_getD, hx] at this
      exact this
    subst hxe
    have htk : (fr.drop b).take (e + 1) = nm i ++ [(fr.drop b)[e]] := by rw [List.take_succ, List.getElem?_eq_getElem he, hnm]; rfl
    obtain ⟨kv', hkv', hkd⟩ := knot Ha sa i hi
    rw [hkv] at hkv'
    cases hkv'
    have hway := hG.way i hi (fr.drop b)[e]
    have hno := hG.no i hi (fr.drop b)[e]
    rw [← htk] at hway hno
    generalize (fr.drop b)[e] = c at hway hno ⊢
    have hzl := hzs.length
    rw [List.length_map] at hzl
    have hzl2 := fitsB_len (grt xs) fr b e
    walk_at "go"
    refine ⟨kv, ks[i], c, rfl, hkd, hkl _ (List.getElem_mem hi), ?_⟩
    cases hfd : ks[i].1.find? (fun q => decide (q.1 = c)) with
    | none =>
      walk_at "go"
      refine q r zs Ha hr0 era ?_ sa
      rw [fitsB_stop (hno hfd) (fr.length - b) (by omega)]
      exact hzs
    | some p =>
      obtain ⟨hp, hnp⟩ := hway p hfd
      obtain ⟨kp, hkp, hkdp⟩ := knot Ha sa p.2 hp
      obtain ⟨a2, t2, vs2, nv, rfl, ea2, et2, _, hnv⟩ := isK hkdp
      have hwla := sa _ _ hwl
      have hnum := hG.num p.2 hp
      rw [hnp] at hnum
      rw [hnum] at hnv
      have hsz : zs.length < sizeLine := szn (by omega)
      walk_at "go"
      refine i_ixR (v := .ref a2) (seqR_lst hwla) (atI_of (by omega) (by rw [Int.toNat_natCast]; exact hkp)) ?_
      walk_at "go"
      cases hlk : (lookP (grt xs) ((fr.drop b).take (e + 1))).map (·.2) with
      | none =>
        rw [hlk] at hnv
        have : nv = .non := by simpa only [numD, Is] using hnv
        subst this
        walk_at "go"
        refine ⟨p.2, _, _, _, zs, rfl, hp, hnp, hkp, era, ?_, sa⟩
        rw [fitsB_succ, hlk]
        simp only [List.append_nil]
        exact hzs
      | some g =>
        rw [hlk] at hnv
        obtain ⟨tg, rfl, etg⟩ := isTupZ hnv
        walk_at "go"
        intro tn htn
        have sb := same_new htn (.tup [.int (b : Int), .ref tg])
        have etn := upd_same (H := Ha) (a := tn) (o := .tup [.int (b : Int), .ref tg])
        generalize upd Ha tn (.tup [.int (b : Int), .ref tg]) = Hb at sb etn ⊢
        have erb := sb _ _ era
        walk_at "go"
        have tkc : Tk Hb (upd Hb r (.lst (zs ++ [.ref tn]))) := fun y zs' ey => by
          rw [upd_ne fun z => by rw [z, erb] at ey; cases ey]; exact ey
        refine ⟨p.2, _, _, _, zs ++ [.ref tn], rfl, hp, hnp, hkp, upd_same, ?_, fun y o ey => ?_⟩
        · rw [fitsB_succ, hlk]
          simp only [List.map_append]
          refine IsL.append (IsL.tk tkc (fitD_only _) (IsL.same sb hzs)) ?_
          simp only [List.map_cons, List.map_nil, L2.IsL, fitD, Is]
          exact ⟨⟨tn, _, rfl, tkc _ _ etn, rfl, ⟨tg, _, rfl, tkc _ _ (sb _ _ etg), L2.IsL.ints _ _⟩, trivial⟩, trivial⟩
        · have hyr : y ≠ r := fun z => by rw [z, hr0] at ey; cases ey
          rw [upd_ne hyr]; exact sb _ _ (sa _ _ ey)
  · rintro σ Ha ⟨i, kv, v5, v6, zs, rfl, hi, hnm, hkv, era, hzs, sa⟩
    rw [chs_length, S_length, hgl] at hzs
    walk_at "go"
    exact q r zs Ha hr0 era hzs sa
theorem ok_wood_values (T : Txt mg tk) (F : Fun K "wood_values" "wood_values" s_wood_values f fd) (D_fits_from : Dn P w K mg base "fits_from" 2 ["wood", "framed", "begin"] spFrom) (D_values_by_fits : Dn P w K mg base "values_by_fits" 1 ["fits", "word"] spByFits) : FnOk P w K mg base CX0 3 f fd ["wood", "word"] spWV := by
  refine F.ok sc_wood_values (fun vs H Q E h => ?_) (fun cdv A outer s H vs Q E hr h => ?_)
  · obtain ⟨wl, ys, xs, ks, nm, w', rfl, _⟩ := h
    rfl
  obtain ⟨wl, ys, xs, ks, nm, w', rfl, hwl, hys, hG, hkl, hx, hw1, hw2, q⟩ := h
  have nd := sc_wood_values.nd
  refine ⟨_, (pss_cons (ps_set (i := 2) nd rfl (Or.inl rfl) (pe_op o_add (pe_op o_add pe_str (pv 1)) pe_str))
    (pss_cons (ps_set (i := 3) nd rfl (Or.inl rfl) (pe_lst pa_nil))
    (pss_cons (ps_for PassesOwn.never rfl (pi_range1 rfl T.z_range (pa_cons (pe_callB (c_len (K := K)) rfl T.z_len (by decide +kernel) (pa_cons (pv 2) pa_nil)) pa_nil)) (pg_name (i := 4) nd rfl (Or.inl rfl))
     (pss_one (ps_expr (pe_bmK (K := K) PySem.F.plainAttrs_list PySem.F.slot_list_extend PySem.F.type_list_extend m_extend1 (pv 3) (pa_cons (pe_callD D_fits_from (hr.mono (by first | decide | omega)) rfl (pa_cons (pv 0) (pa_cons (pv 2) (pa_cons (pv 4) pa_nil)))) pa_nil)))))
    (pss_one (ps_ret (pe_callD D_values_by_fits (hr.mono (by first | decide | omega)) rfl (pa_cons (pv 3) (pa_cons (pv 1) pa_nil)))))))), ?_⟩
  rw [show L2.start ["wood", "word", "framed", "fits", "begin"] [.ref wl, .str (S w')] = [some (.ref wl), some (.str (S w')), none, none, none] from rfl]
  rw [t_dot]
  walk_at "go"
  rw [frame_eq]
  have hfl := frame_length w'
  walk_at "go"
  intro r hr0
  have s1 := same_new hr0 (.lst [])
  have er := upd_same (H := H) (a := r) (o := .lst [])
  generalize upd H r (.lst []) = H1 at s1 er ⊢
  walk_at "go"
  refine for_range (fun j σ H' => ∃ (v4 : Option V) (zs : List V), σ = [some (.ref wl), some (.str (S w')), some (.str (S (frame w'))), some (.ref r), v4] ∧ H' r = some (.lst zs) ∧ L2.IsL H' zs ((fitsW (grt xs) (frame w') j).map fitD) ∧ zs.length ≤ 200 * j ∧ Same H H')
    ⟨none, [], rfl, er, (by simp only [fitsW, List.range_zero, List.flatMap_nil, List.map_nil, L2.IsL]), Nat.le_refl _, s1⟩ ?_ ?_
  · rintro j σ Ha hj ⟨v4, zs, rfl, era, hzs, hzl, sa⟩
    have hj : j < (frame w').length := by omega
    have hz0 : (0 : Int) + (j : Int) = (j : Int) := by omega
    walk_at "go"
    rw [hz0]
    refine ⟨wl, ys, xs, ks, nm, frame w', j, rfl, sa _ _ hwl, IsL.same sa hys, hG, hkl, by omega, by omega, fun r2 us Hb hr2 er2 hus sb => ?_⟩
    have erb := sb _ _ era
    have hul := hus.length
    rw [List.length_map] at hul
    have hul2 := fitsB_len (grt xs) (frame w') j ((frame w').length - j)
    have hsz : zs.length + us.length ≤ sizeLine := szn (by omega)
    walk_at "go"
    refine i_extL erb er2 hsz ?_
    have tkc : Tk Hb (upd Hb r (.lst (zs ++ us))) := fun y zs' ey => by
      rw [upd_ne fun z => by rw [z, erb] at ey; cases ey]; exact ey
    walk_at "go"
    refine ⟨_, zs ++ us, rfl, upd_same, ?_, by rw [List.length_append]; omega, fun y o ey => ?_⟩
    · rw [fitsW_succ, List.map_append]
      exact IsL.append (IsL.tk tkc (fitD_only _) (IsL.same sb hzs)) (IsL.tk tkc (fitD_only _) hus)
    · have hyr : y ≠ r := fun z => by rw [z, hr0] at ey; cases ey
      rw [upd_ne hyr]; exact sb _ _ (sa _ _ ey)
  · rintro σ Ha ⟨v4, zs, rfl, era, hzs, hzl, sa⟩
    walk_at "go"
    have hin := fitsW_in (fun x h => (hx x h).2) (f := frame w') (n := (frame w').length)
    have hv := wood_vals hx w' hw1
    try rw [Int.toNat_natCast] at hzs
    refine ⟨.ref r, fitsW (grt xs) (frame w') (frame w').length, w', rfl, ?_, fun x h => ?_, hw2, fun r2 Hb hr2 er2 sb => ?_⟩
    · simp only [Is, fitsD]
      exact ⟨r, zs, rfl, era, hzs⟩
    · have := hin x h
      rw [hfl] at this
      exact this
    · rw [hv] at er2
      walk_at "go"
      exact q r2 Hb (sa.free hr2) er2 (sa.trans sb)
end
abbrev s_law_turned : Stmt := top 19
theorem sc_law_turned : FnScope ["_law_feed_here", "_law_wood", "_law_order", "_law_k", "_law_fresh"] ["_law_feed_here", "_law_wood"] (defScope s_law_turned) := ⟨rfl, rfl, rfl, by decide +kernel, rfl, by decide +kernel, by decide +kernel⟩
theorem pg_tupK {X : Cx} {es : List Expr} {k : Nat} {pos : Pos} {t : TGs} {n : Nat} {K : PySem.W.Frag} (hK : X.K = K) (hc : X.calm = true) (h : PGs X es t)
    (hn : (assignEach es X.env).length = n := by rfl) (hst : (assignEach es X.env).findIdx? (·.1) = none := by rfl) : PG X (.Tuple es k pos) (gTup K n t) := hK ▸ pg_tup hc h hn hst
def spTurned : Sp := fun vs H Q _ => ∃ (p wl : Addr) (n : Nat) (ys : List V) (xs : List Pat) (ks : List Kt) (nm : Nat → List Nat), vs = [.ref p, .ref wl] ∧ FeedAt H p n ∧ n + 200 < feedTop ∧ wl ≠ p ∧ H wl = some (.lst ys) ∧ L2.IsL H ys (ks.map kD) ∧ GoodW xs ks nm ∧ ks.length < 100 ∧ (∀ k ∈ ks, k.1.length ≤ 1000 ∧ ∀ q ∈ k.1, q.2 < ks.length) ∧
  ∀ (r : Addr) (ys' : List V) (ord : List Nat) (H' : Hp), H r = none → r ≠ p → H' r = some (.lst ys') → L2.IsL H' ys' ((turnK ord ks).map kD) → ord.Perm (List.range ks.length) → GoodW xs (turnK ord ks) (fun k => nm (ord.getD k 0)) → FeedAt H' p (n + 200) → Kept p H H' → Q (.ref r) H'
theorem kD_only : ∀ l : List Kt, tOnlyL (l.map kD) = true
  | [] => rfl
  | x :: l => by
    simp only [List.map_cons, tOnlyL, kD_only l, kD, tOnly, tOnlyL, wayD_only]
    cases x.2 with
    | none => rfl
    | some g => simp only [numD, tOnly, ints_only]; rfl
theorem IsL_keptT {p : Addr} {H H' : Hp} (k : Kept p H H') (hp : ∃ a b c : Int, H p = some (.lst [.int a, .int b, .int c])) : Tk H H' := fun b zs e => k b _ (fun z => by
  obtain ⟨a, b', c, h⟩ := hp
  rw [z, h] at e; cases e) e
theorem comp_tup {K : PySem.W.Frag} {a : Addr} {xs : List V} {p : Addr} {g : TG} {tc : TT} {te : TE} {Q : VK} {σ0 : St} {H0 : Hp} (Pv : Nat → List V → St → Hp → Prop)
    (hl : ∀ i acc σ H, i ≤ xs.length → Pv i acc σ H → SqT K H a xs)
    (h0 : Pv 0 [] σ0 H0) (hp : ∀ i acc σ H, Pv i acc σ H → H p = some (.lst acc) ∧ acc.length ≤ i) (hz : xs.length ≤ sizeLine)
    (hs : ∀ i acc σ H, i < xs.length → Pv i acc σ H → g (xs.getD i .non) σ H fun σ3 H3 => tc σ3 H3 fun b H4 =>
      if b = true then te σ3 H4 fun v H5 => H5 p = some (.lst acc) ∧ Pv (i + 1) (acc ++ [v]) σ3 (upd H5 p (.lst (acc ++ [v]))) else Pv (i + 1) acc σ3 H4)
    (hd : ∀ acc σ H, Pv xs.length acc σ H → Q (.ref p) H) : CompRuns (Itt K a) p g tc te Q σ0 H0 :=
  comp_of (J := Itt K a) (n := xs.length) (val := fun i => xs.getD i .non) Pv
    (fun i acc σ H hi q => ⟨xs, xs[i], (hl i acc σ H (Nat.le_of_lt hi) q), by simp [hi]⟩) (fun acc σ H q => ⟨xs, (hl _ acc σ H (Nat.le_refl _) q), Nat.le_refl _⟩)
    (fun i acc σ H x _ hi q y => ⟨y.1, by have := y.2 xs (hl i acc σ H (Nat.le_of_lt hi) q); rw [List.getD_eq_getElem?_getD, this]; rfl⟩) h0 hp hz hs hd
section
variable {P : Program} {w : World} {K : PySem.W.Frag} {mg : Str → Option Value} {base : Heap} {f : Addr} {fd : FuncData} {tk : Nat → Tok}
theorem ok_law_turned (T : Txt mg tk) (F : Fun K "_law_turned" "_law_turned" s_law_turned f fd) (D_law_next : Dn P w K mg base "_law_next" 1 ["_law_feed_here", "_law_many"] spNext) : FnOk P w K mg base CX0 2 f fd ["_law_feed_here", "_law_wood"] spTurned := by
  refine F.ok sc_law_turned (fun vs H Q E h => ?_) (fun cdv A outer s H vs Q E hr h => ?_)
  · obtain ⟨p, wl, n, ys, xs, ks, nm, rfl, _⟩ := h
    rfl
  obtain ⟨p, wl, n, ys, xs, ks, nm, rfl, hf, hn, hwp, hwl, hys, hG, hkl, hkk, q⟩ := h
  have nd := sc_law_turned.nd
  have hyl := hys.length
  rw [List.length_map] at hyl
  have hpos := hG.pos
  refine ⟨_, (pss_cons (ps_set (i := 2) nd rfl (Or.inl rfl) (pe_lst (pa_cons pe_int pa_nil)))
    (pss_cons (ps_for PassesOwn.never rfl (pi_range2 rfl T.z_range (pa_cons pe_int (pa_cons (pe_callB (c_len (K := K)) rfl T.z_len (by decide +kernel) (pa_cons (pv 1) pa_nil)) pa_nil))) (pg_name (i := 3) nd rfl (Or.inl rfl))
     (pss_one (ps_expr (pe_bmK (K := K) PySem.F.plainAttrs_list PySem.F.slot_list_insert PySem.F.type_list_insert m_insert2 (pv 2) (pa_cons (pe_op o_add pe_int (pe_callD D_law_next (hr.mono (by first | decide | omega)) rfl (pa_cons (pv 0) (pa_cons (pe_callB (c_len (K := K)) rfl T.z_len (by decide +kernel) (pa_cons (pv 2) pa_nil)) pa_nil)))) (pa_cons (pv 3) pa_nil))))))
    (pss_cons (ps_set (i := 4) nd rfl (Or.inr rfl) pe_dnewK)
    (pss_cons (ps_for PassesOwn.never rfl (pi_range1 rfl T.z_range (pa_cons (pe_callB (c_len (K := K)) rfl T.z_len (by decide +kernel) (pa_cons (pv 2) pa_nil)) pa_nil)) (pg_name (i := 3) nd rfl (Or.inl rfl))
     (pss_one (ps_dput (hu_of hr) (pv 4) (pe_ix (ix_any (K := K)) (pv 2) (pv 3) (fun _ _ => rfl)) (pv 3) rfl)))
    (pss_one (ps_ret (pe_comp ["_law_wood", "_law_fresh", "_law_k"] [some 1, some 4, none] rfl (by kernel_rfl) rfl (pi_any (K := K) (pv 2)) (fun _ _ _ _ => (pg_name (i := 2) (show (["_law_wood", "_law_fresh", "_law_k"] : List Str).Nodup by decide +kernel) rfl (Or.inl rfl) (Or.inr rfl))) (fun _ _ _ _ => pts_nil) (fun _ _ _ _ => (pe_tup (pa_cons (pe_callTy c_tuple rfl T.z_tuple (by decide +kernel) (pa_cons (pe_comp ["_law_fresh", "_law_sign", "_law_to"] [some 1, none, none] rfl (by kernel_rfl) rfl (pi_any (K := K) (pe_ix (ix_any (K := K)) (pe_ix (ix_any (K := K)) (pv 0) (pv 2) (fun _ _ => rfl)) pe_int (fun _ _ => rfl))) (fun _ _ _ _ => (pg_tupK (K := K) (n := 2) rfl rfl (pgs_cons (pg_name (i := 1) (show (["_law_fresh", "_law_sign", "_law_to"] : List Str).Nodup by decide +kernel) rfl (Or.inl rfl) (Or.inr rfl)) (pgs_cons (pg_name (i := 2) (show (["_law_fresh", "_law_sign", "_law_to"] : List Str).Nodup by decide +kernel) rfl (Or.inl rfl) (Or.inr rfl)) pgs_nil)))) (fun _ _ _ _ => pts_nil) (fun _ _ _ _ => (pe_tup (pa_cons (pv 1) (pa_cons (pe_dget (hu_of hr) (pv 0) (pv 2) (fun _ _ => rfl)) pa_nil))))) pa_nil)) (pa_cons (pe_ix (ix_any (K := K)) (pe_ix (ix_any (K := K)) (pv 0) (pv 2) (fun _ _ => rfl)) pe_int (fun _ _ => rfl)) pa_nil))))))))))), ?_⟩
  rw [show L2.start ["_law_feed_here", "_law_wood", "_law_order", "_law_k", "_law_fresh"] [.ref p, .ref wl] = [some (.ref p), some (.ref wl), none, none, none] from rfl]
  walk_at "go"
  intro ol hol
  have pol : p ≠ ol := by obtain ⟨o, e⟩ := hf.some; exact ne_of_none e hol
  have k1 : Kept p H (upd H ol (.lst [.int 0])) := (Kept.refl p H).new hol _
  have eol := upd_same (H := H) (a := ol) (o := .lst [.int 0])
  have hf1 : FeedAt (upd H ol (.lst [.int 0])) p n := hf.new hol
  generalize upd H ol (.lst [.int 0]) = H1 at k1 eol hf1 ⊢
  have hwl1 := k1 _ _ hwp hwl
  walk_at "go"
  refine for_range (fun i σ H' => ∃ (v3 : Option V) (ord : List Nat), σ = [some (.ref p), some (.ref wl), some (.ref ol), v3, none] ∧ H' ol = some (.lst (ord.map fun m : Nat => V.int (m : Int))) ∧ ord.Perm (List.range (i + 1)) ∧ ord[0]? = some 0 ∧ FeedAt H' p (n + i) ∧ Kept p H H')
    ⟨none, [0], rfl, eol, List.Perm.refl _, rfl, hf1, k1⟩ ?_ ?_
  · rintro i σ Ha hi ⟨v3, ord, rfl, ea, hp, h0, hfa, ka⟩
    have hol2 : ord.length = i + 1 := by rw [hp.length_eq, List.length_range]
    have hil : i < 100 := by omega
    walk_at "go"
    rw [List.length_map]
    refine ⟨p, _, n + i, rfl, hfa, by omega, by omega, by omega, fun d Hb hd0 hd1 hfb ob => ?_⟩
    have eb : Hb ol = _ := (ob ol pol.symm).trans ea
    walk_at "go"
    refine i_insL eb ⟨by omega, by rw [List.length_map]; omega, by rw [List.length_map]; omega⟩ ?_
    obtain ⟨hp2, h02⟩ := ord_ins (i := (1 + d).toNat) hp h0 (by omega) (by omega)
    have hmap : (ord.map fun m : Nat => V.int (m : Int)).take (1 + d).toNat ++ V.int (1 + (i : Int)) :: (ord.map fun m : Nat => V.int (m : Int)).drop (1 + d).toNat = (ord.take (1 + d).toNat ++ [i + 1] ++ ord.drop (1 + d).toNat).map fun m : Nat => V.int (m : Int) := by
      rw [List.map_append, List.map_append, List.map_take, List.map_drop, List.append_assoc]
      congr 1
      simp only [List.map_cons, List.map_nil, List.singleton_append]
      congr 2
      omega
    rw [hmap]
    walk_at "go"
    refine ⟨_, _, rfl, upd_same, hp2, h02, ?_, fun b o hb e => ?_⟩
    · obtain ⟨a1, b1, c1, g1, g2⟩ := hfb
      exact ⟨a1, b1, c1, by rw [upd_ne pol]; exact g1, by omega⟩
    · rw [upd_ne (ne_of_none e hol)]
      exact (ob b hb).trans (ka b o hb e)
  · rintro σ Ha ⟨v3, ord, rfl, ea, hp, h0, hfa, ka⟩
    have hn1 : ((ys.length : Int) - 1).toNat + 1 = ks.length := by omega
    rw [hn1] at hp
    have hfa : FeedAt Ha p (n + 200) := hfa.mono (by omega)
    have hol2 : ord.length = ks.length := by rw [hp.length_eq, List.length_range]
    have hnd : ord.Nodup := hp.nodup_iff.mpr List.nodup_range
    have hgT := turn_good hG hp h0
    have hlt : ∀ m ∈ ord, m < ks.length := fun m hm => List.mem_range.mp (hp.mem_iff.mp hm)
    walk_at "go"
    refine i_dnewK fun fd hfd => ?_
    have pfd : p ≠ fd := by obtain ⟨o, e⟩ := hfa.some; exact ne_of_none e hfd
    have olfd : ol ≠ fd := ne_of_none ea hfd
    have hfdH : H fd = none := by
      cases e : H fd with
      | none => rfl
      | some o => have := ka fd o pfd.symm e; rw [hfd] at this; cases this
    have sb := same_new hfd (.dK [])
    have efd := upd_same (H := Ha) (a := fd) (o := .dK [])
    have hfb : FeedAt (upd Ha fd (.dK [])) p (n + 200) := hfa.new hfd
    generalize upd Ha fd (.dK []) = Hb at sb efd hfb ⊢
    have eb := sb _ _ ea
    have kb := ka.same sb
    walk_at "go"
    try rw [List.length_map]
    refine ⟨(ord.length : Int), rfl, by omega, by omega, ?_⟩
    rw [show ((ord.length : Int)).toNat = ord.length from Int.toNat_natCast _]
    refine for_range (fun i σ H' => ∃ (v3 : Option V), σ = [some (.ref p), some (.ref wl), some (.ref ol), v3, some (.ref fd)] ∧ H' fd = some (.dK ((List.range i).map fun k => ((Sum.inl ((ord.getD k 0 : Nat) : Int) : Key), V.int (k : Int)))) ∧ H' ol = some (.lst (ord.map fun m : Nat => V.int (m : Int))) ∧ FeedAt H' p (n + 200) ∧ Kept p H H')
      ⟨v3, rfl, efd, eb, hfb, kb⟩ ?_ ?_
    · rintro i σ Hc hi ⟨v3, rfl, efc, eoc, hfc, kc⟩
      have hi : i < ord.length := by first | omega | (rw [List.length_map] at hi; omega)
      have hz0 : (0 : Int) + (i : Int) = (i : Int) := by omega
      have hgi : ord.getD i 0 = ord[i] := by rw [List.getD_eq_getElem?_getD, List.getElem?_eq_getElem hi]; rfl
      refine i_dput ?_
      walk_at "go"
      rw [hz0]
      refine i_ixR (v := .int ((ord.getD i 0 : Nat) : Int)) (seqR_lst eoc) (atI_of (by omega) (by rw [Int.toNat_natCast, List.getElem?_map, List.getElem?_eq_getElem hi, hgi]; rfl)) ?_
      refine ⟨fd, _, rfl, DPut.k (k := Sum.inl ((ord.getD i 0 : Nat) : Int)) efc (szn (by rw [List.length_map, List.length_range]; omega)), ?_⟩
      rw [put_rangeI hnd hi]
      walk_at "go"
      refine ⟨_, rfl, upd_same, (upd_ne olfd).trans eoc, ?_, fun b o hb e => ?_⟩
      · obtain ⟨a1, b1, c1, g1, g2⟩ := hfc
        exact ⟨a1, b1, c1, by rw [upd_ne pfd]; exact g1, g2⟩
      · rw [upd_ne (ne_of_none e hfdH)]; exact kc b o hb e
    · rintro σ Hc ⟨v3, rfl, efc, eoc, hfc, kc⟩
      have hlen : ∀ z : Nat, ((ord.length : Int)).toNat = ord.length := fun _ => Int.toNat_natCast _
      walk_at "go"
      intro r hr0
      have hrH : H r = none := by
        cases e : H r with
        | none => rfl
        | some o =>
          by_cases hb : r = p
          · obtain ⟨o2, e2⟩ := hfc.some
            rw [hb, e2] at hr0; cases hr0
          · have := kc r o hb e; rw [hr0] at this; cases this
      have rp : r ≠ p := fun z => by obtain ⟨o2, e2⟩ := hfc.some; rw [z, e2] at hr0; cases hr0
      have hwc := kc _ _ hwp hwl
      have hysc : L2.IsL Hc ys (ks.map kD) := IsL.tk (IsL_keptT kc (FeedAt.ex hf)) (kD_only _) hys
      have tl : (turnK ord ks).length = ord.length := by unfold turnK; rw [List.length_map]
      refine comp_list (K := K) (xs := ord.map fun m : Nat => V.int (m : Int)) (fun j acc σ H' => ∃ (v : Option V), σ = [some (.ref wl), some (.ref fd), v] ∧ acc.length = j ∧ L2.IsL H' acc (((turnK ord ks).take j).map kD) ∧ H' r = some (.lst acc) ∧ Same Hc H')
        (fun j acc σ H' _ ⟨_, _, _, _, _, s⟩ => SqL.of (s _ _ eoc)) ⟨none, rfl, rfl, (by simp only [List.take_zero, List.map_nil, L2.IsL]), upd_same, same_new hr0 _⟩ (fun j acc σ H' ⟨_, _, e, _, e2, _⟩ => ⟨e2, by omega⟩) (szn (by rw [List.length_map]; omega)) ?_ ?_
      · rintro j acc σ Hd hj ⟨v, rfl, hal, hacc, er, sd⟩
        rw [List.length_map] at hj
        have hgj : (ord.map fun m : Nat => V.int (m : Int)).getD j .non = .int (ord[j] : Int) := by
          rw [List.getD_eq_getElem?_getD, List.getElem?_map, List.getElem?_eq_getElem hj]; rfl
        rw [hgj]
        have hm := hlt _ (List.getElem_mem hj)
        have hjt : (turnK ord ks).take (j + 1) = (turnK ord ks).take j ++ [(ks[ord[j]].1.map fun p => (p.1, ord.idxOf p.2), ks[ord[j]].2)] := by
          rw [List.take_succ, List.getElem?_eq_getElem (by omega)]
          simp only [turnK, List.getElem_map, kAt_lt hm, Option.toList]
        generalize ord[j] = m at hm hjt ⊢
        obtain ⟨kv, hkv, hkd⟩ : ∃ v, ys[m]? = some v ∧ Is Hd v (kD ks[m]) := by
          obtain ⟨v, d, h1, h2, h3⟩ := IsL.get (IsL.same sd hysc) (i := m) (by rw [List.length_map]; exact hm)
          rw [List.getElem?_map, List.getElem?_eq_getElem hm] at h2
          cases h2
          exact ⟨v, h1, h3⟩
        obtain ⟨ka', kt, kvs, nv, rfl, eka, ekt, hkvs, hnv⟩ := isK hkd
        have hkvl := hkvs.length
        rw [List.length_map] at hkvl
        obtain ⟨hkl1, hkl2⟩ := hkk _ (List.getElem_mem hm)
        have hwd := sd _ _ hwc
        have hat : atI ys (m : Int) = some (.ref ka') := atI_of (by omega) (by rw [Int.toNat_natCast]; exact hkv)
        generalize ks[m] = k at *
        walk_at "go"
        try refine i_ixR (v := .ref ka') (seqR_lst hwd) hat ?_
        walk_at "go"
        intro r3 hr3
        refine comp_tup (K := K) (xs := kvs) (fun e bcc σ H' => ∃ (v1 v2 : Option V), σ = [some (.ref fd), v1, v2] ∧ bcc.length = e ∧ L2.IsL H' bcc (((k.1.take e).map fun p => (p.1, ord.idxOf p.2)).map wayD) ∧ H' r3 = some (.lst bcc) ∧ Same Hd H')
          (fun e bcc σ H' _ ⟨_, _, _, _, _, _, s⟩ => SqT.of (s _ _ ekt)) ⟨none, none, rfl, rfl, (by simp only [List.take_zero, List.map_nil, L2.IsL]), upd_same, same_new hr3 _⟩ (fun e bcc σ H' ⟨_, _, _, e1, _, e2, _⟩ => ⟨e2, by omega⟩) (szn (by omega)) ?_ ?_
        · rintro e bcc σ He hee ⟨v1, v2, rfl, hbl, hbcc, er3, se⟩
          have he2 : e < k.1.length := by omega
          obtain ⟨tw, h1, h2⟩ := isWays hkvs e he2
          have hge : kvs.getD e .non = .ref tw := by rw [List.getD_eq_getElem?_getD, h1]; rfl
          rw [hge]
          have hto := hkl2 _ (List.getElem_mem he2)
          have htk : ((k.1.take (e + 1)).map fun p => (p.1, ord.idxOf p.2)).map wayD = ((k.1.take e).map fun p => (p.1, ord.idxOf p.2)).map wayD ++ [wayD (k.1[e].1, ord.idxOf k.1[e].2)] := by
            rw [List.take_succ, List.getElem?_eq_getElem he2, List.map_append, List.map_append]; rfl
          rw [htk]
          generalize k.1[e] = pw at h2 hto ⊢
          have h2e := se _ _ h2
          have hmo : pw.2 ∈ ord := hp.mem_iff.mpr (List.mem_range.mpr hto)
          have hix := List.idxOf_lt_length_iff.mpr hmo
          have hval := val_rangeI hnd (i := ord.length) (p := ord.idxOf pw.2) (Nat.le_refl _) hix
          have hgd : ord.getD (ord.idxOf pw.2) 0 = pw.2 := by rw [List.getD_eq_getElem?_getD, List.getElem?_eq_getElem hix]; exact List.getElem_idxOf hix
          rw [hgd] at hval
          have efe := se _ _ (sd _ _ efc)
          refine i_gtup h2e rfl (i_gcons (i_name (i_gcons (i_name (i_gnil ?_)))))
          walk_at "go"
          refine i_dget0 ?_
          walk_at "go"
          refine ⟨fd, _, rfl, hval ▸ DGet.k (k := Sum.inl ((pw.2 : Nat) : Int)) efe, ?_⟩
          walk_at "go"
          intro tn htn
          have sf := same_new htn (.tup [.str (S [pw.1]), .int ((ord.idxOf pw.2 : Nat) : Int)])
          have etn := upd_same (H := He) (a := tn) (o := .tup [.str (S [pw.1]), .int ((ord.idxOf pw.2 : Nat) : Int)])
          generalize upd He tn (.tup [.str (S [pw.1]), .int ((ord.idxOf pw.2 : Nat) : Int)]) = Hf at sf etn ⊢
          have er3f := sf _ _ er3
          have tkc : Tk Hf (upd Hf r3 (.lst (bcc ++ [.ref tn]))) := fun y zs' ey => by
            rw [upd_ne fun z => by rw [z, er3f] at ey; cases ey]; exact ey
          refine ⟨er3f, _, _, rfl, by rw [List.length_append, hbl]; rfl, ?_, upd_same, fun c o ec => ?_⟩
          · refine IsL.append (IsL.tk tkc (wayD_only _) (IsL.same sf hbcc)) ?_
            simp only [L2.IsL, wayD, Is]
            exact ⟨⟨tn, _, rfl, tkc _ _ etn, rfl, rfl, trivial⟩, trivial⟩
          · have hcr : c ≠ r3 := fun z => by rw [z, hr3] at ec; cases ec
            rw [upd_ne hcr]; exact sf _ _ (se _ _ ec)
        · rintro bcc σ He ⟨v1, v2, rfl, hbl, hbcc, er3, se⟩
          rw [hkvl, List.take_length] at hbcc
          walk_at "go"
          refine i_tupleR (seqR_lst er3) fun t4 Hf et4 sf => ?_
          have sdf := se.trans sf
          have hwf := sdf _ _ hwd
          have ekaf := sdf _ _ eka
          walk_at "go"
          try refine i_ixR (v := .ref ka') (seqR_lst hwf) hat ?_
          walk_at "go"
          intro t5 ht5
          have sg := same_new ht5 (.tup [.ref t4, nv])
          have et5 := upd_same (H := Hf) (a := t5) (o := .tup [.ref t4, nv])
          generalize upd Hf t5 (.tup [.ref t4, nv]) = Hg at sg et5 ⊢
          have sdg := sdf.trans sg
          have erg := sdg _ _ er
          have tkc : Tk Hg (upd Hg r (.lst (acc ++ [.ref t5]))) := fun y zs' ey => by
            rw [upd_ne fun z => by rw [z, erg] at ey; cases ey]; exact ey
          refine ⟨erg, _, rfl, by rw [List.length_append, hal]; rfl, ?_, upd_same, fun c o ec => ?_⟩
          · rw [hjt, List.map_append]
            refine IsL.append (IsL.tk tkc (kD_only _) (IsL.same sdg hacc)) ?_
            have hk5 : Is Hg (.ref t5) (kD (k.1.map fun p => (p.1, ord.idxOf p.2), k.2)) := by
              unfold kD
              have h1 : Is Hg (.ref t4) (.tup ((k.1.map fun p => (p.1, ord.idxOf p.2)).map wayD)) := by
                rw [L2.Is.eq_def]
                exact ⟨t4, bcc, rfl, sg _ _ et4, IsL.same (Same.trans sf sg) hbcc⟩
              have h2 := Is.same sdg hnv
              rw [L2.Is.eq_def]
              refine ⟨t5, _, rfl, et5, ?_⟩
              simp only [L2.IsL]
              exact ⟨h1, h2, trivial⟩
            have h1o := kD_only [(k.1.map fun p => (p.1, ord.idxOf p.2), k.2)]
            refine IsL.tk tkc h1o ?_
            simp only [List.map_cons, List.map_nil, L2.IsL]
            exact ⟨hk5, trivial⟩
          · have hcr : c ≠ r := fun z => by rw [z, hr0] at ec; cases ec
            rw [upd_ne hcr]; exact sdg _ _ (sd _ _ ec)
      · rintro acc σ Hd ⟨v, rfl, hal, hacc, er, sd⟩
        rw [List.length_map, ← tl, List.take_length] at hacc
        walk_at "go"
        exact q r acc ord Hd hrH rp er hacc hp hgT (hfc.same sd) (kc.same sd)
end
abbrev s_law_right : Stmt := top 20
theorem sc_law_right : FnScope ["_law_feed_here", "_law_letters_here", "_law_words", "_law_patterns_here", "_law_wood", "_law_some", "_law_handed", "_law_word_here", "_law_found"] ["_law_feed_here"] (defScope s_law_right) := ⟨rfl, rfl, rfl, by decide +kernel, rfl, by decide +kernel, by decide +kernel⟩
abbrev s_law : Stmt := top 21
theorem sc_law : FnScope ["_law_script"] ["_law_script"] (defScope s_law) := ⟨rfl, rfl, rfl, by decide +kernel, rfl, by decide +kernel, by decide +kernel⟩
def WF (ks : List Kt) : Prop := ∀ k ∈ ks, k.1.length ≤ 1000 ∧ ∀ q ∈ k.1, q.2 < ks.length ∧ q.1 < 128
theorem woodK_wf {ns : List (List Nat)} {gs : List Pat} (hl : ns.length < 60) (hc : ∀ z ∈ ns, ∀ c ∈ z, c < 128) : WF (woodK ns gs) := fun k hk => by
  have hwl : (woodK ns gs).length = ns.length := by unfold woodK; rw [List.length_map, List.length_range]
  unfold woodK at hk
  obtain ⟨i, hi, rfl⟩ := List.mem_map.mp hk
  refine ⟨by have := waysN_len ns (ns.getD i []) ns.length; show (waysN _ _ _).length ≤ 1000; omega, fun q hq => ?_⟩
  obtain ⟨b1, b2, b3⟩ := mem_ways.mp hq
  have e := kid_eq b2
  rw [← b3, getD_lt b1] at e
  exact ⟨by rw [hwl]; exact b1, hc _ (List.getElem_mem b1) _ (by rw [e]; simp)⟩
theorem turn_wf {ks : List Kt} (h : WF ks) {ord : List Nat} (hp : ord.Perm (List.range ks.length)) : WF (turnK ord ks) := fun k hk => by
  have hl : ord.length = ks.length := by rw [hp.length_eq, List.length_range]
  have htl : (turnK ord ks).length = ks.length := by unfold turnK; rw [List.length_map, hl]
  unfold turnK at hk
  obtain ⟨m, hm, rfl⟩ := List.mem_map.mp hk
  have hmk := List.mem_range.mp (hp.mem_iff.mp hm)
  rw [kAt_lt hmk]
  obtain ⟨h1, h2⟩ := h _ (List.getElem_mem hmk)
  refine ⟨by show (List.map _ _).length ≤ 1000; rw [List.length_map]; exact h1, fun q hq => ?_⟩
  obtain ⟨q', hq', rfl⟩ := List.mem_map.mp hq
  obtain ⟨h3, h4⟩ := h2 q' hq'
  refine ⟨?_, h4⟩
  rw [htl, ← hl]
  exact List.idxOf_lt_length_iff.mpr (hp.mem_iff.mpr (List.mem_range.mpr h3))
theorem ok_wood {ks : List Kt} (h : WF ks) : okD (.lst (ks.map kD)) := (Lay.lst (n := 3) fun d hd => by
  obtain ⟨k, hk, rfl⟩ := List.mem_map.mp hd
  obtain ⟨_, h2⟩ := h k hk
  unfold kD
  refine Lay.tup (n := 2) fun e he => ?_
  rcases List.mem_cons.mp he with h1 | h1
  · rw [h1]
    refine Lay.tup (n := 1) fun x hx => ?_
    obtain ⟨q, hq, rfl⟩ := List.mem_map.mp hx
    unfold wayD
    refine Lay.tup (n := 0) fun y hy => ?_
    rcases List.mem_cons.mp hy with h3 | h3
    · rw [h3]
      refine Lay.str fun c hc => ?_
      have : c = q.1 := by simpa using hc
      rw [this]; exact (h2 q hq).2
    · have : y = .int (q.2 : Int) := by simpa using h3
      rw [this]; exact Lay.int
  · have : e = numD k.2 := by simpa using h1
    rw [this]
    cases k.2 with
    | none => exact Lay.non.mono (by decide)
    | some g => exact (Lay.tup (n := 0) Lay.ints).mono (by decide)).ok (by decide)
theorem begs_okc {xs : List Pat} (h : ∀ x ∈ xs, GP x) : ∀ z ∈ begs xs, ∀ c ∈ z, c < 128 := fun z hz => by
  rcases mem_begs.mp hz with rfl | ⟨x, hx, e, h1, h2, rfl⟩
  · exact fun c hc => nomatch hc
  · exact fun c hc => (h x hx).cs c (List.mem_of_mem_take hc)
theorem begs_short {xs : List Pat} (h : ∀ x ∈ xs, x.1.length ≤ 5) (hl : xs.length ≤ 8) : (begs xs).length < 60 := by
  have := len_begA (c := 5) xs [[]] h
  unfold begs
  simp only [List.length_cons, List.length_nil] at this
  have h2 : xs.length * 5 ≤ 8 * 5 := Nat.mul_le_mul_right _ hl
  omega
theorem depL_ints : ∀ ns : List Int, depL (ns.map Dt.int) = 0
  | [] => rfl
  | x :: ns => by simp only [List.map_cons, depL, dep, depL_ints ns]; rfl
theorem widL_ints : ∀ ns : List Int, widL (ns.map Dt.int) = 0
  | [] => rfl
  | x :: ns => by simp only [List.map_cons, widL, wid, widL_ints ns]; rfl
def WoodAt (xs : List Pat) (H : Hp) (a : Addr) (ys : List V) (ks : List Kt) : Prop := H a = some (.lst ys) ∧ L2.IsL H ys (ks.map kD) ∧ WF ks ∧ ∃ nm, GoodW xs ks nm
theorem WoodAt.kept {xs : List Pat} {H H' : Hp} {p a : Addr} {ys : List V} {ks : List Kt} (h : WoodAt xs H a ys ks) (k : Kept p H H') (hp : ∃ a b c : Int, H p = some (.lst [.int a, .int b, .int c])) (hap : a ≠ p) : WoodAt xs H' a ys ks :=
  ⟨k _ _ hap h.1, IsL.tk (IsL_keptT k hp) (kD_only _) h.2.1, h.2.2⟩
def spRight : Sp := fun vs H Q _ => ∃ (p : Addr) (n : Nat), vs = [.ref p] ∧ FeedAt H p n ∧ n + 20000 < feedTop ∧ ∀ H', Kept p H H' → Q (.bl true) H'
def spLaw (K : PySem.W.Frag) : Sp := fun vs H Q _ => ∃ (a : Addr) (ns : List Int), vs = [.ref a] ∧ SqL K H a (ns.map V.int) ∧ ns.length ≤ 63 ∧ ∀ H', Q (.bl true) H'
section
variable {P : Program} {w : World} {K : PySem.W.Frag} {mg : Str → Option Value} {base : Heap} {f : Addr} {fd : FuncData} {tk : Nat → Tok}
theorem ok_law_right (T : Txt mg tk) (F : Fun K "_law_right" "_law_right" s_law_right f fd) (D_law_letters : Dn P w K mg base "_law_letters" 2 ["_law_feed_here"] spLetters) (D_law_word : Dn P w K mg base "_law_word" 2 ["_law_feed_here", "_law_letters_here", "_law_most"] spWord) (D_law_patterns : Dn P w K mg base "_law_patterns" 4 ["_law_feed_here", "_law_letters_here", "_law_words", "_law_most"] spPatterns) (D_wood_of : Dn P w K mg base "wood_of" 2 ["patterns"] spWood) (D_law_turned : Dn P w K mg base "_law_turned" 2 ["_law_feed_here", "_law_wood"] spTurned) (D_wood_values : Dn P w K mg base "wood_values" 3 ["wood", "word"] spWV) (D_law_values : Dn P w K mg base "_law_values" 1 ["_law_patterns_here", "_law_word_here"] spValues) (D_law_alike : Dn P w K mg base "_law_alike" 6 ["_law_found", "_law_due"] (spAlike 6)) : FnOk P w K mg base CX0 7 f fd ["_law_feed_here"] spRight := by
  refine F.ok sc_law_right (fun vs H Q E h => ?_) (fun cdv A outer s H vs Q E hr h => ?_)
  · obtain ⟨p, n, rfl, _⟩ := h
    rfl
  obtain ⟨p, n, rfl, hf, hn, q⟩ := h
  have nd := sc_law_right.nd
  refine ⟨_, (pss_cons (ps_set (i := 1) nd rfl (Or.inl rfl) (pe_callD D_law_letters (hr.mono (by first | decide | omega)) rfl (pa_cons (pv 0) pa_nil)))
    (pss_cons (ps_set (i := 2) nd rfl (Or.inl rfl) (pe_lst (pa_cons (pe_callD D_law_word (hr.mono (by first | decide | omega)) rfl (pa_cons (pv 0) (pa_cons (pv 1) (pa_cons pe_int pa_nil)))) (pa_cons (pe_callD D_law_word (hr.mono (by first | decide | omega)) rfl (pa_cons (pv 0) (pa_cons (pv 1) (pa_cons pe_int pa_nil)))) pa_nil))))
    (pss_cons (ps_set (i := 3) nd rfl (Or.inl rfl) (pe_callD D_law_patterns (hr.mono (by first | decide | omega)) rfl (pa_cons (pv 0) (pa_cons (pv 1) (pa_cons (pv 2) (pa_cons pe_int pa_nil))))))
    (pss_cons (ps_set (i := 4) nd rfl (Or.inl rfl) (pe_callD D_wood_of (hr.mono (by first | decide | omega)) rfl (pa_cons (pe_callTy c_list rfl T.z_list (by decide +kernel) (pa_cons (pv 3) pa_nil)) pa_nil)))
    (pss_cons (ps_for PassesOwn.never rfl (pi_any (K := K) (pe_lst (pa_cons (pv 4) (pa_cons (pe_callD D_law_turned (hr.mono (by first | decide | omega)) rfl (pa_cons (pv 0) (pa_cons (pv 4) pa_nil))) pa_nil)))) (pg_name (i := 5) nd rfl (Or.inl rfl))
     (pss_cons (ps_set (i := 6) nd rfl (Or.inl rfl) (pe_callTy c_list rfl T.z_list (by decide +kernel) (pa_cons (pv 5) pa_nil)))
    (pss_one (ps_for PassesOwn.never rfl (pi_any (K := K) (pe_op o_add (pv 2) (pe_lst (pa_cons (pe_callD D_law_word (hr.mono (by first | decide | omega)) rfl (pa_cons (pv 0) (pa_cons (pv 1) (pa_cons pe_int pa_nil)))) (pa_cons (pe_ix (ix_any (K := K)) (pv 2) pe_int (fun _ _ => rfl)) pa_nil))))) (pg_name (i := 7) nd rfl (Or.inl rfl))
     (pss_cons (ps_set (i := 8) nd rfl (Or.inl rfl) (pe_callD D_wood_values (hr.mono (by first | decide | omega)) rfl (pa_cons (pv 6) (pa_cons (pv 7) pa_nil))))
    (pss_cons (ps_if (PW.pt (pw_or (pt_not (pt_tru (pe_callD D_law_alike (hr.mono (by first | decide | omega)) rfl (pa_cons (pv 8) (pa_cons (pe_callD D_law_values (hr.mono (by first | decide | omega)) rfl (pa_cons (pv 3) (pa_cons (pv 7) pa_nil))) pa_nil))) (fun _ => rfl))) (pw_or1 (pt_cmpR (o_ne hr.units) (pv 6) (pv 5) (nomark _)))))
     (pss_one (ps_ret pe_bl))
     pss_nil)
    (pss_one (ps_expr (pe_bmK (K := K) PySem.F.plainAttrs_list PySem.F.slot_list_insert PySem.F.type_list_insert m_insert2 (pv 8) (pa_cons pe_int (pa_cons pe_int pa_nil)))))))))))
    (pss_one (ps_ret pe_bl))))))), ?_⟩
  rw [show L2.start ["_law_feed_here", "_law_letters_here", "_law_words", "_law_patterns_here", "_law_wood", "_law_some", "_law_handed", "_law_word_here", "_law_found"] [.ref p] = [some (.ref p), none, none, none, none, none, none, none, none] from rfl]
  walk_at "go"
  refine ⟨p, n, rfl, hf, by omega, fun l H1 hl hl1 hl2 hf1 o1 => ?_⟩
  walk_at "go"
  refine ⟨p, n + 3, l, 8, rfl, hf1, by omega, hl, by omega, hl2, by decide, by decide, fun w1 H2 hw10 hw11 hw12 hf2 k2 => ?_⟩
  walk_at "go"
  refine ⟨p, n + 3 + 30, l, 8, rfl, hf2, by omega, hl, by omega, hl2, by decide, by decide, fun w2 H3 hw20 hw21 hw22 hf3 k3 => ?_⟩
  walk_at "go"
  intro wa hwa
  have pwa : p ≠ wa := by obtain ⟨o, e⟩ := hf3.some; exact ne_of_none e hwa
  have k4 := ((o1.kept.trans k2).trans k3).new hwa (.lst [.str (S w1), .str (S w2)])
  have ewa := upd_same (H := H3) (a := wa) (o := .lst [.str (S w1), .str (S w2)])
  have hf4 : FeedAt (upd H3 wa (.lst [.str (S w1), .str (S w2)])) p (n + 3 + 30 + 30) := hf3.new hwa
  generalize upd H3 wa (.lst [.str (S w1), .str (S w2)]) = H4 at k4 ewa hf4 ⊢
  walk_at "go"
  refine ⟨p, n + 3 + 30 + 30, l, wa, [w1, w2], 8, rfl, hf4, by omega, hl, by omega, hl2, ewa, by show 1 ≤ 2; decide, by show 2 ≤ 100; decide, fun z hz => ?_, by decide, pwa.symm, fun pl ysP xs H5 er hys hgp hxl hf5 k5 hr => ?_⟩
  · have : z = w1 ∨ z = w2 := by simpa using hz
    rcases this with rfl | rfl
    · exact ⟨hw10, hw11, by omega⟩
    · exact ⟨hw20, hw21, by omega⟩
  have k05 := k4.trans k5
  have ewa5 := k5 _ _ pwa.symm ewa
  have plp : pl ≠ p := fun z => by obtain ⟨o, e⟩ := hf4.some; rw [z, e] at hr; cases hr
  have hgp1 : ∀ x ∈ xs, GP x := fun x hx => (hgp x hx).1
  have hbl := begs_short (fun x hx => (hgp x hx).2) hxl
  have hf5 : FeedAt H5 p (n + 3000) := hf5.mono (by omega)
  clear k4 k2 k3 o1 hf1 hf2 hf3 hf4 ewa k5 hr hwa
  walk_at "go"
  refine i_listR (seqR_lst er) fun cp hcp => ?_
  have s6 := same_new hcp (.lst ysP)
  have ecp := upd_same (H := H5) (a := cp) (o := .lst ysP)
  generalize upd H5 cp (.lst ysP) = H6 at s6 ecp ⊢
  walk_at "go"
  refine ⟨.ref cp, xs, rfl, ?_, fun x hx => ⟨by have := (hgp1 x hx).le; omega, (hgp1 x hx).len⟩, by omega, by omega, fun wo yw ns H7 hwo ewo hyw hp hN s7 => ?_⟩
  · simp only [Is, patsD]
    exact ⟨cp, ysP, rfl, ecp, IsL.same s6 hys⟩
  have hnl : ns.length < 60 := by rw [hp.length_eq]; exact hbl
  have hno : ∀ z ∈ ns, ∀ c ∈ z, c < 128 := fun z hz => begs_okc hgp1 z (hp.mem_iff.mp hz)
  rw [woodD_eq] at hyw
  have hGK := woodK_good hN hp
  have hWK : WF (woodK ns (grt xs)) := woodK_wf hnl hno
  have hkl : (woodK ns (grt xs)).length < 100 := by unfold woodK; rw [List.length_map, List.length_range]; omega
  generalize woodK ns (grt xs) = ks at hyw hGK hWK hkl
  have s57 := s6.trans s7
  have hf7 : FeedAt H7 p (n + 3000) := hf5.same s57
  have k07 := k05.same s57
  have wop : wo ≠ p := fun z => by obtain ⟨o, e⟩ := hf5.some; have := s6 _ _ e; rw [z] at hwo; rw [hwo] at this; cases this
  have wW : WoodAt xs H7 wo yw ks := ⟨ewo, hyw, hWK, _, hGK⟩
  walk_at "go"
  refine ⟨p, wo, n + 3000, yw, xs, ks, _, rfl, hf7, by omega, wop, ewo, hyw, hGK, hkl, fun k hk => ⟨(hWK k hk).1, fun q hq => ((hWK k hk).2 q hq).1⟩, fun tr yt ord H8 htr trp etr hyt hord hGT hf8 k8 => ?_⟩
  have wW8 := wW.kept k8 (FeedAt.ex hf7) wop
  have wT8 : WoodAt xs H8 tr yt (turnK ord ks) := ⟨etr, hyt, turn_wf hWK hord, _, hGT⟩
  have epl8 := k8 _ _ plp (s57 _ _ er)
  have hys8 : L2.IsL H8 ysP (xs.map patD) := IsL_kept (fun b o e hb => k8 b o hb e) (FeedAt.ex hf7) (IsL.same s57 hys)
  have ewa8 := k8 _ _ pwa.symm (s57 _ _ ewa5)
  have k08 := k07.trans k8
  walk_at "go"
  intro l2 hl2'
  have pl2 : p ≠ l2 := by obtain ⟨o, e⟩ := hf8.some; exact ne_of_none e hl2'
  have s9 := same_new hl2' (.lst [.ref wo, .ref tr])
  have el2 := upd_same (H := H8) (a := l2) (o := .lst [.ref wo, .ref tr])
  have hf9 : FeedAt (upd H8 l2 (.lst [.ref wo, .ref tr])) p (n + 3000 + 200) := hf8.new hl2'
  generalize upd H8 l2 (.lst [.ref wo, .ref tr]) = H9 at s9 el2 hf9 ⊢
  have k09 := k08.same s9
  have epl9 := s9 _ _ epl8
  have ewa9 := s9 _ _ ewa8
  have wt : ∀ {a ys ks}, WoodAt xs H8 a ys ks → WoodAt xs H9 a ys ks := fun h => ⟨s9 _ _ h.1, IsL.same s9 h.2.1, h.2.2⟩
  have wW9 := wt wW8
  have wT9 := wt wT8
  have hys9 := IsL.same s9 hys8
  walk_at "go"
  refine for_list (K := K) (xs := [.ref wo, .ref tr]) (fun i σ H' => ∃ (v5 v6 v7 v8 : Option V), σ = [some (.ref p), some (.str (S l)), some (.ref wa), some (.ref pl), some (.ref wo), v5, v6, v7, v8] ∧ FeedAt H' p (n + 3000 + 200 + 30 * i) ∧ Kept p H9 H')
    ⟨none, none, none, none, rfl, hf9, Kept.refl _ _⟩ (fun i σ H' _ ⟨_, _, _, _, _, _, k⟩ => SqL.of (k _ _ pl2.symm el2)) ?_ ?_
  · rintro i x σ Ha hx ⟨v5, v6, v7, v8, rfl, hfa, ka⟩
    have hi2 : i < 2 := (List.getElem?_eq_some_iff.mp hx).1
    obtain ⟨so, ysS, ksS, rfl, sop, hWS⟩ : ∃ so ysS ksS, x = .ref so ∧ so ≠ p ∧ WoodAt xs H9 so ysS ksS := by
      have hm := List.mem_of_getElem? hx
      simp only [List.mem_cons, List.not_mem_nil, or_false] at hm
      rcases hm with rfl | rfl
      · exact ⟨wo, yw, ks, rfl, wop, wW9⟩
      · exact ⟨tr, yt, _, rfl, trp, wT9⟩
    obtain ⟨eso, hso, hwf, nmS, hGS⟩ := hWS.kept ka (FeedAt.ex hf9) sop
    have okw := ok_wood hwf
    have ewaa := ka _ _ pwa.symm ewa9
    have epla := ka _ _ plp epl9
    have hysa : L2.IsL Ha ysP (xs.map patD) := IsL_kept (fun b o e hb => ka b o hb e) (FeedAt.ex hf9) hys9
    walk_at "go"
    refine i_listR (seqR_lst eso) fun hd hhd => ?_
    have phd : p ≠ hd := by obtain ⟨o, e⟩ := hfa.some; exact ne_of_none e hhd
    have sb := same_new hhd (.lst ysS)
    have ehd := upd_same (H := Ha) (a := hd) (o := .lst ysS)
    have hfb : FeedAt (upd Ha hd (.lst ysS)) p (n + 3000 + 200 + 30 * i) := hfa.new hhd
    generalize upd Ha hd (.lst ysS) = Hb at sb ehd hfb ⊢
    have esob := sb _ _ eso
    have hsob := IsL.same sb hso
    have ewab := sb _ _ ewaa
    have eplb := sb _ _ epla
    have hysb := IsL.same sb hysa
    have kb := ka.same sb
    walk_at "go"
    refine ⟨p, n + 3000 + 200 + 30 * i, l, 20, rfl, hfb, by omega, hl, by omega, hl2, by decide, by decide, fun w3 Hc hw30 hw31 hw32 hfc kc => ?_⟩
    have tkc := IsL_keptT kc (FeedAt.ex hfb)
    have esoc := kc _ _ sop esob
    have hsoc := IsL.tk tkc (kD_only _) hsob
    have ewac := kc _ _ pwa.symm ewab
    have eplc := kc _ _ plp eplb
    have ehdc := kc _ _ phd.symm ehd
    have hysc : L2.IsL Hc ysP (xs.map patD) := IsL_kept (fun b o e hb => kc b o hb e) (FeedAt.ex hfb) hysb
    have kc0 := kb.trans kc
    walk_at "go"
    intro l3 hl3
    have sd := same_new hl3 (.lst [.str (S w3), .str (S w1)])
    have el3 := upd_same (H := Hc) (a := l3) (o := .lst [.str (S w3), .str (S w1)])
    generalize upd Hc l3 (.lst [.str (S w3), .str (S w1)]) = Hd at sd el3 ⊢
    walk_at "go"
    refine i_addL (sd _ _ ewac) el3 (szn (by show 2 + 2 ≤ 1000000; decide)) fun l4 hl4 => ?_
    have se := same_new hl4 (.lst ([.str (S w1), .str (S w2)] ++ [.str (S w3), .str (S w1)]))
    have el4 := upd_same (H := Hd) (a := l4) (o := .lst ([.str (S w1), .str (S w2)] ++ [.str (S w3), .str (S w1)]))
    generalize upd Hd l4 (.lst ([.str (S w1), .str (S w2)] ++ [.str (S w3), .str (S w1)])) = He at se el4 ⊢
    have sce := sd.trans se
    have esoe := sce _ _ esoc
    have hsoe := IsL.same sce hsoc
    have eple := sce _ _ eplc
    have ehde := sce _ _ ehdc
    have hyse := IsL.same sce hysc
    walk_at "go"
    try refine i_anyL (SqL.of el4) ?_
    refine for_list (K := K) (xs := [.str (S w1), .str (S w2)] ++ [.str (S w3), .str (S w1)]) (fun j σ H' => ∃ (v7 v8 : Option V), σ = [some (.ref p), some (.str (S l)), some (.ref wa), some (.ref pl), some (.ref wo), some (.ref so), some (.ref hd), v7, v8] ∧ Same He H')
      ⟨v7, v8, rfl, Same.refl _⟩ (fun j σ H' _ ⟨_, _, _, s⟩ => SqL.of (s _ _ el4)) ?_ ?_
    · rintro j x σ Hf hx ⟨v7, v8, rfl, sf⟩
      obtain ⟨wx, rfl, hwx1, hwx2⟩ : ∃ wx : List Nat, x = .str (S wx) ∧ 1 ≤ wx.length ∧ wx.length ≤ 100 := by
        have hm := List.mem_of_getElem? hx
        simp only [List.mem_append, List.mem_cons, List.not_mem_nil, or_false] at hm
        rcases hm with (rfl | rfl) | (rfl | rfl)
        · exact ⟨w1, rfl, hw11, by omega⟩
        · exact ⟨w2, rfl, hw21, by omega⟩
        · exact ⟨w3, rfl, hw31, by omega⟩
        · exact ⟨w1, rfl, hw11, by omega⟩
      walk_at "go"
      refine ⟨hd, ysS, xs, ksS, nmS, wx, rfl, sf _ _ ehde, IsL.same sf hsoe, hGS, fun k hk => (hwf k hk).1, fun x hx => ⟨(hgp1 x hx).ne, (hgp1 x hx).len⟩, hwx1, hwx2, fun fo Hg hfo efo sg => ?_⟩
      have sfg := sf.trans sg
      walk_at "go"
      refine ⟨.ref pl, xs, wx, rfl, ?_, fun x hx => ⟨(hgp1 x hx).ne, by have := (hgp1 x hx).le; omega, by have := (hgp1 x hx).len; omega⟩, by omega, hwx1, hwx2, fun du Hh hdu edu sh => ?_⟩
      · simp only [Is, patsD]
        exact ⟨pl, ysP, rfl, sfg _ _ eple, IsL.same sfg hyse⟩
      have sfh := sfg.trans sh
      have efoh := sh _ _ efo
      have hvl : (vals xs wx).length ≤ 100 := by rw [vals_length]; omega
      have isv : ∀ {b : Addr}, Hh b = some (.lst ((vals xs wx).map V.int)) → Is Hh (.ref b) (.lst ((vals xs wx).map Dt.int)) := fun {b} e => by
        simp only [Is]; exact ⟨b, _, rfl, e, L2.IsL.ints _ _⟩
      walk_at "go"
      refine ⟨.ref fo, .ref du, .lst ((vals xs wx).map Dt.int), rfl, isv efoh, isv edu, ?_, ?_, fun Hi si => ?_⟩
      · simp only [dep]; rw [depL_ints]; decide
      · simp only [wid]; rw [widL_ints, List.length_map]; omega
      have sfi := sfh.trans si
      walk_at "go"
      refine i_neD (d := .lst (ksS.map kD)) (by simp only [Is]; exact ⟨hd, ysS, rfl, sfi _ _ ehde, IsL.same sfi hsoe⟩) (by simp only [Is]; exact ⟨so, ysS, rfl, sfi _ _ esoe, IsL.same sfi hsoe⟩) okw ?_
      have efoi := si _ _ efoh
      walk_at "go"
      refine i_insL efoi ⟨by decide, by omega, by rw [List.length_map]; omega⟩ ?_
      walk_at "go"
      refine ⟨_, _, rfl, fun b o e => ?_⟩
      have hbf : b ≠ fo := fun z => by
        have := sf _ _ e
        rw [z, hfo] at this; cases this
      rw [upd_ne hbf]
      exact sfi _ _ e
    · rintro σ Hf ⟨v7, v8, rfl, sf⟩
      walk_at "go"
      exact ⟨_, _, _, _, rfl, (hfc.same (sce.trans sf)).mono (by omega), kc0.same (sce.trans sf)⟩
  · rintro σ Ha ⟨v5, v6, v7, v8, rfl, hfa, ka⟩
    walk_at "go"
    exact q Ha (k09.trans ka)
theorem ok_law (T : Txt mg tk) (F : Fun K "law" "law" s_law f fd) (D_law_right : Dn P w K mg base "_law_right" 7 ["_law_feed_here"] spRight) (D_law_feed : Dn P w K mg base "_law_feed" 1 ["_law_script", "_law_k"] (spFeed K)) : FnOk P w K mg base CX0 8 f fd ["_law_script"] (spLaw K) := by
  refine F.ok sc_law (fun vs H Q E h => ?_) (fun cdv A outer s H vs Q E hr h => ?_)
  · obtain ⟨a, ns, rfl, _⟩ := h
    rfl
  obtain ⟨a, ns, rfl, hS, hlen, q⟩ := h
  have nd := sc_law.nd
  refine ⟨_, (pss_one (ps_ret (pe_callB (c_all rfl) rfl T.z_all (by decide +kernel) (pa_cons (pe_comp ["_law_script", "_law_k"] [some 0, none] rfl (by kernel_rfl) rfl (pi_range1 rfl T.z_range (pa_cons (pe_op o_add pe_int (pe_callB (c_min rfl) rfl T.z_min (by decide +kernel) (pa_cons pe_int (pa_cons (pe_callB (c_len (K := K)) rfl T.z_len (by decide +kernel) (pa_cons (pv 0) pa_nil)) pa_nil)))) pa_nil)) (fun _ _ _ _ => (pg_name (i := 1) (show (["_law_script", "_law_k"] : List Str).Nodup by decide +kernel) rfl (Or.inl rfl) (Or.inr rfl))) (fun _ _ _ _ => pts_nil) (fun _ _ _ _ => (pe_callD D_law_right (hr.mono (by first | decide | omega)) rfl (pa_cons (pe_callD D_law_feed (hr.mono (by first | decide | omega)) rfl (pa_cons (pv 0) (pa_cons (pv 1) pa_nil))) pa_nil)))) pa_nil)))), ?_⟩
  rw [show L2.start ["_law_script"] [.ref a] = [some (.ref a)] from rfl]
  walk_at "go"
  rw [List.length_map]
  obtain ⟨m, hm, hm0, hm1⟩ : ∃ m : Int, (if ((ns.length : Nat) : Int) < 20 then ((ns.length : Nat) : Int) else 20) = m ∧ 0 ≤ m ∧ m ≤ 20 := ⟨_, rfl, by split <;> omega, by split <;> omega⟩
  rw [hm]
  walk_at "go"
  intro r hr0
  refine comp_range (fun i acc σ H' => ∃ v, σ = [some (.ref a), v] ∧ acc = (List.replicate i true).map V.bl ∧ Same H H' ∧ H' r = some (.lst acc))
    ⟨none, rfl, rfl, same_new hr0 _, upd_same⟩ (fun i acc σ H' ⟨_, _, e, _, e2⟩ => ⟨e2, by rw [e]; simp⟩) (szn (by omega)) ?_ ?_
  · rintro i acc σ H' hi ⟨v, rfl, rfl, s8, e8⟩
    walk_at "go"
    refine ⟨a, ns, _, rfl, s8.seq hS, by omega, by omega, fun p H9 hp hf9 o9 => ?_⟩
    walk_at "go"
    have pr : r ≠ p := ne_of_none e8 hp
    refine ⟨p, 0, rfl, hf9, by decide, fun H10 k10 => ?_⟩
    refine ⟨k10 _ _ pr ((o9 r pr).trans e8), _, rfl, ?_, fun b o e => ?_, upd_same⟩
    · rw [List.replicate_succ', List.map_append]; rfl
    · have e1 := s8 b o e
      have bp : b ≠ p := ne_of_none e1 hp
      by_cases z : b = r
      · subst z
        rw [hr0] at e; cases e
      · rw [upd_ne z]; exact k10 b o bp ((o9 b bp).trans e1)
  · rintro acc σ H' ⟨v, rfl, rfl, s8, e8⟩
    refine i_allL (lstR_of e8) ?_
    walk_at "go"
    simp only [List.all_replicate]
    have e5 : ∀ k : Nat, (if k = 0 then true else id true) = true := fun k => by split <;> rfl
    rw [e5]
    exact q H'
end
theorem all_mk {l : PySem.W.OpenLaw} {w : World} {K : PySem.W.Frag} {h : Heap} {mg : Str → Option Value} {fa f0 f1 f2 f3 f4 f5 f6 f7 f8 f9 f10 f11 f12 f13 f14 f15 f16 f17 f18 : Addr} (X : K.In h) (G : h.Ns mainGlobals mg) (hfa : mg "law" = some (.ref fa))
    {od0 an0 : Option Addr} {sl0 : Array (Option Value)} {oc0 kV0 dc0 pm0 cd0 ct0 : Value}
    (a0 : PySem.W.nsIn K mainGlobals "values_by_fits" = some (some (.ref f0))) (l0 : K.lookup f0 = some ⟨oc0, od0, .func (PySem.W.fnOf "values_by_fits" "values_by_fits" (defArgs s_values_by_fits) (defBody s_values_by_fits) (defScope s_values_by_fits) .none kV0 dc0 pm0 an0 cd0 ct0), sl0⟩) (c_0 : PySem.W.codeIn K cd0 "values_by_fits" = true) (k0 : PySem.W.keepIn K (.ref f0) = true)
    {od1 an1 : Option Addr} {sl1 : Array (Option Value)} {oc1 kV1 dc1 pm1 cd1 ct1 : Value}
    (a1 : PySem.W.nsIn K mainGlobals "beginnings" = some (some (.ref f1))) (l1 : K.lookup f1 = some ⟨oc1, od1, .func (PySem.W.fnOf "beginnings" "beginnings" (defArgs s_beginnings) (defBody s_beginnings) (defScope s_beginnings) .none kV1 dc1 pm1 an1 cd1 ct1), sl1⟩) (c_1 : PySem.W.codeIn K cd1 "beginnings" = true) (k1 : PySem.W.keepIn K (.ref f1) = true)
    {od2 an2 : Option Addr} {sl2 : Array (Option Value)} {oc2 kV2 dc2 pm2 cd2 ct2 : Value}
    (a2 : PySem.W.nsIn K mainGlobals "greatest_numbers" = some (some (.ref f2))) (l2 : K.lookup f2 = some ⟨oc2, od2, .func (PySem.W.fnOf "greatest_numbers" "greatest_numbers" (defArgs s_greatest_numbers) (defBody s_greatest_numbers) (defScope s_greatest_numbers) .none kV2 dc2 pm2 an2 cd2 ct2), sl2⟩) (c_2 : PySem.W.codeIn K cd2 "greatest_numbers" = true) (k2 : PySem.W.keepIn K (.ref f2) = true)
    {od3 an3 : Option Addr} {sl3 : Array (Option Value)} {oc3 kV3 dc3 pm3 cd3 ct3 : Value}
    (a3 : PySem.W.nsIn K mainGlobals "wood_of" = some (some (.ref f3))) (l3 : K.lookup f3 = some ⟨oc3, od3, .func (PySem.W.fnOf "wood_of" "wood_of" (defArgs s_wood_of) (defBody s_wood_of) (defScope s_wood_of) .none kV3 dc3 pm3 an3 cd3 ct3), sl3⟩) (c_3 : PySem.W.codeIn K cd3 "wood_of" = true) (k3 : PySem.W.keepIn K (.ref f3) = true)
    {od4 an4 : Option Addr} {sl4 : Array (Option Value)} {oc4 kV4 dc4 pm4 cd4 ct4 : Value}
    (a4 : PySem.W.nsIn K mainGlobals "number_by_way" = some (some (.ref f4))) (l4 : K.lookup f4 = some ⟨oc4, od4, .func (PySem.W.fnOf "number_by_way" "number_by_way" (defArgs s_number_by_way) (defBody s_number_by_way) (defScope s_number_by_way) .none kV4 dc4 pm4 an4 cd4 ct4), sl4⟩) (c_4 : PySem.W.codeIn K cd4 "number_by_way" = true) (k4 : PySem.W.keepIn K (.ref f4) = true)
    {od5 an5 : Option Addr} {sl5 : Array (Option Value)} {oc5 kV5 dc5 pm5 cd5 ct5 : Value}
    (a5 : PySem.W.nsIn K mainGlobals "fits_from" = some (some (.ref f5))) (l5 : K.lookup f5 = some ⟨oc5, od5, .func (PySem.W.fnOf "fits_from" "fits_from" (defArgs s_fits_from) (defBody s_fits_from) (defScope s_fits_from) .none kV5 dc5 pm5 an5 cd5 ct5), sl5⟩) (c_5 : PySem.W.codeIn K cd5 "fits_from" = true) (k5 : PySem.W.keepIn K (.ref f5) = true)
    {od6 an6 : Option Addr} {sl6 : Array (Option Value)} {oc6 kV6 dc6 pm6 cd6 ct6 : Value}
    (a6 : PySem.W.nsIn K mainGlobals "wood_values" = some (some (.ref f6))) (l6 : K.lookup f6 = some ⟨oc6, od6, .func (PySem.W.fnOf "wood_values" "wood_values" (defArgs s_wood_values) (defBody s_wood_values) (defScope s_wood_values) .none kV6 dc6 pm6 an6 cd6 ct6), sl6⟩) (c_6 : PySem.W.codeIn K cd6 "wood_values" = true) (k6 : PySem.W.keepIn K (.ref f6) = true)
    {od7 an7 : Option Addr} {sl7 : Array (Option Value)} {oc7 kV7 dc7 pm7 cd7 ct7 : Value}
    (a7 : PySem.W.nsIn K mainGlobals "_law_feed" = some (some (.ref f7))) (l7 : K.lookup f7 = some ⟨oc7, od7, .func (PySem.W.fnOf "_law_feed" "_law_feed" (defArgs s_law_feed) (defBody s_law_feed) (defScope s_law_feed) .none kV7 dc7 pm7 an7 cd7 ct7), sl7⟩) (c_7 : PySem.W.codeIn K cd7 "_law_feed" = true) (k7 : PySem.W.keepIn K (.ref f7) = true)
    {od8 an8 : Option Addr} {sl8 : Array (Option Value)} {oc8 kV8 dc8 pm8 cd8 ct8 : Value}
    (a8 : PySem.W.nsIn K mainGlobals "_law_next" = some (some (.ref f8))) (l8 : K.lookup f8 = some ⟨oc8, od8, .func (PySem.W.fnOf "_law_next" "_law_next" (defArgs s_law_next) (defBody s_law_next) (defScope s_law_next) .none kV8 dc8 pm8 an8 cd8 ct8), sl8⟩) (c_8 : PySem.W.codeIn K cd8 "_law_next" = true) (k8 : PySem.W.keepIn K (.ref f8) = true)
    {od9 an9 : Option Addr} {sl9 : Array (Option Value)} {oc9 kV9 dc9 pm9 cd9 ct9 : Value}
    (a9 : PySem.W.nsIn K mainGlobals "_law_alike" = some (some (.ref f9))) (l9 : K.lookup f9 = some ⟨oc9, od9, .func (PySem.W.fnOf "_law_alike" "_law_alike" (defArgs s_law_alike) (defBody s_law_alike) (defScope s_law_alike) .none kV9 dc9 pm9 an9 cd9 ct9), sl9⟩) (c_9 : PySem.W.codeIn K cd9 "_law_alike" = true) (k9 : PySem.W.keepIn K (.ref f9) = true)
    {od10 an10 : Option Addr} {sl10 : Array (Option Value)} {oc10 kV10 dc10 pm10 cd10 ct10 : Value}
    (a10 : PySem.W.nsIn K mainGlobals "_law_letters" = some (some (.ref f10))) (l10 : K.lookup f10 = some ⟨oc10, od10, .func (PySem.W.fnOf "_law_letters" "_law_letters" (defArgs s_law_letters) (defBody s_law_letters) (defScope s_law_letters) .none kV10 dc10 pm10 an10 cd10 ct10), sl10⟩) (c_10 : PySem.W.codeIn K cd10 "_law_letters" = true) (k10 : PySem.W.keepIn K (.ref f10) = true)
    {od11 an11 : Option Addr} {sl11 : Array (Option Value)} {oc11 kV11 dc11 pm11 cd11 ct11 : Value}
    (a11 : PySem.W.nsIn K mainGlobals "_law_word" = some (some (.ref f11))) (l11 : K.lookup f11 = some ⟨oc11, od11, .func (PySem.W.fnOf "_law_word" "_law_word" (defArgs s_law_word) (defBody s_law_word) (defScope s_law_word) .none kV11 dc11 pm11 an11 cd11 ct11), sl11⟩) (c_11 : PySem.W.codeIn K cd11 "_law_word" = true) (k11 : PySem.W.keepIn K (.ref f11) = true)
    {od12 an12 : Option Addr} {sl12 : Array (Option Value)} {oc12 kV12 dc12 pm12 cd12 ct12 : Value}
    (a12 : PySem.W.nsIn K mainGlobals "_law_numbers" = some (some (.ref f12))) (l12 : K.lookup f12 = some ⟨oc12, od12, .func (PySem.W.fnOf "_law_numbers" "_law_numbers" (defArgs s_law_numbers) (defBody s_law_numbers) (defScope s_law_numbers) .none kV12 dc12 pm12 an12 cd12 ct12), sl12⟩) (c_12 : PySem.W.codeIn K cd12 "_law_numbers" = true) (k12 : PySem.W.keepIn K (.ref f12) = true)
    {od13 an13 : Option Addr} {sl13 : Array (Option Value)} {oc13 kV13 dc13 pm13 cd13 ct13 : Value}
    (a13 : PySem.W.nsIn K mainGlobals "_law_pattern" = some (some (.ref f13))) (l13 : K.lookup f13 = some ⟨oc13, od13, .func (PySem.W.fnOf "_law_pattern" "_law_pattern" (defArgs s_law_pattern) (defBody s_law_pattern) (defScope s_law_pattern) .none kV13 dc13 pm13 an13 cd13 ct13), sl13⟩) (c_13 : PySem.W.codeIn K cd13 "_law_pattern" = true) (k13 : PySem.W.keepIn K (.ref f13) = true)
    {od14 an14 : Option Addr} {sl14 : Array (Option Value)} {oc14 kV14 dc14 pm14 cd14 ct14 : Value}
    (a14 : PySem.W.nsIn K mainGlobals "_law_patterns" = some (some (.ref f14))) (l14 : K.lookup f14 = some ⟨oc14, od14, .func (PySem.W.fnOf "_law_patterns" "_law_patterns" (defArgs s_law_patterns) (defBody s_law_patterns) (defScope s_law_patterns) .none kV14 dc14 pm14 an14 cd14 ct14), sl14⟩) (c_14 : PySem.W.codeIn K cd14 "_law_patterns" = true) (k14 : PySem.W.keepIn K (.ref f14) = true)
    {od15 an15 : Option Addr} {sl15 : Array (Option Value)} {oc15 kV15 dc15 pm15 cd15 ct15 : Value}
    (a15 : PySem.W.nsIn K mainGlobals "_law_values" = some (some (.ref f15))) (l15 : K.lookup f15 = some ⟨oc15, od15, .func (PySem.W.fnOf "_law_values" "_law_values" (defArgs s_law_values) (defBody s_law_values) (defScope s_law_values) .none kV15 dc15 pm15 an15 cd15 ct15), sl15⟩) (c_15 : PySem.W.codeIn K cd15 "_law_values" = true) (k15 : PySem.W.keepIn K (.ref f15) = true)
    {od16 an16 : Option Addr} {sl16 : Array (Option Value)} {oc16 kV16 dc16 pm16 cd16 ct16 : Value}
    (a16 : PySem.W.nsIn K mainGlobals "_law_turned" = some (some (.ref f16))) (l16 : K.lookup f16 = some ⟨oc16, od16, .func (PySem.W.fnOf "_law_turned" "_law_turned" (defArgs s_law_turned) (defBody s_law_turned) (defScope s_law_turned) .none kV16 dc16 pm16 an16 cd16 ct16), sl16⟩) (c_16 : PySem.W.codeIn K cd16 "_law_turned" = true) (k16 : PySem.W.keepIn K (.ref f16) = true)
    {od17 an17 : Option Addr} {sl17 : Array (Option Value)} {oc17 kV17 dc17 pm17 cd17 ct17 : Value}
    (a17 : PySem.W.nsIn K mainGlobals "_law_right" = some (some (.ref f17))) (l17 : K.lookup f17 = some ⟨oc17, od17, .func (PySem.W.fnOf "_law_right" "_law_right" (defArgs s_law_right) (defBody s_law_right) (defScope s_law_right) .none kV17 dc17 pm17 an17 cd17 ct17), sl17⟩) (c_17 : PySem.W.codeIn K cd17 "_law_right" = true) (k17 : PySem.W.keepIn K (.ref f17) = true)
    {od18 an18 : Option Addr} {sl18 : Array (Option Value)} {oc18 kV18 dc18 pm18 cd18 ct18 : Value}
    (a18 : PySem.W.nsIn K mainGlobals "law" = some (some (.ref f18))) (l18 : K.lookup f18 = some ⟨oc18, od18, .func (PySem.W.fnOf "law" "law" (defArgs s_law) (defBody s_law) (defScope s_law) .none kV18 dc18 pm18 an18 cd18 ct18), sl18⟩) (c_18 : PySem.W.codeIn K cd18 "law" = true) (k18 : PySem.W.keepIn K (.ref f18) = true)
    (z_len : PySem.W.nsIn K mainGlobals "len" = some none)
    (z_abs : PySem.W.nsIn K mainGlobals "abs" = some none)
    (z_all : PySem.W.nsIn K mainGlobals "all" = some none)
    (z_range : PySem.W.nsIn K mainGlobals "range" = some none)
    (z_enumerate : PySem.W.nsIn K mainGlobals "enumerate" = some none)
    (z_isinstance : PySem.W.nsIn K mainGlobals "isinstance" = some none)
    (z_tuple : PySem.W.nsIn K mainGlobals "tuple" = some none)
    (z_list : PySem.W.nsIn K mainGlobals "list" = some none)
    (z_bool : PySem.W.nsIn K mainGlobals "bool" = some none)
    (z_str : PySem.W.nsIn K mainGlobals "str" = some none)
    (z_int : PySem.W.nsIn K mainGlobals "int" = some none)
    (z_min : PySem.W.nsIn K mainGlobals "min" = some none)
    (z_max : PySem.W.nsIn K mainGlobals "max" = some none)
    (z_sorted : PySem.W.nsIn K mainGlobals "sorted" = some none)
    (z_zip : PySem.W.nsIn K mainGlobals "zip" = some none)
    : ∃ fd : FuncData, (∀ (s : Shared) (v : Value), BindsTo s fd ⟨[v], []⟩ [("_law_script", v)]) ∧ ∀ base : Heap, K.In base → base.Ns mainGlobals mg → FnOk l.prog w K mg base CX0 8 fa fd ["_law_script"] (spLaw K) := by
  have e := hfa.symm.trans (PySem.W.mg_of X G a18)
  cases e
  have T : Txt mg (fun i => ([] : List Tok).getD i 0) := ⟨PySem.W.mg_none_of X G z_len, PySem.W.mg_none_of X G z_abs, PySem.W.mg_none_of X G z_all, PySem.W.mg_none_of X G z_range, PySem.W.mg_none_of X G z_enumerate, PySem.W.mg_none_of X G z_isinstance, PySem.W.mg_none_of X G z_tuple, PySem.W.mg_none_of X G z_list, PySem.W.mg_none_of X G z_bool, PySem.W.mg_none_of X G z_str, PySem.W.mg_none_of X G z_int, PySem.W.mg_none_of X G z_min, PySem.W.mg_none_of X G z_max, PySem.W.mg_none_of X G z_sorted, PySem.W.mg_none_of X G z_zip⟩
  have F_values_by_fits := fun_mk (st := s_values_by_fits) l0 c_0 k0
  have b_values_by_fits := F_values_by_fits.binds (ps := ["fits", "word"]) fun _ _ _ _ _ _ us hl => match us, hl with | [_, _], _ => rfl
  have m_values_by_fits := PySem.W.mg_of X G a0
  have F_beginnings := fun_mk (st := s_beginnings) l1 c_1 k1
  have b_beginnings := F_beginnings.binds (ps := ["patterns"]) fun _ _ _ _ _ _ us hl => match us, hl with | [_], _ => rfl
  have m_beginnings := PySem.W.mg_of X G a1
  have F_greatest_numbers := fun_mk (st := s_greatest_numbers) l2 c_2 k2
  have b_greatest_numbers := F_greatest_numbers.binds (ps := ["patterns"]) fun _ _ _ _ _ _ us hl => match us, hl with | [_], _ => rfl
  have m_greatest_numbers := PySem.W.mg_of X G a2
  have F_wood_of := fun_mk (st := s_wood_of) l3 c_3 k3
  have b_wood_of := F_wood_of.binds (ps := ["patterns"]) fun _ _ _ _ _ _ us hl => match us, hl with | [_], _ => rfl
  have m_wood_of := PySem.W.mg_of X G a3
  have F_number_by_way := fun_mk (st := s_number_by_way) l4 c_4 k4
  have b_number_by_way := F_number_by_way.binds (ps := ["knot", "sign"]) fun _ _ _ _ _ _ us hl => match us, hl with | [_, _], _ => rfl
  have m_number_by_way := PySem.W.mg_of X G a4
  have F_fits_from := fun_mk (st := s_fits_from) l5 c_5 k5
  have b_fits_from := F_fits_from.binds (ps := ["wood", "framed", "begin"]) fun _ _ _ _ _ _ us hl => match us, hl with | [_, _, _], _ => rfl
  have m_fits_from := PySem.W.mg_of X G a5
  have F_wood_values := fun_mk (st := s_wood_values) l6 c_6 k6
  have b_wood_values := F_wood_values.binds (ps := ["wood", "word"]) fun _ _ _ _ _ _ us hl => match us, hl with | [_, _], _ => rfl
  have m_wood_values := PySem.W.mg_of X G a6
  have F_law_feed := fun_mk (st := s_law_feed) l7 c_7 k7
  have b_law_feed := F_law_feed.binds (ps := ["_law_script", "_law_k"]) fun _ _ _ _ _ _ us hl => match us, hl with | [_, _], _ => rfl
  have m_law_feed := PySem.W.mg_of X G a7
  have F_law_next := fun_mk (st := s_law_next) l8 c_8 k8
  have b_law_next := F_law_next.binds (ps := ["_law_feed_here", "_law_many"]) fun _ _ _ _ _ _ us hl => match us, hl with | [_, _], _ => rfl
  have m_law_next := PySem.W.mg_of X G a8
  have F_law_alike := fun_mk (st := s_law_alike) l9 c_9 k9
  have b_law_alike := F_law_alike.binds (ps := ["_law_found", "_law_due"]) fun _ _ _ _ _ _ us hl => match us, hl with | [_, _], _ => rfl
  have m_law_alike := PySem.W.mg_of X G a9
  have F_law_letters := fun_mk (st := s_law_letters) l10 c_10 k10
  have b_law_letters := F_law_letters.binds (ps := ["_law_feed_here"]) fun _ _ _ _ _ _ us hl => match us, hl with | [_], _ => rfl
  have m_law_letters := PySem.W.mg_of X G a10
  have F_law_word := fun_mk (st := s_law_word) l11 c_11 k11
  have b_law_word := F_law_word.binds (ps := ["_law_feed_here", "_law_letters_here", "_law_most"]) fun _ _ _ _ _ _ us hl => match us, hl with | [_, _, _], _ => rfl
  have m_law_word := PySem.W.mg_of X G a11
  have F_law_numbers := fun_mk (st := s_law_numbers) l12 c_12 k12
  have b_law_numbers := F_law_numbers.binds (ps := ["_law_feed_here", "_law_signs", "_law_few"]) fun _ _ _ _ _ _ us hl => match us, hl with | [_, _, _], _ => rfl
  have m_law_numbers := PySem.W.mg_of X G a12
  have F_law_pattern := fun_mk (st := s_law_pattern) l13 c_13 k13
  have b_law_pattern := F_law_pattern.binds (ps := ["_law_feed_here", "_law_letters_here", "_law_word_here", "_law_most"]) fun _ _ _ _ _ _ us hl => match us, hl with | [_, _, _, _], _ => rfl
  have m_law_pattern := PySem.W.mg_of X G a13
  have F_law_patterns := fun_mk (st := s_law_patterns) l14 c_14 k14
  have b_law_patterns := F_law_patterns.binds (ps := ["_law_feed_here", "_law_letters_here", "_law_words", "_law_most"]) fun _ _ _ _ _ _ us hl => match us, hl with | [_, _, _, _], _ => rfl
  have m_law_patterns := PySem.W.mg_of X G a14
  have F_law_values := fun_mk (st := s_law_values) l15 c_15 k15
  have b_law_values := F_law_values.binds (ps := ["_law_patterns_here", "_law_word_here"]) fun _ _ _ _ _ _ us hl => match us, hl with | [_, _], _ => rfl
  have m_law_values := PySem.W.mg_of X G a15
  have F_law_turned := fun_mk (st := s_law_turned) l16 c_16 k16
  have b_law_turned := F_law_turned.binds (ps := ["_law_feed_here", "_law_wood"]) fun _ _ _ _ _ _ us hl => match us, hl with | [_, _], _ => rfl
  have m_law_turned := PySem.W.mg_of X G a16
  have F_law_right := fun_mk (st := s_law_right) l17 c_17 k17
  have b_law_right := F_law_right.binds (ps := ["_law_feed_here"]) fun _ _ _ _ _ _ us hl => match us, hl with | [_], _ => rfl
  have m_law_right := PySem.W.mg_of X G a17
  have F_law := fun_mk (st := s_law) l18 c_18 k18
  have b_law := F_law.binds (ps := ["_law_script"]) fun _ _ _ _ _ _ us hl => match us, hl with | [_], _ => rfl
  have m_law := PySem.W.mg_of X G a18
  refine ⟨PySem.W.fnOf "law" "law" (defArgs s_law) (defBody s_law) (defScope s_law) .none kV18 dc18 pm18 an18 cd18 ct18, fun s v => .of_eq rfl, fun base _ _ => ?_⟩
  have D_values_by_fits : Dn l.prog w K mg base "values_by_fits" 1 ["fits", "word"] spByFits := ⟨_, _, m_values_by_fits, F_values_by_fits.kp, b_values_by_fits, ok_values_by_fits T F_values_by_fits⟩
  have D_beginnings : Dn l.prog w K mg base "beginnings" 1 ["patterns"] spBegs := ⟨_, _, m_beginnings, F_beginnings.kp, b_beginnings, ok_beginnings T F_beginnings⟩
  have D_greatest_numbers : Dn l.prog w K mg base "greatest_numbers" 1 ["patterns"] spGrt := ⟨_, _, m_greatest_numbers, F_greatest_numbers.kp, b_greatest_numbers, ok_greatest_numbers T F_greatest_numbers⟩
  have D_wood_of : Dn l.prog w K mg base "wood_of" 2 ["patterns"] spWood := ⟨_, _, m_wood_of, F_wood_of.kp, b_wood_of, ok_wood_of T F_wood_of D_beginnings D_greatest_numbers⟩
  have D_number_by_way : Dn l.prog w K mg base "number_by_way" 1 ["knot", "sign"] spNbw := ⟨_, _, m_number_by_way, F_number_by_way.kp, b_number_by_way, ok_number_by_way T F_number_by_way⟩
  have D_fits_from : Dn l.prog w K mg base "fits_from" 2 ["wood", "framed", "begin"] spFrom := ⟨_, _, m_fits_from, F_fits_from.kp, b_fits_from, ok_fits_from T F_fits_from D_number_by_way⟩
  have D_wood_values : Dn l.prog w K mg base "wood_values" 3 ["wood", "word"] spWV := ⟨_, _, m_wood_values, F_wood_values.kp, b_wood_values, ok_wood_values T F_wood_values D_fits_from D_values_by_fits⟩
  have D_law_feed : Dn l.prog w K mg base "_law_feed" 1 ["_law_script", "_law_k"] (spFeed K) := ⟨_, _, m_law_feed, F_law_feed.kp, b_law_feed, ok_law_feed T F_law_feed⟩
  have D_law_next : Dn l.prog w K mg base "_law_next" 1 ["_law_feed_here", "_law_many"] spNext := ⟨_, _, m_law_next, F_law_next.kp, b_law_next, ok_law_next F_law_next⟩
  have D_law_alike : Dn l.prog w K mg base "_law_alike" 6 ["_law_found", "_law_due"] (spAlike 6) := ⟨_, _, m_law_alike, F_law_alike.kp, b_law_alike, ok_law_alike T F_law_alike b_law_alike m_law_alike 6⟩
  have D_law_letters : Dn l.prog w K mg base "_law_letters" 2 ["_law_feed_here"] spLetters := ⟨_, _, m_law_letters, F_law_letters.kp, b_law_letters, ok_law_letters T F_law_letters D_law_next⟩
  have D_law_word : Dn l.prog w K mg base "_law_word" 2 ["_law_feed_here", "_law_letters_here", "_law_most"] spWord := ⟨_, _, m_law_word, F_law_word.kp, b_law_word, ok_law_word T F_law_word D_law_next⟩
  have D_law_numbers : Dn l.prog w K mg base "_law_numbers" 2 ["_law_feed_here", "_law_signs", "_law_few"] spNumbers := ⟨_, _, m_law_numbers, F_law_numbers.kp, b_law_numbers, ok_law_numbers T F_law_numbers D_law_next⟩
  have D_law_pattern : Dn l.prog w K mg base "_law_pattern" 3 ["_law_feed_here", "_law_letters_here", "_law_word_here", "_law_most"] spPattern := ⟨_, _, m_law_pattern, F_law_pattern.kp, b_law_pattern, ok_law_pattern T F_law_pattern D_law_next D_law_word D_law_numbers⟩
  have D_law_patterns : Dn l.prog w K mg base "_law_patterns" 4 ["_law_feed_here", "_law_letters_here", "_law_words", "_law_most"] spPatterns := ⟨_, _, m_law_patterns, F_law_patterns.kp, b_law_patterns, ok_law_patterns T F_law_patterns D_law_next D_law_pattern⟩
  have D_law_values : Dn l.prog w K mg base "_law_values" 1 ["_law_patterns_here", "_law_word_here"] spValues := ⟨_, _, m_law_values, F_law_values.kp, b_law_values, ok_law_values T F_law_values⟩
  have D_law_turned : Dn l.prog w K mg base "_law_turned" 2 ["_law_feed_here", "_law_wood"] spTurned := ⟨_, _, m_law_turned, F_law_turned.kp, b_law_turned, ok_law_turned T F_law_turned D_law_next⟩
  have D_law_right : Dn l.prog w K mg base "_law_right" 7 ["_law_feed_here"] spRight := ⟨_, _, m_law_right, F_law_right.kp, b_law_right, ok_law_right T F_law_right D_law_letters D_law_word D_law_patterns D_wood_of D_law_turned D_wood_values D_law_values D_law_alike⟩
  exact ok_law T F_law D_law_right D_law_feed
theorem walk {l : PySem.W.OpenLaw} {q : Program} {loose : List Str} {XP : (Str → Option Value) → Heap → Prop} {YP : World → Heap → Prop} {d : DefRec} {K : Params → PySem.W.Frag} (hn : l.most = some 63) (hdf : d.params.defaults = [])
    (hY : ∀ (w : World) (h : Heap), YP w h → (K w.params).In h)
    (F : ∀ (w : World) (mg : Str → Option Value) (fa : Addr) (h : Heap), (K w.params).In h → h.Ns mainGlobals mg → mg d.name = some (.ref fa) →
      ∃ fd : FuncData, (∀ (s : Shared) (u : Value), BindsTo s fd ⟨[u], []⟩ [("_law_script", u)]) ∧ ∀ base : Heap, (K w.params).In base → base.Ns mainGlobals mg → FnOk l.prog w (K w.params) mg base CX0 8 fa fd ["_law_script"] (spLaw (K w.params))) :
    PySem.W.WalkO q loose XP YP l.row.toRowW d [] (fun f vs => PySem.call f vs) :=
  L2.walk_of (n := 63) (k := 8) (x := "_law_script") (CX := fun _ => CX0) (sp := fun w => spLaw (K w.params)) hn (by decide) hdf ⟨rfl, by decide, by decide⟩ hY F (fun _ _ a ns hl _ hS => ⟨a, ns, rfl, hS, hl, fun _ => rfl⟩) fun _ _ _ _ _ z => z
end K21
open PySem PySem.W PyProof.Rows
set_option maxRecDepth 100000 in
set_option maxHeartbeats 0 in
theorem PySem.Challenge.cw_breakwords_k21_values_by_a_wood_holds : PySem.Challenge.rw_breakwords_k21_values_by_a_wood.Holds := by
  w_on; o_law; k_head; (case hw => w_witness2)
  k_fill
  refine K21.walk (l := PySem.Challenge.rw_breakwords_k21_values_by_a_wood) rfl rfl (fun w h Y => PySem.W.kIn_of Y) ?F
  case F =>
    intro w mg fa h KX G hmg
    refine' K21.all_mk KX G hmg ?a0 ?l0 ?c_0 ?k0 ?a1 ?l1 ?c_1 ?k1 ?a2 ?l2 ?c_2 ?k2 ?a3 ?l3 ?c_3 ?k3 ?a4 ?l4 ?c_4 ?k4 ?a5 ?l5 ?c_5 ?k5 ?a6 ?l6 ?c_6 ?k6 ?a7 ?l7 ?c_7 ?k7 ?a8 ?l8 ?c_8 ?k8 ?a9 ?l9 ?c_9 ?k9 ?a10 ?l10 ?c_10 ?k10 ?a11 ?l11 ?c_11 ?k11 ?a12 ?l12 ?c_12 ?k12 ?a13 ?l13 ?c_13 ?k13 ?a14 ?l14 ?c_14 ?k14 ?a15 ?l15 ?c_15 ?k15 ?a16 ?l16 ?c_16 ?k16 ?a17 ?l17 ?c_17 ?k17 ?a18 ?l18 ?c_18 ?k18 ?z_len ?z_abs ?z_all ?z_range ?z_enumerate ?z_isinstance ?z_tuple ?z_list ?z_bool ?z_str ?z_int ?z_min ?z_max ?z_sorted ?z_zip
    (case a0 => k_is)
    (case l0 => k_is)
    (case c_0 => k_is)
    (case k0 => k_is)
    (case a1 => k_is)
    (case l1 => k_is)
    (case c_1 => k_is)
    (case k1 => k_is)
    (case a2 => k_is)
    (case l2 => k_is)
    (case c_2 => k_is)
    (case k2 => k_is)
    (case a3 => k_is)
    (case l3 => k_is)
    (case c_3 => k_is)
    (case k3 => k_is)
    (case a4 => k_is)
    (case l4 => k_is)
    (case c_4 => k_is)
    (case k4 => k_is)
    (case a5 => k_is)
    (case l5 => k_is)
    (case c_5 => k_is)
    (case k5 => k_is)
    (case a6 => k_is)
    (case l6 => k_is)
    (case c_6 => k_is)
    (case k6 => k_is)
    (case a7 => k_is)
    (case l7 => k_is)
    (case c_7 => k_is)
    (case k7 => k_is)
    (case a8 => k_is)
    (case l8 => k_is)
    (case c_8 => k_is)
    (case k8 => k_is)
    (case a9 => k_is)
    (case l9 => k_is)
    (case c_9 => k_is)
    (case k9 => k_is)
    (case a10 => k_is)
    (case l10 => k_is)
    (case c_10 => k_is)
    (case k10 => k_is)
    (case a11 => k_is)
    (case l11 => k_is)
    (case c_11 => k_is)
    (case k11 => k_is)
    (case a12 => k_is)
    (case l12 => k_is)
    (case c_12 => k_is)
    (case k12 => k_is)
    (case a13 => k_is)
    (case l13 => k_is)
    (case c_13 => k_is)
    (case k13 => k_is)
    (case a14 => k_is)
    (case l14 => k_is)
    (case c_14 => k_is)
    (case k14 => k_is)
    (case a15 => k_is)
    (case l15 => k_is)
    (case c_15 => k_is)
    (case k15 => k_is)
    (case a16 => k_is)
    (case l16 => k_is)
    (case c_16 => k_is)
    (case k16 => k_is)
    (case a17 => k_is)
    (case l17 => k_is)
    (case c_17 => k_is)
    (case k17 => k_is)
    (case a18 => k_is)
    (case l18 => k_is)
    (case c_18 => k_is)
    (case k18 => k_is)
    (case z_len => k_is)
    (case z_abs => k_is)
    (case z_all => k_is)
    (case z_range => k_is)
    (case z_enumerate => k_is)
    (case z_isinstance => k_is)
    (case z_tuple => k_is)
    (case z_list => k_is)
    (case z_bool => k_is)
    (case z_str => k_is)
    (case z_int => k_is)
    (case z_min => k_is)
    (case z_max => k_is)
    (case z_sorted => k_is)
    (case z_zip => k_is)
#print axioms PySem.Challenge.cw_breakwords_k21_values_by_a_wood_holds
namespace K21
end K21
