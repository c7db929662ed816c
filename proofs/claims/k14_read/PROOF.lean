import PyProof.Rows.All
import Wide.All
import OpenK.AllK
import Wide.FinOn
import Lean
import PyProof.EqAt
import PyProof.EqKinds
import PyProof.TupleCall
import PySem.Challenge.RW_mixpots_k14_read
-- CHANGE: your row's module here, as the last of these rows
set_option Elab.async false
set_option linter.all false
set_option maxRecDepth 100000
/-! THE HAND LAYER, for ints, bools, texts, own classes, LISTS and tuples (index, slices, in, append, pop ..), calls, loops. Paste it whole ahead of your own text; what your proof does not reach may be deleted. -/
namespace L2
open PySem PySem.Spec PyProof.Rows

/-- a key: an int or a str -/
abbrev Key := Sum Int Str
def keyIs : Key → Value → Bool
  | .inl k, v => Value.isInt k v
  | .inr x, v => Value.isStrOf x v
def keyH (w : World) : Key → Int
  | .inl k => hashInt k
  | .inr x => hashStr w x
theorem keyIs_shape : ∀ {k : Key} {v : Value}, keyIs k v = true → (∃ i t, k = Sum.inl i ∧ v = Value.int i t) ∨ (∃ x t, k = Sum.inr x ∧ v = Value.str x t)
  | .inl i, v, h => by
    obtain ⟨t, e⟩ := Value.isInt_shape (k := i) (v := v) h
    exact .inl ⟨i, t, rfl, e⟩
  | .inr x, v, h => by
    obtain ⟨t, e⟩ := Value.isStrOf_shape (x := x) (v := v) h
    exact .inr ⟨x, t, rfl, e⟩
theorem key_ll (a b : Int) : decide ((Sum.inl a : Key) = Sum.inl b) = (a == b) := by
  by_cases e : a = b
  · subst e; simp
  · have h : ¬ (Sum.inl a : Key) = Sum.inl b := fun q => e (Sum.inl.inj q)
    rw [decide_eq_false h]
    exact (beq_eq_false_iff_ne.mpr e).symm
theorem key_rr (a b : Str) : decide ((Sum.inr a : Key) = Sum.inr b) = decide (a = b) := by
  by_cases e : a = b
  · subst e; simp
  · have h : ¬ (Sum.inr a : Key) = Sum.inr b := fun q => e (Sum.inr.inj q)
    rw [decide_eq_false h, decide_eq_false e]
theorem key_lr (a : Int) (b : Str) : decide ((Sum.inl a : Key) = Sum.inr b) = false := decide_eq_false (fun q => nomatch q)
theorem key_rl (a : Str) (b : Int) : decide ((Sum.inr a : Key) = Sum.inl b) = false := decide_eq_false (fun q => nomatch q)

def mixKind (prog : Program) (w : World) : PySem.KeyKind prog w Key where
  is := keyIs
  hash := keyH w
  inj := fun v a b ha hb => by
    rcases keyIs_shape ha with ⟨i, t, rfl, rfl⟩ | ⟨x, t, rfl, rfl⟩
    · rcases keyIs_shape hb with ⟨j, u, rfl, e⟩ | ⟨y, u, rfl, e⟩
      · injection e with e1 _; rw [e1]
      · exact nomatch e
    · rcases keyIs_shape hb with ⟨j, u, rfl, e⟩ | ⟨y, u, rfl, e⟩
      · exact nomatch e
      · injection e with e1 _; rw [e1]
  byValue := fun k v h => by
    rcases keyIs_shape h with ⟨i, t, rfl, rfl⟩ | ⟨x, t, rfl, rfl⟩ <;> rfl
  pyHash := fun hv h => by
    rcases keyIs_shape hv with ⟨i, t, rfl, rfl⟩ | ⟨x, t, rfl, rfl⟩
    · exact wpAny_pyHash_int h
    · exact wpAny_pyHash_str h
  eqBool := fun hu hv h => by
    rcases keyIs_shape hu with ⟨i, t, rfl, rfl⟩ | ⟨x, t, rfl, rfl⟩
    · rcases keyIs_shape hv with ⟨j, u, rfl, rfl⟩ | ⟨y, u, rfl, rfl⟩
      · rw [key_ll] at h; exact wpAny_eqBool_int h
      · rw [key_lr] at h; exact SeqAt.EqAt.int_str i t y u _ _ _ _ h
    · rcases keyIs_shape hv with ⟨j, u, rfl, rfl⟩ | ⟨y, u, rfl, rfl⟩
      · rw [key_rl] at h; exact SeqAt.EqAt.str_int x t j u _ _ _ _ h
      · rw [key_rr] at h; exact wpAny_eqBool_str h
  «strs» := fun k x t v h => by
    rcases keyIs_shape h with ⟨i, u, rfl, e⟩ | ⟨y, u, rfl, e⟩
    · exact nomatch e
    · injection e with e1 _
      subst e1
      cases v <;> rfl

end L2

namespace L2
open PySem PySem.Spec PyProof.Rows

/-- a value, without the heap -/
inductive V where
  | non | bl (b : Bool) | int (i : Int) | str (x : Str) | byt (b : Array UInt8) | flt (b : UInt64) | ref (a : Addr) | ty (n : String)
  deriving DecidableEq

def RelV : V → Value → Prop
  | .non, u => u = Value.none
  | .bl b, u => u = Value.bool b
  | .int i, u => ∃ t, u = Value.int i t
  | .str x, u => ∃ t, u = Value.str x t
  | .byt b, u => ∃ t, u = Value.bytes b t
  | .flt b, u => ∃ t, u = Value.float b t
  | .ref a, u => u = Value.ref a
  | .ty n, u => u = Value.type n

abbrev Vals : List V → List Value → Prop := Paired RelV
theorem Vals.length {xs : List V} {us : List Value} (r : Vals xs us) : xs.length = us.length := Paired.length r
theorem Vals.get : ∀ {xs : List V} {us : List Value} {i : Nat} {x : V}, Vals xs us → xs[i]? = some x → ∃ u, us[i]? = some u ∧ RelV x u
  | _, _, _, _, .nil, e => by simp at e
  | _, _, 0, _, .cons r _, e => by simp at e; subst e; exact ⟨_, rfl, r⟩
  | _, _, i + 1, x, .cons _ t, e => by
    obtain ⟨u, h1, h2⟩ := Vals.get (i := i) (x := x) t (by simpa using e)
    exact ⟨u, by simpa using h1, h2⟩
theorem Vals.set {x : V} {u : Value} (r : RelV x u) : ∀ {xs : List V} {us : List Value} (i : Nat), Vals xs us → Vals (xs.set i x) (us.set i u)
  | _, _, _, .nil => .nil
  | _, _, 0, .cons _ t => .cons r t
  | _, _, i + 1, .cons q t => .cons q (Vals.set r i t)
theorem Vals.append : ∀ {xs ys : List V} {us ws : List Value}, Vals xs us → Vals ys ws → Vals (xs ++ ys) (us ++ ws)
  | _, _, _, _, .nil, s => s
  | _, _, _, _, .cons r t, s => .cons r (Vals.append t s)
theorem Vals.take : ∀ {xs : List V} {us : List Value} (n : Nat), Vals xs us → Vals (xs.take n) (us.take n)
  | _, _, 0, _ => .nil
  | _, _, _ + 1, .nil => .nil
  | _, _, n + 1, .cons r t => .cons r (Vals.take n t)
theorem Vals.drop : ∀ {xs : List V} {us : List Value} (n : Nat), Vals xs us → Vals (xs.drop n) (us.drop n)
  | _, _, 0, r => r
  | _, _, _ + 1, .nil => .nil
  | _, _, n + 1, .cons _ t => Vals.drop n t
def RelO : Option V → Option Value → Prop
  | some v, some u => RelV v u
  | none, none => True
  | _, _ => False
def KV {κ : Type} : List (κ × V) → List (κ × Value) → Prop := Paired fun (p : κ × V) (q : κ × Value) => p.1 = q.1 ∧ RelV p.2 q.2

/-- a key of a dict (00_mix): an int or a text -/
def kV : Key → V
  | .inl i => .int i
  | .inr x => .str x

/-- what stands at a tracked address -/
inductive HO where
  /-- a list -/
  | lst (xs : List V)
  /-- a tuple (never changes) -/
  | tup (xs : List V)
  /-- a dict whose keys are ints and texts; one whose keys are tuples of ints and texts (the empty one is both) -/
  | dK (kvs : List (Key × V)) | dT (kvs : List (List Key × V))
  /-- a set of ints: its members, its size -/
  | set (S : Int → Bool) (n : Nat)
  /-- an instance of the class at C, its dict at dx, its attributes -/
  | ins (C dx : Addr) (fs : List (Str × V))
  /-- the dict of the instance at x -/
  | own (x : Addr)
  /-- the dict of an exception -/
  | xd (fs : List (Str × V))
  /-- a bound method, f of x -/
  | met (f x : Addr)
  /-- a range object lo, lo + 1, .. below hi -/
  | rng (lo hi : Int)
  /-- a thing that is known to the object (the script; a dict while a loop walks it): read, never written while it is so -/
  | frz (o : Obj) (u : HO)
  /-- a code object's table -/
  | tbl (ps : Array Value)
  /-- any other thing, by what is true of its one object (a def of one's own: SetO a S n := HO.ext fun h => ..) -/
  | ext (φ : Heap → Prop)

abbrev Hp := Addr → Option HO
def upd (H : Hp) (a : Addr) (o : HO) : Hp := fun b => if b = a then some o else H b
theorem upd_same {H : Hp} {a : Addr} {o : HO} : upd H a o a = some o := by unfold upd; rw [if_pos rfl]
theorem upd_ne {H : Hp} {a b : Addr} {o : HO} (h : b ≠ a) : upd H a o b = H b := by unfold upd; rw [if_neg h]
theorem upd_upd {H : Hp} {a : Addr} {o u : HO} : upd (upd H a o) a u = upd H a u := by
  funext b; unfold upd; split <;> rfl
theorem ne_of_none {H : Hp} {a b : Addr} {o : HO} (h : H a = some o) (h' : H b = none) : a ≠ b := by
  intro e; subst e; rw [h] at h'; cases h'

section
variable (P : Program) (w : World)
def ObjOk (H : Hp) (h : Heap) (a : Addr) : HO → Prop
  | .lst xs => xs.length ≤ sizeLine ∧ ∃ (its : List Value) (n : Nat), Vals xs its ∧ h.get? a = some { cls := .type "list", data := .seq its.toArray n }
  | .tup xs => xs.length ≤ sizeLine ∧ ∃ its : List Value, Vals xs its ∧ IsTup h a its.toArray
  | .dK kvs => kvs.length ≤ sizeLine ∧ (a == sysModules) = false ∧ ∃ vs, KV kvs vs ∧ h.DictOf (mixKind P w) a vs
  | .dT kvs => kvs.length ≤ sizeLine ∧ (a == sysModules) = false ∧ ∃ xs : List (List Key × Addr × Value),
      Paired (fun (p : List Key × V) (q : List Key × Addr × Value) => p.1 = q.1 ∧ H q.2.1 = some (.tup (p.1.map kV)) ∧ RelV p.2 q.2.2) kvs xs ∧
      ∃ o es ep, h.get? a = some o ∧ o.ExactDict ∧ o.data = .dict es ep ∧ es.toList = xs.map (entryOfKey (tupleKind (mixKind P w))) ∧ (xs.map (·.1)).Nodup
  | .set S n => h.SetOf (intKind P w) a S n
  | .ins C dx fs => H dx = some (.own a) ∧ fs.length ≤ 1000 ∧ dx ≠ a ∧ h.get? a = some (PySem.W.instObj C dx) ∧
      ∃ mA, h.Ns1 dx mA ∧ (∀ f, RelO (fs.lookup f) (mA f)) ∧ PySem.Within mA (fs.map (·.1))
  | .own _ => ∃ o, h.get? a = some o
  | .xd fs => ∃ mA, h.Ns1 a mA ∧ ∀ f, RelO (fs.lookup f) (mA f)
  | .rng lo hi => ∃ t u v, h.get? a = some { cls := .type "range", data := .fields #[.int lo t, .int hi u, .int 1 v] }
  | .frz o u => h.get? a = some o ∧ ObjOk H h a u
  | .tbl ps => h.get? a = some { cls := .none, data := .fields ps }
  | .met f x => h.get? a = some (PySem.W.methodObj (.ref f) (.ref x))
  | .ext φ => φ h ∧ (∃ o, h.get? a = some o) ∧ ∀ h1 h2 : Heap, φ h1 → (∀ o, h1.get? a = some o → h2.get? a = some o) → φ h2
/-- the abstract heap is held -/
def HOk (H : Hp) (h : Heap) : Prop := ∀ a o, H a = some o → ObjOk P w H h a o
end

section
variable {P : Program} {w : World} {H H' : Hp} {h h' : Heap} {a : Addr} {o : HO}
theorem ObjOk.lt (x : ObjOk P w H h a o) : a < h.objs.size := by
  cases o with
  | lst xs => obtain ⟨_, _, _, _, e⟩ := x; exact Heap.lt_size e
  | tup xs => obtain ⟨_, _, _, p⟩ := x; exact p.lt
  | dK kvs => obtain ⟨_, _, _, _, o, _, _, e, _⟩ := x; exact Heap.lt_size e
  | dT kvs => obtain ⟨_, _, _, _, o, _, _, e, _⟩ := x; exact Heap.lt_size e
  | set S n => obtain ⟨o, _, _, _, e, _⟩ := x; exact Heap.lt_size e
  | ins C dx fs => obtain ⟨_, _, _, e, _⟩ := x; exact Heap.lt_size e
  | own y => obtain ⟨_, e⟩ := x; exact Heap.lt_size e
  | xd fs => obtain ⟨_, ⟨_, _, _, e, _⟩, _⟩ := x; exact Heap.lt_size e
  | rng lo hi => obtain ⟨_, _, _, e⟩ := x; exact Heap.lt_size e
  | frz ob u => obtain ⟨e, _⟩ := x; exact Heap.lt_size e
  | tbl ps => exact Heap.lt_size (show h.get? a = some _ from x)
  | met f y => exact Heap.lt_size (show h.get? a = some _ from x)
  | ext φ => obtain ⟨_, ⟨_, e⟩, _⟩ := x; exact Heap.lt_size e
theorem Paired.mapP {α β : Type} {F G : α → β → Prop} : ∀ {l₁ : List α} {l₂ : List β}, Paired F l₁ l₂ → (∀ a b, F a b → G a b) → Paired G l₁ l₂
  | _, _, .nil, _ => .nil
  | _, _, .cons r t, f => .cons (f _ _ r) (Paired.mapP t f)
theorem Paired.imp' {α β : Type} {F G : α → β → Prop} (f : ∀ a b, F a b → G a b) {l₁ : List α} {l₂ : List β} (r : Paired F l₁ l₂) : Paired G l₁ l₂ := Paired.mapP r f
/-- what an object's description leans on: its own object, its own dict, the tuples -/
theorem ObjOk.stay (x : ObjOk P w H h a o) (k : ∀ b u, (b = a ∨ H b = some (.own a)) → h.get? b = some u → h'.get? b = some u)
    (ho : ∀ b, H b = some (.own a) → H' b = some (.own a)) (ht : ∀ b xs, H b = some (.tup xs) → H' b = some (.tup xs)) : ObjOk P w H' h' a o := by
  induction o with
  | lst xs => obtain ⟨z, its, n, r, e⟩ := x; exact ⟨z, its, n, r, k _ _ (.inl rfl) e⟩
  | tup xs => obtain ⟨z, its, r, ob, e, c⟩ := x; exact ⟨z, its, r, ob, k _ _ (.inl rfl) e, c⟩
  | dK kvs => obtain ⟨z, y, vs, r, ob, es, ep, e, c⟩ := x; exact ⟨z, y, vs, r, ob, es, ep, k _ _ (.inl rfl) e, c⟩
  | dT kvs =>
    obtain ⟨z, y, xs, r, ob, es, ep, e, c⟩ := x
    exact ⟨z, y, xs, Paired.mapP r fun p q z => ⟨z.1, ht _ _ z.2.1, z.2.2⟩, ob, es, ep, k _ _ (.inl rfl) e, c⟩
  | set S n => obtain ⟨ob, es, ep, t, e, c⟩ := x; exact ⟨ob, es, ep, t, k _ _ (.inl rfl) e, c⟩
  | ins C dx fs =>
    obtain ⟨d, z, ne, e, mA, ⟨od, es, ep, e2, c⟩, r⟩ := x
    exact ⟨ho _ d, z, ne, k _ _ (.inl rfl) e, mA, ⟨od, es, ep, k _ _ (.inr d) e2, c⟩, r⟩
  | own y => obtain ⟨ob, e⟩ := x; exact ⟨ob, k _ _ (.inl rfl) e⟩
  | xd fs => obtain ⟨mA, ⟨od, es, ep, e, c⟩, r⟩ := x; exact ⟨mA, ⟨od, es, ep, k _ _ (.inl rfl) e, c⟩, r⟩
  | rng lo hi => obtain ⟨t, u, v, e⟩ := x; exact ⟨t, u, v, k _ _ (.inl rfl) e⟩
  | frz ob u ih => obtain ⟨e, q⟩ := x; exact ⟨k _ _ (.inl rfl) e, ih q⟩
  | tbl ps =>
    have e : h.get? a = some { cls := .none, data := .fields ps } := x
    show h'.get? a = some { cls := .none, data := .fields ps }
    exact k a _ (.inl rfl) e
  | met f y =>
    have e : h.get? a = some (PySem.W.methodObj (.ref f) (.ref y)) := x
    show h'.get? a = some (PySem.W.methodObj (.ref f) (.ref y))
    exact k a _ (.inl rfl) e
  | ext φ => obtain ⟨p, ⟨o, e⟩, st⟩ := x; exact ⟨st _ _ p fun o q => k _ _ (.inl rfl) q, ⟨o, k _ _ (.inl rfl) e⟩, st⟩
theorem HOk.lt (x : HOk P w H h) (e : H a = some o) : a < h.objs.size := (x a o e).lt
theorem HOk.fresh (x : HOk P w H h) (e : h.objs.size ≤ a) : H a = none := by
  cases q : H a with
  | none => rfl
  | some u => exact absurd (Nat.lt_of_lt_of_le (x.lt q) e) (Nat.lt_irrefl _)
/-- every object of the heap is kept -/
theorem HOk.kept (x : HOk P w H h) (k : ∀ b u, h.get? b = some u → h'.get? b = some u) : HOk P w H h' := fun a o e =>
  (x a o e).stay (fun b u _ q => k b u q) (fun _ q => q) fun _ _ q => q
/-- a new object is laid and tracked -/
theorem HOk.laid (x : HOk P w H h) (k : ∀ b u, h.get? b = some u → h'.get? b = some u) (hp : h.objs.size ≤ a) (new : ObjOk P w (upd H a o) h' a o) : HOk P w (upd H a o) h' := fun b u e => by
  have hn := x.fresh hp
  by_cases hb : b = a
  · subst hb; rw [upd_same] at e; cases e; exact new
  · rw [upd_ne hb] at e
    exact (x b u e).stay (fun c v _ q => k c v q) (fun c q => by rw [upd_ne (ne_of_none q hn)]; exact q) fun c xs q => by rw [upd_ne (ne_of_none q hn)]; exact q
end

/-- what may be read as u: it is u, or a known u -/
def Rd (H : Hp) (a : Addr) (u : HO) : Prop := H a = some u ∨ ∃ o, H a = some (.frz o u)
theorem Rd.of {H : Hp} {a : Addr} {u : HO} (h : H a = some u) : Rd H a u := .inl h
theorem Rd.ok {P : Program} {w : World} {H : Hp} {h : Heap} {a : Addr} {u : HO} (r : Rd H a u) (x : HOk P w H h) : ObjOk P w H h a u := by
  rcases r with r | ⟨o, r⟩
  · exact x a u r
  · obtain ⟨_, q⟩ := x a _ r
    exact q
/-- what may be written -/
def Mut : Option HO → Prop
  | some (.lst _) => True
  | some (.dK _) => True
  | some (.dT _) => True
  | some (.set _ _) => True
  | some (.ins _ _ _) => True
  | some (.ext _) => True
  | _ => False
section
variable {P : Program} {w : World} {H : Hp} {h h' : Heap} {x e : Addr} {o' : HO}
/-- the object at e is changed: x itself, or the dict of the instance x -/
theorem HOk.write (ok : HOk P w H h) (mu : Mut (H x)) (he : e = x ∨ H e = some (.own x)) (k : ∀ b u, b ≠ e → h.get? b = some u → h'.get? b = some u) (heo : ∃ u, h'.get? e = some u)
    (new : ObjOk P w (upd H x o') h' x o') : HOk P w (upd H x o') h' := fun b u q => by
  have nown : ∀ c y, H c = some (.own y) → c ≠ x := fun c y r z => by subst z; rw [r] at mu; exact mu
  have ntup : ∀ c xs, H c = some (.tup xs) → c ≠ x := fun c xs r z => by subst z; rw [r] at mu; exact mu
  by_cases hb : b = x
  · subst hb; rw [upd_same] at q; cases q; exact new
  · rw [upd_ne hb] at q
    by_cases hbe : b = e
    · have q' : H b = some (.own x) := by
        rcases he with z | z
        · exact absurd (hbe.trans z) hb
        · rw [hbe]; exact z
      rw [q] at q'; cases q'
      obtain ⟨v, hv⟩ := heo
      exact ⟨v, by rw [hbe]; exact hv⟩
    · refine (ok b u q).stay (fun c v hc r => k c v ?_ r) (fun c r => by rw [upd_ne (nown c b r)]; exact r) fun c xs r => by rw [upd_ne (ntup c xs r)]; exact r
      rcases hc with rfl | hc
      · exact hbe
      · rintro rfl
        rcases he with z | z
        · exact nown c b hc z
        · rw [hc] at z; cases z; exact hb rfl
end

/-! ### kept unless tracked; of the frames at fs (the callers') the slots may change (an exception that passes writes there); of the records at ex (iterators) nothing is said -/
structure Un (fs ex : List Addr) (H H' : Hp) (h h' : Heap) : Prop where
  keep : ∀ b o, h.get? b = some o → H b = none → b ∉ fs → b ∉ ex → h'.get? b = some o
  slot : ∀ b o, h.get? b = some o → H b = none → b ∈ fs → b ∉ ex → ∃ sl, h'.get? b = some { o with slots := sl }
  free : ∀ b o, h.get? b = some o → H b = none → b ∉ ex → H' b = none
  there : ∀ b o, h.get? b = some o → b ∉ ex → ∃ o', h'.get? b = some o'
  tups : ∀ b xs, H b = some (.tup xs) → H' b = some (.tup xs)
  frzs : ∀ b o u, H b = some (.frz o u) → H' b = some (.frz o u)
  tbls : ∀ b ps, H b = some (.tbl ps) → ∃ more, H' b = some (.tbl (ps ++ more))
section
variable {fs fs' ex ex' : List Addr} {H H1 H2 : Hp} {h h1 h2 h' : Heap} {a x e : Addr} {o : HO}
theorem Un.any (u : Un fs ex H H1 h h1) {b : Addr} {ob : Obj} (q : h.get? b = some ob) (n : H b = none) (hx : b ∉ ex) : ∃ sl, h1.get? b = some { ob with slots := sl } := by
  by_cases hb : b ∈ fs
  · exact u.slot b ob q n hb hx
  · exact ⟨ob.slots, u.keep b ob q n hb hx⟩
theorem Un.trans (a : Un fs ex H H1 h h1) (b : Un fs ex H1 H2 h1 h2) : Un fs ex H H2 h h2 where
  keep := fun c ob q n hc hx => b.keep c ob (a.keep c ob q n hc hx) (a.free c ob q n hx) hc hx
  slot := fun c ob q n hc hx => by
    obtain ⟨sl, e1⟩ := a.slot c ob q n hc hx
    obtain ⟨sl', e2⟩ := b.slot c _ e1 (a.free c ob q n hx) hc hx
    exact ⟨sl', e2⟩
  free := fun c ob q n hx => by
    obtain ⟨o', e1⟩ := a.there c ob q hx
    exact b.free c o' e1 (a.free c ob q n hx) hx
  there := fun c ob q hx => by
    obtain ⟨o', e1⟩ := a.there c ob q hx
    exact b.there c o' e1 hx
  tups := fun c xs q => b.tups c xs (a.tups c xs q)
  frzs := fun c ob xs q => b.frzs c ob xs (a.frzs c ob xs q)
  tbls := fun c ps q => by
    obtain ⟨m1, e1⟩ := a.tbls c ps q
    obtain ⟨m2, e2⟩ := b.tbls c _ e1
    exact ⟨m1 ++ m2, by rw [e2, Array.append_assoc]⟩
theorem Un.kept (k : ∀ b u, h.get? b = some u → h'.get? b = some u) : Un fs ex H H h h' :=
  ⟨fun b ob q _ _ _ => k b ob q, fun b ob q _ _ _ => ⟨ob.slots, k b ob q⟩, fun _ _ _ n _ => n, fun b ob q _ => ⟨ob, k b ob q⟩, fun _ _ q => q, fun _ _ _ q => q, fun _ ps q => ⟨#[], by rw [q]; simp⟩⟩
theorem Un.refl : Un fs ex H H h h := Un.kept fun _ _ q => q
theorem Un.laid (k : ∀ b u, h.get? b = some u → h'.get? b = some u) (hp : h.objs.size ≤ a) (hn : H a = none) : Un fs ex H (upd H a o) h h' where
  keep := fun b u q _ _ _ => k b u q
  slot := fun b u q _ _ _ => ⟨u.slots, k b u q⟩
  free := fun b u q n _ => by rw [upd_ne (Nat.ne_of_lt (Nat.lt_of_lt_of_le (Heap.lt_size q) hp))]; exact n
  there := fun b u q _ => ⟨u, k b u q⟩
  tups := fun b xs q => by rw [upd_ne (ne_of_none q hn)]; exact q
  frzs := fun b u xs q => by rw [upd_ne (ne_of_none q hn)]; exact q
  tbls := fun b ps q => ⟨#[], by rw [upd_ne (ne_of_none q hn), q]; simp⟩
theorem Un.write (mu : Mut (H x)) (he : e = x ∨ H e = some (.own x)) (k : ∀ b u, b ≠ e → h.get? b = some u → h'.get? b = some u) (heo : ∃ u, h'.get? e = some u) : Un fs ex H (upd H x o) h h' := by
  have hx : ∀ b, H b = none → b ≠ x := fun b n z => by subst z; rw [n] at mu; exact mu
  have hb : ∀ b, H b = none → b ≠ e := fun b n z => by
    subst z
    rcases he with r | r
    · exact hx b n r
    · rw [n] at r; cases r
  have hm : ∀ b u, H b = some u → ¬ Mut (some u) → b ≠ x := fun b u q nm z => by subst z; rw [q] at mu; exact nm mu
  refine ⟨fun b u q n _ _ => k b u (hb b n) q, fun b u q n _ _ => ⟨u.slots, k b u (hb b n) q⟩, fun b u q n _ => by rw [upd_ne (hx b n)]; exact n, fun b u q _ => ?_,
    fun b xs q => by rw [upd_ne (hm b _ q fun z => z)]; exact q, fun b u xs q => by rw [upd_ne (hm b _ q fun z => z)]; exact q, fun b ps q => ⟨#[], by rw [upd_ne (hm b _ q fun z => z), q]; simp⟩⟩
  by_cases hbe : b = e
  · subst hbe; exact heo
  · exact ⟨u, k b u hbe q⟩
theorem Un.mono (u : Un fs ex H H1 h h1) (hs : ∀ b ∈ fs, b ∈ fs') (hx : ∀ b ∈ ex, b ∈ ex') : Un fs' ex' H H1 h h1 :=
  ⟨fun b ob q n hb he => u.keep b ob q n (fun z => hb (hs b z)) fun z => he (hx b z), fun _ _ q n _ he => u.any q n fun z => he (hx _ z), fun b ob q n he => u.free b ob q n fun z => he (hx b z), fun b ob q he => u.there b ob q fun z => he (hx b z), u.tups, u.frzs, u.tbls⟩
end

/-! ### the heap without what is tracked -/
def trk (h : Heap) (H : Hp) : List Addr := (List.range h.objs.size).filter fun a => (H a).isSome
def hidT (h : Heap) (H : Hp) : Heap := PySem.W.hideAll h (trk h H)
theorem hidT_size (h : Heap) (H : Hp) : (hidT h H).objs.size = h.objs.size := PySem.W.hideAll_size _ _
theorem hidT_get {h : Heap} {H : Hp} {b : Addr} {o : Obj} (e : h.get? b = some o) (n : H b = none) : (hidT h H).get? b = some o :=
  PySem.W.hideAll_get _ e fun hm => by
    have q : (H b).isSome = true := (List.mem_filter.mp hm).2
    rw [n] at q; simp at q
theorem of_hidT {h : Heap} {H : Hp} {b : Addr} {o : Obj} (e : (hidT h H).get? b = some o) : h.get? b = some o ∧ H b = none := by
  have e' : h.get? b = some o := PySem.W.of_hideAll (trk h H) e
  refine ⟨e', ?_⟩
  cases q : H b with
  | none => rfl
  | some x =>
    have hm : b ∈ trk h H := List.mem_filter.mpr ⟨List.mem_range.mpr (Heap.lt_size e'), by simp [q]⟩
    have z : (hidT h H).get? b = none := PySem.W.hideAll_none (trk h H) hm
    rw [z] at e; cases e

/-! ### OpenK's ledger, filled with every new object but one -/
def allNews (g h : Heap) (L : Addr) : List (Addr × Obj) := (List.range h.objs.size).filterMap fun a => if a = L ∨ (g.get? a).isSome = true then none else (h.get? a).map fun o => (a, o)
def rest (g h : Heap) (L d : Addr) : List (Addr × Obj) := (allNews g h L).filter fun p => decide (p.1 ≠ d)
end L2

namespace L2
open PySem PySem.Spec PyProof.Rows

/-- the module's facts, over the base: the heap at the law's entry without what is tracked there -/
structure Mod (K : PySem.W.Frag) (mg : Str → Option Value) (base : Heap) : Prop where
  kin : K.In base
  glob : base.Ns mainGlobals mg
  blt : ∃ mb, base.Ns builtinsNs mb ∧ ∀ x : Str, x ≠ "__name__" → mb x = bootBuiltins x
  nolimit : base.NoLimit

/-- the context: a def's body (or a comprehension's block) running. base: fixed through the whole law; s₀, H₀: the entry; outer: the frames whose slots others may change (a def's callers); stack: all frames that run;
   ex: iterators that were made ahead of the entry and are walked here (a comprehension's); fn: the names whose cells were made at the entry (a def: all; a comprehension's block: its own); calm: not within an except suite; pn: pins that every state bears; xe: what is wanted of an exception that leaves the code -/
structure Cx where
  prog : Program
  w : World
  K : PySem.W.Frag
  mg : Str → Option Value
  base : Heap
  A : Around
  N : List Str
  s₀ : Shared
  H₀ : Hp
  env : Env
  outer : List Env
  stack : List Env
  ex : List Addr
  fn : Str → Bool
  calm : Bool
  pn : List (Addr × Obj)
  xe : Value → Shared → Prop
/-- the callers' frames -/
def frs (l : List Env) : List Addr := l.filterMap (·.frame)
abbrev Cx.fs (X : Cx) : List Addr := frs X.outer

def Vis (sc : Scope) (x : Str) : Prop := sc.names.lookup x = some .local ∨ sc.names.lookup x = some .cell ∨ sc.names.lookup x = some .free
def Loc (sc : Scope) (x : Str) : Prop := sc.names.lookup x = some .local ∨ sc.names.lookup x = some .cell
def Look (env : Env) (h : Heap) (m : Str → Option Value) (x : Str) (u : Value) : Prop :=
  (env.kindOf x = some .local ∧ m x = some u) ∨ ((env.kindOf x = some .cell ∨ env.kindOf x = some .free) ∧ ∃ c, env.cells.lookup x = some c ∧ h.IsCell c (some u))

structure Cx.Ok (X : Cx) : Prop where
  mod : Mod X.K X.mg X.base
  kind : X.env.scope.kind = .function
  glob : X.env.globals = mainGlobals
  blt : X.env.builtins = builtinsNs
  above : X.s₀.heap.objs.size ≤ X.env.locals
  inj : ∀ x y c, X.env.cells.lookup x = some c → X.env.cells.lookup y = some c → x = y
  has : ∀ x, (X.env.kindOf x = some .cell ∨ X.env.kindOf x = some .free) → ∃ c, X.env.cells.lookup x = some c
  cab : ∀ x c, X.fn x = true → X.env.cells.lookup x = some c → X.s₀.heap.objs.size ≤ c
  hd : X.calm = true → X.A.handled = none
  frames : X.A.frames = some X.stack
  stk : X.stack = X.outer ∨ (X.stack = X.env :: X.outer ∧ X.env.frame = some X.env.locals)
  exf : ∀ b ∈ X.ex, b ≠ X.env.locals ∧ ∀ x c, X.env.cells.lookup x = some c → c ≠ b
  bs : ∀ b o, X.base.get? b = some o → X.s₀.heap.get? b = some o ∧ X.H₀ b = none
  bsz : X.base.objs.size ≤ X.s₀.heap.objs.size
  noex : ∀ b o, X.base.get? b = some o → b ∉ X.ex
  exfs : ∀ b ∈ X.ex, b ∉ X.fs
  funs : X.s₀.heap.FunFrames X.base X.outer
  frf : ∀ b ∈ X.fs, X.H₀ b = none

structure Inv (X : Cx) (pins : List (Addr × Obj)) (σ : List (Option V)) (H : Hp) (s : Shared) : Prop where
  ok : X.Ok
  os : s.os = X.s₀.os
  bare : AllBare s.gens
  base : Un X.fs X.ex X.H₀ H X.s₀.heap s.heap
  loc : ∃ m, s.heap.Ns X.env.locals m ∧ ∀ (i : Nat) (x : Str) (v : V), X.N[i]? = some x → σ[i]? = some (some v) → Vis X.env.scope x → ∃ u, RelV v u ∧ Look X.env s.heap m x u
  cell : ∀ x c, X.env.cells.lookup x = some c → ∃ v, s.heap.IsCell c v
  free : H X.env.locals = none
  freeC : ∀ x c, X.env.cells.lookup x = some c → H c = none
  pin : ∀ p ∈ X.pn ++ pins, s.heap.get? p.1 = some p.2 ∧ H p.1 = none ∧ p.1 ≠ X.env.locals ∧ p.1 ∉ X.fs ∧ ∀ v, p.2.data ≠ .cell v
  hok : HOk X.prog X.w H s.heap
  len : σ.length = X.N.length

section
variable {X : Cx} {pins : List (Addr × Obj)} {σ : List (Option V)} {H H' : Hp} {s : Shared} {h' : Heap}

theorem Cx.Ok.nofr (ok : X.Ok) {b : Addr} {o : Obj} (e : X.base.get? b = some o) : b ∉ X.fs := fun hb => by
  have := (ok.funs.mem hb).1
  rw [e] at this; cases this
theorem Inv.bs (I : Inv X pins σ H s) : ∀ b o, X.base.get? b = some o → s.heap.get? b = some o ∧ H b = none := fun b o e =>
  ⟨I.base.keep b o (I.ok.bs b o e).1 (I.ok.bs b o e).2 (I.ok.nofr e) (I.ok.noex b o e), I.base.free b o (I.ok.bs b o e).1 (I.ok.bs b o e).2 (I.ok.noex b o e)⟩
theorem Inv.bk (I : Inv X pins σ H s) : ∀ b o, X.base.get? b = some o → s.heap.get? b = some o := fun b o e => (I.bs b o e).1
theorem Inv.mod (I : Inv X pins σ H s) : Mod X.K X.mg X.base := I.ok.mod
theorem Inv.kIn (I : Inv X pins σ H s) : X.K.In s.heap := I.ok.mod.kin.keeps I.bk
theorem Inv.nolimit (I : Inv X pins σ H s) : s.heap.NoLimit := I.ok.mod.nolimit.keeps I.bk
/-- the frame over the base: for OpenK's rules (K.In X.base is I.mod.kin) -/
theorem Inv.fr (I : Inv X pins σ H s) : ∃ m, Fr X.base X.env.locals s.heap m :=
  let ⟨m, hn, _⟩ := I.loc
  ⟨m, hn, I.bk, Nat.le_trans I.ok.bsz I.ok.above⟩
theorem Inv.lt (I : Inv X pins σ H s) : X.env.locals < s.heap.objs.size := let ⟨_, hn, _⟩ := I.loc; hn.lt
theorem Inv.sz (I : Inv X pins σ H s) : X.s₀.heap.objs.size ≤ s.heap.objs.size := Nat.le_trans I.ok.above (Nat.le_of_lt I.lt)
theorem Inv.nofs (I : Inv X pins σ H s) {a : Addr} (h : s.heap.objs.size ≤ a) : a ∉ X.fs := fun hb => by
  obtain ⟨_, o, ho, _⟩ := I.ok.funs.mem hb
  exact absurd (Nat.lt_of_lt_of_le (Heap.lt_size ho) (Nat.le_trans I.sz h)) (Nat.lt_irrefl _)
theorem Inv.cne (I : Inv X pins σ H s) : ∀ x c, X.env.cells.lookup x = some c → c ≠ X.env.locals := fun x c e z => by
  obtain ⟨v, o, ho, hd⟩ := I.cell x c e
  obtain ⟨m, ⟨o', es, ep, ho', hd', _⟩, _⟩ := I.loc
  rw [z, ho'] at ho; cases ho; rw [hd'] at hd; cases hd
theorem Inv.funs (I : Inv X pins σ H s) : s.heap.FunFrames X.base X.outer := by
  have all : ∀ (l : List Env), (∀ b ∈ frs l, b ∈ X.fs) → X.s₀.heap.FunFrames X.base l → s.heap.FunFrames X.base l := by
    intro l
    induction l with
    | nil => intro _ _; trivial
    | cons env r ih =>
      intro hs hl
      obtain ⟨hk, ⟨L, o, hf, hn, ho, hd⟩, hr⟩ := hl
      have hL : L ∈ X.fs := hs L (by unfold frs; rw [List.filterMap_cons, hf]; exact List.mem_cons_self)
      obtain ⟨sl, e⟩ := I.base.slot L o ho (I.ok.frf L hL) hL fun z => I.ok.exfs L z hL
      exact ⟨hk, ⟨L, _, hf, hn, e, hd⟩, ih (fun b hb => hs b (by unfold frs; rw [List.filterMap_cons, hf]; exact List.mem_cons_of_mem _ hb)) hr⟩
  exact all X.outer (fun _ hb => hb) I.ok.funs

/-- the frames that run, for a call -/
theorem Inv.stack (I : Inv X pins σ H s) : s.heap.FunFrames X.base X.stack := by
  rcases I.ok.stk with e | ⟨e, hf⟩
  · rw [e]; exact I.funs
  · rw [e]
    obtain ⟨m, hn, _⟩ := I.loc
    refine .cons (by rw [I.ok.kind]; decide) hf hn ?_ I.funs
    exact Heap.get?_none_of_le (Nat.le_trans I.ok.bsz I.ok.above)
theorem Inv.stkSub (I : Inv X pins σ H s) : ∀ b ∈ frs X.stack, b ∈ X.env.locals :: X.fs := fun b hb => by
  rcases I.ok.stk with e | ⟨e, hf⟩
  · rw [e] at hb; exact List.mem_cons_of_mem _ hb
  · rw [e] at hb
    unfold frs at hb
    rw [List.filterMap_cons, hf] at hb
    exact hb
theorem Inv.stkFree (I : Inv X pins σ H s) : ∀ b ∈ frs X.stack, H b = none := fun b hb => by
  rcases List.mem_cons.mp (I.stkSub b hb) with e | hb
  · rw [e]; exact I.free
  · obtain ⟨_, o, ho, _⟩ := I.ok.funs.mem hb
    exact I.base.free b o ho (I.ok.frf b hb) fun z => I.ok.exfs b z hb

/-- THE STEP: the untracked objects but the frame and the records at ch are kept (the callers' frames up to slots), the frame's map is kept, the new abstract heap is held -/
theorem Inv.step {g' : Array GenState} {t' : Nat} {d' : Drawn} {ch : List Addr} (I : Inv X pins σ H s)
    (hch : ∀ b ∈ ch, (b ∈ X.ex ∨ X.s₀.heap.objs.size ≤ b) ∧ b ≠ X.env.locals ∧ (∀ x c, X.env.cells.lookup x = some c → c ≠ b) ∧ ∀ p ∈ X.pn ++ pins, p.1 ≠ b)
    (keep : ∀ b o, b ≠ X.env.locals → b ∉ X.fs → b ∉ ch → s.heap.get? b = some o → H b = none → h'.get? b = some o)
    (slot : ∀ b o, b ≠ X.env.locals → b ∈ X.fs → b ∉ ch → s.heap.get? b = some o → H b = none → ∃ sl, h'.get? b = some { o with slots := sl }) (free : ∀ b o, b ∉ ch → s.heap.get? b = some o → H b = none → H' b = none)
    (there : ∀ b o, b ∉ ch → s.heap.get? b = some o → ∃ o', h'.get? b = some o')
    (tups : ∀ b xs, H b = some (.tup xs) → H' b = some (.tup xs)) (frzs : ∀ b o u, H b = some (.frz o u) → H' b = some (.frz o u)) (tbls : ∀ b ps, H b = some (.tbl ps) → ∃ more, H' b = some (.tbl (ps ++ more)))
    (ns : ∀ m, s.heap.Ns X.env.locals m → h'.Ns X.env.locals m) (hok : HOk X.prog X.w H' h') (hg : AllBare g') :
    Inv X pins σ H' { s with heap := h', gens := g', drawn := d', toks := t' } := by
  have neL : ∀ b o, X.s₀.heap.get? b = some o → b ≠ X.env.locals := fun b o e => Nat.ne_of_lt (Nat.lt_of_lt_of_le (Heap.lt_size e) I.ok.above)
  have neC : ∀ b o, X.s₀.heap.get? b = some o → b ∉ X.ex → b ∉ ch := fun b o e hx hb => by
    rcases (hch b hb).1 with z | z
    · exact hx z
    · exact absurd (Nat.lt_of_lt_of_le (Heap.lt_size e) z) (Nat.lt_irrefl _)
  have cellK : ∀ x c, X.env.cells.lookup x = some c → ∀ v, s.heap.IsCell c v → h'.IsCell c v := fun x c e v ⟨o, ho, hd⟩ => by
    have nch : c ∉ ch := fun z => (hch c z).2.2.1 x c e rfl
    by_cases hc : c ∈ X.fs
    · obtain ⟨sl, q⟩ := slot c o (I.cne x c e) hc nch ho (I.freeC x c e)
      exact ⟨_, q, hd⟩
    · exact ⟨o, keep c o (I.cne x c e) hc nch ho (I.freeC x c e), hd⟩
  refine ⟨I.ok, I.os, hg, ⟨fun b o e n hb hx => ?_, fun b o e n hb hx => ?_, fun b o e n hx => ?_, fun b o e hx => ?_, fun b xs e => tups b xs (I.base.tups b xs e), fun b o xs e => frzs b o xs (I.base.frzs b o xs e), fun b ps e => ?_⟩, ?_, fun x c e => ?_, ?_, fun x c e => ?_, fun p hp => ?_, hok, I.len⟩
  · exact keep b o (neL b o e) hb (neC b o e hx) (I.base.keep b o e n hb hx) (I.base.free b o e n hx)
  · obtain ⟨sl, e1⟩ := I.base.slot b o e n hb hx
    obtain ⟨sl', e2⟩ := slot b _ (neL b o e) hb (neC b o e hx) e1 (I.base.free b o e n hx)
    exact ⟨sl', e2⟩
  · obtain ⟨o', e1⟩ := I.base.there b o e hx
    exact free b o' (neC b o e hx) e1 (I.base.free b o e n hx)
  · obtain ⟨o', e1⟩ := I.base.there b o e hx
    exact there b o' (neC b o e hx) e1
  · obtain ⟨m1, e1⟩ := I.base.tbls b ps e
    obtain ⟨m2, e2⟩ := tbls b _ e1
    exact ⟨m1 ++ m2, by rw [e2, Array.append_assoc]⟩
  · obtain ⟨m, hn, hl⟩ := I.loc
    refine ⟨m, ns m hn, fun i x v e1 e2 e3 => ?_⟩
    obtain ⟨u, r, l⟩ := hl i x v e1 e2 e3
    refine ⟨u, r, ?_⟩
    rcases l with l | ⟨k, c, e, z⟩
    · exact .inl l
    · exact .inr ⟨k, c, e, cellK x c e _ z⟩
  · obtain ⟨v, z⟩ := I.cell x c e
    exact ⟨v, cellK x c e v z⟩
  · obtain ⟨m, ⟨o, _, _, ho, _⟩, _⟩ := I.loc
    exact free _ o (fun z => (hch _ z).2.1 rfl) ho I.free
  · obtain ⟨v, o, ho, hd⟩ := I.cell x c e
    exact free c o (fun z => (hch c z).2.2.1 x c e rfl) ho (I.freeC x c e)
  · obtain ⟨e, n, ne, nf, d⟩ := I.pin p hp
    have nch : p.1 ∉ ch := fun z => (hch p.1 z).2.2.2 p hp rfl
    exact ⟨keep p.1 p.2 ne nf nch e n, free p.1 p.2 nch e n, ne, nf, d⟩
/-- .. where the frame's own object is kept too -/
theorem Inv.un {t' : Nat} (I : Inv X pins σ H s) (u : Un X.fs [] H H' s.heap h') (hok : HOk X.prog X.w H' h') : Inv X pins σ H' { s with heap := h', toks := t' } := by
  obtain ⟨m, ⟨o, es, ep, ho, r⟩, _⟩ := id I.loc
  obtain ⟨sl, hL⟩ := u.any ho I.free (by simp)
  exact I.step (g' := s.gens) (d' := s.drawn) (ch := []) (fun _ z => nomatch z) (fun b o _ hb _ e n => u.keep b o e n hb (by simp)) (fun b o _ hb _ e n => u.slot b o e n hb (by simp)) (fun b o _ e n => u.free b o e n (by simp)) (fun b o _ e => u.there b o e (by simp)) u.tups u.frzs u.tbls (fun m' hm => by
    obtain ⟨o', es', ep', ho', r'⟩ := hm
    rw [ho] at ho'; cases ho'
    exact ⟨_, es', ep', hL, r'⟩) hok I.bare
/-- behind a call (or a comprehension's block): the slots of this frame may have changed too, the records at ch may have turned -/
theorem Inv.call {g' : Array GenState} {t' : Nat} {d' : Drawn} {ch : List Addr} (I : Inv X pins σ H s) (u : Un (frs X.stack) ch H H' s.heap h') (hok : HOk X.prog X.w H' h') (hg : AllBare g')
    (hch : ∀ b ∈ ch, (b ∈ X.ex ∨ X.s₀.heap.objs.size ≤ b) ∧ b ≠ X.env.locals ∧ (∀ x c, X.env.cells.lookup x = some c → c ≠ b) ∧ ∀ p ∈ X.pn ++ pins, p.1 ≠ b) :
    Inv X pins σ H' { s with heap := h', gens := g', drawn := d', toks := t' } := by
  obtain ⟨m, ⟨o, es, ep, ho, r⟩, _⟩ := id I.loc
  obtain ⟨sl, hL⟩ := u.any ho I.free fun z => (hch _ z).2.1 rfl
  exact I.step (ch := ch) hch (fun b o hL hb hc e n => u.keep b o e n (fun z => (List.mem_cons.mp (I.stkSub b z)).elim hL hb) hc) (fun b o _ _ hc e n => u.any e n hc) (fun b o hc e n => u.free b o e n hc) (fun b o hc e => u.there b o e hc) u.tups u.frzs u.tbls (fun m' hm => by
    obtain ⟨o', es', ep', ho', r'⟩ := hm
    rw [ho] at ho'; cases ho'
    exact ⟨_, es', ep', hL, r'⟩) hok hg
/-- an untracked record of ours (an iterator) has turned -/
theorem Inv.turned {t' : Nat} {it : Addr} (I : Inv X pins σ H s) (k : ∀ b o, b ≠ it → s.heap.get? b = some o → h'.get? b = some o) (hn : H it = none) (hL : it ≠ X.env.locals)
    (h1 : it ∈ X.ex ∨ X.s₀.heap.objs.size ≤ it) (h2 : ∀ x c, X.env.cells.lookup x = some c → c ≠ it) (h3 : ∀ p ∈ X.pn ++ pins, p.1 ≠ it) : Inv X pins σ H { s with heap := h', toks := t' } := by
  have nit : ∀ b u, H b = some u → b ≠ it := fun b u e z => by rw [z, hn] at e; cases e
  refine I.step (g' := s.gens) (d' := s.drawn) (ch := [it]) (fun b hb => ?_) (fun b o _ _ hc e _ => k b o (fun z => hc (by simp [z])) e) (fun b o _ _ hc e _ => ⟨o.slots, k b o (fun z => hc (by simp [z])) e⟩) (fun _ _ _ _ n => n)
    (fun b o hc e => ⟨o, k b o (fun z => hc (by simp [z])) e⟩) (fun _ _ e => e) (fun _ _ _ e => e) (fun b ps e => ⟨#[], by rw [e]; simp⟩) (fun m hm => ?_) (fun b u e => ?_) I.bare
  · have e : b = it := by simpa using hb
    subst e
    exact ⟨h1, hL, h2, h3⟩
  · obtain ⟨o, es, ep, ho, r⟩ := hm
    exact ⟨o, es, ep, k _ o (Ne.symm hL) ho, r⟩
  · refine (I.hok b u e).stay (fun c v hc q => k c v ?_ q) (fun _ q => q) fun _ _ q => q
    rcases hc with z | z
    · rw [z]; exact nit b u e
    · exact nit c _ z
theorem Inv.tok (I : Inv X pins σ H s) (t : Nat) : Inv X pins σ H { s with toks := t } := I.un (h' := s.heap) (t' := t) Un.refl I.hok
/-- all objects kept -/
theorem Inv.kept {t' : Nat} (I : Inv X pins σ H s) (k : ∀ b u, s.heap.get? b = some u → h'.get? b = some u) : Inv X pins σ H { s with heap := h', toks := t' } := I.un (Un.kept k) (I.hok.kept k)
/-- a new object laid and tracked -/
theorem Inv.laid {a : Addr} {o : HO} {t' : Nat} (I : Inv X pins σ H s) (k : ∀ b u, s.heap.get? b = some u → h'.get? b = some u) (hp : s.heap.objs.size ≤ a) (new : ObjOk X.prog X.w (upd H a o) h' a o) :
    Inv X pins σ (upd H a o) { s with heap := h', toks := t' } := I.un (Un.laid k hp (I.hok.fresh hp)) (I.hok.laid k hp new)
/-- an object written -/
theorem Inv.write {x e : Addr} {o : HO} {t' : Nat} (I : Inv X pins σ H s) (mu : Mut (H x)) (he : e = x ∨ H e = some (.own x)) (k : ∀ b u, b ≠ e → s.heap.get? b = some u → h'.get? b = some u) (heo : ∃ u, h'.get? e = some u)
    (new : ObjOk X.prog X.w (upd H x o) h' x o) : Inv X pins σ (upd H x o) { s with heap := h', toks := t' } := I.un (Un.write mu he k heo) (I.hok.write mu he k heo new)
theorem Inv.pins_of {pins' : List (Addr × Obj)} (I : Inv X pins σ H s) (h : ∀ p ∈ pins', s.heap.get? p.1 = some p.2 ∧ H p.1 = none ∧ p.1 ≠ X.env.locals ∧ p.1 ∉ X.fs ∧ ∀ v, p.2.data ≠ .cell v) : Inv X pins' σ H s :=
  ⟨I.ok, I.os, I.bare, I.base, I.loc, I.cell, I.free, I.freeC, fun p hp => (List.mem_append.mp hp).elim (fun z => I.pin p (List.mem_append_left _ z)) (h p), I.hok, I.len⟩

theorem nodup_ix {N : List Str} (hN : N.Nodup) {i j : Nat} {x : Str} (a : N[i]? = some x) (b : N[j]? = some x) : i = j := by
  obtain ⟨h1, e1⟩ := List.getElem?_eq_some_iff.mp a
  obtain ⟨h2, e2⟩ := List.getElem?_eq_some_iff.mp b
  exact (List.getElem_inj hN).mp (e1.trans e2.symm)

/-- a name is stored; what changed -/
theorem store_ok2 {M : Model} {A : Around} {E : Value → Shared → Prop} {i : Nat} {x : Str} {v : V} {u : Value} {Q : Unit → Shared → Prop} (I : Inv X pins σ H s) (hN : X.N.Nodup) (hi : X.N[i]? = some x) (hx : Loc X.env.scope x) (r : RelV v u)
    (h : ∀ s', Inv X pins (σ.set i (some v)) H s' → (∃ a, Heap.SameBut a s.heap s'.heap ∧ (a = X.env.locals ∨ X.env.cells.lookup x = some a)) → Q () s') (hf : X.fn x = true ∨ X.env.scope.names.lookup x = some .local := by first | exact .inl rfl | exact .inr rfl | assumption) : wpAny M A (storeName X.env x u) Q E s := by
  obtain ⟨m, hn, hl⟩ := id I.loc
  have hcls : (X.env.scope.kind == .class || (X.env.scope.kind == .module && X.env.locals != X.env.globals)) = false := by rw [I.ok.kind]; rfl
  have hiσ : i < σ.length := by rw [I.len]; exact (List.getElem?_eq_some_iff.mp hi).1
  have cne := I.cne
  have tracked : ∀ {a : Addr} {h' : Heap}, (∃ o, s.heap.get? a = some o ∧ H a = none) → Heap.SameBut a s.heap h' → HOk X.prog X.w H h' := fun {a h'} ha hs b ob e => by
    obtain ⟨_, _, hfree⟩ := ha
    refine (I.hok b ob e).stay (fun c w' hc q => (hs.2 c ?_).trans q) (fun _ q => q) fun _ _ q => q
    rintro rfl
    rcases hc with rfl | hc
    · rw [hfree] at e; cases e
    · rw [hfree] at hc; cases hc
  rcases hx with hk | hk
  · refine wpAny_storeName_local hk hn (fun h' hn' hs => ?_) hcls
    obtain ⟨oL, _, _, hoL, _⟩ := id hn
    refine h _ ⟨I.ok, I.os, I.bare, ⟨fun b o e n hb hx => ?_, fun b o e n hb hx => ?_, I.base.free, fun b o e hx => ?_, I.base.tups, I.base.frzs, I.base.tbls⟩, ⟨_, hn', fun j y v' e1 e2 e3 => ?_⟩, fun y c e => ?_, I.free, I.freeC, fun p hp => ?_, tracked ⟨oL, hoL, I.free⟩ hs, by simpa using I.len⟩ ⟨_, hs, .inl rfl⟩
    · exact (hs.2 b (Nat.ne_of_lt (Nat.lt_of_lt_of_le (Heap.lt_size e) I.ok.above))).trans (I.base.keep b o e n hb hx)
    · obtain ⟨sl, e1⟩ := I.base.slot b o e n hb hx
      exact ⟨sl, (hs.2 b (Nat.ne_of_lt (Nat.lt_of_lt_of_le (Heap.lt_size e) I.ok.above))).trans e1⟩
    · obtain ⟨o', e1⟩ := I.base.there b o e hx
      exact ⟨o', (hs.2 b (Nat.ne_of_lt (Nat.lt_of_lt_of_le (Heap.lt_size e) I.ok.above))).trans e1⟩
    · by_cases hj : j = i
      · subst hj
        rw [hi] at e1; cases e1
        rw [List.getElem?_set_self hiσ] at e2
        cases e2
        exact ⟨u, r, .inl ⟨hk, by simp⟩⟩
      · rw [List.getElem?_set_ne (Ne.symm hj)] at e2
        obtain ⟨u', r', q⟩ := hl j y v' e1 e2 e3
        refine ⟨u', r', ?_⟩
        rcases q with ⟨k, e⟩ | ⟨k, c, e, z⟩
        · refine .inl ⟨k, ?_⟩
          have : y ≠ x := fun e => hj (nodup_ix hN e1 (e ▸ hi))
          simp [this, e]
        · exact .inr ⟨k, c, e, z.sameBut hs (cne y c e)⟩
    · obtain ⟨w', z⟩ := I.cell y c e
      exact ⟨w', z.sameBut hs (cne y c e)⟩
    · obtain ⟨e, n, ne, nf, d⟩ := I.pin p hp
      exact ⟨(hs.2 p.1 ne).trans e, n, ne, nf, d⟩
  · have hfn : X.fn x = true := by
      rcases hf with z | z
      · exact z
      · rw [z] at hk; cases hk
    obtain ⟨c, hc⟩ := I.ok.has x (.inl hk)
    obtain ⟨w', z⟩ := I.cell x c hc
    refine wpAny_storeName_cell I.ok.kind hk hc z (fun h' hc' hs => ?_)
    obtain ⟨oc, hoc, hocd⟩ := id z
    refine h { s with heap := h' } ⟨I.ok, I.os, I.bare, ⟨fun b o e n hb hx => ?_, fun b o e n hb hx => ?_, I.base.free, fun b o e hx => ?_, I.base.tups, I.base.frzs, I.base.tbls⟩, ⟨m, hn.sameBut hs (Ne.symm (cne x c hc)), fun j y v' e1 e2 e3 => ?_⟩, fun y c' e => ?_, I.free, I.freeC, fun p hp => ?_, tracked ⟨oc, hoc, I.freeC x c hc⟩ hs, by simpa using I.len⟩ ⟨c, hs, .inr hc⟩
    · exact (hs.2 b (Nat.ne_of_lt (Nat.lt_of_lt_of_le (Heap.lt_size e) (I.ok.cab x c hfn hc)))).trans (I.base.keep b o e n hb hx)
    · obtain ⟨sl, e1⟩ := I.base.slot b o e n hb hx
      exact ⟨sl, (hs.2 b (Nat.ne_of_lt (Nat.lt_of_lt_of_le (Heap.lt_size e) (I.ok.cab x c hfn hc)))).trans e1⟩
    · obtain ⟨o', e1⟩ := I.base.there b o e hx
      exact ⟨o', (hs.2 b (Nat.ne_of_lt (Nat.lt_of_lt_of_le (Heap.lt_size e) (I.ok.cab x c hfn hc)))).trans e1⟩
    · by_cases hj : j = i
      · subst hj
        rw [hi] at e1; cases e1
        rw [List.getElem?_set_self hiσ] at e2
        cases e2
        exact ⟨u, r, .inr ⟨.inl hk, c, hc, hc'⟩⟩
      · rw [List.getElem?_set_ne (Ne.symm hj)] at e2
        obtain ⟨u', r', q⟩ := hl j y v' e1 e2 e3
        refine ⟨u', r', ?_⟩
        rcases q with q | ⟨k, c', e, z'⟩
        · exact .inl q
        · refine .inr ⟨k, c', e, z'.sameBut hs ?_⟩
          rintro rfl
          exact hj (nodup_ix hN e1 (I.ok.inj _ _ _ e hc ▸ hi))
    · by_cases hcc : c' = c
      · subst hcc; exact ⟨_, hc'⟩
      · obtain ⟨w2, z2⟩ := I.cell y c' e
        exact ⟨w2, z2.sameBut hs hcc⟩
    · obtain ⟨e, n, ne, nf, d⟩ := I.pin p hp
      refine ⟨(hs.2 p.1 ?_).trans e, n, ne, nf, d⟩
      intro q
      rw [q, hoc] at e
      have q' : oc = p.2 := Option.some.inj e
      exact d w' (by rw [← q']; exact hocd)
theorem store_ok {M : Model} {A : Around} {E : Value → Shared → Prop} {i : Nat} {x : Str} {v : V} {u : Value} {Q : Unit → Shared → Prop} (I : Inv X pins σ H s) (hN : X.N.Nodup) (hi : X.N[i]? = some x) (hx : Loc X.env.scope x) (r : RelV v u)
    (h : ∀ s', Inv X pins (σ.set i (some v)) H s' → Q () s') (hf : X.fn x = true ∨ X.env.scope.names.lookup x = some .local := by first | exact .inl rfl | exact .inr rfl | assumption) : wpAny M A (storeName X.env x u) Q E s :=
  store_ok2 I hN hi hx r (fun s' I' _ => h s' I') hf
/-- behind a call or a block, the state as it is -/
theorem Inv.call' {s' : Shared} {ch : List Addr} (I : Inv X pins σ H s) (ho : s'.os = s.os) (u : Un (frs X.stack) ch H H' s.heap s'.heap) (hok : HOk X.prog X.w H' s'.heap) (hg : AllBare s'.gens)
    (hch : ∀ b ∈ ch, (b ∈ X.ex ∨ X.s₀.heap.objs.size ≤ b) ∧ b ≠ X.env.locals ∧ (∀ x c, X.env.cells.lookup x = some c → c ≠ b) ∧ ∀ p ∈ X.pn ++ pins, p.1 ≠ b) : Inv X pins σ H' s' := by
  obtain ⟨h', g', d', t', o'⟩ := s'
  have e : o' = s.os := ho
  subst e
  exact I.call (g' := g') (t' := t') (d' := d') u hok hg hch
end

/-! ### the judgements -/
/-- an exception: its class, its own dict's address (where it has one), the abstract heap behind it -/
abbrev XK := Value → Option Addr → Hp → Prop
abbrev St := List (Option V)
abbrev VK := V → Hp → Prop
/-- an expression's reading; a test's; an argument list's -/
abbrev TE := St → Hp → VK → Prop
abbrev TT := St → Hp → (Bool → Hp → Prop) → Prop
abbrev TA := St → Hp → (List V → Hp → Prop) → Prop
/-- what is wanted behind a statement -/
structure Ends where
  nx : St → Hp → Prop
  rt : VK
  bk : St → Hp → Prop := fun _ _ => False
  ct : St → Hp → Prop := fun _ _ => False
abbrev TS := Ends → St → Hp → Prop

def EP (X : Cx) (pins : List (Addr × Obj)) (σ : St) (Q : VK) (u : Value) (s' : Shared) : Prop := ∃ v H', Inv X pins σ H' s' ∧ RelV v u ∧ Q v H'
def TP (X : Cx) (pins : List (Addr × Obj)) (σ : St) (Q : Bool → Hp → Prop) (b : Bool) (s' : Shared) : Prop := ∃ H', Inv X pins σ H' s' ∧ Q b H'
def AP (X : Cx) (pins : List (Addr × Obj)) (σ : St) (Q : List V → Hp → Prop) (us : List Value) (s' : Shared) : Prop := ∃ vs H', Inv X pins σ H' s' ∧ Vals vs us ∧ Q vs H'
def SP (X : Cx) (pins : List (Addr × Obj)) (D : Ends) (f : Flow) (s' : Shared) : Prop :=
  match f with
  | .next => ∃ σ' H', Inv X pins σ' H' s' ∧ D.nx σ' H'
  | .brk => ∃ σ' H', Inv X pins σ' H' s' ∧ D.bk σ' H'
  | .cont => ∃ σ' H', Inv X pins σ' H' s' ∧ D.ct σ' H'
  | .ret u => ∃ v σ' H', Inv X pins σ' H' s' ∧ RelV v u ∧ D.rt v H'

def PE (X : Cx) (e : Expr) (t : TE) : Prop :=
  ∀ (pins : List (Addr × Obj)) (s : Shared) (σ : St) (H : Hp) (Q : VK), Inv X pins σ H s → t σ H Q → wpAny (model X.prog X.w) X.A (eval e X.env) (EP X pins σ Q) X.xe s
def PT (X : Cx) (e : Expr) (t : TT) : Prop :=
  ∀ (pins : List (Addr × Obj)) (s : Shared) (σ : St) (H : Hp) (Q : Bool → Hp → Prop), Inv X pins σ H s → t σ H Q → wpAny (model X.prog X.w) X.A (isTrue e X.env (eval e X.env)) (TP X pins σ Q) X.xe s
/-- a test whatever its 'whole' is (and, or) -/
def PW (X : Cx) (e : Expr) (t : TT) : Prop :=
  ∀ (whole : Sem Value) (pins : List (Addr × Obj)) (s : Shared) (σ : St) (H : Hp) (Q : Bool → Hp → Prop), Inv X pins σ H s → t σ H Q → wpAny (model X.prog X.w) X.A (isTrue e X.env whole) (TP X pins σ Q) X.xe s
theorem PW.pt {X : Cx} {e : Expr} {t : TT} (h : PW X e t) : PT X e t := h _
/-- an argument list (no star), from the left -/
def PA (X : Cx) (es : List Expr) (t : TA) : Prop :=
  ∀ (pos : Pos) (pins : List (Addr × Obj)) (s : Shared) (σ : St) (H : Hp) (Q : List V → Hp → Prop), Inv X pins σ H s → t σ H Q → wpAny (model X.prog X.w) X.A (spliced (backTo pos (starEach es X.env))) (AP X pins σ Q) X.xe s
def PS (X : Cx) (st : Stmt) (t : TS) : Prop :=
  ∀ (pins : List (Addr × Obj)) (s : Shared) (σ : St) (H : Hp) (D : Ends), Inv X pins σ H s → t D σ H → wpAny (model X.prog X.w) X.A (exec st X.env) (SP X pins D) X.xe s
def PSs (X : Cx) (st : List Stmt) (t : TS) : Prop :=
  ∀ (pins : List (Addr × Obj)) (s : Shared) (σ : St) (H : Hp) (D : Ends), Inv X pins σ H s → t D σ H → wpAny (model X.prog X.w) X.A (execs st X.env) (SP X pins D) X.xe s
/-- weaken the end -/
theorem thn {α : Type} {t : Sem α} {Q Q' : α → Shared → Prop} {M : Model} {A : Around} {E : Value → Shared → Prop} {s : Shared} (h : wpAny M A t Q E s) (hQ : ∀ a s, Q a s → Q' a s) : wpAny M A t Q' E s := wpAny_mono h hQ fun _ _ x => x
end L2

namespace L2
open PySem PySem.Spec PyProof.Rows
section
variable {X : Cx}

/-! ### names and constants -/
def tVar (i : Nat) : TE := fun σ H Q => ∃ v, σ[i]? = some (some v) ∧ Q v H
def tC (v : V) : TE := fun _ H Q => Q v H
theorem pe_var {i : Nat} {x : Str} {pos : Pos} (hN : X.N[i]? = some x) (hv : Vis X.env.scope x) (hd : (x == ("__debug__" : Str)) = false := by decide) (hcd : (x == ("__classdict__" : Str)) = false := by decide) : PE X (.Name x pos) (tVar i) := by
  intro pins s σ H Q I h
  obtain ⟨v, e, h⟩ := h
  obtain ⟨m, hn, hl⟩ := I.loc
  obtain ⟨u, r, l⟩ := hl i x v hN e hv
  have fin : EP X pins σ Q u s := ⟨v, H, I, r, h⟩
  rcases l with ⟨hk, hm⟩ | ⟨hk, c, hc, hcell⟩
  · exact wpAny_Name (wpAny_loadName_local I.ok.kind hk hn hm fin) hd
  · rcases hk with hk | hk
    · exact wpAny_Name (wpAny_loadName_cell I.ok.kind hk hc hcell fin) hd
    · exact wpAny_Name (wpAny_loadName_free I.ok.kind hk hc hcell fin hcd) hd
theorem pe_int {i j pos} : PE X (.Constant (.int i) j pos) (tC (.int i)) := fun _ _ _ H _ I h => wpAny_Constant_int ⟨.int i, H, I.tok _, ⟨_, rfl⟩, h⟩
theorem pe_bl {b j pos} : PE X (.Constant (.bool b) j pos) (tC (.bl b)) := fun _ _ _ H _ I h => Constant_bool ⟨.bl b, H, I, rfl, h⟩
theorem pe_str {x j pos} : PE X (.Constant (.str x) j pos) (tC (.str x)) := fun _ _ _ H _ I h => Calls.Constant_str ⟨.str x, H, I.tok _, ⟨_, rfl⟩, h⟩

/-- a global name of the def -/
def Gl (X : Cx) (x : Str) : Prop := X.env.kindOf x = some .globalImplicit
theorem ld_glob {E : Value → Shared → Prop} {pins : List (Addr × Obj)} {s : Shared} {σ : St} {H : Hp} {x : Str} {u : Value} {pos : Pos} {Q : Value → Shared → Prop} (I : Inv X pins σ H s) (hg : Gl X x) (hm : X.mg x = some u) (h : Q u s)
    (hd : (x == ("__debug__" : Str)) = false := by decide) : wpAny (model X.prog X.w) X.A (eval (.Name x pos) X.env) Q E s :=
  Calls.Name_function_global I.ok.kind hg (Calls.loadGlobal_global (by rw [I.ok.glob]; exact I.mod.glob.keeps I.bk) hm h) hd
theorem ld_blt {E : Value → Shared → Prop} {pins : List (Addr × Obj)} {s : Shared} {σ : St} {H : Hp} {x : Str} {u : Value} {pos : Pos} {Q : Value → Shared → Prop} (I : Inv X pins σ H s) (hg : Gl X x) (hm : X.mg x = none) (hv : bootBuiltins x = some u) (h : Q u s)
    (hn : x ≠ "__name__" := by decide) (hd : (x == ("__debug__" : Str)) = false := by decide) : wpAny (model X.prog X.w) X.A (eval (.Name x pos) X.env) Q E s := by
  obtain ⟨mb, h1, h2⟩ := I.mod.blt
  exact Calls.Name_function_global I.ok.kind hg (Calls.loadGlobal_builtin (by rw [I.ok.glob]; exact I.mod.glob.keeps I.bk) hm (by rw [I.ok.blt]; exact h1.keeps I.bk) ((h2 x hn).trans hv) h) hd
/-- a module's constant, a class, a function, as a value -/
theorem pe_glob {x : Str} {v : V} {u : Value} {pos : Pos} (hg : Gl X x) (hm : X.mg x = some u) (r : RelV v u) (hd : (x == ("__debug__" : Str)) = false := by decide) : PE X (.Name x pos) (tC v) :=
  fun _ _ _ H _ I h => ld_glob I hg hm ⟨v, H, I, r, h⟩ hd
theorem pe_bltn {x : Str} {v : V} {u : Value} {pos : Pos} (hg : Gl X x) (hm : X.mg x = none) (hv : bootBuiltins x = some u) (r : RelV v u) (hn : x ≠ "__name__" := by decide) (hd : (x == ("__debug__" : Str)) = false := by decide) : PE X (.Name x pos) (tC v) :=
  fun _ _ _ H _ I h => ld_blt I hg hm hv ⟨v, H, I, r, h⟩ hn hd

/-! ### arithmetic -/
variable {a b : Expr} {ta tb : TE} {pos : Pos}
/-! ### comparisons -/
/-- a comparison as a value, as a test -/
def tB (t : TE) : TT := fun σ H Q => t σ H fun x H1 => ∃ c, x = .bl c ∧ Q c H1
/-- an expression whose value is a bool, as a test -/
theorem pt_val {e : Expr} {t : TE} (h : PE X e t) (he : ∀ whole, isTrue e X.env whole = (do let v ← whole; standAt e.pos; holding [v] (truthy v)) := by intro _; rfl) : PT X e (tB t) := by
  intro pins s σ H Q I hw
  refine isTrue_plain (thn (h pins s σ H _ I hw) fun v s1 ⟨x, H1, I1, r1, q1⟩ => ?_) (he _)
  obtain ⟨d, rfl, q⟩ := q1
  cases r1
  exact wpAny_truthy_bool ⟨H1, I1, q⟩

/-! ### and, or, not -/
variable {tA tB' : TT} {rest : List Expr}
def tAnd (t u : TT) : TT := fun σ H Q => t σ H fun c H1 => if c = true then u σ H1 Q else Q false H1
def tOr (t u : TT) : TT := fun σ H Q => t σ H fun c H1 => if c = true then Q true H1 else u σ H1 Q
def tNot (t : TT) : TT := fun σ H Q => t σ H fun c H1 => Q (!c) H1
theorem pw_and1 (ha : PT X a tA) : PW X (.BoolOp .And [a] pos) tA := by
  intro wh pins s σ H Q I h
  refine isTrue_and (thn (ha pins s σ H Q I h) fun c s1 e => ?_)
  cases c with
  | true => exact isTrue_and_nil e
  | false => exact e
theorem pw_or1 (ha : PT X a tA) : PW X (.BoolOp .Or [a] pos) tA := by
  intro wh pins s σ H Q I h
  refine isTrue_or (thn (ha pins s σ H Q I h) fun c s1 e => ?_)
  cases c with
  | false => exact isTrue_or_nil e
  | true => exact e
theorem pw_and (ha : PT X a tA) (hb : PW X (.BoolOp .And (b :: rest) pos) tB') : PW X (.BoolOp .And (a :: b :: rest) pos) (tAnd tA tB') := by
  intro wh pins s σ H Q I h
  refine isTrue_and (thn (ha pins s σ H _ I h) fun c s1 ⟨H1, I1, q1⟩ => ?_)
  cases c with
  | true => exact hb wh pins s1 σ H1 Q I1 q1
  | false => exact ⟨H1, I1, q1⟩
theorem pw_or (ha : PT X a tA) (hb : PW X (.BoolOp .Or (b :: rest) pos) tB') : PW X (.BoolOp .Or (a :: b :: rest) pos) (tOr tA tB') := by
  intro wh pins s σ H Q I h
  refine isTrue_or (thn (ha pins s σ H _ I h) fun c s1 ⟨H1, I1, q1⟩ => ?_)
  cases c with
  | true => exact ⟨H1, I1, q1⟩
  | false => exact hb wh pins s1 σ H1 Q I1 q1
theorem pt_not (ha : PT X a tA) : PT X (.UnaryOp .Not a pos) (tNot tA) := by
  intro pins s σ H Q I h
  exact isTrue_not (ha pins s σ H (fun c H1 => Q (!c) H1) I h)
end
end L2

namespace L2
open PySem PySem.Spec PyProof.Rows

/-! ### a list, a tuple that is read: tracked, frozen, or an object of the module -/
def SqL (K : PySem.W.Frag) (H : Hp) (a : Addr) (xs : List V) : Prop :=
  Rd H a (.lst xs) ∨
    ∃ (o : Obj) (its : Array Value) (n : Nat), K.lookup a = some o ∧ o.cls = .type "list" ∧ o.dict = none ∧ o.data = .seq its n ∧ its.size ≤ sizeLine ∧ Vals xs its.toList
def SqT (K : PySem.W.Frag) (H : Hp) (a : Addr) (xs : List V) : Prop :=
  Rd H a (.tup xs) ∨
    ∃ (o : Obj) (its : Array Value) (n : Nat), K.lookup a = some o ∧ o.cls = .type "tuple" ∧ o.data = .seq its n ∧ its.size ≤ sizeLine ∧ Vals xs its.toList
def absV : Value → Option V
  | .none => some .non
  | .bool b => some (.bl b)
  | .int i _ => some (.int i)
  | .str x _ => some (.str x)
  | .bytes b _ => some (.byt b)
  | .float b _ => some (.flt b)
  | .ref a => some (.ref a)
  | .type n => some (.ty n)
  | _ => none
theorem RelV.abs {x : V} {u : Value} (r : RelV x u) : absV u = some x := by
  cases x with
  | non => cases r; rfl
  | bl _ => cases r; rfl
  | int _ => obtain ⟨t, rfl⟩ := r; rfl
  | str _ => obtain ⟨t, rfl⟩ := r; rfl
  | byt _ => obtain ⟨t, rfl⟩ := r; rfl
  | flt _ => obtain ⟨t, rfl⟩ := r; rfl
  | ref _ => cases r; rfl
  | ty _ => cases r; rfl
theorem RelV.inj {x y : V} {u : Value} (r : RelV x u) (q : RelV y u) : x = y := Option.some.inj (r.abs.symm.trans q.abs)
theorem Vals.inj : ∀ {xs ys : List V} {us : List Value}, Vals xs us → Vals ys us → xs = ys
  | _, _, _, .nil, .nil => rfl
  | _, _, _, .cons r t, .cons r' t' => by rw [r.inj r', Vals.inj t t']
section
variable {X : Cx} {pins : List (Addr × Obj)} {σ : St} {H : Hp} {s : Shared} {a : Addr} {xs ys : List V}
theorem SqL.of {K : PySem.W.Frag} (h : H a = some (.lst xs)) : SqL K H a xs := .inl (.inl h)
theorem SqT.of {K : PySem.W.Frag} (h : H a = some (.tup xs)) : SqT K H a xs := .inl (.inl h)
theorem Inv.list (I : Inv X pins σ H s) (h : SqL X.K H a xs) : ∃ its : List Value, Vals xs its ∧ PlainL s.heap a its.toArray ∧ xs.length ≤ sizeLine := by
  rcases h with h | ⟨o, its, n, hk, hc, hd, hs, hz, r⟩
  · obtain ⟨z, its, n, r, e⟩ := h.ok I.hok
    exact ⟨its, r, ⟨_, n, e, rfl, rfl, rfl⟩, z⟩
  · refine ⟨its.toList, r, ⟨o, n, I.kIn a o hk, hc, hd, by simpa using hs⟩, ?_⟩
    have e := r.length
    simp only [Array.length_toList] at e
    omega
theorem Inv.tuple (I : Inv X pins σ H s) (h : SqT X.K H a xs) : ∃ its : List Value, Vals xs its ∧ IsTup s.heap a its.toArray ∧ xs.length ≤ sizeLine := by
  rcases h with h | ⟨o, its, n, hk, hc, hs, hz, r⟩
  · obtain ⟨z, its, r, p⟩ := h.ok I.hok
    exact ⟨its, r, p, z⟩
  · refine ⟨its.toList, r, ⟨o, I.kIn a o hk, hc, n, by simpa using hs⟩, ?_⟩
    have e := r.length
    simp only [Array.length_toList] at e
    omega
theorem Inv.list_inj (I : Inv X pins σ H s) (h : SqL X.K H a xs) (h' : SqL X.K H a ys) : xs = ys := by
  obtain ⟨its, r, ⟨o, n, e, _, _, d⟩, _⟩ := I.list h
  obtain ⟨its', r', ⟨o', n', e', _, _, d'⟩, _⟩ := I.list h'
  rw [e] at e'; cases e'
  rw [d] at d'
  injection d' with d1 _
  have : its = its' := by simpa using congrArg Array.toList d1
  subst this
  exact r.inj r'
end

/-! ### another wish about exceptions -/
abbrev Cx.wish (X : Cx) (E : Value → Shared → Prop) : Cx := { X with xe := E }
/-- no exception leaves -/
abbrev Cx.nox (X : Cx) : Cx := X.wish fun _ _ => False
theorem Cx.Ok.wish {X : Cx} (ok : X.Ok) (E : Value → Shared → Prop) : (X.wish E).Ok :=
  ⟨ok.mod, ok.kind, ok.glob, ok.blt, ok.above, ok.inj, ok.has, ok.cab, ok.hd, ok.frames, ok.stk, ok.exf, ok.bs, ok.bsz, ok.noex, ok.exfs, ok.funs, ok.frf⟩
theorem Cx.Ok.unwish {X : Cx} {E : Value → Shared → Prop} (ok : (X.wish E).Ok) : X.Ok :=
  ⟨ok.mod, ok.kind, ok.glob, ok.blt, ok.above, ok.inj, ok.has, ok.cab, ok.hd, ok.frames, ok.stk, ok.exf, ok.bs, ok.bsz, ok.noex, ok.exfs, ok.funs, ok.frf⟩
section
variable {X : Cx} {pins : List (Addr × Obj)} {σ : St} {H : Hp} {s : Shared} {E : Value → Shared → Prop}
theorem Inv.wish (I : Inv X pins σ H s) (E : Value → Shared → Prop) : Inv (X.wish E) pins σ H s := ⟨I.ok.wish E, I.os, I.bare, I.base, I.loc, I.cell, I.free, I.freeC, I.pin, I.hok, I.len⟩
theorem Inv.unwish (I : Inv (X.wish E) pins σ H s) : Inv X pins σ H s := ⟨I.ok.unwish, I.os, I.bare, I.base, I.loc, I.cell, I.free, I.freeC, I.pin, I.hok, I.len⟩
theorem SP.unwish {D : Ends} {f : Flow} {s' : Shared} (h : SP (X.wish E) pins D f s') : SP X pins D f s' := by
  cases f with
  | next => obtain ⟨σ', H', I, q⟩ := h; exact ⟨σ', H', I.unwish, q⟩
  | brk => obtain ⟨σ', H', I, q⟩ := h; exact ⟨σ', H', I.unwish, q⟩
  | cont => obtain ⟨σ', H', I, q⟩ := h; exact ⟨σ', H', I.unwish, q⟩
  | ret u => obtain ⟨v, σ', H', I, r, q⟩ := h; exact ⟨v, σ', H', I.unwish, r, q⟩
theorem PE.nox {e : Expr} {t : TE} (h : PE X.nox e t) : PE X e t := fun pins s σ H Q I hw =>
  wpAny_mono (h pins s σ H Q (I.wish _) hw) (fun _ _ ⟨v, H', I', r, q⟩ => ⟨v, H', I'.unwish, r, q⟩) fun _ _ z => False.elim z
theorem PT.nox {e : Expr} {t : TT} (h : PT X.nox e t) : PT X e t := fun pins s σ H Q I hw =>
  wpAny_mono (h pins s σ H Q (I.wish _) hw) (fun _ _ ⟨H', I', q⟩ => ⟨H', I'.unwish, q⟩) fun _ _ z => False.elim z
theorem PSs.nox {st : List Stmt} {t : TS} (h : PSs X.nox st t) : PSs X st t := fun pins s σ H D I hw =>
  wpAny_mono (h pins s σ H D (I.wish _) hw) (fun _ _ q => q.unwish) fun _ _ z => False.elim z
end

/-! ### blocks and small statements -/
section
variable {X : Cx} {st : Stmt} {rest : List Stmt} {t u : TS} {e : Expr} {te : TE} {pos : Pos}
def tNext : TS := fun D σ H => D.nx σ H
def tSeq (t u : TS) : TS := fun D σ H => t { D with nx := u D } σ H
theorem pss_nil : PSs X [] tNext := fun _ _ σ H _ I h => wpAny_execs_nil ⟨σ, H, I, h⟩
theorem pss_cons (h1 : PS X st t) (h2 : PSs X rest u) : PSs X (st :: rest) (tSeq t u) := by
  intro pins s σ H D I h
  refine wpAny_execs_cons (thn (h1 pins s σ H { D with nx := u D } I h) fun f s1 q => ?_)
  cases f with
  | next =>
    obtain ⟨σ', H', I', q⟩ := q
    exact h2 pins s1 σ' H' D I' q
  | ret v => exact q
  | brk => exact q
  | cont => exact q
theorem pss_one (h1 : PS X st t) : PSs X [st] t := by
  intro pins s σ H D I h
  refine wpAny_execs_cons (thn (h1 pins s σ H D I h) fun f s1 q => ?_)
  cases f with
  | next => exact wpAny_execs_nil q
  | ret v => exact q
  | brk => exact q
  | cont => exact q
/-- in a def's body nothing is shown -/
theorem Inv.quiet {pins : List (Addr × Obj)} {σ : St} {H : Hp} {s : Shared} (I : Inv X pins σ H s) : interactive X.env = false := by simp [interactive, I.ok.kind]
/-- an expression whose value is dropped -/
def tDrop (te : TE) : TS := fun D σ H => te σ H fun _ H1 => D.nx σ H1
theorem ps_expr (he : PE X e te) (hs : swapsWith e none pos.line X.env = pure false := by rfl) : PS X (.Expr e pos) (tDrop te) := by
  intro pins s σ H D I h
  exact wpAny_Expr_any (thn (he pins s σ H _ I h) fun v s1 ⟨x, H1, I1, r1, q1⟩ => ⟨σ, H1, I1, q1⟩) I.quiet hs
def tRet (te : TE) : TS := fun D σ H => te σ H D.rt
theorem ps_ret (he : PE X e te) : PS X (.Return (some e) pos) (tRet te) := by
  intro pins s σ H D I h
  exact wpAny_Return_some (thn (he pins s σ H _ I h) fun v s1 ⟨x, H1, I1, r1, q1⟩ => ⟨x, σ, H1, I1, r1, q1⟩)
def tIfS (c : TT) (t u : TS) : TS := fun D σ H => c σ H fun b H1 => if b = true then t D σ H1 else u D σ H1
theorem ps_if {c : Expr} {a b : List Stmt} {tc : TT} (hc : PT X c tc) (ha : PSs X a t) (hb : PSs X b u) : PS X (.If c a b pos) (tIfS tc t u) := by
  intro pins s σ H D I h
  refine wpAny_If (thn (hc pins s σ H _ I h) fun d s1 ⟨H1, I1, q1⟩ => ?_)
  cases d with
  | true => exact ha pins s1 σ H1 D I1 q1
  | false => exact hb pins s1 σ H1 D I1 q1
/-- code that the proof never comes to -/
def tNever : TS := fun _ _ _ => False
theorem pss_never {sts : List Stmt} : PSs X sts tNever := fun _ _ _ _ _ _ h => h.elim
end

/-! ### targets -/
abbrev TG := V → St → Hp → (St → Hp → Prop) → Prop
abbrev TGs := List V → St → Hp → (St → Hp → Prop) → Prop
def PG (X : Cx) (target : Expr) (t : TG) : Prop :=
  ∀ (pins : List (Addr × Obj)) (s : Shared) (σ : St) (H : Hp) (v : V) (u : Value) (Q : St → Hp → Prop), Inv X pins σ H s → RelV v u → t v σ H Q →
    wpAny (model X.prog X.w) X.A (assign target X.env u) (fun _ s' => ∃ σ' H', Inv X pins σ' H' s' ∧ Q σ' H') X.xe s
/-- several targets, one after another -/
def PGs (X : Cx) (ts : List Expr) (t : TGs) : Prop :=
  ∀ (pins : List (Addr × Obj)) (s : Shared) (σ : St) (H : Hp) (vs : List V) (us : List Value) (Q : St → Hp → Prop), Inv X pins σ H s → Vals vs us → t vs σ H Q →
    wpAny (model X.prog X.w) X.A (assignInOrder ((assignEach ts X.env).map (·.2)) us) (fun _ s' => ∃ σ' H', Inv X pins σ' H' s' ∧ Q σ' H') X.xe s
section
variable {X : Cx} {pos : Pos}
def gName (i : Nat) : TG := fun v σ H Q => Q (σ.set i (some v)) H
theorem pg_name {i : Nat} {x : Str} (hN : X.N.Nodup) (hi : X.N[i]? = some x) (hx : Loc X.env.scope x) (hf : X.fn x = true ∨ X.env.scope.names.lookup x = some .local := by first | exact .inl rfl | exact .inr rfl | assumption) : PG X (.Name x pos) (gName i) := by
  intro pins s σ H v u Q I r h
  exact wpAny_assign_Name (store_ok I hN hi hx r (fun s' I' => ⟨_, H, I', h⟩) hf)
def gNil : TGs := fun vs σ H Q => vs = [] ∧ Q σ H
def gCons (t : TG) (u : TGs) : TGs := fun vs σ H Q => ∃ v r, vs = v :: r ∧ t v σ H fun σ' H' => u r σ' H' Q
theorem pgs_nil : PGs X [] gNil := by
  intro pins s σ H vs us Q I r h
  obtain ⟨e, h⟩ := h
  subst e
  cases r
  exact assignInOrder_nil ⟨σ, H, I, h⟩
theorem pgs_cons {e : Expr} {es : List Expr} {t : TG} {u : TGs} (h1 : PG X e t) (h2 : PGs X es u)
    (hs : (assignEach (e :: es) X.env).map (·.2) = assign e X.env :: (assignEach es X.env).map (·.2) := by rfl) : PGs X (e :: es) (gCons t u) := by
  intro pins s σ H vs us Q I r h
  obtain ⟨v, vr, e1, h⟩ := h
  subst e1
  cases r with
  | cons r rr =>
    rw [hs]
    refine assignInOrder_cons (thn (h1 pins s σ H _ _ _ I r h) fun _ s1 ⟨σ1, H1, I1, q1⟩ => ?_)
    exact h2 pins s1 σ1 H1 _ _ Q I1 rr q1
/-- (a, b, ..) = a tuple of that length -/
def gTup (K : PySem.W.Frag) (n : Nat) (t : TGs) : TG := fun v σ H Q => ∃ a xs, v = .ref a ∧ SqT K H a xs ∧ xs.length = n ∧ t xs σ H Q
theorem pg_tup {es : List Expr} {k : Nat} {t : TGs} {n : Nat} (hc : X.calm = true) (h : PGs X es t)
    (hn : (assignEach es X.env).length = n := by rfl) (hst : (assignEach es X.env).findIdx? (·.1) = none := by rfl) : PG X (.Tuple es k pos) (gTup X.K n t) := by
  intro pins s σ H v u Q I r hw
  obtain ⟨a, xs, e1, hq, hl, hw⟩ := hw
  subst e1
  cases r
  obtain ⟨its, rv, ht, hz⟩ := I.tuple hq
  refine assign_Tuple_tuple (I.ok.hd hc) ht (by simp [hn, ← hl, rv.length]) hst fun h' hx => ?_
  have I1 : Inv X pins σ H { s with heap := h' } := I.kept (t' := s.toks) fun b o e => hx b o (Nat.ne_of_lt (Heap.lt_size e)) e
  exact h pins _ σ H xs _ Q I1 (by simpa using rv) hw
/-- target = value -/
def tAsg (te : TE) (g : TG) : TS := fun D σ H => te σ H fun x H1 => g x σ H1 D.nx
theorem ps_asg {tg e : Expr} {te : TE} {g : TG} (he : PE X e te) (hg : PG X tg g) (hs : swapsWithSole [tg] e pos.line X.env = pure false := by rfl) (hw : swappedStores [tg] e X.env = pure none := by rfl)
    (h1 : (assignEach [tg] X.env).map (·.2) = [assign tg X.env] := by rfl) : PS X (.Assign [tg] e pos) (tAsg te g) := by
  intro pins s σ H D I h
  refine wpAny_Assign_stores (thn (he pins s σ H _ I h) fun v s1 ⟨x, H1, I1, r1, q1⟩ => ?_) hs hw
  rw [h1]
  exact thn (hg pins s1 σ H1 x v _ I1 r1 q1) fun _ s2 q => q
/-- name = value -/
theorem ps_set {i : Nat} {x : Str} {e : Expr} {te : TE} {pos' : Pos} (hN : X.N.Nodup) (hi : X.N[i]? = some x) (hx : Loc X.env.scope x) (he : PE X e te) (hs : swapsWith e (some (.Name x pos')) pos.line X.env = pure false := by rfl) (hf : X.fn x = true ∨ X.env.scope.names.lookup x = some .local := by first | exact .inl rfl | exact .inr rfl | assumption) :
    PS X (.Assign [.Name x pos'] e pos) (tAsg te (gName i)) := by
  intro pins s σ H D I h
  refine wpAny_Assign_Name (thn (he pins s σ H _ I h) fun v s1 ⟨y, H1, I1, r1, q1⟩ => ?_) hs
  exact store_ok I1 hN hi hx r1 (fun s2 I2 => ⟨_, H1, I2, q1⟩) hf
end

/-! ### while -/
section
variable {X : Cx} {pos : Pos}
end

/-! ### what a loop or a comprehension walks -/
/-- at turn i: it yields x (the heap may grow), or it stops -/
structure It where
  go : Nat → Hp → Prop
  yld : Nat → Hp → V → Hp → Prop
  stop : Nat → Hp → Prop
/-- the iterator's own objects may turn: they are not the frame's, not pinned, younger than the entry (or a comprehension's own) -/
def FpOk (X : Cx) (pins : List (Addr × Obj)) (H : Hp) (b : Addr) : Prop :=
  H b = none ∧ b ≠ X.env.locals ∧ b ∉ X.fs ∧ (b ∈ X.ex ∨ X.s₀.heap.objs.size ≤ b) ∧ (∀ x c, X.env.cells.lookup x = some c → c ≠ b) ∧ ∀ p ∈ X.pn ++ pins, p.1 ≠ b
theorem Inv.fpOk {X : Cx} {pins : List (Addr × Obj)} {σ : St} {H H' : Hp} {s : Shared} {b : Addr} (I : Inv X pins σ H s) (hb : s.heap.objs.size ≤ b) (hn : H' b = none) : FpOk X pins H' b := by
  refine ⟨hn, Nat.ne_of_gt (Nat.lt_of_lt_of_le I.lt hb), I.nofs hb, .inr (Nat.le_trans I.sz hb), fun x c e z => ?_, fun p hp z => ?_⟩
  · obtain ⟨v, q⟩ := I.cell x c e
    exact absurd (Nat.lt_of_lt_of_le q.lt (by rw [z]; exact hb)) (Nat.lt_irrefl _)
  · exact absurd (Nat.lt_of_lt_of_le (Heap.lt_size (I.pin p hp).1) (by rw [z]; exact hb)) (Nat.lt_irrefl _)
structure Turn (P : Program) (w : World) (K : PySem.W.Frag) (tg : Expr) (J : It) (fp : List Addr) (it : Addr) (tn : Nat → Heap → Prop) : Prop where
  mem : it ∈ fp
  obj : ∀ i h, tn i h → ∀ b ∈ fp, ∃ o, h.get? b = some o ∧ ∀ v, o.data ≠ .cell v
  keep : ∀ i h h', tn i h → (∀ b ∈ fp, ∀ o, h.get? b = some o → h'.get? b = some o) → tn i h'
  item : ∀ (X : Cx), X.prog = P → X.w = w → X.K = K → X.calm = true → ∀ (i : Nat) (pins : List (Addr × Obj)) (s : Shared) (σ : St) (H : Hp) (E : Value → Shared → Prop), Inv X pins σ H s → (∀ b ∈ fp, FpOk X pins H b) → tn i s.heap → J.go i H →
    wpAny (model P w) X.A (pyNext (.ref it)) (fun r s1 => ∃ u, r = some u ∧
      wpAny (model P w) X.A (letOwnedTupleGo tg (.ref it) u) (fun _ s2 => ∃ x H', Inv X pins σ H' s2 ∧ RelV x u ∧ J.yld i H x H' ∧ tn (i + 1) s2.heap ∧ ∀ b ∈ fp, H' b = none) E s1) E s
  done : ∀ (X : Cx), X.prog = P → X.w = w → X.K = K → X.calm = true → ∀ (i : Nat) (pins : List (Addr × Obj)) (s : Shared) (σ : St) (H : Hp) (E : Value → Shared → Prop), Inv X pins σ H s → (∀ b ∈ fp, FpOk X pins H b) → tn i s.heap → J.stop i H →
    wpAny (model P w) X.A (pyNext (.ref it)) (fun r s1 => r = none ∧ Inv X pins σ H s1) E s
  self : ∀ (A : Around) (i : Nat) (s : Shared) (Q : Value → Shared → Prop) (E : Value → Shared → Prop), tn i s.heap → Q (.ref it) s → wpAny (model P w) A (pyIter (.ref it)) Q E s
abbrev TI := St → Hp → (It → Hp → Prop) → Prop
/-- an iterator has come -/
def PIE (X : Cx) (pins : List (Addr × Obj)) (σ : St) (tg : Expr) (R : It → Hp → Prop) (itv : Value) (s2 : Shared) : Prop :=
  ∃ (it : Addr) (fp : List Addr) (tn : Nat → Heap → Prop) (J : It) (H' : Hp), itv = .ref it ∧ Inv X pins σ H' s2 ∧ Turn X.prog X.w X.K tg J fp it tn ∧ tn 0 s2.heap ∧ (∀ b ∈ fp, FpOk X pins H' b) ∧ R J H'
def PI (X : Cx) (tg iter : Expr) (wi : TI) : Prop :=
  ∀ (pins : List (Addr × Obj)) (s : Shared) (σ : St) (H : Hp) (R : It → Hp → Prop), Inv X pins σ H s → wi σ H R →
    wpAny (model X.prog X.w) X.A (eval iter X.env) (fun v s1 => wpAny (model X.prog X.w) X.A (pyIter v) (PIE X pins σ tg R) X.xe s1) X.xe s

/-- the step ahead of the store is nothing for an iterator that keeps no tuple -/
theorem go_of {M : Model} {A : Around} {E : Value → Shared → Prop} {s : Shared} {tg : Expr} {it : Addr} {u : Value} {o : Obj} {n : String} {vs : Array Value} {Q : Unit → Shared → Prop} (ho : s.heap.get? it = some o) (hc : o.cls = .type n) (hd : o.data = .fields vs)
    (hn : ["enumerate", "zip", "dict_itemiterator", "dict_reverseitemiterator", "odict_iterator", "itertools.zip_longest", "itertools.pairwise"].contains n = false) (hQ : Q () s) : wpAny M A (letOwnedTupleGo tg (.ref it) u) Q E s := by
  unfold letOwnedTupleGo
  cases tg <;> first
    | exact wpAny_pure hQ
    | (cases u <;> first
        | exact wpAny_pure hQ
        | (refine wpAny_bind (wpAny_load ho ?_)
           rw [hc, hd]
           show wpAny M A (if (["enumerate", "zip", "dict_itemiterator", "dict_reverseitemiterator", "odict_iterator", "itertools.zip_longest", "itertools.pairwise"].contains n && vs[0]? == some (rawInt _)) = true then _ else _) Q E s
           rw [if_neg (by intro h; rw [hn, Bool.false_and] at h; cases h)]
           exact wpAny_pure hQ))

/-- the list at a, as it stands at each turn (a loop may append to it) -/
def Itl (K : PySem.W.Frag) (a : Addr) : It :=
  ⟨fun i H => ∃ xs x, SqL K H a xs ∧ xs[i]? = some x, fun i H x H' => H' = H ∧ ∀ xs, SqL K H a xs → xs[i]? = some x, fun i H => ∃ xs, SqL K H a xs ∧ xs.length ≤ i⟩
/-- lo, lo + 1, .. (n of them) -/
def Itr (lo : Int) (n : Nat) : It := ⟨fun i _ => i < n, fun i H x H' => H' = H ∧ x = .int (lo + i), fun i _ => n ≤ i⟩
theorem turn_list {P : Program} {w : World} {K : PySem.W.Frag} {tg : Expr} (a it : Addr) : Turn P w K tg (Itl K a) [it] it (fun i h => h.IsListIter it a i) where
  mem := by simp
  obj := fun i h st b hb => by
    have e : b = it := by simpa using hb
    subst e
    obtain ⟨o, e, c, d⟩ := st
    exact ⟨o, e, fun v z => by rw [d] at z; cases z⟩
  keep := fun i h h' st k => st.at fun o e => k it (by simp) o e
  item := by
    intro X hP hw hK hc i pins s σ H E I hf st hg
    subst hP hw hK
    obtain ⟨xs, x, hq, hx⟩ := hg
    obtain ⟨its, rv, p, hz⟩ := I.list hq
    obtain ⟨u, hu, ru⟩ := rv.get hx
    obtain ⟨f0, f1, f2, f3, f4, f5⟩ := hf it (by simp)
    refine wpAny_pyNext_list_item st p.isList (x := u) (by simpa using hu) fun h' st' sb => ?_
    have I1 : Inv X pins σ H { s with heap := h' } := I.turned (t' := s.toks) (fun b o hb e => (sb.2 b hb).trans e) f0 f1 f3 f4 f5
    obtain ⟨o, e, c, d⟩ := id st'
    exact ⟨u, rfl, go_of (s := { s with heap := h' }) e c d (by decide) ⟨x, H, I1, ru, ⟨rfl, fun ys hy => by rw [I.list_inj hy hq]; exact hx⟩, st', fun b hb => (hf b hb).1⟩⟩
  done := by
    intro X hP hw hK hc i pins s σ H E I hf st hg
    subst hP hw hK
    obtain ⟨xs, hq, hx⟩ := hg
    obtain ⟨its, rv, p, hz⟩ := I.list hq
    obtain ⟨f0, f1, f2, f3, f4, f5⟩ := hf it (by simp)
    have hl := rv.length
    exact wpAny_pyNext_list_end (I.ok.hd hc) st p.isList (by simp; omega) fun h' eb => ⟨rfl, I.turned (t' := s.toks) (fun b o hb e => eb b o hb e) f0 f1 f3 f4 f5⟩
  self := fun _ _ _ _ _ st h => wpAny_pyIter_listiter st h
theorem turn_range {P : Program} {w : World} {K : PySem.W.Frag} {tg : Expr} (it : Addr) (lo : Int) (n : Nat) : Turn P w K tg (Itr lo n) [it] it (fun i h => IsRangeIter h it (lo + (i : Nat) * 1) ((n : Int) - (i : Nat)) 1) where
  mem := by simp
  obj := fun i h st b hb => by
    have e : b = it := by simpa using hb
    subst e
    exact ⟨_, st, fun v z => by
      have z' : Data.fields _ = Data.cell v := z
      cases z'⟩
  keep := fun i h h' st k => k it (by simp) _ st
  item := by
    intro X hP hw hK hc i pins s σ H E I hf st hg
    subst hP hw hK
    obtain ⟨f0, f1, f2, f3, f4, f5⟩ := hf it (by simp)
    have W := Walks.range (prog := X.prog) (w := X.w) (I.ok.hd hc) it lo 1 n
    refine W.item i s _ _ hg st fun v h' tk hv st' kk => ?_
    obtain ⟨t, rfl⟩ := hv
    have I1 : Inv X pins σ H { s with heap := h', toks := tk } := I.turned (fun b o hb e => kk b o (by simpa using hb) e) f0 f1 f3 f4 f5
    refine ⟨_, rfl, go_of (s := { s with heap := h', toks := tk }) (n := "range_iterator") st' rfl rfl (by decide) ⟨.int (lo + i), H, I1, ⟨t, ?_⟩, ⟨rfl, rfl⟩, st', fun b hb => (hf b hb).1⟩⟩
    rw [Int.mul_one]
  done := by
    intro X hP hw hK hc i pins s σ H E I hf st hg
    subst hP hw hK
    obtain ⟨f0, f1, f2, f3, f4, f5⟩ := hf it (by simp)
    exact wpAny_pyNext_range_end (I.ok.hd hc) st (by have : n ≤ i := hg; omega) fun h' eb => ⟨rfl, I.turned (t' := s.toks) (fun b o hb e => eb b o hb e) f0 f1 f3 f4 f5⟩
  self := fun _ _ _ _ _ st h => wpAny_pyIter_rangeiter st h
end L2

namespace L2
open PySem PySem.Spec PyProof.Rows
section
variable {X : Cx} {tg : Expr}
def iList (K : PySem.W.Frag) (tl : TE) : TI := fun σ H R => tl σ H fun x H1 => ∃ a, x = .ref a ∧ (∃ xs, SqL K H1 a xs) ∧ R (Itl K a) H1
theorem pi_list {l : Expr} {tl : TE} (hl : PE X l tl) : PI X tg l (iList X.K tl) := by
  intro pins s σ H R I h
  refine thn (hl pins s σ H _ I h) fun v s1 ⟨x, H1, I1, r1, q1⟩ => ?_
  obtain ⟨a, e, ⟨xs, hq⟩, q⟩ := q1
  subst e
  cases r1
  obtain ⟨its, rv, p, hz⟩ := I1.list hq
  refine wpAny_pyIter_list p.isList ?_
  refine ⟨s1.heap.objs.size, [s1.heap.objs.size], _, _, H1, rfl, I1.kept (t' := s1.toks) fun b o e => Heap.get?_push_of_some _ e, turn_list a _, ⟨_, Heap.get?_push_size _ rfl, rfl, rfl⟩, fun b hb => ?_, q⟩
  have e : b = s1.heap.objs.size := by simpa using hb
  subst e
  exact I1.fpOk (Nat.le_refl _) (I1.hok.fresh (Nat.le_refl _))
/-- a range object just made, walked -/
theorem range_it {pins : List (Addr × Obj)} {σ : St} {H : Hp} {s : Shared} {R : It → Hp → Prop} {E : Value → Shared → Prop} {lo hi : Int} {t u v : Tok} {tk : Nat} (I : Inv X pins σ H s) (h1 : -(2 ^ 62) ≤ lo) (h2 : lo < 2 ^ 62) (h3 : -(2 ^ 62) ≤ hi) (h4 : hi < 2 ^ 62)
    (q : R (Itr lo (hi - lo).toNat) H) : wpAny (model X.prog X.w) X.A (pyIter (.ref s.heap.objs.size)) (PIE X pins σ tg R) E { s with heap := s.heap.push { cls := .type "range", data := .fields #[.int lo t, .int hi u, .int 1 v] }, toks := tk } := by
  refine wpAny_pyIter_range (IsRange.new ..) (small_one h1 h2 h3 h4) ?_
  have I1 : Inv X pins σ H { s with heap := s.heap.push { cls := .type "range", data := .fields #[.int lo t, .int hi u, .int 1 v] }, toks := tk } := I.kept fun b o e => Heap.get?_push_of_some _ e
  refine ⟨(s.heap.push { cls := .type "range", data := .fields #[.int lo t, .int hi u, .int 1 v] }).objs.size, [(s.heap.push { cls := .type "range", data := .fields #[.int lo t, .int hi u, .int 1 v] }).objs.size], _, _, H, rfl,
    I1.kept (t' := tk) fun b o e => Heap.get?_push_of_some _ e, turn_range _ lo (hi - lo).toNat, ?_, fun b hb => ?_, q⟩
  · have e1 : lo + ((0 : Nat) : Int) * 1 = lo := by simp
    have e2 : (((hi - lo).toNat : Nat) : Int) - ((0 : Nat) : Int) = Builtin.Range.rangeSize lo hi 1 := by rw [rangeSize_one]; split <;> omega
    show IsRangeIter _ _ (lo + ((0 : Nat) : Int) * 1) ((((hi - lo).toNat : Nat) : Int) - ((0 : Nat) : Int)) 1
    rw [e1, e2]
    exact Heap.get?_push_size _ rfl
  · have e : b = (s.heap.push { cls := .type "range", data := .fields #[.int lo t, .int hi u, .int 1 v] }).objs.size := by simpa using hb
    subst e
    exact I1.fpOk (Nat.le_refl _) (I1.hok.fresh (Nat.le_refl _))
def iRng1 (ta : TA) : TI := fun σ H R => ta σ H fun vs H1 => ∃ j : Int, vs = [.int j] ∧ -(2 ^ 62) ≤ j ∧ j < 2 ^ 62 ∧ R (Itr 0 j.toNat) H1
theorem pi_range1 {a : Expr} {ta : TA} {p pos : Pos} (hg : Gl X "range") (hm : X.mg "range" = none) (ha : PA X [a] ta) (hs : starEach [a] X.env = [(false, eval a X.env)] := by rfl) : PI X tg (.Call (.Name "range" p) [a] [] pos) (iRng1 ta) := by
  intro pins s σ H R I h
  refine Call_ (ld_blt I hg hm boot_range (PyProof.Rows.callWith_type1 (thn (ha pos pins s σ H _ I h) fun us s1 ⟨vs, H1, I1, r1, q1⟩ => ?_) hs rfl))
  obtain ⟨j, e, q1, q2, q⟩ := q1
  subst e
  cases r1 with
  | cons r rr =>
    cases rr
    obtain ⟨t, rfl⟩ := r
    exact call_range_1 (range_it I1 (by omega) (by omega) q1 q2 (by simpa using q))
/-! ### for -/
/-- W: the invariant by the turn and a measure; N: what the body is to reach -/
def tFor (wi : TI) (g : TG) (tb : TS) : TS := fun D σ H => wi σ H fun J H1 => ∃ W : Nat → Nat → St → Hp → Prop, (∃ m, W 0 m σ H1) ∧ ∀ i m σ H, W i m σ H →
  (J.stop i H ∧ D.nx σ H) ∨ (J.go i H ∧ ∃ N : St → Hp → Prop, (∀ σ' H', N σ' H' → ∃ m', m' < m ∧ W (i + 1) m' σ' H') ∧ ∀ x H', J.yld i H x H' → g x σ H' fun σ2 H2 => tb { D with nx := N, ct := N, bk := D.nx } σ2 H2)
/-- the records at fp as they stand -/
def pinsAt (fp : List Addr) (h : Heap) : List (Addr × Obj) := fp.filterMap fun b => (h.get? b).map fun o => (b, o)
theorem mem_pinsAt {fp : List Addr} {h : Heap} {b : Addr} {o : Obj} (hb : b ∈ fp) (e : h.get? b = some o) : (b, o) ∈ pinsAt fp h := List.mem_filterMap.mpr ⟨b, hb, by rw [e]; rfl⟩
theorem of_pinsAt {fp : List Addr} {h : Heap} {p : Addr × Obj} (hp : p ∈ pinsAt fp h) : p.1 ∈ fp ∧ h.get? p.1 = some p.2 := by
  obtain ⟨b, hb, e⟩ := List.mem_filterMap.mp hp
  cases q : h.get? b with
  | none => rw [q] at e; cases e
  | some o =>
    rw [q] at e
    have e' : (b, o) = p := Option.some.inj e
    subst e'
    exact ⟨hb, q⟩
theorem Inv.pinned {pins : List (Addr × Obj)} {σ : St} {H : Hp} {s : Shared} {fp : List Addr} (I : Inv X pins σ H s) (hf : ∀ b ∈ fp, FpOk X pins H b) (ho : ∀ b ∈ fp, ∃ o, s.heap.get? b = some o ∧ ∀ v, o.data ≠ .cell v) : Inv X (pins ++ pinsAt fp s.heap) σ H s :=
  I.pins_of fun p hp => (List.mem_append.mp hp).elim (fun z => I.pin p (List.mem_append_right _ z)) fun z => by
    obtain ⟨hb, e⟩ := of_pinsAt z
    obtain ⟨f0, f1, f2, _⟩ := hf p.1 hb
    obtain ⟨o, e', d⟩ := ho p.1 hb
    rw [e] at e'; cases e'
    exact ⟨e, f0, f1, f2, d⟩
theorem Inv.unpinned {pins pl : List (Addr × Obj)} {σ : St} {H : Hp} {s : Shared} (I : Inv X (pins ++ pl) σ H s) : Inv X pins σ H s := I.pins_of fun p hp => I.pin p (List.mem_append_right _ (List.mem_append_left _ hp))
theorem ps_for {iter : Expr} {body : List Stmt} {wi : TI} {g : TG} {tb : TS} {pos : Pos} (hp : PassesOwn (model X.prog X.w) X.A X.env X.xe) (hc : X.calm = true) (hi : PI X tg iter wi) (hg : PG X tg g) (hb : PSs X body tb)
    (hs : ∀ x, foldedSetIterable iter X.env x = pure x := by intro _; rfl) : PS X (.For tg iter body [] pos) (tFor wi g tb) := by
  intro pins s σ H D I h
  refine wpAny_For (thn (hi pins s σ H _ I h) fun v s1 h1 => thn h1 fun itv s2 h2 => ?_) hs
  obtain ⟨it, fp, tn, J, H2, e, I2, T, st2, f2, W, ⟨m0, w0⟩, turn⟩ := h2
  subst e
  -- what stays true of the iterator's objects through the loop
  have stat : ∀ {H' : Hp}, (∀ b ∈ fp, H' b = none) → ∀ b ∈ fp, FpOk X pins H' b := fun hn b hb => ⟨hn b hb, (f2 b hb).2⟩
  refine codeAny_forLoop_any (fun n s' => ∃ i σ' H', Inv X pins σ' H' s' ∧ tn i s'.heap ∧ (∀ b ∈ fp, H' b = none) ∧ W i n σ' H') ?_ m0 ⟨0, σ, H2, I2, st2, fun b hb => (f2 b hb).1, w0⟩
  rintro n s3 ⟨i, σ3, H3, I3, st3, fr3, w3⟩
  rcases turn i n σ3 H3 w3 with ⟨stop, qn⟩ | ⟨go, N, hN, step⟩
  · refine wpAny_passesOwn hp (thn (T.done X rfl rfl rfl hc i pins s3 σ3 H3 X.xe I3 (stat fr3) st3 stop) fun r s4 ⟨hr, I4⟩ => ?_)
    subst hr
    exact wpAny_execs_nil ⟨σ3, H3, I4, qn⟩
  · refine wpAny_passesOwn hp (thn (T.item X rfl rfl rfl hc i pins s3 σ3 H3 X.xe I3 (stat fr3) st3 go) fun r s4 ⟨u, hr, h4⟩ => ?_)
    subst hr
    refine wpAny_passesOwn hp (thn h4 fun _ s5 ⟨x, H5, I5, r5, y5, st5, fr5⟩ => ?_)
    have I5' := I5.pinned (stat fr5) (T.obj _ _ st5)
    refine wpAny_passesOwn hp (thn (hg _ s5 σ3 H5 x u _ I5' r5 (step x H5 y5)) fun _ s6 ⟨σ6, H6, I6, q6⟩ => ?_)
    refine wpAny_passesOwn hp (thn (hb _ s6 σ6 H6 _ I6 q6) fun f s7 q7 => ?_)
    have again : ∀ {σ7 : St} {H7 : Hp}, Inv X (pins ++ pinsAt fp s5.heap) σ7 H7 s7 → N σ7 H7 → ∃ m, m < n ∧ ∃ i σ' H', Inv X pins σ' H' s7 ∧ tn i s7.heap ∧ (∀ b ∈ fp, H' b = none) ∧ W i m σ' H' := fun {σ7 H7} I7 n7 => by
      obtain ⟨m', hm, w7⟩ := hN σ7 H7 n7
      refine ⟨m', hm, i + 1, σ7, H7, I7.unpinned, T.keep _ _ _ st5 fun b hb o e => (I7.pin (b, o) (List.mem_append_right _ (List.mem_append_right _ (mem_pinsAt hb e)))).1, fun b hb => ?_, w7⟩
      obtain ⟨o, e, d⟩ := T.obj _ _ st5 b hb
      exact (I7.pin (b, o) (List.mem_append_right _ (List.mem_append_right _ (mem_pinsAt hb e)))).2.1
    cases f with
    | next => obtain ⟨σ7, H7, I7, n7⟩ := q7; exact again I7 n7
    | cont => obtain ⟨σ7, H7, I7, n7⟩ := q7; exact again I7 n7
    | brk => obtain ⟨σ7, H7, I7, q7⟩ := q7; exact ⟨σ7, H7, I7.unpinned, q7⟩
    | ret v => obtain ⟨x7, σ7, H7, I7, r7, q7⟩ := q7; exact ⟨x7, σ7, H7, I7.unpinned, r7, q7⟩
end

/-! ### the forms one uses -/
/-- over a list that the body leaves as it is -/
theorem for_list {K : PySem.W.Frag} {a : Addr} {xs : List V} {g : TG} {tb : TS} {D : Ends} {σ : St} {H : Hp} (Pv : Nat → St → Hp → Prop) (h0 : Pv 0 σ H) (hl : ∀ i σ H, i ≤ xs.length → Pv i σ H → SqL K H a xs)
    (hs : ∀ i x σ H, xs[i]? = some x → Pv i σ H → g x σ H fun σ2 H2 => tb { D with nx := Pv (i + 1), ct := Pv (i + 1), bk := D.nx } σ2 H2) (hd : ∀ σ H, Pv xs.length σ H → D.nx σ H) :
    ∃ W : Nat → Nat → St → Hp → Prop, (∃ m, W 0 m σ H) ∧ ∀ i m σ H, W i m σ H →
      ((Itl K a).stop i H ∧ D.nx σ H) ∨ ((Itl K a).go i H ∧ ∃ N : St → Hp → Prop, (∀ σ' H', N σ' H' → ∃ m', m' < m ∧ W (i + 1) m' σ' H') ∧ ∀ x H', (Itl K a).yld i H x H' → g x σ H' fun σ2 H2 => tb { D with nx := N, ct := N, bk := D.nx } σ2 H2) := by
  refine ⟨fun i m σ H => m = xs.length - i ∧ i ≤ xs.length ∧ Pv i σ H, ⟨xs.length, by simp, Nat.zero_le _, h0⟩, ?_⟩
  rintro i m σ H ⟨rfl, hi, p⟩
  have q := hl i σ H hi p
  by_cases hlt : i < xs.length
  · refine .inr ⟨⟨xs, xs[i], q, by simp [hlt]⟩, Pv (i + 1), fun σ' H' p' => ⟨xs.length - (i + 1), by omega, rfl, hlt, p'⟩, fun x H' y => ?_⟩
    obtain ⟨e, y⟩ := y
    subst e
    exact hs i x σ _ (y xs q) p
  · have e : i = xs.length := by omega
    subst e
    exact .inl ⟨⟨xs, q, Nat.le_refl _⟩, hd σ H p⟩
theorem for_range {lo : Int} {n : Nat} {g : TG} {tb : TS} {D : Ends} {σ : St} {H : Hp} (Pv : Nat → St → Hp → Prop) (h0 : Pv 0 σ H)
    (hs : ∀ i σ H, i < n → Pv i σ H → g (.int (lo + i)) σ H fun σ2 H2 => tb { D with nx := Pv (i + 1), ct := Pv (i + 1), bk := D.nx } σ2 H2) (hd : ∀ σ H, Pv n σ H → D.nx σ H) :
    ∃ W : Nat → Nat → St → Hp → Prop, (∃ m, W 0 m σ H) ∧ ∀ i m σ H, W i m σ H →
      ((Itr lo n).stop i H ∧ D.nx σ H) ∨ ((Itr lo n).go i H ∧ ∃ N : St → Hp → Prop, (∀ σ' H', N σ' H' → ∃ m', m' < m ∧ W (i + 1) m' σ' H') ∧ ∀ x H', (Itr lo n).yld i H x H' → g x σ H' fun σ2 H2 => tb { D with nx := N, ct := N, bk := D.nx } σ2 H2) := by
  refine ⟨fun i m σ H => m = n - i ∧ i ≤ n ∧ Pv i σ H, ⟨n, by simp, Nat.zero_le _, h0⟩, ?_⟩
  rintro i m σ H ⟨rfl, hi, p⟩
  by_cases hlt : i < n
  · refine .inr ⟨hlt, Pv (i + 1), fun σ' H' p' => ⟨n - (i + 1), by omega, rfl, hlt, p'⟩, fun x H' y => ?_⟩
    obtain ⟨e, y⟩ := y
    subst e y
    exact hs i σ _ hlt p
  · have e : i = n := by omega
    subst e
    exact .inl ⟨Nat.le_refl _, hd σ H p⟩
end L2

namespace L2
open PySem PySem.Spec PyProof.Rows

abbrev R2 := V → V → Hp → VK → Prop
/-- a two-place operation on values: f is binaryOp op, inplaceOp op or compareOp op -/
def OpR (X : Cx) (f : Value → Value → Sem Value) (r : R2) : Prop :=
  ∀ (pins : List (Addr × Obj)) (s : Shared) (σ : St) (H : Hp) (x y : V) (v u : Value) (Q : VK), Inv X pins σ H s → RelV x v → RelV y u → r x y H Q →
    wpAny (model X.prog X.w) X.A (f v u) (EP X pins σ Q) X.xe s
/-- a one-place operation -/
def UnR (X : Cx) (f : Value → Sem Value) (r : V → Hp → VK → Prop) : Prop :=
  ∀ (pins : List (Addr × Obj)) (s : Shared) (σ : St) (H : Hp) (x : V) (v : Value) (Q : VK), Inv X pins σ H s → RelV x v → r x H Q →
    wpAny (model X.prog X.w) X.A (f v) (EP X pins σ Q) X.xe s
/-- a call of a value that is known (a builtin, a type) with values -/
def CallR (X : Cx) (f : Value) (r : List V → Hp → VK → Prop) : Prop :=
  ∀ (pins : List (Addr × Obj)) (s : Shared) (σ : St) (H : Hp) (xs : List V) (us : List Value) (Q : VK), Inv X pins σ H s → Vals xs us → r xs H Q →
    wpAny (model X.prog X.w) X.A (call f us) (EP X pins σ Q) X.xe s
def tOp (r : R2) (ta tb : TE) : TE := fun σ H Q => ta σ H fun x H1 => tb σ H1 fun y H2 => r x y H2 Q
def tUn (r : V → Hp → VK → Prop) (ta : TE) : TE := fun σ H Q => ta σ H fun x H1 => r x H1 Q
/-- ints in, under C, and a value out -/
def rI (C : Int → Int → Prop) (g : Int → Int → V) : R2 := fun x y H Q => ∃ i j, x = .int i ∧ y = .int j ∧ C i j ∧ Q (g i j) H
def rI0 (g : Int → Int → V) : R2 := fun x y H Q => ∃ i j, x = .int i ∧ y = .int j ∧ Q (g i j) H
def rU (g : Int → V) : V → Hp → VK → Prop := fun x H Q => ∃ i, x = .int i ∧ Q (g i) H

section
variable {X : Cx} {a b c : Expr} {ta tb tc : TE} {pos : Pos}

theorem binT (ha : PE X a ta) (hb : PE X b tb) {pins : List (Addr × Obj)} {s : Shared} {σ : St} {H : Hp} {R : V → V → Hp → Prop} (I : Inv X pins σ H s)
    (h : ta σ H fun x H1 => tb σ H1 fun y H2 => R x y H2) {Q : Value → Shared → Prop} {f : Value → Value → Sem Value}
    (hf : ∀ v u s2 x y H2, Inv X pins σ H2 s2 → RelV x v → RelV y u → R x y H2 → wpAny (model X.prog X.w) X.A (f v u) Q X.xe s2) :
    wpAny (model X.prog X.w) X.A (eval a X.env) (fun v s₁ => wpAny (model X.prog X.w) X.A (eval b X.env) (fun u s₂ => wpAny (model X.prog X.w) X.A (f v u) Q X.xe s₂) X.xe s₁) X.xe s := by
  refine thn (ha pins s σ H _ I h) fun v s1 ⟨x, H1, I1, r1, q1⟩ => ?_
  refine thn (hb pins s1 σ H1 _ I1 q1) fun u s2 ⟨y, H2, I2, r2, q2⟩ => ?_
  exact hf v u s2 x y H2 I2 r1 r2 q2

theorem pe_op {op : Operator} {r : R2} (ho : OpR X (binaryOp op) r) (ha : PE X a ta) (hb : PE X b tb) : PE X (.BinOp a op b pos) (tOp r ta tb) := by
  intro pins s σ H Q I h
  exact wpAny_BinOp (binT ha hb I h fun v u s2 x y H2 I2 rx ry q => ho pins s2 σ H2 x y v u Q I2 rx ry q)
theorem pe_un {op : UnaryOp} {r : V → Hp → VK → Prop} (ho : UnR X (unaryOp op) r) (ha : PE X a ta) : PE X (.UnaryOp op a pos) (tUn r ta) := by
  intro pins s σ H Q I h
  exact UnaryOp_ (thn (ha pins s σ H _ I h) fun v s1 ⟨x, H1, I1, r1, q1⟩ => ho pins s1 σ H1 x v Q I1 r1 q1)
/-! ### ints -/
theorem opI {f : Value → Value → Sem Value} {C : Int → Int → Prop} {g : Int → Int → Int}
    (rule : ∀ (i j : Int) (t u : Tok) (s : Shared) (Q : Value → Shared → Prop) (E : Value → Shared → Prop), C i j → Q (.int (g i j) s.toks) { s with toks := s.toks + 1 } → wpAny (model X.prog X.w) X.A (f (.int i t) (.int j u)) Q E s) :
    OpR X f (rI C fun i j => .int (g i j)) := by
  intro pins s σ H x y v u Q I rx ry h
  obtain ⟨i, j, rfl, rfl, hc, q⟩ := h
  obtain ⟨t, rfl⟩ := rx
  obtain ⟨t', rfl⟩ := ry
  exact rule i j t t' s _ _ hc ⟨.int (g i j), H, I.tok _, ⟨_, rfl⟩, q⟩
theorem opI0 {f : Value → Value → Sem Value} {g : Int → Int → Int}
    (rule : ∀ (i j : Int) (t u : Tok) (s : Shared) (Q : Value → Shared → Prop) (E : Value → Shared → Prop), Q (.int (g i j) s.toks) { s with toks := s.toks + 1 } → wpAny (model X.prog X.w) X.A (f (.int i t) (.int j u)) Q E s) :
    OpR X f (rI0 fun i j => .int (g i j)) := by
  intro pins s σ H x y v u Q I rx ry h
  obtain ⟨i, j, rfl, rfl, q⟩ := h
  obtain ⟨t, rfl⟩ := rx
  obtain ⟨t', rfl⟩ := ry
  exact rule i j t t' s _ _ ⟨.int (g i j), H, I.tok _, ⟨_, rfl⟩, q⟩
theorem opB0 {f : Value → Value → Sem Value} {g : Int → Int → Bool}
    (rule : ∀ (i j : Int) (t u : Tok) (s : Shared) (Q : Value → Shared → Prop) (E : Value → Shared → Prop), Q (.bool (g i j)) s → wpAny (model X.prog X.w) X.A (f (.int i t) (.int j u)) Q E s) :
    OpR X f (rI0 fun i j => .bl (g i j)) := by
  intro pins s σ H x y v u Q I rx ry h
  obtain ⟨i, j, rfl, rfl, q⟩ := h
  obtain ⟨t, rfl⟩ := rx
  obtain ⟨t', rfl⟩ := ry
  exact rule i j t t' s _ _ ⟨.bl (g i j), H, I, rfl, q⟩

def CDiv (i j : Int) : Prop := 0 < j ∧ j < 1073741824
def CPow (i j : Int) : Prop := 0 ≤ j ∧ j ≤ 1000000 ∧ i.natAbs < 2 ^ 64
def CMul (i j : Int) : Prop := (-(2 ^ 64) < i ∧ i < 2 ^ 64) ∨ (-(2 ^ 64) < j ∧ j < 2 ^ 64)
theorem CMul.ok {i j : Int} (h : CMul i j) : IntMulOk i j := by
  rcases h with ⟨h1, h2⟩ | ⟨h1, h2⟩
  · exact .of_left (intBits_le_64 h1 h2)
  · exact .of_right (intBits_le_64 h1 h2)
theorem op_add : OpR X (binaryOp .Add) (rI0 fun i j => .int (i + j)) := opI0 fun _ _ _ _ _ _ _ q => add_int q
theorem op_sub : OpR X (binaryOp .Sub) (rI0 fun i j => .int (i - j)) := opI0 fun _ _ _ _ _ _ _ q => sub_int q
/-- // by a positive divisor -/
theorem op_fdiv : OpR X (binaryOp .FloorDiv) (rI CDiv fun i j => .int (i / j)) := opI fun i j _ _ _ _ _ hc q => by
  have h1 : (0 : Int) < j := hc.1
  have h2 : j < 1073741824 := hc.2
  exact floordiv_int (by omega) (by rw [Int.fdiv_eq_ediv_of_nonneg i (by omega)]; exact q) (.inl (PyProof.noPylong_small (by omega)))
/-- % by a positive divisor of any size -/
theorem op_mod : OpR X (binaryOp .Mod) (rI (fun _ j => 0 < j) fun i j => .int (i % j)) := opI fun i j _ _ _ _ _ hc q => by
  have h1 : (0 : Int) < j := hc
  exact mod_int' (by omega) (by rw [Int.fmod_eq_emod_of_nonneg i (by omega)]; exact q)
theorem op_pow : OpR X (binaryOp .Pow) (rI CPow fun i j => .int (i ^ j.toNat)) := opI fun _ _ _ _ _ _ _ hc q => pow_int_small hc.1 hc.2.1 hc.2.2 q
theorem unI {f : Value → Sem Value} {g : Int → Int}
    (rule : ∀ (i : Int) (t : Tok) (s : Shared) (Q : Value → Shared → Prop) (E : Value → Shared → Prop), Q (.int (g i) s.toks) { s with toks := s.toks + 1 } → wpAny (model X.prog X.w) X.A (f (.int i t)) Q E s) :
    UnR X f (rU fun i => .int (g i)) := by
  intro pins s σ H x v Q I rx h
  obtain ⟨i, rfl, q⟩ := h
  obtain ⟨t, rfl⟩ := rx
  exact rule i t s _ _ ⟨.int (g i), H, I.tok _, ⟨_, rfl⟩, q⟩
theorem un_neg : UnR X (unaryOp .USub) (rU fun i => .int (-i)) := unI fun _ _ _ _ _ q => neg_int q
/-! ### bools among ints: n += (a < b) -/
end

/-! ### comparisons -/
/-- the scalars that == tells apart as data does -/
def scal : V → V → Bool
  | .non, .non => true | .non, .int _ => true | .int _, .non => true | .non, .bl _ => true | .bl _, .non => true | .non, .str _ => true | .str _, .non => true
  | .int _, .int _ => true | .bl _, .bl _ => true | .str _, .str _ => true | .byt _, .byt _ => true
  | .int _, .str _ => true | .str _, .int _ => true | .bl _, .str _ => true | .str _, .bl _ => true
  | _, _ => false
def rEq : R2 := fun x y H Q => scal x y = true ∧ Q (.bl (decide (x = y))) H
def rNe : R2 := fun x y H Q => scal x y = true ∧ Q (.bl (!decide (x = y))) H

theorem dec_int {i j : Int} : decide (V.int i = V.int j) = (i == j) := by
  rw [Bool.eq_iff_iff]
  simp
theorem dec_bl {i j : Bool} : decide (V.bl i = V.bl j) = (i == j) := by
  rw [Bool.eq_iff_iff]
  simp
theorem dec_str {i j : Str} : decide (V.str i = V.str j) = (i == j) := by
  rw [Bool.eq_iff_iff]
  simp
theorem dec_byt {i j : Array UInt8} : decide (V.byt i = V.byt j) = (i.toList == j.toList) := by
  rw [Bool.eq_iff_iff]
  cases i
  cases j
  simp

section
variable {X : Cx} {a b c : Expr} {ta tb tc : TE} {pos : Pos}
theorem fin_bl {pins : List (Addr × Obj)} {σ : St} {H : Hp} {s : Shared} {Q : VK} {k k' : Bool} (I : Inv X pins σ H s) (q : Q (.bl k) H) (e : k = k') : EP X pins σ Q (.bool k') s := by
  subst e
  exact ⟨.bl k, H, I, rfl, q⟩
theorem op_eq : OpR X (compareOp .Eq) rEq := by
  intro pins s σ H x y v u Q I rx ry h
  obtain ⟨hs, q⟩ := h
  cases x with
  | non =>
    cases rx
    cases y with
    | non => cases ry; exact PySem.EqNone.eq_none_none (fin_bl I q (by simp))
    | bl j => cases ry; exact PySem.EqNone.eq_none_bool (fin_bl I q (by simp))
    | int j => obtain ⟨t', rfl⟩ := ry; exact PySem.EqNone.eq_none_int (fin_bl I q (by simp))
    | str j => obtain ⟨t', rfl⟩ := ry; exact PySem.EqNone.eq_none_str (fin_bl I q (by simp))
    | _ => exact absurd (show false = true from hs) Bool.false_ne_true
  | bl i =>
    cases rx
    cases y with
    | non => cases ry; exact PySem.EqNone.eq_bool_none (fin_bl I q (by simp))
    | bl j => cases ry; exact eq_bool (fin_bl I q dec_bl)
    | str j => obtain ⟨t', rfl⟩ := ry; exact PySem.EqMixed.eq_bool_str (fin_bl I q (by simp))
    | _ => exact absurd (show false = true from hs) Bool.false_ne_true
  | int i =>
    obtain ⟨t, rfl⟩ := rx
    cases y with
    | non => cases ry; exact PySem.EqNone.eq_int_none (fin_bl I q (by simp))
    | int j => obtain ⟨t', rfl⟩ := ry; exact eq_int (fin_bl I q dec_int)
    | str j => obtain ⟨t', rfl⟩ := ry; exact PySem.EqMixed.eq_int_str (fin_bl I q (by simp))
    | _ => exact absurd (show false = true from hs) Bool.false_ne_true
  | str i =>
    obtain ⟨t, rfl⟩ := rx
    cases y with
    | non => cases ry; exact PySem.EqNone.eq_str_none (fin_bl I q (by simp))
    | bl j => cases ry; exact PySem.EqMixed.eq_str_bool (fin_bl I q (by simp))
    | int j => obtain ⟨t', rfl⟩ := ry; exact PySem.EqMixed.eq_str_int (fin_bl I q (by simp))
    | str j => obtain ⟨t', rfl⟩ := ry; exact eq_str (fin_bl I q dec_str)
    | _ => exact absurd (show false = true from hs) Bool.false_ne_true
  | byt i =>
    obtain ⟨t, rfl⟩ := rx
    cases y with
    | byt j => obtain ⟨t', rfl⟩ := ry; exact PySem.W.eq_bytes (fin_bl I q dec_byt)
    | _ => exact absurd (show false = true from hs) Bool.false_ne_true
  | _ => cases y <;> exact absurd (show false = true from hs) Bool.false_ne_true
theorem op_ne : OpR X (compareOp .NotEq) rNe := by
  intro pins s σ H x y v u Q I rx ry h
  obtain ⟨hs, q⟩ := h
  cases x with
  | non =>
    cases rx
    cases y with
    | non => cases ry; exact PySem.EqNone.ne_none_none (fin_bl I q (by simp))
    | bl j => cases ry; exact PySem.EqNone.ne_none_bool (fin_bl I q (by simp))
    | int j => obtain ⟨t', rfl⟩ := ry; exact PySem.EqNone.ne_none_int (fin_bl I q (by simp))
    | str j => obtain ⟨t', rfl⟩ := ry; exact PySem.EqNone.ne_none_str (fin_bl I q (by simp))
    | _ => exact absurd (show false = true from hs) Bool.false_ne_true
  | bl i =>
    cases rx
    cases y with
    | non => cases ry; exact PySem.EqNone.ne_bool_none (fin_bl I q (by simp))
    | bl j => cases ry; exact ne_bool (fin_bl I q (congrArg not dec_bl))
    | str j => obtain ⟨t', rfl⟩ := ry; exact PySem.EqMixed.ne_bool_str (fin_bl I q (by simp))
    | _ => exact absurd (show false = true from hs) Bool.false_ne_true
  | int i =>
    obtain ⟨t, rfl⟩ := rx
    cases y with
    | non => cases ry; exact PySem.EqNone.ne_int_none (fin_bl I q (by simp))
    | int j => obtain ⟨t', rfl⟩ := ry; exact ne_int (fin_bl I q (congrArg not dec_int))
    | str j => obtain ⟨t', rfl⟩ := ry; exact PySem.EqMixed.ne_int_str (fin_bl I q (by simp))
    | _ => exact absurd (show false = true from hs) Bool.false_ne_true
  | str i =>
    obtain ⟨t, rfl⟩ := rx
    cases y with
    | non => cases ry; exact PySem.EqNone.ne_str_none (fin_bl I q (by simp))
    | bl j => cases ry; exact PySem.EqMixed.ne_str_bool (fin_bl I q (by simp))
    | int j => obtain ⟨t', rfl⟩ := ry; exact PySem.EqMixed.ne_str_int (fin_bl I q (by simp))
    | str j => obtain ⟨t', rfl⟩ := ry; exact ne_str (fin_bl I q (congrArg not dec_str))
    | _ => exact absurd (show false = true from hs) Bool.false_ne_true
  | byt i =>
    obtain ⟨t, rfl⟩ := rx
    cases y with
    | byt j => obtain ⟨t', rfl⟩ := ry; exact PySem.W.ne_bytes (fin_bl I q (congrArg not dec_byt))
    | _ => exact absurd (show false = true from hs) Bool.false_ne_true
  | _ => cases y <;> exact absurd (show false = true from hs) Bool.false_ne_true

theorem op_lt : OpR X (compareOp .Lt) (rI0 fun i j => .bl (decide (i < j))) := opB0 fun _ _ _ _ _ _ _ q => lt_int q
theorem op_le : OpR X (compareOp .LtE) (rI0 fun i j => .bl (decide (i ≤ j))) := opB0 fun _ _ _ _ _ _ _ q => le_int q
theorem op_gt : OpR X (compareOp .Gt) (rI0 fun i j => .bl (decide (j < i))) := opB0 fun _ _ _ _ _ _ _ q => gt_int q
theorem op_ge : OpR X (compareOp .GtE) (rI0 fun i j => .bl (decide (j ≤ i))) := opB0 fun _ _ _ _ _ _ _ q => ge_int q
theorem nomark (b : Expr) {op : CmpOp} (h : op ≠ .In := by decide) (h2 : op ≠ .NotIn := by decide) : behindInMarks op b = false := by
  have e1 : (op == CmpOp.In) = false := by cases op <;> first | rfl | exact absurd rfl h
  have e2 : (op == CmpOp.NotIn) = false := by cases op <;> first | rfl | exact absurd rfl h2
  cases b <;> simp [behindInMarks, e1, e2]
/-- a comparison as a value; hm: nomark b, or (for in, not in) by with_unfolding_all rfl -/
theorem pe_cmpR {op : CmpOp} {r : R2} (ho : OpR X (compareOp op) r) (ha : PE X a ta) (hb : PE X b tb) (hm : behindInMarks op b = false) : PE X (.Compare a [op] [b] pos) (tOp r ta tb) := by
  intro pins s σ H Q I h
  exact wpAny_Compare1 (binT ha hb I h fun v u s2 x y H2 I2 rx ry q => ho pins s2 σ H2 x y v u Q I2 rx ry q) hm
/-- a reading of a value as a test -/
def tTest (t : TE) : TT := fun σ H Q => t σ H fun x H' => ∃ k, x = .bl k ∧ Q k H'
theorem pt_cmpR {op : CmpOp} {r : R2} (ho : OpR X (compareOp op) r) (ha : PE X a ta) (hb : PE X b tb) (hm : behindInMarks op b = false) : PT X (.Compare a [op] [b] pos) (tTest (tOp r ta tb)) := by
  intro pins s σ H Q I h
  refine wpAny_isTrue_Compare1 (thn (ha pins s σ H _ I h) fun v s1 ⟨x, H1, I1, r1, q1⟩ => thn (hb pins s1 σ H1 _ I1 q1) fun u s2 ⟨y, H2, I2, r2, q2⟩ =>
    thn (ho pins s2 σ H2 x y v u _ I2 r1 r2 q2) fun c s3 ⟨z, H3, I3, r3, k, e, q3⟩ => ?_) hm
  subst e
  cases r3
  exact wpAny_truthy_bool ⟨H3, I3, q3⟩
/-! ### truth -/
theorem line63 : (sizeLine : Nat) < 2 ^ 63 := by rw [sizeLine_eq]; decide
/-! ### strs and bytes -/
theorem op_add_str : OpR X (binaryOp .Add) (fun x y H Q => ∃ i j, x = .str i ∧ y = .str j ∧ i.length + j.length ≤ sizeLine ∧ Q (.str (i ++ j)) H) := by
  intro pins s σ H x y v u Q I rx ry h
  obtain ⟨i, j, rfl, rfl, hz, q⟩ := h
  obtain ⟨t, rfl⟩ := rx
  obtain ⟨t', rfl⟩ := ry
  exact add_str (fun t' tk => ⟨.str (i ++ j), H, I.tok _, ⟨_, rfl⟩, q⟩) hz
/-! ### scalar builtins, by CallR -/
theorem vals1 {x : V} {us : List Value} (r : Vals [x] us) : ∃ u, us = [u] ∧ RelV x u := by
  cases r with
  | cons r1 r2 => cases r2; exact ⟨_, rfl, r1⟩
theorem call_str_int : CallR X (.type "str") (fun xs H Q => ∃ i, xs = [.int i] ∧ i.natAbs.log2 < 1920 ∧ Q (.str (toString i)) H) := by
  intro pins s σ H xs us Q I r h
  obtain ⟨i, rfl, hz, q⟩ := h
  obtain ⟨u, rfl, t, rfl⟩ := vals1 r
  exact PySem.P.str_of_int hz ⟨.str _, H, I.tok _, ⟨_, rfl⟩, q⟩
theorem call_ord : CallR X (.builtin "ord") (fun xs H Q => ∃ x, xs = [.str x] ∧ x.length = 1 ∧ Q (.int (x.cps.getD 0 0 : Nat)) H) := by
  intro pins s σ H xs us Q I r h
  obtain ⟨x, rfl, hz, q⟩ := h
  obtain ⟨u, rfl, t, rfl⟩ := vals1 r
  exact ord_of_one hz ⟨.int _, H, I.tok _, ⟨_, rfl⟩, q⟩
end
end L2

namespace L2
open PySem PySem.Spec PyProof.Rows

/-! ### an instance, its attributes a map -/
section
variable {prog : Program} {w : World} {A : Around} {E : Value → Shared → Prop} {s : Shared} {K : PySem.W.Frag} {x dx C f : Addr} {mA : Str → Option Value} {name : Str} {v : Value}

end

/-! ### the attributes as a list of pairs -/
section
variable {P : Program} {w : World} {H H' : Hp} {h h' : Heap} {a C dx : Addr} {fs fs' : List (Str × V)}
end

/-! ### what of the text a class must have -/
structure Cls (K : PySem.W.Frag) (C : Addr) : Prop where
  pg : PySem.W.plainGet K C Str.empty = true
  hd : PySem.W.hasDictIn K C = true
  po : PySem.W.plainOver K C = true
  sa : PySem.W.findIn K (.ref C) "__setattr__" = some (some (.builtin "object.__setattr__"))
theorem Cls.get {K : PySem.W.Frag} {C : Addr} (c : Cls K C) (f : Str) : PySem.W.plainGet K C f = true := c.pg
section
variable {X : Cx} {pins : List (Addr × Obj)} {σ : St} {H : Hp} {s : Shared} {a C dx : Addr} {fs : List (Str × V)} {f : Str} {v : V} {A : Around} {E : Value → Shared → Prop}

/-- a new instance, tracked, without attributes -/
theorem Inv.made (I : Inv X pins σ H s) : Inv X pins σ (upd (upd H s.heap.objs.size (.own (s.heap.objs.size + 1))) (s.heap.objs.size + 1) (.ins C s.heap.objs.size []))
    { s with heap := (s.heap.push PySem.W.emptyDict).push (PySem.W.instObj C s.heap.objs.size) } := by
  have e1 : (s.heap.push PySem.W.emptyDict).get? s.heap.objs.size = some PySem.W.emptyDict := Heap.get?_push_size s.heap rfl
  have e2 : ((s.heap.push PySem.W.emptyDict).push (PySem.W.instObj C s.heap.objs.size)).get? (s.heap.objs.size + 1) = some (PySem.W.instObj C s.heap.objs.size) := by
    have := Heap.get?_push_size (s.heap.push PySem.W.emptyDict) (o := PySem.W.instObj C s.heap.objs.size) rfl
    rwa [Heap.size_push] at this
  have e3 : (s.heap.push PySem.W.emptyDict).Ns s.heap.objs.size (fun _ => none) := ⟨PySem.W.emptyDict, #[], _, e1, rfl, (fun e he => absurd he (by simp)), fun _ => rfl⟩
  have I1 := I.laid (a := s.heap.objs.size) (o := .own (s.heap.objs.size + 1)) (h' := s.heap.push PySem.W.emptyDict) (t' := s.toks) (fun b u q => Heap.get?_push_of_some _ q) (Nat.le_refl _) ⟨_, e1⟩
  refine I1.laid (a := s.heap.objs.size + 1) (o := .ins C s.heap.objs.size []) (t' := s.toks) (fun b u q => Heap.get?_push_of_some _ q) (Nat.le_of_eq (Heap.size_push _ _)) ?_
  have ne : s.heap.objs.size ≠ s.heap.objs.size + 1 := Nat.ne_of_lt (Nat.lt_succ_self _)
  refine ⟨by rw [upd_ne ne, upd_same], Nat.zero_le _, ne, e2, fun _ => none, (Heap.Ns1.of_empty e3).at fun o q => Heap.get?_push_of_some _ q, fun _ => True.intro, fun y hy => absurd rfl hy⟩

end

/-! ### readings and rules -/
section
variable {X : Cx} {o e value : Expr} {f : Str} {pos pos' tpos : Pos} {ta tv : TE}
end

/-! ### isinstance -/
section
variable {X : Cx} {pins : List (Addr × Obj)} {σ : St} {H : Hp} {s : Shared} {A : Around} {E : Value → Shared → Prop} {Q : Value → Shared → Prop} {c : Value} {b : Bool}
end
end L2

namespace L2
open PySem PySem.Spec PyProof.Rows

/-! ### room -/
structure Room (k : Nat) (A : Around) : Prop where
  hd : A.handled = none
  dp : A.depth + 3 * k + 5 < recursionLimit
  un : A.units + 16 * k + 200 < cLine
theorem Room.mono {j k : Nat} {A : Around} (r : Room k A) (h : j ≤ k) : Room j A := ⟨r.hd, by have := r.dp; omega, by have := r.un; omega⟩
theorem Room.deeper {k : Nat} {A : Around} (r : Room (k + 1) A) (env : Env) : Room k (A.deeper env) :=
  ⟨r.hd, by have := r.dp; show A.depth + 1 + 3 * k + 5 < _; omega, by have := r.un; show A.units + 3 + 16 * k + 200 < _; omega⟩
theorem Room.depth {k : Nat} {A : Around} (r : Room k A) : A.depth < recursionLimit := by have := r.dp; omega
theorem Room.units {k : Nat} {A : Around} (r : Room k A) : A.units + 64 < cLine := by have := r.un; omega
/-! ### argument lists and displays -/
def tNil : TA := fun _ H Q => Q [] H
def tCons (ta : TE) (tr : TA) : TA := fun σ H Q => ta σ H fun x H1 => tr σ H1 fun xs H2 => Q (x :: xs) H2
section
variable {X : Cx} {e : Expr} {es : List Expr} {te : TE} {t : TA} {pos : Pos}
theorem pa_nil : PA X [] tNil := fun _ _ _ _ H Q I h => Calls.spliced_nil ⟨[], H, I, .nil, h⟩
theorem pa_cons (ha : PE X e te) (hr : PA X es t) (hs : starEach (e :: es) X.env = (false, eval e X.env) :: starEach es X.env := by rfl) : PA X (e :: es) (tCons te t) := by
  intro pos pins s σ H Q I h
  rw [hs]
  show wpAny _ _ (spliced ((false, eval e X.env) :: backTo pos (starEach es X.env))) _ _ s
  refine Calls.spliced_cons (thn (ha pins s σ H _ I h) fun u s1 ⟨x, H1, I1, r1, q1⟩ => ?_)
  exact thn (hr pos pins s1 σ H1 _ I1 q1) fun us s2 ⟨xs, H2, I2, r2, q2⟩ => ⟨x :: xs, H2, I2, .cons r1 r2, q2⟩

/-- a tuple, a list of written items -/
def tTup (t : TA) : TE := fun σ H Q => t σ H fun xs H1 => xs.length ≤ sizeLine ∧ ∀ p, H1 p = none → Q (.ref p) (upd H1 p (.tup xs))
def tLst (t : TA) : TE := fun σ H Q => t σ H fun xs H1 => xs.length ≤ sizeLine ∧ ∀ p, H1 p = none → Q (.ref p) (upd H1 p (.lst xs))
theorem pe_tup {x1} (h : PA X es t) : PE X (.Tuple es x1 pos) (tTup t) := by
  intro pins s σ H Q I hq
  refine wpAny_Tuple_spliced (thn (h pos pins s σ H _ I hq) fun us s1 ⟨xs, H1, I1, r, z, q⟩ => ⟨by rw [← r.length]; exact z, ?_⟩)
  have hf : H1 s1.heap.objs.size = none := I1.hok.fresh (Nat.le_refl _)
  refine ⟨.ref s1.heap.objs.size, upd H1 s1.heap.objs.size (.tup xs), I1.laid (t' := s1.toks) (fun b u e => Heap.get?_push_of_some _ e) (Nat.le_refl _) ?_, rfl, q _ hf⟩
  exact ⟨z, us, r, ⟨_, Heap.get?_push_size _ rfl, rfl, _, rfl⟩⟩
theorem pe_lst (h : PA X es t) : PE X (.List es pos) (tLst t) := by
  intro pins s σ H Q I hq
  refine wpAny_List_spliced (thn (h pos pins s σ H _ I hq) fun us s1 ⟨xs, H1, I1, r, z, q⟩ => ⟨by rw [← r.length]; exact z, ?_⟩)
  have hf : H1 s1.heap.objs.size = none := I1.hok.fresh (Nat.le_refl _)
  refine ⟨.ref s1.heap.objs.size, upd H1 s1.heap.objs.size (.lst xs), I1.laid (t' := s1.toks) (fun b u e => Heap.get?_push_of_some _ e) (Nat.le_refl _) ?_, rfl, q _ hf⟩
  exact ⟨z, us, 0, r, Heap.get?_push_size _ rfl⟩
end

/-! ### what a def promises -/
/-- a def's promise: the bound arguments in the parameters' order, the heap, the wanted end, the wanted exception -/
abbrev Sp := List V → Hp → VK → XK → Prop
/-- how an exception lies behind a call (file 08 gives it): the callers' frames, abstract heap and state ahead of the call, the wish, the exception, the state -/
abbrev CXT := List Env → Hp → Shared → XK → Value → Shared → Prop

/-- the state at a call -/
structure Env0 (P : Program) (w : World) (K : PySem.W.Frag) (mg : Str → Option Value) (base : Heap) (A : Around) (outer : List Env) (s : Shared) (H : Hp) : Prop where
  frames : A.frames = some outer
  mod : Mod K mg base
  bs : ∀ b o, base.get? b = some o → s.heap.get? b = some o ∧ H b = none
  bsz : base.objs.size ≤ s.heap.objs.size
  funs : s.heap.FunFrames base outer
  frf : ∀ b ∈ frs outer, H b = none
  hok : HOk P w H s.heap
  bare : AllBare s.gens
/-- a call's end -/
def CE (outer : List Env) (P : Program) (w : World) (H : Hp) (s : Shared) (Q : VK) (u : Value) (s' : Shared) : Prop :=
  ∃ v H', s'.os = s.os ∧ AllBare s'.gens ∧ Un (frs outer) [] H H' s.heap s'.heap ∧ HOk P w H' s'.heap ∧ RelV v u ∧ Q v H'
def CR (CX : CXT) (outer : List Env) (P : Program) (w : World) (H : Hp) (s : Shared) (Q : VK) (E : XK) (r : Result) (s' : Shared) : Prop :=
  match r with
  | .ok (.ret u) => CE outer P w H s Q u s'
  | .ok _ => False
  | .error e => CX outer H s E e s'
structure FnOk (P : Program) (w : World) (K : PySem.W.Frag) (mg : Str → Option Value) (base : Heap) (CX : CXT) (k : Nat) (f : Addr) (fd : FuncData) (ps : List Str) (sp : Sp) : Prop where
  len : ∀ vs H Q E, sp vs H Q E → vs.length = ps.length
  run : ∀ (A : Around) (outer : List Env) (s : Shared) (H : Hp) (args : Args) (us : List Value) (vs : List V) (Q : VK) (E : XK), Room k A → Env0 P w K mg base A outer s H → BindsTo s fd args (ps.zip us) → Vals vs us → sp vs H Q E →
    codeAny (model P w) A (.call (.ref f) args) (CR CX outer P w H s Q E) s
theorem FnOk.mono {P : Program} {w : World} {K : PySem.W.Frag} {mg : Str → Option Value} {base : Heap} {CX : CXT} {j k : Nat} {f : Addr} {fd : FuncData} {ps : List Str} {sp : Sp} (F : FnOk P w K mg base CX j f fd ps sp) (h : j ≤ k) :
    FnOk P w K mg base CX k f fd ps sp := ⟨F.len, fun A outer s H args us vs Q E hr => F.run A outer s H args us vs Q E (hr.mono h)⟩
/-- a weaker promise -/
theorem FnOk.imp {P : Program} {w : World} {K : PySem.W.Frag} {mg : Str → Option Value} {base : Heap} {CX : CXT} {k : Nat} {f : Addr} {fd : FuncData} {ps : List Str} {sp sp' : Sp} (F : FnOk P w K mg base CX k f fd ps sp)
    (h : ∀ vs H Q E, sp' vs H Q E → sp vs H Q E) : FnOk P w K mg base CX k f fd ps sp' :=
  ⟨fun vs H Q E q => F.len vs H Q E (h _ _ _ _ q), fun A outer s H args us vs Q E hr he hb hv hs => F.run A outer s H args us vs Q E hr he hb hv (h _ _ _ _ hs)⟩

section
variable {X : Cx} {pins : List (Addr × Obj)} {σ : St} {H : Hp} {s s' : Shared}
/-- from a body: what a callee wants -/
theorem Inv.env0 (I : Inv X pins σ H s) : Env0 X.prog X.w X.K X.mg X.base X.A X.stack s H :=
  ⟨I.ok.frames, I.ok.mod, I.bs, Nat.le_trans I.ok.bsz I.sz, I.stack, I.stkFree, I.hok, I.bare⟩
/-- behind a call -/
theorem Inv.after {Q : VK} {u : Value} (I : Inv X pins σ H s) (h : CE X.stack X.prog X.w H s Q u s') : EP X pins σ Q u s' := by
  obtain ⟨v, H', os, bare, un, hok, r, q⟩ := h
  obtain ⟨hh, g, d, t, os'⟩ := s'
  obtain rfl : os' = s.os := os
  exact ⟨v, H', I.call (h' := hh) (g' := g) (d' := d) (t' := t) (ch := []) un hok bare (fun b z => absurd z (by simp)), r, q⟩
end

/-! ### calls -/
/-- f(..): the written arguments, then the defaults dvs; E: what is wanted of an exception -/
def tCall (sp : Sp) (dvs : List V) (E : XK) (t : TA) : TE := fun σ H Q => t σ H fun vs H1 => sp (vs ++ dvs) H1 Q E
/-- how the parameters are bound: us the positional arguments, kw the keywords' values by name, ds the defaults that fill up -/
def Binds (K : PySem.W.Frag) (fd : FuncData) (ps : List Str) (ds : List Value) : Prop :=
  ∀ (s : Shared) (us : List Value), K.In s.heap → (us ++ ds).length = ps.length → BindsTo s fd ⟨us, []⟩ (ps.zip (us ++ ds))
/-- every parameter is given -/
theorem Binds.all {K : PySem.W.Frag} {fd : FuncData} {ps : List Str} (h : ∀ us : List Value, us.length = ps.length → bindArgs fd ⟨us, []⟩ = pure (ps.zip us)) : Binds K fd ps [] := fun s us _ hl => by
  rw [List.append_nil] at hl ⊢
  exact .of_eq (h us hl)

/-- an exception of a callee reaches what this body wants of exceptions -/
def Passes (CX : CXT) (X : Cx) (E : XK) : Prop := ∀ (pins : List (Addr × Obj)) (σ : St) (H : Hp) (s : Shared) (e : Value) (s' : Shared), Inv X pins σ H s → CX X.stack H s E e s' → X.xe e s'

section
variable {X : Cx} {CX : CXT} {k : Nat} {f C : Addr} {fd : FuncData} {ps : List Str} {sp : Sp} {dvs : List V} {ds : List Value} {E : XK} {x m : Str} {p pos apos : Pos} {e o : Expr} {es : List Expr} {ta : TE} {t : TA}

/-- the callee runs -/
theorem run_fn {pins : List (Addr × Obj)} {σ : St} {H : Hp} {s : Shared} {Q : VK} {us : List Value} {vs : List V} (F : FnOk X.prog X.w X.K X.mg X.base CX k f fd ps sp) (hr : Room k X.A) (hb : Binds X.K fd ps ds) (hd : Vals dvs ds) (hx : Passes CX X E)
    (I : Inv X pins σ H s) (r : Vals vs us) (h : sp (vs ++ dvs) H Q E) : wpAny (model X.prog X.w) X.A (call (.ref f) us) (EP X pins σ Q) X.xe s := by
  have r2 : Vals (vs ++ dvs) (us ++ ds) := r.append hd
  have hl : (us ++ ds).length = ps.length := by rw [← r2.length]; exact F.len _ _ _ _ h
  refine wpAny_call (codeAny_mono (F.run X.A X.stack s H ⟨us, []⟩ (us ++ ds) (vs ++ dvs) Q E hr I.env0 (hb s us I.kIn hl) r2 h) fun r s' hq => ?_)
  cases r with
  | error e => exact hx pins σ H s e s' I hq
  | ok fl =>
    cases fl with
    | ret u => exact I.after hq
    | next => exact False.elim hq
    | brk => exact False.elim hq
    | cont => exact False.elim hq

theorem pe_call (F : FnOk X.prog X.w X.K X.mg X.base CX k f fd ps sp) (hr : Room k X.A) (hg : Gl X x) (hm : X.mg x = some (.ref f)) (hk : PySem.W.keepIn X.K (.ref f) = true) (hb : Binds X.K fd ps ds) (hd : Vals dvs ds) (hx : Passes CX X E)
    (ha : PA X (e :: es) t) (hdb : (x == ("__debug__" : Str)) = false := by decide) (he : starEach (e :: es) X.env = (false, eval e X.env) :: starEach es X.env := by rfl) (hpl : (backTo pos (starEach es X.env)).any (·.1) = false := by rfl) :
    PE X (.Call (.Name x p) (e :: es) [] pos) (tCall sp dvs E t) := by
  intro pins s σ H Q I h
  refine wpAny_Call_Name_kw (ld_glob I hg hm ?_ hdb)
  refine PySem.W.callWith_K (h₀ := X.base) I.ok.mod.kin hk (thn (ha pos pins s σ H _ I h) fun us s1 ⟨vs, H1, I1, r, q⟩ => ⟨I1.kIn, ?_⟩) he hpl
  exact run_fn F hr hb hd hx I1 r q
end

/-! ### keywords -/
section
variable {X : Cx} {CX : CXT} {k : Nat} {f C : Addr} {fd : FuncData} {ps ks : List Str} {sp : Sp} {E : XK} {x m : Str} {p pos apos kpos : Pos} {e o : Expr} {es : List Expr} {kws : List Keyword} {te ta : TE} {t tk : TA} {nm : Option Str}
variable {g : List Value → List Value → List Value} {gV : List V → List V → List V}
end

/-! ### a def's body keeps its promise -/
/-- names: the parameters first -/
structure FnScope (N P : List Str) (sc : Scope) : Prop where
  kind : sc.kind = .function
  co : sc.isCoroutine = false
  gen : sc.isGenerator = false
  nd : N.Nodup
  pre : N.take P.length = P
  par : ∀ x ∈ P, sc.names.lookup x = some .local ∨ sc.names.lookup x = some .cell
  nofree : ∀ y ∈ sc.names, y.2 ≠ .free

theorem bindL_out {kindOf : Str → Option NameKind} {x : Str} : ∀ {binds : List (Str × Value)} {m : Str → Option Value}, (∀ v, (x, v) ∉ binds) → bindL kindOf binds m x = m x
  | [], _, _ => rfl
  | (n, v) :: r, m, h => by
    unfold bindL
    rw [bindL_out fun w hw => h w (List.mem_cons_of_mem _ hw)]
    split
    · have : x ≠ n := by rintro rfl; exact h v List.mem_cons_self
      simp [this]
    · rfl
theorem bindC_out {kindOf : Str → Option NameKind} {x : Str} : ∀ {binds : List (Str × Value)} {m : Str → Option Value}, (∀ v, (x, v) ∉ binds) → bindC kindOf binds m x = m x
  | [], _, _ => rfl
  | (n, v) :: r, m, h => by
    unfold bindC
    rw [bindC_out fun w hw => h w (List.mem_cons_of_mem _ hw)]
    split
    · rfl
    · have : x ≠ n := by rintro rfl; exact h v List.mem_cons_self
      simp [this]
theorem bindL_get {kindOf : Str → Option NameKind} {x : Str} {v : Value} : ∀ {P : List Str} {vs : List Value} {i : Nat} {m : Str → Option Value}, P.Nodup → P[i]? = some x → vs[i]? = some v → kindOf x = some .local →
    bindL kindOf (P.zip vs) m x = some v
  | [], _, _, _, _, h, _, _ => by simp at h
  | _ :: _, [], _, _, _, _, h, _ => by simp at h
  | p :: P, w :: vs, 0, m, nd, h1, h2, hk => by
    simp at h1 h2; subst h1; subst h2
    show bindL kindOf ((p, w) :: P.zip vs) m p = _
    unfold bindL
    rw [bindL_out fun v hv => (List.nodup_cons.mp nd).1 (List.of_mem_zip hv).1, if_pos hk]
    simp
  | p :: P, w :: vs, i + 1, m, nd, h1, h2, hk => by
    show bindL kindOf ((p, w) :: P.zip vs) m x = _
    unfold bindL
    exact bindL_get (i := i) (List.nodup_cons.mp nd).2 (by simpa using h1) (by simpa using h2) hk
theorem bindC_get {kindOf : Str → Option NameKind} {x : Str} {v : Value} : ∀ {P : List Str} {vs : List Value} {i : Nat} {m : Str → Option Value}, P.Nodup → P[i]? = some x → vs[i]? = some v → kindOf x ≠ some .local →
    bindC kindOf (P.zip vs) m x = some v
  | [], _, _, _, _, h, _, _ => by simp at h
  | _ :: _, [], _, _, _, _, h, _ => by simp at h
  | p :: P, w :: vs, 0, m, nd, h1, h2, hk => by
    simp at h1 h2; subst h1; subst h2
    show bindC kindOf ((p, w) :: P.zip vs) m p = _
    unfold bindC
    rw [bindC_out fun v hv => (List.nodup_cons.mp nd).1 (List.of_mem_zip hv).1, if_neg hk]
    simp
  | p :: P, w :: vs, i + 1, m, nd, h1, h2, hk => by
    show bindC kindOf ((p, w) :: P.zip vs) m x = _
    unfold bindC
    exact bindC_get (i := i) (List.nodup_cons.mp nd).2 (by simpa using h1) (by simpa using h2) hk

/-- the names' values at the entry -/
def start (N : List Str) (vs : List V) : St := vs.map some ++ List.replicate (N.length - vs.length) none

/-- the context of a def's body, at its entry; an exception leaves the frame, then lies as CX says -/
def cxOf (CX : CXT) (P : Program) (w : World) (K : PySem.W.Frag) (mg : Str → Option Value) (base : Heap) (N : List Str) (qual : Str) (scope : Scope) (f : Addr) (cd : Value) (A : Around) (outer : List Env) (s : Shared) (H : Hp) (E : XK) : Cx where
  prog := P
  w := w
  K := K
  mg := mg
  base := base
  A := A.deeper (envOfC qual scope s.heap.objs.size f cd)
  N := N
  s₀ := s
  H₀ := H
  env := envOfC qual scope s.heap.objs.size f cd
  outer := outer
  stack := envOfC qual scope s.heap.objs.size f cd :: outer
  ex := []
  calm := true
  fn := fun _ => true
  pn := []
  xe := fun e s' => wpAny (model P w) (A.deeper (envOfC qual scope s.heap.objs.size f cd)) (leaving (envOfC qual scope s.heap.objs.size f cd) e) (fun _ s'' => CX outer H s E e s'') (fun e' s'' => CX outer H s E e' s'') s'

theorem cell_has {sc : Scope} {n : Nat} {x : Str} (h : sc.names.lookup x = some .cell) : ∃ c, (cellsFrom n sc.names []).lookup x = some c := by
  have q := PySem.W.cellsFrom_some sc.names n [] (.inl h)
  exact Option.isSome_iff_exists.mp q

theorem inv_start {CX : CXT} {P : Program} {w : World} {K : PySem.W.Frag} {mg : Str → Option Value} {base : Heap} {N ps : List Str} {qual : Str} {scope : Scope} {f : Addr} {cd : Value} {A : Around} {outer : List Env} {s s1 : Shared} {H : Hp} {E : XK} {us : List Value} {vs : List V}
    (S : FnScope N ps scope) (hd : A.handled = none) (e0 : Env0 P w K mg base A outer s H) (hl : vs.length = ps.length) (r : Vals vs us)
    (x : InCallC s s.heap.objs.size (bindL (envOfC qual scope s.heap.objs.size f cd).kindOf (ps.zip us) fun _ => none) (cellsFrom (s.heap.objs.size + 1) scope.names []) (bindC (envOfC qual scope s.heap.objs.size f cd).kindOf (ps.zip us) fun _ => none) s1) :
    Inv (cxOf CX P w K mg base N qual scope f cd A outer s H E) [] (start N vs) H s1 := by
  have hpl : ps.length ≤ N.length := by have := congrArg List.length S.pre; rw [List.length_take] at this; omega
  obtain ⟨h1, tk, rfl, hk⟩ := x.done
  have noA : ∀ b : Addr, b ∉ (cxOf CX P w K mg base N qual scope f cd A outer s H E).ex := fun b z => absurd (show b ∈ ([] : List Addr) from z) (by simp)
  refine ⟨⟨e0.mod, S.kind, rfl, rfl, Nat.le_refl _, fun y z c h1 h2 => ?_, fun y hy => ?_, fun y c _ h => ?_, fun _ => hd, Around.frames_deeper e0.frames, .inr ⟨rfl, rfl⟩, fun b z => absurd z (noA b), e0.bs, e0.bsz, fun b _ _ => noA b, fun b z => absurd z (noA b), e0.funs, e0.frf⟩,
    rfl, e0.bare, Un.kept hk, ⟨_, x.toInCall.ns, fun i y v h1 h2 h3 => ?_⟩, fun y c h => ⟨_, x.cell y c h⟩, e0.hok.fresh (Nat.le_refl _), fun y c h => ?_, fun p hp => absurd (show p ∈ ([] : List (Addr × Obj)) from hp) (by simp), e0.hok.kept hk, ?_⟩
  · exact name_of_addr x.apart (PySem.mem_of_lookup h1) (PySem.mem_of_lookup h2)
  · have hy : scope.names.lookup y = some .cell ∨ scope.names.lookup y = some .free := hy
    rcases hy with hy | hy
    · exact cell_has hy
    · exact absurd rfl (S.nofree _ (PySem.mem_of_lookup hy))
  · exact Nat.le_of_lt (x.above y c (PySem.mem_of_lookup h))
  · have hi : i < vs.length := by
      unfold start at h2
      by_cases hi : i < vs.length
      · exact hi
      · rw [List.getElem?_append_right (by simpa using hi)] at h2
        rw [List.getElem?_replicate] at h2
        split at h2 <;> cases h2
    have ha : vs[i]? = some v := by
      unfold start at h2
      rw [List.getElem?_append_left (by simpa using hi), List.getElem?_map] at h2
      cases e : vs[i]? with
      | none => rw [e] at h2; cases h2
      | some a => rw [e] at h2; cases h2; rfl
    obtain ⟨u, hu, rv⟩ := r.get ha
    have hp : ps[i]? = some y := by
      rw [← S.pre, List.getElem?_take_of_lt (by omega)]; exact h1
    have ndP : ps.Nodup := by rw [← S.pre]; exact S.nd.sublist (List.take_sublist _ _)
    refine ⟨u, rv, ?_⟩
    rcases S.par y (List.mem_of_getElem? hp) with k | k
    · exact .inl ⟨k, bindL_get ndP hp hu k⟩
    · obtain ⟨c, e⟩ := cell_has (n := s.heap.objs.size + 1) k
      refine .inr ⟨.inl k, c, e, ?_⟩
      have q := x.cell y c e
      rw [bindC_get ndP hp hu (by show scope.names.lookup y ≠ _; rw [k]; decide)] at q
      exact q
  · exact e0.hok.fresh (Nat.le_of_lt (x.above y c (PySem.mem_of_lookup h)))
  · unfold start
    show _ = N.length
    rw [List.length_append, List.length_map, List.length_replicate]
    omega

/-- THE RULE: a def (or a method) of the text, by its body. The body's reading t is chosen for each entry; it is run at the parameters' values -/
theorem fn_of {CX : CXT} {P : Program} {w : World} {K : PySem.W.Frag} {mg : Str → Option Value} {base : Heap} {k : Nat} {f : Addr} {name qual : Str} {params : Arguments} {body : List Stmt} {scope : Scope} {dV kV doc pm cdv ct oc : Value} {an od : Option Addr}
    {osl : Array (Option Value)} {N ps : List Str} {sp : Sp} (lk : K.lookup f = some ⟨oc, od, .func (PySem.W.fnOf name qual params body scope dV kV doc pm an cdv ct), osl⟩) (hcd : PySem.W.codeIn K cdv qual = true) (S : FnScope N ps scope)
    (len : ∀ vs H Q E, sp vs H Q E → vs.length = ps.length)
    (hbody : ∀ (A : Around) (outer : List Env) (s : Shared) (H : Hp) (vs : List V) (Q : VK) (E : XK), Room k (A.deeper (envOfC qual scope s.heap.objs.size f cdv)) → sp vs H Q E →
      ∃ t, PSs (cxOf CX P w K mg base N qual scope f cdv A outer s H E) body t ∧ t { nx := fun _ H' => Q .non H', rt := Q } (start N vs) H) :
    FnOk P w K mg base CX (k + 1) f (PySem.W.fnOf name qual params body scope dV kV doc pm an cdv ct) ps sp := by
  refine ⟨len, fun A outer s H args us vs Q E hr e0 hb r hsp => ?_⟩
  have hl := len _ _ _ _ hsp
  have KX : K.In s.heap := e0.mod.kin.keeps fun b o e => (e0.bs b o e).1
  have lim : s.heap.NoLimit := e0.mod.nolimit.keeps fun b o e => (e0.bs b o e).1
  have hkind : ∀ y ∈ ps.zip us, scope.names.lookup y.1 = some .local ∨ (scope.names.lookup y.1 = some .cell ∧ ((cellsFrom (s.heap.objs.size + 1) scope.names []).lookup y.1).isSome = true) := fun ⟨n, v⟩ hy => by
    rcases S.par n (List.of_mem_zip hy).1 with q | q
    · exact .inl q
    · exact .inr ⟨q, PySem.W.cellsFrom_some _ _ _ (.inl q)⟩
  refine codeAny_call_function hr.depth (KX _ _ lk) rfl S.co S.gen rfl (PySem.W.codeRec_of KX hcd) (hb _ _ _ _ ?_)
  refine wpAny_newFunctionEnv_cells S.kind hkind fun env he s1 x => ?_
  subst he
  refine ⟨lim.keeps x.toInCall.keep, codeAny_func ?_⟩
  obtain ⟨t, ht, hq⟩ := hbody A outer s H vs Q E (hr.deeper _) hsp
  have I : Inv (cxOf CX P w K mg base N qual scope f cdv A outer s H E) [] (start N vs) H s1 := inv_start S hr.hd e0 hl r x
  refine wpAny_mono (ht [] s1 (start N vs) H _ I hq) (fun fl s' hs => ?_) fun e s' hs => hs
  have fin : ∀ {σ' : St} {H' : Hp} {v : V} {u : Value}, Inv (cxOf CX P w K mg base N qual scope f cdv A outer s H E) [] σ' H' s' → RelV v u → Q v H' → CE outer P w H s Q u s' :=
    fun {σ' H' v u} J rv q => ⟨v, H', J.os, J.bare, J.base, J.hok, rv, q⟩
  cases fl with
  | ret u =>
    obtain ⟨v, σ', H', J, rv, q⟩ := hs
    exact fin J rv q
  | next =>
    obtain ⟨σ', H', J, q⟩ := hs
    exact fin (v := V.non) (u := Value.none) J rfl q
  | brk =>
    obtain ⟨_, _, _, q⟩ := hs
    exact False.elim q
  | cont =>
    obtain ⟨_, _, _, q⟩ := hs
    exact False.elim q
end L2

namespace L2
open PySem PySem.Spec PyProof.Rows
section
variable {X : Cx} {x : Str} {p pos : Pos} {e : Expr} {es : List Expr} {t : TA} {id T : String} {r : List V → Hp → VK → Prop}

def tCB (r : List V → Hp → VK → Prop) (t : TA) : TE := fun σ H Q => t σ H fun vs H1 => r vs H1 Q
/-- f(e, ..), f a built-in function -/
theorem pe_callB (hc : CallR X (.builtin id) r) (hg : Gl X x) (hm : X.mg x = none) (hv : bootBuiltins x = some (.builtin id)) (ha : PA X (e :: es) t) (hn : x ≠ "__name__" := by decide) (hdb : (x == ("__debug__" : Str)) = false := by decide)
    (he : starEach (e :: es) X.env = (false, eval e X.env) :: starEach es X.env := by rfl) (hpl : (backTo pos (starEach es X.env)).any (·.1) = false := by rfl) : PE X (.Call (.Name x p) (e :: es) [] pos) (tCB r t) := by
  intro pins s σ H Q I h
  refine wpAny_Call_Name_kw (ld_blt I hg hm hv ?_ hn hdb)
  exact PyProof.Rows.callWith_builtin1 (thn (ha pos pins s σ H _ I h) fun us s1 ⟨vs, H1, I1, r1, q1⟩ => hc pins s1 σ H1 vs us Q I1 r1 q1) he hpl
/-- T(e, ..), T a built-in type -/
theorem pe_callTy (hc : CallR X (.type T) r) (hg : Gl X x) (hm : X.mg x = none) (hv : bootBuiltins x = some (.type T)) (ha : PA X (e :: es) t) (hn : x ≠ "__name__" := by decide) (hdb : (x == ("__debug__" : Str)) = false := by decide)
    (he : starEach (e :: es) X.env = (false, eval e X.env) :: starEach es X.env := by rfl) (hpl : (backTo pos (starEach es X.env)).any (·.1) = false := by rfl) : PE X (.Call (.Name x p) (e :: es) [] pos) (tCB r t) := by
  intro pins s σ H Q I h
  refine wpAny_Call_Name_kw (ld_blt I hg hm hv ?_ hn hdb)
  exact PyProof.Rows.callWith_type1 (thn (ha pos pins s σ H _ I h) fun us s1 ⟨vs, H1, I1, r1, q1⟩ => hc pins s1 σ H1 vs us Q I1 r1 q1) he hpl
end
end L2

namespace HT
open PySem PyProof.Rows

section
open PySem.SeqAt
open PySem.AutoSeq1 (wpAny_loadPart')
open PySem.MeetsSeq PySem.MeetsSeq2 PySem.MeetsSeq3

end

section
variable {prog : Program} {w : World} {A : Around} {E : Value → Shared → Prop} {s : Shared}

/-! ### t[a:b], not the whole -/
/-- a slice's bound as a place among n (d where it is left out) -/
def sIx (n d : Nat) : Option Int → Nat
  | none => d
  | some v => if v < 0 then (v + (n : Int)).toNat else min v.toNat n
theorem sIx_none (n d : Nat) : sIx n d none = d := rfl
theorem sIx_nat (n d k : Nat) : sIx n d (some (k : Int)) = min k n := by
  show (if (k : Int) < 0 then ((k : Int) + (n : Int)).toNat else min (k : Int).toNat n) = min k n
  rw [if_neg (by omega), Int.toNat_natCast]
end
end HT

namespace L2
open PySem PySem.Spec PyProof.Rows

/-! ### the parts of a slice -/
abbrev TO := St → Hp → (Option Int → Hp → Prop) → Prop
/-- a slice's part (left out, or an int) -/
def PO (X : Cx) (e : Option Expr) (t : TO) : Prop :=
  ∀ (pins : List (Addr × Obj)) (s : Shared) (σ : St) (H : Hp) (Q : Option Int → Hp → Prop), Inv X pins σ H s → t σ H Q →
    wpAny (model X.prog X.w) X.A (evalPart e X.env) (fun u s' => ∃ o H', Inv X pins σ H' s' ∧ IsPart u o ∧ Q o H') X.xe s
def tNoPart : TO := fun _ H Q => Q none H
def tPart (t : TE) : TO := fun σ H Q => t σ H fun x H1 => ∃ i, x = .int i ∧ Q (some i) H1

section
variable {X : Cx} {e : Expr} {te : TE} {lo hi : Option Expr} {tl th : TO} {pos p2 : Pos}

theorem po_none : PO X none tNoPart := by
  intro pins s σ H Q I h
  rw [evalPart_none]
  exact wpAny_pure ⟨none, H, I, .none, h⟩
theorem po_some (h : PE X e te) : PO X (some e) (tPart te) := by
  intro pins s σ H Q I hw
  rw [evalPart_some]
  refine thn (h pins s σ H _ I hw) fun u s1 ⟨x, H1, I1, r1, q1⟩ => ?_
  obtain ⟨i, rfl, q⟩ := q1
  obtain ⟨t, rfl⟩ := r1
  exact ⟨some i, H1, I1, .int i t, q⟩

/-- what a slice of a value is, by values: the slice object stands at sl -/
def SlR (X : Cx) (r : V → Option Int → Option Int → Hp → VK → Prop) : Prop :=
  ∀ (pins : List (Addr × Obj)) (s : Shared) (σ : St) (H : Hp) (x : V) (v vl vu : Value) (lo hi : Option Int) (sl : Addr) (Q : VK), Inv X pins σ H s → RelV x v → s.heap.IsSliceOf sl vl vu .none → IsPart vl lo → IsPart vu hi → r x lo hi H Q →
    ∃ T id, typeLookup (.type T) "__getitem__" = pure (some (.builtin id)) ∧ s.TypeIs v T ∧ wpAny (model X.prog X.w) X.A (getItem v (.ref sl)) (EP X pins σ Q) X.xe s
def tSl (r : V → Option Int → Option Int → Hp → VK → Prop) (te : TE) (tl th : TO) : TE := fun σ H Q => te σ H fun x H1 => tl σ H1 fun l H2 => th σ H2 fun u H3 => r x l u H3 Q
/-- a[lo:hi], any a -/
theorem pe_slice {r : V → Option Int → Option Int → Hp → VK → Prop} (hr : SlR X r) (he : PE X e te) (hl : PO X lo tl) (hu : PO X hi th) : PE X (.Subscript e (.Slice lo hi none p2) pos) (tSl r te tl th) := by
  intro pins s σ H Q I h
  refine Subscript_ (thn (he pins s σ H _ I h) fun v s1 ⟨x, H1, I1, r1, q1⟩ => ?_)
  refine wpAny_Slice (thn (hl pins s1 σ H1 _ I1 q1) fun vl s2 ⟨l, H2, I2, pl, q2⟩ => thn (hu pins s2 σ H2 _ I2 q2) fun vu s3 ⟨u, H3, I3, pu, q3⟩ => ?_)
  rw [evalPart_none]
  refine wpAny_pure ?_
  have I4 : Inv X pins σ H3 { s3 with heap := s3.heap.push { cls := .type "slice", data := .fields #[vl, vu, .none] } } := I3.kept (t' := s3.toks) fun b ob q => Heap.get?_push_of_some _ q
  obtain ⟨T, id, hT, ht, hg⟩ := hr pins { s3 with heap := s3.heap.push { cls := .type "slice", data := .fields #[vl, vu, .none] } } σ H3 x v vl vu l u s3.heap.objs.size Q I4 r1 (Heap.IsSliceOf.new ..) pl pu q3
  show wpAny (model X.prog X.w) X.A (subscriptTail e (.Slice lo hi none p2) v (.ref s3.heap.objs.size)) (EP X pins σ Q) X.xe { s3 with heap := s3.heap.push { cls := .type "slice", data := .fields #[vl, vu, .none] } }
  exact tail_any (ops := [.ref s3.heap.objs.size, v]) ht hT hg (by with_unfolding_all rfl)

/-- the items of xs[lo:hi] -/
def cutV (xs : List V) (lo hi : Option Int) : List V := (xs.drop (HT.sIx xs.length 0 lo)).take (HT.sIx xs.length xs.length hi - HT.sIx xs.length 0 lo)
theorem cutV_length (xs : List V) (lo hi : Option Int) : (cutV xs lo hi).length ≤ xs.length := by
  unfold cutV
  rw [List.length_take, List.length_drop]
  omega
/-! ### t < u, t + u -/
end
end L2

namespace L2
open PySem PySem.Spec PyProof.Rows

/-! ### places -/
/-- the place that an index of any sign means -/
def ixN (n : Nat) (i : Int) : Option Nat := if 0 ≤ i then (if i < n then some i.toNat else none) else if -(n : Int) ≤ i then some (i + n).toNat else none
def atI {α : Type} (xs : List α) (i : Int) : Option α := (ixN xs.length i).bind fun j => xs[j]?
theorem ixN_seq {n : Nat} {i : Int} {j : Nat} (h : ixN n i = some j) : seqIndex? i n = some j ∧ j < n ∧ -(n : Int) ≤ i ∧ i < n := by
  unfold ixN at h
  by_cases h0 : 0 ≤ i
  · rw [if_pos h0] at h
    by_cases h1 : i < n
    · rw [if_pos h1] at h
      have e : i.toNat = j := Option.some.inj h
      exact ⟨by rw [seqIndex_of h0 h1, e], by omega, by omega, h1⟩
    · rw [if_neg h1] at h; cases h
  · rw [if_neg h0] at h
    by_cases h1 : -(n : Int) ≤ i
    · rw [if_pos h1] at h
      have e : (i + n).toNat = j := Option.some.inj h
      exact ⟨by rw [seqIndex_neg (by omega) h1, e], by omega, h1, by omega⟩
    · rw [if_neg h1] at h; cases h
theorem atI_get {α : Type} {xs : List α} {i : Int} {v : α} (h : atI xs i = some v) : ∃ j, seqIndex? i xs.length = some j ∧ xs[j]? = some v ∧ j < xs.length ∧ -(xs.length : Int) ≤ i ∧ i < xs.length := by
  unfold atI at h
  cases e : ixN xs.length i with
  | none => rw [e] at h; cases h
  | some j =>
    rw [e] at h
    obtain ⟨h1, h2, h3, h4⟩ := ixN_seq e
    exact ⟨j, h1, h, h2, h3, h4⟩
theorem atI_nat {α : Type} {xs : List α} {j : Nat} {v : α} (h : xs[j]? = some v) : atI xs (j : Int) = some v := by
  have hj : j < xs.length := (List.getElem?_eq_some_iff.mp h).1
  have e : ixN xs.length (j : Int) = some j := by
    unfold ixN
    rw [if_pos (by omega), if_pos (by omega)]; simp
  unfold atI; rw [e]; exact h
theorem atI_last {α : Type} (xs : List α) (v : α) : atI (xs ++ [v]) (-1) = some v := by
  have hl : (xs ++ [v]).length = xs.length + 1 := by simp
  have e : ixN (xs ++ [v]).length (-1) = some xs.length := by
    unfold ixN
    rw [hl, if_neg (by decide), if_pos (by omega)]
    congr 1
    omega
  unfold atI
  rw [e]
  show (xs ++ [v])[xs.length]? = some v
  simp

/-! ### what may be subscripted -/
/-- what stands as an index of a plain subscript -/
def PlainIx (b : Expr) : Prop := ∀ o i, subscripted b false o i = operate [o, i] (getItem o i)
/-- a subscript by values -/
def IxR (X : Cx) (r : R2) : Prop :=
  ∀ (value slice : Expr) (pins : List (Addr × Obj)) (s : Shared) (σ : St) (H : Hp) (x y : V) (v u : Value) (Q : VK), Inv X pins σ H s → RelV x v → RelV y u → r x y H Q →
    subscripted slice false v u = operate [v, u] (getItem v u) → wpAny (model X.prog X.w) X.A (subscriptTail value slice v u) (EP X pins σ Q) X.xe s
/-- a call of a builtin's method by values: the receiver, the arguments -/
def MtR (X : Cx) (id : String) (r : V → List V → Hp → VK → Prop) : Prop :=
  ∀ (pins : List (Addr × Obj)) (s : Shared) (σ : St) (H : Hp) (x : V) (xs : List V) (v : Value) (us : List Value) (Q : VK), Inv X pins σ H s → RelV x v → Vals xs us → r x xs H Q →
    wpAny (model X.prog X.w) X.A (call (.builtin id) (v :: us)) (EP X pins σ Q) X.xe s
section
variable {X : Cx} {a b : Expr} {ta tb : TE} {pos : Pos}
/-- a[b] -/
theorem pe_ix {r : R2} (hr : IxR X r) (ha : PE X a ta) (hb : PE X b tb) (hs : PlainIx b) : PE X (.Subscript a b pos) (tOp r ta tb) := by
  intro pins s σ H Q I h
  exact Subscript_ (binT ha hb I h fun v u s2 x y H2 I2 rx ry q => hr a b pins s2 σ H2 x y v u Q I2 rx ry q (hs _ _))

def rIxL (K : PySem.W.Frag) : R2 := fun x y H Q => ∃ p xs i v, x = .ref p ∧ y = .int i ∧ SqL K H p xs ∧ atI xs i = some v ∧ Q v H
def rIxS : R2 := fun x y H Q => ∃ z i c, x = .str z ∧ y = .int i ∧ z.length ≤ sizeLine ∧ atI z.cps.toList i = some c ∧ Q (.str ⟨#[c]⟩) H
theorem ix_list : IxR X (rIxL X.K) := by
  intro value slice pins s σ H x y v u Q I rx ry h hs
  obtain ⟨p, xs, i, z, rfl, rfl, hq, he, q⟩ := h
  cases rx
  obtain ⟨t, rfl⟩ := ry
  obtain ⟨its, r, pl, hz⟩ := I.list hq
  obtain ⟨j, h1, h2, h3, h4, h5⟩ := atI_get he
  obtain ⟨w, ew, rw'⟩ := r.get h2
  have hl := r.length
  have hn := line63
  have fin : EP X pins σ Q w s := ⟨z, H, I, rw', q⟩
  by_cases h0 : 0 ≤ i
  · have hj : i.toNat = j := by
      rw [seqIndex_of h0 h5] at h1
      exact Option.some.inj h1
    exact item_listR pl.isList h0 (by omega) (by rw [hj]; simpa using ew) fin hs
  · have hj : (i + (its.toArray.size : Int)).toNat = j := by
      rw [seqIndex_neg (by omega) h4] at h1
      rw [List.size_toArray, ← hl]
      exact Option.some.inj h1
    exact subscriptTail_builtinR (x := w) pl.isList.typeIs slot_list_getitem.lookup
      (wpAny_getItem_list_neg (Q := fun r s' => r = w ∧ EP X pins σ Q r s') pl.isList (by omega) (by rw [List.size_toArray] <;> omega) (by omega) (by rw [hj]; simpa using ew) ⟨rfl, fin⟩) hs
theorem ix_str : IxR X rIxS := by
  intro value slice pins s σ H x y v u Q I rx ry h hs
  obtain ⟨z, i, c, rfl, rfl, hz, he, q⟩ := h
  obtain ⟨t, rfl⟩ := rx
  obtain ⟨t', rfl⟩ := ry
  obtain ⟨j, h1, h2, h3, h4, h5⟩ := atI_get he
  have hl : z.cps.toList.length = z.length := by simp [Str.length]
  rw [hl] at h1 h4 h5
  have hn := line63
  exact tail_any (typeIs_str s z t) slot_str_getitem.lookup (getItem_str (c := c) (by
    have e1 : decide (i < -(2 ^ 63 : Int)) = false := decide_eq_false (by omega)
    have e2 : decide (i ≥ 2 ^ 63) = false := decide_eq_false (by omega)
    rw [e1, e2, Bool.or_false]) (by rw [h1]; simpa using h2) ⟨.str ⟨#[c]⟩, H, I.tok _, ⟨_, rfl⟩, q⟩) hs
/-! ### xs[i] = v, any sign -/
theorem Inv.lst {pins : List (Addr × Obj)} {σ : St} {H : Hp} {s : Shared} {p : Addr} {xs : List V} (I : Inv X pins σ H s) (h : H p = some (.lst xs)) :
    ∃ (its : List Value) (n : Nat), Vals xs its ∧ s.heap.get? p = some { cls := .type "list", data := .seq its.toArray n } ∧ xs.length ≤ sizeLine := by
  obtain ⟨z, its, n, r, e⟩ := I.hok p _ h
  exact ⟨its, n, r, e, z⟩
/-! ### slices -/
theorem slice_bounds (lo hi : Option Int) (n : Nat) : (sliceBounds lo hi none n).1 = ((HT.sIx n 0 lo : Nat) : Int) ∧ (sliceBounds lo hi none n).2.1 = ((HT.sIx n n hi : Nat) : Int) ∧ (sliceBounds lo hi none n).2.2 = 1 := by
  refine ⟨?_, ?_, rfl⟩
  · cases lo with
    | none => simp [sliceBounds, HT.sIx]
    | some i =>
      simp only [sliceBounds, HT.sIx, Option.getD_none, show (1 : Int) > 0 by decide, if_true]
      by_cases h : i < 0
      · simp only [h, if_true] <;> omega
      · simp only [h, if_false] <;> omega
  · cases hi with
    | none => simp [sliceBounds, HT.sIx]
    | some i =>
      simp only [sliceBounds, HT.sIx, Option.getD_none, show (1 : Int) > 0 by decide, if_true]
      by_cases h : i < 0
      · simp only [h, if_true] <;> omega
      · simp only [h, if_false] <;> omega
theorem slicePick_cut (its : List Value) (lo hi : Option Int) : slicePick its.toArray lo hi none = ((its.drop (HT.sIx its.length 0 lo)).take (HT.sIx its.length its.length hi - HT.sIx its.length 0 lo)).toArray := by
  obtain ⟨h1, h2, h3⟩ := slice_bounds lo hi its.toArray.size
  unfold slicePick
  rw [h1, h2, h3]
  simp only [sliceRange_one, pick_run, List.size_toArray] <;> rfl
/-- xs[lo:hi] of a list: a new list -/
def rSlL (K : PySem.W.Frag) : V → Option Int → Option Int → Hp → VK → Prop := fun x lo hi H Q => ∃ a xs, x = .ref a ∧ SqL K H a xs ∧ ∀ p, H p = none → Q (.ref p) (upd H p (.lst (cutV xs lo hi)))
theorem sl_list : SlR X (rSlL X.K) := by
  intro pins s σ H x v vl vu lo hi sl Q I rx hs pl pu h
  obtain ⟨a, xs, rfl, hx, q⟩ := h
  cases rx
  obtain ⟨its, r, ht, hz⟩ := I.list hx
  have hlen := r.length
  refine ⟨"list", _, slot_list_getitem.lookup, ht.isList.typeIs, ?_⟩
  refine wpAny_getItem_list_slice ht.isList hs pl pu .none (by simp) ?_ (by rw [List.size_toArray] <;> omega)
  rw [slicePick_cut, ← hlen]
  refine ⟨.ref s.heap.objs.size, _, I.laid (t' := s.toks) (o := .lst (cutV xs lo hi)) (fun b ob q => Heap.get?_push_of_some _ q) (Nat.le_refl _) ?_, rfl, q _ (I.hok.fresh (Nat.le_refl _))⟩
  exact ⟨Nat.le_trans (cutV_length xs lo hi) hz, _, 0, (r.drop (HT.sIx xs.length 0 lo)).take (HT.sIx xs.length xs.length hi - HT.sIx xs.length 0 lo), Heap.get?_push_size _ rfl⟩

/-! ### in, not in: flat items -/
/-! ### len, list(x), tuple(x) of any list or tuple that is read -/
theorem call_len_seq : CallR X (.builtin "len") (fun xs H Q => ∃ p ys, xs = [.ref p] ∧ (SqL X.K H p ys ∨ SqT X.K H p ys) ∧ Q (.int ys.length) H) := by
  intro pins s σ H xs us Q I r h
  obtain ⟨p, ys, rfl, hq, q⟩ := h
  obtain ⟨u, rfl, rx⟩ := vals1 r
  cases rx
  have hn := line63
  rcases hq with hq | hq
  · obtain ⟨its, r', pl, hz⟩ := I.list hq
    have hlen := r'.length
    exact Calls.call_len_list pl.isList (by simp only [List.size_toArray] <;> omega) ⟨.int ys.length, H, I.tok _, ⟨s.toks + 1, by rw [List.size_toArray, hlen]⟩, q⟩
  · obtain ⟨its, r', pl, hz⟩ := I.tuple hq
    have hlen := r'.length
    exact len_tuple pl (by simp only [List.size_toArray] <;> omega) ⟨.int ys.length, H, I.tok _, ⟨s.toks + 1, by rw [List.size_toArray, hlen]⟩, q⟩
theorem call_len_str : CallR X (.builtin "len") (fun xs H Q => ∃ z, xs = [.str z] ∧ z.length ≤ sizeLine ∧ Q (.int z.length) H) := by
  intro pins s σ H xs us Q I r h
  obtain ⟨z, rfl, hz, q⟩ := h
  obtain ⟨u, rfl, t, rfl⟩ := vals1 r
  have hn := line63
  exact len_str (by omega) ⟨.int z.length, H, I.tok _, ⟨_, rfl⟩, q⟩
theorem call_list_of : CallR X (.type "list") (fun xs H Q => ∃ p ys, xs = [.ref p] ∧ (SqL X.K H p ys ∨ SqT X.K H p ys) ∧ ∀ l, H l = none → Q (.ref l) (upd H l (.lst ys))) := by
  intro pins s σ H xs us Q I r h
  obtain ⟨p, ys, rfl, hq, q⟩ := h
  obtain ⟨u, rfl, rx⟩ := vals1 r
  cases rx
  have fin : ∀ (its : List Value), Vals ys its → ys.length ≤ sizeLine → ∀ (h' : Heap) (c' : Nat), (∀ b o', s.heap.get? b = some o' → h'.get? b = some o') →
      h'.get? s.heap.objs.size = some { cls := .type "list", dict := none, data := .seq its.toArray c', slots := #[] } → EP X pins σ Q (.ref s.heap.objs.size) { s with heap := h' } := fun its r' hz h' c' kp e =>
    ⟨.ref s.heap.objs.size, _, I.laid (t' := s.toks) kp (Nat.le_refl _) (show ObjOk X.prog X.w _ h' _ (.lst ys) from ⟨hz, its, c', r', e⟩), rfl, q _ (I.hok.fresh (Nat.le_refl _))⟩
  rcases hq with hq | hq
  · obtain ⟨its, r', pl, hz⟩ := I.list hq
    have hlen := r'.length
    obtain ⟨o, ho, hc, n, hd⟩ := pl.isList
    exact call_list_seq p (.inl rfl) ho hc hd (fun h' c' kp e => fin its r' hz h' c' kp e) (by simp only [List.size_toArray] <;> omega)
  · obtain ⟨its, r', pl, hz⟩ := I.tuple hq
    have hlen := r'.length
    obtain ⟨o, ho, hc, n, hd⟩ := pl
    exact call_list_seq p (.inr rfl) ho hc hd (fun h' c' kp e => fin its r' hz h' c' kp e) (by simp only [List.size_toArray] <;> omega)
/-! ### the call of a builtin's method: o.m(..) -/
/-- the value is of that builtin type -/
def tyV (K : PySem.W.Frag) (T : String) (x : V) (H : Hp) : Prop := match x with
  | .str _ => T = "str"
  | .int _ => T = "int"
  | .ref p => (T = "list" ∧ ∃ xs, SqL K H p xs) ∨ (T = "tuple" ∧ ∃ o, K.lookup p = some o ∧ o.cls = .type "tuple" ∧ o.dict = none) ∨
      (T = "dict" ∧ ((∃ kvs, H p = some (.dK kvs)) ∨ ∃ kvs, H p = some (.dT kvs))) ∨ (T = "set" ∧ ∃ S n, H p = some (.set S n))
  | _ => False
theorem tyV_is {pins : List (Addr × Obj)} {σ : St} {H : Hp} {s : Shared} {T : String} {x : V} {v : Value} (I : Inv X pins σ H s) (r : RelV x v) (ty : tyV X.K T x H) :
    s.TypeIs v T ∧ ∀ a, v = .ref a → ∃ ob, s.heap.get? a = some ob ∧ ob.dict = none := by
  cases x with
  | str z =>
    obtain ⟨t, rfl⟩ := r
    cases (show T = "str" from ty)
    exact ⟨typeIs_str s z t, fun _ e => nomatch e⟩
  | int i =>
    obtain ⟨t, rfl⟩ := r
    cases (show T = "int" from ty)
    exact ⟨typeIs_int s i t, fun _ e => nomatch e⟩
  | ref p =>
    cases r
    rcases ty with ⟨rfl, xs, hq⟩ | ⟨rfl, o, hk, hc, hd⟩ | ⟨rfl, hk⟩ | ⟨rfl, S, n, hk⟩
    · obtain ⟨its, _, pl, _⟩ := I.list hq
      refine ⟨pl.isList.typeIs, fun a e => ?_⟩
      cases e
      obtain ⟨o, n, e, c, hd, _⟩ := pl
      exact ⟨o, e, hd⟩
    · refine ⟨⟨o, I.kIn p o hk, hc⟩, fun a e => ?_⟩
      cases e
      exact ⟨o, I.kIn _ o hk, hd⟩
    · have z : ∃ o, s.heap.get? p = some o ∧ o.ExactDict := by
        rcases hk with ⟨kvs, hk⟩ | ⟨kvs, hk⟩
        · obtain ⟨_, _, _, _, o, _, _, e, ex, _⟩ := I.hok p _ hk
          exact ⟨o, e, ex⟩
        · obtain ⟨_, _, _, _, o, _, _, e, ex, _⟩ := I.hok p _ hk
          exact ⟨o, e, ex⟩
      obtain ⟨o, e, ex⟩ := z
      refine ⟨⟨o, e, ex.1⟩, fun a e2 => ?_⟩
      cases e2
      exact ⟨o, e, ex.2.1⟩
    · obtain ⟨o, _, _, _, e, ex, _⟩ := I.hok p _ hk
      refine ⟨⟨o, e, ex.1⟩, fun a e2 => ?_⟩
      cases e2
      exact ⟨o, e, ex.2.1⟩
  | _ => exact False.elim ty
def tBM (K : PySem.W.Frag) (T : String) (r : V → List V → Hp → VK → Prop) (to : TE) (t : TA) : TE := fun σ H Q => to σ H fun x H1 => tyV K T x H1 ∧ t σ H1 fun xs H2 => r x xs H2 Q
variable {o e : Expr} {es : List Expr} {to : TE} {t : TA} {name : Str} {apos cpos : Pos} {T id : String} {r : V → List V → Hp → VK → Prop}
theorem pe_bm (pa : PlainAttrs T) (slot : Slot T name id) (hty : typeOf (.builtin id) = pure (.type "method_descriptor")) (hm : MtR X id r) (ho : PE X o to) (ha : PA X (e :: es) t)
    (hbase : attributeBase o name X.env (eval o X.env) = eval o X.env := by rfl)
    (hfew : ((backTo cpos (starEach (e :: es) X.env)).all (fun x => !x.1) && (backToKw cpos (keywordEach [] X.env)).all (fun x => x.1.isSome)
      && decide ((e :: es).length + ([] : List Keyword).length + (if ([] : List Keyword).isEmpty then 0 else 1) < 30)) = true := by rfl)
    (hline : (apos.endLine == cpos.line) = true := by rfl) (hs : starEach (e :: es) X.env = (false, eval e X.env) :: starEach es X.env := by rfl) (hplain : (backTo cpos (starEach es X.env)).any (·.1) = false := by rfl) :
    PE X (.Call (.Attribute o name apos) (e :: es) [] cpos) (tBM X.K T r to t) := by
  intro pins s σ H Q I h
  refine wpAny_Call_method_late hbase hfew hline rfl (thn (ho pins s σ H _ I h) fun v s1 ⟨x, H1, I1, r1, ty, q1⟩ => ?_)
  obtain ⟨h1, h2⟩ := tyV_is I1 r1 ty
  refine ⟨T, id, pa, slot, hty, h1, h2, ?_⟩
  have hA := ha cpos pins s1 σ H1 _ I1 q1
  rw [hs] at hA ⊢
  refine Calls.callWith_builtin (by show (false || (backTo cpos (starEach es X.env)).any (·.1)) = false; rw [hplain] <;> rfl) (Calls.evalArgs_plain ?_)
  exact thn hA fun us s2 ⟨vs, H2, I2, r2, q2⟩ => hm pins s2 σ H2 x vs v us Q I2 r1 r2 q2
/- xs.append(e), list.index on a module's tuple .. are MtR facts of 06m -/
end
end L2

namespace L2
open PySem PySem.Spec PyProof.Rows

def MtM (X : Cx) (id : String) (r : V → List V → Hp → VK → Prop) : Prop :=
  ∀ (pins : List (Addr × Obj)) (s : Shared) (σ : St) (H : Hp) (x : V) (xs : List V) (v : Value) (us : List Value) (Q : VK), Inv X pins σ H s → RelV x v → Vals xs us → r x xs H Q →
    wpAny (model X.prog X.w) X.A (call (.builtin id) (v :: us)) (EP X pins σ Q) X.xe s

/-! ### lists of values -/
theorem Vals.one : ∀ {x : V} {us : List Value}, Vals [x] us → ∃ u, us = [u] ∧ RelV x u
  | _, _, .cons r .nil => ⟨_, rfl, r⟩
theorem Vals.two : ∀ {x y : V} {us : List Value}, Vals [x, y] us → ∃ u v, us = [u, v] ∧ RelV x u ∧ RelV y v
  | _, _, _, .cons r (.cons q .nil) => ⟨_, _, rfl, r, q⟩
theorem Vals.dropLast {xs : List V} {us : List Value} (h : Vals xs us) : Vals xs.dropLast us.dropLast := by
  induction h with
  | nil => exact .nil
  | cons r t ih =>
    cases t with
    | nil => exact .nil
    | cons q t' => exact .cons r ih
section
variable {X : Cx} {pins : List (Addr × Obj)} {σ : St} {H : Hp} {s : Shared} {l b : Addr} {xs ys zs : List V}

/-! ### the two steps: a tracked list is rewritten, a new list is laid -/
theorem Inv.lset {its its' : List Value} {n : Nat} {f : Array Value → Array Value} {t' : Nat} (I : Inv X pins σ H s) (hH : H l = some (.lst xs))
    (e : s.heap.get? l = some { cls := .type "list", data := .seq its.toArray n }) (hf : f its.toArray = its'.toArray) (hv : Vals ys its') (hz : ys.length ≤ sizeLine) :
    Inv X pins σ (upd H l (.lst ys)) { s with heap := s.heap.update l (Obj.mapSeq f), toks := t' } := by
  have q := PySem.IsL.update e f
  rw [hf] at q
  refine I.write (x := l) (e := l) (by rw [hH]; exact trivial) (.inl rfl) (fun b' u hb hu => (Heap.get?_update_other s.heap (Obj.mapSeq f) (Ne.symm hb)).trans hu) ⟨_, q⟩ ?_
  exact ⟨hz, its', _, hv, q⟩
theorem Inv.lnew {its : List Value} {t' : Nat} (I : Inv X pins σ H s) (hv : Vals ys its) (hz : ys.length ≤ sizeLine) :
    Inv X pins σ (upd H s.heap.objs.size (.lst ys)) { s with heap := s.heap.push { cls := .type "list", data := .seq its.toArray }, toks := t' } :=
  I.laid (fun _ _ q => Heap.get?_push_of_some _ q) (Nat.le_refl _) ⟨hz, its, 0, hv, Heap.get?_push_size _ rfl⟩
theorem Inv.fresh (I : Inv X pins σ H s) : H s.heap.objs.size = none := I.hok.fresh (Nat.le_refl _)
theorem Inv.lstM (I : Inv X pins σ H s) (hH : H l = some (.lst xs)) : xs.length ≤ sizeLine ∧ ∃ (its : List Value) (n : Nat), Vals xs its ∧ xs.length = its.length ∧ s.heap.get? l = some { cls := .type "list", data := .seq its.toArray n } := by
  obtain ⟨z, its, n, r, e⟩ := I.hok l _ hH
  exact ⟨z, its, n, r, r.length, e⟩

end

section
variable {X : Cx}

/-! ### methods -/
def rAppend : V → List V → Hp → VK → Prop := fun x vs H Q => ∃ l xs y, x = .ref l ∧ vs = [y] ∧ H l = some (.lst xs) ∧ xs.length < sizeLine ∧ Q .non (upd H l (.lst (xs ++ [y])))
theorem mt_append : MtM X "list.append" rAppend := by
  intro pins s σ H x vs v us Q I rx rv h
  obtain ⟨l, xs, y, rfl, rfl, hH, hz, q⟩ := h
  cases rx
  obtain ⟨u, rfl, ru⟩ := rv.one
  obtain ⟨z, its, n, r, hl, e⟩ := I.lstM hH
  refine call_meets F.slot_list_append ⟨_, e, rfl⟩ F.entry_list_append (F.args_list_append_2 _ _) (PySem.list_append l its.toArray n u (by rw [List.size_toArray]; omega)) ⟨e, ?_⟩
  refine ⟨.non, _, I.lset (its' := its ++ [u]) hH e (by simp) (r.append (.cons ru .nil)) ?_, rfl, q⟩
  rw [List.length_append, List.length_singleton]
  omega

/-! ### list + list, list += list, list * int -/
def rCat : R2 := fun x y H Q => ∃ l b xs zs, x = .ref l ∧ y = .ref b ∧ H l = some (.lst xs) ∧ H b = some (.lst zs) ∧ xs.length + zs.length ≤ sizeLine ∧ ∀ p, H p = none → Q (.ref p) (upd H p (.lst (xs ++ zs)))
theorem op_cat : OpR X (binaryOp .Add) rCat := by
  intro pins s σ H x y v u Q I rx ry h
  obtain ⟨l, b, xs, zs, rfl, rfl, hH, hB, hz, q⟩ := h
  cases rx
  cases ry
  obtain ⟨z, its, n, r, hl, e⟩ := I.lstM hH
  obtain ⟨z2, its2, n2, r2, hl2, e2⟩ := I.lstM hB
  refine PySem.P.add_list e e2 ?_ (by rw [List.size_toArray, List.size_toArray]; omega)
  have ea : its.toArray ++ its2.toArray = (its ++ its2).toArray := by simp
  rw [ea]
  exact ⟨.ref _, _, I.lnew (t' := s.toks) (r.append r2) (by rw [List.length_append]; omega), rfl, q _ I.fresh⟩
/-! ### del xs[i] -/
end

/-! ### xs[a:b] = ys -/
section
variable {prog : Program} {w : World} {A : Around} {E : Value → Shared → Prop} {s : Shared}
end

section
variable {X : Cx}
end
end L2

namespace Att
open PySem PySem.W PySem.Calls PyProof.Rows

/-! ### the script -/
theorem ints_of_wellAll {P : Params} {h : Heap} : ∀ (ns : List Int) (vs : List Value), WellAll P h vs (ns.map WData.int) → IntsAre vs ns := by
  intro ns
  induction ns with
  | nil =>
    intro vs w
    rw [List.map_nil] at w
    cases w
    exact .nil
  | cons n ns ih =>
    intro vs w
    rw [List.map_cons] at w
    cases w with
    | cons a b =>
      cases a
      exact .cons _ _ (ih _ b)

theorem script_of {l : OpenLaw} {n : Nat} (hn : l.most = some n) {P : Params} {h : Heap} {args : List WData} {vals : List Value}
    (hpre : l.row.toRowW.claim.pre args = true) (hwl : WellAll P h vals args) :
    ∃ a vs ns, vals = [Value.ref a] ∧ args = [WData.list (ns.map WData.int)] ∧ h.get? a = some { cls := .type "list", data := .seq vs.toArray } ∧ IntsAre vs ns ∧ ns.length ≤ n := by
  have hsh : WShape.hasAll [] args [.list .int] = true := (pre_splitW hpre).1
  have hc : l.pre.holds [] { args := args } = true := (pre_splitW hpre).2
  obtain ⟨d, r, rfl, h1, h2⟩ := hasAllW_cons hsh
  obtain rfl := hasAllW_nil h2
  obtain ⟨xs, rfl, h3⟩ := hasW_list h1
  obtain ⟨ns, rfl⟩ := items_int h3
  have hlen : ns.length ≤ n := by
    unfold OpenLaw.pre at hc
    have h4 : (WTm.not (.lt (.lit (.int (n : Int))) (.len (.arg 0)))).holds [] { args := [.list (ns.map .int)] } = true := by
      have h4 := (holds_andW hc).1
      rw [hn] at h4
      exact h4
    have h5 := condW_of h4 (w_not (w_lt w_lit (w_len_list (w_arg rfl))))
    rw [List.length_map] at h5
    refine Nat.le_of_not_lt fun q => ?_
    have q' : (n : Int) < ((ns.length : Nat) : Int) := by omega
    first
      | (rw [decide_eq_true q'] at h5; exact absurd h5 (by decide))
      | (simp at h5; omega)
  cases hwl with
  | cons w1 w2 =>
    cases w2
    cases w1 with
    | list ho hall => exact ⟨_, _, ns, rfl, rfl, ho, ints_of_wellAll ns _ hall, hlen⟩

theorem post_true (l : OpenLaw) (args : List WData) : l.row.toRowW.claim.post args (.bool true) args = true :=
  postW_of (r := l.row.toRowW) (X := (true == true))
    (show WShape.has [] (.bool true) .bool = true by first | rfl | decide | simp [WShape.has, WShape.arms, WShape.armsAll])
    (show (WTm.eq .res (.lit (.bool true))).value [] { args := args, res := some (.bool true), after := args } = some (.bool (true == true)) from w_eq_bool (w_res rfl) w_lit) rfl

/-! ### the attachment: holds_open's last premise (the goal 'hc' behind k_head) from a wpAny of the law's body -/
/-- the same from a codeAny of the CALL (for a layer whose function contracts speak of calls) -/
theorem attach_call {l : OpenLaw} {n : Nat} {q : Program} {loose : List Str} {XP : (Str → Option Value) → Heap → Prop} {YP : World → Heap → Prop} {d : DefRec}
    (hn : l.most = some n) (hdf : d.params.defaults = [])
    (call : ∀ (w : World) (s₀ s₁ : Shared) (mg mb : Str → Option Value) (fa : Addr) (o : Obj) (pm cd doc : Value) (a : Addr) (vs : List Value) (ns : List Int),
      Ground q loose [] XP w s₀ mg mb s₁.heap → YP w s₁.heap →
      s₁.heap.get? fa = some o → o.data = .func (docDef d.name d.params d.body d.scope pm cd doc) → s₁.heap.CodeRec cd d.name → mg d.name = some (.ref fa) →
      s₁.heap.get? a = some { cls := .type "list", data := .seq vs.toArray } → IntsAre vs ns → ns.length ≤ n → s₁.gens = #[] →
      codeAny (model l.prog w) callerA (.call (.ref fa) ⟨[.ref a], []⟩) (fun r s' => r = .ok (.ret (.bool true)) ∧ OldK s₁.heap s'.heap ∧ s'.os = s₁.os ∧ AllBare s'.gens) s₁) :
    WalkO q loose XP YP l.row.toRowW d [] (fun f vs => PySem.call f vs) := by
  intro w s₀ s₁ mg mb G Y fa o pm cd doc dV kV ho hd hcd hD hmg hg args vals as hpre hlay hrd hwl hlo
  obtain rfl : dV = .none := Dflts.none hD hdf
  obtain rfl : kV = .none := Dflts.noKw hD
  obtain ⟨a, vs, ns, rfl, rfl, hobj, hints, hlen⟩ := script_of hn hpre hwl
  refine enter_call (codeAny_mono (call w s₀ s₁ mg mb fa o pm cd doc a vs ns G Y ho (fd_plain hd) hcd hmg hobj hints hlen hg) fun r s' hq => ?_)
  obtain ⟨rfl, h2, h3, h4⟩ := hq
  exact ⟨.inl ⟨.bool true, .bool true, [], rfl, fun _ => rfl, .bool true, post_true l _, fun _ => ⟨List.Pairwise.nil, fun _ hm => (nomatch hm)⟩⟩, h2, h3, h4⟩

/-! ### rules over ANY heap (no ledger) from facts about the written part K: the library's own take a ledger (News) for what they write -/
section
variable {prog : Program} {w : World} {A : Around} {E : Value → Shared → Prop} {s : Shared} {K : Frag}

/-! the whole heap as the ledger: makes every rule that writes through a ledger a rule over any heap -/
end
end Att

namespace L2
open PySem PySem.Spec PyProof.Rows

theorem vals_ints : ∀ {vs : List Value} {ns : List Int}, IntsAre vs ns → Vals (ns.map V.int) vs
  | _, _, .nil => .nil
  | _, _, .cons n t h => .cons ⟨t, rfl⟩ (vals_ints h)

/-- nothing is tracked but the script, known to the object (or it is an object of the module) -/
def Only (H : Hp) : Prop := ∀ b, H b = none ∨ ∃ o xs, H b = some (.frz o (.lst xs))

/-- THE HEAD: the law's promise, at the heap behind the top. F, the promise of the law's def, may use that base is part of the heap (so K.In base, base.Ns mainGlobals mg stand in Mod) -/
theorem law_call {P : Program} {w : World} {K : PySem.W.Frag} {mg mb : Str → Option Value} {CX : CXT} {k : Nat} {fa a : Addr} {fd : FuncData} {x : Str} {sp : Sp} {s₁ : Shared} {vs : List Value} {ns : List Int}
    (KX : K.In s₁.heap) (hns : s₁.heap.Ns mainGlobals mg) (hb : s₁.heap.Ns builtinsNs mb) (hbb : ∀ x : Str, x ≠ "__name__" → mb x = bootBuiltins x) (hlim : s₁.heap.NoLimit) (hg : s₁.gens = #[])
    (ha : s₁.heap.get? a = some { cls := .type "list", data := .seq vs.toArray }) (hi : IntsAre vs ns) (hl : ns.length ≤ sizeLine) (hr : Room k callerA)
    (F : ∀ base : Heap, K.In base → base.Ns mainGlobals mg → FnOk P w K mg base CX k fa fd [x] sp) (hbind : ∀ (s : Shared) (u : Value), BindsTo s fd ⟨[u], []⟩ [(x, u)])
    (hsp : ∀ H : Hp, Only H → SqL K H a (ns.map V.int) → sp [.ref a] H (fun v _ => v = .bl true) fun _ _ _ => False)
    (hCX : ∀ H e s', CX [] H s₁ (fun _ _ _ => False) e s' → False) :
    codeAny (model P w) callerA (.call (.ref fa) ⟨[.ref a], []⟩) (fun r s' => r = .ok (.ret (.bool true)) ∧ OldK s₁.heap s'.heap ∧ s'.os = s₁.os ∧ AllBare s'.gens) s₁ := by
  have rv := vals_ints hi
  have lenV := hi.length
  -- from an abstract heap in which nothing but the script may be tracked
  have core : ∀ H : Hp, Only H → SqL K H a (ns.map V.int) → HOk P w H s₁.heap → (∀ b, H b ≠ none → b = a) → (H a ≠ none → K.lookup a = none) →
      codeAny (model P w) callerA (.call (.ref fa) ⟨[.ref a], []⟩) (fun r s' => r = .ok (.ret (.bool true)) ∧ OldK s₁.heap s'.heap ∧ s'.os = s₁.os ∧ AllBare s'.gens) s₁ := by
    intro H hO hS hok hA hK
    have base_of : ∀ {b : Addr} {o : Obj}, s₁.heap.get? b = some o → H b = none → (hidT s₁.heap H).get? b = some o := fun e n => hidT_get e n
    have noA : ∀ {b : Addr} {o : Obj} {es : Array DictEntry} {ep : Nat}, s₁.heap.get? b = some o → o.data = .dict es ep → H b = none := fun {b o es ep} e d => by
      cases q : H b with
      | none => rfl
      | some u =>
        have e' : b = a := hA b (by rw [q]; simp)
        subst e'
        rw [ha] at e; cases e
        have d' : Data.seq vs.toArray _ = Data.dict es ep := d
        cases d'
    have nsK : ∀ {b : Addr} {m : Str → Option Value}, s₁.heap.Ns b m → (hidT s₁.heap H).Ns b m := fun {b m} ⟨o, es, ep, e, d, r⟩ => ⟨o, es, ep, base_of e (noA e d), d, r⟩
    have hKb : K.In (hidT s₁.heap H) := fun b o e => base_of (KX b o e) (by
      cases q : H b with
      | none => rfl
      | some u =>
        have e' : b = a := hA b (by rw [q]; simp)
        subst e'
        rw [hK (by rw [q]; simp)] at e; cases e)
    have hM : Mod K mg (hidT s₁.heap H) := ⟨hKb, nsK hns, ⟨mb, nsK hb, hbb⟩, let ⟨mc, h1, h2⟩ := hlim; ⟨mc, nsK h1, h2⟩⟩
    have e0 : Env0 P w K mg (hidT s₁.heap H) callerA [] s₁ H := ⟨rfl, hM, fun b o e => of_hidT e, Nat.le_of_eq (hidT_size _ _), trivial, fun b hb => absurd (show b ∈ ([] : List Addr) from hb) (by simp), hok, .of_eq hg⟩
    refine codeAny_mono ((F _ hKb (nsK hns)).run callerA [] s₁ H ⟨[.ref a], []⟩ [.ref a] [.ref a] _ _ hr e0 (hbind s₁ (.ref a)) (.cons rfl .nil) (hsp H hO hS)) fun r s' h => ?_
    cases r with
    | error e => exact (hCX H e s' h).elim
    | ok fl =>
      cases fl with
      | next => exact False.elim h
      | brk => exact False.elim h
      | cont => exact False.elim h
      | ret u =>
        obtain ⟨v, H', os, bare, un, hok', r', q⟩ := h
        have q' : v = .bl true := q
        subst q'
        obtain rfl : u = Value.bool true := r'
        refine ⟨rfl, OldK.of_keep fun b o e => ?_, os, bare⟩
        cases q : H b with
        | none => exact un.keep b o e q (by intro z; exact absurd (show b ∈ ([] : List Addr) from z) (by simp)) (by simp)
        | some u =>
          rcases hO b with z | ⟨ob, xs, z⟩
          · rw [q] at z; cases z
          · have z2 := un.frzs b ob _ z
            obtain ⟨e1, _⟩ := hok b _ z
            obtain ⟨e2, _⟩ := hok' b _ z2
            rw [e] at e1; cases e1
            exact e2
  cases hk : K.lookup a with
  | some o =>
    -- the script is one of the module's own objects
    have e := KX a o hk
    rw [ha] at e
    cases e
    refine core (fun _ => none) (fun _ => .inl rfl) (.inr ⟨_, vs.toArray, _, hk, rfl, rfl, rfl, by rw [List.size_toArray, lenV]; exact hl, by simpa using rv⟩) (fun b u z => by have z' : (none : Option HO) = some u := z; cases z') (fun b z => absurd rfl z) fun z => absurd rfl z
  | none =>
    refine core (fun b => if b = a then some (.frz { cls := .type "list", data := .seq vs.toArray } (.lst (ns.map V.int))) else none) (fun b => ?_) (.inl (.inr ⟨{ cls := .type "list", data := .seq vs.toArray }, if_pos rfl⟩)) (fun b u z => ?_) (fun b z => ?_) fun _ => hk
    · by_cases hb : b = a
      · exact .inr ⟨_, _, if_pos hb⟩
      · exact .inl (if_neg hb)
    · by_cases hb : b = a
      · have z' := (if_pos hb).symm.trans z
        cases z'
        subst hb
        exact ⟨ha, by rw [List.length_map]; exact hl, vs, _, rv, ha⟩
      · have z' := (if_neg hb).symm.trans z
        cases z'
    · by_cases hb : b = a
      · exact hb
      · exact absurd (if_neg hb) z
end L2

namespace L2
open PySem PySem.Spec PyProof.Rows

abbrev KOf {K : PySem.W.Frag} {h : Heap} (_ : K.In h) : PySem.W.Frag := K

/-- the goal that k_head leaves (case hc), from the law's promise. F gives the function object fd (K's own) once, then the promise over every base -/
theorem walk_of {l : PySem.W.OpenLaw} {n k : Nat} {q : Program} {loose : List Str} {XP : (Str → Option Value) → Heap → Prop} {YP : World → Heap → Prop} {d : DefRec} {K : Params → PySem.W.Frag} {CX : World → CXT} {sp : World → Sp} {x : Str}
    (hn : l.most = some n) (hn2 : n ≤ sizeLine) (hdf : d.params.defaults = []) (hr : Room k callerA)
    (hY : ∀ (w : World) (h : Heap), YP w h → (K w.params).In h)
    (F : ∀ (w : World) (mg : Str → Option Value) (fa : Addr) (h : Heap), (K w.params).In h → h.Ns mainGlobals mg → mg d.name = some (.ref fa) →
      ∃ fd : FuncData, (∀ (s : Shared) (u : Value), BindsTo s fd ⟨[u], []⟩ [(x, u)]) ∧
        ∀ base : Heap, (K w.params).In base → base.Ns mainGlobals mg → FnOk l.prog w (K w.params) mg base (CX w) k fa fd [x] (sp w))
    (hsp : ∀ (w : World) (H : Hp) (a : Addr) (ns : List Int), ns.length ≤ n → Only H → SqL (K w.params) H a (ns.map V.int) → sp w [.ref a] H (fun v _ => v = .bl true) fun _ _ _ => False)
    (hCX : ∀ (w : World) (H : Hp) (s : Shared) (e : Value) (s' : Shared), CX w [] H s (fun _ _ _ => False) e s' → False) :
    PySem.W.WalkO q loose XP YP l.row.toRowW d [] (fun f vs => PySem.call f vs) := by
  refine Att.attach_call hn hdf fun w s₀ s₁ mg mb fa o pm cd doc a vs ns G Y ho hd hcd hmg hobj hints hlen hg => ?_
  have KX := hY w _ Y
  obtain ⟨fd, hb, hF⟩ := F w mg fa _ KX G.T.g hmg
  exact law_call KX G.T.g G.T.b G.T.builtins G.T.nolimit hg hobj hints (Nat.le_trans hlen hn2) hr hF hb (fun H hO hS => hsp w H a ns hlen hO hS) fun H e s' => hCX w H s₁ e s'
end L2

/- THE LAST THEOREM (shape; LID, My.* are yours):
   My.Adr: a structure of the addresses that your layer names (classes, functions); My.Txt K t: a structure (Prop) of the equations over K;
   My.txt_mk : {K} {implicit addresses ..} (e1 : nsIn K mainGlobals "law" = some (some (.ref f))) (e2 : K.lookup f = some ⟨oc, od, .func (fnOf "law" "law" params body scope dV kV doc pm an cdv ct), sl⟩) (e3 : codeIn K cdv "law" = true) .. : ∃ t, My.Txt K t

set_option maxRecDepth 100000 in
set_option maxHeartbeats 0 in
theorem PySem.Challenge.cw_LID_holds : PySem.Challenge.rw_LID.Holds := by
  w_on; o_law; k_head; (case hw => w_witness2)
  k_fill
  refine L2.walk_of (l := PySem.Challenge.rw_LID) (n := 63) (k := 40) (x := "script") (CX := fun w => ..) (sp := fun _ => My.sp_law) rfl (by decide) rfl ⟨rfl, by decide, by decide⟩ (fun w h Y => PySem.W.kIn_of Y) ?F ?S ?C
  case F =>
    intro w mg fa h KX G hmg
    have T : ∃ t, My.Txt (L2.KOf KX) t := by
      dsimp only [L2.KOf]                          -- K must stand as «<heap const> w.params» for k_is
      refine' My.txt_mk ?e1 ?e2 ?e3 ..
      (case e1 => PySem.W.k_is)                    -- in the order: a name -> its address -> its object -> its parts
      (case e2 => PySem.W.k_is)
      ..
    obtain ⟨t, T⟩ := T
    have e0 := hmg.symm.trans (PySem.W.mg_of KX G T.law)
    cases e0                                       -- fa is the law's own address
    exact ⟨_, fun s u => .of_eq rfl, fun base kb nb => My.law_fn T kb nb⟩     -- if «.of_eq rfl» comes too early: refine' ⟨_, ?b, fun base kb nb => My.law_fn T kb nb⟩; exact fun s u => .of_eq rfl
  case S => exact fun w H a ns hl hO hS => ..
  case C => exact ..
(the tactic k_is has no namespace: write k_is) -/

/-! SHORT WORDS over the layer: a def of the text, its body, what a loop and a test want. -/
namespace L2
open PySem PySem.Spec PyProof.Rows

/-! ### the text by places -/
def defArgs (s : Stmt) : Arguments := match s with
  | .FunctionDef _ a _ _ _ _ _ _ _ _ => a
  | _ => { posonlyargs := [], args := [], vararg := none, kwonlyargs := [], kw_defaults := [], kwarg := none, defaults := [] }
def defBody (s : Stmt) : List Stmt := match s with
  | .FunctionDef _ _ b _ _ _ _ _ _ _ => b
  | _ => []
def defScope (s : Stmt) : Scope := match s with
  | .FunctionDef _ _ _ _ _ _ sc _ _ _ => sc
  | _ => { kind := .function, names := [], isGenerator := false, isCoroutine := false }

/-! ### no exception leaves a def -/
abbrev CX0 : CXT := fun _ _ _ _ _ _ => False
abbrev E0 : XK := fun _ _ _ => False
theorem pass0 {X : Cx} : Passes CX0 X E0 := fun _ _ _ _ _ _ _ h => h.elim

/-! ### a def (or method) of the text as it stands behind the top -/
structure Fun (K : PySem.W.Frag) (x qual : Str) (st : Stmt) (f : Addr) (fd : FuncData) : Prop where
  ex : ∃ (oc : Value) (od : Option Addr) (kV doc pm : Value) (an : Option Addr) (cdv ct : Value) (osl : Array (Option Value)),
    fd = PySem.W.fnOf x qual (defArgs st) (defBody st) (defScope st) .none kV doc pm an cdv ct ∧ K.lookup f = some ⟨oc, od, .func fd, osl⟩ ∧ PySem.W.codeIn K cdv qual = true
  kp : PySem.W.keepIn K (.ref f) = true
section
variable {P : Program} {w : World} {K : PySem.W.Frag} {mg : Str → Option Value} {base : Heap}
/-- THE RULE for a def: its body as a term of rules, and the reading of that term -/
theorem Fun.ok {x qual : Str} {st : Stmt} {f : Addr} {fd : FuncData} {N ps : List Str} {k : Nat} {sp : Sp} (F : Fun K x qual st f fd) (S : FnScope N ps (defScope st)) (len : ∀ vs H Q E, sp vs H Q E → vs.length = ps.length)
    (hbody : ∀ (cdv : Value) (A : Around) (outer : List Env) (s : Shared) (H : Hp) (vs : List V) (Q : VK) (E : XK), Room k (A.deeper (envOfC qual (defScope st) s.heap.objs.size f cdv)) → sp vs H Q E →
      ∃ t, PSs (cxOf CX0 P w K mg base N qual (defScope st) f cdv A outer s H E).nox (defBody st) t ∧ t { nx := fun _ H' => Q .non H', rt := Q } (start N vs) H) : FnOk P w K mg base CX0 (k + 1) f fd ps sp := by
  obtain ⟨oc, od, kV, doc, pm, an, cdv, ct, osl, rfl, lk, hcd⟩ := F.ex
  refine fn_of lk hcd S len fun A outer s H vs Q E hr hsp => ?_
  obtain ⟨t, h, q⟩ := hbody cdv A outer s H vs Q E hr hsp
  exact ⟨t, h.nox, q⟩
/-- how its arguments bind (no defaults): h is «fun _ _ _ _ _ _ us hl => match us, hl with | [_, _], _ => rfl», one _ a parameter -/
theorem Fun.binds {x qual : Str} {st : Stmt} {f : Addr} {fd : FuncData} {ps : List Str} (F : Fun K x qual st f fd)
    (h : ∀ (kV doc pm : Value) (an : Option Addr) (cdv ct : Value) (us : List Value), us.length = ps.length → bindArgs (PySem.W.fnOf x qual (defArgs st) (defBody st) (defScope st) .none kV doc pm an cdv ct) ⟨us, []⟩ = pure (ps.zip us)) : Binds K fd ps [] := by
  obtain ⟨oc, od, kV, doc, pm, an, cdv, ct, osl, rfl, lk, hcd⟩ := F.ex
  exact .all (h kV doc pm an cdv ct)
theorem fun_mk {x qual : Str} {st : Stmt} {f : Addr} {oc : Value} {od an : Option Addr} {osl : Array (Option Value)} {kV doc pm cdv ct : Value} (l : K.lookup f = some ⟨oc, od, .func (PySem.W.fnOf x qual (defArgs st) (defBody st) (defScope st) .none kV doc pm an cdv ct), osl⟩)
    (c : PySem.W.codeIn K cdv qual = true) (k : PySem.W.keepIn K (.ref f) = true) : Fun K x qual st f (PySem.W.fnOf x qual (defArgs st) (defBody st) (defScope st) .none kV doc pm an cdv ct) := ⟨⟨oc, od, kV, doc, pm, an, cdv, ct, osl, rfl, l, c⟩, k⟩
end
/-! ### expressions in short: the name that stands in the i-th slot -/
section
variable {X : Cx}
theorem pv (i : Nat) {x : Str} {pos : Pos} (hN : X.N[i]? = some x := by rfl) (hv : Vis X.env.scope x := by first | exact Or.inl rfl | exact Or.inr (Or.inl rfl) | exact Or.inr (Or.inr rfl)) (hd : (x == ("__debug__" : Str)) = false := by decide)
    (hcd : (x == ("__classdict__" : Str)) = false := by decide) : PE X (.Name x pos) (tVar i) := pe_var hN hv hd hcd
end

/-! ### tests -/
theorem iteF {A B : Prop} (h : B) : if false = true then A else B := by
  rw [if_neg Bool.false_ne_true]
  exact h
theorem iteT {A B : Prop} (h : A) : if true = true then A else B := by
  rw [if_pos rfl]
  exact h
theorem ite2 {c A B : Prop} [Decidable c] (h1 : c → A) (h2 : ¬ c → B) : if c then A else B := by
  by_cases h : c
  · rw [if_pos h]
    exact h1 h
  · rw [if_neg h]
    exact h2 h
/-! ### heaps -/
/-- all that was tracked is as it was -/
def Same (H H' : Hp) : Prop := ∀ b o, H b = some o → H' b = some o
theorem Same.refl (H : Hp) : Same H H := fun _ _ h => h
theorem Same.trans {H H1 H2 : Hp} (a : Same H H1) (b : Same H1 H2) : Same H H2 := fun c o h => b c o (a c o h)
theorem Same.free {H H' : Hp} (e : Same H H') {l : Addr} (h : H' l = Option.none) : H l = Option.none := by
  cases q : H l with
  | none => rfl
  | some o =>
    rw [e l o q] at h
    cases h
theorem Same.seq {K : PySem.W.Frag} {H H' : Hp} {a : Addr} {xs : List V} (e : Same H H') (h : SqL K H a xs) : SqL K H' a xs := by
  rcases h with (h | ⟨o, h⟩) | h
  · exact .inl (.inl (e _ _ h))
  · exact .inl (.inr ⟨o, e _ _ h⟩)
  · exact .inr h

end L2

/-! EXT 1: list comprehensions over the layer: a context for the block, a rule for the value, a rule for the assignment whose stores are exchanged. -/
namespace L2
open PySem PySem.Spec PyProof.Rows

/-- the block's context: entered at s (the new list is laid), its own map at C, the iterator's records at fp -/
def cxLc (X : Cx) (scope : Scope) (N : List Str) (cl : List (Str × Addr)) (C : Addr) (fp : List Addr) (s : Shared) (H : Hp) : Cx where
  prog := X.prog
  w := X.w
  K := X.K
  mg := X.mg
  base := X.base
  A := X.A
  N := N
  s₀ := s
  H₀ := H
  env := compEnvC scope cl C X.env
  outer := X.stack
  stack := X.stack
  ex := fp
  fn := fun _ => false
  calm := X.calm
  pn := []
  xe := fun _ _ => False

/-- the block's names at its entry: those that come from outside -/
def iniOf (ini : List (Option Nat)) (σ : St) : St := ini.map fun o => o.bind fun j => (σ[j]?).bind id

/-- the tests of a clause -/
def PIf (X : Cx) (ifs : List Expr) (t : TT) : Prop :=
  ∀ (pins : List (Addr × Obj)) (s : Shared) (σ : St) (H : Hp) (Q : Bool → Hp → Prop), Inv X pins σ H s → t σ H Q →
    wpAny (model X.prog X.w) X.A (forIn ifs true fun c r => if r = true then do let ok ← isTrue c X.env (eval c X.env); pure (ForInStep.yield ok) else pure (ForInStep.yield r)) (TP X pins σ Q) X.xe s
def tYes : TT := fun _ H Q => Q true H
theorem pif_nil {X : Cx} : PIf X [] tYes := fun _ _ _ H _ I h => wpAny_tests_nil ⟨H, I, h⟩
theorem pif_one {X : Cx} {c : Expr} {t : TT} (h : PT X c t) : PIf X [c] t := fun pins s σ H Q I q => wpAny_tests_one (h pins s σ H Q I q)

/-- the reading of a comprehension: D is the new list, W the word between two turns -/
def tLc (wi : TI) (ini : List (Option Nat)) (g : TG) (tc : TT) (te : TE) : TE := fun σ H Q => wi σ H fun J H1 => ∀ D, H1 D = none → ∃ W : Nat → Nat → St → Hp → Prop, (∃ m, W 0 m (iniOf ini σ) (upd H1 D (.lst []))) ∧
  ∀ i m σ' H', W i m σ' H' → (J.stop i H' ∧ Q (.ref D) H') ∨ (J.go i H' ∧ ∃ N : St → Hp → Prop, (∀ σ2 H2, N σ2 H2 → ∃ m', m' < m ∧ W (i + 1) m' σ2 H2) ∧
    ∀ x H2, J.yld i H' x H2 → g x σ' H2 fun σ3 H3 => tc σ3 H3 fun ok H4 => if ok = true then te σ3 H4 fun y H5 => ∃ ys, H5 D = some (.lst ys) ∧ ys.length < sizeLine ∧ N σ3 (upd H5 D (.lst (ys ++ [y]))) else N σ3 H4)

theorem closure_go {env : Env} : ∀ (names : List (Str × NameKind)) (acc : List (Str × Addr)),
    (∀ y ∈ names, y.2 = .free → ∃ c, env.cells.lookup y.1 = some c) →
    ∃ cl : List (Str × Addr), (forIn names acc fun (p : Str × NameKind) (cs : List (Str × Addr)) => (if (p.2 == .free) = true then do let c ← cellOf env p.1; pure (ForInStep.yield ((p.1, c) :: cs)) else pure (ForInStep.yield cs) : Sem _)) = (pure cl : Sem _) ∧
      (∀ x c, cl.lookup x = some c → acc.lookup x = some c ∨ (env.cells.lookup x = some c)) ∧ (∀ x, (x, NameKind.free) ∈ names → ∃ c, cl.lookup x = some c) ∧ (∀ x c, acc.lookup x = some c → ∃ c', cl.lookup x = some c')
  | [], acc, _ => ⟨acc, rfl, fun _ _ h => .inl h, (fun _ h => nomatch h), fun _ c h => ⟨c, h⟩⟩
  | (n, k) :: r, acc, h => by
    by_cases hk : k = .free
    · subst hk
      obtain ⟨c, hc⟩ := h (n, .free) List.mem_cons_self rfl
      obtain ⟨cl, e, h1, h2, h3⟩ := closure_go r ((n, c) :: acc) fun y hy => h y (List.mem_cons_of_mem _ hy)
      refine ⟨cl, ?_, fun x d hx => ?_, fun x hx => ?_, fun x d hx => ?_⟩
      · rw [List.forIn_cons]
        have e1 : cellOf env n = pure c := by unfold cellOf; rw [hc]
        simp only [beq_self_eq_true, if_true, e1]
        exact e
      · rcases h1 x d hx with z | z
        · rw [List.lookup_cons] at z
          by_cases hxn : x = n
          · subst hxn
            simp only [beq_self_eq_true] at z
            cases z
            exact .inr hc
          · have : (x == n) = false := beq_eq_false_iff_ne.mpr hxn
            simp only [this] at z
            exact .inl z
        · exact .inr z
      · rcases List.mem_cons.mp hx with z | z
        · cases z
          exact h3 n c (by simp [List.lookup_cons])
        · exact h2 x z
      · by_cases hxn : x = n
        · subst hxn
          exact h3 x c (by simp [List.lookup_cons])
        · have : (x == n) = false := beq_eq_false_iff_ne.mpr hxn
          exact h3 x d (by simp only [List.lookup_cons, this]; exact hx)
    · obtain ⟨cl, e, h1, h2, h3⟩ := closure_go r acc fun y hy => h y (List.mem_cons_of_mem _ hy)
      refine ⟨cl, ?_, h1, fun x hx => ?_, h3⟩
      · rw [List.forIn_cons]
        have : (k == NameKind.free) = false := beq_eq_false_iff_ne.mpr hk
        simp only [this, Bool.false_eq_true, if_false]
        exact e
      · rcases List.mem_cons.mp hx with z | z
        · cases z
          exact absurd rfl hk
        · exact h2 x z
theorem closure_ok {scope : Scope} {env : Env} (h : ∀ y ∈ scope.names, y.2 = .free → ∃ c, env.cells.lookup y.1 = some c) :
    ∃ cl : List (Str × Addr), closureFor scope env = pure cl ∧ (∀ x c, cl.lookup x = some c → env.cells.lookup x = some c) ∧ (∀ x, (x, NameKind.free) ∈ scope.names → ∃ c, cl.lookup x = some c) := by
  obtain ⟨cl, e, h1, h2, _⟩ := closure_go scope.names [] h
  refine ⟨cl, ?_, fun x c hx => (h1 x c hx).resolve_left (fun z => nomatch z), h2⟩
  unfold closureFor
  have e' : (forIn scope.names ([] : List (Str × Addr)) fun (p : Str × NameKind) (cs : List (Str × Addr)) => (match p with | (name, kind) => if (kind == .free) = true then do let c ← cellOf env name; pure (ForInStep.yield ((name, c) :: cs)) else pure (ForInStep.yield cs) : Sem _)) = (pure cl : Sem _) := e
  first
    | exact e'
    | (rw [e']; rfl)
    | (simp only [bind_pure] ; exact e')

theorem relabel_free {scope : Scope} {env : Env} {x : Str} (h : (relabel scope env).names.lookup x = some .cell ∨ (relabel scope env).names.lookup x = some .free) (hcell : ∀ y ∈ scope.names, y.2 ≠ .cell) : (x, NameKind.free) ∈ scope.names := by
  have key : ∀ (names : List (Str × NameKind)), (∀ y ∈ names, y.2 ≠ .cell) →
      ((names.map fun (n, k) => if (k == NameKind.free && env.scope.kind == .function && env.kindOf n == some .cell) then (n, NameKind.cell) else (n, k)).lookup x = some .cell ∨
       (names.map fun (n, k) => if (k == NameKind.free && env.scope.kind == .function && env.kindOf n == some .cell) then (n, NameKind.cell) else (n, k)).lookup x = some .free) → (x, NameKind.free) ∈ names := by
    intro names
    induction names with
    | nil => intro _ h; rcases h with h | h <;> simp at h
    | cons p r ih =>
      obtain ⟨n, k⟩ := p
      intro hc h
      by_cases hxn : x = n
      · subst hxn
        by_cases hk : k = .free
        · subst hk; exact List.mem_cons_self
        · exfalso
          have e : (k == NameKind.free) = false := beq_eq_false_iff_ne.mpr hk
          have hkc : k ≠ .cell := hc (x, k) List.mem_cons_self
          rcases h with h | h
          · simp only [List.map_cons, e, Bool.false_and, Bool.false_eq_true, if_false, List.lookup_cons, beq_self_eq_true] at h
            cases h; exact hkc rfl
          · simp only [List.map_cons, e, Bool.false_and, Bool.false_eq_true, if_false, List.lookup_cons, beq_self_eq_true] at h
            cases h; exact hk rfl
      · have hb : (x == n) = false := beq_eq_false_iff_ne.mpr hxn
        refine List.mem_cons_of_mem _ (ih (fun y hy => hc y (List.mem_cons_of_mem _ hy)) ?_)
        simp only [List.map_cons] at h
        split at h <;> simpa only [List.lookup_cons, hb] using h
  exact key scope.names hcell h

/-- a free name of the block is a cell or a free name there -/
theorem relabel_look {scope : Scope} {env : Env} {x : Str} (h : scope.names.lookup x = some .free) : (relabel scope env).names.lookup x = some .cell ∨ (relabel scope env).names.lookup x = some .free := by
  have key : ∀ (names : List (Str × NameKind)), names.lookup x = some .free →
      ((names.map fun (n, k) => if (k == NameKind.free && env.scope.kind == .function && env.kindOf n == some .cell) then (n, NameKind.cell) else (n, k)).lookup x = some .cell ∨
       (names.map fun (n, k) => if (k == NameKind.free && env.scope.kind == .function && env.kindOf n == some .cell) then (n, NameKind.cell) else (n, k)).lookup x = some .free) := by
    intro names
    induction names with
    | nil => intro h; simp at h
    | cons p r ih =>
      obtain ⟨n, k⟩ := p
      intro h
      by_cases hxn : x = n
      · subst hxn
        simp only [List.lookup_cons, beq_self_eq_true] at h
        cases h
        simp only [List.map_cons]
        split
        · exact .inl (by simp only [List.lookup_cons, beq_self_eq_true])
        · exact .inr (by simp only [List.lookup_cons, beq_self_eq_true])
      · have hb : (x == n) = false := beq_eq_false_iff_ne.mpr hxn
        simp only [List.lookup_cons, hb] at h
        simp only [List.map_cons]
        have := ih h
        split <;> simpa only [List.lookup_cons, hb] using this
  exact key scope.names h

/-- what the text must show of a comprehension's scope -/
structure LcScope (X : Cx) (scope : Scope) (N : List Str) (ini : List (Option Nat)) : Prop where
  kind : scope.kind = .function
  cell : ∀ y ∈ scope.names, y.2 ≠ .cell
  names : ∀ y ∈ scope.names, y.2 = .local → scope.names.lookup y.1 = some .local
  free : ∀ y ∈ scope.names, y.2 = .free → X.env.kindOf y.1 = some .cell ∨ X.env.kindOf y.1 = some .free
  len : ini.length = N.length
  out : ∀ (i j : Nat) (x : Str), ini[i]? = some (some j) → N[i]? = some x → X.N[j]? = some x ∧ scope.names.lookup x = some .free

section
variable {X : Cx} {pins : List (Addr × Obj)} {σ : St} {H : Hp} {s : Shared}

/-- an object of ours that nothing tracks has changed -/
theorem Inv.sameBut {C : Addr} {h' : Heap} (I : Inv X pins σ H s) (hs : Heap.SameBut C s.heap h') (hn : H C = none) (hL : C ≠ X.env.locals)
    (h1 : X.s₀.heap.objs.size ≤ C) (h2 : ∀ x c, X.env.cells.lookup x = some c → c ≠ C) (h3 : ∀ p ∈ X.pn ++ pins, p.1 ≠ C) : Inv X pins σ H { s with heap := h' } :=
  I.turned (t' := s.toks) (it := C) (fun b o hb e => (hs.2 b hb).trans e) hn hL (.inr h1) h2 h3

/-- the block is entered -/
theorem lc_start {scope : Scope} {N : List Str} {ini : List (Option Nat)} {cl : List (Str × Addr)} {fp : List Addr} {h1 : Heap} {t : Nat} {m : Str → Option Value} (S : LcScope X scope N ini) (I : Inv X pins σ H s) (hf : ∀ b ∈ fp, FpOk X pins H b)
    (hfo : ∀ b ∈ fp, ∃ o, s.heap.get? b = some o) (hcl : ∀ x c, cl.lookup x = some c → X.env.cells.lookup x = some c) (hcl2 : ∀ x, (x, NameKind.free) ∈ scope.names → ∃ c, cl.lookup x = some c)
    (hk : ∀ b o, s.heap.get? b = some o → h1.get? b = some o) (hns : h1.Ns s.heap.objs.size m) :
    Inv (cxLc X scope N cl s.heap.objs.size fp s H) [] (iniOf ini σ) H { s with heap := h1, toks := t } := by
  have below : ∀ b o, s.heap.get? b = some o → b ≠ s.heap.objs.size := fun b o e => Nat.ne_of_lt (Heap.lt_size e)
  refine ⟨⟨I.ok.mod, S.kind, I.ok.glob, I.ok.blt, Nat.le_refl _, fun x y c e1 e2 => I.ok.inj x y c (hcl x c e1) (hcl y c e2), fun x hx => ?_, (fun x c z => nomatch z), I.ok.hd, I.ok.frames, .inl rfl, fun b hb => ?_, I.bs, Nat.le_trans I.ok.bsz I.sz, fun b o e hb => ?_, fun b hb hb2 => ?_, I.stack, I.stkFree⟩,
    rfl, I.bare, Un.kept hk, ⟨m, hns, fun i x v e1 e2 e3 => ?_⟩, fun x c e => ?_, I.hok.fresh (Nat.le_refl _), fun x c e => I.freeC x c (hcl x c e), fun p hp => ?_, I.hok.kept hk, ?_⟩
  · exact hcl2 x (relabel_free hx S.cell)
  · obtain ⟨o, ho⟩ := hfo b hb
    exact ⟨below b o ho, fun x c e => (hf b hb).2.2.2.2.1 x c (hcl x c e)⟩
  · rcases (hf b hb).2.2.2.1 with z | z
    · exact I.ok.noex b o e z
    · exact absurd (Nat.lt_of_lt_of_le (Heap.lt_size (I.ok.bs b o e).1) z) (Nat.lt_irrefl _)
  · rcases List.mem_cons.mp (I.stkSub b hb2) with z | z
    · exact (hf b hb).2.1 z
    · exact (hf b hb).2.2.1 z
  · have e1' : N[i]? = some x := e1
    unfold iniOf at e2
    rw [List.getElem?_map] at e2
    cases q : ini[i]? with
    | none => rw [q] at e2; cases e2
    | some o =>
      rw [q] at e2
      cases o with
      | none => cases e2
      | some j =>
        have e2' : (σ[j]?).bind id = some v := Option.some.inj e2
        have hs : σ[j]? = some (some v) := by
          cases r : σ[j]? with
          | none => rw [r] at e2'; cases e2'
          | some z => rw [r] at e2'; exact congrArg some e2'
        obtain ⟨n1, n2⟩ := S.out i j x q e1'
        have hfree : (x, NameKind.free) ∈ scope.names := PySem.mem_of_lookup n2
        have kx := S.free _ hfree rfl
        obtain ⟨m0, hn0, hl0⟩ := I.loc
        obtain ⟨u, r, l⟩ := hl0 j x v n1 hs (by rcases kx with z | z; exact .inr (.inl z); exact .inr (.inr z))
        refine ⟨u, r, .inr ⟨relabel_look n2, ?_⟩⟩
        rcases l with ⟨z, _⟩ | ⟨_, c, e, z⟩
        · exfalso
          rcases kx with y | y <;> · rw [y] at z; cases z
        · obtain ⟨c', e'⟩ := hcl2 x hfree
          have : c' = c := by
            have := hcl x c' e'
            rw [e] at this
            exact (Option.some.inj this).symm
          subst this
          obtain ⟨oc, hoc, hd⟩ := z
          exact ⟨c', e', oc, hk _ _ hoc, hd⟩
  · obtain ⟨v, oc, hoc, hd⟩ := I.cell x c (hcl x c e)
    exact ⟨v, oc, hk _ _ hoc, hd⟩
  · exact absurd (show p ∈ ([] : List (Addr × Obj)) from hp) (by simp)
  · unfold iniOf
    rw [List.length_map]
    exact S.len
end
end L2

namespace L2
open PySem PySem.Spec PyProof.Rows
section
variable {prog : Program} {w : World} {A : Around} {R : Result → Shared → Prop} {s : Shared}
theorem comp_loop {elt target iter : Expr} {ifs : List Expr} {scope : Scope} {pos : Pos} {it acc : Value} {env : Env} (I : Nat → Shared → Prop)
    (turn : ∀ n s, I n s → wpAny (model prog w) A (pyNext it) (fun r s₁ => match r with
      | none => R (.ok .next) s₁
      | some v => wpAny (model prog w) A (letOwnedTupleGo target it v) (fun _ s₁' => wpAny (model prog w) A (assign target env v) (fun _ s₂ =>
          wpAny (model prog w) A (forIn ifs true fun c r => if r = true then do let ok ← isTrue c env (eval c env); pure (ForInStep.yield ok) else pure (ForInStep.yield r)) (fun ok s₃ =>
            if ok = true then wpAny (model prog w) A (eval elt env) (fun x s₄ =>
              wpAny (model prog w) A (call (.builtin "list.append") [acc, x]) (fun _ s₅ => ∃ m, m < n ∧ I m s₅) (fun _ _ => False) s₄) (fun _ _ => False) s₃
            else ∃ m, m < n ∧ I m s₃) (fun _ _ => False) s₂) (fun _ _ => False) s₁') (fun _ _ => False) s₁) (fun _ _ => False) s)
    (n : Nat) (h : I n s) :
    codeAny (model prog w) A (.compLoop (.ListComp elt [⟨target, iter, ifs, 0⟩] scope pos) 0 it acc env) R s := by
  refine codeAny_loop rfl I (fun n s hI => ?_) n h
  show wpAny _ A ((compTurn (.ListComp elt [⟨target, iter, ifs, 0⟩] scope pos) 0 it acc env).onRaise (fun x => do noteFrame x env; theTreesLotGoes x)) _ _ s
  refine wpAny_noted ?_
  rw [compTurn_list]
  refine wpAny_bind (wpAny_standAt (wpAny_bind (wpAny_mono (turn n s hI) (fun r s₁ h₁ => ?_) fun _ _ h' => h'.elim)))
  cases r with
  | none => exact wpAny_pure h₁
  | some v =>
    refine wpAny_bind (wpAny_mono h₁ (fun _ s₁' h₁' => ?_) fun _ _ h' => h'.elim)
    refine wpAny_bind (wpAny_mono h₁' (fun _ s₂ h₂ => wpAny_bind (wpAny_mono h₂ (fun ok s₃ h₃ => ?_) fun _ _ h' => h'.elim)) fun _ _ h' => h'.elim)
    cases ok with
    | false => exact wpAny_pure ⟨rfl, h₃⟩
    | true =>
      exact wpAny_bind (wpAny_bind (wpAny_mono h₃ (fun x s₄ h₄ => wpAny_bind (wpAny_mono h₄ (fun _ s₅ h₅ => wpAny_pure (wpAny_pure ⟨rfl, h₅⟩)) fun _ _ h' => h'.elim)) fun _ _ h' => h'.elim))
end

section
variable {X : Cx} {elt tg iter : Expr} {ifs : List Expr} {scope : Scope} {wi : TI} {g : TG} {tc : TT} {te : TE} {N : List Str} {ini : List (Option Nat)} {pos : Pos}

/-- what the end of a block leaves of its map at C -/
structure Gone (X : Cx) (pins : List (Addr × Obj)) (H : Hp) (h : Heap) (C : Addr) : Prop where
  ns : ∃ m, h.Ns C m
  fr : H C = none
  ne : C ≠ X.env.locals
  up : X.s₀.heap.objs.size ≤ C
  ce : ∀ x c, X.env.cells.lookup x = some c → c ≠ C
  pi : ∀ p ∈ X.pn ++ pins, p.1 ≠ C

theorem lc_run {pins : List (Addr × Obj)} {σ : St} {H2 : Hp} {s2 : Shared} {cl : List (Str × Addr)} {it : Addr} {fp : List Addr} {tn : Nat → Heap → Prop} {J : It} {Q : VK} {RR : Value → Addr → Result → Shared → Prop} (S : LcScope X scope N ini) (hc : X.calm = true)
    (hg : ∀ cl C fp s H, PG (cxLc X scope N cl C fp s H) tg g) (hif : ∀ cl C fp s H, PIf (cxLc X scope N cl C fp s H) ifs tc) (he : ∀ cl C fp s H, PE (cxLc X scope N cl C fp s H) elt te)
    (hcl : ∀ x c, cl.lookup x = some c → X.env.cells.lookup x = some c) (hcl2 : ∀ x, (x, NameKind.free) ∈ scope.names → ∃ c, cl.lookup x = some c)
    (I2 : Inv X pins σ H2 s2) (T : Turn X.prog X.w X.K tg J fp it tn) (st2 : tn 0 s2.heap) (f2 : ∀ b ∈ fp, FpOk X pins H2 b)
    (hW : ∀ D, H2 D = none → ∃ W : Nat → Nat → St → Hp → Prop, (∃ m, W 0 m (iniOf ini σ) (upd H2 D (.lst []))) ∧
      ∀ i m σ' H', W i m σ' H' → (J.stop i H' ∧ Q (.ref D) H') ∨ (J.go i H' ∧ ∃ N : St → Hp → Prop, (∀ σ2 H2, N σ2 H2 → ∃ m', m' < m ∧ W (i + 1) m' σ2 H2) ∧
        ∀ x H2, J.yld i H' x H2 → g x σ' H2 fun σ3 H3 => tc σ3 H3 fun ok H4 => if ok = true then te σ3 H4 fun y H5 => ∃ ys, H5 D = some (.lst ys) ∧ ys.length < sizeLine ∧ N σ3 (upd H5 D (.lst (ys ++ [y]))) else N σ3 H4))
    (fin : ∀ D C s' H', Inv X pins σ H' s' → Gone X pins H' s'.heap C → Q (.ref D) H' → RR (.ref D) C (.ok .next) s') :
    wpAny (model X.prog X.w) X.A (newList []) (fun acc s₃ => wpAny (model X.prog X.w) X.A (newFunctionEnv scope X.env.globals cl [] X.env.qual none .none (some X.env)) (fun cenv s₄ =>
      codeAny (model X.prog X.w) X.A (.compStart (.ListComp elt [⟨tg, iter, ifs, 0⟩] scope pos) 0 (.ref it) acc { cenv with scope := relabel scope X.env }) (RR acc cenv.locals) s₄) X.xe s₃) X.xe s2 := by
  refine wpAny_newObj_type (wpAny_newFunctionEnv S.cell (by intro y hy; simp at hy) (fun h₁ hns₁ hsb₁ => ?_) S.kind)
  dsimp only at hns₁ hsb₁ ⊢
  have hD0 : H2 s2.heap.objs.size = none := I2.hok.fresh (Nat.le_refl _)
  have I3 : Inv X pins σ (upd H2 s2.heap.objs.size (.lst [])) { s2 with heap := s2.heap.push { cls := .type "list", dict := none, data := .seq ([] : List Value).toArray } } := I2.lnew (its := []) (ys := []) (t' := s2.toks) .nil (Nat.zero_le _)
  generalize hs3 : ({ s2 with heap := s2.heap.push { cls := .type "list", dict := none, data := .seq ([] : List Value).toArray } } : Shared) = s3 at I3
  have eh : s2.heap.push { cls := .type "list", dict := none, data := .seq ([] : List Value).toArray } = s3.heap := by rw [← hs3]
  rw [eh] at hns₁ hsb₁
  have up2 : ∀ b o, s2.heap.get? b = some o → s3.heap.get? b = some o := fun b o e => by rw [← eh]; exact Heap.get?_push_of_some _ e
  have hk : ∀ b o, s3.heap.get? b = some o → h₁.get? b = some o := fun b o e => (hsb₁.2 b (Nat.ne_of_lt (Heap.lt_size e))).trans (Heap.get?_push_of_some _ e)
  have f3 : ∀ b ∈ fp, FpOk X pins (upd H2 s2.heap.objs.size (.lst [])) b := fun b hb => by
    obtain ⟨o, ho, _⟩ := T.obj _ _ st2 b hb
    exact ⟨by rw [upd_ne (Nat.ne_of_lt (Heap.lt_size ho))]; exact (f2 b hb).1, (f2 b hb).2⟩
  have I4 := lc_start (t := s3.toks) S I3 f3 (fun b hb => let ⟨o, ho, _⟩ := T.obj _ _ st2 b hb; ⟨o, up2 b o ho⟩) hcl hcl2 hk hns₁
  obtain ⟨W, ⟨m0, w0⟩, turn⟩ := hW s2.heap.objs.size hD0
  have st4 : tn 0 h₁ := T.keep _ _ _ st2 fun b _ o e => hk b o (up2 b o e)
  have stat : ∀ {H' : Hp}, (∀ b ∈ fp, H' b = none) → ∀ b ∈ fp, FpOk (cxLc X scope N cl s3.heap.objs.size fp s3 (upd H2 s2.heap.objs.size (.lst []))) [] H' b := fun {H'} hn b hb =>
    ⟨hn b hb, (I4.ok.exf b hb).1, I4.ok.exfs b hb, .inl hb, (I4.ok.exf b hb).2, fun p hp => absurd (show p ∈ ([] : List (Addr × Obj)) from hp) (by simp)⟩
  have loop : ∀ s4 : Shared, Inv (cxLc X scope N cl s3.heap.objs.size fp s3 (upd H2 s2.heap.objs.size (.lst []))) [] (iniOf ini σ) (upd H2 s2.heap.objs.size (.lst [])) s4 → tn 0 s4.heap →
      codeAny (model X.prog X.w) X.A (.compLoop (.ListComp elt [⟨tg, iter, ifs, 0⟩] scope pos) 0 (.ref it) (.ref s2.heap.objs.size) (compEnvC scope cl s3.heap.objs.size X.env)) (RR (.ref s2.heap.objs.size) s3.heap.objs.size) s4 := by
    intro s4 I4 st4
    refine comp_loop (fun n s' => ∃ i σ' H', Inv (cxLc X scope N cl s3.heap.objs.size fp s3 (upd H2 s2.heap.objs.size (.lst []))) [] σ' H' s' ∧ tn i s'.heap ∧ (∀ b ∈ fp, H' b = none) ∧ W i n σ' H') ?_ m0 ⟨0, _, _, I4, st4, fun b hb => (f3 b hb).1, w0⟩
    rintro n s5 ⟨i, σ5, H5, I5, st5, fr5, w5⟩
    rcases turn i n σ5 H5 w5 with ⟨stop, qn⟩ | ⟨go, NN, hNN, step⟩
    · refine thn (T.done (cxLc X scope N cl s3.heap.objs.size fp s3 (upd H2 s2.heap.objs.size (.lst []))) rfl rfl rfl hc i [] s5 σ5 H5 _ I5 (stat fr5) st5 stop) fun r s6 ⟨hr, I6⟩ => ?_
      subst hr
      have I6' : Inv X pins σ H5 s6 := I3.call' (ch := fp) I6.os I6.base I6.hok I6.bare fun b hb => ⟨(f3 b hb).2.2.2.1, (f3 b hb).2.1, (f3 b hb).2.2.2.2.1, (f3 b hb).2.2.2.2.2⟩
      refine fin _ _ s6 H5 I6' ⟨let ⟨m, hn, _⟩ := I6.loc; ⟨m, hn⟩, I6.free, ?_, I3.sz, fun x c e z => ?_, fun p hp z => ?_⟩ qn
      · exact Ne.symm (Nat.ne_of_lt I3.lt)
      · obtain ⟨v, oc, hoc, _⟩ := I3.cell x c e
        exact Nat.ne_of_lt (Heap.lt_size hoc) z
      · exact Nat.ne_of_lt (Heap.lt_size (I3.pin p hp).1) z
    · refine thn (T.item (cxLc X scope N cl s3.heap.objs.size fp s3 (upd H2 s2.heap.objs.size (.lst []))) rfl rfl rfl hc i [] s5 σ5 H5 _ I5 (stat fr5) st5 go) fun r s6 ⟨u, hr, h6⟩ => ?_
      subst hr
      refine thn h6 fun _ s7 ⟨x, H7, I7, r7, y7, st7, fr7⟩ => ?_
      have I7' := I7.pinned (stat fr7) (T.obj _ _ st7)
      have back : ∀ {σ9 : St} {H9 : Hp} {s9 : Shared}, Inv (cxLc X scope N cl s3.heap.objs.size fp s3 (upd H2 s2.heap.objs.size (.lst []))) ([] ++ pinsAt fp s7.heap) σ9 H9 s9 → NN σ9 H9 →
          ∃ m, m < n ∧ ∃ i σ' H', Inv (cxLc X scope N cl s3.heap.objs.size fp s3 (upd H2 s2.heap.objs.size (.lst []))) [] σ' H' s9 ∧ tn i s9.heap ∧ (∀ b ∈ fp, H' b = none) ∧ W i m σ' H' := fun {σ9 H9 s9} I9 n9 => by
        obtain ⟨m', hm, w9⟩ := hNN σ9 H9 n9
        refine ⟨m', hm, i + 1, σ9, H9, I9.unpinned, T.keep _ _ _ st7 fun b hb o e => (I9.pin (b, o) (List.mem_append_right _ (List.mem_append_right _ (mem_pinsAt hb e)))).1, fun b hb => ?_, w9⟩
        obtain ⟨o, e, d⟩ := T.obj _ _ st7 b hb
        exact (I9.pin (b, o) (List.mem_append_right _ (List.mem_append_right _ (mem_pinsAt hb e)))).2.1
      refine thn (hg _ _ _ _ _ _ s7 σ5 H7 x u _ I7' r7 (step x H7 y7)) fun _ s8 ⟨σ8, H8, I8, q8⟩ => ?_
      refine thn (hif _ _ _ _ _ _ s8 σ8 H8 _ I8 q8) fun ok s9 ⟨H9, I9, q9⟩ => ?_
      cases ok with
      | false =>
        rw [if_neg Bool.false_ne_true] at q9 ⊢
        exact back I9 q9
      | true =>
        rw [if_pos rfl] at q9 ⊢
        refine thn (he _ _ _ _ _ _ s9 σ8 H9 _ I9 q9) fun y s10 ⟨yv, H10, I10, r10, ys, hys, hlt, q10⟩ => ?_
        refine thn (mt_append _ s10 σ8 H10 (.ref s2.heap.objs.size) [yv] (.ref s2.heap.objs.size) [y] (fun _ H' => NN σ8 H') I10 rfl (.cons r10 .nil) ⟨_, ys, yv, rfl, rfl, hys, hlt, q10⟩) fun _ s11 ⟨v11, H11, I11, _, q11⟩ => ?_
        exact back I11 q11
  have e0 : ({ s2 with heap := h₁, toks := s2.toks + ([] : List (Str × Value)).length } : Shared) = { s3 with heap := h₁, toks := s3.toks } := by rw [← hs3]; rfl
  have L0 := loop _ I4 st4
  rw [← e0] at L0
  have es : s3.heap.objs.size = (s2.heap.push { cls := .type "list", dict := none, data := .seq ([] : List Value).toArray }).objs.size := by rw [eh]
  rw [es] at L0
  exact codeAny_compStart_list L0 (T.self _ 0 _ _ _ st4 L0)

/-- [e for t in i if c ..] -/
theorem pe_lc (N : List Str) (ini : List (Option Nat)) (hc : X.calm = true) (S : LcScope X scope N ini) (hi : PI X tg iter wi) (hg : ∀ cl C fp s H, PG (cxLc X scope N cl C fp s H) tg g) (hif : ∀ cl C fp s H, PIf (cxLc X scope N cl C fp s H) ifs tc)
    (he : ∀ cl C fp s H, PE (cxLc X scope N cl C fp s H) elt te) (hs : ∀ x, foldedSetIterable iter X.env x = pure x := by intro _; rfl) : PE X (.ListComp elt [⟨tg, iter, ifs, 0⟩] scope pos) (tLc wi ini g tc te) := by
  intro pins s σ H Q I h
  obtain ⟨cl, ecl, hcl, hcl2⟩ := closure_ok (scope := scope) (env := X.env) fun y hy hf => I.ok.has y.1 (S.free y hy hf)
  rw [eval_ListComp]
  refine wpAny_comprehension_free (use := none) rfl hs ecl S.kind S.names (thn (hi pins s σ H _ I h) fun v s1 h1 => thn h1 fun itv s2 h2 => ?_)
  obtain ⟨it, fp, tn, J, H2, e, I2, T, st2, f2, hW⟩ := h2
  subst e
  refine lc_run (RR := fun acc C => compPost (model X.prog X.w) X.A X.xe none (EP X pins σ Q) acc C) S hc hg hif he hcl hcl2 I2 T st2 f2 hW fun D C s' H' I' G q => ?_
  obtain ⟨m, hn⟩ := G.ns
  exact ⟨m, hn, fun h' hs' => ⟨.ref D, H', I'.sameBut hs' G.fr G.ne G.up G.ce G.pi, rfl, q⟩⟩

/-- x = [e for t in i if c ..], the stores exchanged -/
theorem ps_setLc {i : Nat} {y : Str} {py spos : Pos} (N : List Str) (ini : List (Option Nat)) (hc : X.calm = true) (S : LcScope X scope N ini) (hN : X.N.Nodup) (hy : X.N[i]? = some y) (hx : Loc X.env.scope y) (hi : PI X tg iter wi) (hg : ∀ cl C fp s H, PG (cxLc X scope N cl C fp s H) tg g)
    (hif : ∀ cl C fp s H, PIf (cxLc X scope N cl C fp s H) ifs tc) (he : ∀ cl C fp s H, PE (cxLc X scope N cl C fp s H) elt te)
    (hsw : swapsWith (.ListComp elt [⟨tg, iter, ifs, 0⟩] scope pos) (some (.Name y py)) spos.line X.env = pure true := by rfl) (hs : ∀ x, foldedSetIterable iter X.env x = pure x := by intro _; rfl)
    (hf : X.fn y = true ∨ X.env.scope.names.lookup y = some .local := by first | exact .inl rfl | exact .inr rfl | assumption) :
    PS X (.Assign [.Name y py] (.ListComp elt [⟨tg, iter, ifs, 0⟩] scope pos) spos) (tAsg (tLc wi ini g tc te) (gName i)) := by
  intro pins s σ H D0 I h
  obtain ⟨cl, ecl, hcl, hcl2⟩ := closure_ok (scope := scope) (env := X.env) fun y hy hf => I.ok.has y.1 (S.free y hy hf)
  rw [exec_Assign_Name_used _ _ _ _ hsw]
  refine wpAny_bind (wpAny_standAt (wpAny_bind ?_))
  show wpAny _ X.A (do let _ ← comprehension (.ListComp elt [⟨tg, iter, ifs, 0⟩] scope pos) scope X.env _ (newList []) false (eval iter X.env) (some (assign (.Name y py) X.env))) _ _ s
  refine wpAny_bind (wpAny_mono (wpAny_comprehension_free (use := some (assign (.Name y py) X.env)) (Q := fun _ s' => SP X pins D0 .next s') rfl hs ecl S.kind S.names
    (thn (hi pins s σ H _ I h) fun v s1 h1 => thn h1 fun itv s2 h2 => ?_)) (fun _ s' hq => wpAny_pure (wpAny_pure hq)) fun _ _ e => e)
  obtain ⟨it, fp, tn, J, H2, e, I2, T, st2, f2, hW⟩ := h2
  subst e
  refine lc_run (Q := fun v H' => gName i v σ H' D0.nx) (RR := fun acc C => compPost (model X.prog X.w) X.A X.xe (some (assign (.Name y py) X.env)) (fun _ s' => SP X pins D0 .next s') acc C) S hc hg hif he hcl hcl2 I2 T st2 f2 hW fun D C s' H' I' G q => ?_
  obtain ⟨m, hn⟩ := G.ns
  refine wpAny_assign_Name (store_ok2 (v := .ref D) (u := .ref D) I' hN hy hx rfl (fun s'' I'' ⟨a, hsa, ha⟩ => ?_) hf)
  have hCa : C ≠ a := by
    rcases ha with z | z
    · rw [z]; exact G.ne
    · exact (G.ce _ _ z).symm
  exact ⟨m, hn.sameBut hsa hCa, fun h' hs' => ⟨_, H', I''.sameBut hs' G.fr G.ne G.up G.ce G.pi, q⟩⟩
end

/-! ### the forms one uses -/
/-- over a list that the block leaves as it is: Pv (turn, names, heap) with the new list within -/
theorem lc_list {K : PySem.W.Frag} {a D : Addr} {xs : List V} {g : TG} {tc : TT} {te : TE} {R : Hp → Prop} {σ : St} {H : Hp} (Pv : Nat → St → Hp → Prop) (h0 : Pv 0 σ H) (hl : ∀ i σ H, i ≤ xs.length → Pv i σ H → SqL K H a xs)
    (hs : ∀ i x σ H, xs[i]? = some x → Pv i σ H → g x σ H fun σ3 H3 => tc σ3 H3 fun ok H4 => if ok = true then te σ3 H4 fun y H5 => ∃ ys, H5 D = some (.lst ys) ∧ ys.length < sizeLine ∧ Pv (i + 1) σ3 (upd H5 D (.lst (ys ++ [y]))) else Pv (i + 1) σ3 H4)
    (hd : ∀ σ H, Pv xs.length σ H → R H) :
    ∃ W : Nat → Nat → St → Hp → Prop, (∃ m, W 0 m σ H) ∧
      ∀ i m σ' H', W i m σ' H' → ((Itl K a).stop i H' ∧ R H') ∨ ((Itl K a).go i H' ∧ ∃ N : St → Hp → Prop, (∀ σ2 H2, N σ2 H2 → ∃ m', m' < m ∧ W (i + 1) m' σ2 H2) ∧
        ∀ x H2, (Itl K a).yld i H' x H2 → g x σ' H2 fun σ3 H3 => tc σ3 H3 fun ok H4 => if ok = true then te σ3 H4 fun y H5 => ∃ ys, H5 D = some (.lst ys) ∧ ys.length < sizeLine ∧ N σ3 (upd H5 D (.lst (ys ++ [y]))) else N σ3 H4) := by
  refine ⟨fun i m σ' H' => m = xs.length - i ∧ i ≤ xs.length ∧ Pv i σ' H', ⟨_, rfl, Nat.zero_le _, h0⟩, ?_⟩
  rintro i m σ' H' ⟨rfl, hi, p⟩
  have q := hl i σ' H' hi p
  by_cases he : i = xs.length
  · subst he
    exact .inl ⟨⟨xs, q, Nat.le_refl _⟩, hd _ _ p⟩
  · have hlt : i < xs.length := by omega
    obtain ⟨x, hx⟩ : ∃ x, xs[i]? = some x := ⟨_, List.getElem?_eq_getElem hlt⟩
    refine .inr ⟨⟨xs, x, q, hx⟩, Pv (i + 1), fun σ2 H2 p2 => ⟨xs.length - (i + 1), by omega, rfl, hlt, p2⟩, ?_⟩
    rintro y H2 ⟨rfl, hy⟩
    have := hy xs q
    rw [hx] at this
    cases this
    exact hs i _ σ' _ hx p
theorem lc_range {lo : Int} {n : Nat} {D : Addr} {g : TG} {tc : TT} {te : TE} {R : Hp → Prop} {σ : St} {H : Hp} (Pv : Nat → St → Hp → Prop) (h0 : Pv 0 σ H)
    (hs : ∀ i σ H, i < n → Pv i σ H → g (.int (lo + i)) σ H fun σ3 H3 => tc σ3 H3 fun ok H4 => if ok = true then te σ3 H4 fun y H5 => ∃ ys, H5 D = some (.lst ys) ∧ ys.length < sizeLine ∧ Pv (i + 1) σ3 (upd H5 D (.lst (ys ++ [y]))) else Pv (i + 1) σ3 H4)
    (hd : ∀ σ H, Pv n σ H → R H) :
    ∃ W : Nat → Nat → St → Hp → Prop, (∃ m, W 0 m σ H) ∧
      ∀ i m σ' H', W i m σ' H' → ((Itr lo n).stop i H' ∧ R H') ∨ ((Itr lo n).go i H' ∧ ∃ N : St → Hp → Prop, (∀ σ2 H2, N σ2 H2 → ∃ m', m' < m ∧ W (i + 1) m' σ2 H2) ∧
        ∀ x H2, (Itr lo n).yld i H' x H2 → g x σ' H2 fun σ3 H3 => tc σ3 H3 fun ok H4 => if ok = true then te σ3 H4 fun y H5 => ∃ ys, H5 D = some (.lst ys) ∧ ys.length < sizeLine ∧ N σ3 (upd H5 D (.lst (ys ++ [y]))) else N σ3 H4) := by
  refine ⟨fun i m σ' H' => m = n - i ∧ i ≤ n ∧ Pv i σ' H', ⟨_, rfl, Nat.zero_le _, h0⟩, ?_⟩
  rintro i m σ' H' ⟨rfl, hi, p⟩
  by_cases he : i = n
  · subst he
    exact .inl ⟨Nat.le_refl _, hd _ _ p⟩
  · have hlt : i < n := by omega
    refine .inr ⟨hlt, Pv (i + 1), fun σ2 H2 p2 => ⟨n - (i + 1), by omega, rfl, hlt, p2⟩, ?_⟩
    rintro y H2 ⟨rfl, rfl⟩
    exact hs i σ' _ hlt p
end L2

namespace L2
open PySem PySem.Spec PyProof.Rows
/-- what a text's tables say of a comprehension's scope -/
def lcOk (DN : List (Str × NameKind)) (XN : List Str) (scope : Scope) (N : List Str) (ini : List (Option Nat)) : Bool :=
  scope.names.all (fun y => y.2 != .cell) && (scope.names.all (fun y => y.2 != .local || scope.names.lookup y.1 == some .local) && (scope.names.all (fun y => y.2 != .free || (DN.lookup y.1 == some .cell || DN.lookup y.1 == some .free)) &&
    (decide (ini.length = N.length) && (ini.zip N).all fun z => match z.1 with
      | none => true
      | some j => XN[j]? == some z.2 && scope.names.lookup z.2 == some .free)))
theorem lc_of {X : Cx} {scope : Scope} {N : List Str} {ini : List (Option Nat)} (DN : List (Str × NameKind)) (XN : List Str) (hk : ∀ x, X.env.kindOf x = DN.lookup x) (hN : X.N = XN) (hs : scope.kind = .function) (h : lcOk DN XN scope N ini = true) : LcScope X scope N ini := by
  unfold lcOk at h
  simp only [Bool.and_eq_true, List.all_eq_true] at h
  obtain ⟨h1, h2, h3, h4, h5⟩ := h
  refine ⟨hs, fun y hy e => ?_, fun y hy e => ?_, fun y hy e => ?_, of_decide_eq_true h4, fun i j x e1 e2 => ?_⟩
  · have := h1 y hy
    rw [e] at this
    exact absurd this (by decide)
  · have := h2 y hy
    rw [e] at this
    simpa using this
  · have := h3 y hy
    rw [e] at this
    rw [hk]
    simpa using this
  · have hm : (some j, x) ∈ ini.zip N := by
      refine List.mem_of_getElem? (i := i) ?_
      rw [List.getElem?_zip_eq_some]
      exact ⟨e1, e2⟩
    have := h5 _ hm
    simp only [Bool.and_eq_true, beq_iff_eq] at this
    rw [hN]
    exact this
/-- a name of a comprehension's own -/
theorem pg_lc {X : Cx} {scope : Scope} {N : List Str} {cl : List (Str × Addr)} {C : Addr} {fp : List Addr} {s : Shared} {H : Hp} {x : Str} {pos : Pos} (i : Nat) (hN : N.Nodup) (hi : N[i]? = some x := by rfl)
    (hx : Loc (relabel scope X.env) x := by first | exact Or.inl rfl | exact Or.inr rfl) (hf : (relabel scope X.env).names.lookup x = some .local := by rfl) : PG (cxLc X scope N cl C fp s H) (.Name x pos) (gName i) :=
  pg_name (i := i) hN hi hx (.inr hf)
end L2

namespace L2
open PySem PySem.Spec PyProof.Rows
theorem yesG {i : Nat} {v : V} {σ : St} {H : Hp} {P R : St → Hp → Prop} (h : P (σ.set i (some v)) H) : gName i v σ H (fun σ3 H3 => tYes σ3 H3 fun ok H4 => if ok = true then P σ3 H4 else R σ3 H4) := by
  show if true = true then P (σ.set i (some v)) H else R (σ.set i (some v)) H
  rw [if_pos rfl]
  exact h
end L2

/-! EXT 2: data of any depth compared; isinstance; nested lists of ints as they stand in the abstract heap. -/
namespace L2
open PySem PySem.Spec PyProof.Rows

mutual
/-- a value as data, read off the abstract heap -/
inductive Dat (K : PySem.W.Frag) (H : Hp) : V → PyData → Prop where
  | non : Dat K H .non .none
  | bl (b : Bool) : Dat K H (.bl b) (.bool b)
  | int (i : Int) : Dat K H (.int i) (.int i)
  | str (x : Str) : Dat K H (.str x) (.str x)
  | lst {a : Addr} {xs : List V} {ds : List PyData} : SqL K H a xs → DatAll K H xs ds → Dat K H (.ref a) (.list ds)
  | tup {a : Addr} {xs : List V} {ds : List PyData} : SqT K H a xs → DatAll K H xs ds → Dat K H (.ref a) (.tuple ds)
inductive DatAll (K : PySem.W.Frag) (H : Hp) : List V → List PyData → Prop where
  | nil : DatAll K H [] []
  | cons {x : V} {d : PyData} {xs : List V} {ds : List PyData} : Dat K H x d → DatAll K H xs ds → DatAll K H (x :: xs) (d :: ds)
end

section
variable {X : Cx} {pins : List (Addr × Obj)} {σ : St} {H : Hp} {s : Shared}
mutual
theorem Dat.reads (I : Inv X pins σ H s) {x : V} {d : PyData} {u : Value} : Dat X.K H x d → RelV x u → ∃ as, Reads s.heap u d as
  | .non, r => by cases (show u = Value.none from r); exact ⟨_, .none⟩
  | .bl b, r => by cases (show u = Value.bool b from r); exact ⟨_, .bool b⟩
  | .int i, r => by obtain ⟨t, q⟩ := (show ∃ t, u = Value.int i t from r); cases q; exact ⟨_, .int i t⟩
  | .str z, r => by obtain ⟨t, q⟩ := (show ∃ t, u = Value.str z t from r); cases q; exact ⟨_, .str z t⟩
  | .lst (a := a) h t, r => by
    cases (show u = Value.ref a from r)
    obtain ⟨its, v, ⟨o, n, e, c, _, d⟩, _⟩ := I.list h
    obtain ⟨as, q⟩ := DatAll.reads I t v
    exact ⟨_, .list e c d (by simpa using q)⟩
  | .tup (a := a) h t, r => by
    cases (show u = Value.ref a from r)
    obtain ⟨its, v, ⟨o, e, c, n, d⟩, _⟩ := I.tuple h
    obtain ⟨as, q⟩ := DatAll.reads I t v
    exact ⟨_, .tuple e c d (by simpa using q)⟩
theorem DatAll.reads (I : Inv X pins σ H s) {xs : List V} {ds : List PyData} {us : List Value} : DatAll X.K H xs ds → Vals xs us → ∃ as, ReadsAll s.heap us ds as
  | .nil, .nil => ⟨_, .nil⟩
  | .cons h t, .cons r q => by
    obtain ⟨as, e⟩ := Dat.reads I h r
    obtain ⟨bs, f⟩ := DatAll.reads I t q
    exact ⟨_, .cons e f⟩
end
end

/-- == of data -/
def rEqD (K : PySem.W.Frag) : R2 := fun x y H Q => ∃ dx dy, Dat K H x dx ∧ Dat K H y dy ∧ dx.canLay0 = true ∧ dy.canLay0 = true ∧ dx.depth ≤ 60 ∧ Q (.bl (PyData.eqv dx dy)) H
def rNeD (K : PySem.W.Frag) : R2 := fun x y H Q => ∃ dx dy, Dat K H x dx ∧ Dat K H y dy ∧ dx.canLay0 = true ∧ dy.canLay0 = true ∧ dx.depth ≤ 60 ∧ Q (.bl (!PyData.eqv dx dy)) H
section
variable {X : Cx}
theorem op_eqD (hu : X.A.units + 64 < cLine) : OpR X (compareOp .Eq) (rEqD X.K) := by
  intro pins s σ H x y v u Q I rx ry h
  obtain ⟨dx, dy, hx, hy, lx, ly, hd, q⟩ := h
  obtain ⟨as, ra⟩ := hx.reads I rx
  obtain ⟨bs, rb⟩ := hy.reads I ry
  exact SeqAt.compareEq_reads ra rb lx ly (Nat.lt_of_le_of_lt (Nat.add_le_add_left (Nat.le_trans (Nat.min_le_left _ _) (Nat.le_trans hd (by decide : 60 ≤ 64))) _) hu) ⟨.bl _, H, I, rfl, q⟩
theorem op_neD (hu : X.A.units + 64 < cLine) : OpR X (compareOp .NotEq) (rNeD X.K) := by
  intro pins s σ H x y v u Q I rx ry h
  obtain ⟨dx, dy, hx, hy, lx, ly, hd, q⟩ := h
  obtain ⟨as, ra⟩ := hx.reads I rx
  obtain ⟨bs, rb⟩ := hy.reads I ry
  exact SeqAt.compareNe_reads ra rb lx ly (Nat.lt_of_le_of_lt (Nat.add_le_add_left (Nat.le_trans (Nat.min_le_left _ _) (Nat.le_trans hd (by decide : 60 ≤ 64))) _) hu) ⟨.bl _, H, I, rfl, q⟩

end

/-! ### lists of ints, lists of lists of ints -/
def dI (ns : List Int) : PyData := .list (ns.map .int)
def dL (p : List (List Int)) : PyData := .list (p.map dI)
theorem eqvAll_ints : ∀ a b : List Int, PyData.eqvAll (a.map .int) (b.map .int) = decide (a = b)
  | [], [] => by simp [PyData.eqvAll]
  | [], y :: ys => by simp [PyData.eqvAll]
  | x :: xs, [] => by simp [PyData.eqvAll]
  | x :: xs, y :: ys => by
    rw [List.map_cons, List.map_cons, PyData.eqvAll, PyData.eqv, eqvAll_ints xs ys]
    by_cases h : x = y <;> simp [h]
theorem eqv_dI (a b : List Int) : PyData.eqv (dI a) (dI b) = decide (a = b) := by
  unfold dI
  rw [PyData.eqv, eqvAll_ints]
theorem eqvAll_dI : ∀ a b : List (List Int), PyData.eqvAll (a.map dI) (b.map dI) = decide (a = b)
  | [], [] => by simp [PyData.eqvAll]
  | [], y :: ys => by simp [PyData.eqvAll]
  | x :: xs, [] => by simp [PyData.eqvAll]
  | x :: xs, y :: ys => by
    rw [List.map_cons, List.map_cons, PyData.eqvAll, eqv_dI, eqvAll_dI xs ys]
    by_cases h : x = y <;> simp [h]
theorem eqv_dL (a b : List (List Int)) : PyData.eqv (dL a) (dL b) = decide (a = b) := by
  unfold dL
  rw [PyData.eqv, eqvAll_dI]
theorem lay_ints : ∀ a : List Int, PyData.canLayAll0 (a.map .int) = true
  | [] => by simp [PyData.canLayAll0]
  | x :: xs => by rw [List.map_cons, PyData.canLayAll0, lay_ints xs]; simp [PyData.canLay0]
theorem lay_dI (a : List Int) : (dI a).canLay0 = true := by
  unfold dI
  rw [PyData.canLay0]
  exact lay_ints a
theorem lay_dIs : ∀ a : List (List Int), PyData.canLayAll0 (a.map dI) = true
  | [] => by simp [PyData.canLayAll0]
  | x :: xs => by rw [List.map_cons, PyData.canLayAll0, lay_dIs xs, lay_dI]; rfl
theorem lay_dL (a : List (List Int)) : (dL a).canLay0 = true := by
  unfold dL
  rw [PyData.canLay0]
  exact lay_dIs a
theorem dep_ints : ∀ a : List Int, PyData.depthAll (a.map .int) ≤ 1
  | [] => by simp [PyData.depthAll]
  | x :: xs => by have := dep_ints xs; rw [List.map_cons]; simp only [PyData.depthAll, PyData.depth]; omega
theorem dep_dI (a : List Int) : (dI a).depth ≤ 2 := by
  unfold dI
  have := dep_ints a
  simp only [PyData.depth]; omega
theorem dep_dIs : ∀ a : List (List Int), PyData.depthAll (a.map dI) ≤ 2
  | [] => by simp [PyData.depthAll]
  | x :: xs => by have := dep_dIs xs; have := dep_dI x; rw [List.map_cons]; simp only [PyData.depthAll]; omega
theorem dep_dL (a : List (List Int)) : (dL a).depth ≤ 3 := by
  unfold dL
  have := dep_dIs a
  simp only [PyData.depth]; omega

/-- v is a list of the ints ns -/
def LI (H : Hp) (v : V) (ns : List Int) : Prop := ∃ a, v = .ref a ∧ H a = some (.lst (ns.map V.int))
/-- v is a list of lists of ints -/
def LL (H : Hp) (v : V) (p : List (List Int)) : Prop := ∃ a xs, v = .ref a ∧ H a = some (.lst xs) ∧ Paired (LI H) xs p
theorem LI.same {H H' : Hp} {v : V} {ns : List Int} (s : Same H H') (h : LI H v ns) : LI H' v ns := let ⟨a, e, q⟩ := h; ⟨a, e, s _ _ q⟩
theorem lis_same {H H' : Hp} (s : Same H H') {xs : List V} {p : List (List Int)} (h : Paired (LI H) xs p) : Paired (LI H') xs p := Paired.imp' (fun _ _ q => q.same s) h
theorem LL.same {H H' : Hp} {v : V} {p : List (List Int)} (s : Same H H') (h : LL H v p) : LL H' v p := let ⟨a, xs, e, q, r⟩ := h; ⟨a, xs, e, s _ _ q, lis_same s r⟩
theorem datAll_ints {K : PySem.W.Frag} {H : Hp} : ∀ ns : List Int, DatAll K H (ns.map V.int) (ns.map .int)
  | [] => .nil
  | n :: r => .cons (.int n) (datAll_ints r)
theorem LI.dat {K : PySem.W.Frag} {H : Hp} {v : V} {ns : List Int} (h : LI H v ns) : Dat K H v (dI ns) := by
  obtain ⟨a, rfl, e⟩ := h
  exact .lst (.of e) (datAll_ints ns)
theorem datAll_lis {K : PySem.W.Frag} {H : Hp} : ∀ {xs : List V} {p : List (List Int)}, Paired (LI H) xs p → DatAll K H xs (p.map dI)
  | _, _, .nil => .nil
  | _, _, .cons h t => .cons h.dat (datAll_lis t)
theorem LL.dat {K : PySem.W.Frag} {H : Hp} {v : V} {p : List (List Int)} (h : LL H v p) : Dat K H v (dL p) := by
  obtain ⟨a, xs, rfl, e, r⟩ := h
  exact .lst (.of e) (datAll_lis r)
theorem same_upd {H : Hp} {a : Addr} {o : HO} (h : H a = none) : Same H (upd H a o) := fun b u e => by rw [upd_ne (ne_of_none e h)]; exact e
theorem Same.upd {H H' : Hp} {a : Addr} {o : HO} (s : Same H H') (h : H a = none) : Same H (upd H' a o) := fun b u e => by rw [upd_ne (ne_of_none e h)]; exact s b u e
theorem Paired.get {α β : Type} {F : α → β → Prop} : ∀ {l₁ : List α} {l₂ : List β} {i : Nat} {x : α}, Paired F l₁ l₂ → l₁[i]? = some x → ∃ y, l₂[i]? = some y ∧ F x y
  | _, _, _, _, .nil, e => by simp at e
  | _, _, 0, _, .cons r _, e => by simp at e; subst e; exact ⟨_, rfl, r⟩
  | _, _, i + 1, x, .cons _ t, e => by
    obtain ⟨u, h1, h2⟩ := Paired.get (i := i) (x := x) t (by simpa using e)
    exact ⟨u, by simpa using h1, h2⟩
theorem Paired.take {α β : Type} {F : α → β → Prop} : ∀ {l₁ : List α} {l₂ : List β} (n : Nat), Paired F l₁ l₂ → Paired F (l₁.take n) (l₂.take n)
  | _, _, 0, _ => .nil
  | _, _, _ + 1, .nil => .nil
  | _, _, n + 1, .cons r t => .cons r (Paired.take n t)
theorem Paired.drop {α β : Type} {F : α → β → Prop} : ∀ {l₁ : List α} {l₂ : List β} (n : Nat), Paired F l₁ l₂ → Paired F (l₁.drop n) (l₂.drop n)
  | _, _, 0, r => r
  | _, _, _ + 1, .nil => .nil
  | _, _, n + 1, .cons _ t => Paired.drop n t
theorem Paired.append {α β : Type} {F : α → β → Prop} : ∀ {a b : List α} {c d : List β}, Paired F a c → Paired F b d → Paired F (a ++ b) (c ++ d)
  | _, _, _, _, .nil, s => s
  | _, _, _, _, .cons r t, s => .cons r (Paired.append t s)
end L2

/-! EXT 3: short words for a def of the text and its promise; what a text's def hands back. -/
namespace L2
open PySem PySem.Spec PyProof.Rows

/-- the def named x stands behind the top, and the module's name x is it -/
structure Def (K : PySem.W.Frag) (mg : Str → Option Value) (x : Str) (st : Stmt) : Prop where
  ex : ∃ (f : Addr) (fd : FuncData), Fun K x x st f fd ∧ mg x = some (.ref f)
/-- .. and keeps its promise -/
structure Ok (P : Program) (w : World) (K : PySem.W.Frag) (mg : Str → Option Value) (base : Heap) (x : Str) (k : Nat) (ps : List Str) (sp : Sp) : Prop where
  ex : ∃ (f : Addr) (fd : FuncData), FnOk P w K mg base CX0 k f fd ps sp ∧ mg x = some (.ref f) ∧ PySem.W.keepIn K (.ref f) = true ∧ Binds K fd ps []
section
variable {P : Program} {w : World} {K : PySem.W.Frag} {mg : Str → Option Value} {base : Heap}
theorem Def.ok {x : Str} {st : Stmt} {N ps : List Str} {k : Nat} {sp : Sp} (D : Def K mg x st) (S : FnScope N ps (defScope st))
    (hb : ∀ (kV doc pm : Value) (an : Option Addr) (cdv ct : Value) (us : List Value), us.length = ps.length → bindArgs (PySem.W.fnOf x x (defArgs st) (defBody st) (defScope st) .none kV doc pm an cdv ct) ⟨us, []⟩ = pure (ps.zip us))
    (len : ∀ vs H Q E, sp vs H Q E → vs.length = ps.length)
    (hbody : ∀ (f : Addr) (cdv : Value) (A : Around) (outer : List Env) (s : Shared) (H : Hp) (vs : List V) (Q : VK) (E : XK), Room k (A.deeper (envOfC x (defScope st) s.heap.objs.size f cdv)) → sp vs H Q E →
      ∃ t, PSs (cxOf CX0 P w K mg base N x (defScope st) f cdv A outer s H E).nox (defBody st) t ∧ t { nx := fun _ H' => Q .non H', rt := Q } (start N vs) H) : Ok P w K mg base x (k + 1) ps sp := by
  obtain ⟨f, fd, F, m⟩ := D.ex
  exact ⟨f, fd, F.ok S len (fun cdv A outer s H vs Q E hr h => hbody f cdv A outer s H vs Q E hr h), m, F.kp, F.binds hb⟩
theorem Ok.mono {x : Str} {j k : Nat} {ps : List Str} {sp : Sp} (O : Ok P w K mg base x j ps sp) (h : j ≤ k) : Ok P w K mg base x k ps sp := by
  obtain ⟨f, fd, F, r⟩ := O.ex
  exact ⟨f, fd, F.mono h, r⟩
theorem Ok.imp {x : Str} {k : Nat} {ps : List Str} {sp sp' : Sp} (O : Ok P w K mg base x k ps sp) (h : ∀ vs H Q E, sp' vs H Q E → sp vs H Q E) : Ok P w K mg base x k ps sp' := by
  obtain ⟨f, fd, F, r⟩ := O.ex
  exact ⟨f, fd, F.imp h, r⟩
theorem def_mk {x : Str} {st : Stmt} {f : Addr} {oc : Value} {od an : Option Addr} {osl : Array (Option Value)} {kV doc pm cdv ct : Value} {h : Heap} (X : K.In h) (G : h.Ns mainGlobals mg) (a : PySem.W.nsIn K mainGlobals x = some (some (.ref f)))
    (l : K.lookup f = some ⟨oc, od, .func (PySem.W.fnOf x x (defArgs st) (defBody st) (defScope st) .none kV doc pm an cdv ct), osl⟩)
    (c : PySem.W.codeIn K cdv x = true) (k : PySem.W.keepIn K (.ref f) = true) : Def K mg x st := ⟨f, _, fun_mk l c k, PySem.W.mg_of X G a⟩
end
/-- a call of a def of the text -/
theorem pe_callO {X : Cx} {x : Str} {k : Nat} {ps : List Str} {sp : Sp} {p pos : Pos} {e : Expr} {es : List Expr} {t : TA} (O : Ok X.prog X.w X.K X.mg X.base x k ps sp) (hr : Room k X.A) (ha : PA X (e :: es) t) (hg : Gl X x := by rfl) (hdb : (x == ("__debug__" : Str)) = false := by decide)
    (he : starEach (e :: es) X.env = (false, eval e X.env) :: starEach es X.env := by rfl) (hpl : (backTo pos (starEach es X.env)).any (·.1) = false := by rfl) : PE X (.Call (.Name x p) (e :: es) [] pos) (tCall sp [] E0 t) := by
  obtain ⟨f, fd, F, m, kp, b⟩ := O.ex
  exact pe_call F hr hg m kp b .nil pass0 ha hdb he hpl
/-- the law's promise -/
def spLaw (K : PySem.W.Frag) : Sp := fun vs H Q _ => ∃ (a : Addr) (ns : List Int), vs = [.ref a] ∧ SqL K H a (ns.map V.int) ∧ ns.length ≤ 63 ∧ ∀ H', Q (.bl true) H'
theorem walkL {l : PySem.W.OpenLaw} {q : Program} {loose : List Str} {XP : (Str → Option Value) → Heap → Prop} {YP : World → Heap → Prop} {d : DefRec} {K : Params → PySem.W.Frag} {k : Nat} (hn : l.most = some 63) (hdf : d.params.defaults = []) (hk : Room k callerA)
    (hY : ∀ (w : World) (h : Heap), YP w h → (K w.params).In h)
    (F : ∀ (w : World) (mg : Str → Option Value) (fa : Addr) (h : Heap), (K w.params).In h → h.Ns mainGlobals mg → mg d.name = some (.ref fa) →
      ∃ fd : FuncData, (∀ (s : Shared) (u : Value), BindsTo s fd ⟨[u], []⟩ [("script", u)]) ∧ ∀ base : Heap, (K w.params).In base → base.Ns mainGlobals mg → FnOk l.prog w (K w.params) mg base CX0 k fa fd ["script"] (spLaw (K w.params))) :
    PySem.W.WalkO q loose XP YP l.row.toRowW d [] (fun f vs => PySem.call f vs) :=
  L2.walk_of (n := 63) (k := k) (x := "script") (CX := fun _ => CX0) (sp := fun w => spLaw (K w.params)) hn (by decide) hdf hk hY F (fun _ _ a ns hl _ hS => ⟨a, ns, rfl, hS, hl, fun _ => rfl⟩) fun _ _ _ _ _ z => z

/-- a new list of ints is handed back, all that was tracked stands -/
def RetI (H : Hp) (Q : VK) (ns : List Int) : Prop := ∀ l H', H l = none → Same H H' → H' l = some (.lst (ns.map V.int)) → Q (.ref l) H'
/-- at D stands a new list of new lists of ints -/
structure Nw (H H2 : Hp) (D : Addr) (p : List (List Int)) : Prop where
  fr : H D = none
  ex : ∃ xs, H2 D = some (.lst xs) ∧ Paired (fun (u : V) (ns : List Int) => ∃ b, u = V.ref b ∧ b ≠ D ∧ H b = none ∧ H2 b = some (.lst (ns.map V.int))) xs p
theorem Nw.same {H H2 H3 : Hp} {D : Addr} {p : List (List Int)} (n : Nw H H2 D p) (s : Same H2 H3) : Nw H H3 D p := by
  obtain ⟨f, xs, e, r⟩ := n
  exact ⟨f, xs, s _ _ e, Paired.imp' (fun _ _ ⟨b, e1, e2, e3, e4⟩ => ⟨b, e1, e2, e3, s _ _ e4⟩) r⟩
theorem Nw.ll {H H2 : Hp} {D : Addr} {p : List (List Int)} (n : Nw H H2 D p) : LL H2 (.ref D) p := by
  obtain ⟨_, xs, e, r⟩ := n
  exact ⟨D, xs, rfl, e, Paired.imp' (fun _ _ ⟨b, e1, _, _, e4⟩ => ⟨b, e1, e4⟩) r⟩
theorem Nw.nil {H H2 : Hp} {D : Addr} (f : H D = none) (e : H2 D = some (.lst [])) : Nw H H2 D [] := ⟨f, [], e, .nil⟩
/-- one more list is put behind -/
theorem Nw.snoc {H H2 H3 : Hp} {D b : Addr} {p : List (List Int)} {xs : List V} {m : List Int} (n : Nw H H2 D p) (s : Same H2 H3) (e : H2 D = some (.lst xs)) (hb : H b = none) (hn : b ≠ D) (hm : H3 b = some (.lst (m.map V.int))) :
    Nw H (upd H3 D (.lst (xs ++ [.ref b]))) D (p ++ [m]) := by
  obtain ⟨f, ys, e', r⟩ := n
  rw [e] at e'
  cases e'
  refine ⟨f, _, upd_same, Paired.snoc (Paired.imp' (fun _ _ ⟨c, e1, e2, e3, e4⟩ => ⟨c, e1, e2, e3, ?_⟩) r) ⟨b, rfl, hn, hb, ?_⟩⟩
  · rw [upd_ne hn]
    exact hm
  · rw [upd_ne e2]
    exact s _ _ e4
theorem Same.write {H H2 : Hp} {D : Addr} {o : HO} (s : Same H H2) (f : H D = none) : Same H (L2.upd H2 D o) := s.upd f
/-- a statement, what holds behind it, the rest -/
def tMid (mid : St → Hp → Prop) (t u : TS) : TS := fun D σ H => t { D with nx := mid } σ H ∧ ∀ σ' H', mid σ' H' → u D σ' H'
theorem pss_mid {X : Cx} {st : Stmt} {rest : List Stmt} {t u : TS} (mid : St → Hp → Prop) (h1 : PS X st t) (h2 : PSs X rest u) : PSs X (st :: rest) (tMid mid t u) := by
  intro pins s σ H D I h
  refine wpAny_execs_cons (thn (h1 pins s σ H _ I h.1) fun f s1 q => ?_)
  cases f with
  | next => obtain ⟨σ1, H1, I1, q1⟩ := q; exact h2 pins s1 σ1 H1 D I1 (h.2 σ1 H1 q1)
  | brk => exact q
  | cont => exact q
  | ret v => exact q
/-- the names of a frame that one says nothing of -/
theorem lt1000 {n : Nat} (h : n ≤ 999) : n < sizeLine := Nat.lt_of_le_of_lt h (by decide)
theorem le1000 {n : Nat} (h : n ≤ 1000) : n ≤ sizeLine := Nat.le_trans h (by decide)
theorem map_int_get {ns : List Int} {i : Nat} {y : V} (hi : (ns.map V.int)[i]? = some y) : ∃ z, y = V.int z ∧ ns[i]? = some z := by
  rw [List.getElem?_map] at hi
  cases e : ns[i]? with
  | none => rw [e] at hi; cases hi
  | some z => rw [e] at hi; exact ⟨z, (Option.some.inj hi).symm, rfl⟩
end L2
namespace L2
open PySem
theorem bt_list : bootBuiltins "list" = some (.type "list") := by decide +kernel
theorem bt_str : bootBuiltins "str" = some (.type "str") := by decide +kernel
theorem bt_isinstance : bootBuiltins "isinstance" = some (.builtin "isinstance") := by decide +kernel
end L2

/-! MATH 1: plans, sets, answers as plain functions. -/
namespace Mix
def isSetFrom (w b : Int) : List Int → Bool
  | [] => true
  | x :: r => if x ≤ b ∨ w ≤ x then false else isSetFrom w x r
def isSet (w : Int) (ns : List Int) : Bool := isSetFrom w (-1) ns
def isMix (w : Int) (m : List Int) : Bool := !m.isEmpty && isSet w m
def isPlan (w : Int) (p : List (List Int)) : Bool := decide (p.length ≤ 12) && p.all (isMix w)
def cell (ns : List Int) (k : Int) : Int := ns.getD k.toNat 0

theorem isSetFrom_cons {w b x : Int} {r : List Int} : isSetFrom w b (x :: r) = if x ≤ b ∨ w ≤ x then false else isSetFrom w x r := rfl
theorem isSetFrom_snoc : ∀ {w b y : Int} {l : List Int}, isSetFrom w b l = true → (∀ x ∈ l, x < y) → b < y → y < w → isSetFrom w b (l ++ [y]) = true
  | w, b, y, [], _, _, h1, h2 => by
    show (if y ≤ b ∨ w ≤ y then false else true) = true
    rw [if_neg (by omega)]
  | w, b, y, x :: r, h, hl, h1, h2 => by
    rw [List.cons_append, isSetFrom_cons]
    rw [isSetFrom_cons] at h
    by_cases c : x ≤ b ∨ w ≤ x
    · rw [if_pos c] at h; cases h
    · rw [if_neg c] at h ⊢
      exact isSetFrom_snoc h (fun z hz => hl z (List.mem_cons_of_mem _ hz)) (hl x List.mem_cons_self) h2
theorem isSet_snoc {w y : Int} {l : List Int} (h : isSet w l = true) (hl : ∀ x ∈ l, x < y) (h0 : 0 ≤ y) (h2 : y < w) : isSet w (l ++ [y]) = true := isSetFrom_snoc h hl (by omega) h2
theorem isSet_one {w y : Int} (h0 : 0 ≤ y) (h2 : y < w) : isSet w [y] = true := isSet_snoc (l := []) rfl (fun _ h => nomatch h) h0 h2
theorem isPlan_iff {w : Int} {p : List (List Int)} : isPlan w p = true ↔ p.length ≤ 12 ∧ ∀ m ∈ p, m ≠ [] ∧ isSet w m = true := by
  unfold isPlan isMix
  simp [List.all_eq_true]
end Mix
namespace L2
open PySem
end L2
namespace Mix
/-- the wares whose figure by twos in c is 1 -/
def someBy (c : Int) (n : Nat) : List Int := ((List.range n).filter fun i => decide (c / 2 ^ i % 2 = 1)).map fun (i : Nat) => (i : Int)
theorem someBy_succ (c : Int) (n : Nat) : someBy c (n + 1) = if c / 2 ^ n % 2 = 1 then someBy c n ++ [(n : Int)] else someBy c n := by
  unfold someBy
  rw [List.range_succ, List.filter_append, List.map_append]
  by_cases h : c / 2 ^ n % 2 = 1
  · rw [if_pos h]
    congr 1
    rw [List.filter_cons, if_pos (decide_eq_true h)]
    rfl
  · rw [if_neg h]
    rw [List.filter_cons, if_neg (fun q => h (of_decide_eq_true q))]
    simp
theorem div_step (c : Int) (i : Nat) : c / 2 ^ i / 2 = c / 2 ^ (i + 1) := by
  rw [Int.ediv_ediv_of_nonneg (Int.le_of_lt (Int.pow_pos (by decide))), Int.pow_succ]
theorem someBy_lt (c : Int) (n : Nat) : ∀ x ∈ someBy c n, 0 ≤ x ∧ x < n := by
  intro x hx
  unfold someBy at hx
  obtain ⟨i, hi, rfl⟩ := List.mem_map.mp hx
  have := List.mem_range.mp (List.mem_filter.mp hi).1
  omega
theorem someBy_len (c : Int) (n : Nat) : (someBy c n).length ≤ n := by
  unfold someBy
  rw [List.length_map]
  have := List.length_filter_le (fun i => decide (c / 2 ^ i % 2 = 1)) (List.range n)
  rw [List.length_range] at this
  exact this
theorem isSetFrom_mono : ∀ {w w' b : Int} {l : List Int}, isSetFrom w b l = true → w ≤ w' → isSetFrom w' b l = true
  | _, _, _, [], _, _ => rfl
  | w, w', b, x :: r, h, hw => by
    rw [isSetFrom_cons] at h ⊢
    by_cases c : x ≤ b ∨ w ≤ x
    · rw [if_pos c] at h; cases h
    · rw [if_neg c] at h
      rw [if_neg (by omega)]
      exact isSetFrom_mono h hw
theorem someBy_set (c : Int) : ∀ n : Nat, isSet n (someBy c n) = true
  | 0 => rfl
  | n + 1 => by
    have ih := isSetFrom_mono (w' := ((n + 1 : Nat) : Int)) (someBy_set c n) (by omega)
    rw [someBy_succ]
    split
    · exact isSet_snoc ih (fun x hx => (someBy_lt c n x hx).2) (by omega) (by omega)
    · exact ih
/-- a rising list by a test over 0 .. n - 1 -/
def pick (t : Nat → Bool) (n : Nat) : List Int := ((List.range n).filter t).map fun (i : Nat) => (i : Int)
theorem pick_succ (t : Nat → Bool) (n : Nat) : pick t (n + 1) = if t n = true then pick t n ++ [(n : Int)] else pick t n := by
  unfold pick
  rw [List.range_succ, List.filter_append, List.map_append]
  by_cases h : t n = true
  · rw [if_pos h, List.filter_cons, if_pos h]
    rfl
  · rw [if_neg h, List.filter_cons, if_neg h]
    simp
theorem pick_lt (t : Nat → Bool) (n : Nat) : ∀ x ∈ pick t n, 0 ≤ x ∧ x < n := by
  intro x hx
  unfold pick at hx
  obtain ⟨i, hi, rfl⟩ := List.mem_map.mp hx
  have := List.mem_range.mp (List.mem_filter.mp hi).1
  omega
theorem pick_len (t : Nat → Bool) (n : Nat) : (pick t n).length ≤ n := by
  unfold pick
  rw [List.length_map]
  have := List.length_filter_le t (List.range n)
  rw [List.length_range] at this
  exact this
theorem pick_set (t : Nat → Bool) : ∀ n : Nat, isSet n (pick t n) = true
  | 0 => rfl
  | n + 1 => by
    have ih := isSetFrom_mono (w' := ((n + 1 : Nat) : Int)) (pick_set t n) (by omega)
    rw [pick_succ]
    split
    · exact isSet_snoc ih (fun x hx => (pick_lt t n x hx).2) (by omega) (by omega)
    · exact ih
theorem isPlan_insert {w : Int} {p : List (List Int)} {m : List Int} {k : Nat} (h : isPlan w p = true) (hl : p.length < 12) (h1 : m ≠ []) (h2 : isSet w m = true) : isPlan w (p.take k ++ [m] ++ p.drop k) = true := by
  rw [isPlan_iff] at h ⊢
  refine ⟨?_, fun x hx => ?_⟩
  · simp only [List.length_append, List.length_take, List.length_drop, List.length_cons, List.length_nil]
    omega
  · rcases List.mem_append.mp hx with hx | hx
    · rcases List.mem_append.mp hx with hx | hx
      · exact h.2 x (List.mem_of_mem_take hx)
      · rw [List.mem_singleton.mp hx]
        exact ⟨h1, h2⟩
    · exact h.2 x (List.mem_of_mem_drop hx)
end Mix

/-! MATH 2: all sets of at most the most wares, in order. -/
namespace Mix
/-- the least ware that may be put behind a set -/
def first (s : List Int) : Nat := match s.getLast? with
  | none => 0
  | some x => (x + 1).toNat
def more (w : Nat) (s : List Int) : List (List Int) := (List.range (w - first s)).map fun (i : Nat) => s ++ [((first s + i : Nat) : Int)]
def layer (w : Nat) : Nat → List (List Int)
  | 0 => [[]]
  | k + 1 => (layer w k).flatMap (more w)
end Mix

/-! EXT 6: cuts that are chosen while one reads; one for many ways. -/
namespace L2
open PySem PySem.Spec PyProof.Rows
/-- an expression, by what holds of its value -/
def tCut (t : TE) : TE := fun σ H Q => ∃ R : VK, t σ H R ∧ ∀ v H', R v H' → Q v H'
theorem pe_cut {X : Cx} {e : Expr} {t : TE} (h : PE X e t) : PE X e (tCut t) := by
  intro pins s σ H Q I q
  obtain ⟨R, h1, h2⟩ := q
  exact thn (h pins s σ H R I h1) fun v s1 ⟨x, H1, I1, r1, q1⟩ => ⟨x, H1, I1, r1, h2 x H1 q1⟩
/-- a statement, by what holds behind it -/
def tCutS (t : TS) : TS := fun D σ H => ∃ mid : St → Hp → Prop, t { D with nx := mid } σ H ∧ ∀ σ' H', mid σ' H' → D.nx σ' H'
theorem ps_cut {X : Cx} {st : Stmt} {t : TS} (h : PS X st t) : PS X st (tCutS t) := by
  intro pins s σ H D I q
  obtain ⟨mid, h1, h2⟩ := q
  refine thn (h pins s σ H _ I h1) fun f s1 z => ?_
  cases f with
  | next => obtain ⟨σ1, H1, I1, q1⟩ := z; exact ⟨σ1, H1, I1, h2 _ _ q1⟩
  | brk => exact z
  | cont => exact z
  | ret v => exact z
theorem Nw.at {H H2 : Hp} {D : Addr} {p : List (List Int)} (N : Nw H H2 D p) {xs : List V} (e : H2 D = some (.lst xs)) : Paired (fun (u : V) (ns : List Int) => ∃ b, u = V.ref b ∧ b ≠ D ∧ H b = none ∧ H2 b = some (.lst (ns.map V.int))) xs p := by
  obtain ⟨_, ys, e', r⟩ := N
  rw [e] at e'
  cases e'
  exact r
/-! ### lists of bools -/
def dB (bs : List Bool) : PyData := .list (bs.map .bool)
/-- v is a list of the bools bs -/
def LB (H : Hp) (v : V) (bs : List Bool) : Prop := ∃ a, v = .ref a ∧ H a = some (.lst (bs.map V.bl))
theorem LB.same {H H' : Hp} {v : V} {bs : List Bool} (s : Same H H') (h : LB H v bs) : LB H' v bs := let ⟨a, e, q⟩ := h; ⟨a, e, s _ _ q⟩
theorem datAll_bools {K : PySem.W.Frag} {H : Hp} : ∀ bs : List Bool, DatAll K H (bs.map V.bl) (bs.map .bool)
  | [] => .nil
  | n :: r => .cons (.bl n) (datAll_bools r)
theorem LB.dat {K : PySem.W.Frag} {H : Hp} {v : V} {bs : List Bool} (h : LB H v bs) : Dat K H v (dB bs) := by
  obtain ⟨a, rfl, e⟩ := h
  exact .lst (.of e) (datAll_bools bs)
end L2

/-! MATH 3: covers, clashes. -/
namespace Mix
theorem isSetFrom_len : ∀ {w b : Int} {l : List Int}, isSetFrom w b l = true → b < w → (l.length : Int) ≤ w - b - 1
  | w, b, [], _, hb => by simp; omega
  | w, b, x :: r, h, hb => by
    rw [isSetFrom_cons] at h
    by_cases c : x ≤ b ∨ w ≤ x
    · rw [if_pos c] at h; cases h
    · rw [if_neg c] at h
      have := isSetFrom_len h (by omega)
      rw [List.length_cons]
      omega
theorem isSet_len {n : Nat} {l : List Int} (h : isSet n l = true) : l.length ≤ n := by
  have := isSetFrom_len h (by omega)
  omega
/-- all mixtures that have x are spoilt -/
def aloneAt (x : Int) (p : List (List Int)) (bs : List Bool) (k : Nat) : Bool := !((p.getD k []).contains x) || bs.getD k true
def alone (x : Int) (p : List (List Int)) (bs : List Bool) : Bool := (List.range p.length).all (aloneAt x p bs)
def plain (n : Nat) (p : List (List Int)) (bs : List Bool) : List Int := pick (fun i => alone (i : Int) p bs) n
end Mix

/-! MATH 4: what sets are there; clashes, covers and plain reading as statements over all sets. -/
namespace Mix
theorem isSetFrom_mem : ∀ {w b : Int} {l : List Int}, isSetFrom w b l = true → ∀ x ∈ l, b < x ∧ x < w
  | w, b, [], _, _, h => nomatch h
  | w, b, x :: r, h, z, hz => by
    rw [isSetFrom_cons] at h
    by_cases c : x ≤ b ∨ w ≤ x
    · rw [if_pos c] at h; cases h
    · rw [if_neg c] at h
      rcases List.mem_cons.mp hz with rfl | hz
      · omega
      · have := isSetFrom_mem h z hz
        omega
theorem isSet_mem {n : Nat} {l : List Int} (h : isSet n l = true) : ∀ x ∈ l, 0 ≤ x ∧ x < n := fun x hx => by
  have := isSetFrom_mem h x hx
  omega
/-! clashes -/
/-! covers -/
/-! sorting out -/
end Mix

/-! EXT 10: texts: join, split, a text walked sign by sign; the texts of plans. -/
namespace L2
open PySem PySem.Spec PyProof.Rows
section
variable {X : Cx}
theorem strs_of {ys : List PySem.Str} : ∀ {us : List Value}, Vals (ys.map V.str) us → StrsAre us ys := by
  induction ys with
  | nil => intro us r; cases r; exact .nil
  | cons y ys ih =>
    intro us r
    cases r with
    | cons h t =>
      obtain ⟨tk, rfl⟩ := (show ∃ tk, _ = Value.str y tk from h)
      exact .cons y tk (ih t)
theorem sum_le {k : Nat} : ∀ {ys : List PySem.Str}, (∀ y ∈ ys, y.length ≤ k) → (ys.map (·.length)).sum ≤ k * ys.length
  | [], _ => by simp
  | y :: ys, h => by
    have h1 := h y List.mem_cons_self
    have h2 := sum_le fun z hz => h z (List.mem_cons_of_mem _ hz)
    rw [List.map_cons, List.sum_cons, List.length_cons, Nat.mul_succ]
    omega
/-- sep.join(list of texts) -/
def rJoin : V → List V → Hp → VK → Prop := fun x xs H Q => ∃ z D ys, x = .str z ∧ xs = [.ref D] ∧ H D = some (.lst (ys.map V.str)) ∧ z.length ≤ 1 ∧ (∀ y ∈ ys, y.length ≤ 900) ∧ ys.length ≤ 900 ∧ Q (.str (Txt.join z ys)) H
theorem mt_join : MtR X "str.join" rJoin := by
  intro pins s σ H x xs v us Q I rx rv h
  obtain ⟨z, D, ys, rfl, rfl, hD, hz, hy, hl, q⟩ := h
  obtain ⟨t, rfl⟩ := rx
  obtain ⟨u, rfl, ru⟩ := rv.one
  cases (show u = Value.ref D from ru)
  obtain ⟨its, n, r, hob, _⟩ := I.lst hD
  refine join_list (ys := ys) ⟨_, hob, rfl, _, rfl⟩ (by simpa using strs_of r) ?_ fun t' k => ⟨.str _, H, I.tok k, ⟨t', rfl⟩, q⟩
  have h1 := sum_le hy
  have h2 : 900 * ys.length ≤ 900 * 900 := Nat.mul_le_mul_left _ hl
  have h3 : ys.length * z.length ≤ ys.length * 1 := Nat.mul_le_mul_left _ hz
  omega
theorem vals_strs : ∀ l : List (PySem.Str × Tok), Vals ((l.map (·.1)).map V.str) (strValues l)
  | [] => .nil
  | (y, t) :: r => .cons ⟨t, rfl⟩ (vals_strs r)
/-- text.split(sep) -/
def rSplit : V → List V → Hp → VK → Prop := fun x xs H Q => ∃ z y, x = .str z ∧ xs = [.str y] ∧ (y.length == 0) = false ∧ z.length ≤ 900 ∧ ∀ l, H l = none → Q (.ref l) (upd H l (.lst ((Txt.split z y).map V.str)))
theorem mt_split : MtR X "str.split" rSplit := by
  intro pins s σ H x xs v us Q I rx rv h
  obtain ⟨z, y, rfl, rfl, hy, hz, q⟩ := h
  obtain ⟨t, rfl⟩ := rx
  obtain ⟨u, rfl, ru⟩ := rv.one
  obtain ⟨t2, rfl⟩ := (show ∃ t2, u = Value.str y t2 from ru)
  have hlen : (Txt.split z y).length ≤ 1000 := Nat.le_trans (split_le z y) (by omega)
  have fin : ∀ (l : List (PySem.Str × Tok)) (k : Nat), l.map (·.1) = Txt.split z y → EP X pins σ Q (.ref s.heap.objs.size) { s with heap := s.heap.push { cls := .type "list", data := .seq (strValues l).toArray }, toks := k } := fun l k e => by
    refine ⟨.ref s.heap.objs.size, _, I.laid (t' := k) (a := s.heap.objs.size) (o := .lst ((Txt.split z y).map V.str)) (fun b o e => Heap.get?_push_of_some _ e) (Nat.le_refl _) ?_, rfl, q _ (I.hok.fresh (Nat.le_refl _))⟩
    exact ⟨by rw [List.length_map]; exact Nat.le_trans hlen (by decide), strValues l, 0, by rw [← e]; exact vals_strs l, Heap.get?_push_size _ rfl⟩
  have hn : (Builtin.Str.partsBetween z (Builtin.Str.occurrences z y 0 z.length (z.length + 1)) y.length).length ≤ sizeLine := by
    have e1 := StrLaws.occ_length_le z y 0 z.length (z.length + 1)
    rw [length_partsBetween]
    exact Nat.le_trans (by omega : _ ≤ 1000) (by decide)
  cases h1 : (decide (z.length < y.length) || decide (Builtin.Str.strKind z < Builtin.Str.strKind y))
  · cases hf : (Builtin.Str.occurrences z y 0 z.length (z.length + 1)).isEmpty
    · refine call_meets F.slot_str_split (PySem.typeIs_str _ _ _) F.entry_str_split (F.args_str_split_2 _ _) (meets_str_split_sep z y t t2 h1 hy hf (Nat.le_trans (by omega : z.length ≤ 1000) (by decide)) hn) ?_
      show wants _ _ _ { s with toks := _, heap := s.heap.push { cls := .type "list", data := .seq (strsFrom s.toks (Builtin.Str.partsBetween z (Builtin.Str.occurrences z y 0 z.length (z.length + 1)) y.length)).toArray } }
      rw [strsFrom_eq]
      exact fin (numbered s.toks _) _ ((numbered_texts _ _).trans ((if_neg (ne_true_of_eq_false h1)).trans (if_neg (ne_true_of_eq_false hf))).symm)
    · exact call_meets F.slot_str_split (PySem.typeIs_str _ _ _) F.entry_str_split (F.args_str_split_2 _ _) (meets_str_split_not_found z y t t2 h1 hy hf)
        (fin [(z, t)] s.toks ((if_neg (ne_true_of_eq_false h1)).trans (if_pos hf)).symm)
  · exact call_meets F.slot_str_split (PySem.typeIs_str _ _ _) F.entry_str_split (F.args_str_split_2 _ _) (meets_str_split_cannot_occur z y t t2 h1)
      (fin [(z, t)] s.toks (if_pos h1).symm)
end
/-! a text walked -/
def Its (x : PySem.Str) : It := ⟨fun i _ => i < x.cps.size, fun i H v H' => H' = H ∧ ∃ c, x.cps[i]? = some c ∧ v = .str ⟨#[c]⟩, fun i _ => x.cps.size ≤ i⟩
theorem turn_str {P : Program} {w : World} {K : PySem.W.Frag} {tg : Expr} (it : Addr) (x : PySem.Str) (t : Tok) : Turn P w K tg (Its x) [it] it (fun i h => h.IsStrIter it "str_ascii_iterator" x t i) where
  mem := by simp
  obj := fun i h st b hb => by
    have e : b = it := by simpa using hb
    subst e
    obtain ⟨o, e, c, d⟩ := st
    exact ⟨o, e, fun v z => by rw [d] at z; cases z⟩
  keep := fun i h h' st k => by
    obtain ⟨o, e, r⟩ := st
    exact ⟨o, k it (by simp) o e, r⟩
  item := by
    intro X hP hw hK hc i pins s σ H E I hf st hg
    subst hP hw hK
    have hg : i < x.cps.size := hg
    obtain ⟨f0, f1, f2, f3, f4, f5⟩ := hf it (by simp)
    have hx : x.cps[i]? = some (x.cps[i]'hg) := Array.getElem?_eq_getElem hg
    refine wpAny_pyNext_ascii_item st hx fun h' st' sb => ?_
    have I1 : Inv X pins σ H { s with heap := h', toks := s.toks + 1 } := I.turned (t' := s.toks + 1) (fun b o hb e => (sb.2 b hb).trans e) f0 f1 f3 f4 f5
    obtain ⟨o, e, c, d⟩ := id st'
    exact ⟨_, rfl, go_of (s := { s with heap := h', toks := s.toks + 1 }) e c d (by decide) ⟨.str ⟨#[x.cps[i]'hg]⟩, H, I1, ⟨_, rfl⟩, ⟨rfl, _, hx, rfl⟩, st', fun b hb => (hf b hb).1⟩⟩
  done := by
    intro X hP hw hK hc i pins s σ H E I hf st hg
    subst hP hw hK
    have hg : x.cps.size ≤ i := hg
    obtain ⟨f0, f1, f2, f3, f4, f5⟩ := hf it (by simp)
    exact wpAny_pyNext_ascii_end (I.ok.hd hc) st (by simp; omega) fun h' eb => ⟨rfl, I.turned (t' := s.toks) (fun b o hb e => eb b o hb e) f0 f1 f3 f4 f5⟩
  self := fun _ _ _ _ _ st h => wpAny_pyIter_striter_ascii st h
section
variable {X : Cx} {tg : Expr}
def iStr (te : TE) : TI := fun σ H R => te σ H fun v H1 => ∃ x, v = .str x ∧ x.cps.all (· < 128) = true ∧ R (Its x) H1
theorem pi_str {l : Expr} {tl : TE} (hl : PE X l tl) : PI X tg l (iStr tl) := by
  intro pins s σ H R I h
  refine thn (hl pins s σ H _ I h) fun v s1 ⟨x, H1, I1, r1, q1⟩ => ?_
  obtain ⟨z, e, ha, q⟩ := q1
  subst e
  obtain ⟨t, rfl⟩ := r1
  refine wpAny_pyIter_ascii ha ?_
  refine ⟨s1.heap.objs.size, [s1.heap.objs.size], _, _, H1, rfl, I1.kept (t' := s1.toks) fun b o e => Heap.get?_push_of_some _ e, turn_str _ z t, ⟨_, Heap.get?_push_size _ rfl, rfl, rfl⟩, fun b hb => ?_, q⟩
  have e : b = s1.heap.objs.size := by simpa using hb
  subst e
  exact I1.fpOk (Nat.le_refl _) (I1.hok.fresh (Nat.le_refl _))
end
theorem lc_str {x : PySem.Str} {D : Addr} {g : TG} {tc : TT} {te : TE} {R : Hp → Prop} {σ : St} {H : Hp} (Pv : Nat → St → Hp → Prop) (h0 : Pv 0 σ H)
    (hs : ∀ i c σ H, x.cps[i]? = some c → Pv i σ H → g (.str ⟨#[c]⟩) σ H fun σ3 H3 => tc σ3 H3 fun ok H4 => if ok = true then te σ3 H4 fun y H5 => ∃ ys, H5 D = some (.lst ys) ∧ ys.length < sizeLine ∧ Pv (i + 1) σ3 (upd H5 D (.lst (ys ++ [y]))) else Pv (i + 1) σ3 H4)
    (hd : ∀ σ H, Pv x.cps.size σ H → R H) :
    ∃ W : Nat → Nat → St → Hp → Prop, (∃ m, W 0 m σ H) ∧
      ∀ i m σ' H', W i m σ' H' → ((Its x).stop i H' ∧ R H') ∨ ((Its x).go i H' ∧ ∃ N : St → Hp → Prop, (∀ σ2 H2, N σ2 H2 → ∃ m', m' < m ∧ W (i + 1) m' σ2 H2) ∧
        ∀ v H2, (Its x).yld i H' v H2 → g v σ' H2 fun σ3 H3 => tc σ3 H3 fun ok H4 => if ok = true then te σ3 H4 fun y H5 => ∃ ys, H5 D = some (.lst ys) ∧ ys.length < sizeLine ∧ N σ3 (upd H5 D (.lst (ys ++ [y]))) else N σ3 H4) := by
  refine ⟨fun i m σ' H' => m = x.cps.size - i ∧ i ≤ x.cps.size ∧ Pv i σ' H', ⟨_, rfl, Nat.zero_le _, h0⟩, ?_⟩
  rintro i m σ' H' ⟨rfl, hi, p⟩
  by_cases he : i = x.cps.size
  · subst he
    exact .inl ⟨Nat.le_refl _, hd _ _ p⟩
  · have hlt : i < x.cps.size := by omega
    refine .inr ⟨hlt, Pv (i + 1), fun σ2 H2 p2 => ⟨x.cps.size - (i + 1), by omega, rfl, hlt, p2⟩, ?_⟩
    rintro v H2 ⟨rfl, c, hc, rfl⟩
    exact hs i c σ' _ hc p
end L2
namespace Mix
open PySem
/-- a text by its codes -/
def st (l : List Nat) : PySem.Str := ⟨l.toArray⟩
theorem st_of (x : PySem.Str) : st x.cps.toList = x := by
  cases x
  rfl
theorem st_inj {a b : List Nat} (h : st a = st b) : a = b := by
  have := congrArg (fun x : PySem.Str => x.cps.toList) h
  simpa [st] using this
theorem st_app (a b : List Nat) : st a ++ st b = st (a ++ b) := by
  show PySem.Str.mk (a.toArray ++ b.toArray) = PySem.Str.mk (a ++ b).toArray
  simp
theorem st_len (a : List Nat) : (st a).length = a.length := by
  show a.toArray.size = a.length
  simp
def joinL (c : Nat) : List (List Nat) → List Nat
  | [] => []
  | [a] => a
  | a :: b :: r => a ++ c :: joinL c (b :: r)
theorem join_st (c : Nat) : ∀ ls : List (List Nat), PySem.Str.join (st [c]) (ls.map st) = st (joinL c ls)
  | [] => rfl
  | [a] => rfl
  | a :: b :: r => by
    show st a ++ st [c] ++ PySem.Str.join (st [c]) ((b :: r).map st) = st (a ++ c :: joinL c (b :: r))
    rw [join_st c (b :: r), st_app, st_app]
    congr 1
    simp
theorem join_none : ∀ ls : List (List Nat), PySem.Str.join (st []) (ls.map st) = st ls.flatten
  | [] => rfl
  | [a] => by simp [PySem.Str.join]
  | a :: b :: r => by
    show st a ++ st [] ++ PySem.Str.join (st []) ((b :: r).map st) = st (a :: b :: r).flatten
    rw [join_none (b :: r), st_app, st_app]
    congr 1
    simp
def cutL (c : Nat) : List Nat → List (List Nat)
  | [] => [[]]
  | x :: r => if x = c then [] :: cutL c r else match cutL c r with
    | [] => [[x]]
    | a :: t => (x :: a) :: t
theorem cutL_ne (c : Nat) : ∀ l : List Nat, cutL c l ≠ []
  | [] => by simp [cutL]
  | x :: r => by
    unfold cutL
    by_cases h : x = c
    · rw [if_pos h]; simp
    · rw [if_neg h]
      split <;> simp
theorem joinL_cons {c : Nat} {a : List Nat} {r : List (List Nat)} (h : r ≠ []) : joinL c (a :: r) = a ++ c :: joinL c r := by
  cases r with
  | nil => exact absurd rfl h
  | cons b r => rfl
theorem joinL_head {c x : Nat} {a : List Nat} {t : List (List Nat)} : joinL c ((x :: a) :: t) = x :: joinL c (a :: t) := by
  cases t with
  | nil => rfl
  | cons b r => rfl
theorem join_cut (c : Nat) : ∀ l : List Nat, joinL c (cutL c l) = l
  | [] => rfl
  | x :: r => by
    have ih := join_cut c r
    unfold cutL
    by_cases h : x = c
    · rw [if_pos h, joinL_cons (cutL_ne c r), ih, h]
      rfl
    · rw [if_neg h]
      split
      · rename_i e
        exact absurd e (cutL_ne c r)
      · rename_i a t e
        rw [e] at ih
        rw [joinL_head, ih]
theorem cut_free (c : Nat) : ∀ l : List Nat, ∀ a ∈ cutL c l, c ∉ a
  | [], a, h => by
    have : a = [] := by simpa [cutL] using h
    subst this
    exact fun z => nomatch z
  | x :: r, a, h => by
    unfold cutL at h
    by_cases hx : x = c
    · rw [if_pos hx] at h
      rcases List.mem_cons.mp h with rfl | h
      · exact fun z => nomatch z
      · exact cut_free c r a h
    · rw [if_neg hx] at h
      split at h
      · rename_i e
        exact absurd e (cutL_ne c r)
      · rename_i b t e
        rcases List.mem_cons.mp h with rfl | h
        · intro z
          rcases List.mem_cons.mp z with z | z
          · exact hx z.symm
          · exact cut_free c r b (by rw [e]; exact List.mem_cons_self) z
        · exact cut_free c r a (by rw [e]; exact List.mem_cons_of_mem _ h)
theorem free_split {c : Nat} : ∀ {a b u v : List Nat}, c ∉ a → c ∉ b → a ++ c :: u = b ++ c :: v → a = b ∧ u = v
  | [], [], u, v, _, _, h => by simpa using h
  | [], y :: b, u, v, _, hb, h => by
    have : c = y := by simpa using (List.cons.inj h).1
    exact absurd (this ▸ List.mem_cons_self) hb
  | x :: a, [], u, v, ha, _, h => by
    have : x = c := by simpa using (List.cons.inj h).1
    exact absurd (this ▸ List.mem_cons_self) ha
  | x :: a, y :: b, u, v, ha, hb, h => by
    obtain ⟨h1, h2⟩ := List.cons.inj h
    obtain ⟨h3, h4⟩ := free_split (fun z => ha (List.mem_cons_of_mem _ z)) (fun z => hb (List.mem_cons_of_mem _ z)) h2
    exact ⟨by rw [h1, h3], h4⟩
theorem join_uniq {c : Nat} : ∀ {as bs : List (List Nat)}, as ≠ [] → bs ≠ [] → (∀ a ∈ as, c ∉ a) → (∀ b ∈ bs, c ∉ b) → joinL c as = joinL c bs → as = bs
  | [], _, h, _, _, _, _ => absurd rfl h
  | _ :: _, [], _, h, _, _, _ => absurd rfl h
  | [a], [b], _, _, _, _, e => by
    have e : a = b := e
    rw [e]
  | [a], b :: b2 :: r, _, _, ha, _, e => by
    have e : a = b ++ c :: joinL c (b2 :: r) := e
    exact absurd (by rw [e]; simp) (ha a List.mem_cons_self)
  | a :: a2 :: r, [b], _, _, _, hb, e => by
    have e : a ++ c :: joinL c (a2 :: r) = b := e
    exact absurd (by rw [← e]; simp) (hb b List.mem_cons_self)
  | a :: a2 :: r, b :: b2 :: q, _, _, ha, hb, e => by
    obtain ⟨h1, h2⟩ := free_split (ha a List.mem_cons_self) (hb b List.mem_cons_self) e
    rw [h1, join_uniq (as := a2 :: r) (bs := b2 :: q) (by simp) (by simp) (fun z hz => ha z (List.mem_cons_of_mem _ hz)) (fun z hz => hb z (List.mem_cons_of_mem _ hz)) h2]
theorem map_st (ps : List PySem.Str) : (ps.map fun p => p.cps.toList).map st = ps := by
  rw [List.map_map]
  have : (st ∘ fun p : PySem.Str => p.cps.toList) = id := by funext p; exact st_of p
  rw [this, List.map_id]
/-- text.split(c) as lists of codes -/
theorem split_st (c : Nat) (l : List Nat) : PySem.Txt.split (st l) (st [c]) = (cutL c l).map st := by
  have h1 := PySem.StrLaws.join_split (st l) (st [c])
  have h2 : ∀ p ∈ PySem.Txt.split (st l) (st [c]), c ∉ p.cps.toList := PySem.StrLaws.split_free (st l) c
  have h3 := PyProof.Rows.split_pos (st l) (st [c])
  generalize PySem.Txt.split (st l) (st [c]) = ps at h1 h2 h3
  have e : ps = (ps.map fun p => p.cps.toList).map st := (map_st ps).symm
  rw [e, join_st] at h1
  have h4 := st_inj h1
  rw [e]
  congr 1
  refine join_uniq ?_ (cutL_ne c l) ?_ (cut_free c l) (by rw [h4, join_cut])
  · intro z
    have := congrArg List.length z
    rw [List.length_map] at this
    simp at this
    subst this
    simp at h3
  · intro a ha
    obtain ⟨p, hp, rfl⟩ := List.mem_map.mp ha
    exact h2 p hp
end Mix

/-! MATH 5: plans as texts. -/
namespace Mix
open PySem
def wr (m : List Int) : List Nat := m.map fun x => 48 + x.toNat
def rd (l : List Nat) : List Int := l.map fun (c : Nat) => (c : Int) - 48
def readOf (l : List Nat) : List (List Int) := if l = [] then [] else (cutL 32 l).map rd
theorem wr_mem {n : Nat} (hn : n ≤ 8) {m : List Int} (h : isSet n m = true) : ∀ c ∈ wr m, 48 ≤ c ∧ c < 56 := fun c hc => by
  obtain ⟨x, hx, rfl⟩ := List.mem_map.mp hc
  have := isSet_mem h x hx
  omega
theorem wr_len (m : List Int) : (wr m).length = m.length := List.length_map _
theorem joinL_mem {c : Nat} : ∀ {ls : List (List Nat)} {x : Nat}, x ∈ joinL c ls → x = c ∨ ∃ a ∈ ls, x ∈ a
  | [], x, h => nomatch h
  | [a], x, h => .inr ⟨a, List.mem_cons_self, h⟩
  | a :: b :: r, x, h => by
    have h : x ∈ a ++ c :: joinL c (b :: r) := h
    rcases List.mem_append.mp h with h | h
    · exact .inr ⟨a, List.mem_cons_self, h⟩
    · rcases List.mem_cons.mp h with h | h
      · exact .inl h
      · rcases joinL_mem h with h | ⟨d, h1, h2⟩
        · exact .inl h
        · exact .inr ⟨d, List.mem_cons_of_mem _ h1, h2⟩
theorem joinL_len {c k : Nat} : ∀ {ls : List (List Nat)}, (∀ a ∈ ls, a.length ≤ k) → (joinL c ls).length ≤ (k + 1) * ls.length
  | [], _ => by simp [joinL]
  | [a], h => by
    have := h a List.mem_cons_self
    show a.length ≤ _
    simp
    omega
  | a :: b :: r, h => by
    have h1 := h a List.mem_cons_self
    have h2 := joinL_len (c := c) (ls := b :: r) fun z hz => h z (List.mem_cons_of_mem _ hz)
    show (a ++ c :: joinL c (b :: r)).length ≤ _
    rw [List.length_append, List.length_cons]
    simp only [List.length_cons, Nat.mul_succ] at h2 ⊢
    omega
theorem cut_mem {c : Nat} : ∀ {l a : List Nat}, a ∈ cutL c l → ∀ x ∈ a, x ∈ l := fun {l a} ha x hx => by
  have key : ∀ {ls : List (List Nat)}, a ∈ ls → x ∈ joinL c ls := by
    intro ls
    induction ls with
    | nil => intro h; cases h
    | cons b r ih =>
      intro h
      cases r with
      | nil =>
        have : a = b := by simpa using h
        rw [this] at hx
        exact hx
      | cons d r =>
        show x ∈ b ++ c :: joinL c (d :: r)
        rcases List.mem_cons.mp h with h | h
        · rw [h] at hx
          exact List.mem_append_left _ hx
        · exact List.mem_append_right _ (List.mem_cons_of_mem _ (ih h))
  have := key ha
  rw [join_cut] at this
  exact this
theorem cut_len {c : Nat} : ∀ l : List Nat, (cutL c l).length ≤ l.length + 1
  | [] => by simp [cutL]
  | x :: r => by
    have := cut_len (c := c) r
    unfold cutL
    by_cases h : x = c
    · rw [if_pos h, List.length_cons, List.length_cons]
      omega
    · rw [if_neg h]
      split
      · simp
      · rename_i a t e
        rw [e] at this
        simp only [List.length_cons] at this ⊢
        omega
theorem cut_part {c : Nat} : ∀ {l a : List Nat}, a ∈ cutL c l → a.length ≤ l.length
  | [], a, h => by
    have : a = [] := by simpa [cutL] using h
    subst this
    simp
  | x :: r, a, h => by
    unfold cutL at h
    by_cases hx : x = c
    · rw [if_pos hx] at h
      rcases List.mem_cons.mp h with rfl | h
      · simp
      · have := cut_part h
        simp
        omega
    · rw [if_neg hx] at h
      split at h
      · rename_i e
        exact absurd e (cutL_ne c r)
      · rename_i b t e
        rcases List.mem_cons.mp h with rfl | h
        · have := cut_part (c := c) (l := r) (a := b) (by rw [e]; exact List.mem_cons_self)
          simp
          omega
        · have := cut_part (c := c) (l := r) (a := a) (by rw [e]; exact List.mem_cons_of_mem _ h)
          simp
          omega
theorem str_dig {i : Int} (h0 : 0 ≤ i) (h1 : i < 10) : PySem.Str.ofString (toString i) = st [48 + i.toNat] := by
  obtain rfl | rfl | rfl | rfl | rfl | rfl | rfl | rfl | rfl | rfl : i = 0 ∨ i = 1 ∨ i = 2 ∨ i = 3 ∨ i = 4 ∨ i = 5 ∨ i = 6 ∨ i = 7 ∨ i = 8 ∨ i = 9 := by omega
  all_goals decide +kernel
theorem blank_is : PySem.Str.ofString " " = st [32] := by decide +kernel
theorem empty_is : PySem.Str.ofString "" = st [] := by decide +kernel
theorem nought_is : PySem.Str.ofString "0" = st [48] := by decide +kernel
theorem join_txt (x : PySem.Str) (ys : List PySem.Str) : PySem.Txt.join x ys = PySem.Str.join x ys := PySem.StrLaws.glued_eq_join x ys
theorem figures_text (m : List Int) : PySem.Txt.join (PySem.Str.ofString "") (m.map fun x => st [48 + x.toNat]) = st (wr m) := by
  rw [join_txt, empty_is]
  have : (m.map fun x => st [48 + x.toNat]) = (m.map fun x => [48 + x.toNat]).map st := by rw [List.map_map]; rfl
  rw [this, join_none]
  congr 1
  unfold wr
  induction m with
  | nil => rfl
  | cons x r ih => rw [List.map_cons, List.flatten_cons, ih (by rw [List.map_map]; rfl), List.map_cons]; rfl
theorem ascii_st {l : List Nat} (h : ∀ c ∈ l, c < 128) : (st l).cps.all (· < 128) = true := by
  unfold st
  rw [List.all_toArray, List.all_eq_true]
  intro c hc
  exact decide_eq_true (h c hc)
theorem st_get {l : List Nat} {i c : Nat} (h : (st l).cps[i]? = some c) : l[i]? = some c := by
  unfold st at h
  simpa using h
theorem st_size (l : List Nat) : (st l).cps.size = l.length := by
  unfold st
  simp
end Mix
namespace L2
open PySem
theorem bt_ord : bootBuiltins "ord" = some (.builtin "ord") := by decide +kernel
/-- a new list of new lists of ints, no two of them one -/
structure NwD (H H2 : Hp) (D : Addr) (xs : List V) (p : List (List Int)) : Prop where
  fr : H D = none
  e : H2 D = some (.lst xs)
  nd : xs.Nodup
  r : Paired (fun (u : V) (ns : List Int) => ∃ b, u = V.ref b ∧ b ≠ D ∧ H b = none ∧ H2 b = some (.lst (ns.map V.int))) xs p
theorem NwD.nw {H H2 : Hp} {D : Addr} {xs : List V} {p : List (List Int)} (n : NwD H H2 D xs p) : Nw H H2 D p := ⟨n.fr, xs, n.e, n.r⟩
theorem NwD.same {H H2 H3 : Hp} {D : Addr} {xs : List V} {p : List (List Int)} (n : NwD H H2 D xs p) (s : Same H2 H3) : NwD H H3 D xs p :=
  ⟨n.fr, s _ _ n.e, n.nd, Paired.imp' (fun _ _ ⟨b, e1, e2, e3, e4⟩ => ⟨b, e1, e2, e3, s _ _ e4⟩) n.r⟩
theorem NwD.snoc {H H2 H3 : Hp} {D b : Addr} {p : List (List Int)} {xs : List V} {m : List Int} (n : NwD H H2 D xs p) (s : Same H2 H3) (hb2 : H2 b = none) (sm : Same H H2) (hm : H3 b = some (.lst (m.map V.int))) :
    NwD H (upd H3 D (.lst (xs ++ [.ref b]))) D (xs ++ [.ref b]) (p ++ [m]) := by
  have hn : b ≠ D := (ne_of_none n.e hb2).symm
  refine ⟨n.fr, upd_same, ?_, (n.nw.snoc s n.e (sm.free hb2) hn hm).at upd_same⟩
  rw [List.nodup_append]
  refine ⟨n.nd, List.nodup_cons.mpr ⟨(fun z => nomatch z), List.nodup_nil⟩, fun x hx y hy z => ?_⟩
  rw [List.mem_singleton.mp hy] at z
  subst z
  obtain ⟨i, hi, e⟩ := List.getElem_of_mem hx
  obtain ⟨t, ht, c, e1, _, _, e4⟩ := Paired.get n.r (e ▸ List.getElem?_eq_getElem hi)
  cases e1
  rw [hb2] at e4
  cases e4
end L2

/-! EXT 11: exceptions: how one lies behind a call, how one is raised, how one leaves a def. -/
namespace L2
open PySem PySem.Spec PyProof.Rows
theorem ObjOk.is {P : Program} {w : World} {H : Hp} {h : Heap} {a : Addr} {o : HO} (x : ObjOk P w H h a o) : ∃ ob, h.get? a = some ob := by
  cases o with
  | lst xs => obtain ⟨_, _, _, _, e⟩ := x; exact ⟨_, e⟩
  | tup xs => obtain ⟨_, _, _, ob, e, _⟩ := x; exact ⟨_, e⟩
  | dK kvs => obtain ⟨_, _, _, _, o, _, _, e, _⟩ := x; exact ⟨_, e⟩
  | dT kvs => obtain ⟨_, _, _, _, o, _, _, e, _⟩ := x; exact ⟨_, e⟩
  | set S n => obtain ⟨o, _, _, _, e, _⟩ := x; exact ⟨_, e⟩
  | ins C dx fs => obtain ⟨_, _, _, e, _⟩ := x; exact ⟨_, e⟩
  | own y => exact x
  | xd fs => obtain ⟨_, ⟨_, _, _, e, _⟩, _⟩ := x; exact ⟨_, e⟩
  | rng lo hi => obtain ⟨_, _, _, e⟩ := x; exact ⟨_, e⟩
  | frz ob u => exact ⟨_, x.1⟩
  | tbl ps => exact ⟨_, x⟩
  | met f y => exact ⟨_, x⟩
  | ext φ => exact x.2.1
/-- B bears all that stood at s, and all that is tracked, but the frames at l -/
def Covers (l : List Env) (h : Heap) (H' : Hp) (h' B : Heap) : Prop := ∀ b o, h'.get? b = some o → ((∃ o₀, h.get? b = some o₀) ∨ H' b ≠ none) → b ∉ frs l → B.get? b = some o
/-- an exception of the class C has left a call -/
def CX1 (P : Program) (w : World) : CXT := fun outer H s E v s' => ∃ (e : Addr) (C a0 : Value) (B : Heap) (H' : Hp), v = .ref e ∧ s'.os = s.os ∧ AllBare s'.gens ∧ Un (frs outer) [] H H' s.heap s'.heap ∧ HOk P w H' s'.heap ∧
  Heap.FlyingW B outer e C a0 s'.heap ∧ s.heap.get? e = none ∧ (∀ b ∈ frs outer, H' b = none) ∧ Covers outer s.heap H' s'.heap B ∧ H' e = none ∧ E C none H'
/-- behind a further step of what an exception writes -/
theorem un_on {l : List Env} {H H' : Hp} {h h1 h2 B base : Heap} (un : Un (frs l) [] H H' h h1) (fl : h1.FunFrames base l) (cov : Covers l h H' h1 B) (st : B.StaysIn h2) (up : h1.UpToSlots h2) : Un (frs l) [] H H' h h2 where
  keep := fun b o q n hb hx => st b o (cov b o (un.keep b o q n hb hx) (.inl ⟨o, q⟩) hb)
  slot := fun b o q n hb hx => by
    obtain ⟨sl, e⟩ := un.slot b o q n hb hx
    obtain ⟨_, o', ho', hd⟩ := fl.mem hb
    rw [e] at ho'
    cases ho'
    obtain ⟨sl', e'⟩ := up b _ e hd
    exact ⟨sl', e'⟩
  free := un.free
  there := fun b o q hx => by
    obtain ⟨o', e⟩ := un.there b o q hx
    by_cases hb : b ∈ frs l
    · obtain ⟨_, o2, ho2, hd⟩ := fl.mem hb
      obtain ⟨sl', e'⟩ := up b _ ho2 hd
      exact ⟨_, e'⟩
    · exact ⟨o', st b o' (cov b o' e (.inl ⟨o, q⟩) hb)⟩
  tups := un.tups
  frzs := un.frzs
  tbls := un.tbls
theorem hok_on {P : Program} {w : World} {l : List Env} {H' : Hp} {h h1 h2 B : Heap} (ok : HOk P w H' h1) (fr : ∀ b ∈ frs l, H' b = none) (cov : Covers l h H' h1 B) (st : B.StaysIn h2) : HOk P w H' h2 := fun b u e => by
  have hn : ∀ c v, H' c = some v → c ∉ frs l := fun c v q hc => by rw [fr c hc] at q; cases q
  refine (ok b u e).stay (fun c v hc r => st c v (cov c v r (.inr ?_) ?_)) (fun _ q => q) fun _ _ q => q
  · rcases hc with rfl | hc
    · rw [e]; exact fun z => nomatch z
    · rw [hc]; exact fun z => nomatch z
  · rcases hc with rfl | hc
    · exact hn _ _ e
    · exact hn _ _ hc
section
variable {P : Program} {w : World} {K : PySem.W.Frag} {mg : Str → Option Value} {base : Heap} {N : List Str} {qual : Str} {scope : Scope} {f : Addr} {cd : Value} {A : Around} {outer : List Env} {s₀ : Shared} {H₀ : Hp} {E : XK}
/-- an exception of a callee passes through a def's body -/
theorem pass1 : Passes (CX1 P w) (cxOf (CX1 P w) P w K mg base N qual scope f cd A outer s₀ H₀ E) E := by
  intro pins σ H s v s' I h
  obtain ⟨e, C, a0, B, H', rfl, os, bare, un, hok, fly, hne, fr, cov, hHe, q⟩ := h
  have hL : (envOfC qual scope s₀.heap.objs.size f cd).frame = some s₀.heap.objs.size := rfl
  show wpAny (model P w) (A.deeper (envOfC qual scope s₀.heap.objs.size f cd)) (leaving (envOfC qual scope s₀.heap.objs.size f cd) (.ref e)) _ _ s'
  refine wpAny_leaves_onW I.ok.frames hL fly fun h' fly' up => ?_
  have un' := un_on un fly.2.2.1 cov fly'.1 up
  have hok' := hok_on hok fr cov fly'.1
  have J : Inv (cxOf (CX1 P w) P w K mg base N qual scope f cd A outer s₀ H₀ E) pins σ H' { s' with heap := h' } := I.call' (ch := []) os un' hok' bare (fun b z => nomatch z)
  have hs0 : ∀ b o, s₀.heap.get? b = some o → b ≠ s₀.heap.objs.size := fun b o e => Nat.ne_of_lt (Heap.lt_size e)
  refine ⟨e, C, a0, B, H', rfl, J.os, J.bare, J.base, J.hok, fly', ?_, fun b hb => fr b (List.mem_cons_of_mem _ hb), fun b o hb hc hf => ?_, hHe, q⟩
  · cases z : s₀.heap.get? e with
    | none => rfl
    | some o =>
      obtain ⟨o', e'⟩ := I.base.there e o z (fun z => nomatch z)
      rw [hne] at e'
      cases e'
  · have hst : b ∉ frs ((envOfC qual scope s₀.heap.objs.size f cd) :: outer) → ∃ o', s'.heap.get? b = some o' ∧ B.get? b = some o' := fun hb' => by
      rcases hc with ⟨o₀, h0⟩ | hc
      · obtain ⟨o1, e1⟩ := I.base.there b o₀ h0 (fun z => nomatch z)
        obtain ⟨o2, e2⟩ := un.there b o1 e1 (fun z => nomatch z)
        exact ⟨o2, e2, cov b o2 e2 (.inl ⟨o1, e1⟩) hb'⟩
      · cases z : H' b with
        | none => exact absurd z hc
        | some u =>
          obtain ⟨o2, e2⟩ := (hok b u z).is
          exact ⟨o2, e2, cov b o2 e2 (.inr hc) hb'⟩
    have hb' : b ∉ frs ((envOfC qual scope s₀.heap.objs.size f cd) :: outer) := fun z => by
      rcases List.mem_cons.mp (show b ∈ s₀.heap.objs.size :: frs outer from z) with z | z
      · rcases hc with ⟨o₀, h0⟩ | hc
        · exact hs0 b o₀ h0 z
        · exact hc (by rw [z]; exact J.free)
      · exact hf z
    obtain ⟨o', _, e2⟩ := hst hb'
    have := fly'.1 b o' e2
    rw [hb] at this
    cases this
    exact e2
/-- an exception that was just made leaves a def's body -/
theorem made_leaves {pins : List (Addr × Obj)} {σ : St} {H : Hp} {s : Shared} {h' : Heap} {e : Addr} {C : Value} {vs : List Value} (I : Inv (cxOf (CX1 P w) P w K mg base N qual scope f cd A outer s₀ H₀ E) pins σ H s) (hx : Heap.MadeExcOf s.heap h' e C vs) (q : E C none H) :
    (cxOf (CX1 P w) P w K mg base N qual scope f cd A outer s₀ H₀ E).xe (.ref e) { s with heap := h' } := by
  have hL : (envOfC qual scope s₀.heap.objs.size f cd).frame = some s₀.heap.objs.size := rfl
  show wpAny (model P w) (A.deeper (envOfC qual scope s₀.heap.objs.size f cd)) (leaving (envOfC qual scope s₀.heap.objs.size f cd) (.ref e)) _ _ { s with heap := h' }
  have hin : ∀ env ∈ ((envOfC qual scope s₀.heap.objs.size f cd) :: outer), ∀ b, env.frame = some b → b ∈ frs ((envOfC qual scope s₀.heap.objs.size f cd) :: outer) := fun env he b hb => List.mem_filterMap.mpr ⟨env, he, hb⟩
  have ff : s.heap.FunFrames base ((envOfC qual scope s₀.heap.objs.size f cd) :: outer) := I.stack
  refine wpAny_leaves_madeW (base := PySem.W.hideAll s.heap (frs ((envOfC qual scope s₀.heap.objs.size f cd) :: outer))) (h := s.heap) I.ok.frames hL (fun b o z => PySem.W.of_hideAll _ z) (PySem.W.funFrames_hide ff hin) hx fun h'' t fly htup hbt up => ?_
  have cov : Covers ((envOfC qual scope s₀.heap.objs.size f cd) :: outer) s.heap H s.heap (PySem.W.hideAll s.heap (frs ((envOfC qual scope s₀.heap.objs.size f cd) :: outer))) := fun b o e _ hb => PySem.W.hideAll_get _ e hb
  have up2 : s.heap.UpToSlots h'' := (Heap.UpToSlots.of_keeps hx.keeps).trans up
  have fr : ∀ b ∈ frs ((envOfC qual scope s₀.heap.objs.size f cd) :: outer), H b = none := I.stkFree
  have un' := un_on (Un.refl (fs := frs ((envOfC qual scope s₀.heap.objs.size f cd) :: outer)) (ex := []) (H := H) (h := s.heap)) ff cov fly.1 up2
  have hok' := hok_on I.hok fr cov fly.1
  have J : Inv (cxOf (CX1 P w) P w K mg base N qual scope f cd A outer s₀ H₀ E) pins σ H { s with heap := h'' } := I.call' (s' := { s with heap := h'' }) (ch := []) rfl un' hok' I.bare (fun b z => nomatch z)
  have hs0 : ∀ b o, s₀.heap.get? b = some o → b ≠ s₀.heap.objs.size := fun b o e => Nat.ne_of_lt (Heap.lt_size e)
  have hHe : H e = none := by
    cases z : H e with
    | none => rfl
    | some u =>
      obtain ⟨ob, hob⟩ := (I.hok e u z).is
      rw [hx.new] at hob
      cases hob
  refine ⟨e, C, .ref t, _, H, rfl, J.os, J.bare, J.base, J.hok, fly, ?_, fun b hb => fr b (List.mem_cons_of_mem _ hb), fun b o hb hc hf => ?_, hHe, q⟩
  · cases z : s₀.heap.get? e with
    | none => rfl
    | some o =>
      obtain ⟨o', e'⟩ := I.base.there e o z (fun z => nomatch z)
      rw [hx.new] at e'
      cases e'
  · have hb' : b ∉ frs ((envOfC qual scope s₀.heap.objs.size f cd) :: outer) := fun z => by
      rcases List.mem_cons.mp (show b ∈ s₀.heap.objs.size :: frs outer from z) with z | z
      · rcases hc with ⟨o₀, h0⟩ | hc
        · exact hs0 b o₀ h0 z
        · exact hc (by rw [z]; exact J.free)
      · exact hf z
    obtain ⟨o', e1⟩ : ∃ o', s.heap.get? b = some o' := by
      rcases hc with ⟨o₀, h0⟩ | hc
      · exact I.base.there b o₀ h0 (fun z => nomatch z)
      · cases z : H b with
        | none => exact absurd z hc
        | some u => exact (I.hok b u z).is
    have e2 := PySem.W.hideAll_get _ e1 hb'
    have := fly.1 b o' e2
    rw [hb] at this
    cases this
    exact e2
end
end L2

/-! EXT 12: a def that may raise; raise; texts with a number in them. -/
namespace L2
open PySem PySem.Spec PyProof.Rows
/-- a def that may raise, and keeps its promise -/
structure OkX (P : Program) (w : World) (K : PySem.W.Frag) (mg : Str → Option Value) (base : Heap) (x : Str) (k : Nat) (ps : List Str) (sp : Sp) : Prop where
  ex : ∃ (f : Addr) (fd : FuncData), FnOk P w K mg base (CX1 P w) k f fd ps sp ∧ mg x = some (.ref f) ∧ PySem.W.keepIn K (.ref f) = true ∧ Binds K fd ps []
section
variable {P : Program} {w : World} {K : PySem.W.Frag} {mg : Str → Option Value} {base : Heap}
theorem OkX.mono {x : Str} {j k : Nat} {ps : List Str} {sp : Sp} (O : OkX P w K mg base x j ps sp) (h : j ≤ k) : OkX P w K mg base x k ps sp := by
  obtain ⟨f, fd, F, r⟩ := O.ex
  exact ⟨f, fd, F.mono h, r⟩
theorem Def.okX {x : Str} {st : Stmt} {N ps : List Str} {k : Nat} {sp : Sp} (D : Def K mg x st) (S : FnScope N ps (defScope st))
    (hb : ∀ (kV doc pm : Value) (an : Option Addr) (cdv ct : Value) (us : List Value), us.length = ps.length → bindArgs (PySem.W.fnOf x x (defArgs st) (defBody st) (defScope st) .none kV doc pm an cdv ct) ⟨us, []⟩ = pure (ps.zip us))
    (len : ∀ vs H Q E, sp vs H Q E → vs.length = ps.length)
    (hbody : ∀ (f : Addr) (cdv : Value) (A : Around) (outer : List Env) (s : Shared) (H : Hp) (vs : List V) (Q : VK) (E : XK), Room k (A.deeper (envOfC x (defScope st) s.heap.objs.size f cdv)) → sp vs H Q E →
      ∃ t, PSs (cxOf (CX1 P w) P w K mg base N x (defScope st) f cdv A outer s H E) (defBody st) t ∧ t { nx := fun _ H' => Q .non H', rt := Q } (start N vs) H) : OkX P w K mg base x (k + 1) ps sp := by
  obtain ⟨f, fd, F, m⟩ := D.ex
  refine ⟨f, fd, ?_, m, F.kp, F.binds hb⟩
  obtain ⟨oc, od, kV, doc, pm, an, cdv, ct, osl, rfl, lk, hcd⟩ := F.ex
  exact fn_of lk hcd S len fun A outer s H vs Q E hr hsp => hbody f cdv A outer s H vs Q E hr hsp
end
/-- a call of a def that may raise -/
theorem pe_callX {X : Cx} {x : Str} {k : Nat} {ps : List Str} {sp : Sp} {p pos : Pos} {e : Expr} {es : List Expr} {t : TA} {E : XK} (O : OkX X.prog X.w X.K X.mg X.base x k ps sp) (hr : Room k X.A) (hx : Passes (CX1 X.prog X.w) X E) (ha : PA X (e :: es) t) (hg : Gl X x := by rfl) (hdb : (x == ("__debug__" : Str)) = false := by decide)
    (he : starEach (e :: es) X.env = (false, eval e X.env) :: starEach es X.env := by rfl) (hpl : (backTo pos (starEach es X.env)).any (·.1) = false := by rfl) : PE X (.Call (.Name x p) (e :: es) [] pos) (tCall sp [] E t) := by
  obtain ⟨f, fd, F, m, kp, b⟩ := O.ex
  exact pe_call F hr hg m kp b .nil hx ha hdb he hpl
theorem PS.nox {X : Cx} {st : Stmt} {t : TS} (h : PS X.nox st t) : PS X st t := fun pins s σ H D I hw =>
  wpAny_mono (h pins s σ H D (I.wish _) hw) (fun _ _ q => q.unwish) fun _ _ z => False.elim z
/-! ### raise -/
theorem exc_obj {K : PySem.W.Frag} {h : Heap} {C : Addr} {bmB : List Value} {newId : String} (X : K.In h) (q : PySem.W.excIn K C bmB newId = true) :
    ∃ (bm : List Value) (N : Addr) (nm qn : Str) (bs : List Value) (hd : Bool) (sn : List Str) (sub : List Value) (ab : Bool) (col : Option Bool) (dd : Option Addr) (k0 k1 k2 k3 k5 : Option Value) (mN : Str → Option Value),
      h.get? C = some (excClassObj nm qn C N bs bm hd sn sub ab col dd k0 k1 k2 k3 k5 newId) ∧ h.Ns N mN ∧ mN "__init__" = none ∧ OwnTail h bmB bm ∧ ∀ (v : Value) (b : Bool), PySem.W.mroIn K C v = some b → (Value.ref C :: bm).contains v = b := by
  unfold PySem.W.excIn at q
  split at q
  · rename_i dd cd sl ho
    split at q
    · rename_i C' bm k0 k1 k2 k3 n k5 hm hs
      simp only [Bool.and_eq_true, beq_iff_eq, Bool.not_eq_true'] at q
      obtain ⟨⟨⟨⟨⟨rfl, rfl⟩, hdel⟩, ht⟩, hok⟩, hni⟩ := q
      obtain ⟨nm, bs, mro, ns, qn, hd, sn, sub, ab, col, del⟩ := cd
      dsimp only at hm hdel hok hni
      subst hm hdel
      have hsl : sl = #[k0, k1, k2, k3, some (.builtin n), k5] := by
        obtain ⟨l⟩ := sl
        simp only at hs
        rw [hs]
      subst hsl
      refine ⟨bm, ns, nm, qn, bs, hd, sn, sub, ab, col, dd, k0, k1, k2, k3, k5, _, X _ _ ho, .of_isNs (PySem.W.isNs_of_in X hok), PySem.W.nsMap_none_of_in X hok hni, PySem.W.tail_of_in X ht, fun v b z => ?_⟩
      unfold PySem.W.mroIn PySem.W.clsIn at z
      rw [ho] at z
      exact Option.some.inj z
    · cases q
  · cases q
abbrev veMro : List Value := [.type "ValueError", .type "Exception", .type "BaseException", .type "object"]
/-- raise C(..): what is wanted of the exception -/
def tRaise (C : Addr) (E : XK) (t : TA) : TS := fun _ σ H => t σ H fun vs H1 => vs.length ≤ sizeLine ∧ E (.ref C) none H1
section
variable {P : Program} {w : World} {K : PySem.W.Frag} {mg : Str → Option Value} {base : Heap} {N : List Str} {qual : Str} {scope : Scope} {f : Addr} {cd : Value} {A : Around} {outer : List Env} {s₀ : Shared} {H₀ : Hp} {E : XK}
theorem ps_raise {x : Str} {C : Addr} {np cpos pos : Pos} {e : Expr} {es : List Expr} {t : TA} (hm : mg x = some (.ref C)) (hex : PySem.W.excIn K C veMro "ValueError.__new__" = true) (ha : PA (cxOf (CX1 P w) P w K mg base N qual scope f cd A outer s₀ H₀ E) (e :: es) t)
    (hg : Gl (cxOf (CX1 P w) P w K mg base N qual scope f cd A outer s₀ H₀ E) x := by rfl) (hdb : (x == ("__debug__" : Str)) = false := by decide)
    (he : starEach (e :: es) (envOfC qual scope s₀.heap.objs.size f cd) = (false, eval e (envOfC qual scope s₀.heap.objs.size f cd)) :: starEach es (envOfC qual scope s₀.heap.objs.size f cd) := by rfl)
    (hpl : (backTo cpos (starEach es (envOfC qual scope s₀.heap.objs.size f cd))).any (·.1) = false := by rfl) :
    PS (cxOf (CX1 P w) P w K mg base N qual scope f cd A outer s₀ H₀ E) (.Raise (some (.Call (.Name x np) (e :: es) [] cpos)) none pos) (tRaise C E t) := by
  intro pins s σ H D I h
  have hname : PE (cxOf (CX1 P w) P w K mg base N qual scope f cd A outer s₀ H₀ E) (.Name x np) (tC (.ref C)) := pe_glob (v := .ref C) hg hm rfl hdb
  obtain ⟨tl, M, nm, q, bs, hdct, sn, sub, ab, col, dd, k0, k1, k2, k3, k5, mN, hC, hN, hni, T, _⟩ := exc_obj I.mod.kin hex
  refine wpAny_Raise_call_subT (C := C) (nm := nm) (q := q) (N := M) (bs := bs) (bm := tl) (hdct := hdct) (sn := sn) (sub := sub) (ab := ab) (col := col) (dd := dd) (k0 := k0) (k1 := k1) (k2 := k2) (k3 := k3) (k5 := k5)
    PySem.F.excBase_ValueError (mN := mN) (T.hasType PySem.F.excBase_ValueError.hasBase) (I.ok.hd rfl) ?_ hni (thn (hname pins s σ H (fun v H' => v = .ref C ∧ H = H') I ⟨rfl, rfl⟩) fun u s1 ⟨v, H1, I1, r1, e1, e2⟩ => ?_)
  · show (backTo cpos (starEach (e :: es) (envOfC qual scope s₀.heap.objs.size f cd))).any (·.1) = false
    rw [he]
    show (false || (backTo cpos (starEach es (envOfC qual scope s₀.heap.objs.size f cd))).any (·.1)) = false
    rw [hpl]
    rfl
  · subst e1 e2
    cases (show u = Value.ref C from r1)
    refine ⟨rfl, ?_⟩
    have hA := ha cpos pins s1 σ H _ I1 h
    show wpAny _ _ (evalArgs (.ref C) true (backTo cpos (starEach (e :: es) (envOfC qual scope s₀.heap.objs.size f cd))) []) _ _ s1
    have hA' : wpAny (model P w) (A.deeper (envOfC qual scope s₀.heap.objs.size f cd)) (spliced (backTo cpos (starEach (e :: es) (envOfC qual scope s₀.heap.objs.size f cd)))) _ _ s1 := hA
    rw [he] at hA' ⊢
    refine Calls.evalArgs_plain (thn hA' fun us s2 ⟨vs, H2, I2, rv, hl, hq⟩ => ?_)
    exact ⟨rfl, by rw [← rv.length]; exact hl, I2.bk _ _ hC, hN.keeps I2.bk, T.keeps I2.bk, fun h' e' hx => made_leaves I2 hx hq⟩
end
/-! ### texts with a number in them -/
section
variable {X : Cx} {pos : Pos}
theorem pe_fv {value : Expr} {i : Int} (h : PE X value (tC (.int i))) (hi : i.natAbs.log2 < 1920) : PE X (.FormattedValue value (-1) none pos) (tC (.str (PySem.Str.ofString (toString i)))) := by
  intro pins s σ H Q I q
  refine wpAny_FormattedValue_plain (thn (h pins s σ H (fun v H' => v = .int i ∧ H = H') I ⟨rfl, rfl⟩) fun u s1 ⟨v, H1, I1, r1, e1, e2⟩ => ?_)
  subst e1 e2
  obtain ⟨t, rfl⟩ := r1
  exact wpAny_formatField_int hi ⟨.str _, H, I1.tok _, ⟨_, rfl⟩, q⟩
/-- some text -/
def tText : TE := fun _ H Q => ∀ z : PySem.Str, Q (.str z) H
theorem app_len (x y : PySem.Str) : (x ++ y).length = x.length + y.length := PySem.Str.length_append x y
theorem empty_app (x : PySem.Str) : (PySem.Str.empty ++ x).length = x.length := by rw [app_len]; show 0 + _ = _; omega
theorem pe_join2 {a b : Expr} {x y : PySem.Str} (ha : PE X a (tC (.str x))) (hb : PE X b (tC (.str y))) (hx : x.length ≤ 300) (hy : y.length ≤ 300) : PE X (.JoinedStr [a, b] pos) tText := by
  intro pins s σ H Q I q
  refine wpAny_JoinedStr ?_
  refine thn (ha pins s σ H (fun v H' => v = .str x ∧ H = H') I ⟨rfl, rfl⟩) fun u s1 ⟨v, H1, I1, r1, e1, e2⟩ => ?_
  subst e1 e2
  obtain ⟨t, rfl⟩ := r1
  refine ⟨x, t, rfl, le1000 (by rw [empty_app]; omega), ?_⟩
  refine thn (hb pins s1 σ H (fun v H' => v = .str y ∧ H = H') I1 ⟨rfl, rfl⟩) fun u s2 ⟨v, H2, I2, r2, e1, e2⟩ => ?_
  subst e1 e2
  obtain ⟨t, rfl⟩ := r2
  have hl : (PySem.Str.empty ++ x ++ y).length ≤ 1000 := by rw [app_len, empty_app]; omega
  exact ⟨y, t, rfl, le1000 hl, le1000 hl, .str _, H, I2.tok _, ⟨_, rfl⟩, q _⟩
end
end L2

/-! EXT 13: try .. except C as e; calls within the except suite; isinstance of an exception. -/
namespace L2
open PySem PySem.Spec PyProof.Rows
/-- at e stands an exception of the class C -/
def ExcIs (e : Addr) (C : Value) (h : Heap) : Prop := ∃ o vs, h.get? e = some o ∧ o.cls = C ∧ o.data = .fields vs
/-- within an except suite: the around marked, nothing known of exceptions, some pins borne -/
abbrev Cx.marked (X : Cx) (v : Value) (pn : List (Addr × Obj)) : Cx := { X with A := X.A.mark (some v), calm := false, pn := pn, xe := fun _ _ => False }
abbrev Cx.bears (X : Cx) (pn : List (Addr × Obj)) (W : Value → Shared → Prop) : Cx := { X with pn := pn, xe := W }
section
variable {X : Cx} {pins : List (Addr × Obj)} {σ : St} {H : Hp} {s : Shared}
theorem Inv.mark {pn : List (Addr × Obj)} (I : Inv X pins σ H s) (v : Value) (hp : ∀ p ∈ pn, p ∈ X.pn ++ pins) : Inv (X.marked v pn) [] σ H s := by
  refine ⟨⟨I.ok.mod, I.ok.kind, I.ok.glob, I.ok.blt, I.ok.above, I.ok.inj, I.ok.has, I.ok.cab, (fun z => nomatch z), I.ok.frames, I.ok.stk, I.ok.exf, I.ok.bs, I.ok.bsz, I.ok.noex, I.ok.exfs, I.ok.funs, I.ok.frf⟩,
    I.os, I.bare, I.base, I.loc, I.cell, I.free, I.freeC, fun p hq => I.pin p (hp p (by simpa using hq)), I.hok, I.len⟩
theorem Inv.unmark {pn ps : List (Addr × Obj)} {v : Value} (ok : X.Ok) (I : Inv (X.marked v pn) ps σ H s) (hp : ∀ p ∈ X.pn ++ pins, p ∈ pn) : Inv X pins σ H s :=
  ⟨ok, I.os, I.bare, I.base, I.loc, I.cell, I.free, I.freeC, fun p hq => I.pin p (List.mem_append_left _ (hp p hq)), I.hok, I.len⟩
theorem Inv.bear {W : Value → Shared → Prop} (I : Inv X pins σ H s) : Inv (X.bears (X.pn ++ pins) W) [] σ H s :=
  ⟨⟨I.ok.mod, I.ok.kind, I.ok.glob, I.ok.blt, I.ok.above, I.ok.inj, I.ok.has, I.ok.cab, I.ok.hd, I.ok.frames, I.ok.stk, I.ok.exf, I.ok.bs, I.ok.bsz, I.ok.noex, I.ok.exfs, I.ok.funs, I.ok.frf⟩,
    I.os, I.bare, I.base, I.loc, I.cell, I.free, I.freeC, fun p hq => I.pin p (by simpa using hq), I.hok, I.len⟩
theorem Inv.unbear {W : Value → Shared → Prop} {ps : List (Addr × Obj)} (ok : X.Ok) (I : Inv (X.bears (X.pn ++ pins) W) ps σ H s) : Inv X pins σ H s :=
  ⟨ok, I.os, I.bare, I.base, I.loc, I.cell, I.free, I.freeC, fun p hq => I.pin p (List.mem_append_left _ hq), I.hok, I.len⟩
/-- an exception that was not tracked is tracked from now on -/
theorem Inv.track {e : Addr} {C : Value} (I : Inv X pins σ H s) (hx : ExcIs e C s.heap) (hH : H e = none) (h0 : X.s₀.heap.get? e = none) (hL : e ≠ X.env.locals) (hc : ∀ x c, X.env.cells.lookup x = some c → c ≠ e) (hp : ∀ p ∈ X.pn ++ pins, p.1 ≠ e) :
    Inv X pins σ (upd H e (.ext (ExcIs e C))) s := by
  have ne : ∀ b u, H b = some u → b ≠ e := fun b u q => ne_of_none q hH
  have n0 : ∀ b o, X.s₀.heap.get? b = some o → b ≠ e := fun b o q z => by rw [z, h0] at q; cases q
  refine ⟨I.ok, I.os, I.bare, ⟨I.base.keep, I.base.slot, fun b o q n hx => ?_, I.base.there, fun b xs q => ?_, fun b o u q => ?_, fun b ps q => ?_⟩, I.loc, I.cell, ?_, fun x c q => ?_, fun p hq => ?_, fun b u q => ?_, I.len⟩
  · rw [upd_ne (n0 b o q)]
    exact I.base.free b o q n hx
  · have := I.base.tups b xs q
    rw [upd_ne (ne b _ this)]
    exact this
  · have := I.base.frzs b o u q
    rw [upd_ne (ne b _ this)]
    exact this
  · obtain ⟨more, z⟩ := I.base.tbls b ps q
    exact ⟨more, by rw [upd_ne (ne b _ z)]; exact z⟩
  · rw [upd_ne (Ne.symm hL)]
    exact I.free
  · rw [upd_ne (hc x c q)]
    exact I.freeC x c q
  · obtain ⟨z1, z2, z3⟩ := I.pin p hq
    exact ⟨z1, by rw [upd_ne (hp p hq)]; exact z2, z3⟩
  · by_cases hb : b = e
    · subst hb
      rw [upd_same] at q
      cases q
      obtain ⟨o, vs, e1, r⟩ := id hx
      exact ⟨hx, ⟨o, e1⟩, fun h1 h2 z k => by obtain ⟨o, vs, e1, r⟩ := z; exact ⟨o, vs, k o e1, r⟩⟩
    · rw [upd_ne hb] at q
      exact (I.hok b u q).stay (fun c v hc r => r) (fun c r => by rw [upd_ne (ne c _ r)]; exact r) fun c xs r => by rw [upd_ne (ne c _ r)]; exact r
/-- the names are forgotten: the frame's own map has changed -/
theorem Inv.forget {h' : Heap} {m' : Str → Option Value} {tk : Nat} (I : Inv X pins σ H s) (hn : h'.Ns X.env.locals m') (hs : Heap.SameBut X.env.locals s.heap h') : Inv X pins (List.replicate X.N.length none) H { s with heap := h', toks := tk } := by
  have nl : ∀ b o, X.s₀.heap.get? b = some o → b ≠ X.env.locals := fun b o e => Nat.ne_of_lt (Nat.lt_of_lt_of_le (Heap.lt_size e) I.ok.above)
  refine ⟨I.ok, I.os, I.bare, ⟨fun b o e n hb hx => ?_, fun b o e n hb hx => ?_, I.base.free, fun b o e hx => ?_, I.base.tups, I.base.frzs, I.base.tbls⟩, ⟨m', hn, fun i x v e1 e2 => ?_⟩, fun x c e => ?_, I.free, I.freeC, fun p hp => ?_, fun b u e => ?_, by rw [List.length_replicate]⟩
  · exact (hs.2 b (nl b o e)).trans (I.base.keep b o e n hb hx)
  · obtain ⟨sl, z⟩ := I.base.slot b o e n hb hx
    exact ⟨sl, (hs.2 b (nl b o e)).trans z⟩
  · obtain ⟨o', z⟩ := I.base.there b o e hx
    exact ⟨o', (hs.2 b (nl b o e)).trans z⟩
  · rw [List.getElem?_replicate] at e2
    split at e2 <;> cases e2
  · obtain ⟨v, z⟩ := I.cell x c e
    exact ⟨v, z.sameBut hs (I.cne x c e)⟩
  · obtain ⟨e, n, ne, nf, d⟩ := I.pin p hp
    exact ⟨(hs.2 p.1 ne).trans e, n, ne, nf, d⟩
  · refine (I.hok b u e).stay (fun c v hc q => (hs.2 c ?_).trans q) (fun _ q => q) fun _ _ q => q
    rintro rfl
    rcases hc with rfl | hc
    · rw [I.free] at e; cases e
    · rw [I.free] at hc; cases hc
end
section
variable {M : Model} {A : Around} {E : Value → Shared → Prop} {h : Heap} {g : Array GenState} {d : Drawn} {t : Nat} {os : OsState}
/-- an exception of an own class matches an own class above it, or does not -/
theorem matches_own {C D : Addr} {e : Addr} {oe : Obj} {nm q nm' q' : Str} {N N' : Addr} {bs bm bs' bm' : List Value} {hdct hdct' : Bool} {sn sn' : List Str} {sub sub' : List Value} {ab ab' : Bool} {col col' : Option Bool} {dd dd' : Option Addr} {k0 k1 k2 k3 k5 l0 l1 l2 l3 l5 : Option Value} {newId newId' : String} {Q : Bool → Shared → Prop}
    (hC : h.get? C = some (excClassObj nm q C N bs bm hdct sn sub ab col dd k0 k1 k2 k3 k5 newId)) (hD : h.get? D = some (excClassObj nm' q' D N' bs' bm' hdct' sn' sub' ab' col' dd' l0 l1 l2 l3 l5 newId')) (he : h.get? e = some oe) (hcls : oe.cls = .ref C)
    (hbase : bm'.contains (.type "BaseException") = true) (hm : (Value.ref C :: bm).contains (.ref D) = true) (hq : Q true ⟨h, g, d, t, os⟩) : wpAny M A (excMatches (.ref e) (.ref D)) Q E ⟨h, g, d, t, os⟩ := by
  have hcB : (Value.ref D :: bm').contains (.type "BaseException") = true := by rw [List.contains_cons, hbase, Bool.or_true]
  have f := tc_notTuple
  unfold excMatches
  repeat (first | (with_reducible refine wpAny_loadPart_at he ?_; rw [hcls]) | with_reducible refine wpAny_loadPart_at hD ?_ | with_reducible refine wpAny_loadPart_at hC ?_ | (with_reducible refine wpAny_isSubtype_exc hD ?_; rw [hcB]) | (with_reducible refine wpAny_isSubtype_exc hC ?_; rw [hm]) | wp_step)
  exact hq
end
end L2

/-! EXT 14: try .. except C as e, whose suite returns. -/
namespace L2
open PySem PySem.Spec PyProof.Rows
/-- what is wanted of an exception that a try catches: an own class above which D stands -/
def Caught (K : PySem.W.Frag) (D : Addr) (Ex : XK) : Prop := ∀ C H, Ex C none H → ∃ Ca, C = .ref Ca ∧ PySem.W.excIn K Ca veMro "ValueError.__new__" = true ∧ PySem.W.mroIn K Ca (.ref D) = some true
def tTry (Ex : XK) (i n : Nat) (t u : TS) : TS := fun D σ H => t D σ H ∧ ∀ (C : Value) (H' : Hp) (e : Addr) (σ' : St), σ'.length = n → Ex C none H' → H' e = none → u { nx := fun _ _ => False, rt := D.rt } (σ'.set i (some (.ref e))) (upd H' e (.ext (ExcIs e C)))
theorem set_at {σ : St} {i n : Nat} {v : V} (h : σ.length = n) (hi : i < n) : (σ.set i (some v))[i]? = some (some v) := by
  rw [List.getElem?_set_self (by omega)]
section
variable {X : Cx}
theorem ps_try {body : List Stmt} {b₀ : Stmt} {suite : List Stmt} {x n : Str} {np hpos pos : Pos} {D : Addr} {Ex : XK} {t u : TS} (i : Nat) (hex0 : X.ex = []) (hstk : X.stack = X.env :: X.outer) (hfrm : X.env.frame = some X.env.locals)
    (hm : X.mg x = some (.ref D)) (hD : PySem.W.excIn X.K D veMro "ValueError.__new__" = true) (hc : Caught X.K D Ex)
    (hbody : ∀ pn W, Passes (CX1 X.prog X.w) (X.bears pn W) Ex → PSs (X.bears pn W) body t) (hsuite : ∀ v pn, PSs (X.marked v pn) (b₀ :: suite) u)
    (hN : X.N.Nodup) (hi : X.N[i]? = some n) (hg : Gl X x := by rfl) (hdb : (x == ("__debug__" : Str)) = false := by decide) (hx : X.env.scope.names.lookup n = some .local := by rfl) :
    PS X (.Try body [.ExceptHandler (some (.Name x np)) (some n) (b₀ :: suite) hpos] [] [] pos) (tTry Ex i X.N.length t u) := by
  intro pins s σ H D0 I ⟨ht, hu⟩
  have hcls : (X.env.scope.kind == .class || (X.env.scope.kind == .module && X.env.locals != X.env.globals)) = false := by rw [I.ok.kind]; rfl
  refine wpAny_Try_except ?_
  have B := hbody (X.pn ++ pins) (fun e s₁ => wpAny (model X.prog X.w) X.A (noteFrame e X.env) (fun _ s₂ => wpAny (model X.prog X.w) X.A (setFlight e none) (fun _ s₃ => wpAny (model X.prog X.w) X.A (handleBy e X.env [.ExceptHandler (some (.Name x np)) (some n) (b₀ :: suite) hpos]) (SP X pins D0) X.xe s₃) X.xe s₂) X.xe s₁) ?_
  · refine wpAny_mono (B [] s σ H D0 I.bear ht) (fun f s1 q => ?_) fun _ _ z => z
    cases f with
    | next =>
      obtain ⟨σ', H', I', q⟩ := q
      exact wpAny_execs_nil ⟨σ', H', I'.unbear I.ok, q⟩
    | ret v =>
      obtain ⟨v', σ', H', I', r, q⟩ := q
      exact ⟨v', σ', H', I'.unbear I.ok, r, q⟩
    | brk =>
      obtain ⟨σ', H', I', q⟩ := q
      exact ⟨σ', H', I'.unbear I.ok, q⟩
    | cont =>
      obtain ⟨σ', H', I', q⟩ := q
      exact ⟨σ', H', I'.unbear I.ok, q⟩
  · intro pins1 σ1 H1 s1 e0 s2 I1 hcx
    have I1 : Inv X pins σ1 H1 s1 := I1.unbear I.ok
    obtain ⟨e, C, a0, Bh, H', rfl, os, bare, un, hok, fly, hne, fr, cov, hHe, q⟩ := hcx
    obtain ⟨Ca, rfl, hex, hup⟩ := hc _ _ q
    have fly : Heap.FlyingW Bh (X.env :: X.outer) e (.ref Ca) a0 s2.heap := by rw [← hstk]; exact fly
    have un : Un (frs X.stack) [] H1 H' s1.heap s2.heap := un
    have fr : ∀ b ∈ frs X.stack, H' b = none := fr
    have cov : Covers X.stack s1.heap H' s2.heap Bh := cov
    have ff : s2.heap.FunFrames Bh X.stack := by rw [hstk]; exact fly.2.2.1
    have neL : e ≠ X.env.locals := fun z => by
      obtain ⟨m, hn, _⟩ := I1.loc
      obtain ⟨o, es, ep, ho, _⟩ := hn
      rw [← z, hne] at ho
      cases ho
    have neC : ∀ y c, X.env.cells.lookup y = some c → c ≠ e := fun y c z w => by
      obtain ⟨v, oc, hoc, _⟩ := I1.cell y c z
      rw [w, hne] at hoc
      cases hoc
    have neP : ∀ p ∈ X.pn ++ pins, p.1 ≠ e := fun p hp w => by
      have := (I1.pin p hp).1
      rw [w, hne] at this
      cases this
    have ne0 : X.s₀.heap.get? e = none := by
      cases z : X.s₀.heap.get? e with
      | none => rfl
      | some o =>
        obtain ⟨o', h'⟩ := I1.base.there e o z (by rw [hex0]; exact fun z => nomatch z)
        rw [hne] at h'
        cases h'
    have key : ∀ h3 : Heap, Bh.StaysIn h3 → s2.heap.UpToSlots h3 → Inv X pins σ1 H' { s2 with heap := h3 } := fun h3 st up =>
      I1.call' (s' := { s2 with heap := h3 }) (ch := []) os (un_on un ff cov st up) (hok_on hok fr cov st) bare (fun b z => nomatch z)
    refine wpAny_looks_onW (by rw [← hstk]; exact I.ok.frames) hfrm fly fun h3 held up3 => ?_
    refine wpAny_landsW (s := { s2 with heap := h3 }) held fun h4 fly4 up4 => ?_
    have J4 := key h4 fly4.1 (up3.trans up4)
    have M4 : Inv (X.marked (.ref e) (X.pn ++ pins)) [] σ1 H' { s2 with heap := h4 } := J4.mark _ fun p hp => hp
    obtain ⟨bmC, NC, nmC, qnC, bsC, hdC, snC, subC, abC, colC, ddC, k0, k1, k2, k3, k5, mNC, oC, _, _, _, mroC⟩ := exc_obj (J4.kIn) hex
    obtain ⟨bmD, ND, nmD, qnD, bsD, hdD, snD, subD, abD, colD, ddD, l0, l1, l2, l3, l5, mND, oD, _, _, TD, _⟩ := exc_obj (J4.kIn) hD
    obtain ⟨oe, he, hecls⟩ := fly4.there
    refine wpAny_handleBy_cons (codeAny_handlers_test ?_) (fun z => nomatch z)
    refine ld_glob (X := X.marked (.ref e) (X.pn ++ pins)) M4 hg hm ?_ hdb
    refine matches_own oC oD he hecls (TD.hasType PySem.F.excBase_ValueError.hasBase) (mroC _ _ hup) ?_
    refine codeAny_handlers_suite_as ?_
    refine lands_againW (s := { s2 with heap := h4 }) fly4 fun h5 fly5 up5 => ?_
    have J5 := key h5 fly5.1 ((up3.trans up4).trans up5)
    have M5 : Inv (X.marked (.ref e) (X.pn ++ pins)) [] σ1 H' { s2 with heap := h5 } := J5.mark _ fun p hp => hp
    obtain ⟨oe5, vs5, he5, hc5, hd5, _⟩ := fly5.first
    have M6 := M5.track (C := .ref Ca) ⟨oe5, vs5, he5, hc5, hd5⟩ hHe ne0 neL neC (fun p hp => neP p (by simpa using hp))
    refine store_ok (X := X.marked (.ref e) (X.pn ++ pins)) M6 hN hi (.inl hx) (v := .ref e) rfl (fun s6 M7 => ?_) (.inr hx)
    refine wpAny_mono (hsuite _ _ [] s6 _ _ _ M7 (hu _ H' e σ1 I1.len q hHe)) (fun f s7 q7 => ?_) fun _ _ z => False.elim z
    cases f with
    | next =>
      obtain ⟨_, _, _, z⟩ := q7
      exact False.elim z
    | brk =>
      obtain ⟨_, _, _, z⟩ := q7
      exact False.elim z
    | cont =>
      obtain ⟨_, _, _, z⟩ := q7
      exact False.elim z
    | ret v =>
      obtain ⟨v', σ8, H8, M8, r, z⟩ := q7
      have J8 : Inv X pins σ8 H8 s7 := M8.unmark I.ok fun p hp => hp
      obtain ⟨m8, hn8, _⟩ := J8.loc
      refine wpAny_nameGoes hx hn8 hcls fun h9 m9 hn9 hs9 => ?_
      exact ⟨v', _, H8, J8.forget hn9 hs9, r, z⟩
end
end L2

/-! EXT 15: calls within an except suite; isinstance of an exception; count and index of a list of truths. -/
namespace L2
open PySem PySem.Spec PyProof.Rows
/-! ### room where an exception may be in hand -/
structure RoomH (k : Nat) (A : Around) : Prop where
  dp : A.depth + 3 * k + 5 < recursionLimit
  un : A.units + 16 * k + 200 < cLine
theorem RoomH.mono {j k : Nat} {A : Around} (r : RoomH k A) (h : j ≤ k) : RoomH j A := ⟨by have := r.dp; omega, by have := r.un; omega⟩
theorem RoomH.deeper {k : Nat} {A : Around} (r : RoomH (k + 1) A) (env : Env) : RoomH k (A.deeper env) :=
  ⟨by have := r.dp; show A.depth + 1 + 3 * k + 5 < _; omega, by have := r.un; show A.units + 3 + 16 * k + 200 < _; omega⟩
theorem Room.toH {k : Nat} {A : Around} (r : Room k A) (v : Option Value) : RoomH k (A.mark v) := ⟨r.dp, r.un⟩
structure FnOkH (P : Program) (w : World) (K : PySem.W.Frag) (mg : Str → Option Value) (base : Heap) (k : Nat) (f : Addr) (fd : FuncData) (ps : List Str) (sp : Sp) : Prop where
  len : ∀ vs H Q E, sp vs H Q E → vs.length = ps.length
  run : ∀ (A : Around) (outer : List Env) (s : Shared) (H : Hp) (args : Args) (us : List Value) (vs : List V) (Q : VK) (E : XK), RoomH k A → Env0 P w K mg base A outer s H → BindsTo s fd args (ps.zip us) → Vals vs us → sp vs H Q E →
    codeAny (model P w) A (.call (.ref f) args) (CR CX0 outer P w H s Q E) s
structure OkH (P : Program) (w : World) (K : PySem.W.Frag) (mg : Str → Option Value) (base : Heap) (x : Str) (k : Nat) (ps : List Str) (sp : Sp) : Prop where
  ex : ∃ (f : Addr) (fd : FuncData), FnOkH P w K mg base k f fd ps sp ∧ mg x = some (.ref f) ∧ PySem.W.keepIn K (.ref f) = true ∧ Binds K fd ps []
abbrev Cx.wild (X : Cx) : Cx := { X with calm := false, xe := fun _ _ => False }
section
variable {P : Program} {w : World} {K : PySem.W.Frag} {mg : Str → Option Value} {base : Heap}
theorem fn_ofH {k : Nat} {f : Addr} {name qual : Str} {params : Arguments} {body : List Stmt} {scope : Scope} {dV kV doc pm cdv ct oc : Value} {an od : Option Addr}
    {osl : Array (Option Value)} {N ps : List Str} {sp : Sp} (lk : K.lookup f = some ⟨oc, od, .func (PySem.W.fnOf name qual params body scope dV kV doc pm an cdv ct), osl⟩) (hcd : PySem.W.codeIn K cdv qual = true) (S : FnScope N ps scope)
    (len : ∀ vs H Q E, sp vs H Q E → vs.length = ps.length)
    (hbody : ∀ (A : Around) (outer : List Env) (s : Shared) (H : Hp) (vs : List V) (Q : VK) (E : XK), RoomH k (A.deeper (envOfC qual scope s.heap.objs.size f cdv)) → sp vs H Q E →
      ∃ t, PSs (cxOf CX0 P w K mg base N qual scope f cdv A outer s H E).wild body t ∧ t { nx := fun _ H' => Q .non H', rt := Q } (start N vs) H) :
    FnOkH P w K mg base (k + 1) f (PySem.W.fnOf name qual params body scope dV kV doc pm an cdv ct) ps sp := by
  refine ⟨len, fun A outer s H args us vs Q E hr e0 hb r hsp => ?_⟩
  have hl := len _ _ _ _ hsp
  have KX : K.In s.heap := e0.mod.kin.keeps fun b o e => (e0.bs b o e).1
  have lim : s.heap.NoLimit := e0.mod.nolimit.keeps fun b o e => (e0.bs b o e).1
  have hkind : ∀ y ∈ ps.zip us, scope.names.lookup y.1 = some .local ∨ (scope.names.lookup y.1 = some .cell ∧ ((cellsFrom (s.heap.objs.size + 1) scope.names []).lookup y.1).isSome = true) := fun ⟨n, v⟩ hy => by
    rcases S.par n (List.of_mem_zip hy).1 with q | q
    · exact .inl q
    · exact .inr ⟨q, PySem.W.cellsFrom_some _ _ _ (.inl q)⟩
  refine codeAny_call_function (by have := hr.dp; omega) (KX _ _ lk) rfl S.co S.gen rfl (PySem.W.codeRec_of KX hcd) (hb _ _ _ _ ?_)
  refine wpAny_newFunctionEnv_cells S.kind hkind fun env he s1 x => ?_
  subst he
  refine ⟨lim.keeps x.toInCall.keep, codeAny_func ?_⟩
  obtain ⟨t, ht, hq⟩ := hbody A outer s H vs Q E (hr.deeper _) hsp
  have e1 : Env0 P w K mg base { A with handled := none } outer s H := ⟨e0.frames, e0.mod, e0.bs, e0.bsz, e0.funs, e0.frf, e0.hok, e0.bare⟩
  have I0 : Inv (cxOf CX0 P w K mg base N qual scope f cdv { A with handled := none } outer s H E) [] (start N vs) H s1 := inv_start S rfl e1 hl r x
  have I : Inv (cxOf CX0 P w K mg base N qual scope f cdv A outer s H E).wild [] (start N vs) H s1 :=
    ⟨⟨I0.ok.mod, I0.ok.kind, I0.ok.glob, I0.ok.blt, I0.ok.above, I0.ok.inj, I0.ok.has, I0.ok.cab, (fun z => nomatch z), Around.frames_deeper e0.frames, I0.ok.stk, I0.ok.exf, I0.ok.bs, I0.ok.bsz, I0.ok.noex, I0.ok.exfs, I0.ok.funs, I0.ok.frf⟩,
      I0.os, I0.bare, I0.base, I0.loc, I0.cell, I0.free, I0.freeC, I0.pin, I0.hok, I0.len⟩
  refine wpAny_mono (ht [] s1 (start N vs) H _ I hq) (fun fl s' hs => ?_) fun e s' hs => False.elim hs
  have fin : ∀ {σ' : St} {H' : Hp} {v : V} {u : Value}, Inv (cxOf CX0 P w K mg base N qual scope f cdv A outer s H E).wild [] σ' H' s' → RelV v u → Q v H' → CE outer P w H s Q u s' :=
    fun {σ' H' v u} J rv q => ⟨v, H', J.os, J.bare, J.base, J.hok, rv, q⟩
  cases fl with
  | ret u =>
    obtain ⟨v, σ', H', J, rv, q⟩ := hs
    exact fin J rv q
  | next =>
    obtain ⟨σ', H', J, q⟩ := hs
    exact fin (v := V.non) (u := Value.none) J rfl q
  | brk =>
    obtain ⟨_, _, _, q⟩ := hs
    exact False.elim q
  | cont =>
    obtain ⟨_, _, _, q⟩ := hs
    exact False.elim q
theorem Def.okH {x : Str} {st : Stmt} {N ps : List Str} {k : Nat} {sp : Sp} (D : Def K mg x st) (S : FnScope N ps (defScope st))
    (hb : ∀ (kV doc pm : Value) (an : Option Addr) (cdv ct : Value) (us : List Value), us.length = ps.length → bindArgs (PySem.W.fnOf x x (defArgs st) (defBody st) (defScope st) .none kV doc pm an cdv ct) ⟨us, []⟩ = pure (ps.zip us))
    (len : ∀ vs H Q E, sp vs H Q E → vs.length = ps.length)
    (hbody : ∀ (f : Addr) (cdv : Value) (A : Around) (outer : List Env) (s : Shared) (H : Hp) (vs : List V) (Q : VK) (E : XK), RoomH k (A.deeper (envOfC x (defScope st) s.heap.objs.size f cdv)) → sp vs H Q E →
      ∃ t, PSs (cxOf CX0 P w K mg base N x (defScope st) f cdv A outer s H E).wild (defBody st) t ∧ t { nx := fun _ H' => Q .non H', rt := Q } (start N vs) H) : OkH P w K mg base x (k + 1) ps sp := by
  obtain ⟨f, fd, F, m⟩ := D.ex
  refine ⟨f, fd, ?_, m, F.kp, F.binds hb⟩
  obtain ⟨oc, od, kV, doc, pm, an, cdv, ct, osl, rfl, lk, hcd⟩ := F.ex
  exact fn_ofH lk hcd S len fun A outer s H vs Q E hr hsp => hbody f cdv A outer s H vs Q E hr hsp
end
section
variable {X : Cx} {k : Nat} {ps : List Str} {sp : Sp} {x : Str} {p pos : Pos} {e : Expr} {es : List Expr} {t : TA}
theorem pe_callH (O : OkH X.prog X.w X.K X.mg X.base x k ps sp) (hr : RoomH k X.A) (ha : PA X (e :: es) t) (hg : Gl X x := by rfl) (hdb : (x == ("__debug__" : Str)) = false := by decide)
    (he : starEach (e :: es) X.env = (false, eval e X.env) :: starEach es X.env := by rfl) (hpl : (backTo pos (starEach es X.env)).any (·.1) = false := by rfl) : PE X (.Call (.Name x p) (e :: es) [] pos) (tCall sp [] E0 t) := by
  obtain ⟨f, fd, F, hm, hk, hb⟩ := O.ex
  intro pins s σ H Q I h
  refine wpAny_Call_Name_kw (ld_glob I hg hm ?_ hdb)
  refine PySem.W.callWith_K (h₀ := X.base) I.ok.mod.kin hk (thn (ha pos pins s σ H _ I h) fun us s1 ⟨vs, H1, I1, r, q⟩ => ⟨I1.kIn, ?_⟩) he hpl
  have r2 : Vals (vs ++ []) (us ++ []) := r.append .nil
  have hl : (us ++ []).length = ps.length := by rw [← r2.length]; exact F.len _ _ _ _ q
  refine wpAny_call (codeAny_mono (F.run X.A X.stack s1 H1 ⟨us, []⟩ (us ++ []) (vs ++ []) Q E0 hr I1.env0 (hb s1 us I1.kIn hl) r2 q) fun r s' hq => ?_)
  cases r with
  | error e => exact False.elim hq
  | ok fl =>
    cases fl with
    | ret u => exact I1.after hq
    | next => exact False.elim hq
    | brk => exact False.elim hq
    | cont => exact False.elim hq
end
/-! ### isinstance of an exception -/
structure ExcKit (K : PySem.W.Frag) (C : Addr) : Prop where
  ha : PySem.W.findIn K (.ref C) "__class__" = some (some (.builtin "object.__class__"))
  hn : PySem.W.specialIn K (.builtin "object.__class__") "__get__" = some (some (.builtin "getset_descriptor.__get__"))
  ht : PySem.W.takesIn K (.builtin "object.__class__") = some true
  hm : PySem.W.mroIn K C (.type "object") = some true
  hB : PySem.W.mroIn K C (.type "BaseException") = some true
  hga : PySem.W.findIn K (.ref C) "__getattribute__" = some (some (.builtin "BaseException.__getattribute__"))
  hgt : PySem.W.findIn K (.ref C) "__getattr__" = some none
  hc : (PySem.W.clsIn K C).isSome = true
section
variable {K : PySem.W.Frag} {C e : Addr}
theorem ExcIs.type {M : Model} {h : Heap} (I : ExcIs e (.ref C) h) : PySem.W.Looks M h (typeOf (.ref e)) (.ref C) := by
  obtain ⟨o, vs, ho, hc, _⟩ := I
  exact hc ▸ (PySem.W.Looks.ld ho).andThen .now
variable {prog : Program} {w : World} {A : Around} {E : Value → Shared → Prop} {s : Shared}
open PySem.W Builtin Builtin.ObjectAttr Builtin.Getset_descriptor in
theorem exc_class_get {R : Result → Shared → Prop} {tp : Value} (X : K.In s.heap) (I : ExcIs e (.ref C) s.heap) (hm : mroIn K C (.type "object") = some true)
    (h : R (.ok (.ret (.ref C))) s) : codeAny (model prog w) A (.call (.builtin "getset_descriptor.__get__") ⟨[.builtin "object.__class__", .ref e, tp], []⟩) R s := by
  obtain ⟨hh, g, dr, t, os⟩ := s
  have L0 := I.type (M := model prog w)
  have L1 := looks_mroIn (M := model prog w) X hm
  refine codeAny_call_builtin KF.slot_gs.plain KF.entry_gs (KF.slot_gs.check _ _ _ _ _ _ _ _ KF.type_class (KF.args_gs _ _ _) ?_)
  unfold Builtin.«getset_descriptor.__get__» descrGet
  rw [dga_obj]
  refine wpAny_bind (wpAny_pure ?_)
  unfold descrGetter descrCheckInstance descrNameAndClass isInstance
  simp only [KF.owner_class]
  repeat lk
  refine ⟨Code.quiet_builtin _ (by decide +kernel), codeAny_builtin KF.entry_class ?_⟩
  unfold Builtin.«object.__class__» shownTypeOf
  repeat lk
  exact h
open PySem.W Builtin Builtin.ObjectAttr in
theorem exc_class_entry {tk : Tok} {Q : Fin → Shared → Prop} (X : K.In s.heap) (Z : ExcKit K C) (I : ExcIs e (.ref C) s.heap) (h : Q (.done (.ret (.ref C))) s) :
    wpAny (model prog w) A (Builtin.«object.__getattribute__» ⟨[.ref e, .str "__class__" tk], []⟩) Q E s := by
  have L0 := I.type (M := model prog w)
  have Lf : Looks (model prog w) s.heap (find (.ref e) (.ref C) "__class__") (.bind (.builtin "getset_descriptor.__get__") (.builtin "object.__class__")) :=
    (looks_findIn X Z.ha).andThen ((show Looks (model prog w) s.heap (getOf (some (.builtin "object.__class__"))) _ from looks_specialIn X Z.hn).andThen
      ((show Looks (model prog w) s.heap (dataDescriptor? (some (.builtin "object.__class__")) (some (.builtin "getset_descriptor.__get__"))) (some (.builtin "getset_descriptor.__get__", .builtin "object.__class__")) from (looks_takesIn X Z.ht).andThen .now).andThen (Looks.tag .now)))
  unfold Builtin.«object.__getattribute__»
  refine wpAny_bind (wpAny_pure ?_)
  refine wpAny_bind (wpAny_pure ?_)
  refine wpAny_bind (L0.at (wpAny_bind (Lf.at ?_)))
  show wpAny _ _ (bindTo _ _ _ _) _ _ _
  unfold bindTo
  refine wpAny_bind (wpAny_holding (wpAny_call (exc_class_get X I Z.hm ?_)))
  exact wpAny_pure h
open PySem.W in
theorem exc_check {nameV : Value} {Q : Unit → Shared → Prop} (X : K.In s.heap) (Z : ExcKit K C) (I : ExcIs e (.ref C) s.heap) (hq : Q () s) : wpAny (model prog w) A (checkBuiltinCall "BaseException.__getattribute__" ⟨[.ref e, nameV], []⟩) Q E s := by
  have hk : builtinKind "BaseException.__getattribute__" = some .slot := by decide +kernel
  have hsplit : splitId "BaseException.__getattribute__" = some ("BaseException", "__getattribute__") := by decide +kernel
  have ha := PySem.F.args_bexc_ga (.ref e) nameV
  have LI : Looks (model prog w) s.heap (isInstance (.ref e) (.type "BaseException")) true := I.type.andThen (looks_mroIn X Z.hB)
  obtain ⟨hh, g, d, t, os⟩ := s
  simp only [checkBuiltinCall, hk, hsplit]
  refine wpAny_bind (LI.at ?_)
  repeat (first | wp_step)
  exact hq
end
end L2

/-! EXT 16: isinstance of an exception, as a rule; the classes of the package; count and index of a list of truths. -/
namespace L2
open PySem PySem.Spec PyProof.Rows
section
variable {K : PySem.W.Frag} {C e : Addr} {prog : Program} {w : World} {A : Around} {E : Value → Shared → Prop} {s : Shared}
open PySem.W Builtin Builtin.ObjectAttr in
theorem exc_class_attr {Q : Option Value → Shared → Prop} (X : K.In s.heap) (Z : ExcKit K C) (I : ExcIs e (.ref C) s.heap) (h : Q (some (.ref C)) { s with toks := s.toks + 1 }) : wpAny (model prog w) A (getAttr? (.ref e) "__class__") Q E s := by
  have f3 := PySem.F.excAttr_ValueError.ga.bind (.ref e)
  have hx2 : (Value.builtin "BaseException.__getattribute__" == Value.builtin "object.__getattribute__") = false := by decide +kernel
  have hx1 : (onTheHeap (Value.ref C) && Value.builtin "BaseException.__getattribute__" == Value.builtin "object.__getattribute__") = false := by rw [hx2]; rfl
  have L0 := I.type (M := model prog w)
  have L1 := looks_findIn (M := model prog w) X Z.hga
  have L2 := looks_findIn (M := model prog w) X Z.hgt
  obtain ⟨hh, g, d, t, os⟩ := s
  unfold getAttr? getAttrBy? getAttrBy
  refine wpAny_bind (wpAny_mkText (wpAny_bind (wpAny_attempt (wpAny_holding (wpAny_bind (L0.at (wpAny_bind (L1.at ?_))))))))
  dsimp only
  rw [hx1]
  rw [if_neg Bool.false_ne_true]
  unfold getAttrByItsOwn hookBefore
  refine wpAny_bind ?_
  rw [if_pos (show onTheHeap (Value.ref C) = true from rfl)]
  refine L2.at ?_
  refine wpAny_bind (wpAny_attempt (wpAny_holding ?_))
  unfold callGetattribute
  rw [if_neg (by decide)]
  unfold boundAndCalled
  rw [f3]
  refine wpAny_bind (wpAny_pure ?_)
  refine wpAny_call (codeAny_call_builtin PySem.F.excAttr_ValueError.ga.plain PySem.F.entry_bexc_ga (exc_check (s := ⟨hh, g, d, t + 1, os⟩) X Z I (exc_class_entry (s := ⟨hh, g, d, t + 1, os⟩) X Z I ?_)))
  exact wpAny_pure (wpAny_pure h)
open PySem.W in
theorem kitx_exc (Z : ExcKit K C) : KitX K (.ref e) (.ref C) (ExcIs e (.ref C)) where
  ty := fun _ _ _ I => I.type
  it := fun _ _ X _ => by
    obtain ⟨cdD, hcD⟩ := Option.isSome_iff_exists.mp Z.hc
    unfold clsIn at hcD
    split at hcD
    · rename_i c' d' cd' sl' ho
      intro A' Q' E' s' k q
      unfold isType loadHead
      exact wpAny_bind (wpAny_loadPart (k _ _ (X _ _ ho)) (wpAny_pure q))
    · cases hcD
  ne := fun h tp dd its n sl X htp => by
    obtain ⟨cdD, hcD⟩ := Option.isSome_iff_exists.mp Z.hc
    refine Bool.eq_false_iff.mpr fun q => ?_
    have e : C = tp := Value.ref.inj (beq_iff_eq.mp q)
    subst e
    unfold clsIn at hcD
    split at hcD
    · rename_i c' d' cd' sl' ho
      have z := (X _ _ ho).symm.trans htp
      cases z
    · cases hcD
  ca := fun X I k => exc_class_attr X Z I k
end
/-- isinstance(e, c), e an exception in hand -/
def rIsiX (K : PySem.W.Frag) : List V → Hp → VK → Prop := fun xs H Q => ∃ e C y c b, xs = [.ref e, y] ∧ (∀ u, RelV y u → u = c) ∧ H e = some (.ext (ExcIs e (.ref C))) ∧ ExcKit K C ∧ PySem.W.kitOne K (.ref C) c = some b ∧ Q (.bl b) H
theorem call_isiX {X : Cx} : CallR X (.builtin "isinstance") (rIsiX X.K) := by
  intro pins s σ H xs us Q I r h
  obtain ⟨e, C, y, c, b, rfl, hy, hH, Z, hk, q⟩ := h
  obtain ⟨u, c', rfl, rx, rc⟩ := r.two
  cases hy _ rc
  cases (show u = Value.ref e from rx)
  exact PySem.W.kia_one (kitx_exc Z) I.kIn (I.hok e _ hH).1 hk (fun z => nomatch z) fun tk => ⟨.bl b, H, I.tok _, rfl, q⟩
/-! ### the classes of the package -/
/-- what is to be read of an exception class C below D -/
def potOk1 (K : PySem.W.Frag) (D C : Addr) : Bool :=
  PySem.W.excIn K C veMro "ValueError.__new__" && ((PySem.W.clsIn K C).any (fun cd => cd.mro == .ref C :: .ref D :: veMro) && (PySem.W.typeIn K (.ref C) == some (.type "type") &&
    (PySem.W.findIn K (.ref C) "__class__" == some (some (.builtin "object.__class__")) && (PySem.W.findIn K (.ref C) "__getattribute__" == some (some (.builtin "BaseException.__getattribute__")) && PySem.W.findIn K (.ref C) "__getattr__" == some none))))
def potOk (K : PySem.W.Frag) (D : Addr) (Cs : List Addr) : Bool :=
  PySem.W.specialIn K (.builtin "object.__class__") "__get__" == some (some (.builtin "getset_descriptor.__get__")) && (PySem.W.takesIn K (.builtin "object.__class__") == some true && (PySem.W.excIn K D veMro "ValueError.__new__" && Cs.all (potOk1 K D)))
def potNames : List Str := ["NoWares", "NoPlan", "NoSet", "NoMost", "NoAnswers", "NoFit", "NotTold", "NoNote"]
structure Pots (K : PySem.W.Frag) (mg : Str → Option Value) (D : Addr) (Cs : List Addr) : Prop where
  top : mg "PotError" = some (.ref D)
  nm : Paired (fun (x : Str) (C : Addr) => mg x = some (.ref C)) potNames Cs
  ok : potOk K D Cs = true
  nd : (D :: Cs).Nodup
section
variable {K : PySem.W.Frag} {mg : Str → Option Value} {D : Addr} {Cs : List Addr}
theorem Pots.exD (Z : Pots K mg D Cs) : PySem.W.excIn K D veMro "ValueError.__new__" = true := by
  have h := Z.ok
  unfold potOk at h
  simp only [Bool.and_eq_true] at h
  exact h.2.2.1
theorem Pots.one (Z : Pots K mg D Cs) {C : Addr} (hC : C ∈ Cs) : potOk1 K D C = true := by
  have h := Z.ok
  unfold potOk at h
  simp only [Bool.and_eq_true, List.all_eq_true] at h
  exact h.2.2.2 C hC
theorem Pots.exC (Z : Pots K mg D Cs) {C : Addr} (hC : C ∈ Cs) : PySem.W.excIn K C veMro "ValueError.__new__" = true := by
  have h := Z.one hC
  unfold potOk1 at h
  simp only [Bool.and_eq_true] at h
  exact h.1
theorem Pots.mro (Z : Pots K mg D Cs) {C : Addr} (hC : C ∈ Cs) : ∃ cd, PySem.W.clsIn K C = some cd ∧ cd.mro = .ref C :: .ref D :: veMro := by
  have h := Z.one hC
  unfold potOk1 at h
  simp only [Bool.and_eq_true] at h
  have h := h.2.1
  cases z : PySem.W.clsIn K C with
  | none => rw [z] at h; cases h
  | some cd =>
    rw [z] at h
    exact ⟨cd, rfl, beq_iff_eq.mp h⟩
theorem Pots.mroIn (Z : Pots K mg D Cs) {C : Addr} (hC : C ∈ Cs) (v : Value) : PySem.W.mroIn K C v = some ((Value.ref C :: .ref D :: veMro).contains v) := by
  obtain ⟨cd, e, m⟩ := Z.mro hC
  unfold PySem.W.mroIn
  rw [e, Option.bind_some, m]
  rfl
theorem Pots.kit (Z : Pots K mg D Cs) {C : Addr} (hC : C ∈ Cs) : ExcKit K C := by
  have h := Z.one hC
  have h0 := Z.ok
  obtain ⟨cd, e, m⟩ := Z.mro hC
  unfold potOk1 at h
  unfold potOk at h0
  simp only [Bool.and_eq_true, beq_iff_eq] at h h0
  obtain ⟨_, _, _, h4, h5, h6⟩ := h
  exact ⟨h4, h0.1, h0.2.1, by rw [Z.mroIn hC]; rfl, by rw [Z.mroIn hC]; rfl, h5, h6, by rw [e]; rfl⟩
theorem Pots.caught (Z : Pots K mg D Cs) {Ex : XK} (h : ∀ C H, Ex C none H → ∃ Ca, C = .ref Ca ∧ Ca ∈ Cs) : Caught K D Ex := fun C H q => by
  obtain ⟨Ca, rfl, hm⟩ := h C H q
  refine ⟨Ca, rfl, Z.exC hm, ?_⟩
  rw [Z.mroIn hm]
  simp
/-- isinstance against a class of the package -/
theorem Pots.isC (Z : Pots K mg D Cs) {C C' : Addr} (hC : C ∈ Cs) (hC' : C' ∈ Cs) : PySem.W.kitOne K (.ref C) (.ref C') = some (decide (C = C')) := by
  unfold PySem.W.kitOne
  by_cases q : C = C'
  · subst q
    rw [if_pos (by simp), decide_eq_true rfl]
  · rw [if_neg (fun z => q (Value.ref.inj (beq_iff_eq.mp z))), decide_eq_false q]
    have h := Z.one hC'
    unfold potOk1 at h
    simp only [Bool.and_eq_true] at h
    obtain ⟨cd, e, _⟩ := Z.mro hC'
    show (if ((PySem.W.clsIn K C').isSome && PySem.W.typeIn K (.ref C') == some (.type "type")) = true then PySem.W.subIn K (.ref C) (.ref C') else none) = some false
    rw [if_pos (by rw [h.2.2.1, e]; rfl)]
    show PySem.W.mroIn K C (.ref C') = _
    rw [Z.mroIn hC]
    have n2 : C' ≠ D := fun z => by
      have := Z.nd
      rw [List.nodup_cons] at this
      exact this.1 (z ▸ hC')
    have n1 : C' ≠ C := fun z => q z.symm
    simp [List.contains_cons, n1, n2]
/-- isinstance against ValueError -/
theorem Pots.isV (Z : Pots K mg D Cs) {C : Addr} (hC : C ∈ Cs) : PySem.W.kitOne K (.ref C) (.type "ValueError") = some true := by
  unfold PySem.W.kitOne
  rw [if_neg (fun z => by cases beq_iff_eq.mp z)]
  show (if PySem.W.kitMeta "ValueError" = true then PySem.W.mroIn K C (.type "ValueError") else none) = some true
  rw [if_pos (by decide +kernel), Z.mroIn hC]
  simp [List.contains_cons]
end
/-! ### count and index -/
def rCount : V → List V → Hp → VK → Prop := fun x vs H Q => ∃ (l : Addr) (bs : List Bool) (b : Bool), x = .ref l ∧ vs = [.bl b] ∧ H l = some (.lst (bs.map V.bl)) ∧ Q (.int ((bs.countP (· == b) : Nat) : Int)) H
theorem bools_are : ∀ {bs : List Bool} {us : List Value}, Vals (bs.map V.bl) us → us = bs.map Value.bool
  | [], _, .nil => rfl
  | b :: bs, _, .cons r t => by
    rw [bools_are t]
    cases (show _ = Value.bool b from r)
    rfl
theorem mt_count {X : Cx} : MtM X "list.count" rCount := by
  intro pins s σ H x vs v us Q I rx rv h
  obtain ⟨l, bs, b, rfl, rfl, hH, q⟩ := h
  cases rx
  obtain ⟨u, rfl, ru⟩ := rv.one
  cases (show u = Value.bool b from ru)
  obtain ⟨z, its, n, r, hl, e⟩ := I.lstM hH
  cases bools_are r
  refine call_meets PySem.F.slot_list_count ⟨_, e, rfl⟩ PySem.F.entry_list_count (PySem.F.args_list_count_2 _ _) (PySem.SeqAt.list_countAt l _ n none #[] (.bool b) (isBoolOf b)) ⟨e, fun y hy => ?_, ?_⟩
  · obtain ⟨c, _, rfl⟩ := List.mem_map.mp (List.mem_toArray.mp hy)
    exact PySem.SeqAt.EqAt.bool_bool c b
  · refine ⟨.int _, H, I.tok _, ⟨_, rfl⟩, ?_⟩
    have hc : ((bs.map Value.bool).toArray.toList.countP (isBoolOf b)) = bs.countP (· == b) := by
      show (bs.map Value.bool).countP (isBoolOf b) = _
      rw [List.countP_map]
      rfl
    rw [hc]
    exact q
def rIndex : V → List V → Hp → VK → Prop := fun x vs H Q => ∃ (l : Addr) (bs : List Bool) (b : Bool) (j : Nat), x = .ref l ∧ vs = [.bl b] ∧ H l = some (.lst (bs.map V.bl)) ∧ bs[j]? = some b ∧ (∀ m, m < j → bs[m]? ≠ some b) ∧ j < 1000 ∧ Q (.int (j : Int)) H
theorem mt_index {X : Cx} : MtM X "list.index" rIndex := by
  intro pins s σ H x vs v us Q I rx rv h
  obtain ⟨l, bs, b, j, rfl, rfl, hH, hj, hm, hsm, q⟩ := h
  cases rx
  obtain ⟨u, rfl, ru⟩ := rv.one
  cases (show u = Value.bool b from ru)
  obtain ⟨z, its, n, r, hl, e⟩ := I.lstM hH
  cases bools_are r
  obtain ⟨hj1, hj2⟩ := List.getElem?_eq_some_iff.mp hj
  refine call_meets PySem.F.slot_list_index ⟨_, e, rfl⟩ PySem.F.entry_list_index (PySem.F.args_list_index_2 _ _) (PySem.SeqAt.list_indexAt l _ n none #[] (.bool b) (isBoolOf b) j (by simpa using hj1) (by omega) ?_ ?_) ⟨e, fun y hy => ?_, ?_⟩
  · simp [isBoolOf, hj2]
  · intro k hk hlt
    have hk' : k < bs.length := by simpa using hk
    have := hm k hlt
    rw [List.getElem?_eq_getElem hk'] at this
    simp only [List.getElem_toArray, List.getElem_map, isBoolOf]
    exact beq_eq_false_iff_ne.mpr fun w => this (congrArg some w)
  · obtain ⟨c, _, rfl⟩ := List.mem_map.mp (List.mem_toArray.mp hy)
    exact PySem.SeqAt.EqAt.bool_bool c b
  · exact ⟨.int _, H, I.tok _, ⟨_, rfl⟩, q⟩
section
variable {K : PySem.W.Frag} {mg : Str → Option Value} {D c0 c1 c2 c3 c4 c5 c6 c7 : Addr}
abbrev Pots8 (K : PySem.W.Frag) (mg : Str → Option Value) (D c0 c1 c2 c3 c4 c5 c6 c7 : Addr) : Prop := Pots K mg D [c0, c1, c2, c3, c4, c5, c6, c7]
theorem Pots.all (Z : Pots8 K mg D c0 c1 c2 c3 c4 c5 c6 c7) : mg "NoWares" = some (.ref c0) ∧ mg "NoPlan" = some (.ref c1) ∧ mg "NoSet" = some (.ref c2) ∧ mg "NoMost" = some (.ref c3) ∧
    mg "NoAnswers" = some (.ref c4) ∧ mg "NoFit" = some (.ref c5) ∧ mg "NotTold" = some (.ref c6) ∧ mg "NoNote" = some (.ref c7) := by
  have h := Z.nm
  unfold potNames at h
  cases h with | cons h0 h => cases h with | cons h1 h => cases h with | cons h2 h => cases h with | cons h3 h => cases h with | cons h4 h => cases h with | cons h5 h => cases h with | cons h6 h => cases h with | cons h7 h =>
    exact ⟨h0, h1, h2, h3, h4, h5, h6, h7⟩
end
/-- one of a list without repetition, marked -/
theorem marks_count : ∀ {cs : List Addr} {c : Addr}, cs.Nodup → c ∈ cs → (cs.map fun x => decide (c = x)).countP (· == true) = 1
  | [], _, _, h => nomatch h
  | x :: cs, c, nd, h => by
    rw [List.nodup_cons] at nd
    rw [List.map_cons, List.countP_cons]
    by_cases q : c = x
    · subst q
      have z : (cs.map fun x => decide (c = x)).countP (· == true) = 0 := by
        rw [List.countP_eq_zero]
        intro b hb
        obtain ⟨y, hy, rfl⟩ := List.mem_map.mp hb
        intro w
        have : c = y := of_decide_eq_true (beq_iff_eq.mp w)
        exact nd.1 (this ▸ hy)
      rw [z, decide_eq_true rfl]
      rfl
    · rw [marks_count nd.2 ((List.mem_cons.mp h).resolve_left q), decide_eq_false q]
      rfl
theorem marks_at {cs : List Addr} {c : Addr} {j : Nat} (h : cs[j]? = some c) : (cs.map fun x => decide (c = x))[j]? = some true := by
  rw [List.getElem?_map, h]
  simp
theorem marks_not {cs : List Addr} {c : Addr} {j : Nat} (nd : cs.Nodup) (h : cs[j]? = some c) : ∀ m, m < j → (cs.map fun x => decide (c = x))[m]? ≠ some true := by
  intro m hm z
  rw [List.getElem?_map] at z
  cases e : cs[m]? with
  | none => rw [e] at z; cases z
  | some x =>
    rw [e] at z
    have q : c = x := of_decide_eq_true (Option.some.inj z)
    subst q
    have := (List.getElem?_inj (List.getElem?_eq_some_iff.mp e).1 nd).mp (e.trans h.symm)
    omega
end L2

/-! EXT 17: small things for the laws with refusals. -/
namespace L2
open PySem PySem.Spec PyProof.Rows
end L2

/-! EXT 19: a list without one of its items: v[:p] + v[p + 1:]. -/
namespace L2
open PySem PySem.Spec PyProof.Rows
theorem pe_imp {X : Cx} {e : Expr} {t t' : TE} (h : PE X e t) (imp : ∀ σ H Q, t' σ H Q → t σ H Q) : PE X e t' := fun pins s σ H Q I q => h pins s σ H Q I (imp σ H Q q)
theorem cutV_take (xs : List V) (k : Nat) (h : k ≤ xs.length) : cutV xs none (some (k : Int)) = xs.take k := by
  unfold cutV
  rw [HT.sIx_none, HT.sIx_nat, Nat.min_eq_left h, List.drop_zero, Nat.sub_zero]
theorem cutV_drop (xs : List V) (k : Nat) (h : k ≤ xs.length) : cutV xs (some (k : Int)) none = xs.drop k := by
  unfold cutV
  rw [HT.sIx_none, HT.sIx_nat, Nat.min_eq_left h]
  refine List.take_of_length_le ?_
  rw [List.length_drop]
  omega
end L2

/-! EXT 20: slices of texts. -/
namespace Mix
open PySem
theorem range_pick (l : List Nat) : ∀ k, (List.range k).filterMap (fun i => l[i]?) = l.take k
  | 0 => by simp
  | k + 1 => by
    rw [List.range_succ, List.filterMap_append, range_pick l k, List.take_add_one]
    cases e : l[k]? with
    | none => simp [e]
    | some x => simp [e]
theorem ix_upto {k n : Nat} (h : k ≤ n) : PySem.Builtin.Str.strSliceIndices none (some (k : Int)) 1 n = List.range k := by
  unfold PySem.Builtin.Str.strSliceIndices sliceRange
  have e1 : (if (k : Int) < 0 then (k : Int) + (n : Int) else (k : Int)) = (k : Int) := if_neg (by omega)
  have e2 : max 0 (min (k : Int) (n : Int)) = (k : Int) := by omega
  simp only [show (1 : Int) > 0 by decide, if_true, e1, e2]
  have e3 : (if (0 : Int) < (k : Int) then ((k : Int) - 0 + 1 - 1) / 1 else 0).toNat = k := by split <;> omega
  rw [e3]
  refine (List.map_congr_left fun j _ => ?_).trans (List.map_id _)
  show (0 + 1 * (j : Int)).toNat = j
  omega
theorem ix_from {k n : Nat} (h : k ≤ n) : PySem.Builtin.Str.strSliceIndices (some (k : Int)) none 1 n = (List.range (n - k)).map (k + ·) := by
  unfold PySem.Builtin.Str.strSliceIndices sliceRange
  have e1 : (if (k : Int) < 0 then (k : Int) + (n : Int) else (k : Int)) = (k : Int) := if_neg (by omega)
  have e2 : max 0 (min (k : Int) (n : Int)) = (k : Int) := by omega
  simp only [show (1 : Int) > 0 by decide, if_true, e1, e2]
  have e3 : (if (k : Int) < (n : Int) then ((n : Int) - (k : Int) + 1 - 1) / 1 else 0).toNat = n - k := by split <;> omega
  rw [e3]
  refine List.map_congr_left fun j _ => ?_
  show ((k : Int) + 1 * (j : Int)).toNat = k + j
  omega
theorem slice_upto {l : List Nat} {k : Nat} (h : k ≤ l.length) : PySem.Txt.slice (st l) none (some (k : Int)) = st (l.take k) := by
  unfold PySem.Txt.slice
  rw [st_len, ix_upto h, List.length_range]
  by_cases e : k = l.length
  · rw [if_pos (by simp [e]), e, List.take_length]
  · rw [if_neg (by simp [e])]
    have : (fun i : Nat => (st l).cps[i]?) = fun i : Nat => l[i]? := by funext i; unfold st; simp
    rw [this, range_pick]
    rfl
theorem slice_from {l : List Nat} {k : Nat} (h : k ≤ l.length) : PySem.Txt.slice (st l) (some (k : Int)) none = st (l.drop k) := by
  unfold PySem.Txt.slice
  rw [st_len, ix_from h, List.length_map, List.length_range]
  by_cases e : k = 0
  · subst e
    rw [if_pos (by simp), List.drop_zero]
  · rw [if_neg (by simp; omega), List.filterMap_map]
    have : ((fun i : Nat => (st l).cps[i]?) ∘ fun x : Nat => k + x) = fun i : Nat => (l.drop k)[i]? := by
      funext i
      unfold st
      simp [List.getElem?_drop]
    rw [this, range_pick, List.take_of_length_le (by rw [List.length_drop]; omega)]
    rfl
end Mix
namespace L2
open PySem PySem.Spec PyProof.Rows
section
variable {X : Cx}
def rSlS : V → Option Int → Option Int → Hp → VK → Prop := fun x lo hi H Q => ∃ z, x = .str z ∧ z.length ≤ sizeLine ∧ Q (.str (Txt.slice z lo hi)) H
theorem isPart_of {v : Value} {o : Option Int} (h : IsPart v o) : ∃ q : Option (Int × Tok), v = partValue q ∧ q.map (·.1) = o := by
  cases h with
  | none => exact ⟨none, rfl, rfl⟩
  | int i t => exact ⟨some (i, t), rfl, rfl⟩
theorem sl_str : SlR X rSlS := by
  intro pins s σ H x v vl vu lo hi sl Q I rx hs pl pu h
  obtain ⟨z, rfl, hz, q⟩ := h
  obtain ⟨t, rfl⟩ := rx
  obtain ⟨l, rfl, rfl⟩ := isPart_of pl
  obtain ⟨u, rfl, rfl⟩ := isPart_of pu
  refine ⟨"str", _, PySem.F.slot_str_getitem.lookup, PySem.typeIs_str _ _ _, wpAny_getItem_str_slice (l := l) (u := u) (st := none) hs rfl (post_val_or_str ⟨Nat.le_trans (Txt.slice_le z _ _) hz, fun t' k => ?_⟩)⟩
  exact ⟨.str _, H, I.tok k, ⟨t', rfl⟩, q⟩
end
end L2

/-! MATH 7: texts that are no plan's. -/
namespace Mix
open PySem
theorem isSet_false_of {n : Nat} {l : List Int} {x : Int} (hx : x ∈ l) (h : x < 0 ∨ (n : Int) ≤ x) : isSet n l = false := by
  cases e : isSet n l with
  | false => rfl
  | true =>
    have := isSet_mem e x hx
    omega
theorem isSetFrom_twice : ∀ {w b y : Int} {l : List Int}, isSetFrom w b (l ++ [y, y]) = false
  | w, b, y, [] => by
    rw [List.nil_append, isSetFrom_cons]
    split
    · rfl
    · rw [isSetFrom_cons, if_pos (.inl (Int.le_refl _))]
  | w, b, y, x :: r => by
    rw [List.cons_append, isSetFrom_cons]
    split
    · rfl
    · exact isSetFrom_twice
theorem joinL_ne {c : Nat} : ∀ {ws : List (List Nat)}, ws ≠ [] → ws ≠ [[]] → joinL c ws ≠ []
  | [], h, _ => absurd rfl h
  | [a], _, h => fun z => h (by rw [show a = [] from z])
  | a :: b :: r, _, _ => by
    show a ++ c :: joinL c (b :: r) ≠ []
    simp
/-- words that make no plan's text -/
structure BadW (n : Nat) (ws : List (List Nat)) : Prop where
  ne : ws ≠ []
  code : ∀ a ∈ ws, ∀ c ∈ a, c < 128 ∧ c ≠ 32
  len : ws.length ≤ 13
  each : ∀ a ∈ ws, a.length ≤ 20
  some : joinL 32 ws ≠ []
  bad : isPlan n (ws.map rd) = false
theorem BadW.cut {n : Nat} {ws : List (List Nat)} (h : BadW n ws) : cutL 32 (joinL 32 ws) = ws :=
  join_uniq (cutL_ne _ _) h.ne (cut_free _ _) (fun a ha z => (h.code a ha 32 z).2 rfl) (join_cut 32 _)
/-- a text that is no plan's -/
structure BadT (n : Nat) (l : List Nat) : Prop where
  ne : l ≠ []
  code : ∀ c ∈ l, c < 128
  len : l.length ≤ 800
  bad : isPlan n (readOf l) = false
theorem BadW.text {n : Nat} {ws : List (List Nat)} (h : BadW n ws) : BadT n (joinL 32 ws) where
  ne := h.some
  code := fun c hc => by
    rcases joinL_mem hc with z | ⟨a, ha, hx⟩
    · omega
    · exact (h.code a ha c hx).1
  len := by
    have := joinL_len (c := 32) h.each
    have h2 : (20 + 1) * ws.length ≤ 21 * 13 := Nat.mul_le_mul_left _ h.len
    omega
  bad := by
    unfold readOf
    rw [if_neg h.some, h.cut]
    exact h.bad
theorem plan_false {n : Nat} {p : List (List Int)} {m : List Int} (hm : m ∈ p) (h : m = [] ∨ isSet n m = false) : isPlan n p = false := by
  cases e : isPlan n p with
  | false => rfl
  | true =>
    obtain ⟨h1, h2⟩ := (isPlan_iff.mp e).2 m hm
    rcases h with h | h
    · exact absurd h h1
    · rw [h] at h2
      cases h2
theorem plan_words {n : Nat} (hn : n ≤ 8) {q : List (List Int)} (hq : isPlan n q = true) : (∀ a ∈ q.map wr, ∀ c ∈ a, c < 128 ∧ c ≠ 32) ∧ (q.map wr).length ≤ 12 ∧ (∀ a ∈ q.map wr, a.length ≤ 8) ∧ ∀ a ∈ q.map wr, a ≠ [] := by
  obtain ⟨h12, hall⟩ := isPlan_iff.mp hq
  refine ⟨fun a ha c hc => ?_, by rw [List.length_map]; exact h12, fun a ha => ?_, fun a ha => ?_⟩
  · obtain ⟨m, hm, rfl⟩ := List.mem_map.mp ha
    have := wr_mem hn (hall m hm).2 c hc
    omega
  · obtain ⟨m, hm, rfl⟩ := List.mem_map.mp ha
    rw [wr_len]
    exact Nat.le_trans (isSet_len (hall m hm).2) hn
  · obtain ⟨m, hm, rfl⟩ := List.mem_map.mp ha
    unfold wr
    simpa using (hall m hm).1
/-- one word put in the place of another -/
theorem bad_rep {n : Nat} (hn : n ≤ 8) {q : List (List Int)} (hq : isPlan n q = true) {c : Nat} (hc : c < q.length) {a : List Nat} (h1 : ∀ x ∈ a, x < 128 ∧ x ≠ 32) (h2 : a.length ≤ 20) (h3 : a ≠ []) (h4 : isSet n (rd a) = false) :
    BadW n ((q.map wr).take c ++ [a] ++ (q.map wr).drop (c + 1)) := by
  obtain ⟨w1, w2, w3, w4⟩ := plan_words hn hq
  have hmem : ∀ b ∈ (q.map wr).take c ++ [a] ++ (q.map wr).drop (c + 1), b = a ∨ b ∈ q.map wr := fun b hb => by
    rcases List.mem_append.mp hb with hb | hb
    · rcases List.mem_append.mp hb with hb | hb
      · exact .inr (List.mem_of_mem_take hb)
      · exact .inl (List.mem_singleton.mp hb)
    · exact .inr (List.mem_of_mem_drop hb)
  have ha : a ∈ (q.map wr).take c ++ [a] ++ (q.map wr).drop (c + 1) := by simp
  refine ⟨by simp, fun b hb => ?_, ?_, fun b hb => ?_, joinL_ne (by simp) (fun z => ?_), plan_false (m := rd a) (List.mem_map.mpr ⟨a, ha, rfl⟩) (.inr h4)⟩
  · rcases hmem b hb with rfl | hb
    · exact h1
    · exact w1 b hb
  · simp only [List.length_append, List.length_take, List.length_drop, List.length_cons, List.length_nil, List.length_map] at w2 ⊢
    omega
  · rcases hmem b hb with rfl | hb
    · exact h2
    · exact Nat.le_trans (w3 b hb) (by decide)
  · rw [z] at ha
    exact h3 (List.mem_singleton.mp ha)
/-- an empty word put in -/
theorem bad_ins {n : Nat} (hn : n ≤ 8) {q : List (List Int)} (hq : isPlan n q = true) {c : Nat} (hc : c ≤ q.length) (hne : q ≠ []) : BadW n ((q.map wr).take c ++ [[]] ++ (q.map wr).drop c) := by
  obtain ⟨w1, w2, w3, w4⟩ := plan_words hn hq
  have hmem : ∀ b ∈ (q.map wr).take c ++ [[]] ++ (q.map wr).drop c, b = [] ∨ b ∈ q.map wr := fun b hb => by
    rcases List.mem_append.mp hb with hb | hb
    · rcases List.mem_append.mp hb with hb | hb
      · exact .inr (List.mem_of_mem_take hb)
      · exact .inl (List.mem_singleton.mp hb)
    · exact .inr (List.mem_of_mem_drop hb)
  have hlen : ((q.map wr).take c ++ [[]] ++ (q.map wr).drop c).length = q.length + 1 := by
    simp only [List.length_append, List.length_take, List.length_drop, List.length_cons, List.length_nil, List.length_map]
    omega
  have hpos : 0 < q.length := List.length_pos_iff.mpr hne
  refine ⟨by simp, fun b hb => ?_, ?_, fun b hb => ?_, joinL_ne (by simp) (fun z => ?_), plan_false (m := rd []) (List.mem_map.mpr ⟨[], by simp, rfl⟩) (.inl rfl)⟩
  · rcases hmem b hb with rfl | hb
    · exact fun _ z => nomatch z
    · exact w1 b hb
  · rw [List.length_map] at w2
    rw [hlen]
    omega
  · rcases hmem b hb with rfl | hb
    · simp
    · exact Nat.le_trans (w3 b hb) (by decide)
  · have := congrArg List.length z
    rw [hlen] at this
    simp only [List.length_cons, List.length_nil] at this
    omega
theorem bad_many (n : Nat) : BadW n (List.replicate 13 [48]) := by
  refine ⟨by simp, fun a ha c hc => ?_, by simp, fun a ha => ?_, by decide, ?_⟩
  · rw [List.eq_of_mem_replicate ha] at hc
    have := List.mem_singleton.mp hc
    omega
  · rw [List.eq_of_mem_replicate ha]
    simp
  · cases e : isPlan n ((List.replicate 13 [48]).map rd) with
    | false => rfl
    | true =>
      have := (isPlan_iff.mp e).1
      simp at this
theorem rd_app (a b : List Nat) : rd (a ++ b) = rd a ++ rd b := List.map_append
/-- the last sign twice -/
theorem bad_twice {n : Nat} {a : List Nat} {x : Nat} : isSet n (rd (a ++ [x] ++ [x])) = false := by
  rw [List.append_assoc, rd_app]
  exact isSetFrom_twice
theorem bad_sign {n : Nat} {a b : List Nat} {x : Nat} (h : (x : Int) - 48 < 0 ∨ (n : Int) ≤ (x : Int) - 48) : isSet n (rd (a ++ [x] ++ b)) = false :=
  isSet_false_of (x := (x : Int) - 48) (List.mem_map.mpr ⟨x, by simp, rfl⟩) h
theorem bad_ten (n : Nat) : isSet n (rd [49, 48]) = false := by
  show isSetFrom n (-1) [1, 0] = false
  rw [isSetFrom_cons]
  split
  · rfl
  · rw [isSetFrom_cons, if_pos (.inl (by decide))]
/-- texts given whole -/
theorem badT_of {n : Nat} {l : List Nat} (hne : l ≠ []) (hc : ∀ c ∈ l, c < 128) (hl : l.length ≤ 800) (h : ∃ a ∈ cutL 32 l, a = [] ∨ isSet n (rd a) = false) : BadT n l := by
  refine ⟨hne, hc, hl, ?_⟩
  unfold readOf
  rw [if_neg hne]
  obtain ⟨a, ha, h⟩ := h
  exact plan_false (m := rd a) (List.mem_map.mpr ⟨a, ha, rfl⟩) (h.imp (fun z => by rw [z]; rfl) id)
end Mix

/-! EXT 21: v[:p] + [x] + v[p:], v[:p] + [x] + v[p + 1:]. -/
namespace L2
open PySem PySem.Spec PyProof.Rows
/-- x put in at p, d items left out -/
def tPutIn (iv ip d : Nat) (tx : TE) : TE := fun σ H Q => ∃ (D : Addr) (xs : List V) (c : Nat) (x : V), σ[iv]? = some (some (.ref D)) ∧ σ[ip]? = some (some (.int c)) ∧ H D = some (.lst xs) ∧ c + d ≤ xs.length ∧ xs.length ≤ 900 ∧
  (∀ H1, Same H H1 → tx σ H1 fun v H' => v = x ∧ H1 = H') ∧ ∀ W H', Same H H' → H W = none → H' W = some (.lst (xs.take c ++ [x] ++ xs.drop (c + d))) → Q (.ref W) H'
theorem mid0_imp (K : PySem.W.Frag) (iv ip : Nat) (tx : TE) (σ : St) (H : Hp) (Q : VK) (h : tPutIn iv ip 0 tx σ H Q) :
    tOp rCat (tOp rCat (tSl (rSlL K) (tVar iv) tNoPart (tPart (tVar ip))) (tLst (tCons (tCut tx) tNil))) (tSl (rSlL K) (tVar iv) (tPart (tVar ip)) tNoPart) σ H Q := by
  obtain ⟨D, xs, c, x, h1, h2, ex, hc, hl, hx, k⟩ := h
  refine ⟨_, h1, _, h2, _, rfl, D, xs, rfl, SqL.of ex, fun l1 hl1 => ?_⟩
  rw [cutV_take xs c (by omega)]
  have s1 : Same H (upd H l1 (.lst (xs.take c))) := same_upd hl1
  refine ⟨_, hx _ s1, ?_⟩
  rintro v H' ⟨rfl, rfl⟩
  refine ⟨le1000 (by simp), fun l2 hl2 => ?_⟩
  refine ⟨l1, l2, _, _, rfl, rfl, same_upd hl2 _ _ upd_same, upd_same, le1000 (by simp only [List.length_take, List.length_cons, List.length_nil]; omega), fun l3 hl3 => ?_⟩
  have s3 := s1.trans ((same_upd (o := .lst [v]) hl2).trans (same_upd (o := .lst (xs.take c ++ [v])) hl3))
  refine ⟨_, h1, _, h2, _, rfl, D, xs, rfl, SqL.of (s3 _ _ ex), fun l4 hl4 => ?_⟩
  rw [cutV_drop xs c (by omega)]
  refine ⟨l3, l4, _, _, rfl, rfl, same_upd hl4 _ _ upd_same, upd_same, le1000 (by simp only [List.length_append, List.length_take, List.length_drop, List.length_cons, List.length_nil]; omega), fun W hW => ?_⟩
  have s4 := s3.trans (same_upd (o := .lst (xs.drop c)) hl4)
  exact k W _ (s4.trans (same_upd hW)) (s4.free hW) upd_same
theorem mid1_imp (K : PySem.W.Frag) (iv ip : Nat) (tx : TE) (σ : St) (H : Hp) (Q : VK) (h : tPutIn iv ip 1 tx σ H Q) :
    tOp rCat (tOp rCat (tSl (rSlL K) (tVar iv) tNoPart (tPart (tVar ip))) (tLst (tCons (tCut tx) tNil))) (tSl (rSlL K) (tVar iv) (tPart (tOp (rI0 fun i j => .int (i + j)) (tVar ip) (tC (.int 1)))) tNoPart) σ H Q := by
  obtain ⟨D, xs, c, x, h1, h2, ex, hc, hl, hx, k⟩ := h
  refine ⟨_, h1, _, h2, _, rfl, D, xs, rfl, SqL.of ex, fun l1 hl1 => ?_⟩
  rw [cutV_take xs c (by omega)]
  have s1 : Same H (upd H l1 (.lst (xs.take c))) := same_upd hl1
  refine ⟨_, hx _ s1, ?_⟩
  rintro v H' ⟨rfl, rfl⟩
  refine ⟨le1000 (by simp), fun l2 hl2 => ?_⟩
  refine ⟨l1, l2, _, _, rfl, rfl, same_upd hl2 _ _ upd_same, upd_same, le1000 (by simp only [List.length_take, List.length_cons, List.length_nil]; omega), fun l3 hl3 => ?_⟩
  have s3 := s1.trans ((same_upd (o := .lst [v]) hl2).trans (same_upd (o := .lst (xs.take c ++ [v])) hl3))
  refine ⟨_, h1, _, h2, _, _, rfl, rfl, _, rfl, D, xs, rfl, SqL.of (s3 _ _ ex), fun l4 hl4 => ?_⟩
  have e : ((c : Int) + 1) = ((c + 1 : Nat) : Int) := by omega
  rw [e, cutV_drop xs (c + 1) (by omega)]
  refine ⟨l3, l4, _, _, rfl, rfl, same_upd hl4 _ _ upd_same, upd_same, le1000 (by simp only [List.length_append, List.length_take, List.length_drop, List.length_cons, List.length_nil]; omega), fun W hW => ?_⟩
  have s4 := s3.trans (same_upd (o := .lst (xs.drop (c + 1))) hl4)
  exact k W _ (s4.trans (same_upd hW)) (s4.free hW) upd_same
end L2

/-! EXT 22: defs that refuse: promises joined, verdicts. -/
namespace L2
open PySem PySem.Spec PyProof.Rows
/-- a def by its calls alone -/
structure OkY (P : Program) (w : World) (K : PySem.W.Frag) (mg : Str → Option Value) (base : Heap) (x : Str) (k : Nat) (ps : List Str) (sp : Sp) : Prop where
  ex : ∃ f : Addr, mg x = some (.ref f) ∧ PySem.W.keepIn K (.ref f) = true ∧ (∀ vs H Q E, sp vs H Q E → vs.length = ps.length) ∧
    ∀ (A : Around) (outer : List Env) (s : Shared) (H : Hp) (us : List Value) (vs : List V) (Q : VK) (E : XK), Room k A → Env0 P w K mg base A outer s H → Vals vs us → sp vs H Q E → codeAny (model P w) A (.call (.ref f) ⟨us, []⟩) (CR (CX1 P w) outer P w H s Q E) s
section
variable {P : Program} {w : World} {K : PySem.W.Frag} {mg : Str → Option Value} {base : Heap} {x : Str} {k : Nat} {ps : List Str} {sp sp' : Sp}
theorem OkY.imp (O : OkY P w K mg base x k ps sp) (h : ∀ vs H Q E, sp' vs H Q E → sp vs H Q E) : OkY P w K mg base x k ps sp' := by
  obtain ⟨f, m, kp, len, run⟩ := O.ex
  exact ⟨f, m, kp, fun vs H Q E q => len vs H Q E (h _ _ _ _ q), fun A outer s H us vs Q E hr e0 hv hs => run A outer s H us vs Q E hr e0 hv (h _ _ _ _ hs)⟩
end
/-! ### verdicts -/
/-- the first of the checks that fails -/
abbrev fails (okb : Nat → Bool) (cks : List Nat) : Option Nat := cks.find? fun i => !okb i
theorem fails_bad {okb : Nat → Bool} {i : Nat} {l : List Nat} (h : okb i = false) : fails okb (i :: l) = some i := by
  unfold fails
  rw [List.find?_cons, h]
  rfl
theorem fails_ok {okb : Nat → Bool} {i : Nat} {l : List Nat} (h : okb i = true) : fails okb (i :: l) = fails okb l := by
  unfold fails
  rw [List.find?_cons, h]
  rfl
/-- a refusal by the first check that fails -/
def Refuses (cc : Nat → Addr) (okb : Nat → Bool) (cks : List Nat) (H : Hp) (E : XK) : Prop := ∀ i, fails okb cks = some i → ∀ H', Same H H' → E (.ref (cc i)) none H'
theorem Refuses.bad {cc : Nat → Addr} {okb : Nat → Bool} {i : Nat} {l : List Nat} {H : Hp} {E : XK} (h : Refuses cc okb (i :: l) H E) (hb : okb i = false) : E (.ref (cc i)) none H := h i (fails_bad hb) H (Same.refl _)
theorem Refuses.ok {cc : Nat → Addr} {okb : Nat → Bool} {i : Nat} {l : List Nat} {H : Hp} {E : XK} (h : Refuses cc okb (i :: l) H E) (hb : okb i = true) : Refuses cc okb l H E := fun j hj => h j ((fails_ok hb).trans hj)
/-! ### words -/
/-- a list of words -/
def LS (H : Hp) (v : V) (ws : List Str) : Prop := ∃ a, v = .ref a ∧ H a = some (.lst (ws.map V.str))
theorem LS.same {H H' : Hp} {v : V} {ws : List Str} (s : Same H H') (h : LS H v ws) : LS H' v ws := let ⟨a, e, q⟩ := h; ⟨a, e, s _ _ q⟩
theorem Refuses.same {cc : Nat → Addr} {okb : Nat → Bool} {l : List Nat} {H H1 : Hp} {E : XK} (h : Refuses cc okb l H E) (s : Same H H1) : Refuses cc okb l H1 E := fun i hi H' s' => h i hi H' (s.trans s')
end L2

namespace Law
open PySem L2
set_option maxHeartbeats 4000000
def top (i : Nat) : Stmt := PySem.Challenge.pw_mixpots_k14_read.main.body.getD i (.Pass ⟨0, 0, 0, 0⟩)
abbrev s_is_set : Stmt := top 13
abbrev s_is_plan : Stmt := top 14
abbrev s_check_wares : Stmt := top 15
abbrev s_numbers : Stmt := top 17
abbrev s_read : Stmt := top 18
abbrev s__law_cell_at : Stmt := top 20
abbrev s__law_word_of : Stmt := top 21
abbrev s__law_some_by : Stmt := top 22
abbrev s__law_plan_by : Stmt := top 23
abbrev s__law_tried : Stmt := top 24
abbrev s__law_spoilt : Stmt := top 25
abbrev s_law : Stmt := top 26
section
variable {P : Program} {w : World} {K : PySem.W.Frag} {mg : Str → Option Value} {base : Heap} {PD c0 c1 c2 c3 c4 c5 c6 c7 : Addr}
def sp_is_set : Sp := fun vs H Q _ => ∃ (wn : Int) (v : V) (ns : List Int), vs = [.int wn, v] ∧ LI H v ns ∧ Q (.bl (Mix.isSet wn ns)) H
theorem sc_is_set : FnScope ["wares", "members", "before", "ware"] ["wares", "members"] (defScope s_is_set) := ⟨rfl, rfl, rfl, by decide +kernel, rfl, by decide +kernel, by decide +kernel⟩
theorem ok_is_set (D : Def K mg "is_set" s_is_set) : Ok P w K mg base "is_set" 1 ["wares", "members"] sp_is_set := by
  refine D.ok sc_is_set (fun _ _ _ _ _ _ us hl => match us, hl with | [_, _], _ => rfl) (fun vs H Q E h => ?_) (fun f cdv A outer s H vs Q E hr h => ?_)
  · obtain ⟨wn, v, ns, rfl, _⟩ := h
    rfl
  · obtain ⟨wn, v, ns, rfl, ⟨a, rfl, ha⟩, k⟩ := h
    refine ⟨_, pss_cons (ps_set (i := 2) sc_is_set.nd rfl (Or.inl rfl) (pe_un un_neg pe_int))
      (pss_cons (ps_for PassesOwn.never rfl (pi_list (pv 1)) (pg_name (i := 3) sc_is_set.nd rfl (Or.inl rfl))
        (pss_cons (ps_if (pw_or (pt_cmpR op_le (pv 3) (pv 2) (nomark _)) (pw_or1 (pt_cmpR op_ge (pv 3) (pv 0) (nomark _)))).pt (pss_one (ps_ret pe_bl)) pss_nil)
        (pss_one (ps_set (i := 2) sc_is_set.nd rfl (Or.inl rfl) (pv 3)))))
      (pss_one (ps_ret pe_bl))), ?_⟩
    refine ⟨_, rfl, _, rfl, a, rfl, ⟨_, SqL.of ha⟩, for_list (K := K) (a := a) (xs := ns.map V.int) (fun i σ H2 => H2 = H ∧ ∃ (b : Int) (c : Option V), σ = [some (.int wn), some (.ref a), some (.int b), c] ∧ Mix.isSetFrom wn b (ns.drop i) = Mix.isSet wn ns)
      ⟨rfl, -1, none, rfl, rfl⟩ (fun i σ H2 _ ⟨e, _⟩ => e ▸ SqL.of ha) ?_ ?_⟩
    · rintro i y σ H2 hi ⟨rfl, b, c, rfl, hb⟩
      obtain ⟨z, rfl, hz⟩ := map_int_get hi
      have hd : ns.drop i = z :: ns.drop (i + 1) := by
        obtain ⟨h1, h2⟩ := List.getElem?_eq_some_iff.mp hz
        rw [List.drop_eq_getElem_cons h1, h2]
      rw [hd, Mix.isSetFrom_cons] at hb
      refine ⟨_, rfl, _, rfl, _, _, rfl, rfl, _, rfl, ?_⟩
      refine ite2 (fun h1 => ?_) (fun h1 => ?_)
      · refine iteT ?_
        rw [if_pos (.inl (of_decide_eq_true h1))] at hb
        rw [← hb] at k
        exact k
      · have n1 : ¬ z ≤ b := fun q => h1 (decide_eq_true q)
        refine ⟨_, rfl, _, rfl, _, _, rfl, rfl, _, rfl, ?_⟩
        refine ite2 (fun h2 => ?_) (fun h2 => ?_)
        · rw [if_pos (.inr (of_decide_eq_true h2))] at hb
          rw [← hb] at k
          exact k
        · have n2 : ¬ wn ≤ z := fun q => h2 (decide_eq_true q)
          rw [if_neg (fun q => q.elim n1 n2)] at hb
          exact ⟨_, rfl, rfl, z, _, rfl, hb⟩
    · rintro σ H2 ⟨rfl, b, c, rfl, hb⟩
      rw [List.length_map, List.drop_length] at hb
      rw [← hb] at k
      exact k

def sp_is_plan : Sp := fun vs H Q _ => ∃ (wn : Int) (v : V) (p : List (List Int)), vs = [.int wn, v] ∧ LL H v p ∧ Q (.bl (Mix.isPlan wn p)) H
theorem sc_is_plan : FnScope ["wares", "plan", "mixture"] ["wares", "plan"] (defScope s_is_plan) := ⟨rfl, rfl, rfl, by decide +kernel, rfl, by decide +kernel, by decide +kernel⟩
theorem ok_is_plan (D : Def K mg "is_plan" s_is_plan) (O1 : Ok P w K mg base "is_set" 1 ["wares", "members"] sp_is_set) (zlen : mg "len" = none) (tm : Tok) (zm : mg "MIXTURES_LIMIT" = some (.int 12 tm)) : Ok P w K mg base "is_plan" 2 ["wares", "plan"] sp_is_plan := by
  refine D.ok sc_is_plan (fun _ _ _ _ _ _ us hl => match us, hl with | [_, _], _ => rfl) (fun vs H Q E h => ?_) (fun f cdv A outer s H vs Q E hr h => ?_)
  · obtain ⟨wn, v, ns, rfl, _⟩ := h
    rfl
  · obtain ⟨wn, v, p, rfl, ⟨a, xs, rfl, ha, hp⟩, k⟩ := h
    have hlen := hp.length
    refine ⟨_, pss_cons (ps_if (pt_cmpR op_gt (pe_callB call_len_seq (by rfl) zlen PySem.boot_len (pa_cons (pv 1) pa_nil)) (pe_glob (v := .int 12) (by rfl) zm ⟨tm, rfl⟩) (nomark _)) (pss_one (ps_ret pe_bl)) pss_nil)
      (pss_cons (ps_for PassesOwn.never rfl (pi_list (pv 1)) (pg_name (i := 2) sc_is_plan.nd rfl (Or.inl rfl))
        (pss_one (ps_if (pw_or (pt_cmpR op_eq (pe_callB call_len_seq (by rfl) zlen PySem.boot_len (pa_cons (pv 2) pa_nil)) pe_int (nomark _))
          (pw_or1 (pt_not (pt_val (pe_callO O1 hr (pa_cons (pv 0) (pa_cons (pv 2) pa_nil))))))).pt (pss_one (ps_ret pe_bl)) pss_nil)))
      (pss_one (ps_ret pe_bl))), ?_⟩
    refine ⟨_, rfl, a, xs, rfl, .inl (SqL.of ha), _, _, rfl, rfl, _, rfl, ?_⟩
    refine ite2 (fun h1 => ?_) (fun h1 => ?_)
    · have h1 : (12 : Int) < xs.length := of_decide_eq_true h1
      have : Mix.isPlan wn p = false := by
        unfold Mix.isPlan
        rw [decide_eq_false (by omega)]
        rfl
      rw [this] at k
      exact k
    · have h1 : ¬ (12 : Int) < xs.length := fun q => h1 (decide_eq_true q)
      have hle : p.length ≤ 12 := by omega
      have key : Mix.isPlan wn p = p.all (Mix.isMix wn) := by
        unfold Mix.isPlan
        rw [decide_eq_true hle]
        rfl
      rw [key] at k
      refine ⟨_, rfl, a, rfl, ⟨_, SqL.of ha⟩, for_list (K := K) (a := a) (xs := xs) (fun i σ H2 => H2 = H ∧ ∃ c : Option V, σ = [some (.int wn), some (.ref a), c] ∧ (p.drop i).all (Mix.isMix wn) = p.all (Mix.isMix wn))
        ⟨rfl, none, rfl, rfl⟩ (fun i σ H2 _ ⟨e, _⟩ => e ▸ SqL.of ha) ?_ ?_⟩
      · rintro i y σ H2 hi ⟨rfl, c, rfl, hb⟩
        obtain ⟨m, hm, b, rfl, hbm⟩ := Paired.get hp hi
        have hd : p.drop i = m :: p.drop (i + 1) := by
          obtain ⟨h1, h2⟩ := List.getElem?_eq_some_iff.mp hm
          rw [List.drop_eq_getElem_cons h1, h2]
        rw [hd, List.all_cons] at hb
        refine ⟨_, rfl, b, _, rfl, .inl (SqL.of hbm), rfl, _, rfl, ?_⟩
        refine ite2 (fun h2 => ?_) (fun h2 => ?_)
        · have h2 := of_decide_eq_true h2
          have e0 : m = [] := by
            cases m with
            | nil => rfl
            | cons x r => exact absurd (V.int.inj h2) (by simp; omega)
          subst e0
          refine iteT ?_
          rw [show Mix.isMix wn [] = false from rfl, Bool.false_and] at hb
          rw [← hb] at k
          exact k
        · have ne : m.isEmpty = false := by
            cases m with
            | nil => exact absurd (by simp) h2
            | cons x r => rfl
          refine ⟨_, rfl, _, rfl, wn, .ref b, m, rfl, ⟨b, rfl, hbm⟩, _, rfl, ?_⟩
          have em : Mix.isMix wn m = Mix.isSet wn m := by
            unfold Mix.isMix
            rw [ne]
            rfl
          rw [em] at hb
          cases e : Mix.isSet wn m with
          | false =>
            rw [e, Bool.false_and] at hb
            rw [← hb] at k
            exact k
          | true =>
            rw [e, Bool.true_and] at hb
            exact ⟨rfl, _, rfl, hb⟩
      · rintro σ H2 ⟨rfl, c, rfl, hb⟩
        rw [hlen, List.drop_length] at hb
        rw [← hb] at k
        exact k

/-- .. and refuses -/
def spx_check_wares (c : Addr) : Sp := fun vs H Q E => ∃ wn : Int, vs = [.int wn] ∧ (1 ≤ wn → wn ≤ 8 → Q .non H) ∧ (¬ (1 ≤ wn ∧ wn ≤ 8) → E (.ref c) none H)
theorem scx_check_wares : FnScope ["wares"] ["wares"] (defScope s_check_wares) := ⟨rfl, rfl, rfl, by decide +kernel, rfl, by decide +kernel, by decide +kernel⟩
theorem okx_check_wares (D : Def K mg "check_wares" s_check_wares) (Z : Pots8 K mg PD c0 c1 c2 c3 c4 c5 c6 c7) (tw : Tok) (zw : mg "WARES_LIMIT" = some (.int 8 tw)) : OkX P w K mg base "check_wares" 1 ["wares"] (spx_check_wares c0) := by
  refine D.okX scx_check_wares (fun _ _ _ _ _ _ us hl => match us, hl with | [_], _ => rfl) (fun vs H Q E h => ?_) (fun f cdv A outer s H vs Q E hr h => ?_)
  · obtain ⟨wn, rfl, _⟩ := h
    rfl
  · obtain ⟨wn, rfl, k1, k2⟩ := h
    refine ⟨_, pss_one (ps_if (pw_or (pt_cmpR op_lt (pv 0) pe_int (nomark _)) (pw_or1 (pt_cmpR op_gt (pv 0) (pe_glob (v := .int 8) (by rfl) zw ⟨tw, rfl⟩) (nomark _)))).pt
      (pss_one (ps_raise Z.all.1 (Z.exC (by simp)) (pa_cons (pe_join2 pe_str (pe_fv (pe_glob (v := .int 8) (by rfl) zw ⟨tw, rfl⟩) (by decide +kernel)) (by decide +kernel) (by decide +kernel)) pa_nil))) pss_nil), ?_⟩
    refine ⟨_, rfl, _, _, rfl, rfl, _, rfl, ?_⟩
    refine ite2 (fun q => ?_) (fun q => ?_)
    · have := of_decide_eq_true q
      exact fun z => ⟨Nat.le_trans (by simp) (le1000 (Nat.le_refl 1000)), k2 (by omega)⟩
    · have q : ¬ wn < 1 := fun z => q (decide_eq_true z)
      refine ⟨_, rfl, _, _, rfl, rfl, _, rfl, ?_⟩
      refine ite2 (fun q => ?_) (fun q => ?_)
      · have := of_decide_eq_true q
        exact fun z => ⟨Nat.le_trans (by simp) (le1000 (Nat.le_refl 1000)), k2 (by omega)⟩
      · have q : ¬ 8 < wn := fun z => q (decide_eq_true z)
        exact k1 (by omega) (by omega)

def sp_numbers : Sp := fun vs H Q _ => ∃ l : List Nat, vs = [.str (Mix.st l)] ∧ (∀ c ∈ l, c < 128) ∧ l.length ≤ 900 ∧ RetI H Q (Mix.rd l)
abbrev nm_numbers : List Str := ["word"]
theorem sc_numbers : FnScope ["word"] ["word"] (defScope s_numbers) := ⟨rfl, rfl, rfl, by decide +kernel, rfl, by decide +kernel, by decide +kernel⟩
theorem ok_numbers (D : Def K mg "numbers" s_numbers) (zord : mg "ord" = none) : Ok P w K mg base "numbers" 1 ["word"] sp_numbers := by
  refine D.ok sc_numbers (fun _ _ _ _ _ _ us hl => match us, hl with | [_], _ => rfl) (fun vs H Q E h => ?_) (fun f cdv A outer s H vs Q E hr h => ?_)
  · obtain ⟨l, rfl, _⟩ := h
    rfl
  · obtain ⟨l, rfl, hc, h9, k⟩ := h
    refine ⟨_, pss_one (ps_ret (pe_lc ["sign"] [none] rfl (lc_of (defScope s_numbers).names nm_numbers (fun _ => rfl) rfl rfl (by decide +kernel)) (pi_str (pv 0))
        (fun _ _ _ _ _ => pg_lc 0 (by decide +kernel)) (fun _ _ _ _ _ => pif_nil) (fun _ _ _ _ _ => pe_op op_sub (pe_callB call_ord (by rfl) zord bt_ord (pa_cons (pv 0) pa_nil)) (pe_callB call_ord (by rfl) zord bt_ord (pa_cons pe_str pa_nil))))), ?_⟩
    refine ⟨_, rfl, _, rfl, Mix.ascii_st hc, fun d hd => lc_str (fun i σ H2 => (∃ c : Option V, σ = [c]) ∧ H2 = upd H d (.lst ((Mix.rd (l.take i)).map V.int)))
      ⟨⟨none, rfl⟩, rfl⟩ ?_ ?_⟩
    · rintro i c σ H2 hi ⟨⟨c', rfl⟩, rfl⟩
      have hl := Mix.st_get hi
      have hil : i < l.length := (List.getElem?_eq_some_iff.mp hl).1
      refine yesG ?_
      refine ⟨_, rfl, _, rfl, rfl, _, rfl, (by rw [Mix.nought_is]; rfl), _, _, rfl, rfl, _, upd_same, lt1000 (by unfold Mix.rd; rw [List.length_map, List.length_map, List.length_take]; omega), ⟨_, rfl⟩, ?_⟩
      have e : ((PySem.Str.ofString "0").cps.getD 0 0) = 48 := by rw [Mix.nought_is]; rfl
      rw [upd_upd, List.take_add_one, hl]
      unfold Mix.rd
      rw [List.map_append, List.map_append]
      show upd H d (.lst (_ ++ [V.int (((#[c] : Array Nat).getD 0 0 : Nat) - (((PySem.Str.ofString "0").cps.getD 0 0 : Nat) : Int))])) = _
      rw [e]
      rfl
    · rintro σ H2 ⟨⟨c', rfl⟩, rfl⟩
      rw [Mix.st_size, List.take_length]
      exact k d _ hd (same_upd hd) upd_same

/-- what read does with a text: a refusal, or some answer -/
def spx_read (c c' : Addr) : Sp := fun vs H Q E => ∃ (wn : Int) (l : List Nat), vs = [.int wn, .str (Mix.st l)] ∧ (∀ c ∈ l, c < 128) ∧ l.length ≤ 800 ∧ (¬ (1 ≤ wn ∧ wn ≤ 8) → E (.ref c) none H) ∧
  (1 ≤ wn → wn ≤ 8 → Mix.isPlan wn (Mix.readOf l) = false → ∀ H', Same H H' → E (.ref c') none H') ∧ (1 ≤ wn → wn ≤ 8 → Mix.isPlan wn (Mix.readOf l) = true → ∀ v H', Same H H' → Q v H')
abbrev nmx_read : List Str := ["wares", "text", "plan"]
theorem scx_read : FnScope ["wares", "text", "plan"] ["wares", "text"] (defScope s_read) := ⟨rfl, rfl, rfl, by decide +kernel, rfl, by decide +kernel, by decide +kernel⟩
theorem okx_read (D : Def K mg "read" s_read) (Z : Pots8 K mg PD c0 c1 c2 c3 c4 c5 c6 c7) (O1 : OkX P w K mg base "check_wares" 1 ["wares"] (spx_check_wares c0)) (O2 : Ok P w K mg base "numbers" 1 ["word"] sp_numbers) (O3 : Ok P w K mg base "is_plan" 2 ["wares", "plan"] sp_is_plan) :
    OkX P w K mg base "read" 3 ["wares", "text"] (spx_read c0 c7) := by
  refine D.okX scx_read (fun _ _ _ _ _ _ us hl => match us, hl with | [_, _], _ => rfl) (fun vs H Q E h => ?_) (fun f cdv A outer s H vs Q E hr h => ?_)
  · obtain ⟨n, l, rfl, _⟩ := h
    rfl
  · obtain ⟨wn, l, rfl, hc, h8, k0, k1, k2⟩ := h
    have nd := scx_read.nd
    have r1 : Room 1 _ := hr.mono (by decide)
    refine ⟨_, pss_cons (ps_expr (pe_callX O1 r1 pass1 (pa_cons (pv 0) pa_nil)))
      (pss_cons (ps_if (pt_cmpR op_eq (pv 1) pe_str (nomark _)) (pss_one (ps_ret (pe_lst pa_nil))) pss_nil)
      (pss_cons (ps_setLc (i := 2) ["word"] [none] rfl (lc_of (defScope s_read).names nmx_read (fun _ => rfl) rfl rfl (by decide +kernel)) nd rfl (Or.inl rfl) (pi_list (pe_bm PySem.F.plainAttrs_str PySem.F.slot_str_split PySem.F.type_str_split mt_split (pv 1) (pa_cons pe_str pa_nil)))
        (fun _ _ _ _ _ => pg_lc 0 (by decide +kernel)) (fun _ _ _ _ _ => pif_nil) (fun _ _ _ _ _ => pe_callO O2 r1 (pa_cons (pv 0) pa_nil)))
      (pss_cons (ps_if (pt_not (pt_val (pe_callO O3 hr (pa_cons (pv 0) (pa_cons (pv 2) pa_nil))))) (pss_one (ps_raise Z.all.2.2.2.2.2.2.2 (Z.exC (by simp)) (pa_cons pe_str pa_nil))) pss_nil)
      (pss_one (ps_ret (pv 2)))))), ?_⟩
    refine ⟨_, rfl, wn, rfl, fun n1 n8 => ?_, k0⟩
    refine ⟨_, rfl, rfl, _, rfl, ?_⟩
    refine ite2 (fun h => ?_) (fun h => ?_)
    · have h : Mix.st l = PySem.Str.ofString "" := V.str.inj (of_decide_eq_true h)
      rw [Mix.empty_is] at h
      have e := Mix.st_inj h
      subst e
      exact ⟨Nat.zero_le _, fun d hd => k2 n1 n8 rfl _ _ (same_upd hd)⟩
    · have hne : l ≠ [] := fun z => h (decide_eq_true (by rw [z, Mix.empty_is]))
      have er : Mix.readOf l = (Mix.cutL 32 l).map Mix.rd := if_neg hne
      rw [er] at k1 k2
      refine ⟨_, rfl, rfl, _, _, rfl, rfl, (by decide +kernel), by rw [Mix.st_len]; omega, fun S hS => ?_⟩
      have es : PySem.Txt.split (Mix.st l) (PySem.Str.ofString " ") = (Mix.cutL 32 l).map Mix.st := by rw [Mix.blank_is]; exact Mix.split_st 32 l
      rw [es]
      have hcl := Mix.cut_len (c := 32) l
      have s1 : Same H (upd H S (.lst (((Mix.cutL 32 l).map Mix.st).map V.str))) := same_upd hS
      have e1 : upd H S (.lst (((Mix.cutL 32 l).map Mix.st).map V.str)) S = some (.lst (((Mix.cutL 32 l).map Mix.st).map V.str)) := upd_same
      revert s1 e1
      generalize upd H S (.lst (((Mix.cutL 32 l).map Mix.st).map V.str)) = H1
      intro s1 e1
      refine ⟨S, rfl, ⟨_, SqL.of e1⟩, fun d hd => lc_list (K := K) (a := S) (xs := ((Mix.cutL 32 l).map Mix.st).map V.str) (fun i σ H2 => ∃ (c : Option V) (xs : List V), σ = [c] ∧ Same H1 H2 ∧ NwD H H2 d xs (((Mix.cutL 32 l).take i).map Mix.rd))
        ⟨none, [], rfl, same_upd hd, ⟨s1.free hd, upd_same, List.nodup_nil, .nil⟩⟩ (fun i σ H2 _ ⟨_, _, _, s2, _⟩ => SqL.of (s2 _ _ e1)) ?_ ?_⟩
      · rintro i y σ H2 hi ⟨c, xs, rfl, s2, N2⟩
        obtain ⟨a, ha, rfl⟩ : ∃ a, (Mix.cutL 32 l)[i]? = some a ∧ y = V.str (Mix.st a) := by
          rw [List.getElem?_map, List.getElem?_map] at hi
          cases e : (Mix.cutL 32 l)[i]? with
          | none => rw [e] at hi; cases hi
          | some a => rw [e] at hi; exact ⟨a, rfl, (Option.some.inj hi).symm⟩
        have hil : i < (Mix.cutL 32 l).length := (List.getElem?_eq_some_iff.mp ha).1
        have hmem := List.mem_of_getElem? ha
        have hpart := Mix.cut_part hmem
        have hxl := N2.r.length
        rw [List.length_map, List.length_take] at hxl
        refine yesG ?_
        refine ⟨_, rfl, a, rfl, fun x hx => hc x (Mix.cut_mem hmem x hx), by omega, fun b H3 hb s3 e3 => ⟨xs, s3 _ _ N2.e, lt1000 (by omega), _, xs ++ [.ref b], rfl, ?_, ?_⟩⟩
        · exact (s2.trans s3).upd hd
        · rw [List.take_add_one, ha, List.map_append]
          exact N2.snoc s3 hb (s1.trans s2) e3
      rintro σ H2 ⟨c, xs, rfl, s2, N2⟩
      have hl2 : (((Mix.cutL 32 l).map Mix.st).map V.str).length = (Mix.cutL 32 l).length := by rw [List.length_map, List.length_map]
      rw [hl2, List.take_length] at N2
      refine ⟨_, rfl, _, rfl, wn, .ref d, _, rfl, N2.nw.ll, _, rfl, ?_⟩
      cases hp : Mix.isPlan wn ((Mix.cutL 32 l).map Mix.rd) with
      | true =>
        refine iteF ?_
        exact ⟨_, rfl, k2 n1 n8 hp _ _ (s1.trans s2)⟩
      | false =>
        refine iteT ?_
        exact ⟨Nat.le_trans (by simp) (le1000 (Nat.le_refl 1000)), k1 n1 n8 hp _ (s1.trans s2)⟩

def sp__law_cell_at (K : PySem.W.Frag) : Sp := fun vs H Q _ => ∃ (a : Addr) (ns : List Int) (k : Int), vs = [.ref a, .int k] ∧ SqL K H a (ns.map V.int) ∧ 0 ≤ k ∧ Q (.int (Mix.cell ns k)) H
theorem sc__law_cell_at : FnScope ["script", "k"] ["script", "k"] (defScope s__law_cell_at) := ⟨rfl, rfl, rfl, by decide +kernel, rfl, by decide +kernel, by decide +kernel⟩
theorem ok__law_cell_at (D : Def K mg "_law_cell_at" s__law_cell_at) (zlen : mg "len" = none) : Ok P w K mg base "_law_cell_at" 1 ["script", "k"] (sp__law_cell_at K) := by
  refine D.ok sc__law_cell_at (fun _ _ _ _ _ _ us hl => match us, hl with | [_, _], _ => rfl) (fun vs H Q E h => ?_) (fun f cdv A outer s H vs Q E hr h => ?_)
  · obtain ⟨a, ns, k, rfl, _⟩ := h
    rfl
  · obtain ⟨a, ns, k, rfl, hS, hk, q⟩ := h
    refine ⟨_, pss_cons (ps_if (pt_cmpR op_lt (pv 1) (pe_callB call_len_seq (by rfl) zlen PySem.boot_len (pa_cons (pv 0) pa_nil)) (nomark _)) (pss_one (ps_ret (pe_ix ix_list (pv 0) (pv 1) (fun _ _ => rfl)))) pss_nil)
      (pss_one (ps_ret pe_int)), ?_⟩
    refine ⟨_, rfl, _, rfl, a, _, rfl, .inl hS, _, _, rfl, rfl, _, rfl, ?_⟩
    obtain ⟨j, rfl⟩ := Int.eq_ofNat_of_zero_le hk
    refine ite2 (fun h1 => ?_) (fun h1 => ?_)
    · have h1 : (j : Int) < ((ns.map V.int).length : Nat) := of_decide_eq_true h1
      rw [List.length_map] at h1
      have hj : j < ns.length := by omega
      refine ⟨_, rfl, _, rfl, a, _, _, .int (ns[j]), rfl, rfl, hS, atI_nat ?_, ?_⟩
      · rw [List.getElem?_map, List.getElem?_eq_getElem hj]
        rfl
      · have e : Mix.cell ns (j : Int) = ns[j] := by
          unfold Mix.cell
          rw [Int.toNat_natCast, List.getD_eq_getElem?_getD, List.getElem?_eq_getElem hj]
          rfl
        rw [e] at q
        exact q
    · have h1 : ¬ (j : Int) < ((ns.map V.int).length : Nat) := fun z => h1 (decide_eq_true z)
      rw [List.length_map] at h1
      have e : Mix.cell ns (j : Int) = 0 := by
        unfold Mix.cell
        rw [Int.toNat_natCast, List.getD_eq_getElem?_getD, List.getElem?_eq_none (by omega)]
        rfl
      rw [e] at q
      exact q

abbrev lawWords : List Str := ["wares", "plan", "set", "most", "answers", "fit", "told", "note"]
def sp__law_word_of (cs : List Addr) : Sp := fun vs H Q _ => ∃ (e c : Addr) (j : Nat) (x : Str), vs = [.ref e] ∧ H e = some (.ext (ExcIs e (.ref c))) ∧ cs[j]? = some c ∧ lawWords[j]? = some x ∧ ∀ H', Same H H' → Q (.str x) H'
theorem sc__law_word_of : FnScope ["e", "kinds"] ["e"] (defScope s__law_word_of) := ⟨rfl, rfl, rfl, by decide +kernel, rfl, by decide +kernel, by decide +kernel⟩
theorem bt_ValueError : bootBuiltins "ValueError" = some (.type "ValueError") := by decide +kernel
theorem ok__law_word_of (D : Def K mg "_law_word_of" s__law_word_of) (Z : Pots8 K mg PD c0 c1 c2 c3 c4 c5 c6 c7) (zisi : mg "isinstance" = none) (zve : mg "ValueError" = none) :
    OkH P w K mg base "_law_word_of" 1 ["e"] (sp__law_word_of [c0, c1, c2, c3, c4, c5, c6, c7]) := by
  refine D.okH sc__law_word_of (fun _ _ _ _ _ _ us hl => match us, hl with | [_], _ => rfl) (fun vs H Q E h => ?_) (fun f cdv A outer s H vs Q E hr h => ?_)
  · obtain ⟨e, c, j, x, rfl, _⟩ := h
    rfl
  · obtain ⟨e, c, j, x, rfl, he, hj, hx, k⟩ := h
    obtain ⟨m0, m1, m2, m3, m4, m5, m6, m7⟩ := Z.all
    have nd := sc__law_word_of.nd
    have hcm : c ∈ [c0, c1, c2, c3, c4, c5, c6, c7] := List.mem_of_getElem? hj
    have hk := Z.kit hcm
    have hnd : [c0, c1, c2, c3, c4, c5, c6, c7].Nodup := (List.nodup_cons.mp Z.nd).2
    have hj8 : j < 8 := by have := (List.getElem?_eq_some_iff.mp hj).1; exact this
    refine ⟨_, pss_cons (ps_set (i := 1) nd rfl (Or.inl rfl) (pe_lst (pa_cons (pe_callB call_isiX (by rfl) zisi bt_isinstance (pa_cons (pv 0) (pa_cons (pe_glob (v := .ref c0) (by rfl) m0 rfl) pa_nil)))
        (pa_cons (pe_callB call_isiX (by rfl) zisi bt_isinstance (pa_cons (pv 0) (pa_cons (pe_glob (v := .ref c1) (by rfl) m1 rfl) pa_nil)))
        (pa_cons (pe_callB call_isiX (by rfl) zisi bt_isinstance (pa_cons (pv 0) (pa_cons (pe_glob (v := .ref c2) (by rfl) m2 rfl) pa_nil)))
        (pa_cons (pe_callB call_isiX (by rfl) zisi bt_isinstance (pa_cons (pv 0) (pa_cons (pe_glob (v := .ref c3) (by rfl) m3 rfl) pa_nil))) pa_nil))))))
      (pss_cons (ps_set (i := 1) nd rfl (Or.inl rfl) (pe_op op_cat (pv 1) (pe_lst (pa_cons (pe_callB call_isiX (by rfl) zisi bt_isinstance (pa_cons (pv 0) (pa_cons (pe_glob (v := .ref c4) (by rfl) m4 rfl) pa_nil)))
        (pa_cons (pe_callB call_isiX (by rfl) zisi bt_isinstance (pa_cons (pv 0) (pa_cons (pe_glob (v := .ref c5) (by rfl) m5 rfl) pa_nil)))
        (pa_cons (pe_callB call_isiX (by rfl) zisi bt_isinstance (pa_cons (pv 0) (pa_cons (pe_glob (v := .ref c6) (by rfl) m6 rfl) pa_nil)))
        (pa_cons (pe_callB call_isiX (by rfl) zisi bt_isinstance (pa_cons (pv 0) (pa_cons (pe_glob (v := .ref c7) (by rfl) m7 rfl) pa_nil))) pa_nil)))))))
      (pss_cons (ps_if (pw_or (pt_cmpR op_ne (pe_bm PySem.F.plainAttrs_list PySem.F.slot_list_count PySem.F.type_list_count mt_count (pv 1) (pa_cons pe_bl pa_nil)) pe_int (nomark _))
          (pw_or1 (pt_not (pt_val (pe_callB call_isiX (by rfl) zisi bt_isinstance (pa_cons (pv 0) (pa_cons (pe_bltn (v := .ty "ValueError") (by rfl) zve bt_ValueError rfl) pa_nil))))))).pt pss_never pss_nil)
      (pss_one (ps_ret (pe_ix ix_list (pe_lst (pa_cons pe_str (pa_cons pe_str (pa_cons pe_str (pa_cons pe_str (pa_cons pe_str (pa_cons pe_str (pa_cons pe_str (pa_cons pe_str pa_nil)))))))))
        (pe_bm PySem.F.plainAttrs_list PySem.F.slot_list_index PySem.F.type_list_index mt_index (pv 1) (pa_cons pe_bl pa_nil)) (fun _ _ => rfl)))))), ?_⟩
    refine ⟨_, rfl, e, c, _, _, _, rfl, fun _ h => h, he, hk, Z.isC hcm (by simp), ?_⟩
    refine ⟨_, rfl, e, c, _, _, _, rfl, fun _ h => h, he, hk, Z.isC hcm (by simp), ?_⟩
    refine ⟨_, rfl, e, c, _, _, _, rfl, fun _ h => h, he, hk, Z.isC hcm (by simp), ?_⟩
    refine ⟨_, rfl, e, c, _, _, _, rfl, fun _ h => h, he, hk, Z.isC hcm (by simp), ?_⟩
    refine ⟨le1000 (by simp), fun a ha => ?_⟩
    have s1 : Same H (upd H a (.lst [V.bl (decide (c = c0)), V.bl (decide (c = c1)), V.bl (decide (c = c2)), V.bl (decide (c = c3))])) := same_upd ha
    refine ⟨_, rfl, ?_⟩
    refine ⟨_, rfl, e, c, _, _, _, rfl, fun _ h => h, s1 _ _ he, hk, Z.isC hcm (by simp), ?_⟩
    refine ⟨_, rfl, e, c, _, _, _, rfl, fun _ h => h, s1 _ _ he, hk, Z.isC hcm (by simp), ?_⟩
    refine ⟨_, rfl, e, c, _, _, _, rfl, fun _ h => h, s1 _ _ he, hk, Z.isC hcm (by simp), ?_⟩
    refine ⟨_, rfl, e, c, _, _, _, rfl, fun _ h => h, s1 _ _ he, hk, Z.isC hcm (by simp), ?_⟩
    refine ⟨le1000 (by simp), fun b hb => ?_⟩
    have s2 := s1.trans (same_upd (o := .lst [V.bl (decide (c = c4)), V.bl (decide (c = c5)), V.bl (decide (c = c6)), V.bl (decide (c = c7))]) hb)
    refine ⟨a, b, _, _, rfl, rfl, same_upd hb _ _ upd_same, upd_same, le1000 (by simp), fun d hd => ?_⟩
    have s3 := s2.trans (same_upd (o := .lst ([V.bl (decide (c = c0)), V.bl (decide (c = c1)), V.bl (decide (c = c2)), V.bl (decide (c = c3))] ++ [V.bl (decide (c = c4)), V.bl (decide (c = c5)), V.bl (decide (c = c6)), V.bl (decide (c = c7))])) hd)
    generalize hH : upd (upd (upd H a (.lst [V.bl (decide (c = c0)), V.bl (decide (c = c1)), V.bl (decide (c = c2)), V.bl (decide (c = c3))])) b (.lst [V.bl (decide (c = c4)), V.bl (decide (c = c5)), V.bl (decide (c = c6)), V.bl (decide (c = c7))])) d (.lst ([V.bl (decide (c = c0)), V.bl (decide (c = c1)), V.bl (decide (c = c2)), V.bl (decide (c = c3))] ++ [V.bl (decide (c = c4)), V.bl (decide (c = c5)), V.bl (decide (c = c6)), V.bl (decide (c = c7))])) = H3 at s3
    have ed : H3 d = some (.lst (([c0, c1, c2, c3, c4, c5, c6, c7].map fun x => decide (c = x)).map V.bl)) := by rw [← hH]; exact upd_same
    refine ⟨_, rfl, .inl ⟨rfl, _, SqL.of ed⟩, d, _, true, rfl, rfl, ed, ?_⟩
    rw [marks_count hnd hcm]
    refine ⟨rfl, _, rfl, ?_⟩
    refine iteF ?_
    refine ⟨_, rfl, e, c, _, _, _, rfl, fun _ h => h, s3 _ _ he, hk, Z.isV hcm, _, rfl, ?_⟩
    refine iteF ?_
    refine ⟨le1000 (by simp), fun g hg => ?_⟩
    have s4 := s3.trans (same_upd (o := .lst [V.str "wares", V.str "plan", V.str "set", V.str "most", V.str "answers", V.str "fit", V.str "told", V.str "note"]) hg)
    refine ⟨_, rfl, .inl ⟨rfl, _, SqL.of (same_upd hg _ _ ed)⟩, d, _, true, j, rfl, rfl, same_upd hg _ _ ed, marks_at hj, marks_not hnd hj, by omega, ?_⟩
    refine ⟨g, _, _, .str x, rfl, rfl, SqL.of upd_same, ?_, k _ s4⟩
    have hx' : (lawWords.map V.str)[j]? = some (.str x) := by rw [List.getElem?_map, hx]; rfl
    exact atI_nat hx'

def sp__law_some_by : Sp := fun vs H Q _ => ∃ (c : Int) (n : Nat), vs = [.int c, .int n] ∧ n ≤ 64 ∧ RetI H Q (Mix.someBy c n)
theorem sc__law_some_by : FnScope ["cell", "wares", "found", "ware"] ["cell", "wares"] (defScope s__law_some_by) := ⟨rfl, rfl, rfl, by decide +kernel, rfl, by decide +kernel, by decide +kernel⟩
theorem ok__law_some_by (D : Def K mg "_law_some_by" s__law_some_by) (zrange : mg "range" = none) : Ok P w K mg base "_law_some_by" 1 ["cell", "wares"] sp__law_some_by := by
  refine D.ok sc__law_some_by (fun _ _ _ _ _ _ us hl => match us, hl with | [_, _], _ => rfl) (fun vs H Q E h => ?_) (fun f cdv A outer s H vs Q E hr h => ?_)
  · obtain ⟨c, n, rfl, _⟩ := h
    rfl
  · obtain ⟨c, n, rfl, hn, k⟩ := h
    refine ⟨_, pss_cons (ps_set (i := 2) sc__law_some_by.nd rfl (Or.inl rfl) (pe_lst pa_nil))
      (pss_cons (ps_for PassesOwn.never rfl (pi_range1 (by rfl) zrange (pa_cons (pv 1) pa_nil)) (pg_name (i := 3) sc__law_some_by.nd rfl (Or.inl rfl))
        (pss_cons (ps_if (pt_cmpR op_eq (pe_op op_mod (pv 0) pe_int) pe_int (nomark _))
          (pss_one (ps_expr (pe_bm PySem.F.plainAttrs_list PySem.F.slot_list_append PySem.F.type_list_append mt_append (pv 2) (pa_cons (pv 3) pa_nil)))) pss_nil)
        (pss_one (ps_set (i := 0) sc__law_some_by.nd rfl (Or.inl rfl) (pe_op op_fdiv (pv 0) pe_int)))))
      (pss_one (ps_ret (pv 2)))), ?_⟩
    refine ⟨Nat.zero_le _, fun l hl => ?_⟩
    refine ⟨_, rfl, (n : Int), rfl, by omega, by omega, for_range (n := n) (fun i σ H2 => ∃ x : Option V, σ = [some (.int (c / 2 ^ i)), some (.int n), some (.ref l), x] ∧ H2 = upd H l (.lst ((Mix.someBy c i).map V.int)))
      ⟨none, by simp [L2.start], rfl⟩ ?_ ?_⟩
    · rintro i σ H2 hi ⟨x, rfl, rfl⟩
      have step : ∀ H3, H3 = upd H l (.lst ((Mix.someBy c (i + 1)).map V.int)) → ∃ x : Option V, [some (V.int (c / 2 ^ i / 2)), some (.int n), some (.ref l), some (.int (0 + (i : Int)))] = [some (.int (c / 2 ^ (i + 1))), some (.int n), some (.ref l), x] ∧ H3 = upd H l (.lst ((Mix.someBy c (i + 1)).map V.int)) :=
        fun H3 e => ⟨_, by rw [Mix.div_step], e⟩
      refine ⟨_, rfl, _, _, rfl, rfl, (by show (0 : Int) < 2; decide), rfl, _, rfl, ?_⟩
      refine ite2 (fun h1 => ?_) (fun h1 => ?_)
      · have h1 : c / 2 ^ i % 2 = 1 := V.int.inj (of_decide_eq_true h1)
        refine ⟨_, rfl, .inl ⟨rfl, _, SqL.of upd_same⟩, _, rfl, l, _, _, rfl, rfl, upd_same, lt1000 ?_, ?_⟩
        · rw [List.length_map]
          have := Mix.someBy_len c i
          omega
        · refine ⟨_, rfl, _, _, rfl, rfl, ⟨by decide, by decide⟩, step _ ?_⟩
          rw [upd_upd, Mix.someBy_succ, if_pos h1, List.map_append]
          simp
      · have h1 : ¬ c / 2 ^ i % 2 = 1 := fun z => h1 (decide_eq_true (congrArg V.int z))
        refine ⟨_, rfl, _, _, rfl, rfl, ⟨by decide, by decide⟩, step _ ?_⟩
        rw [Mix.someBy_succ, if_neg h1]
    · rintro σ H2 ⟨x, rfl, rfl⟩
      exact ⟨_, rfl, k l _ hl (same_upd hl) upd_same⟩

/-- some plan of some wares, new -/
def sp__law_plan_by (K : PySem.W.Frag) : Sp := fun vs H Q _ => ∃ (a : Addr) (ns : List Int), vs = [.ref a] ∧ SqL K H a (ns.map V.int) ∧
  ∀ (n : Nat) (p : List (List Int)) (D t : Addr) (H' : Hp), 1 ≤ n → n ≤ 8 → Mix.isPlan n p = true → Same H H' → H t = none → H' t = some (.tup [.int n, .ref D]) → Nw H H' D p → Q (.ref t) H'
abbrev nm__law_plan_by : List Str := ["script", "wares", "plan", "kind", "bit", "mixture", "k", "cell", "at"]
theorem sc__law_plan_by : FnScope ["script", "wares", "plan", "kind", "bit", "mixture", "k", "cell", "at"] ["script"] (defScope s__law_plan_by) := ⟨rfl, rfl, rfl, by decide +kernel, rfl, by decide +kernel, by decide +kernel⟩
/-- what holds of plan's first make -/
def pb1 (H : Hp) (a : Addr) (n : Nat) (kd : Int) : St → Hp → Prop := fun σ H2 => ∃ (D : Addr) (p : List (List Int)), σ = [some (.ref a), some (.int n), some (.ref D), some (.int kd), none, none, none, none, none] ∧ Nw H H2 D p ∧ Same H H2 ∧
  (kd = 1 ∨ p = []) ∧ p.length ≤ 8 ∧ ∀ m ∈ p, Mix.isSet n m = true
def pb2 (H : Hp) (a : Addr) (n : Nat) (kd : Int) : St → Hp → Prop := fun σ H2 => ∃ (D : Addr) (p : List (List Int)) (z : Option V), σ = [some (.ref a), some (.int n), some (.ref D), some (.int kd), z, none, none, none, none] ∧ Nw H H2 D p ∧ Same H H2 ∧
  p.length ≤ 8 ∧ ∀ m ∈ p, Mix.isSet n m = true
/-- .. between two turns -/
def pb3 (H : Hp) (a : Addr) (n : Nat) (kd : Int) : St → Hp → Prop := fun σ H2 => ∃ (D : Addr) (p : List (List Int)) (z1 z2 z3 z4 z5 : Option V), σ = [some (.ref a), some (.int n), some (.ref D), some (.int kd), z1, z2, z3, z4, z5] ∧ Nw H H2 D p ∧ Same H H2 ∧
  Mix.isPlan n p = true
/-- .. within a turn -/
def pb4 (H : Hp) (a : Addr) (n : Nat) (kd : Int) : St → Hp → Prop := fun σ H2 => ∃ (D b : Addr) (p : List (List Int)) (m : List Int) (k c : Int) (z1 z5 : Option V), σ = [some (.ref a), some (.int n), some (.ref D), some (.int kd), z1, some (.ref b), some (.int k), some (.int c), z5] ∧ Nw H H2 D p ∧ Same H H2 ∧
  Mix.isPlan n p = true ∧ H b = none ∧ b ≠ D ∧ H2 b = some (.lst (m.map V.int)) ∧ m ≠ [] ∧ Mix.isSet n m = true
theorem cut_take (xs : List V) (k : Nat) (h : k ≤ xs.length) : cutV xs none (some (k : Int)) = xs.take k := by
  unfold cutV
  rw [HT.sIx_none, HT.sIx_nat, Nat.min_eq_left h, List.drop_zero, Nat.sub_zero]
theorem cut_drop (xs : List V) (k : Nat) (h : k ≤ xs.length) : cutV xs (some (k : Int)) none = xs.drop k := by
  unfold cutV
  rw [HT.sIx_none, HT.sIx_nat, Nat.min_eq_left h]
  refine List.take_of_length_le ?_
  rw [List.length_drop]
  omega
theorem ok__law_plan_by (D : Def K mg "_law_plan_by" s__law_plan_by) (O1 : Ok P w K mg base "_law_cell_at" 1 ["script", "k"] (sp__law_cell_at K)) (O2 : Ok P w K mg base "_law_some_by" 1 ["cell", "wares"] sp__law_some_by)
    (zlen : mg "len" = none) (zrange : mg "range" = none) (zlist : mg "list" = none) : Ok P w K mg base "_law_plan_by" 2 ["script"] (sp__law_plan_by K) := by
  refine D.ok sc__law_plan_by (fun _ _ _ _ _ _ us hl => match us, hl with | [_], _ => rfl) (fun vs H Q E h => ?_) (fun f cdv A outer s H vs Q E hr h => ?_)
  · obtain ⟨a, ns, rfl, _⟩ := h
    rfl
  · obtain ⟨a, ns, rfl, hS, kk⟩ := h
    have hu := hr.units
    have nd := sc__law_plan_by.nd
    obtain ⟨n, hn⟩ : ∃ n : Nat, 1 + Mix.cell ns 0 % 8 = (n : Int) := ⟨(1 + Mix.cell ns 0 % 8).toNat, by omega⟩
    have n1 : 1 ≤ n := by omega
    have n8 : n ≤ 8 := by omega
    generalize hkd : Mix.cell ns 2 % 4 = kd
    refine ⟨_, pss_cons (ps_set (i := 1) nd rfl (Or.inl rfl) (pe_op op_add pe_int (pe_op op_mod (pe_callO O1 hr (pa_cons (pv 0) (pa_cons pe_int pa_nil))) pe_int)))
      (pss_cons (ps_set (i := 2) nd rfl (Or.inl rfl) (pe_lst pa_nil))
      (pss_cons (ps_set (i := 3) nd rfl (Or.inl rfl) (pe_op op_mod (pe_callO O1 hr (pa_cons (pv 0) (pa_cons pe_int pa_nil))) pe_int))
      (pss_mid (pb1 H a n kd) (ps_if (pt_cmpR op_eq (pv 3) pe_int (nomark _))
        (pss_one (ps_setLc (i := 2) ["ware"] [none] rfl (lc_of (defScope s__law_plan_by).names nm__law_plan_by (fun _ => rfl) rfl rfl (by decide +kernel)) nd rfl (Or.inl rfl) (pi_range1 (by rfl) zrange (pa_cons (pv 1) pa_nil))
          (fun _ _ _ _ _ => pg_lc 0 (by decide +kernel)) (fun _ _ _ _ _ => pif_nil) (fun _ _ _ _ _ => pe_lst (pa_cons (pv 0) pa_nil)))) pss_nil)
      (pss_mid (pb2 H a n kd) (ps_if (pt_cmpR op_eq (pv 3) pe_int (nomark _))
        (pss_one (ps_for PassesOwn.never rfl (pi_list (pe_lst (pa_cons pe_int (pa_cons pe_int (pa_cons pe_int pa_nil))))) (pg_name (i := 4) nd rfl (Or.inr rfl))
          (pss_cons (ps_expr (pe_bm PySem.F.plainAttrs_list PySem.F.slot_list_append PySem.F.type_list_append mt_append (pv 2) (pa_cons
            (pe_lc ["ware", "bit"] [none, some 4] rfl (lc_of (defScope s__law_plan_by).names nm__law_plan_by (fun _ => rfl) rfl rfl (by decide +kernel)) (pi_range1 (by rfl) zrange (pa_cons (pv 1) pa_nil))
              (fun _ _ _ _ _ => pg_lc 0 (by decide +kernel)) (fun _ _ _ _ _ => pif_one (pt_cmpR op_eq (pe_op op_mod (pe_op op_fdiv (pv 0) (pv 1)) pe_int) pe_int (nomark _))) (fun _ _ _ _ _ => pv 0)) pa_nil)))
          (pss_one (ps_expr (pe_bm PySem.F.plainAttrs_list PySem.F.slot_list_append PySem.F.type_list_append mt_append (pv 2) (pa_cons
            (pe_lc ["ware", "bit"] [none, some 4] rfl (lc_of (defScope s__law_plan_by).names nm__law_plan_by (fun _ => rfl) rfl rfl (by decide +kernel)) (pi_range1 (by rfl) zrange (pa_cons (pv 1) pa_nil))
              (fun _ _ _ _ _ => pg_lc 0 (by decide +kernel)) (fun _ _ _ _ _ => pif_one (pt_cmpR op_eq (pe_op op_mod (pe_op op_fdiv (pv 0) (pv 1)) pe_int) pe_int (nomark _))) (fun _ _ _ _ _ => pv 0)) pa_nil))))))) pss_nil)
      (pss_mid (pb3 H a n kd) (ps_setLc (i := 2) ["mixture"] [none] rfl (lc_of (defScope s__law_plan_by).names nm__law_plan_by (fun _ => rfl) rfl rfl (by decide +kernel)) nd rfl (Or.inl rfl) (pi_list (pv 2))
          (fun _ _ _ _ _ => pg_lc 0 (by decide +kernel)) (fun _ _ _ _ _ => pif_one (pt_cmpR (r := rNeD K) (op_neD hu) (pv 0) (pe_lst pa_nil) (nomark _))) (fun _ _ _ _ _ => pv 0))
      (pss_mid (pb3 H a n kd) (ps_for PassesOwn.never rfl (pi_range1 (by rfl) zrange (pa_cons (pe_op op_mod (pe_callO O1 hr (pa_cons (pv 0) (pa_cons pe_int pa_nil))) pe_int) pa_nil)) (pg_name (i := 6) nd rfl (Or.inl rfl))
        (pss_cons (ps_set (i := 7) nd rfl (Or.inl rfl) (pe_callO O1 hr (pa_cons (pv 0) (pa_cons (pe_op op_add pe_int (pv 6)) pa_nil))))
        (pss_cons (ps_set (i := 5) nd rfl (Or.inl rfl) (pe_callO O2 hr (pa_cons (pe_op op_fdiv (pv 7) pe_int) (pa_cons (pv 1) pa_nil))))
        (pss_mid (pb4 H a n kd) (ps_if (pt_cmpR (op_eqD hu) (pv 5) (pe_lst pa_nil) (nomark _)) (pss_one (ps_set (i := 5) nd rfl (Or.inl rfl) (pe_lst (pa_cons (pe_op op_mod (pv 7) (pv 1)) pa_nil)))) pss_nil)
        (pss_mid (pb4 H a n kd) (ps_if (pw_and (pt_cmpR (op_neD hu) (pv 2) (pe_lst pa_nil) (nomark _)) (pw_and1 (pt_cmpR op_eq (pe_op op_mod (pe_op op_fdiv (pv 7) pe_int) pe_int) pe_int (nomark _)))).pt
          (pss_one (ps_set (i := 5) nd rfl (Or.inl rfl) (pe_callTy call_list_of (by rfl) zlist bt_list (pa_cons (pe_ix ix_list (pv 2) (pe_op op_mod (pe_op op_fdiv (pv 7) pe_int) (pe_callB call_len_seq (by rfl) zlen PySem.boot_len (pa_cons (pv 2) pa_nil))) (fun _ _ => rfl)) pa_nil)))) pss_nil)
        (pss_one (ps_if (pt_cmpR op_lt (pe_callB call_len_seq (by rfl) zlen PySem.boot_len (pa_cons (pv 2) pa_nil)) pe_int (nomark _))
          (pss_cons (ps_set (i := 8) nd rfl (Or.inl rfl) (pe_op op_mod (pe_op op_fdiv (pe_op op_fdiv (pv 7) pe_int) pe_int) (pe_op op_add (pe_callB call_len_seq (by rfl) zlen PySem.boot_len (pa_cons (pv 2) pa_nil)) pe_int)))
          (pss_one (ps_set (i := 2) nd rfl (Or.inl rfl) (pe_op op_cat (pe_op op_cat (pe_slice sl_list (pv 2) po_none (po_some (pv 8))) (pe_lst (pa_cons (pv 5) pa_nil))) (pe_slice sl_list (pv 2) (po_some (pv 8)) po_none))))) pss_nil)))))))
      (pss_one (ps_ret (pe_tup (pa_cons (pv 1) (pa_cons (pv 2) pa_nil))))))))))), ?_⟩
    -- wares = 1 + cell(0) % 8; plan = []; kind = cell(2) % 4
    refine ⟨_, rfl, a, ns, 0, rfl, hS, by decide, _, _, rfl, rfl, (by show (0 : Int) < _; decide), _, _, rfl, rfl, ?_⟩
    show tSeq _ _ _ (List.set _ _ (some (V.int (1 + Mix.cell ns 0 % 8)))) _
    rw [hn]
    refine ⟨Nat.zero_le _, fun l hl => ?_⟩
    refine ⟨_, rfl, a, ns, 2, rfl, (same_upd hl).seq hS, by decide, _, _, rfl, rfl, (by show (0 : Int) < _; decide), ?_⟩
    show tMid _ _ _ _ (List.set _ _ (some (V.int (Mix.cell ns 2 % 4)))) _
    rw [hkd]
    refine ⟨?_, ?_⟩
    · -- if kind == 1
      refine ⟨_, rfl, rfl, _, rfl, ?_⟩
      refine ite2 (fun h1 => ?_) (fun h1 => ?_)
      · have h1 : kd = 1 := V.int.inj (of_decide_eq_true h1)
        refine ⟨_, rfl, (n : Int), rfl, by omega, by omega, fun d hd => ?_⟩
        refine lc_range (n := n) (fun i σ H3 => ∃ c : Option V, σ = [c] ∧ Nw H H3 d ((List.range i).map fun (j : Nat) => [(j : Int)]) ∧ Same H H3)
          ⟨none, rfl, Nw.nil ((same_upd hl).free hd) upd_same, (same_upd hl).trans (same_upd hd)⟩ ?_ ?_
        · rintro i σ H3 hi ⟨c, rfl, N3, s3⟩
          obtain ⟨xs, ex, rx⟩ := N3.ex
          have hlen := rx.length
          rw [List.length_map, List.length_range] at hlen
          refine yesG ?_
          refine ⟨_, rfl, (le1000 (by simp)), fun b hb => ⟨xs, ?_, lt1000 (by omega), _, rfl, ?_, ?_⟩⟩
          · rw [upd_ne (ne_of_none ex hb)]
            exact ex
          · rw [List.range_succ, List.map_append]
            refine N3.snoc (same_upd hb) ex (s3.free hb) (ne_of_none ex hb).symm ?_
            rw [upd_same, Int.zero_add]
            rfl
          · exact (s3.upd (s3.free hb)).upd N3.fr
        · rintro σ H3 ⟨c, rfl, N3, s3⟩
          refine ⟨d, _, rfl, N3, s3, .inl h1, ?_, ?_⟩
          · rw [List.length_map, List.length_range]
            exact n8
          · intro m hm
            obtain ⟨j, hj, rfl⟩ := List.mem_map.mp hm
            have := List.mem_range.mp hj
            exact Mix.isSet_one (by omega) (by omega)
      · exact ⟨l, [], rfl, Nw.nil hl upd_same, same_upd hl, .inr rfl, Nat.zero_le _, (fun m hm => nomatch hm)⟩
    rintro σ H2 ⟨D1, p1, rfl, N1, s1, hp1, l1, q1⟩
    refine ⟨?_, ?_⟩
    · -- if kind == 2
      refine ⟨_, rfl, rfl, _, rfl, ?_⟩
      refine ite2 (fun h1 => ?_) (fun h1 => ?_)
      · have h1 : kd = 2 := V.int.inj (of_decide_eq_true h1)
        have hp1 : p1 = [] := hp1.resolve_left (by omega)
        subst hp1
        refine ⟨le1000 (by simp), fun e he => ⟨e, rfl, ⟨_, SqL.of upd_same⟩, for_list (K := K) (a := e) (xs := [.int 1, .int 2, .int 4]) (fun i σ H3 => ∃ (D : Addr) (p : List (List Int)) (z : Option V), σ = [some (.ref a), some (.int n), some (.ref D), some (.int kd), z, none, none, none, none] ∧ Nw H H3 D p ∧ Same H H3 ∧
          H3 e = some (.lst [.int 1, .int 2, .int 4]) ∧ H e = none ∧ e ≠ D ∧ p.length ≤ 2 * i ∧ ∀ m ∈ p, Mix.isSet n m = true) ?_ (fun i σ H3 _ ⟨_, _, _, _, _, _, z, _⟩ => SqL.of z) ?_ ?_⟩⟩
        · obtain ⟨xs, ex, _⟩ := N1.ex
          exact ⟨D1, [], none, rfl, N1.same (same_upd he), s1.trans (same_upd he), upd_same, s1.free he, (ne_of_none ex he).symm, Nat.zero_le _, (fun m hm => nomatch hm)⟩
        · rintro i y σ H3 hi ⟨D3, p3, z, rfl, N3, s3, e3, he0, hne, l3, q3⟩
          have hi3 : i < 3 := by simpa using (List.getElem?_eq_some_iff.mp hi).1
          obtain ⟨bt, rfl, hbt, hbt2⟩ : ∃ bt : Int, y = .int bt ∧ 0 < bt ∧ bt < 1073741824 := by
            match i, hi with
            | 0, hi => cases hi; exact ⟨1, rfl, by decide, by decide⟩
            | 1, hi => cases hi; exact ⟨2, rfl, by decide, by decide⟩
            | 2, hi => cases hi; exact ⟨4, rfl, by decide, by decide⟩
          have grow : ∀ (r : Int) (t : Nat → Bool), True := fun _ _ => trivial
          obtain ⟨xs, ex, rx⟩ := N3.ex
          have hlen := rx.length
          refine ⟨_, rfl, .inl ⟨rfl, _, SqL.of ex⟩, _, rfl, (n : Int), rfl, by omega, by omega, fun d hd => ?_⟩
          refine lc_range (n := n) (fun j σ H4 => ∃ c : Option V, σ = [c, some (.int bt)] ∧ H4 = upd H3 d (.lst ((Mix.pick (fun j => decide ((j : Int) / bt % 2 = 1)) j).map V.int)))
            ⟨none, rfl, rfl⟩ ?_ ?_
          · rintro j σ H4 hj ⟨c, rfl, rfl⟩
            refine ⟨_, rfl, _, rfl, _, _, rfl, rfl, ⟨hbt, hbt2⟩, _, _, rfl, rfl, (by show (0 : Int) < _; decide), rfl, _, rfl, ?_⟩
            have key : ∀ H5, H5 = upd H3 d (.lst ((Mix.pick (fun j => decide ((j : Int) / bt % 2 = 1)) (j + 1)).map V.int)) → ∃ c : Option V, [some (V.int (0 + (j : Int))), some (V.int bt)] = [c, some (.int bt)] ∧ H5 = upd H3 d (.lst ((Mix.pick (fun j => decide ((j : Int) / bt % 2 = 1)) (j + 1)).map V.int)) := fun H5 e => ⟨_, rfl, e⟩
            rw [Int.zero_add] at key ⊢
            refine ite2 (fun h2 => ?_) (fun h2 => ?_)
            · have h2 : (j : Int) / bt % 2 = 1 := V.int.inj (of_decide_eq_true h2)
              refine ⟨_, rfl, _, upd_same, lt1000 ?_, key _ ?_⟩
              · rw [List.length_map]
                have := Mix.pick_len (fun j => decide ((j : Int) / bt % 2 = 1)) j
                omega
              · rw [upd_upd, Mix.pick_succ, if_pos (decide_eq_true h2), List.map_append]
                rfl
            · have h2 : ¬ (j : Int) / bt % 2 = 1 := fun z => h2 (decide_eq_true (congrArg V.int z))
              refine key _ ?_
              rw [Mix.pick_succ, if_neg (fun z => h2 (of_decide_eq_true z))]
          · rintro σ H4 ⟨c, rfl, rfl⟩
            have nD : D3 ≠ d := ne_of_none ex hd
            have hd0 : H d = none := s3.free hd
            refine ⟨D3, xs, _, rfl, rfl, ?_, lt1000 (by omega), ?_⟩
            · rw [upd_ne nD]
              exact ex
            have N5 := N3.snoc (b := d) (m := Mix.pick (fun j => decide ((j : Int) / bt % 2 = 1)) n) (same_upd (o := .lst ((Mix.pick (fun j => decide ((j : Int) / bt % 2 = 1)) n).map V.int)) hd) ex hd0 nD.symm upd_same
            have s5 : Same H (upd (upd H3 d (.lst ((Mix.pick (fun j => decide ((j : Int) / bt % 2 = 1)) n).map V.int))) D3 (.lst (xs ++ [.ref d]))) := (s3.upd hd0).upd N3.fr
            have e5 : upd (upd H3 d (.lst ((Mix.pick (fun j => decide ((j : Int) / bt % 2 = 1)) n).map V.int))) D3 (.lst (xs ++ [.ref d])) e = some (.lst [.int 1, .int 2, .int 4]) := by
              rw [upd_ne hne, upd_ne (ne_of_none e3 hd)]
              exact e3
            revert N5 s5 e5
            generalize upd (upd H3 d (.lst ((Mix.pick (fun j => decide ((j : Int) / bt % 2 = 1)) n).map V.int))) D3 (.lst (xs ++ [.ref d])) = H5
            intro N5 s5 e5
            have l5 : (p3 ++ [Mix.pick (fun j => decide ((j : Int) / bt % 2 = 1)) n]).length ≤ 2 * i + 1 := by rw [List.length_append]; simp; omega
            have q5 : ∀ m ∈ p3 ++ [Mix.pick (fun j => decide ((j : Int) / bt % 2 = 1)) n], Mix.isSet n m = true := fun m hm => by
              rcases List.mem_append.mp hm with hm | hm
              · exact q3 m hm
              · rw [List.mem_singleton.mp hm]
                exact Mix.pick_set _ n
            revert N5 l5 q5
            generalize p3 ++ [Mix.pick (fun j => decide ((j : Int) / bt % 2 = 1)) n] = p5
            intro N5 l5 q5
            obtain ⟨ys, ey, ry⟩ := N5.ex
            have hlen5 := ry.length
            refine ⟨_, rfl, .inl ⟨rfl, _, SqL.of ey⟩, _, rfl, (n : Int), rfl, by omega, by omega, fun g hg => ?_⟩
            refine lc_range (n := n) (fun j σ H4 => ∃ c : Option V, σ = [c, some (.int bt)] ∧ H4 = upd H5 g (.lst ((Mix.pick (fun j => decide ((j : Int) / bt % 2 = 0)) j).map V.int)))
              ⟨none, rfl, rfl⟩ ?_ ?_
            · rintro j σ H4 hj ⟨c, rfl, rfl⟩
              refine ⟨_, rfl, _, rfl, _, _, rfl, rfl, ⟨hbt, hbt2⟩, _, _, rfl, rfl, (by show (0 : Int) < _; decide), rfl, _, rfl, ?_⟩
              have key : ∀ H6, H6 = upd H5 g (.lst ((Mix.pick (fun j => decide ((j : Int) / bt % 2 = 0)) (j + 1)).map V.int)) → ∃ c : Option V, [some (V.int (0 + (j : Int))), some (V.int bt)] = [c, some (.int bt)] ∧ H6 = upd H5 g (.lst ((Mix.pick (fun j => decide ((j : Int) / bt % 2 = 0)) (j + 1)).map V.int)) := fun H6 e => ⟨_, rfl, e⟩
              rw [Int.zero_add] at key ⊢
              refine ite2 (fun h2 => ?_) (fun h2 => ?_)
              · have h2 : (j : Int) / bt % 2 = 0 := V.int.inj (of_decide_eq_true h2)
                refine ⟨_, rfl, _, upd_same, lt1000 ?_, key _ ?_⟩
                · rw [List.length_map]
                  have := Mix.pick_len (fun j => decide ((j : Int) / bt % 2 = 0)) j
                  omega
                · rw [upd_upd, Mix.pick_succ, if_pos (decide_eq_true h2), List.map_append]
                  rfl
              · have h2 : ¬ (j : Int) / bt % 2 = 0 := fun z => h2 (decide_eq_true (congrArg V.int z))
                refine key _ ?_
                rw [Mix.pick_succ, if_neg (fun z => h2 (of_decide_eq_true z))]
            · rintro σ H4 ⟨c, rfl, rfl⟩
              have nG : D3 ≠ g := ne_of_none ey hg
              have hg0 : H g = none := s5.free hg
              refine ⟨D3, ys, _, rfl, rfl, ?_, lt1000 (by omega), ?_⟩
              · rw [upd_ne nG]
                exact ey
              refine ⟨D3, p5 ++ [Mix.pick (fun j => decide ((j : Int) / bt % 2 = 0)) n], _, rfl, N5.snoc (same_upd hg) ey hg0 nG.symm upd_same, (s5.upd hg0).upd N5.fr, ?_, he0, hne, ?_, fun m hm => ?_⟩
              · rw [upd_ne hne, upd_ne (ne_of_none e5 hg)]
                exact e5
              · rw [List.length_append]
                simp
                omega
              · rcases List.mem_append.mp hm with hm | hm
                · exact q5 m hm
                · rw [List.mem_singleton.mp hm]
                  exact Mix.pick_set _ n
        · rintro σ H3 ⟨D3, p3, z, rfl, N3, s3, _, _, _, l3, q3⟩
          exact ⟨D3, p3, z, rfl, N3, s3, by simp at l3; omega, q3⟩
      · exact ⟨D1, p1, none, rfl, N1, s1, l1, q1⟩
    clear hp1 l1 q1 N1 s1
    rintro σ H3 ⟨D2, p2, z, rfl, N2, s2, l2, q2⟩
    refine ⟨?_, ?_⟩
    · -- plan = [mixture for mixture in plan if mixture != []]
      obtain ⟨xs, ex, rx⟩ := id N2.ex
      have hlen := rx.length
      refine ⟨_, rfl, D2, rfl, ⟨_, SqL.of ex⟩, fun d hd => lc_list (K := K) (a := D2) (xs := xs) (fun i σ H4 => ∃ (c : Option V) (p : List (List Int)), σ = [c] ∧ Same H3 H4 ∧ Nw H H4 d p ∧ p.length ≤ i ∧ ∀ m ∈ p, m ≠ [] ∧ Mix.isSet n m = true)
        ⟨none, [], rfl, same_upd hd, Nw.nil (s2.free hd) upd_same, Nat.le_refl _, (fun m hm => nomatch hm)⟩ (fun i σ H4 _ ⟨_, _, _, s4, _⟩ => SqL.of (s4 _ _ ex)) ?_ ?_⟩
      · rintro i y σ H4 hi ⟨c, p4, rfl, s4, N4, l4, q4⟩
        obtain ⟨m, hm, b, rfl, hbD, hb0, hbm⟩ := Paired.get rx hi
        obtain ⟨ys, ey, ry⟩ := N4.ex
        have hlen4 := ry.length
        have hi8 : i < xs.length := (List.getElem?_eq_some_iff.mp hi).1
        have hbd : b ≠ d := ne_of_none hbm hd
        refine ⟨_, rfl, Nat.zero_le _, fun e he => ⟨dI m, dI [], LI.dat ⟨b, rfl, same_upd he _ _ (s4 _ _ hbm)⟩, LI.dat ⟨e, rfl, upd_same⟩, lay_dI _, lay_dI _, Nat.le_trans (dep_dI _) (by decide), _, rfl, ?_⟩⟩
        show if (!PyData.eqv (dI m) (dI [])) = true then _ else _
        rw [eqv_dI]
        have hd0 : H d = none := s2.free hd
        by_cases hm0 : m = []
        · rw [decide_eq_true hm0]
          exact ⟨_, p4, rfl, s4.trans (same_upd he), N4.same (same_upd he), by omega, q4⟩
        · rw [decide_eq_false hm0]
          refine ⟨_, rfl, ys, ?_, lt1000 (by omega), _, p4 ++ [m], rfl, ?_, ?_, ?_, fun m' hm' => ?_⟩
          · exact same_upd he _ _ ey
          · exact (s4.trans (same_upd he)).upd hd
          · exact N4.snoc (same_upd he) ey hb0 hbd (same_upd he _ _ (s4 _ _ hbm))
          · rw [List.length_append]
            simp
            omega
          · rcases List.mem_append.mp hm' with hm' | hm'
            · exact q4 m' hm'
            · rw [List.mem_singleton.mp hm']
              exact ⟨hm0, q2 m (List.mem_of_getElem? hm)⟩
      · rintro σ H4 ⟨c, p4, rfl, s4, N4, l4, q4⟩
        refine ⟨d, p4, z, none, none, none, none, rfl, N4, s2.trans s4, Mix.isPlan_iff.mpr ⟨by omega, q4⟩⟩
    clear N2 s2 l2 q2
    rintro σ H4 ⟨D4, p4, z1, z2, z3, z4, z5, rfl, N4, s4, q4⟩
    refine ⟨?_, ?_⟩
    · -- for k in range(cell(1) % 13)
      refine ⟨_, rfl, a, ns, 1, rfl, s4.seq hS, by decide, _, _, rfl, rfl, (by show (0 : Int) < _; decide), Mix.cell ns 1 % 13, rfl, by omega, by omega, for_range (n := (Mix.cell ns 1 % 13).toNat) (fun i σ H5 => pb3 H a n kd σ H5)
        ⟨D4, p4, z1, z2, z3, z4, z5, rfl, N4, s4, q4⟩ ?_ (fun σ H5 h => h)⟩
      clear N4 s4 q4
      rintro i σ H5 hi ⟨D5, p5, z1, z2, z3, z4, z5, rfl, N5, s5, q5⟩
      obtain ⟨xs, ex, rx⟩ := id N5.ex
      -- cell = cell(3 + k)
      refine ⟨_, rfl, _, rfl, _, _, rfl, rfl, a, ns, _, rfl, s5.seq hS, by omega, ?_⟩
      generalize Mix.cell ns (3 + (0 + (i : Int))) = c
      -- mixture = some_by(cell // 16, wares)
      refine ⟨_, rfl, _, _, rfl, rfl, ⟨by decide, by decide⟩, _, rfl, c / 16, n, rfl, by omega, fun b H6 hb s6 hm => ?_⟩
      have hb0 : H b = none := s5.free hb
      have hbD : b ≠ D5 := (ne_of_none ex hb).symm
      refine ⟨?_, ?_⟩
      · -- if mixture == []: mixture = [cell % wares]
        refine ⟨_, rfl, Nat.zero_le _, fun e he => ⟨dI (Mix.someBy (c / 16) n), dI [], LI.dat ⟨b, rfl, same_upd he _ _ hm⟩, LI.dat ⟨e, rfl, upd_same⟩, lay_dI _, lay_dI _, Nat.le_trans (dep_dI _) (by decide), _, rfl, ?_⟩⟩
        show if PyData.eqv (dI (Mix.someBy (c / 16) n)) (dI []) = true then _ else _
        rw [eqv_dI]
        refine ite2 (fun h1 => ?_) (fun h1 => ?_)
        · refine ⟨_, rfl, _, rfl, _, _, rfl, rfl, (by omega), (le1000 (by simp)), fun g hg => ?_⟩
          have s7 := s5.trans (s6.trans (same_upd (o := .lst []) he))
          refine ⟨D5, g, p5, [c % n], _, c, _, _, rfl, (N5.same (s6.trans (same_upd he))).same (same_upd hg), s7.trans (same_upd hg), q5, s7.free hg, ?_, upd_same, (by simp), Mix.isSet_one (Int.emod_nonneg _ (by omega)) (Int.emod_lt_of_pos _ (by omega))⟩
          exact (ne_of_none ((s6.trans (same_upd he)) _ _ ex) hg).symm
        · refine ⟨D5, b, p5, _, _, c, _, _, rfl, N5.same (s6.trans (same_upd he)), s5.trans (s6.trans (same_upd he)), q5, hb0, hbD, same_upd he _ _ hm, fun z => h1 (decide_eq_true z), Mix.someBy_set _ n⟩
      clear hb0 hbD hm hb s6 N5 s5 q5 rx ex
      rintro σ H6 ⟨D6, b6, p6, m6, k6, c6, y1, y5, rfl, N6, s6, q6, hb0, hbD, hbm, hm0, hms⟩
      obtain ⟨xs, ex, rx⟩ := id N6.ex
      have hlen := rx.length
      refine ⟨?_, ?_⟩
      · -- if plan != [] and cell // 65536 % 8 == 5: mixture = list(plan[..])
        refine ⟨_, rfl, Nat.zero_le _, fun e he => ⟨dL p6, dL [], (N6.same (same_upd he)).ll.dat, LL.dat ⟨e, [], rfl, upd_same, .nil⟩, lay_dL _, lay_dL _, Nat.le_trans (dep_dL _) (by decide), _, rfl, ?_⟩⟩
        show if (!PyData.eqv (dL p6) (dL [])) = true then _ else _
        rw [eqv_dL]
        have N7 := N6.same (same_upd (o := .lst []) he)
        have s7 := s6.trans (same_upd (o := .lst []) he)
        have stay : pb4 H a n kd [some (.ref a), some (.int n), some (.ref D6), some (.int kd), y1, some (.ref b6), some (.int k6), some (.int c6), y5] (upd H6 e (.lst [])) :=
          ⟨D6, b6, p6, m6, k6, c6, y1, y5, rfl, N7, s7, q6, hb0, hbD, same_upd he _ _ hbm, hm0, hms⟩
        by_cases hp0 : p6 = []
        · rw [decide_eq_true hp0]
          exact stay
        · rw [decide_eq_false hp0]
          refine ⟨_, rfl, _, _, rfl, rfl, ⟨by decide, by decide⟩, _, _, rfl, rfl, (by show (0 : Int) < _; decide), rfl, _, rfl, ?_⟩
          refine ite2 (fun h1 => ?_) (fun h1 => stay)
          have hpos : 0 < p6.length := List.length_pos_iff.mpr hp0
          obtain ⟨j, hj, hjl⟩ : ∃ j : Nat, c6 / 1048576 % (xs.length : Int) = (j : Int) ∧ j < xs.length := by
            have h3 := Int.emod_nonneg (c6 / 1048576) (b := (xs.length : Int)) (by omega)
            have h4 := Int.emod_lt_of_pos (c6 / 1048576) (b := (xs.length : Int)) (by omega)
            exact ⟨(c6 / 1048576 % (xs.length : Int)).toNat, by omega, by omega⟩
          have hgx := List.getElem?_eq_getElem hjl
          obtain ⟨m, hm, g, hgv, hgD, hg0, hgm⟩ := Paired.get rx hgx
          rw [hgv] at hgx
          refine ⟨_, rfl, _, rfl, _, _, rfl, rfl, ⟨by decide, by decide⟩, _, rfl, D6, xs, rfl, .inl (SqL.of (same_upd he _ _ ex)), _, _, rfl, rfl, (by omega), D6, xs, _, .ref g, rfl, rfl, SqL.of (same_upd he _ _ ex), ?_, ?_⟩
          · rw [hj]
            exact atI_nat hgx
          · refine ⟨g, _, rfl, .inl (SqL.of (same_upd he _ _ hgm)), fun q hq => ?_⟩
            obtain ⟨_, hall⟩ := Mix.isPlan_iff.mp q6
            have hmm := hall m (List.mem_of_getElem? hm)
            exact ⟨D6, q, p6, m, k6, c6, y1, y5, rfl, N7.same (same_upd hq), s7.trans (same_upd hq), q6, s7.free hq, (ne_of_none (same_upd he _ _ ex) hq).symm, upd_same, hmm.1, hmm.2⟩
      clear hb0 hbD hbm hm0 hms N6 s6 q6 rx ex hlen
      rintro σ H7 ⟨D7, b7, p7, m7, k7, c7, y1, y5, rfl, N7, s7, q7, hb0, hbD, hbm, hm0, hms⟩
      obtain ⟨xs, ex, rx⟩ := id N7.ex
      have hlen := rx.length
      -- if len(plan) < 12
      refine ⟨_, rfl, D7, xs, rfl, .inl (SqL.of ex), _, _, rfl, rfl, _, rfl, ?_⟩
      refine ite2 (fun h1 => ?_) (fun h1 => ⟨D7, p7, _, _, _, _, _, rfl, N7, s7, q7⟩)
      have h1 : (xs.length : Int) < 12 := of_decide_eq_true h1
      obtain ⟨j, hj, hjl⟩ : ∃ j : Nat, c7 / 16 / 256 % ((xs.length : Int) + 1) = (j : Int) ∧ j ≤ xs.length := by
        have h3 := Int.emod_nonneg (c7 / 16 / 256) (b := (xs.length : Int) + 1) (by omega)
        have h4 := Int.emod_lt_of_pos (c7 / 16 / 256) (b := (xs.length : Int) + 1) (by omega)
        exact ⟨(c7 / 16 / 256 % ((xs.length : Int) + 1)).toNat, by omega, by omega⟩
      refine ⟨_, rfl, _, _, rfl, rfl, ⟨by decide, by decide⟩, _, _, rfl, rfl, ⟨by decide, by decide⟩, _, rfl, D7, xs, rfl, .inl (SqL.of ex), _, _, rfl, rfl, _, _, rfl, rfl, (by omega), ?_⟩
      dsimp only [gName]
      rw [hj]
      refine ⟨_, rfl, _, rfl, _, rfl, D7, xs, rfl, SqL.of ex, fun l1 hl1 => ?_⟩
      rw [cut_take xs j hjl]
      refine ⟨_, rfl, (le1000 (by simp)), fun l2 hl2 => ?_⟩
      have e1 : upd (upd H7 l1 (.lst (xs.take j))) l2 (.lst [.ref b7]) l1 = some (.lst (xs.take j)) := same_upd hl2 _ _ upd_same
      refine ⟨l1, l2, _, _, rfl, rfl, e1, upd_same, le1000 (by simp only [List.length_append, List.length_take, List.length_drop, List.length_cons, List.length_nil]; omega), fun l3 hl3 => ?_⟩
      have sA : Same H7 (upd (upd (upd H7 l1 (.lst (xs.take j))) l2 (.lst [.ref b7])) l3 (.lst (xs.take j ++ [.ref b7]))) := (same_upd hl1).trans ((same_upd hl2).trans (same_upd hl3))
      refine ⟨_, rfl, _, rfl, _, rfl, D7, xs, rfl, SqL.of (sA _ _ ex), fun l4 hl4 => ?_⟩
      rw [cut_drop xs j hjl]
      refine ⟨l3, l4, _, _, rfl, rfl, same_upd hl4 _ _ upd_same, upd_same, le1000 (by simp only [List.length_append, List.length_take, List.length_drop, List.length_cons, List.length_nil]; omega), fun l5 hl5 => ?_⟩
      have sB := sA.trans ((same_upd (o := .lst (xs.drop j)) hl4).trans (same_upd (o := .lst (xs.take j ++ [.ref b7] ++ xs.drop j)) hl5))
      refine ⟨l5, p7.take j ++ [m7] ++ p7.drop j, _, _, _, _, _, rfl, ⟨(s7.trans (sA.trans (same_upd hl4))).free hl5, _, upd_same, ?_⟩, s7.trans sB, Mix.isPlan_insert q7 (by omega) hm0 hms⟩
      have hne : ∀ {x : Addr} {o : HO}, H7 x = some o → x ≠ l5 := fun {x o} hx => ne_of_none ((sA.trans (same_upd hl4)) _ _ hx) hl5
      refine Paired.append (Paired.append (Paired.imp' ?_ (Paired.take j rx)) (.cons ⟨b7, rfl, hne hbm, hb0, sB _ _ hbm⟩ .nil)) (Paired.imp' ?_ (Paired.drop j rx))
      · rintro u m ⟨x, e1, e2, e3, e4⟩
        exact ⟨x, e1, hne e4, e3, sB _ _ e4⟩
      · rintro u m ⟨x, e1, e2, e3, e4⟩
        exact ⟨x, e1, hne e4, e3, sB _ _ e4⟩
    clear N4 s4 q4
    rintro σ H5 ⟨D5, p5, z1, z2, z3, z4, z5, rfl, N5, s5, q5⟩
    refine ⟨_, rfl, _, rfl, (le1000 (by simp)), fun t ht => ?_⟩
    exact kk n p5 D5 t _ n1 n8 q5 (s5.trans (same_upd ht)) (s5.free ht) upd_same (N5.same (same_upd ht))

def sp__law_tried : Sp := fun vs H Q _ => ∃ (wn : Int) (l : List Nat), vs = [.int wn, .str (Mix.st l)] ∧ (∀ c ∈ l, c < 128) ∧ l.length ≤ 800 ∧ (¬ (1 ≤ wn ∧ wn ≤ 8) → ∀ H', Same H H' → Q (.str "wares") H') ∧
  (1 ≤ wn → wn ≤ 8 → Mix.isPlan wn (Mix.readOf l) = false → ∀ H', Same H H' → Q (.str "note") H') ∧ (1 ≤ wn → wn ≤ 8 → Mix.isPlan wn (Mix.readOf l) = true → ∀ H', Same H H' → Q (.str "done") H')
theorem sc__law_tried : FnScope ["wares", "text", "e"] ["wares", "text"] (defScope s__law_tried) := ⟨rfl, rfl, rfl, by decide +kernel, rfl, by decide +kernel, by decide +kernel⟩
theorem ok__law_tried (D : Def K mg "_law_tried" s__law_tried) (Z : Pots8 K mg PD c0 c1 c2 c3 c4 c5 c6 c7) (O1 : OkX P w K mg base "read" 3 ["wares", "text"] (spx_read c0 c7)) (O2 : OkH P w K mg base "_law_word_of" 1 ["e"] (sp__law_word_of [c0, c1, c2, c3, c4, c5, c6, c7])) :
    Ok P w K mg base "_law_tried" 4 ["wares", "text"] sp__law_tried := by
  refine D.ok sc__law_tried (fun _ _ _ _ _ _ us hl => match us, hl with | [_, _], _ => rfl) (fun vs H Q E h => ?_) (fun f cdv A outer s H vs Q E hr h => ?_)
  · obtain ⟨wn, l, rfl, _⟩ := h
    rfl
  · obtain ⟨wn, l, rfl, hc, h8, k0, k1, k2⟩ := h
    have nd := sc__law_tried.nd
    refine ⟨_, pss_cons (ps_try (Ex := fun C _ H' => Same H H' ∧ ((C = .ref c0 ∧ ¬ (1 ≤ wn ∧ wn ≤ 8)) ∨ (C = .ref c7 ∧ 1 ≤ wn ∧ wn ≤ 8 ∧ Mix.isPlan wn (Mix.readOf l) = false))) 2 rfl rfl rfl Z.top Z.exD
        (Z.caught fun C H q => q.2.elim (fun z => ⟨c0, z.1, by simp⟩) fun z => ⟨c7, z.1, by simp⟩)
      (fun pn W hx => pss_one (ps_expr (pe_callX O1 hr hx (pa_cons (pv 0) (pa_cons (pv 1) pa_nil)))))
      (fun v pn => pss_one (ps_ret (pe_callH O2 ((hr.toH _).mono (by decide)) (pa_cons (pv 2) pa_nil)))) nd rfl) (pss_one (ps_ret pe_str)), ?_⟩
    refine ⟨⟨_, rfl, _, rfl, wn, l, rfl, hc, h8, fun z => ⟨Same.refl _, .inl ⟨rfl, z⟩⟩, fun n1 n8 z H' s' => ⟨s', .inr ⟨rfl, n1, n8, z⟩⟩, fun n1 n8 z v H' s' => k2 n1 n8 z H' s'⟩, ?_⟩
    rintro C H' e σ' hσ ⟨s', ⟨rfl, z⟩ | ⟨rfl, n1, n8, z⟩⟩ he
    · exact ⟨_, set_at hσ (show 2 < 3 by decide), e, c0, 0, "wares", rfl, upd_same, rfl, rfl, fun H2 s2 => k0 z _ (s'.trans ((same_upd he).trans s2))⟩
    · exact ⟨_, set_at hσ (show 2 < 3 by decide), e, c7, 7, "note", rfl, upd_same, rfl, rfl, fun H2 s2 => k1 n1 n8 z _ (s'.trans ((same_upd he).trans s2))⟩

/-- a word as a value -/
abbrev strV (a : List Nat) : V := .str (Mix.st a)
def sp__law_spoilt : Sp := fun vs H Q _ => ∃ (D : Addr) (kd ce : Int) (c n : Nat) (q : List (List Int)), vs = [.ref D, .int kd, .int c, .int ce, .int n] ∧ H D = some (.lst ((q.map Mix.wr).map strV)) ∧ Mix.isPlan n q = true ∧ c < q.length ∧ 0 ≤ ce ∧ n ≤ 8 ∧
  ∀ W ws H', Same H H' → H' W = some (.lst (ws.map strV)) → Mix.BadW n ws → Q (.ref W) H'
abbrev nm__law_spoilt : List Str := ["words", "kind", "at", "cell", "wares", "word", "place", "sign"]
theorem sc__law_spoilt : FnScope ["words", "kind", "at", "cell", "wares", "word", "place", "sign"] ["words", "kind", "at", "cell", "wares"] (defScope s__law_spoilt) := ⟨rfl, rfl, rfl, by decide +kernel, rfl, by decide +kernel, by decide +kernel⟩
theorem ten_is : PySem.Str.ofString "10" = Mix.st [49, 48] := by decide +kernel
abbrev lawSigns : List Nat := [57, 97, 45, 43, 95, 9, 10, 44, 46, 56]
theorem signs_are : [V.str "9", V.str "a", V.str "-", V.str "+", V.str "_", V.str "\t", V.str "\n", V.str ",", V.str ".", V.str "8"] = lawSigns.map fun x => strV [x] := by decide +kernel
theorem signs_bad : ∀ x ∈ lawSigns, x < 128 ∧ x ≠ 32 ∧ ((x : Int) - 48 < 0 ∨ (8 : Int) ≤ (x : Int) - 48) := by decide +kernel
theorem put_map {c : Nat} {a : List Nat} {ws : List (List Nat)} {d : Nat} : (ws.map strV).take c ++ [strV a] ++ (ws.map strV).drop (c + d) = (ws.take c ++ [a] ++ ws.drop (c + d)).map strV := by
  rw [List.map_append, List.map_append, List.map_take, List.map_drop]
  rfl
theorem ok__law_spoilt (D : Def K mg "_law_spoilt" s__law_spoilt) (zlen : mg "len" = none) (zrange : mg "range" = none) (zstr : mg "str" = none) : Ok P w K mg base "_law_spoilt" 1 ["words", "kind", "at", "cell", "wares"] sp__law_spoilt := by
  refine D.ok sc__law_spoilt (fun _ _ _ _ _ _ us hl => match us, hl with | [_, _, _, _, _], _ => rfl) (fun vs H Q E h => ?_) (fun f cdv A outer s H vs Q E hr h => ?_)
  · obtain ⟨D, kd, ce, c, n, q, rfl, _⟩ := h
    rfl
  · obtain ⟨D, kd, ce, c, n, q, rfl, eD, hq, hc, hce, n8, k⟩ := h
    have nd := sc__law_spoilt.nd
    refine ⟨_, pss_cons (ps_set (i := 5) nd rfl (Or.inl rfl) (pe_ix ix_list (pv 0) (pv 2) (fun _ _ => rfl)))
      (pss_cons (ps_set (i := 6) nd rfl (Or.inl rfl) (pe_op op_mod (pv 3) (pe_op op_add (pe_callB call_len_str (by rfl) zlen PySem.boot_len (pa_cons (pv 5) pa_nil)) pe_int)))
      (pss_cons (ps_if (pt_cmpR op_eq (pv 1) pe_int (nomark _)) (pss_one (ps_ret (pe_imp (pe_op op_cat (pe_op op_cat (pe_slice sl_list (pv 0) po_none (po_some (pv 2))) (pe_lst (pa_cons (pe_cut pe_str) pa_nil))) (pe_slice sl_list (pv 0) (po_some (pv 2)) po_none)) (mid0_imp K 0 2 _)))) pss_nil)
      (pss_cons (ps_if (pt_cmpR op_eq (pv 1) pe_int (nomark _)) (pss_one (ps_ret (pe_op op_cat (pv 0) (pe_lst (pa_cons pe_str pa_nil))))) pss_nil)
      (pss_cons (ps_if (pt_cmpR op_eq (pv 1) pe_int (nomark _)) (pss_one (ps_ret (pe_imp (pe_op op_cat (pe_op op_cat (pe_slice sl_list (pv 0) po_none (po_some (pv 2))) (pe_lst (pa_cons (pe_cut (pe_op op_add_str (pv 5) (pe_ix ix_str (pv 5) (pe_un un_neg pe_int) (fun _ _ => rfl)))) pa_nil))) (pe_slice sl_list (pv 0) (po_some (pe_op op_add (pv 2) pe_int)) po_none)) (mid1_imp K 0 2 _)))) pss_nil)
      (pss_cons (ps_if (pt_cmpR op_eq (pv 1) pe_int (nomark _)) (pss_one (ps_ret (pe_imp (pe_op op_cat (pe_op op_cat (pe_slice sl_list (pv 0) po_none (po_some (pv 2))) (pe_lst (pa_cons (pe_cut pe_str) pa_nil))) (pe_slice sl_list (pv 0) (po_some (pe_op op_add (pv 2) pe_int)) po_none)) (mid1_imp K 0 2 _)))) pss_nil)
      (pss_cons (ps_if (pt_cmpR op_eq (pv 1) pe_int (nomark _)) (pss_one (ps_ret (pe_imp (pe_op op_cat (pe_op op_cat (pe_slice sl_list (pv 0) po_none (po_some (pv 2))) (pe_lst (pa_cons (pe_cut (pe_op op_add_str (pv 5) (pe_callTy call_str_int (by rfl) zstr bt_str (pa_cons (pv 4) pa_nil)))) pa_nil))) (pe_slice sl_list (pv 0) (po_some (pe_op op_add (pv 2) pe_int)) po_none)) (mid1_imp K 0 2 _)))) pss_nil)
      (pss_cons (ps_if (pt_cmpR op_eq (pv 1) pe_int (nomark _)) (pss_one (ps_ret (pe_lc ["k"] [none] rfl (lc_of (defScope s__law_spoilt).names nm__law_spoilt (fun _ => rfl) rfl rfl (by decide +kernel)) (pi_range1 (by rfl) zrange (pa_cons pe_int pa_nil))
          (fun _ _ _ _ _ => pg_lc 0 (by decide +kernel)) (fun _ _ _ _ _ => pif_nil) (fun _ _ _ _ _ => pe_str)))) pss_nil)
      (pss_cons (ps_set (i := 7) nd rfl (Or.inl rfl) (pe_cut (pe_ix ix_list (pe_lst (pa_cons pe_str (pa_cons pe_str (pa_cons pe_str (pa_cons pe_str (pa_cons pe_str (pa_cons pe_str (pa_cons pe_str (pa_cons pe_str (pa_cons pe_str (pa_cons pe_str pa_nil))))))))))) (pe_op op_mod (pe_op op_fdiv (pv 3) pe_int) pe_int) (fun _ _ => rfl))))
      (pss_cons (ps_set (i := 5) nd rfl (Or.inl rfl) (pe_cut (pe_op op_add_str (pe_op op_add_str (pe_slice sl_str (pv 5) po_none (po_some (pv 6))) (pv 7)) (pe_slice sl_str (pv 5) (po_some (pv 6)) po_none))))
      (pss_one (ps_ret (pe_imp (pe_op op_cat (pe_op op_cat (pe_slice sl_list (pv 0) po_none (po_some (pv 2))) (pe_lst (pa_cons (pe_cut (pv 5)) pa_nil))) (pe_slice sl_list (pv 0) (po_some (pe_op op_add (pv 2) pe_int)) po_none)) (mid1_imp K 0 2 _))))))))))))), ?_⟩
    obtain ⟨w1, w2, w3, w4⟩ := Mix.plan_words n8 hq
    obtain ⟨m, hm⟩ : ∃ m, q[c]? = some m := ⟨_, List.getElem?_eq_getElem hc⟩
    have hqs : q ≠ [] := fun z => by rw [z] at hc; exact absurd hc (Nat.not_lt_zero _)
    have hwm : Mix.wr m ∈ q.map Mix.wr := List.mem_map.mpr ⟨m, List.mem_of_getElem? hm, rfl⟩
    have hw8 := w3 _ hwm
    have hwne := w4 _ hwm
    have hwc := w1 _ hwm
    have hat : ((q.map Mix.wr).map strV)[c]? = some (strV (Mix.wr m)) := by rw [List.getElem?_map, List.getElem?_map, hm]; rfl
    generalize Mix.wr m = wd at hwm hw8 hwne hwc hat
    have hql : ((q.map Mix.wr).map strV).length = q.length := by rw [List.length_map, List.length_map]
    rw [List.length_map] at w2
    refine ⟨_, rfl, _, rfl, D, _, _, strV wd, rfl, rfl, SqL.of eD, atI_nat hat, ?_⟩
    -- place
    have hwl : (Mix.st wd).length = wd.length := Mix.st_len wd
    refine ⟨_, rfl, _, rfl, _, rfl, le1000 (by omega), _, _, rfl, rfl, _, _, rfl, rfl, (by show (0 : Int) < ((Mix.st wd).length : Int) + 1; omega), ?_⟩
    obtain ⟨pl, hpl, hpll⟩ : ∃ pl : Nat, ce % (((Mix.st wd).length : Int) + 1) = (pl : Int) ∧ pl ≤ wd.length := by
      have h1 := Int.emod_nonneg ce (b := ((Mix.st wd).length : Int) + 1) (by omega)
      have h2 := Int.emod_lt_of_pos ce (b := ((Mix.st wd).length : Int) + 1) (by omega)
      exact ⟨(ce % (((Mix.st wd).length : Int) + 1)).toNat, by omega, by omega⟩
    dsimp only [gName]
    rw [hpl]
    -- kind 0
    refine ⟨_, rfl, rfl, _, rfl, ?_⟩
    refine ite2 (fun _ => ?_) (fun _ => ?_)
    · refine ⟨D, _, c, strV [], rfl, rfl, eD, by omega, by omega, fun H1 s1 => ⟨congrArg V.str Mix.empty_is, rfl⟩, fun W H' s' _ eW => ?_⟩
      rw [put_map] at eW
      exact k W _ H' s' eW (Mix.bad_ins n8 hq (by omega) hqs)
    -- kind 1
    refine ⟨_, rfl, rfl, _, rfl, ?_⟩
    refine ite2 (fun _ => ?_) (fun _ => ?_)
    · refine ⟨_, rfl, le1000 (by simp), fun l1 hl1 => ?_⟩
      refine ⟨D, l1, _, _, rfl, rfl, same_upd hl1 _ _ eD, upd_same, le1000 (by simp only [List.length_cons, List.length_nil]; omega), fun W hW => ?_⟩
      have hb := Mix.bad_ins (c := q.length) n8 hq (Nat.le_refl _) hqs
      have e1 : (q.map Mix.wr).take q.length = q.map Mix.wr := List.take_of_length_le (by rw [List.length_map]; omega)
      have e2 : (q.map Mix.wr).drop q.length = [] := List.drop_eq_nil_of_le (by rw [List.length_map]; omega)
      rw [e1, e2, List.append_nil] at hb
      refine k W _ _ ((same_upd hl1).trans (same_upd hW)) ?_ hb
      rw [upd_same, List.map_append, Mix.empty_is]
      rfl
    -- kind 2
    refine ⟨_, rfl, rfl, _, rfl, ?_⟩
    refine ite2 (fun _ => ?_) (fun _ => ?_)
    · obtain ⟨wd', x, rfl⟩ : ∃ wd' x, wd = wd' ++ [x] := ⟨wd.dropLast, wd.getLast hwne, (List.dropLast_concat_getLast hwne).symm⟩
      refine ⟨D, _, c, strV (wd' ++ [x] ++ [x]), rfl, rfl, eD, by omega, by omega, fun H1 s1 => ?_, fun W H' s' _ eW => ?_⟩
      · refine ⟨_, rfl, _, rfl, _, rfl, _, _, x, rfl, rfl, le1000 (by omega), ?_, _, _, rfl, rfl, le1000 (by rw [hwl]; show _ + 1 ≤ _; omega), ?_, rfl⟩
        · have : (Mix.st (wd' ++ [x])).cps.toList = wd' ++ [x] := by unfold Mix.st; simp
          rw [this]
          exact atI_last wd' x
        · exact congrArg V.str (Mix.st_app (wd' ++ [x]) [x])
      · rw [put_map] at eW
        refine k W _ H' s' eW (Mix.bad_rep n8 hq hc (fun y hy => ?_) (by rw [List.length_append]; simp only [List.length_append, List.length_cons, List.length_nil] at hw8 ⊢; omega) (by simp) Mix.bad_twice)
        rcases List.mem_append.mp hy with hy | hy
        · exact hwc y hy
        · rw [List.mem_singleton.mp hy]
          exact hwc x (by simp)
    -- kind 3
    refine ⟨_, rfl, rfl, _, rfl, ?_⟩
    refine ite2 (fun _ => ?_) (fun _ => ?_)
    · refine ⟨D, _, c, strV [49, 48], rfl, rfl, eD, by omega, by omega, fun H1 s1 => ⟨congrArg V.str ten_is, rfl⟩, fun W H' s' _ eW => ?_⟩
      rw [put_map] at eW
      exact k W _ H' s' eW (Mix.bad_rep n8 hq hc (by decide) (by decide) (by decide) (Mix.bad_ten n))
    -- kind 4
    refine ⟨_, rfl, rfl, _, rfl, ?_⟩
    refine ite2 (fun _ => ?_) (fun _ => ?_)
    · refine ⟨D, _, c, strV (wd ++ [48 + n] ++ []), rfl, rfl, eD, by omega, by omega, fun H1 s1 => ?_, fun W H' s' _ eW => ?_⟩
      · refine ⟨_, rfl, _, rfl, _, rfl, ?_, _, _, rfl, rfl, ?_, ?_, rfl⟩
        · have : (n : Int).natAbs < 2 ^ 4 := by omega
          by_cases hz0 : (n : Int).natAbs = 0
          · rw [hz0]; decide
          · exact Nat.lt_trans ((Nat.log2_lt hz0).mpr this) (by decide)
        · refine le1000 ?_
          rw [Mix.str_dig (by omega) (by omega), hwl, Mix.st_len]
          simp only [List.length_cons, List.length_nil]
          omega
        · rw [Mix.str_dig (by omega) (by omega), Mix.st_app, List.append_nil]
          rfl
      · rw [put_map] at eW
        refine k W _ H' s' eW (Mix.bad_rep n8 hq hc (fun y hy => ?_) (by simp only [List.length_append, List.length_cons, List.length_nil]; omega) (by simp) (Mix.bad_sign (.inr (by omega))))
        rw [List.append_nil] at hy
        rcases List.mem_append.mp hy with hy | hy
        · exact hwc y hy
        · have := List.mem_singleton.mp hy
          omega
    -- kind 5
    refine ⟨_, rfl, rfl, _, rfl, ?_⟩
    refine ite2 (fun _ => ?_) (fun _ => ?_)
    · refine ⟨(13 : Int), rfl, by decide, by decide, fun d hd => lc_range (n := 13) (fun i σ H2 => i ≤ 13 ∧ (∃ c : Option V, σ = [c]) ∧ H2 = upd H d (.lst ((List.replicate i [48]).map strV)))
        ⟨by decide, ⟨none, rfl⟩, rfl⟩ ?_ ?_⟩
      · rintro i σ H2 hi ⟨_, ⟨c', rfl⟩, rfl⟩
        refine yesG ?_
        refine ⟨_, upd_same, lt1000 (by rw [List.length_map, List.length_replicate]; omega), by omega, ⟨_, rfl⟩, ?_⟩
        rw [upd_upd, List.replicate_succ', List.map_append, Mix.nought_is]
        rfl
      · rintro σ H2 ⟨_, ⟨c', rfl⟩, rfl⟩
        exact k d _ _ (same_upd hd) upd_same (Mix.bad_many n)
    -- the signs
    obtain ⟨j, hj, hj10⟩ : ∃ j : Nat, ce / 9 % 10 = (j : Int) ∧ j < 10 := ⟨(ce / 9 % 10).toNat, by omega, by omega⟩
    obtain ⟨x, hx⟩ : ∃ x, lawSigns[j]? = some x := ⟨_, List.getElem?_eq_getElem (by show j < 10; exact hj10)⟩
    obtain ⟨x1, x2, x3⟩ := signs_bad x (List.mem_of_getElem? hx)
    refine ⟨fun v H' => v = strV [x] ∧ Same H H', ?_, ?_⟩
    · refine ⟨le1000 (by simp), fun l hl => ?_⟩
      refine ⟨_, rfl, _, _, rfl, rfl, ⟨by decide, by decide⟩, _, _, rfl, rfl, (by show (0 : Int) < 10; decide), l, _, _, strV [x], rfl, rfl, SqL.of upd_same, ?_, rfl, same_upd hl⟩
      rw [hj, signs_are]
      exact atI_nat (by rw [List.getElem?_map, hx]; rfl)
    rintro v H1 ⟨rfl, s1⟩
    -- word
    refine ⟨fun v H' => v = strV (wd.take pl ++ [x] ++ wd.drop pl) ∧ H1 = H', ?_, ?_⟩
    · refine ⟨_, rfl, _, rfl, _, rfl, _, rfl, le1000 (by omega), ?_⟩
      rw [Mix.slice_upto hpll]
      refine ⟨_, rfl, _, _, rfl, rfl, le1000 (by rw [Mix.st_len, Mix.st_len, List.length_take]; simp only [List.length_cons, List.length_nil]; omega), ?_⟩
      refine ⟨_, rfl, _, rfl, _, rfl, _, rfl, le1000 (by omega), ?_⟩
      rw [Mix.slice_from hpll]
      refine ⟨_, _, rfl, rfl, le1000 (by rw [Mix.st_app, Mix.st_len, Mix.st_len]; simp only [List.length_append, List.length_take, List.length_drop, List.length_cons, List.length_nil]; omega), ?_, rfl⟩
      rw [Mix.st_app, Mix.st_app]
    rintro v H' ⟨rfl, rfl⟩
    refine ⟨D, _, c, strV (wd.take pl ++ [x] ++ wd.drop pl), rfl, rfl, s1 _ _ eD, by omega, by omega, fun H2 s2 => ⟨_, rfl, rfl, rfl⟩, fun W H' s' _ eW => ?_⟩
    rw [put_map] at eW
    refine k W _ H' (s1.trans s') eW (Mix.bad_rep n8 hq hc (fun y hy => ?_) (by simp only [List.length_append, List.length_take, List.length_drop, List.length_cons, List.length_nil]; omega) (by simp) (Mix.bad_sign (by omega)))
    rcases List.mem_append.mp hy with hy | hy
    · rcases List.mem_append.mp hy with hy | hy
      · exact hwc y (List.mem_of_mem_take hy)
      · rw [List.mem_singleton.mp hy]
        exact ⟨x1, x2⟩
    · exact hwc y (List.mem_of_mem_drop hy)

abbrev nm_law : List Str := ["script", "wares", "plan", "words", "mixture", "at", "cell", "text", "far"]
theorem sc_law : FnScope ["script", "wares", "plan", "words", "mixture", "at", "cell", "text", "far"] ["script"] (defScope s_law) := ⟨rfl, rfl, rfl, by decide +kernel, rfl, by decide +kernel, by decide +kernel⟩
/-- the texts given whole -/
abbrev lawTexts : List (List Nat) := [[], [32], [32, 32], [10], [9], [32, 10]]
theorem texts_are : [V.str "", V.str " ", V.str "  ", V.str "\n", V.str "\t", V.str " \n"] = lawTexts.map strV := by decide +kernel
theorem texts_bad {n : Nat} : ∀ l ∈ lawTexts, l = [] ∨ Mix.BadT n l := by
  intro l hl
  simp only [List.mem_cons, List.not_mem_nil, or_false] at hl
  rcases hl with rfl | rfl | rfl | rfl | rfl | rfl
  · exact .inl rfl
  · exact .inr (Mix.badT_of (by decide) (by decide) (by decide) ⟨[], by decide, .inl rfl⟩)
  · exact .inr (Mix.badT_of (by decide) (by decide) (by decide) ⟨[], by decide, .inl rfl⟩)
  · exact .inr (Mix.badT_of (by decide) (by decide) (by decide) ⟨[10], by decide, .inr (Mix.isSet_false_of (x := -38) (by decide) (.inl (by decide)))⟩)
  · exact .inr (Mix.badT_of (by decide) (by decide) (by decide) ⟨[9], by decide, .inr (Mix.isSet_false_of (x := -39) (by decide) (.inl (by decide)))⟩)
  · exact .inr (Mix.badT_of (by decide) (by decide) (by decide) ⟨[], by decide, .inl rfl⟩)
def dS (ls : List (List Nat)) : PyData := .list (ls.map fun a => .str (Mix.st a))
theorem datAll_strs {K : PySem.W.Frag} {H : Hp} : ∀ ls : List (List Nat), DatAll K H (ls.map strV) (ls.map fun a => .str (Mix.st a))
  | [] => .nil
  | a :: r => .cons (.str _) (datAll_strs r)
theorem strOk_st {l : List Nat} (h : ∀ c ∈ l, c < 128) : PyData.strOk (Mix.st l) = true := by
  unfold PyData.strOk Mix.st
  rw [List.all_toArray, List.all_eq_true]
  intro c hc
  exact decide_eq_true (Nat.lt_trans (h c hc) (by decide))
theorem layAll_strs : ∀ ls : List (List Nat), (∀ a ∈ ls, ∀ c ∈ a, c < 128) → PyData.canLayAll0 (ls.map fun a => .str (Mix.st a)) = true
  | [], _ => by simp [PyData.canLayAll0]
  | a :: r, h => by
    rw [List.map_cons, PyData.canLayAll0, layAll_strs r fun b hb => h b (List.mem_cons_of_mem _ hb), PyData.canLay0, strOk_st (h a List.mem_cons_self)]
    rfl
theorem lay_dS (ls : List (List Nat)) (h : ∀ a ∈ ls, ∀ c ∈ a, c < 128) : (dS ls).canLay0 = true := by
  unfold dS
  rw [PyData.canLay0]
  exact layAll_strs ls h
theorem depAll_strs : ∀ ls : List (List Nat), PyData.depthAll (ls.map fun a => .str (Mix.st a)) ≤ 1
  | [] => by simp [PyData.depthAll]
  | a :: r => by
    have := depAll_strs r
    rw [List.map_cons, PyData.depthAll]
    simp only [PyData.depth]
    omega
theorem dep_dS (ls : List (List Nat)) : (dS ls).depth ≤ 3 := by
  have := depAll_strs ls
  unfold dS
  rw [PyData.depth]
  omega
theorem ok_law {f : Addr} {fd : FuncData} (F : Fun K "law" "law" s_law f fd) (O1 : Ok P w K mg base "_law_plan_by" 2 ["script"] (sp__law_plan_by K)) (O2 : Ok P w K mg base "_law_cell_at" 1 ["script", "k"] (sp__law_cell_at K))
    (O3 : Ok P w K mg base "_law_spoilt" 1 ["words", "kind", "at", "cell", "wares"] sp__law_spoilt) (O4 : Ok P w K mg base "_law_tried" 4 ["wares", "text"] sp__law_tried) (zlen : mg "len" = none) (zstr : mg "str" = none) :
    FnOk P w K mg base CX0 5 f fd ["script"] (spLaw K) := by
  refine F.ok sc_law (fun vs H Q E h => ?_) (fun cdv A outer s H vs Q E hr h => ?_)
  · obtain ⟨a, ns, rfl, _⟩ := h
    rfl
  · obtain ⟨a, ns, rfl, hS, hlen, kk⟩ := h
    have hun := hr.units
    have nd := sc_law.nd
    have r1 : Room 1 _ := hr.mono (by decide)
    have r2 : Room 2 _ := hr.mono (by decide)
    refine ⟨_, pss_cons (ps_asg (pe_callO O1 r2 (pa_cons (pv 0) pa_nil)) (pg_tup (n := 2) rfl (pgs_cons (pg_name (i := 1) nd rfl (Or.inl rfl)) (pgs_cons (pg_name (i := 2) nd rfl (Or.inl rfl)) pgs_nil))))
      (pss_cons (ps_set (i := 3) nd rfl (Or.inl rfl) (pe_lst pa_nil))
      (pss_cons (ps_cut (ps_for PassesOwn.never rfl (pi_list (pv 2)) (pg_name (i := 4) nd rfl (Or.inl rfl))
        (pss_one (ps_expr (pe_bm PySem.F.plainAttrs_list PySem.F.slot_list_append PySem.F.type_list_append mt_append (pv 3)
          (pa_cons (pe_bm PySem.F.plainAttrs_str PySem.F.slot_str_join PySem.F.type_str_join mt_join pe_str (pa_cons (pe_lc ["ware"] [none] rfl (lc_of (defScope s_law).names nm_law (fun _ => rfl) rfl rfl (by decide +kernel)) (pi_list (pv 4))
            (fun _ _ _ _ _ => pg_lc 0 (by decide +kernel)) (fun _ _ _ _ _ => pif_nil) (fun _ _ _ _ _ => pe_callTy call_str_int (by rfl) zstr bt_str (pa_cons (pv 0) pa_nil))) pa_nil)) pa_nil))))))
      (pss_cons (ps_cut (ps_if (pt_cmpR (op_eqD hun) (pv 3) (pe_lst pa_nil) (nomark _)) (pss_one (ps_set (i := 3) nd rfl (Or.inl rfl) (pe_lst (pa_cons pe_str pa_nil)))) pss_nil))
      (pss_cons (ps_set (i := 5) nd rfl (Or.inl rfl) (pe_cut (pe_op op_mod (pe_callO O2 r1 (pa_cons (pv 0) (pa_cons pe_int pa_nil))) (pe_callB call_len_seq (by rfl) zlen PySem.boot_len (pa_cons (pv 3) pa_nil)))))
      (pss_cons (ps_set (i := 6) nd rfl (Or.inl rfl) (pe_cut (pe_op op_mod (pe_callO O2 r1 (pa_cons (pv 0) (pa_cons pe_int pa_nil))) (pe_op op_pow pe_int pe_int))))
      (pss_cons (ps_set (i := 3) nd rfl (Or.inl rfl) (pe_cut (pe_callO O3 r1 (pa_cons (pv 3) (pa_cons (pe_op op_mod (pe_callO O2 r1 (pa_cons (pv 0) (pa_cons pe_int pa_nil))) pe_int) (pa_cons (pv 5) (pa_cons (pv 6) (pa_cons (pv 1) pa_nil))))))))
      (pss_cons (ps_set (i := 7) nd rfl (Or.inl rfl) (pe_cut (pe_bm PySem.F.plainAttrs_str PySem.F.slot_str_join PySem.F.type_str_join mt_join pe_str (pa_cons (pv 3) pa_nil))))
      (pss_cons (ps_cut (ps_if (pt_cmpR op_eq (pe_op op_mod (pe_callO O2 r1 (pa_cons (pv 0) (pa_cons pe_int pa_nil))) pe_int) pe_int (nomark _))
        (pss_one (ps_set (i := 7) nd rfl (Or.inl rfl) (pe_ix ix_list (pe_lst (pa_cons pe_str (pa_cons pe_str (pa_cons pe_str (pa_cons pe_str (pa_cons pe_str (pa_cons pe_str pa_nil))))))) (pe_op op_mod (pe_op op_fdiv (pe_callO O2 r1 (pa_cons (pv 0) (pa_cons pe_int pa_nil))) pe_int) pe_int) (fun _ _ => rfl)))) pss_nil))
      (pss_cons (ps_if (pt_cmpR op_eq (pe_op op_mod (pe_callO O2 r1 (pa_cons (pv 0) (pa_cons pe_int pa_nil))) pe_int) pe_int (nomark _))
        (pss_cons (ps_set (i := 8) nd rfl (Or.inl rfl) (pe_cut (pe_op op_mod (pe_callO O2 r1 (pa_cons (pv 0) (pa_cons pe_int pa_nil))) (pe_op op_pow pe_int pe_int))))
        (pss_one (ps_ret (pe_cmpR op_eq (pe_callO O4 hr (pa_cons (pe_cut (pe_ix ix_list (pe_lst (pa_cons pe_int (pa_cons pe_int (pa_cons (pe_op op_sub pe_int (pv 8)) (pa_cons (pe_op op_add pe_int (pv 8)) pa_nil))))) (pe_op op_mod (pe_op op_fdiv (pe_callO O2 r1 (pa_cons (pv 0) (pa_cons pe_int pa_nil))) pe_int) pe_int) (fun _ _ => rfl))) (pa_cons (pv 7) pa_nil))) pe_str (nomark _))))) pss_nil)
      (pss_cons (ps_if (pt_cmpR op_eq (pv 7) pe_str (nomark _)) (pss_one (ps_ret (pe_cmpR op_eq (pe_callO O4 hr (pa_cons (pv 1) (pa_cons (pv 7) pa_nil))) pe_str (nomark _)))) pss_nil)
      (pss_one (ps_ret (pe_cmpR op_eq (pe_callO O4 hr (pa_cons (pv 1) (pa_cons (pv 7) pa_nil))) pe_str (nomark _)))))))))))))), ?_⟩
    -- wares, plan
    refine ⟨_, rfl, a, ns, rfl, hS, fun n p D t H1 n1 n8 hp s1 ht et N1 => ?_⟩
    refine ⟨t, _, rfl, SqT.of et, rfl, _, _, rfl, _, _, rfl, rfl, ?_⟩
    obtain ⟨h12, hall⟩ := Mix.isPlan_iff.mp hp
    obtain ⟨_, xs, e, ex, rx⟩ := N1.ll
    cases e
    have hxl := rx.length
    -- words
    refine ⟨Nat.zero_le _, fun B hB => ?_⟩
    refine ⟨fun σ H2 => Same H1 H2 ∧ ∃ x : Option V, σ = [some (.ref a), some (.int n), some (.ref D), some (.ref B), x, none, none, none, none] ∧ H2 B = some (.lst ((p.map Mix.wr).map strV)), ?_, ?_⟩
    · refine ⟨_, rfl, D, rfl, ⟨_, SqL.of (same_upd hB _ _ ex)⟩, for_list (K := K) (a := D) (xs := xs) (fun i σ H2 => Same H1 H2 ∧ ∃ x : Option V, σ = [some (.ref a), some (.int n), some (.ref D), some (.ref B), x, none, none, none, none] ∧ H2 B = some (.lst (((p.take i).map Mix.wr).map strV)))
        ⟨same_upd hB, none, rfl, upd_same⟩ (fun i σ H2 _ ⟨s2, _⟩ => SqL.of (s2 _ _ ex)) ?_ ?_⟩
      · rintro i y σ H2 hi ⟨s2, x, rfl, eB⟩
        obtain ⟨m, hm, b, rfl, hbm⟩ := Paired.get rx hi
        have hil : i < p.length := (List.getElem?_eq_some_iff.mp hm).1
        have hms := (hall m (List.mem_of_getElem? hm)).2
        have hm8 := Mix.isSet_len hms
        have hmm := Mix.isSet_mem hms
        refine ⟨_, rfl, .inl ⟨rfl, _, SqL.of eB⟩, rfl, _, rfl, b, rfl, ⟨_, SqL.of (s2 _ _ hbm)⟩, fun d hd => lc_list (K := K) (a := b) (xs := m.map V.int) (fun i σ H3 => (∃ c : Option V, σ = [c]) ∧ H3 = upd H2 d (.lst (((m.take i).map fun x => Mix.st [48 + x.toNat]).map V.str)))
          ⟨⟨none, rfl⟩, rfl⟩ (fun i σ H3 _ ⟨_, e⟩ => by subst e; exact SqL.of (same_upd hd _ _ (s2 _ _ hbm))) ?_ ?_⟩
        · rintro j y σ H3 hj ⟨⟨c, rfl⟩, rfl⟩
          obtain ⟨z, rfl, hz⟩ := map_int_get hj
          have hjl : j < m.length := (List.getElem?_eq_some_iff.mp hz).1
          obtain ⟨z0, z1⟩ := hmm z (List.mem_of_getElem? hz)
          refine yesG ?_
          refine ⟨_, rfl, z, rfl, ?_, _, upd_same, lt1000 (by rw [List.length_map, List.length_map, List.length_take]; omega), ⟨_, rfl⟩, ?_⟩
          · have : z.natAbs < 2 ^ 4 := by omega
            by_cases hz0 : z.natAbs = 0
            · rw [hz0]; decide
            · exact Nat.lt_trans ((Nat.log2_lt hz0).mpr this) (by decide)
          · rw [upd_upd, List.take_add_one, hz, Mix.str_dig z0 (by omega)]
            simp
        · rintro σ H3 ⟨⟨c, rfl⟩, rfl⟩
          rw [List.length_map, List.take_length]
          refine ⟨_, d, _, rfl, rfl, upd_same, by decide, fun y hy => ?_, by rw [List.length_map]; omega, ?_⟩
          · obtain ⟨x, _, rfl⟩ := List.mem_map.mp hy
            rw [Mix.st_len]
            simp
          · rw [Mix.figures_text]
            refine ⟨B, _, _, rfl, rfl, same_upd hd _ _ eB, lt1000 (by rw [List.length_map, List.length_map, List.length_take]; omega), ?_⟩
            refine ⟨(s2.trans (same_upd hd)).upd hB, _, rfl, ?_⟩
            rw [upd_same, List.take_add_one, hm, List.map_append, List.map_append]
            rfl
      · rintro σ H2 ⟨s2, x, rfl, eB⟩
        rw [hxl, List.take_length] at eB
        exact ⟨s2, x, rfl, eB⟩
    rintro σ H2 ⟨s2, x, rfl, eB⟩
    have s12 := s1.trans s2
    -- if words == []
    refine ⟨fun σ H3 => ∃ (q : List (List Int)) (B' : Addr), σ = [some (.ref a), some (.int n), some (.ref D), some (.ref B'), x, none, none, none, none] ∧ Same H2 H3 ∧ H3 B' = some (.lst ((q.map Mix.wr).map strV)) ∧ Mix.isPlan n q = true ∧ q ≠ [], ?_, ?_⟩
    · refine ⟨_, rfl, Nat.zero_le _, fun l hl => ⟨dS (p.map Mix.wr), dS [], .lst (SqL.of (same_upd hl _ _ eB)) (datAll_strs _), .lst (SqL.of (xs := []) upd_same) .nil, lay_dS _ (fun z hz y hy => ((Mix.plan_words n8 hp).1 z hz y hy).1), lay_dS _ (fun _ z => nomatch z), Nat.le_trans (dep_dS _) (by decide), _, rfl, ?_⟩⟩
      cases p with
      | nil =>
        refine iteT ?_
        refine ⟨le1000 (by simp), fun r hr => ⟨[[0]], r, rfl, (same_upd hl).trans (same_upd hr), ?_, ?_, by simp⟩⟩
        · rw [upd_same, Mix.nought_is]
          rfl
        · rw [Mix.isPlan_iff]
          refine ⟨by decide, fun m hm => ?_⟩
          rw [List.mem_singleton.mp hm]
          exact ⟨by simp, Mix.isSet_one (by decide) (by omega)⟩
      | cons m r =>
        refine iteF ?_
        exact ⟨m :: r, B, rfl, same_upd hl, same_upd hl _ _ eB, hp, by simp⟩
    clear eB
    rintro σ H3 ⟨q, B', rfl, s3, eB, hq, hqs⟩
    have s13 := s12.trans s3
    have hq12 := (Mix.isPlan_iff.mp hq).1
    have hqpos : 0 < q.length := List.length_pos_iff.mpr hqs
    have hql : ((q.map Mix.wr).map strV).length = q.length := by rw [List.length_map, List.length_map]
    -- at
    obtain ⟨c, hc, hcl⟩ : ∃ c : Nat, Mix.cell ns 20 % ((((q.map Mix.wr).map strV).length : Nat) : Int) = (c : Int) ∧ c < q.length := by
      rw [hql]
      have h1 := Int.emod_nonneg (Mix.cell ns 20) (b := (q.length : Int)) (by omega)
      have h2 := Int.emod_lt_of_pos (Mix.cell ns 20) (b := (q.length : Int)) (by omega)
      exact ⟨(Mix.cell ns 20 % (q.length : Int)).toNat, by omega, by omega⟩
    refine ⟨fun v H' => v = .int c ∧ H3 = H', ⟨_, rfl, a, ns, 20, rfl, s13.seq hS, by decide, _, rfl, B', _, rfl, .inl (SqL.of eB), _, _, rfl, rfl, (by show (0 : Int) < ((((q.map Mix.wr).map strV).length : Nat) : Int); omega), congrArg V.int hc, rfl⟩, ?_⟩
    rintro v H' ⟨rfl, rfl⟩
    -- cell
    obtain ⟨ce, hce, hce0⟩ : ∃ ce : Int, Mix.cell ns 22 % 10 ^ 6 = ce ∧ 0 ≤ ce := ⟨_, rfl, Int.emod_nonneg _ (by decide)⟩
    refine ⟨fun v H' => v = .int ce ∧ H3 = H', ⟨_, rfl, a, ns, 22, rfl, s13.seq hS, by decide, _, _, rfl, rfl, ⟨by decide, by decide, by decide⟩, _, _, rfl, rfl, (by show (0 : Int) < 10 ^ Int.toNat 6; decide), congrArg V.int hce, rfl⟩, ?_⟩
    rintro v H' ⟨rfl, rfl⟩
    -- words spoilt
    refine ⟨fun v H' => Same H3 H' ∧ ∃ (W : Addr) (ws : List (List Nat)), v = .ref W ∧ H' W = some (.lst (ws.map strV)) ∧ Mix.BadW n ws, ⟨_, rfl, _, rfl, a, ns, 21, rfl, s13.seq hS, by decide, _, _, rfl, rfl, (by show (0 : Int) < _; decide), _, rfl, _, rfl, _, rfl, B', _, ce, c, n, q, rfl, eB, hq, hcl, hce0, n8, fun W ws H' s' eW hb => ⟨s', W, ws, rfl, eW, hb⟩⟩, ?_⟩
    rintro v H4 ⟨s4, W, ws, rfl, eW, hb⟩
    have s14 := s13.trans s4
    -- text
    refine ⟨fun v H' => v = strV (Mix.joinL 32 ws) ∧ H4 = H', ⟨rfl, _, rfl, _, W, ws.map Mix.st, rfl, rfl, by rw [List.map_map]; exact eW, by decide +kernel, fun y hy => ?_, by rw [List.length_map]; have := hb.len; omega, ?_, rfl⟩, ?_⟩
    · obtain ⟨z, hz, rfl⟩ := List.mem_map.mp hy
      rw [Mix.st_len]
      exact Nat.le_trans (hb.each z hz) (by decide)
    · rw [Mix.join_txt, Mix.blank_is, Mix.join_st]
    rintro v H' ⟨rfl, rfl⟩
    -- the texts given whole
    refine ⟨fun σ H5 => ∃ l : List Nat, σ = [some (.ref a), some (.int n), some (.ref D), some (.ref W), x, some (.int c), some (.int ce), some (strV l), none] ∧ Same H4 H5 ∧ (l = [] ∨ Mix.BadT n l), ?_, ?_⟩
    · refine ⟨_, rfl, a, ns, 24, rfl, s14.seq hS, by decide, _, _, rfl, rfl, (by show (0 : Int) < _; decide), rfl, _, rfl, ?_⟩
      refine ite2 (fun _ => ?_) (fun _ => ?_)
      · obtain ⟨j, hj, hj6⟩ : ∃ j : Nat, Mix.cell ns 24 / 4 % 6 = (j : Int) ∧ j < 6 := ⟨(Mix.cell ns 24 / 4 % 6).toNat, by omega, by omega⟩
        obtain ⟨l, hl⟩ : ∃ l, lawTexts[j]? = some l := ⟨_, List.getElem?_eq_getElem (by show j < 6; exact hj6)⟩
        refine ⟨le1000 (by simp), fun r hr => ?_⟩
        refine ⟨_, rfl, a, ns, 24, rfl, (s14.trans (same_upd hr)).seq hS, by decide, _, _, rfl, rfl, ⟨by decide, by decide⟩, _, _, rfl, rfl, (by show (0 : Int) < 6; decide), r, _, _, strV l, rfl, rfl, SqL.of upd_same, ?_, l, rfl, same_upd hr, texts_bad l (List.mem_of_getElem? hl)⟩
        rw [hj, texts_are]
        exact atI_nat (by rw [List.getElem?_map, hl]; rfl)
      · exact ⟨_, rfl, Same.refl _, .inr hb.text⟩
    rintro σ H5 ⟨l, rfl, s5, hl⟩
    have s15 := s14.trans s5
    have hcode : (∀ c ∈ l, c < 128) ∧ l.length ≤ 800 := by
      rcases hl with rfl | hl
      · exact ⟨(fun _ z => nomatch z), by decide⟩
      · exact ⟨hl.code, hl.len⟩
    refine ⟨_, rfl, a, ns, 23, rfl, s15.seq hS, by decide, _, _, rfl, rfl, (by show (0 : Int) < _; decide), rfl, _, rfl, ?_⟩
    refine ite2 (fun _ => ?_) (fun _ => ?_)
    · -- wares out of bounds
      obtain ⟨far, hfar, hfar0⟩ : ∃ far : Int, Mix.cell ns 25 % 10 ^ 20 = far ∧ 0 ≤ far := ⟨_, rfl, Int.emod_nonneg _ (by decide)⟩
      refine ⟨fun v H' => v = .int far ∧ H5 = H', ⟨_, rfl, a, ns, 25, rfl, s15.seq hS, by decide, _, _, rfl, rfl, ⟨by decide, by decide, by decide⟩, _, _, rfl, rfl, (by show (0 : Int) < 10 ^ Int.toNat 20; decide), congrArg V.int hfar, rfl⟩, ?_⟩
      rintro v H' ⟨rfl, rfl⟩
      obtain ⟨j, hj, hj4⟩ : ∃ j : Nat, Mix.cell ns 23 / 4 % 4 = (j : Int) ∧ j < 4 := ⟨(Mix.cell ns 23 / 4 % 4).toNat, by omega, by omega⟩
      refine ⟨fun v H' => Same H5 H' ∧ ∃ wn : Int, v = .int wn ∧ ¬ (1 ≤ wn ∧ wn ≤ 8), ?_, ?_⟩
      · refine ⟨_, rfl, _, _, rfl, rfl, _, rfl, _, _, rfl, rfl, le1000 (by simp), fun r hr => ?_⟩
        have hat : ∃ wn : Int, ([V.int 0, V.int 9, V.int (0 - far), V.int (9 + far)] : List V)[j]? = some (.int wn) ∧ ¬ (1 ≤ wn ∧ wn ≤ 8) := by
          obtain rfl | rfl | rfl | rfl : j = 0 ∨ j = 1 ∨ j = 2 ∨ j = 3 := by omega
          · exact ⟨0, rfl, by omega⟩
          · exact ⟨9, rfl, by omega⟩
          · exact ⟨0 - far, rfl, by omega⟩
          · exact ⟨9 + far, rfl, by omega⟩
        obtain ⟨wn, hwn, hbad⟩ := hat
        refine ⟨_, rfl, a, ns, 23, rfl, (s15.trans (same_upd hr)).seq hS, by decide, _, _, rfl, rfl, ⟨by decide, by decide⟩, _, _, rfl, rfl, (by show (0 : Int) < 4; decide), r, _, _, .int wn, rfl, rfl, SqL.of upd_same, ?_, same_upd hr, wn, rfl, hbad⟩
        rw [hj]
        exact atI_nat hwn
      rintro v H6 ⟨s6, wn, rfl, hbad⟩
      exact ⟨_, rfl, wn, l, rfl, hcode.1, hcode.2, fun _ H' s' => ⟨rfl, kk _⟩, fun z1 z2 => absurd ⟨z1, z2⟩ hbad, fun z1 z2 => absurd ⟨z1, z2⟩ hbad⟩
    refine ⟨_, rfl, rfl, _, rfl, ?_⟩
    rw [Mix.empty_is]
    rcases hl with rfl | hl
    · refine iteT ?_
      exact ⟨_, rfl, _, rfl, (n : Int), [], rfl, hcode.1, hcode.2, fun z => absurd ⟨by omega, by omega⟩ z, fun _ _ z => (by cases z), fun _ _ _ H' s' => ⟨rfl, kk _⟩⟩
    · have : decide (V.str (Mix.st l) = V.str (Mix.st [])) = false := decide_eq_false fun z => hl.ne (Mix.st_inj (V.str.inj z))
      rw [this]
      refine iteF ?_
      exact ⟨_, rfl, _, rfl, (n : Int), l, rfl, hcode.1, hcode.2, fun z => absurd ⟨by omega, by omega⟩ z, fun _ _ _ H' s' => ⟨rfl, kk _⟩, fun _ _ z => absurd z (by rw [hl.bad]; decide)⟩

end
theorem all_mk {l : PySem.W.OpenLaw} {w : World} {K : PySem.W.Frag} {h : Heap} {mg : Str → Option Value} {fa : Addr} (X : K.In h) (G : h.Ns mainGlobals mg) (hfa : mg "law" = some (.ref fa))
    {f0 : Addr} {od0 an0 : Option Addr} {sl0 : Array (Option Value)} {oc0 kV0 dc0 pm0 cd0 ct0 : Value}
    {f1 : Addr} {od1 an1 : Option Addr} {sl1 : Array (Option Value)} {oc1 kV1 dc1 pm1 cd1 ct1 : Value}
    {f2 : Addr} {od2 an2 : Option Addr} {sl2 : Array (Option Value)} {oc2 kV2 dc2 pm2 cd2 ct2 : Value}
    {f3 : Addr} {od3 an3 : Option Addr} {sl3 : Array (Option Value)} {oc3 kV3 dc3 pm3 cd3 ct3 : Value}
    {f4 : Addr} {od4 an4 : Option Addr} {sl4 : Array (Option Value)} {oc4 kV4 dc4 pm4 cd4 ct4 : Value}
    {f5 : Addr} {od5 an5 : Option Addr} {sl5 : Array (Option Value)} {oc5 kV5 dc5 pm5 cd5 ct5 : Value}
    {f6 : Addr} {od6 an6 : Option Addr} {sl6 : Array (Option Value)} {oc6 kV6 dc6 pm6 cd6 ct6 : Value}
    {f7 : Addr} {od7 an7 : Option Addr} {sl7 : Array (Option Value)} {oc7 kV7 dc7 pm7 cd7 ct7 : Value}
    {f8 : Addr} {od8 an8 : Option Addr} {sl8 : Array (Option Value)} {oc8 kV8 dc8 pm8 cd8 ct8 : Value}
    {f9 : Addr} {od9 an9 : Option Addr} {sl9 : Array (Option Value)} {oc9 kV9 dc9 pm9 cd9 ct9 : Value}
    {f10 : Addr} {od10 an10 : Option Addr} {sl10 : Array (Option Value)} {oc10 kV10 dc10 pm10 cd10 ct10 : Value}
    {f11 : Addr} {od11 an11 : Option Addr} {sl11 : Array (Option Value)} {oc11 kV11 dc11 pm11 cd11 ct11 : Value}
    {t_MIXTURES_LIMIT : Tok}
    {t_WARES_LIMIT : Tok}
    {PD q0 q1 q2 q3 q4 q5 q6 q7 : Addr}
    (a0 : PySem.W.nsIn K mainGlobals "is_set" = some (some (.ref f0))) (l0 : K.lookup f0 = some ⟨oc0, od0, .func (PySem.W.fnOf "is_set" "is_set" (defArgs s_is_set) (defBody s_is_set) (defScope s_is_set) .none kV0 dc0 pm0 an0 cd0 ct0), sl0⟩) (c0 : PySem.W.codeIn K cd0 "is_set" = true) (k0 : PySem.W.keepIn K (.ref f0) = true)
    (a1 : PySem.W.nsIn K mainGlobals "is_plan" = some (some (.ref f1))) (l1 : K.lookup f1 = some ⟨oc1, od1, .func (PySem.W.fnOf "is_plan" "is_plan" (defArgs s_is_plan) (defBody s_is_plan) (defScope s_is_plan) .none kV1 dc1 pm1 an1 cd1 ct1), sl1⟩) (c1 : PySem.W.codeIn K cd1 "is_plan" = true) (k1 : PySem.W.keepIn K (.ref f1) = true)
    (a2 : PySem.W.nsIn K mainGlobals "check_wares" = some (some (.ref f2))) (l2 : K.lookup f2 = some ⟨oc2, od2, .func (PySem.W.fnOf "check_wares" "check_wares" (defArgs s_check_wares) (defBody s_check_wares) (defScope s_check_wares) .none kV2 dc2 pm2 an2 cd2 ct2), sl2⟩) (c2 : PySem.W.codeIn K cd2 "check_wares" = true) (k2 : PySem.W.keepIn K (.ref f2) = true)
    (a3 : PySem.W.nsIn K mainGlobals "numbers" = some (some (.ref f3))) (l3 : K.lookup f3 = some ⟨oc3, od3, .func (PySem.W.fnOf "numbers" "numbers" (defArgs s_numbers) (defBody s_numbers) (defScope s_numbers) .none kV3 dc3 pm3 an3 cd3 ct3), sl3⟩) (c3 : PySem.W.codeIn K cd3 "numbers" = true) (k3 : PySem.W.keepIn K (.ref f3) = true)
    (a4 : PySem.W.nsIn K mainGlobals "read" = some (some (.ref f4))) (l4 : K.lookup f4 = some ⟨oc4, od4, .func (PySem.W.fnOf "read" "read" (defArgs s_read) (defBody s_read) (defScope s_read) .none kV4 dc4 pm4 an4 cd4 ct4), sl4⟩) (c4 : PySem.W.codeIn K cd4 "read" = true) (k4 : PySem.W.keepIn K (.ref f4) = true)
    (a5 : PySem.W.nsIn K mainGlobals "_law_cell_at" = some (some (.ref f5))) (l5 : K.lookup f5 = some ⟨oc5, od5, .func (PySem.W.fnOf "_law_cell_at" "_law_cell_at" (defArgs s__law_cell_at) (defBody s__law_cell_at) (defScope s__law_cell_at) .none kV5 dc5 pm5 an5 cd5 ct5), sl5⟩) (c5 : PySem.W.codeIn K cd5 "_law_cell_at" = true) (k5 : PySem.W.keepIn K (.ref f5) = true)
    (a6 : PySem.W.nsIn K mainGlobals "_law_word_of" = some (some (.ref f6))) (l6 : K.lookup f6 = some ⟨oc6, od6, .func (PySem.W.fnOf "_law_word_of" "_law_word_of" (defArgs s__law_word_of) (defBody s__law_word_of) (defScope s__law_word_of) .none kV6 dc6 pm6 an6 cd6 ct6), sl6⟩) (c6 : PySem.W.codeIn K cd6 "_law_word_of" = true) (k6 : PySem.W.keepIn K (.ref f6) = true)
    (a7 : PySem.W.nsIn K mainGlobals "_law_some_by" = some (some (.ref f7))) (l7 : K.lookup f7 = some ⟨oc7, od7, .func (PySem.W.fnOf "_law_some_by" "_law_some_by" (defArgs s__law_some_by) (defBody s__law_some_by) (defScope s__law_some_by) .none kV7 dc7 pm7 an7 cd7 ct7), sl7⟩) (c7 : PySem.W.codeIn K cd7 "_law_some_by" = true) (k7 : PySem.W.keepIn K (.ref f7) = true)
    (a8 : PySem.W.nsIn K mainGlobals "_law_plan_by" = some (some (.ref f8))) (l8 : K.lookup f8 = some ⟨oc8, od8, .func (PySem.W.fnOf "_law_plan_by" "_law_plan_by" (defArgs s__law_plan_by) (defBody s__law_plan_by) (defScope s__law_plan_by) .none kV8 dc8 pm8 an8 cd8 ct8), sl8⟩) (c8 : PySem.W.codeIn K cd8 "_law_plan_by" = true) (k8 : PySem.W.keepIn K (.ref f8) = true)
    (a9 : PySem.W.nsIn K mainGlobals "_law_tried" = some (some (.ref f9))) (l9 : K.lookup f9 = some ⟨oc9, od9, .func (PySem.W.fnOf "_law_tried" "_law_tried" (defArgs s__law_tried) (defBody s__law_tried) (defScope s__law_tried) .none kV9 dc9 pm9 an9 cd9 ct9), sl9⟩) (c9 : PySem.W.codeIn K cd9 "_law_tried" = true) (k9 : PySem.W.keepIn K (.ref f9) = true)
    (a10 : PySem.W.nsIn K mainGlobals "_law_spoilt" = some (some (.ref f10))) (l10 : K.lookup f10 = some ⟨oc10, od10, .func (PySem.W.fnOf "_law_spoilt" "_law_spoilt" (defArgs s__law_spoilt) (defBody s__law_spoilt) (defScope s__law_spoilt) .none kV10 dc10 pm10 an10 cd10 ct10), sl10⟩) (c10 : PySem.W.codeIn K cd10 "_law_spoilt" = true) (k10 : PySem.W.keepIn K (.ref f10) = true)
    (a11 : PySem.W.nsIn K mainGlobals "law" = some (some (.ref f11))) (l11 : K.lookup f11 = some ⟨oc11, od11, .func (PySem.W.fnOf "law" "law" (defArgs s_law) (defBody s_law) (defScope s_law) .none kV11 dc11 pm11 an11 cd11 ct11), sl11⟩) (c11 : PySem.W.codeIn K cd11 "law" = true) (k11 : PySem.W.keepIn K (.ref f11) = true)
    (z_len : PySem.W.nsIn K mainGlobals "len" = some none)
    (z_ord : PySem.W.nsIn K mainGlobals "ord" = some none)
    (z_isinstance : PySem.W.nsIn K mainGlobals "isinstance" = some none)
    (z_ValueError : PySem.W.nsIn K mainGlobals "ValueError" = some none)
    (z_range : PySem.W.nsIn K mainGlobals "range" = some none)
    (z_list : PySem.W.nsIn K mainGlobals "list" = some none)
    (z_str : PySem.W.nsIn K mainGlobals "str" = some none)
    (g_MIXTURES_LIMIT : PySem.W.nsIn K mainGlobals "MIXTURES_LIMIT" = some (some (.int 12 t_MIXTURES_LIMIT)))
    (g_WARES_LIMIT : PySem.W.nsIn K mainGlobals "WARES_LIMIT" = some (some (.int 8 t_WARES_LIMIT)))
    (p_PotError : PySem.W.nsIn K mainGlobals "PotError" = some (some (.ref PD)))
    (p_NoWares : PySem.W.nsIn K mainGlobals "NoWares" = some (some (.ref q0)))
    (p_NoPlan : PySem.W.nsIn K mainGlobals "NoPlan" = some (some (.ref q1)))
    (p_NoSet : PySem.W.nsIn K mainGlobals "NoSet" = some (some (.ref q2)))
    (p_NoMost : PySem.W.nsIn K mainGlobals "NoMost" = some (some (.ref q3)))
    (p_NoAnswers : PySem.W.nsIn K mainGlobals "NoAnswers" = some (some (.ref q4)))
    (p_NoFit : PySem.W.nsIn K mainGlobals "NoFit" = some (some (.ref q5)))
    (p_NotTold : PySem.W.nsIn K mainGlobals "NotTold" = some (some (.ref q6)))
    (p_NoNote : PySem.W.nsIn K mainGlobals "NoNote" = some (some (.ref q7)))
    (p_ok : potOk K PD [q0, q1, q2, q3, q4, q5, q6, q7] = true) (p_nd : [PD, q0, q1, q2, q3, q4, q5, q6, q7].Nodup) :
    ∃ fd : FuncData, (∀ (s : Shared) (v : Value), BindsTo s fd ⟨[v], []⟩ [("script", v)]) ∧ ∀ base : Heap, K.In base → base.Ns mainGlobals mg → FnOk l.prog w K mg base CX0 5 fa fd ["script"] (spLaw K) := by
  have e := hfa.symm.trans (PySem.W.mg_of X G a11)
  cases e
  have zz_len := PySem.W.mg_none_of X G z_len
  have zz_ord := PySem.W.mg_none_of X G z_ord
  have zz_isinstance := PySem.W.mg_none_of X G z_isinstance
  have zz_ValueError := PySem.W.mg_none_of X G z_ValueError
  have zz_range := PySem.W.mg_none_of X G z_range
  have zz_list := PySem.W.mg_none_of X G z_list
  have zz_str := PySem.W.mg_none_of X G z_str
  have gg_MIXTURES_LIMIT := PySem.W.mg_of X G g_MIXTURES_LIMIT
  have gg_WARES_LIMIT := PySem.W.mg_of X G g_WARES_LIMIT
  have PP : Pots8 K mg PD q0 q1 q2 q3 q4 q5 q6 q7 := ⟨PySem.W.mg_of X G p_PotError, .cons (PySem.W.mg_of X G p_NoWares) (.cons (PySem.W.mg_of X G p_NoPlan) (.cons (PySem.W.mg_of X G p_NoSet) (.cons (PySem.W.mg_of X G p_NoMost) (.cons (PySem.W.mg_of X G p_NoAnswers) (.cons (PySem.W.mg_of X G p_NoFit) (.cons (PySem.W.mg_of X G p_NotTold) (.cons (PySem.W.mg_of X G p_NoNote) (.nil)))))))), p_ok, p_nd⟩
  have D_is_set : Def K mg "is_set" s_is_set := def_mk X G a0 l0 c0 k0
  have D_is_plan : Def K mg "is_plan" s_is_plan := def_mk X G a1 l1 c1 k1
  have D_check_wares : Def K mg "check_wares" s_check_wares := def_mk X G a2 l2 c2 k2
  have D_numbers : Def K mg "numbers" s_numbers := def_mk X G a3 l3 c3 k3
  have D_read : Def K mg "read" s_read := def_mk X G a4 l4 c4 k4
  have D__law_cell_at : Def K mg "_law_cell_at" s__law_cell_at := def_mk X G a5 l5 c5 k5
  have D__law_word_of : Def K mg "_law_word_of" s__law_word_of := def_mk X G a6 l6 c6 k6
  have D__law_some_by : Def K mg "_law_some_by" s__law_some_by := def_mk X G a7 l7 c7 k7
  have D__law_plan_by : Def K mg "_law_plan_by" s__law_plan_by := def_mk X G a8 l8 c8 k8
  have D__law_tried : Def K mg "_law_tried" s__law_tried := def_mk X G a9 l9 c9 k9
  have D__law_spoilt : Def K mg "_law_spoilt" s__law_spoilt := def_mk X G a10 l10 c10 k10
  refine ⟨PySem.W.fnOf "law" "law" (defArgs s_law) (defBody s_law) (defScope s_law) .none kV11 dc11 pm11 an11 cd11 ct11, fun s v => .of_eq rfl, fun base _ _ => ?_⟩
  have O_is_set := ok_is_set (P := l.prog) (w := w) (base := base) D_is_set 
  have O_is_plan := ok_is_plan (P := l.prog) (w := w) (base := base) D_is_plan O_is_set zz_len _ gg_MIXTURES_LIMIT
  have O_X_check_wares := okx_check_wares (P := l.prog) (w := w) (base := base) D_check_wares PP _ gg_WARES_LIMIT
  have O_numbers := ok_numbers (P := l.prog) (w := w) (base := base) D_numbers zz_ord
  have O_X_read := okx_read (P := l.prog) (w := w) (base := base) D_read PP O_X_check_wares O_numbers O_is_plan
  have O__law_cell_at := ok__law_cell_at (P := l.prog) (w := w) (base := base) D__law_cell_at zz_len
  have O__law_word_of := ok__law_word_of (P := l.prog) (w := w) (base := base) D__law_word_of PP zz_isinstance zz_ValueError
  have O__law_some_by := ok__law_some_by (P := l.prog) (w := w) (base := base) D__law_some_by zz_range
  have O__law_plan_by := ok__law_plan_by (P := l.prog) (w := w) (base := base) D__law_plan_by O__law_cell_at O__law_some_by zz_len zz_range zz_list
  have O__law_tried := ok__law_tried (P := l.prog) (w := w) (base := base) D__law_tried PP O_X_read O__law_word_of
  have O__law_spoilt := ok__law_spoilt (P := l.prog) (w := w) (base := base) D__law_spoilt zz_len zz_range zz_str
  exact ok_law (fun_mk (st := s_law) l11 c11 k11) O__law_plan_by O__law_cell_at O__law_spoilt O__law_tried zz_len zz_str
end Law
open PySem PySem.W PyProof.Rows
set_option maxRecDepth 100000 in
set_option maxHeartbeats 0 in
theorem PySem.Challenge.cw_mixpots_k14_read_holds : PySem.Challenge.rw_mixpots_k14_read.Holds := by
  w_on; o_law; k_head; (case hw => w_witness2)
  k_fill
  refine L2.walkL (l := PySem.Challenge.rw_mixpots_k14_read) (k := 5) rfl rfl ⟨rfl, by decide, by decide⟩ (fun w h Y => PySem.W.kIn_of Y) ?F
  case F =>
    intro w mg fa h KX G hmg
    refine' Law.all_mk KX G hmg ?a0 ?l0 ?c0 ?k0 ?a1 ?l1 ?c1 ?k1 ?a2 ?l2 ?c2 ?k2 ?a3 ?l3 ?c3 ?k3 ?a4 ?l4 ?c4 ?k4 ?a5 ?l5 ?c5 ?k5 ?a6 ?l6 ?c6 ?k6 ?a7 ?l7 ?c7 ?k7 ?a8 ?l8 ?c8 ?k8 ?a9 ?l9 ?c9 ?k9 ?a10 ?l10 ?c10 ?k10 ?a11 ?l11 ?c11 ?k11 ?z_len ?z_ord ?z_isinstance ?z_ValueError ?z_range ?z_list ?z_str ?g_MIXTURES_LIMIT ?g_WARES_LIMIT ?p_PotError ?p_NoWares ?p_NoPlan ?p_NoSet ?p_NoMost ?p_NoAnswers ?p_NoFit ?p_NotTold ?p_NoNote ?p_ok ?p_nd
    (case a0 => k_is)
    (case l0 => k_is)
    (case c0 => k_is)
    (case k0 => k_is)
    (case a1 => k_is)
    (case l1 => k_is)
    (case c1 => k_is)
    (case k1 => k_is)
    (case a2 => k_is)
    (case l2 => k_is)
    (case c2 => k_is)
    (case k2 => k_is)
    (case a3 => k_is)
    (case l3 => k_is)
    (case c3 => k_is)
    (case k3 => k_is)
    (case a4 => k_is)
    (case l4 => k_is)
    (case c4 => k_is)
    (case k4 => k_is)
    (case a5 => k_is)
    (case l5 => k_is)
    (case c5 => k_is)
    (case k5 => k_is)
    (case a6 => k_is)
    (case l6 => k_is)
    (case c6 => k_is)
    (case k6 => k_is)
    (case a7 => k_is)
    (case l7 => k_is)
    (case c7 => k_is)
    (case k7 => k_is)
    (case a8 => k_is)
    (case l8 => k_is)
    (case c8 => k_is)
    (case k8 => k_is)
    (case a9 => k_is)
    (case l9 => k_is)
    (case c9 => k_is)
    (case k9 => k_is)
    (case a10 => k_is)
    (case l10 => k_is)
    (case c10 => k_is)
    (case k10 => k_is)
    (case a11 => k_is)
    (case l11 => k_is)
    (case c11 => k_is)
    (case k11 => k_is)
    (case z_len => k_is)
    (case z_ord => k_is)
    (case z_isinstance => k_is)
    (case z_ValueError => k_is)
    (case z_range => k_is)
    (case z_list => k_is)
    (case z_str => k_is)
    (case g_MIXTURES_LIMIT => k_is)
    (case g_WARES_LIMIT => k_is)
    (case p_PotError => k_is)
    (case p_NoWares => k_is)
    (case p_NoPlan => k_is)
    (case p_NoSet => k_is)
    (case p_NoMost => k_is)
    (case p_NoAnswers => k_is)
    (case p_NoFit => k_is)
    (case p_NotTold => k_is)
    (case p_NoNote => k_is)
    (case p_ok => kernel_rfl)
    (case p_nd => decide +kernel)
#print axioms PySem.Challenge.cw_mixpots_k14_read_holds
