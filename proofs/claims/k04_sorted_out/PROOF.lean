import PyProof.Rows.All
import Wide.All
import OpenK.AllK
import Wide.FinOn
import Lean
import PyProof.EqAt
import PyProof.EqKinds
import PyProof.TupleCall
import PySem.Challenge.RW_mixpots_k04_sorted_out
-- CHANGE: your row's module here, as the last of these rows
set_option Elab.async false
set_option linter.all false
set_option maxRecDepth 100000
/-! THE HAND LAYER, for ints, bools, texts, own classes, LISTS and tuples (index, slices, in, append, pop ..), calls, loops. Paste it whole ahead of your own text; what your proof does not reach may be deleted. -/
namespace L2
open PySem PySem.Spec PyProof.Rows

/-- a key: an int or a str -/
abbrev Key := Sum Int Str
def keyIs : Key → Value → Bool
  | .inl k, v => Value.isInt k v
  | .inr x, v => Value.isStrOf x v
def keyH (w : World) : Key → Int
  | .inl k => hashInt k
  | .inr x => hashStr w x
theorem keyIs_shape : ∀ {k : Key} {v : Value}, keyIs k v = true → (∃ i t, k = Sum.inl i ∧ v = Value.int i t) ∨ (∃ x t, k = Sum.inr x ∧ v = Value.str x t)
  | .inl i, v, h => by
    obtain ⟨t, e⟩ := Value.isInt_shape (k := i) (v := v) h
    exact .inl ⟨i, t, rfl, e⟩
  | .inr x, v, h => by
    obtain ⟨t, e⟩ := Value.isStrOf_shape (x := x) (v := v) h
    exact .inr ⟨x, t, rfl, e⟩
theorem key_ll (a b : Int) : decide ((Sum.inl a : Key) = Sum.inl b) = (a == b) := by
  by_cases e : a = b
  · subst e; simp
  · have h : ¬ (Sum.inl a : Key) = Sum.inl b := fun q => e (Sum.inl.inj q)
    rw [decide_eq_false h]
    exact (beq_eq_false_iff_ne.mpr e).symm
theorem key_rr (a b : Str) : decide ((Sum.inr a : Key) = Sum.inr b) = decide (a = b) := by
  by_cases e : a = b
  · subst e; simp
  · have h : ¬ (Sum.inr a : Key) = Sum.inr b := fun q => e (Sum.inr.inj q)
    rw [decide_eq_false h, decide_eq_false e]
theorem key_lr (a : Int) (b : Str) : decide ((Sum.inl a : Key) = Sum.inr b) = false := decide_eq_false (fun q => nomatch q)
theorem key_rl (a : Str) (b : Int) : decide ((Sum.inr a : Key) = Sum.inl b) = false := decide_eq_false (fun q => nomatch q)

def mixKind (prog : Program) (w : World) : PySem.KeyKind prog w Key where
  is := keyIs
  hash := keyH w
  inj := fun v a b ha hb => by
    rcases keyIs_shape ha with ⟨i, t, rfl, rfl⟩ | ⟨x, t, rfl, rfl⟩
    · rcases keyIs_shape hb with ⟨j, u, rfl, e⟩ | ⟨y, u, rfl, e⟩
      · injection e with e1 _; rw [e1]
      · exact nomatch e
    · rcases keyIs_shape hb with ⟨j, u, rfl, e⟩ | ⟨y, u, rfl, e⟩
      · exact nomatch e
      · injection e with e1 _; rw [e1]
  byValue := fun k v h => by
    rcases keyIs_shape h with ⟨i, t, rfl, rfl⟩ | ⟨x, t, rfl, rfl⟩ <;> rfl
  pyHash := fun hv h => by
    rcases keyIs_shape hv with ⟨i, t, rfl, rfl⟩ | ⟨x, t, rfl, rfl⟩
    · exact wpAny_pyHash_int h
    · exact wpAny_pyHash_str h
  eqBool := fun hu hv h => by
    rcases keyIs_shape hu with ⟨i, t, rfl, rfl⟩ | ⟨x, t, rfl, rfl⟩
    · rcases keyIs_shape hv with ⟨j, u, rfl, rfl⟩ | ⟨y, u, rfl, rfl⟩
      · rw [key_ll] at h; exact wpAny_eqBool_int h
      · rw [key_lr] at h; exact SeqAt.EqAt.int_str i t y u _ _ _ _ h
    · rcases keyIs_shape hv with ⟨j, u, rfl, rfl⟩ | ⟨y, u, rfl, rfl⟩
      · rw [key_rl] at h; exact SeqAt.EqAt.str_int x t j u _ _ _ _ h
      · rw [key_rr] at h; exact wpAny_eqBool_str h
  «strs» := fun k x t v h => by
    rcases keyIs_shape h with ⟨i, u, rfl, e⟩ | ⟨y, u, rfl, e⟩
    · exact nomatch e
    · injection e with e1 _
      subst e1
      cases v <;> rfl

end L2

namespace L2
open PySem PySem.Spec PyProof.Rows

/-- a value, without the heap -/
inductive V where
  | non | bl (b : Bool) | int (i : Int) | str (x : Str) | byt (b : Array UInt8) | flt (b : UInt64) | ref (a : Addr) | ty (n : String)
  deriving DecidableEq

def RelV : V → Value → Prop
  | .non, u => u = Value.none
  | .bl b, u => u = Value.bool b
  | .int i, u => ∃ t, u = Value.int i t
  | .str x, u => ∃ t, u = Value.str x t
  | .byt b, u => ∃ t, u = Value.bytes b t
  | .flt b, u => ∃ t, u = Value.float b t
  | .ref a, u => u = Value.ref a
  | .ty n, u => u = Value.type n

abbrev Vals : List V → List Value → Prop := Paired RelV
theorem Vals.length {xs : List V} {us : List Value} (r : Vals xs us) : xs.length = us.length := Paired.length r
theorem Vals.get : ∀ {xs : List V} {us : List Value} {i : Nat} {x : V}, Vals xs us → xs[i]? = some x → ∃ u, us[i]? = some u ∧ RelV x u
  | _, _, _, _, .nil, e => by simp at e
  | _, _, 0, _, .cons r _, e => by simp at e; subst e; exact ⟨_, rfl, r⟩
  | _, _, i + 1, x, .cons _ t, e => by
    obtain ⟨u, h1, h2⟩ := Vals.get (i := i) (x := x) t (by simpa using e)
    exact ⟨u, by simpa using h1, h2⟩
theorem Vals.set {x : V} {u : Value} (r : RelV x u) : ∀ {xs : List V} {us : List Value} (i : Nat), Vals xs us → Vals (xs.set i x) (us.set i u)
  | _, _, _, .nil => .nil
  | _, _, 0, .cons _ t => .cons r t
  | _, _, i + 1, .cons q t => .cons q (Vals.set r i t)
theorem Vals.append : ∀ {xs ys : List V} {us ws : List Value}, Vals xs us → Vals ys ws → Vals (xs ++ ys) (us ++ ws)
  | _, _, _, _, .nil, s => s
  | _, _, _, _, .cons r t, s => .cons r (Vals.append t s)
theorem Vals.take : ∀ {xs : List V} {us : List Value} (n : Nat), Vals xs us → Vals (xs.take n) (us.take n)
  | _, _, 0, _ => .nil
  | _, _, _ + 1, .nil => .nil
  | _, _, n + 1, .cons r t => .cons r (Vals.take n t)
theorem Vals.drop : ∀ {xs : List V} {us : List Value} (n : Nat), Vals xs us → Vals (xs.drop n) (us.drop n)
  | _, _, 0, r => r
  | _, _, _ + 1, .nil => .nil
  | _, _, n + 1, .cons _ t => Vals.drop n t
def RelO : Option V → Option Value → Prop
  | some v, some u => RelV v u
  | none, none => True
  | _, _ => False
def KV {κ : Type} : List (κ × V) → List (κ × Value) → Prop := Paired fun (p : κ × V) (q : κ × Value) => p.1 = q.1 ∧ RelV p.2 q.2

/-- a key of a dict (00_mix): an int or a text -/
def kV : Key → V
  | .inl i => .int i
  | .inr x => .str x

/-- what stands at a tracked address -/
inductive HO where
  /-- a list -/
  | lst (xs : List V)
  /-- a tuple (never changes) -/
  | tup (xs : List V)
  /-- a dict whose keys are ints and texts; one whose keys are tuples of ints and texts (the empty one is both) -/
  | dK (kvs : List (Key × V)) | dT (kvs : List (List Key × V))
  /-- a set of ints: its members, its size -/
  | set (S : Int → Bool) (n : Nat)
  /-- an instance of the class at C, its dict at dx, its attributes -/
  | ins (C dx : Addr) (fs : List (Str × V))
  /-- the dict of the instance at x -/
  | own (x : Addr)
  /-- the dict of an exception -/
  | xd (fs : List (Str × V))
  /-- a bound method, f of x -/
  | met (f x : Addr)
  /-- a range object lo, lo + 1, .. below hi -/
  | rng (lo hi : Int)
  /-- a thing that is known to the object (the script; a dict while a loop walks it): read, never written while it is so -/
  | frz (o : Obj) (u : HO)
  /-- a code object's table -/
  | tbl (ps : Array Value)
  /-- any other thing, by what is true of its one object (a def of one's own: SetO a S n := HO.ext fun h => ..) -/
  | ext (φ : Heap → Prop)

abbrev Hp := Addr → Option HO
def upd (H : Hp) (a : Addr) (o : HO) : Hp := fun b => if b = a then some o else H b
theorem upd_same {H : Hp} {a : Addr} {o : HO} : upd H a o a = some o := by unfold upd; rw [if_pos rfl]
theorem upd_ne {H : Hp} {a b : Addr} {o : HO} (h : b ≠ a) : upd H a o b = H b := by unfold upd; rw [if_neg h]
theorem upd_upd {H : Hp} {a : Addr} {o u : HO} : upd (upd H a o) a u = upd H a u := by
  funext b; unfold upd; split <;> rfl
theorem ne_of_none {H : Hp} {a b : Addr} {o : HO} (h : H a = some o) (h' : H b = none) : a ≠ b := by
  intro e; subst e; rw [h] at h'; cases h'

section
variable (P : Program) (w : World)
def ObjOk (H : Hp) (h : Heap) (a : Addr) : HO → Prop
  | .lst xs => xs.length ≤ sizeLine ∧ ∃ (its : List Value) (n : Nat), Vals xs its ∧ h.get? a = some { cls := .type "list", data := .seq its.toArray n }
  | .tup xs => xs.length ≤ sizeLine ∧ ∃ its : List Value, Vals xs its ∧ IsTup h a its.toArray
  | .dK kvs => kvs.length ≤ sizeLine ∧ (a == sysModules) = false ∧ ∃ vs, KV kvs vs ∧ h.DictOf (mixKind P w) a vs
  | .dT kvs => kvs.length ≤ sizeLine ∧ (a == sysModules) = false ∧ ∃ xs : List (List Key × Addr × Value),
      Paired (fun (p : List Key × V) (q : List Key × Addr × Value) => p.1 = q.1 ∧ H q.2.1 = some (.tup (p.1.map kV)) ∧ RelV p.2 q.2.2) kvs xs ∧
      ∃ o es ep, h.get? a = some o ∧ o.ExactDict ∧ o.data = .dict es ep ∧ es.toList = xs.map (entryOfKey (tupleKind (mixKind P w))) ∧ (xs.map (·.1)).Nodup
  | .set S n => h.SetOf (intKind P w) a S n
  | .ins C dx fs => H dx = some (.own a) ∧ fs.length ≤ 1000 ∧ dx ≠ a ∧ h.get? a = some (PySem.W.instObj C dx) ∧
      ∃ mA, h.Ns1 dx mA ∧ (∀ f, RelO (fs.lookup f) (mA f)) ∧ PySem.Within mA (fs.map (·.1))
  | .own _ => ∃ o, h.get? a = some o
  | .xd fs => ∃ mA, h.Ns1 a mA ∧ ∀ f, RelO (fs.lookup f) (mA f)
  | .rng lo hi => ∃ t u v, h.get? a = some { cls := .type "range", data := .fields #[.int lo t, .int hi u, .int 1 v] }
  | .frz o u => h.get? a = some o ∧ ObjOk H h a u
  | .tbl ps => h.get? a = some { cls := .none, data := .fields ps }
  | .met f x => h.get? a = some (PySem.W.methodObj (.ref f) (.ref x))
  | .ext φ => φ h ∧ (∃ o, h.get? a = some o) ∧ ∀ h1 h2 : Heap, φ h1 → (∀ o, h1.get? a = some o → h2.get? a = some o) → φ h2
/-- the abstract heap is held -/
def HOk (H : Hp) (h : Heap) : Prop := ∀ a o, H a = some o → ObjOk P w H h a o
end

section
variable {P : Program} {w : World} {H H' : Hp} {h h' : Heap} {a : Addr} {o : HO}
theorem ObjOk.lt (x : ObjOk P w H h a o) : a < h.objs.size := by
  cases o with
  | lst xs => obtain ⟨_, _, _, _, e⟩ := x; exact Heap.lt_size e
  | tup xs => obtain ⟨_, _, _, p⟩ := x; exact p.lt
  | dK kvs => obtain ⟨_, _, _, _, o, _, _, e, _⟩ := x; exact Heap.lt_size e
  | dT kvs => obtain ⟨_, _, _, _, o, _, _, e, _⟩ := x; exact Heap.lt_size e
  | set S n => obtain ⟨o, _, _, _, e, _⟩ := x; exact Heap.lt_size e
  | ins C dx fs => obtain ⟨_, _, _, e, _⟩ := x; exact Heap.lt_size e
  | own y => obtain ⟨_, e⟩ := x; exact Heap.lt_size e
  | xd fs => obtain ⟨_, ⟨_, _, _, e, _⟩, _⟩ := x; exact Heap.lt_size e
  | rng lo hi => obtain ⟨_, _, _, e⟩ := x; exact Heap.lt_size e
  | frz ob u => obtain ⟨e, _⟩ := x; exact Heap.lt_size e
  | tbl ps => exact Heap.lt_size (show h.get? a = some _ from x)
  | met f y => exact Heap.lt_size (show h.get? a = some _ from x)
  | ext φ => obtain ⟨_, ⟨_, e⟩, _⟩ := x; exact Heap.lt_size e
theorem Paired.mapP {α β : Type} {F G : α → β → Prop} : ∀ {l₁ : List α} {l₂ : List β}, Paired F l₁ l₂ → (∀ a b, F a b → G a b) → Paired G l₁ l₂
  | _, _, .nil, _ => .nil
  | _, _, .cons r t, f => .cons (f _ _ r) (Paired.mapP t f)
theorem Paired.imp' {α β : Type} {F G : α → β → Prop} (f : ∀ a b, F a b → G a b) {l₁ : List α} {l₂ : List β} (r : Paired F l₁ l₂) : Paired G l₁ l₂ := Paired.mapP r f
/-- what an object's description leans on: its own object, its own dict, the tuples -/
theorem ObjOk.stay (x : ObjOk P w H h a o) (k : ∀ b u, (b = a ∨ H b = some (.own a)) → h.get? b = some u → h'.get? b = some u)
    (ho : ∀ b, H b = some (.own a) → H' b = some (.own a)) (ht : ∀ b xs, H b = some (.tup xs) → H' b = some (.tup xs)) : ObjOk P w H' h' a o := by
  induction o with
  | lst xs => obtain ⟨z, its, n, r, e⟩ := x; exact ⟨z, its, n, r, k _ _ (.inl rfl) e⟩
  | tup xs => obtain ⟨z, its, r, ob, e, c⟩ := x; exact ⟨z, its, r, ob, k _ _ (.inl rfl) e, c⟩
  | dK kvs => obtain ⟨z, y, vs, r, ob, es, ep, e, c⟩ := x; exact ⟨z, y, vs, r, ob, es, ep, k _ _ (.inl rfl) e, c⟩
  | dT kvs =>
    obtain ⟨z, y, xs, r, ob, es, ep, e, c⟩ := x
    exact ⟨z, y, xs, Paired.mapP r fun p q z => ⟨z.1, ht _ _ z.2.1, z.2.2⟩, ob, es, ep, k _ _ (.inl rfl) e, c⟩
  | set S n => obtain ⟨ob, es, ep, t, e, c⟩ := x; exact ⟨ob, es, ep, t, k _ _ (.inl rfl) e, c⟩
  | ins C dx fs =>
    obtain ⟨d, z, ne, e, mA, ⟨od, es, ep, e2, c⟩, r⟩ := x
    exact ⟨ho _ d, z, ne, k _ _ (.inl rfl) e, mA, ⟨od, es, ep, k _ _ (.inr d) e2, c⟩, r⟩
  | own y => obtain ⟨ob, e⟩ := x; exact ⟨ob, k _ _ (.inl rfl) e⟩
  | xd fs => obtain ⟨mA, ⟨od, es, ep, e, c⟩, r⟩ := x; exact ⟨mA, ⟨od, es, ep, k _ _ (.inl rfl) e, c⟩, r⟩
  | rng lo hi => obtain ⟨t, u, v, e⟩ := x; exact ⟨t, u, v, k _ _ (.inl rfl) e⟩
  | frz ob u ih => obtain ⟨e, q⟩ := x; exact ⟨k _ _ (.inl rfl) e, ih q⟩
  | tbl ps =>
    have e : h.get? a = some { cls := .none, data := .fields ps } := x
    show h'.get? a = some { cls := .none, data := .fields ps }
    exact k a _ (.inl rfl) e
  | met f y =>
    have e : h.get? a = some (PySem.W.methodObj (.ref f) (.ref y)) := x
    show h'.get? a = some (PySem.W.methodObj (.ref f) (.ref y))
    exact k a _ (.inl rfl) e
  | ext φ => obtain ⟨p, ⟨o, e⟩, st⟩ := x; exact ⟨st _ _ p fun o q => k _ _ (.inl rfl) q, ⟨o, k _ _ (.inl rfl) e⟩, st⟩
theorem HOk.lt (x : HOk P w H h) (e : H a = some o) : a < h.objs.size := (x a o e).lt
theorem HOk.fresh (x : HOk P w H h) (e : h.objs.size ≤ a) : H a = none := by
  cases q : H a with
  | none => rfl
  | some u => exact absurd (Nat.lt_of_lt_of_le (x.lt q) e) (Nat.lt_irrefl _)
/-- every object of the heap is kept -/
theorem HOk.kept (x : HOk P w H h) (k : ∀ b u, h.get? b = some u → h'.get? b = some u) : HOk P w H h' := fun a o e =>
  (x a o e).stay (fun b u _ q => k b u q) (fun _ q => q) fun _ _ q => q
/-- a new object is laid and tracked -/
theorem HOk.laid (x : HOk P w H h) (k : ∀ b u, h.get? b = some u → h'.get? b = some u) (hp : h.objs.size ≤ a) (new : ObjOk P w (upd H a o) h' a o) : HOk P w (upd H a o) h' := fun b u e => by
  have hn := x.fresh hp
  by_cases hb : b = a
  · subst hb; rw [upd_same] at e; cases e; exact new
  · rw [upd_ne hb] at e
    exact (x b u e).stay (fun c v _ q => k c v q) (fun c q => by rw [upd_ne (ne_of_none q hn)]; exact q) fun c xs q => by rw [upd_ne (ne_of_none q hn)]; exact q
end

/-- what may be read as u: it is u, or a known u -/
def Rd (H : Hp) (a : Addr) (u : HO) : Prop := H a = some u ∨ ∃ o, H a = some (.frz o u)
theorem Rd.of {H : Hp} {a : Addr} {u : HO} (h : H a = some u) : Rd H a u := .inl h
theorem Rd.ok {P : Program} {w : World} {H : Hp} {h : Heap} {a : Addr} {u : HO} (r : Rd H a u) (x : HOk P w H h) : ObjOk P w H h a u := by
  rcases r with r | ⟨o, r⟩
  · exact x a u r
  · obtain ⟨_, q⟩ := x a _ r
    exact q
/-- what may be written -/
def Mut : Option HO → Prop
  | some (.lst _) => True
  | some (.dK _) => True
  | some (.dT _) => True
  | some (.set _ _) => True
  | some (.ins _ _ _) => True
  | some (.ext _) => True
  | _ => False
section
variable {P : Program} {w : World} {H : Hp} {h h' : Heap} {x e : Addr} {o' : HO}
/-- the object at e is changed: x itself, or the dict of the instance x -/
theorem HOk.write (ok : HOk P w H h) (mu : Mut (H x)) (he : e = x ∨ H e = some (.own x)) (k : ∀ b u, b ≠ e → h.get? b = some u → h'.get? b = some u) (heo : ∃ u, h'.get? e = some u)
    (new : ObjOk P w (upd H x o') h' x o') : HOk P w (upd H x o') h' := fun b u q => by
  have nown : ∀ c y, H c = some (.own y) → c ≠ x := fun c y r z => by subst z; rw [r] at mu; exact mu
  have ntup : ∀ c xs, H c = some (.tup xs) → c ≠ x := fun c xs r z => by subst z; rw [r] at mu; exact mu
  by_cases hb : b = x
  · subst hb; rw [upd_same] at q; cases q; exact new
  · rw [upd_ne hb] at q
    by_cases hbe : b = e
    · have q' : H b = some (.own x) := by
        rcases he with z | z
        · exact absurd (hbe.trans z) hb
        · rw [hbe]; exact z
      rw [q] at q'; cases q'
      obtain ⟨v, hv⟩ := heo
      exact ⟨v, by rw [hbe]; exact hv⟩
    · refine (ok b u q).stay (fun c v hc r => k c v ?_ r) (fun c r => by rw [upd_ne (nown c b r)]; exact r) fun c xs r => by rw [upd_ne (ntup c xs r)]; exact r
      rcases hc with rfl | hc
      · exact hbe
      · rintro rfl
        rcases he with z | z
        · exact nown c b hc z
        · rw [hc] at z; cases z; exact hb rfl
end

/-! ### kept unless tracked; of the frames at fs (the callers') the slots may change (an exception that passes writes there); of the records at ex (iterators) nothing is said -/
structure Un (fs ex : List Addr) (H H' : Hp) (h h' : Heap) : Prop where
  keep : ∀ b o, h.get? b = some o → H b = none → b ∉ fs → b ∉ ex → h'.get? b = some o
  slot : ∀ b o, h.get? b = some o → H b = none → b ∈ fs → b ∉ ex → ∃ sl, h'.get? b = some { o with slots := sl }
  free : ∀ b o, h.get? b = some o → H b = none → b ∉ ex → H' b = none
  there : ∀ b o, h.get? b = some o → b ∉ ex → ∃ o', h'.get? b = some o'
  tups : ∀ b xs, H b = some (.tup xs) → H' b = some (.tup xs)
  frzs : ∀ b o u, H b = some (.frz o u) → H' b = some (.frz o u)
  tbls : ∀ b ps, H b = some (.tbl ps) → ∃ more, H' b = some (.tbl (ps ++ more))
section
variable {fs fs' ex ex' : List Addr} {H H1 H2 : Hp} {h h1 h2 h' : Heap} {a x e : Addr} {o : HO}
theorem Un.any (u : Un fs ex H H1 h h1) {b : Addr} {ob : Obj} (q : h.get? b = some ob) (n : H b = none) (hx : b ∉ ex) : ∃ sl, h1.get? b = some { ob with slots := sl } := by
  by_cases hb : b ∈ fs
  · exact u.slot b ob q n hb hx
  · exact ⟨ob.slots, u.keep b ob q n hb hx⟩
theorem Un.trans (a : Un fs ex H H1 h h1) (b : Un fs ex H1 H2 h1 h2) : Un fs ex H H2 h h2 where
  keep := fun c ob q n hc hx => b.keep c ob (a.keep c ob q n hc hx) (a.free c ob q n hx) hc hx
  slot := fun c ob q n hc hx => by
    obtain ⟨sl, e1⟩ := a.slot c ob q n hc hx
    obtain ⟨sl', e2⟩ := b.slot c _ e1 (a.free c ob q n hx) hc hx
    exact ⟨sl', e2⟩
  free := fun c ob q n hx => by
    obtain ⟨o', e1⟩ := a.there c ob q hx
    exact b.free c o' e1 (a.free c ob q n hx) hx
  there := fun c ob q hx => by
    obtain ⟨o', e1⟩ := a.there c ob q hx
    exact b.there c o' e1 hx
  tups := fun c xs q => b.tups c xs (a.tups c xs q)
  frzs := fun c ob xs q => b.frzs c ob xs (a.frzs c ob xs q)
  tbls := fun c ps q => by
    obtain ⟨m1, e1⟩ := a.tbls c ps q
    obtain ⟨m2, e2⟩ := b.tbls c _ e1
    exact ⟨m1 ++ m2, by rw [e2, Array.append_assoc]⟩
theorem Un.kept (k : ∀ b u, h.get? b = some u → h'.get? b = some u) : Un fs ex H H h h' :=
  ⟨fun b ob q _ _ _ => k b ob q, fun b ob q _ _ _ => ⟨ob.slots, k b ob q⟩, fun _ _ _ n _ => n, fun b ob q _ => ⟨ob, k b ob q⟩, fun _ _ q => q, fun _ _ _ q => q, fun _ ps q => ⟨#[], by rw [q]; simp⟩⟩
theorem Un.refl : Un fs ex H H h h := Un.kept fun _ _ q => q
theorem Un.laid (k : ∀ b u, h.get? b = some u → h'.get? b = some u) (hp : h.objs.size ≤ a) (hn : H a = none) : Un fs ex H (upd H a o) h h' where
  keep := fun b u q _ _ _ => k b u q
  slot := fun b u q _ _ _ => ⟨u.slots, k b u q⟩
  free := fun b u q n _ => by rw [upd_ne (Nat.ne_of_lt (Nat.lt_of_lt_of_le (Heap.lt_size q) hp))]; exact n
  there := fun b u q _ => ⟨u, k b u q⟩
  tups := fun b xs q => by rw [upd_ne (ne_of_none q hn)]; exact q
  frzs := fun b u xs q => by rw [upd_ne (ne_of_none q hn)]; exact q
  tbls := fun b ps q => ⟨#[], by rw [upd_ne (ne_of_none q hn), q]; simp⟩
theorem Un.write (mu : Mut (H x)) (he : e = x ∨ H e = some (.own x)) (k : ∀ b u, b ≠ e → h.get? b = some u → h'.get? b = some u) (heo : ∃ u, h'.get? e = some u) : Un fs ex H (upd H x o) h h' := by
  have hx : ∀ b, H b = none → b ≠ x := fun b n z => by subst z; rw [n] at mu; exact mu
  have hb : ∀ b, H b = none → b ≠ e := fun b n z => by
    subst z
    rcases he with r | r
    · exact hx b n r
    · rw [n] at r; cases r
  have hm : ∀ b u, H b = some u → ¬ Mut (some u) → b ≠ x := fun b u q nm z => by subst z; rw [q] at mu; exact nm mu
  refine ⟨fun b u q n _ _ => k b u (hb b n) q, fun b u q n _ _ => ⟨u.slots, k b u (hb b n) q⟩, fun b u q n _ => by rw [upd_ne (hx b n)]; exact n, fun b u q _ => ?_,
    fun b xs q => by rw [upd_ne (hm b _ q fun z => z)]; exact q, fun b u xs q => by rw [upd_ne (hm b _ q fun z => z)]; exact q, fun b ps q => ⟨#[], by rw [upd_ne (hm b _ q fun z => z), q]; simp⟩⟩
  by_cases hbe : b = e
  · subst hbe; exact heo
  · exact ⟨u, k b u hbe q⟩
theorem Un.mono (u : Un fs ex H H1 h h1) (hs : ∀ b ∈ fs, b ∈ fs') (hx : ∀ b ∈ ex, b ∈ ex') : Un fs' ex' H H1 h h1 :=
  ⟨fun b ob q n hb he => u.keep b ob q n (fun z => hb (hs b z)) fun z => he (hx b z), fun _ _ q n _ he => u.any q n fun z => he (hx _ z), fun b ob q n he => u.free b ob q n fun z => he (hx b z), fun b ob q he => u.there b ob q fun z => he (hx b z), u.tups, u.frzs, u.tbls⟩
end

/-! ### the heap without what is tracked -/
def trk (h : Heap) (H : Hp) : List Addr := (List.range h.objs.size).filter fun a => (H a).isSome
def hidT (h : Heap) (H : Hp) : Heap := PySem.W.hideAll h (trk h H)
theorem hidT_size (h : Heap) (H : Hp) : (hidT h H).objs.size = h.objs.size := PySem.W.hideAll_size _ _
theorem hidT_get {h : Heap} {H : Hp} {b : Addr} {o : Obj} (e : h.get? b = some o) (n : H b = none) : (hidT h H).get? b = some o :=
  PySem.W.hideAll_get _ e fun hm => by
    have q : (H b).isSome = true := (List.mem_filter.mp hm).2
    rw [n] at q; simp at q
theorem of_hidT {h : Heap} {H : Hp} {b : Addr} {o : Obj} (e : (hidT h H).get? b = some o) : h.get? b = some o ∧ H b = none := by
  have e' : h.get? b = some o := PySem.W.of_hideAll (trk h H) e
  refine ⟨e', ?_⟩
  cases q : H b with
  | none => rfl
  | some x =>
    have hm : b ∈ trk h H := List.mem_filter.mpr ⟨List.mem_range.mpr (Heap.lt_size e'), by simp [q]⟩
    have z : (hidT h H).get? b = none := PySem.W.hideAll_none (trk h H) hm
    rw [z] at e; cases e

/-! ### OpenK's ledger, filled with every new object but one -/
def allNews (g h : Heap) (L : Addr) : List (Addr × Obj) := (List.range h.objs.size).filterMap fun a => if a = L ∨ (g.get? a).isSome = true then none else (h.get? a).map fun o => (a, o)
def rest (g h : Heap) (L d : Addr) : List (Addr × Obj) := (allNews g h L).filter fun p => decide (p.1 ≠ d)
end L2

namespace L2
open PySem PySem.Spec PyProof.Rows

/-- the module's facts, over the base: the heap at the law's entry without what is tracked there -/
structure Mod (K : PySem.W.Frag) (mg : Str → Option Value) (base : Heap) : Prop where
  kin : K.In base
  glob : base.Ns mainGlobals mg
  blt : ∃ mb, base.Ns builtinsNs mb ∧ ∀ x : Str, x ≠ "__name__" → mb x = bootBuiltins x
  nolimit : base.NoLimit

/-- the context: a def's body (or a comprehension's block) running. base: fixed through the whole law; s₀, H₀: the entry; outer: the frames whose slots others may change (a def's callers); stack: all frames that run;
   ex: iterators that were made ahead of the entry and are walked here (a comprehension's); fn: the names whose cells were made at the entry (a def: all; a comprehension's block: its own); calm: not within an except suite; pn: pins that every state bears; xe: what is wanted of an exception that leaves the code -/
structure Cx where
  prog : Program
  w : World
  K : PySem.W.Frag
  mg : Str → Option Value
  base : Heap
  A : Around
  N : List Str
  s₀ : Shared
  H₀ : Hp
  env : Env
  outer : List Env
  stack : List Env
  ex : List Addr
  fn : Str → Bool
  calm : Bool
  pn : List (Addr × Obj)
  xe : Value → Shared → Prop
/-- the callers' frames -/
def frs (l : List Env) : List Addr := l.filterMap (·.frame)
abbrev Cx.fs (X : Cx) : List Addr := frs X.outer

def Vis (sc : Scope) (x : Str) : Prop := sc.names.lookup x = some .local ∨ sc.names.lookup x = some .cell ∨ sc.names.lookup x = some .free
def Loc (sc : Scope) (x : Str) : Prop := sc.names.lookup x = some .local ∨ sc.names.lookup x = some .cell
def Look (env : Env) (h : Heap) (m : Str → Option Value) (x : Str) (u : Value) : Prop :=
  (env.kindOf x = some .local ∧ m x = some u) ∨ ((env.kindOf x = some .cell ∨ env.kindOf x = some .free) ∧ ∃ c, env.cells.lookup x = some c ∧ h.IsCell c (some u))

structure Cx.Ok (X : Cx) : Prop where
  mod : Mod X.K X.mg X.base
  kind : X.env.scope.kind = .function
  glob : X.env.globals = mainGlobals
  blt : X.env.builtins = builtinsNs
  above : X.s₀.heap.objs.size ≤ X.env.locals
  inj : ∀ x y c, X.env.cells.lookup x = some c → X.env.cells.lookup y = some c → x = y
  has : ∀ x, (X.env.kindOf x = some .cell ∨ X.env.kindOf x = some .free) → ∃ c, X.env.cells.lookup x = some c
  cab : ∀ x c, X.fn x = true → X.env.cells.lookup x = some c → X.s₀.heap.objs.size ≤ c
  hd : X.calm = true → X.A.handled = none
  frames : X.A.frames = some X.stack
  stk : X.stack = X.outer ∨ (X.stack = X.env :: X.outer ∧ X.env.frame = some X.env.locals)
  exf : ∀ b ∈ X.ex, b ≠ X.env.locals ∧ ∀ x c, X.env.cells.lookup x = some c → c ≠ b
  bs : ∀ b o, X.base.get? b = some o → X.s₀.heap.get? b = some o ∧ X.H₀ b = none
  bsz : X.base.objs.size ≤ X.s₀.heap.objs.size
  noex : ∀ b o, X.base.get? b = some o → b ∉ X.ex
  exfs : ∀ b ∈ X.ex, b ∉ X.fs
  funs : X.s₀.heap.FunFrames X.base X.outer
  frf : ∀ b ∈ X.fs, X.H₀ b = none

structure Inv (X : Cx) (pins : List (Addr × Obj)) (σ : List (Option V)) (H : Hp) (s : Shared) : Prop where
  ok : X.Ok
  os : s.os = X.s₀.os
  bare : AllBare s.gens
  base : Un X.fs X.ex X.H₀ H X.s₀.heap s.heap
  loc : ∃ m, s.heap.Ns X.env.locals m ∧ ∀ (i : Nat) (x : Str) (v : V), X.N[i]? = some x → σ[i]? = some (some v) → Vis X.env.scope x → ∃ u, RelV v u ∧ Look X.env s.heap m x u
  cell : ∀ x c, X.env.cells.lookup x = some c → ∃ v, s.heap.IsCell c v
  free : H X.env.locals = none
  freeC : ∀ x c, X.env.cells.lookup x = some c → H c = none
  pin : ∀ p ∈ X.pn ++ pins, s.heap.get? p.1 = some p.2 ∧ H p.1 = none ∧ p.1 ≠ X.env.locals ∧ p.1 ∉ X.fs ∧ ∀ v, p.2.data ≠ .cell v
  hok : HOk X.prog X.w H s.heap
  len : σ.length = X.N.length

section
variable {X : Cx} {pins : List (Addr × Obj)} {σ : List (Option V)} {H H' : Hp} {s : Shared} {h' : Heap}

theorem Cx.Ok.nofr (ok : X.Ok) {b : Addr} {o : Obj} (e : X.base.get? b = some o) : b ∉ X.fs := fun hb => by
  have := (ok.funs.mem hb).1
  rw [e] at this; cases this
theorem Inv.bs (I : Inv X pins σ H s) : ∀ b o, X.base.get? b = some o → s.heap.get? b = some o ∧ H b = none := fun b o e =>
  ⟨I.base.keep b o (I.ok.bs b o e).1 (I.ok.bs b o e).2 (I.ok.nofr e) (I.ok.noex b o e), I.base.free b o (I.ok.bs b o e).1 (I.ok.bs b o e).2 (I.ok.noex b o e)⟩
theorem Inv.bk (I : Inv X pins σ H s) : ∀ b o, X.base.get? b = some o → s.heap.get? b = some o := fun b o e => (I.bs b o e).1
theorem Inv.mod (I : Inv X pins σ H s) : Mod X.K X.mg X.base := I.ok.mod
theorem Inv.kIn (I : Inv X pins σ H s) : X.K.In s.heap := I.ok.mod.kin.keeps I.bk
theorem Inv.nolimit (I : Inv X pins σ H s) : s.heap.NoLimit := I.ok.mod.nolimit.keeps I.bk
/-- the frame over the base: for OpenK's rules (K.In X.base is I.mod.kin) -/
theorem Inv.fr (I : Inv X pins σ H s) : ∃ m, Fr X.base X.env.locals s.heap m :=
  let ⟨m, hn, _⟩ := I.loc
  ⟨m, hn, I.bk, Nat.le_trans I.ok.bsz I.ok.above⟩
theorem Inv.lt (I : Inv X pins σ H s) : X.env.locals < s.heap.objs.size := let ⟨_, hn, _⟩ := I.loc; hn.lt
theorem Inv.sz (I : Inv X pins σ H s) : X.s₀.heap.objs.size ≤ s.heap.objs.size := Nat.le_trans I.ok.above (Nat.le_of_lt I.lt)
theorem Inv.nofs (I : Inv X pins σ H s) {a : Addr} (h : s.heap.objs.size ≤ a) : a ∉ X.fs := fun hb => by
  obtain ⟨_, o, ho, _⟩ := I.ok.funs.mem hb
  exact absurd (Nat.lt_of_lt_of_le (Heap.lt_size ho) (Nat.le_trans I.sz h)) (Nat.lt_irrefl _)
theorem Inv.cne (I : Inv X pins σ H s) : ∀ x c, X.env.cells.lookup x = some c → c ≠ X.env.locals := fun x c e z => by
  obtain ⟨v, o, ho, hd⟩ := I.cell x c e
  obtain ⟨m, ⟨o', es, ep, ho', hd', _⟩, _⟩ := I.loc
  rw [z, ho'] at ho; cases ho; rw [hd'] at hd; cases hd
theorem Inv.funs (I : Inv X pins σ H s) : s.heap.FunFrames X.base X.outer := by
  have all : ∀ (l : List Env), (∀ b ∈ frs l, b ∈ X.fs) → X.s₀.heap.FunFrames X.base l → s.heap.FunFrames X.base l := by
    intro l
    induction l with
    | nil => intro _ _; trivial
    | cons env r ih =>
      intro hs hl
      obtain ⟨hk, ⟨L, o, hf, hn, ho, hd⟩, hr⟩ := hl
      have hL : L ∈ X.fs := hs L (by unfold frs; rw [List.filterMap_cons, hf]; exact List.mem_cons_self)
      obtain ⟨sl, e⟩ := I.base.slot L o ho (I.ok.frf L hL) hL fun z => I.ok.exfs L z hL
      exact ⟨hk, ⟨L, _, hf, hn, e, hd⟩, ih (fun b hb => hs b (by unfold frs; rw [List.filterMap_cons, hf]; exact List.mem_cons_of_mem _ hb)) hr⟩
  exact all X.outer (fun _ hb => hb) I.ok.funs

/-- the frames that run, for a call -/
theorem Inv.stack (I : Inv X pins σ H s) : s.heap.FunFrames X.base X.stack := by
  rcases I.ok.stk with e | ⟨e, hf⟩
  · rw [e]; exact I.funs
  · rw [e]
    obtain ⟨m, hn, _⟩ := I.loc
    refine .cons (by rw [I.ok.kind]; decide) hf hn ?_ I.funs
    exact Heap.get?_none_of_le (Nat.le_trans I.ok.bsz I.ok.above)
theorem Inv.stkSub (I : Inv X pins σ H s) : ∀ b ∈ frs X.stack, b ∈ X.env.locals :: X.fs := fun b hb => by
  rcases I.ok.stk with e | ⟨e, hf⟩
  · rw [e] at hb; exact List.mem_cons_of_mem _ hb
  · rw [e] at hb
    unfold frs at hb
    rw [List.filterMap_cons, hf] at hb
    exact hb
theorem Inv.stkFree (I : Inv X pins σ H s) : ∀ b ∈ frs X.stack, H b = none := fun b hb => by
  rcases List.mem_cons.mp (I.stkSub b hb) with e | hb
  · rw [e]; exact I.free
  · obtain ⟨_, o, ho, _⟩ := I.ok.funs.mem hb
    exact I.base.free b o ho (I.ok.frf b hb) fun z => I.ok.exfs b z hb

/-- THE STEP: the untracked objects but the frame and the records at ch are kept (the callers' frames up to slots), the frame's map is kept, the new abstract heap is held -/
theorem Inv.step {g' : Array GenState} {t' : Nat} {d' : Drawn} {ch : List Addr} (I : Inv X pins σ H s)
    (hch : ∀ b ∈ ch, (b ∈ X.ex ∨ X.s₀.heap.objs.size ≤ b) ∧ b ≠ X.env.locals ∧ (∀ x c, X.env.cells.lookup x = some c → c ≠ b) ∧ ∀ p ∈ X.pn ++ pins, p.1 ≠ b)
    (keep : ∀ b o, b ≠ X.env.locals → b ∉ X.fs → b ∉ ch → s.heap.get? b = some o → H b = none → h'.get? b = some o)
    (slot : ∀ b o, b ≠ X.env.locals → b ∈ X.fs → b ∉ ch → s.heap.get? b = some o → H b = none → ∃ sl, h'.get? b = some { o with slots := sl }) (free : ∀ b o, b ∉ ch → s.heap.get? b = some o → H b = none → H' b = none)
    (there : ∀ b o, b ∉ ch → s.heap.get? b = some o → ∃ o', h'.get? b = some o')
    (tups : ∀ b xs, H b = some (.tup xs) → H' b = some (.tup xs)) (frzs : ∀ b o u, H b = some (.frz o u) → H' b = some (.frz o u)) (tbls : ∀ b ps, H b = some (.tbl ps) → ∃ more, H' b = some (.tbl (ps ++ more)))
    (ns : ∀ m, s.heap.Ns X.env.locals m → h'.Ns X.env.locals m) (hok : HOk X.prog X.w H' h') (hg : AllBare g') :
    Inv X pins σ H' { s with heap := h', gens := g', drawn := d', toks := t' } := by
  have neL : ∀ b o, X.s₀.heap.get? b = some o → b ≠ X.env.locals := fun b o e => Nat.ne_of_lt (Nat.lt_of_lt_of_le (Heap.lt_size e) I.ok.above)
  have neC : ∀ b o, X.s₀.heap.get? b = some o → b ∉ X.ex → b ∉ ch := fun b o e hx hb => by
    rcases (hch b hb).1 with z | z
    · exact hx z
    · exact absurd (Nat.lt_of_lt_of_le (Heap.lt_size e) z) (Nat.lt_irrefl _)
  have cellK : ∀ x c, X.env.cells.lookup x = some c → ∀ v, s.heap.IsCell c v → h'.IsCell c v := fun x c e v ⟨o, ho, hd⟩ => by
    have nch : c ∉ ch := fun z => (hch c z).2.2.1 x c e rfl
    by_cases hc : c ∈ X.fs
    · obtain ⟨sl, q⟩ := slot c o (I.cne x c e) hc nch ho (I.freeC x c e)
      exact ⟨_, q, hd⟩
    · exact ⟨o, keep c o (I.cne x c e) hc nch ho (I.freeC x c e), hd⟩
  refine ⟨I.ok, I.os, hg, ⟨fun b o e n hb hx => ?_, fun b o e n hb hx => ?_, fun b o e n hx => ?_, fun b o e hx => ?_, fun b xs e => tups b xs (I.base.tups b xs e), fun b o xs e => frzs b o xs (I.base.frzs b o xs e), fun b ps e => ?_⟩, ?_, fun x c e => ?_, ?_, fun x c e => ?_, fun p hp => ?_, hok, I.len⟩
  · exact keep b o (neL b o e) hb (neC b o e hx) (I.base.keep b o e n hb hx) (I.base.free b o e n hx)
  · obtain ⟨sl, e1⟩ := I.base.slot b o e n hb hx
    obtain ⟨sl', e2⟩ := slot b _ (neL b o e) hb (neC b o e hx) e1 (I.base.free b o e n hx)
    exact ⟨sl', e2⟩
  · obtain ⟨o', e1⟩ := I.base.there b o e hx
    exact free b o' (neC b o e hx) e1 (I.base.free b o e n hx)
  · obtain ⟨o', e1⟩ := I.base.there b o e hx
    exact there b o' (neC b o e hx) e1
  · obtain ⟨m1, e1⟩ := I.base.tbls b ps e
    obtain ⟨m2, e2⟩ := tbls b _ e1
    exact ⟨m1 ++ m2, by rw [e2, Array.append_assoc]⟩
  · obtain ⟨m, hn, hl⟩ := I.loc
    refine ⟨m, ns m hn, fun i x v e1 e2 e3 => ?_⟩
    obtain ⟨u, r, l⟩ := hl i x v e1 e2 e3
    refine ⟨u, r, ?_⟩
    rcases l with l | ⟨k, c, e, z⟩
    · exact .inl l
    · exact .inr ⟨k, c, e, cellK x c e _ z⟩
  · obtain ⟨v, z⟩ := I.cell x c e
    exact ⟨v, cellK x c e v z⟩
  · obtain ⟨m, ⟨o, _, _, ho, _⟩, _⟩ := I.loc
    exact free _ o (fun z => (hch _ z).2.1 rfl) ho I.free
  · obtain ⟨v, o, ho, hd⟩ := I.cell x c e
    exact free c o (fun z => (hch c z).2.2.1 x c e rfl) ho (I.freeC x c e)
  · obtain ⟨e, n, ne, nf, d⟩ := I.pin p hp
    have nch : p.1 ∉ ch := fun z => (hch p.1 z).2.2.2 p hp rfl
    exact ⟨keep p.1 p.2 ne nf nch e n, free p.1 p.2 nch e n, ne, nf, d⟩
/-- .. where the frame's own object is kept too -/
theorem Inv.un {t' : Nat} (I : Inv X pins σ H s) (u : Un X.fs [] H H' s.heap h') (hok : HOk X.prog X.w H' h') : Inv X pins σ H' { s with heap := h', toks := t' } := by
  obtain ⟨m, ⟨o, es, ep, ho, r⟩, _⟩ := id I.loc
  obtain ⟨sl, hL⟩ := u.any ho I.free (by simp)
  exact I.step (g' := s.gens) (d' := s.drawn) (ch := []) (fun _ z => nomatch z) (fun b o _ hb _ e n => u.keep b o e n hb (by simp)) (fun b o _ hb _ e n => u.slot b o e n hb (by simp)) (fun b o _ e n => u.free b o e n (by simp)) (fun b o _ e => u.there b o e (by simp)) u.tups u.frzs u.tbls (fun m' hm => by
    obtain ⟨o', es', ep', ho', r'⟩ := hm
    rw [ho] at ho'; cases ho'
    exact ⟨_, es', ep', hL, r'⟩) hok I.bare
/-- behind a call (or a comprehension's block): the slots of this frame may have changed too, the records at ch may have turned -/
theorem Inv.call {g' : Array GenState} {t' : Nat} {d' : Drawn} {ch : List Addr} (I : Inv X pins σ H s) (u : Un (frs X.stack) ch H H' s.heap h') (hok : HOk X.prog X.w H' h') (hg : AllBare g')
    (hch : ∀ b ∈ ch, (b ∈ X.ex ∨ X.s₀.heap.objs.size ≤ b) ∧ b ≠ X.env.locals ∧ (∀ x c, X.env.cells.lookup x = some c → c ≠ b) ∧ ∀ p ∈ X.pn ++ pins, p.1 ≠ b) :
    Inv X pins σ H' { s with heap := h', gens := g', drawn := d', toks := t' } := by
  obtain ⟨m, ⟨o, es, ep, ho, r⟩, _⟩ := id I.loc
  obtain ⟨sl, hL⟩ := u.any ho I.free fun z => (hch _ z).2.1 rfl
  exact I.step (ch := ch) hch (fun b o hL hb hc e n => u.keep b o e n (fun z => (List.mem_cons.mp (I.stkSub b z)).elim hL hb) hc) (fun b o _ _ hc e n => u.any e n hc) (fun b o hc e n => u.free b o e n hc) (fun b o hc e => u.there b o e hc) u.tups u.frzs u.tbls (fun m' hm => by
    obtain ⟨o', es', ep', ho', r'⟩ := hm
    rw [ho] at ho'; cases ho'
    exact ⟨_, es', ep', hL, r'⟩) hok hg
/-- an untracked record of ours (an iterator) has turned -/
theorem Inv.turned {t' : Nat} {it : Addr} (I : Inv X pins σ H s) (k : ∀ b o, b ≠ it → s.heap.get? b = some o → h'.get? b = some o) (hn : H it = none) (hL : it ≠ X.env.locals)
    (h1 : it ∈ X.ex ∨ X.s₀.heap.objs.size ≤ it) (h2 : ∀ x c, X.env.cells.lookup x = some c → c ≠ it) (h3 : ∀ p ∈ X.pn ++ pins, p.1 ≠ it) : Inv X pins σ H { s with heap := h', toks := t' } := by
  have nit : ∀ b u, H b = some u → b ≠ it := fun b u e z => by rw [z, hn] at e; cases e
  refine I.step (g' := s.gens) (d' := s.drawn) (ch := [it]) (fun b hb => ?_) (fun b o _ _ hc e _ => k b o (fun z => hc (by simp [z])) e) (fun b o _ _ hc e _ => ⟨o.slots, k b o (fun z => hc (by simp [z])) e⟩) (fun _ _ _ _ n => n)
    (fun b o hc e => ⟨o, k b o (fun z => hc (by simp [z])) e⟩) (fun _ _ e => e) (fun _ _ _ e => e) (fun b ps e => ⟨#[], by rw [e]; simp⟩) (fun m hm => ?_) (fun b u e => ?_) I.bare
  · have e : b = it := by simpa using hb
    subst e
    exact ⟨h1, hL, h2, h3⟩
  · obtain ⟨o, es, ep, ho, r⟩ := hm
    exact ⟨o, es, ep, k _ o (Ne.symm hL) ho, r⟩
  · refine (I.hok b u e).stay (fun c v hc q => k c v ?_ q) (fun _ q => q) fun _ _ q => q
    rcases hc with z | z
    · rw [z]; exact nit b u e
    · exact nit c _ z
theorem Inv.tok (I : Inv X pins σ H s) (t : Nat) : Inv X pins σ H { s with toks := t } := I.un (h' := s.heap) (t' := t) Un.refl I.hok
/-- all objects kept -/
theorem Inv.kept {t' : Nat} (I : Inv X pins σ H s) (k : ∀ b u, s.heap.get? b = some u → h'.get? b = some u) : Inv X pins σ H { s with heap := h', toks := t' } := I.un (Un.kept k) (I.hok.kept k)
/-- a new object laid and tracked -/
theorem Inv.laid {a : Addr} {o : HO} {t' : Nat} (I : Inv X pins σ H s) (k : ∀ b u, s.heap.get? b = some u → h'.get? b = some u) (hp : s.heap.objs.size ≤ a) (new : ObjOk X.prog X.w (upd H a o) h' a o) :
    Inv X pins σ (upd H a o) { s with heap := h', toks := t' } := I.un (Un.laid k hp (I.hok.fresh hp)) (I.hok.laid k hp new)
/-- an object written -/
theorem Inv.write {x e : Addr} {o : HO} {t' : Nat} (I : Inv X pins σ H s) (mu : Mut (H x)) (he : e = x ∨ H e = some (.own x)) (k : ∀ b u, b ≠ e → s.heap.get? b = some u → h'.get? b = some u) (heo : ∃ u, h'.get? e = some u)
    (new : ObjOk X.prog X.w (upd H x o) h' x o) : Inv X pins σ (upd H x o) { s with heap := h', toks := t' } := I.un (Un.write mu he k heo) (I.hok.write mu he k heo new)
theorem Inv.pins_of {pins' : List (Addr × Obj)} (I : Inv X pins σ H s) (h : ∀ p ∈ pins', s.heap.get? p.1 = some p.2 ∧ H p.1 = none ∧ p.1 ≠ X.env.locals ∧ p.1 ∉ X.fs ∧ ∀ v, p.2.data ≠ .cell v) : Inv X pins' σ H s :=
  ⟨I.ok, I.os, I.bare, I.base, I.loc, I.cell, I.free, I.freeC, fun p hp => (List.mem_append.mp hp).elim (fun z => I.pin p (List.mem_append_left _ z)) (h p), I.hok, I.len⟩

theorem nodup_ix {N : List Str} (hN : N.Nodup) {i j : Nat} {x : Str} (a : N[i]? = some x) (b : N[j]? = some x) : i = j := by
  obtain ⟨h1, e1⟩ := List.getElem?_eq_some_iff.mp a
  obtain ⟨h2, e2⟩ := List.getElem?_eq_some_iff.mp b
  exact (List.getElem_inj hN).mp (e1.trans e2.symm)

/-- a name is stored; what changed -/
theorem store_ok2 {M : Model} {A : Around} {E : Value → Shared → Prop} {i : Nat} {x : Str} {v : V} {u : Value} {Q : Unit → Shared → Prop} (I : Inv X pins σ H s) (hN : X.N.Nodup) (hi : X.N[i]? = some x) (hx : Loc X.env.scope x) (r : RelV v u)
    (h : ∀ s', Inv X pins (σ.set i (some v)) H s' → (∃ a, Heap.SameBut a s.heap s'.heap ∧ (a = X.env.locals ∨ X.env.cells.lookup x = some a)) → Q () s') (hf : X.fn x = true ∨ X.env.scope.names.lookup x = some .local := by first | exact .inl rfl | exact .inr rfl | assumption) : wpAny M A (storeName X.env x u) Q E s := by
  obtain ⟨m, hn, hl⟩ := id I.loc
  have hcls : (X.env.scope.kind == .class || (X.env.scope.kind == .module && X.env.locals != X.env.globals)) = false := by rw [I.ok.kind]; rfl
  have hiσ : i < σ.length := by rw [I.len]; exact (List.getElem?_eq_some_iff.mp hi).1
  have cne := I.cne
  have tracked : ∀ {a : Addr} {h' : Heap}, (∃ o, s.heap.get? a = some o ∧ H a = none) → Heap.SameBut a s.heap h' → HOk X.prog X.w H h' := fun {a h'} ha hs b ob e => by
    obtain ⟨_, _, hfree⟩ := ha
    refine (I.hok b ob e).stay (fun c w' hc q => (hs.2 c ?_).trans q) (fun _ q => q) fun _ _ q => q
    rintro rfl
    rcases hc with rfl | hc
    · rw [hfree] at e; cases e
    · rw [hfree] at hc; cases hc
  rcases hx with hk | hk
  · refine wpAny_storeName_local hk hn (fun h' hn' hs => ?_) hcls
    obtain ⟨oL, _, _, hoL, _⟩ := id hn
    refine h _ ⟨I.ok, I.os, I.bare, ⟨fun b o e n hb hx => ?_, fun b o e n hb hx => ?_, I.base.free, fun b o e hx => ?_, I.base.tups, I.base.frzs, I.base.tbls⟩, ⟨_, hn', fun j y v' e1 e2 e3 => ?_⟩, fun y c e => ?_, I.free, I.freeC, fun p hp => ?_, tracked ⟨oL, hoL, I.free⟩ hs, by simpa using I.len⟩ ⟨_, hs, .inl rfl⟩
    · exact (hs.2 b (Nat.ne_of_lt (Nat.lt_of_lt_of_le (Heap.lt_size e) I.ok.above))).trans (I.base.keep b o e n hb hx)
    · obtain ⟨sl, e1⟩ := I.base.slot b o e n hb hx
      exact ⟨sl, (hs.2 b (Nat.ne_of_lt (Nat.lt_of_lt_of_le (Heap.lt_size e) I.ok.above))).trans e1⟩
    · obtain ⟨o', e1⟩ := I.base.there b o e hx
      exact ⟨o', (hs.2 b (Nat.ne_of_lt (Nat.lt_of_lt_of_le (Heap.lt_size e) I.ok.above))).trans e1⟩
    · by_cases hj : j = i
      · subst hj
        rw [hi] at e1; cases e1
        rw [List.getElem?_set_self hiσ] at e2
        cases e2
        exact ⟨u, r, .inl ⟨hk, by simp⟩⟩
      · rw [List.getElem?_set_ne (Ne.symm hj)] at e2
        obtain ⟨u', r', q⟩ := hl j y v' e1 e2 e3
        refine ⟨u', r', ?_⟩
        rcases q with ⟨k, e⟩ | ⟨k, c, e, z⟩
        · refine .inl ⟨k, ?_⟩
          have : y ≠ x := fun e => hj (nodup_ix hN e1 (e ▸ hi))
          simp [this, e]
        · exact .inr ⟨k, c, e, z.sameBut hs (cne y c e)⟩
    · obtain ⟨w', z⟩ := I.cell y c e
      exact ⟨w', z.sameBut hs (cne y c e)⟩
    · obtain ⟨e, n, ne, nf, d⟩ := I.pin p hp
      exact ⟨(hs.2 p.1 ne).trans e, n, ne, nf, d⟩
  · have hfn : X.fn x = true := by
      rcases hf with z | z
      · exact z
      · rw [z] at hk; cases hk
    obtain ⟨c, hc⟩ := I.ok.has x (.inl hk)
    obtain ⟨w', z⟩ := I.cell x c hc
    refine wpAny_storeName_cell I.ok.kind hk hc z (fun h' hc' hs => ?_)
    obtain ⟨oc, hoc, hocd⟩ := id z
    refine h { s with heap := h' } ⟨I.ok, I.os, I.bare, ⟨fun b o e n hb hx => ?_, fun b o e n hb hx => ?_, I.base.free, fun b o e hx => ?_, I.base.tups, I.base.frzs, I.base.tbls⟩, ⟨m, hn.sameBut hs (Ne.symm (cne x c hc)), fun j y v' e1 e2 e3 => ?_⟩, fun y c' e => ?_, I.free, I.freeC, fun p hp => ?_, tracked ⟨oc, hoc, I.freeC x c hc⟩ hs, by simpa using I.len⟩ ⟨c, hs, .inr hc⟩
    · exact (hs.2 b (Nat.ne_of_lt (Nat.lt_of_lt_of_le (Heap.lt_size e) (I.ok.cab x c hfn hc)))).trans (I.base.keep b o e n hb hx)
    · obtain ⟨sl, e1⟩ := I.base.slot b o e n hb hx
      exact ⟨sl, (hs.2 b (Nat.ne_of_lt (Nat.lt_of_lt_of_le (Heap.lt_size e) (I.ok.cab x c hfn hc)))).trans e1⟩
    · obtain ⟨o', e1⟩ := I.base.there b o e hx
      exact ⟨o', (hs.2 b (Nat.ne_of_lt (Nat.lt_of_lt_of_le (Heap.lt_size e) (I.ok.cab x c hfn hc)))).trans e1⟩
    · by_cases hj : j = i
      · subst hj
        rw [hi] at e1; cases e1
        rw [List.getElem?_set_self hiσ] at e2
        cases e2
        exact ⟨u, r, .inr ⟨.inl hk, c, hc, hc'⟩⟩
      · rw [List.getElem?_set_ne (Ne.symm hj)] at e2
        obtain ⟨u', r', q⟩ := hl j y v' e1 e2 e3
        refine ⟨u', r', ?_⟩
        rcases q with q | ⟨k, c', e, z'⟩
        · exact .inl q
        · refine .inr ⟨k, c', e, z'.sameBut hs ?_⟩
          rintro rfl
          exact hj (nodup_ix hN e1 (I.ok.inj _ _ _ e hc ▸ hi))
    · by_cases hcc : c' = c
      · subst hcc; exact ⟨_, hc'⟩
      · obtain ⟨w2, z2⟩ := I.cell y c' e
        exact ⟨w2, z2.sameBut hs hcc⟩
    · obtain ⟨e, n, ne, nf, d⟩ := I.pin p hp
      refine ⟨(hs.2 p.1 ?_).trans e, n, ne, nf, d⟩
      intro q
      rw [q, hoc] at e
      have q' : oc = p.2 := Option.some.inj e
      exact d w' (by rw [← q']; exact hocd)
theorem store_ok {M : Model} {A : Around} {E : Value → Shared → Prop} {i : Nat} {x : Str} {v : V} {u : Value} {Q : Unit → Shared → Prop} (I : Inv X pins σ H s) (hN : X.N.Nodup) (hi : X.N[i]? = some x) (hx : Loc X.env.scope x) (r : RelV v u)
    (h : ∀ s', Inv X pins (σ.set i (some v)) H s' → Q () s') (hf : X.fn x = true ∨ X.env.scope.names.lookup x = some .local := by first | exact .inl rfl | exact .inr rfl | assumption) : wpAny M A (storeName X.env x u) Q E s :=
  store_ok2 I hN hi hx r (fun s' I' _ => h s' I') hf
/-- behind a call or a block, the state as it is -/
theorem Inv.call' {s' : Shared} {ch : List Addr} (I : Inv X pins σ H s) (ho : s'.os = s.os) (u : Un (frs X.stack) ch H H' s.heap s'.heap) (hok : HOk X.prog X.w H' s'.heap) (hg : AllBare s'.gens)
    (hch : ∀ b ∈ ch, (b ∈ X.ex ∨ X.s₀.heap.objs.size ≤ b) ∧ b ≠ X.env.locals ∧ (∀ x c, X.env.cells.lookup x = some c → c ≠ b) ∧ ∀ p ∈ X.pn ++ pins, p.1 ≠ b) : Inv X pins σ H' s' := by
  obtain ⟨h', g', d', t', o'⟩ := s'
  have e : o' = s.os := ho
  subst e
  exact I.call (g' := g') (t' := t') (d' := d') u hok hg hch
end

/-! ### the judgements -/
/-- an exception: its class, its own dict's address (where it has one), the abstract heap behind it -/
abbrev XK := Value → Option Addr → Hp → Prop
abbrev St := List (Option V)
abbrev VK := V → Hp → Prop
/-- an expression's reading; a test's; an argument list's -/
abbrev TE := St → Hp → VK → Prop
abbrev TT := St → Hp → (Bool → Hp → Prop) → Prop
abbrev TA := St → Hp → (List V → Hp → Prop) → Prop
/-- what is wanted behind a statement -/
structure Ends where
  nx : St → Hp → Prop
  rt : VK
  bk : St → Hp → Prop := fun _ _ => False
  ct : St → Hp → Prop := fun _ _ => False
abbrev TS := Ends → St → Hp → Prop

def EP (X : Cx) (pins : List (Addr × Obj)) (σ : St) (Q : VK) (u : Value) (s' : Shared) : Prop := ∃ v H', Inv X pins σ H' s' ∧ RelV v u ∧ Q v H'
def TP (X : Cx) (pins : List (Addr × Obj)) (σ : St) (Q : Bool → Hp → Prop) (b : Bool) (s' : Shared) : Prop := ∃ H', Inv X pins σ H' s' ∧ Q b H'
def AP (X : Cx) (pins : List (Addr × Obj)) (σ : St) (Q : List V → Hp → Prop) (us : List Value) (s' : Shared) : Prop := ∃ vs H', Inv X pins σ H' s' ∧ Vals vs us ∧ Q vs H'
def SP (X : Cx) (pins : List (Addr × Obj)) (D : Ends) (f : Flow) (s' : Shared) : Prop :=
  match f with
  | .next => ∃ σ' H', Inv X pins σ' H' s' ∧ D.nx σ' H'
  | .brk => ∃ σ' H', Inv X pins σ' H' s' ∧ D.bk σ' H'
  | .cont => ∃ σ' H', Inv X pins σ' H' s' ∧ D.ct σ' H'
  | .ret u => ∃ v σ' H', Inv X pins σ' H' s' ∧ RelV v u ∧ D.rt v H'

def PE (X : Cx) (e : Expr) (t : TE) : Prop :=
  ∀ (pins : List (Addr × Obj)) (s : Shared) (σ : St) (H : Hp) (Q : VK), Inv X pins σ H s → t σ H Q → wpAny (model X.prog X.w) X.A (eval e X.env) (EP X pins σ Q) X.xe s
def PT (X : Cx) (e : Expr) (t : TT) : Prop :=
  ∀ (pins : List (Addr × Obj)) (s : Shared) (σ : St) (H : Hp) (Q : Bool → Hp → Prop), Inv X pins σ H s → t σ H Q → wpAny (model X.prog X.w) X.A (isTrue e X.env (eval e X.env)) (TP X pins σ Q) X.xe s
/-- a test whatever its 'whole' is (and, or) -/
def PW (X : Cx) (e : Expr) (t : TT) : Prop :=
  ∀ (whole : Sem Value) (pins : List (Addr × Obj)) (s : Shared) (σ : St) (H : Hp) (Q : Bool → Hp → Prop), Inv X pins σ H s → t σ H Q → wpAny (model X.prog X.w) X.A (isTrue e X.env whole) (TP X pins σ Q) X.xe s
theorem PW.pt {X : Cx} {e : Expr} {t : TT} (h : PW X e t) : PT X e t := h _
/-- an argument list (no star), from the left -/
def PA (X : Cx) (es : List Expr) (t : TA) : Prop :=
  ∀ (pos : Pos) (pins : List (Addr × Obj)) (s : Shared) (σ : St) (H : Hp) (Q : List V → Hp → Prop), Inv X pins σ H s → t σ H Q → wpAny (model X.prog X.w) X.A (spliced (backTo pos (starEach es X.env))) (AP X pins σ Q) X.xe s
def PS (X : Cx) (st : Stmt) (t : TS) : Prop :=
  ∀ (pins : List (Addr × Obj)) (s : Shared) (σ : St) (H : Hp) (D : Ends), Inv X pins σ H s → t D σ H → wpAny (model X.prog X.w) X.A (exec st X.env) (SP X pins D) X.xe s
def PSs (X : Cx) (st : List Stmt) (t : TS) : Prop :=
  ∀ (pins : List (Addr × Obj)) (s : Shared) (σ : St) (H : Hp) (D : Ends), Inv X pins σ H s → t D σ H → wpAny (model X.prog X.w) X.A (execs st X.env) (SP X pins D) X.xe s
/-- weaken the end -/
theorem thn {α : Type} {t : Sem α} {Q Q' : α → Shared → Prop} {M : Model} {A : Around} {E : Value → Shared → Prop} {s : Shared} (h : wpAny M A t Q E s) (hQ : ∀ a s, Q a s → Q' a s) : wpAny M A t Q' E s := wpAny_mono h hQ fun _ _ x => x
end L2

namespace L2
open PySem PySem.Spec PyProof.Rows
section
variable {X : Cx}

/-! ### names and constants -/
def tVar (i : Nat) : TE := fun σ H Q => ∃ v, σ[i]? = some (some v) ∧ Q v H
def tC (v : V) : TE := fun _ H Q => Q v H
theorem pe_var {i : Nat} {x : Str} {pos : Pos} (hN : X.N[i]? = some x) (hv : Vis X.env.scope x) (hd : (x == ("__debug__" : Str)) = false := by decide) (hcd : (x == ("__classdict__" : Str)) = false := by decide) : PE X (.Name x pos) (tVar i) := by
  intro pins s σ H Q I h
  obtain ⟨v, e, h⟩ := h
  obtain ⟨m, hn, hl⟩ := I.loc
  obtain ⟨u, r, l⟩ := hl i x v hN e hv
  have fin : EP X pins σ Q u s := ⟨v, H, I, r, h⟩
  rcases l with ⟨hk, hm⟩ | ⟨hk, c, hc, hcell⟩
  · exact wpAny_Name (wpAny_loadName_local I.ok.kind hk hn hm fin) hd
  · rcases hk with hk | hk
    · exact wpAny_Name (wpAny_loadName_cell I.ok.kind hk hc hcell fin) hd
    · exact wpAny_Name (wpAny_loadName_free I.ok.kind hk hc hcell fin hcd) hd
theorem pe_int {i j pos} : PE X (.Constant (.int i) j pos) (tC (.int i)) := fun _ _ _ H _ I h => wpAny_Constant_int ⟨.int i, H, I.tok _, ⟨_, rfl⟩, h⟩
theorem pe_bl {b j pos} : PE X (.Constant (.bool b) j pos) (tC (.bl b)) := fun _ _ _ H _ I h => Constant_bool ⟨.bl b, H, I, rfl, h⟩
theorem pe_str {x j pos} : PE X (.Constant (.str x) j pos) (tC (.str x)) := fun _ _ _ H _ I h => Calls.Constant_str ⟨.str x, H, I.tok _, ⟨_, rfl⟩, h⟩

/-- a global name of the def -/
def Gl (X : Cx) (x : Str) : Prop := X.env.kindOf x = some .globalImplicit
theorem ld_glob {E : Value → Shared → Prop} {pins : List (Addr × Obj)} {s : Shared} {σ : St} {H : Hp} {x : Str} {u : Value} {pos : Pos} {Q : Value → Shared → Prop} (I : Inv X pins σ H s) (hg : Gl X x) (hm : X.mg x = some u) (h : Q u s)
    (hd : (x == ("__debug__" : Str)) = false := by decide) : wpAny (model X.prog X.w) X.A (eval (.Name x pos) X.env) Q E s :=
  Calls.Name_function_global I.ok.kind hg (Calls.loadGlobal_global (by rw [I.ok.glob]; exact I.mod.glob.keeps I.bk) hm h) hd
theorem ld_blt {E : Value → Shared → Prop} {pins : List (Addr × Obj)} {s : Shared} {σ : St} {H : Hp} {x : Str} {u : Value} {pos : Pos} {Q : Value → Shared → Prop} (I : Inv X pins σ H s) (hg : Gl X x) (hm : X.mg x = none) (hv : bootBuiltins x = some u) (h : Q u s)
    (hn : x ≠ "__name__" := by decide) (hd : (x == ("__debug__" : Str)) = false := by decide) : wpAny (model X.prog X.w) X.A (eval (.Name x pos) X.env) Q E s := by
  obtain ⟨mb, h1, h2⟩ := I.mod.blt
  exact Calls.Name_function_global I.ok.kind hg (Calls.loadGlobal_builtin (by rw [I.ok.glob]; exact I.mod.glob.keeps I.bk) hm (by rw [I.ok.blt]; exact h1.keeps I.bk) ((h2 x hn).trans hv) h) hd
/-- a module's constant, a class, a function, as a value -/
theorem pe_glob {x : Str} {v : V} {u : Value} {pos : Pos} (hg : Gl X x) (hm : X.mg x = some u) (r : RelV v u) (hd : (x == ("__debug__" : Str)) = false := by decide) : PE X (.Name x pos) (tC v) :=
  fun _ _ _ H _ I h => ld_glob I hg hm ⟨v, H, I, r, h⟩ hd
theorem pe_bltn {x : Str} {v : V} {u : Value} {pos : Pos} (hg : Gl X x) (hm : X.mg x = none) (hv : bootBuiltins x = some u) (r : RelV v u) (hn : x ≠ "__name__" := by decide) (hd : (x == ("__debug__" : Str)) = false := by decide) : PE X (.Name x pos) (tC v) :=
  fun _ _ _ H _ I h => ld_blt I hg hm hv ⟨v, H, I, r, h⟩ hn hd

/-! ### arithmetic -/
variable {a b : Expr} {ta tb : TE} {pos : Pos}
/-! ### comparisons -/
/-- a comparison as a value, as a test -/
def tB (t : TE) : TT := fun σ H Q => t σ H fun x H1 => ∃ c, x = .bl c ∧ Q c H1
/-- an expression whose value is a bool, as a test -/
theorem pt_val {e : Expr} {t : TE} (h : PE X e t) (he : ∀ whole, isTrue e X.env whole = (do let v ← whole; standAt e.pos; holding [v] (truthy v)) := by intro _; rfl) : PT X e (tB t) := by
  intro pins s σ H Q I hw
  refine isTrue_plain (thn (h pins s σ H _ I hw) fun v s1 ⟨x, H1, I1, r1, q1⟩ => ?_) (he _)
  obtain ⟨d, rfl, q⟩ := q1
  cases r1
  exact wpAny_truthy_bool ⟨H1, I1, q⟩

/-! ### and, or, not -/
variable {tA tB' : TT} {rest : List Expr}
def tAnd (t u : TT) : TT := fun σ H Q => t σ H fun c H1 => if c = true then u σ H1 Q else Q false H1
def tOr (t u : TT) : TT := fun σ H Q => t σ H fun c H1 => if c = true then Q true H1 else u σ H1 Q
def tNot (t : TT) : TT := fun σ H Q => t σ H fun c H1 => Q (!c) H1
theorem pw_and1 (ha : PT X a tA) : PW X (.BoolOp .And [a] pos) tA := by
  intro wh pins s σ H Q I h
  refine isTrue_and (thn (ha pins s σ H Q I h) fun c s1 e => ?_)
  cases c with
  | true => exact isTrue_and_nil e
  | false => exact e
theorem pw_or1 (ha : PT X a tA) : PW X (.BoolOp .Or [a] pos) tA := by
  intro wh pins s σ H Q I h
  refine isTrue_or (thn (ha pins s σ H Q I h) fun c s1 e => ?_)
  cases c with
  | false => exact isTrue_or_nil e
  | true => exact e
theorem pw_and (ha : PT X a tA) (hb : PW X (.BoolOp .And (b :: rest) pos) tB') : PW X (.BoolOp .And (a :: b :: rest) pos) (tAnd tA tB') := by
  intro wh pins s σ H Q I h
  refine isTrue_and (thn (ha pins s σ H _ I h) fun c s1 ⟨H1, I1, q1⟩ => ?_)
  cases c with
  | true => exact hb wh pins s1 σ H1 Q I1 q1
  | false => exact ⟨H1, I1, q1⟩
theorem pw_or (ha : PT X a tA) (hb : PW X (.BoolOp .Or (b :: rest) pos) tB') : PW X (.BoolOp .Or (a :: b :: rest) pos) (tOr tA tB') := by
  intro wh pins s σ H Q I h
  refine isTrue_or (thn (ha pins s σ H _ I h) fun c s1 ⟨H1, I1, q1⟩ => ?_)
  cases c with
  | true => exact ⟨H1, I1, q1⟩
  | false => exact hb wh pins s1 σ H1 Q I1 q1
theorem pt_not (ha : PT X a tA) : PT X (.UnaryOp .Not a pos) (tNot tA) := by
  intro pins s σ H Q I h
  exact isTrue_not (ha pins s σ H (fun c H1 => Q (!c) H1) I h)
/-- .. as values (bools) -/
def tAndV (ta tb : TE) : TE := fun σ H Q => ta σ H fun x H1 => ∃ c, x = .bl c ∧ if c = true then tb σ H1 Q else Q (.bl false) H1
def tNotV (ta : TE) : TE := fun σ H Q => ta σ H fun x H1 => ∃ c, x = .bl c ∧ Q (.bl (!c)) H1
theorem pe_one {op} {t : TE} (h : PE X a t) : PE X (.BoolOp op [a] pos) t := fun pins s σ H Q I hw => BoolOp_one (h pins s σ H Q I hw)
theorem pe_and (ha : PE X a ta) (hb : PE X (.BoolOp .And (b :: rest) pos) tb) : PE X (.BoolOp .And (a :: b :: rest) pos) (tAndV ta tb) := by
  intro pins s σ H Q I h
  refine BoolOp_and (thn (ha pins s σ H _ I h) fun v s1 ⟨x, H1, I1, r1, q1⟩ => ?_)
  obtain ⟨c, rfl, q1⟩ := q1
  cases r1
  refine wpAny_truthy_bool ?_
  cases c with
  | true => exact hb pins s1 σ H1 Q I1 q1
  | false => exact ⟨.bl false, H1, I1, rfl, q1⟩
theorem pe_not (ha : PE X a ta) : PE X (.UnaryOp .Not a pos) (tNotV ta) := by
  intro pins s σ H Q I h
  refine UnaryOp_ (thn (ha pins s σ H _ I h) fun v s1 ⟨x, H1, I1, r1, q1⟩ => ?_)
  obtain ⟨c, rfl, q1⟩ := q1
  cases r1
  exact not_of (wpAny_truthy_bool ⟨.bl (!c), H1, I1, rfl, q1⟩)
/-- a if t else b -/
def tIf (t : TT) (ta tb : TE) : TE := fun σ H Q => t σ H fun c H1 => if c = true then ta σ H1 Q else tb σ H1 Q
theorem pe_ifExp {c : Expr} (hc : PT X c tA) (ha : PE X a ta) (hb : PE X b tb) : PE X (.IfExp c a b pos) (tIf tA ta tb) := by
  intro pins s σ H Q I h
  refine wpAny_IfExp (thn (hc pins s σ H _ I h) fun d s1 ⟨H1, I1, q1⟩ => ?_)
  cases d with
  | true => exact ha pins s1 σ H1 Q I1 q1
  | false => exact hb pins s1 σ H1 Q I1 q1
end
end L2

namespace L2
open PySem PySem.Spec PyProof.Rows

/-! ### a list, a tuple that is read: tracked, frozen, or an object of the module -/
def SqL (K : PySem.W.Frag) (H : Hp) (a : Addr) (xs : List V) : Prop :=
  Rd H a (.lst xs) ∨
    ∃ (o : Obj) (its : Array Value) (n : Nat), K.lookup a = some o ∧ o.cls = .type "list" ∧ o.dict = none ∧ o.data = .seq its n ∧ its.size ≤ sizeLine ∧ Vals xs its.toList
def SqT (K : PySem.W.Frag) (H : Hp) (a : Addr) (xs : List V) : Prop :=
  Rd H a (.tup xs) ∨
    ∃ (o : Obj) (its : Array Value) (n : Nat), K.lookup a = some o ∧ o.cls = .type "tuple" ∧ o.data = .seq its n ∧ its.size ≤ sizeLine ∧ Vals xs its.toList
def absV : Value → Option V
  | .none => some .non
  | .bool b => some (.bl b)
  | .int i _ => some (.int i)
  | .str x _ => some (.str x)
  | .bytes b _ => some (.byt b)
  | .float b _ => some (.flt b)
  | .ref a => some (.ref a)
  | .type n => some (.ty n)
  | _ => none
theorem RelV.abs {x : V} {u : Value} (r : RelV x u) : absV u = some x := by
  cases x with
  | non => cases r; rfl
  | bl _ => cases r; rfl
  | int _ => obtain ⟨t, rfl⟩ := r; rfl
  | str _ => obtain ⟨t, rfl⟩ := r; rfl
  | byt _ => obtain ⟨t, rfl⟩ := r; rfl
  | flt _ => obtain ⟨t, rfl⟩ := r; rfl
  | ref _ => cases r; rfl
  | ty _ => cases r; rfl
theorem RelV.inj {x y : V} {u : Value} (r : RelV x u) (q : RelV y u) : x = y := Option.some.inj (r.abs.symm.trans q.abs)
theorem Vals.inj : ∀ {xs ys : List V} {us : List Value}, Vals xs us → Vals ys us → xs = ys
  | _, _, _, .nil, .nil => rfl
  | _, _, _, .cons r t, .cons r' t' => by rw [r.inj r', Vals.inj t t']
section
variable {X : Cx} {pins : List (Addr × Obj)} {σ : St} {H : Hp} {s : Shared} {a : Addr} {xs ys : List V}
theorem SqL.of {K : PySem.W.Frag} (h : H a = some (.lst xs)) : SqL K H a xs := .inl (.inl h)
theorem SqT.of {K : PySem.W.Frag} (h : H a = some (.tup xs)) : SqT K H a xs := .inl (.inl h)
theorem Inv.list (I : Inv X pins σ H s) (h : SqL X.K H a xs) : ∃ its : List Value, Vals xs its ∧ PlainL s.heap a its.toArray ∧ xs.length ≤ sizeLine := by
  rcases h with h | ⟨o, its, n, hk, hc, hd, hs, hz, r⟩
  · obtain ⟨z, its, n, r, e⟩ := h.ok I.hok
    exact ⟨its, r, ⟨_, n, e, rfl, rfl, rfl⟩, z⟩
  · refine ⟨its.toList, r, ⟨o, n, I.kIn a o hk, hc, hd, by simpa using hs⟩, ?_⟩
    have e := r.length
    simp only [Array.length_toList] at e
    omega
theorem Inv.tuple (I : Inv X pins σ H s) (h : SqT X.K H a xs) : ∃ its : List Value, Vals xs its ∧ IsTup s.heap a its.toArray ∧ xs.length ≤ sizeLine := by
  rcases h with h | ⟨o, its, n, hk, hc, hs, hz, r⟩
  · obtain ⟨z, its, r, p⟩ := h.ok I.hok
    exact ⟨its, r, p, z⟩
  · refine ⟨its.toList, r, ⟨o, I.kIn a o hk, hc, n, by simpa using hs⟩, ?_⟩
    have e := r.length
    simp only [Array.length_toList] at e
    omega
theorem Inv.list_inj (I : Inv X pins σ H s) (h : SqL X.K H a xs) (h' : SqL X.K H a ys) : xs = ys := by
  obtain ⟨its, r, ⟨o, n, e, _, _, d⟩, _⟩ := I.list h
  obtain ⟨its', r', ⟨o', n', e', _, _, d'⟩, _⟩ := I.list h'
  rw [e] at e'; cases e'
  rw [d] at d'
  injection d' with d1 _
  have : its = its' := by simpa using congrArg Array.toList d1
  subst this
  exact r.inj r'
end

/-! ### another wish about exceptions -/
abbrev Cx.wish (X : Cx) (E : Value → Shared → Prop) : Cx := { X with xe := E }
/-- no exception leaves -/
abbrev Cx.nox (X : Cx) : Cx := X.wish fun _ _ => False
theorem Cx.Ok.wish {X : Cx} (ok : X.Ok) (E : Value → Shared → Prop) : (X.wish E).Ok :=
  ⟨ok.mod, ok.kind, ok.glob, ok.blt, ok.above, ok.inj, ok.has, ok.cab, ok.hd, ok.frames, ok.stk, ok.exf, ok.bs, ok.bsz, ok.noex, ok.exfs, ok.funs, ok.frf⟩
theorem Cx.Ok.unwish {X : Cx} {E : Value → Shared → Prop} (ok : (X.wish E).Ok) : X.Ok :=
  ⟨ok.mod, ok.kind, ok.glob, ok.blt, ok.above, ok.inj, ok.has, ok.cab, ok.hd, ok.frames, ok.stk, ok.exf, ok.bs, ok.bsz, ok.noex, ok.exfs, ok.funs, ok.frf⟩
section
variable {X : Cx} {pins : List (Addr × Obj)} {σ : St} {H : Hp} {s : Shared} {E : Value → Shared → Prop}
theorem Inv.wish (I : Inv X pins σ H s) (E : Value → Shared → Prop) : Inv (X.wish E) pins σ H s := ⟨I.ok.wish E, I.os, I.bare, I.base, I.loc, I.cell, I.free, I.freeC, I.pin, I.hok, I.len⟩
theorem Inv.unwish (I : Inv (X.wish E) pins σ H s) : Inv X pins σ H s := ⟨I.ok.unwish, I.os, I.bare, I.base, I.loc, I.cell, I.free, I.freeC, I.pin, I.hok, I.len⟩
theorem SP.unwish {D : Ends} {f : Flow} {s' : Shared} (h : SP (X.wish E) pins D f s') : SP X pins D f s' := by
  cases f with
  | next => obtain ⟨σ', H', I, q⟩ := h; exact ⟨σ', H', I.unwish, q⟩
  | brk => obtain ⟨σ', H', I, q⟩ := h; exact ⟨σ', H', I.unwish, q⟩
  | cont => obtain ⟨σ', H', I, q⟩ := h; exact ⟨σ', H', I.unwish, q⟩
  | ret u => obtain ⟨v, σ', H', I, r, q⟩ := h; exact ⟨v, σ', H', I.unwish, r, q⟩
theorem PE.nox {e : Expr} {t : TE} (h : PE X.nox e t) : PE X e t := fun pins s σ H Q I hw =>
  wpAny_mono (h pins s σ H Q (I.wish _) hw) (fun _ _ ⟨v, H', I', r, q⟩ => ⟨v, H', I'.unwish, r, q⟩) fun _ _ z => False.elim z
theorem PT.nox {e : Expr} {t : TT} (h : PT X.nox e t) : PT X e t := fun pins s σ H Q I hw =>
  wpAny_mono (h pins s σ H Q (I.wish _) hw) (fun _ _ ⟨H', I', q⟩ => ⟨H', I'.unwish, q⟩) fun _ _ z => False.elim z
theorem PSs.nox {st : List Stmt} {t : TS} (h : PSs X.nox st t) : PSs X st t := fun pins s σ H D I hw =>
  wpAny_mono (h pins s σ H D (I.wish _) hw) (fun _ _ q => q.unwish) fun _ _ z => False.elim z
end

/-! ### blocks and small statements -/
section
variable {X : Cx} {st : Stmt} {rest : List Stmt} {t u : TS} {e : Expr} {te : TE} {pos : Pos}
def tNext : TS := fun D σ H => D.nx σ H
def tSeq (t u : TS) : TS := fun D σ H => t { D with nx := u D } σ H
theorem pss_nil : PSs X [] tNext := fun _ _ σ H _ I h => wpAny_execs_nil ⟨σ, H, I, h⟩
theorem pss_cons (h1 : PS X st t) (h2 : PSs X rest u) : PSs X (st :: rest) (tSeq t u) := by
  intro pins s σ H D I h
  refine wpAny_execs_cons (thn (h1 pins s σ H { D with nx := u D } I h) fun f s1 q => ?_)
  cases f with
  | next =>
    obtain ⟨σ', H', I', q⟩ := q
    exact h2 pins s1 σ' H' D I' q
  | ret v => exact q
  | brk => exact q
  | cont => exact q
theorem pss_one (h1 : PS X st t) : PSs X [st] t := by
  intro pins s σ H D I h
  refine wpAny_execs_cons (thn (h1 pins s σ H D I h) fun f s1 q => ?_)
  cases f with
  | next => exact wpAny_execs_nil q
  | ret v => exact q
  | brk => exact q
  | cont => exact q
/-- in a def's body nothing is shown -/
theorem Inv.quiet {pins : List (Addr × Obj)} {σ : St} {H : Hp} {s : Shared} (I : Inv X pins σ H s) : interactive X.env = false := by simp [interactive, I.ok.kind]
/-- an expression whose value is dropped -/
def tDrop (te : TE) : TS := fun D σ H => te σ H fun _ H1 => D.nx σ H1
theorem ps_expr (he : PE X e te) (hs : swapsWith e none pos.line X.env = pure false := by rfl) : PS X (.Expr e pos) (tDrop te) := by
  intro pins s σ H D I h
  exact wpAny_Expr_any (thn (he pins s σ H _ I h) fun v s1 ⟨x, H1, I1, r1, q1⟩ => ⟨σ, H1, I1, q1⟩) I.quiet hs
def tRet (te : TE) : TS := fun D σ H => te σ H D.rt
theorem ps_ret (he : PE X e te) : PS X (.Return (some e) pos) (tRet te) := by
  intro pins s σ H D I h
  exact wpAny_Return_some (thn (he pins s σ H _ I h) fun v s1 ⟨x, H1, I1, r1, q1⟩ => ⟨x, σ, H1, I1, r1, q1⟩)
def tIfS (c : TT) (t u : TS) : TS := fun D σ H => c σ H fun b H1 => if b = true then t D σ H1 else u D σ H1
theorem ps_if {c : Expr} {a b : List Stmt} {tc : TT} (hc : PT X c tc) (ha : PSs X a t) (hb : PSs X b u) : PS X (.If c a b pos) (tIfS tc t u) := by
  intro pins s σ H D I h
  refine wpAny_If (thn (hc pins s σ H _ I h) fun d s1 ⟨H1, I1, q1⟩ => ?_)
  cases d with
  | true => exact ha pins s1 σ H1 D I1 q1
  | false => exact hb pins s1 σ H1 D I1 q1
/-- code that the proof never comes to -/
def tNever : TS := fun _ _ _ => False
theorem pss_never {sts : List Stmt} : PSs X sts tNever := fun _ _ _ _ _ _ h => h.elim
end

/-! ### targets -/
abbrev TG := V → St → Hp → (St → Hp → Prop) → Prop
abbrev TGs := List V → St → Hp → (St → Hp → Prop) → Prop
def PG (X : Cx) (target : Expr) (t : TG) : Prop :=
  ∀ (pins : List (Addr × Obj)) (s : Shared) (σ : St) (H : Hp) (v : V) (u : Value) (Q : St → Hp → Prop), Inv X pins σ H s → RelV v u → t v σ H Q →
    wpAny (model X.prog X.w) X.A (assign target X.env u) (fun _ s' => ∃ σ' H', Inv X pins σ' H' s' ∧ Q σ' H') X.xe s
/-- several targets, one after another -/
def PGs (X : Cx) (ts : List Expr) (t : TGs) : Prop :=
  ∀ (pins : List (Addr × Obj)) (s : Shared) (σ : St) (H : Hp) (vs : List V) (us : List Value) (Q : St → Hp → Prop), Inv X pins σ H s → Vals vs us → t vs σ H Q →
    wpAny (model X.prog X.w) X.A (assignInOrder ((assignEach ts X.env).map (·.2)) us) (fun _ s' => ∃ σ' H', Inv X pins σ' H' s' ∧ Q σ' H') X.xe s
section
variable {X : Cx} {pos : Pos}
def gName (i : Nat) : TG := fun v σ H Q => Q (σ.set i (some v)) H
theorem pg_name {i : Nat} {x : Str} (hN : X.N.Nodup) (hi : X.N[i]? = some x) (hx : Loc X.env.scope x) (hf : X.fn x = true ∨ X.env.scope.names.lookup x = some .local := by first | exact .inl rfl | exact .inr rfl | assumption) : PG X (.Name x pos) (gName i) := by
  intro pins s σ H v u Q I r h
  exact wpAny_assign_Name (store_ok I hN hi hx r (fun s' I' => ⟨_, H, I', h⟩) hf)
def gNil : TGs := fun vs σ H Q => vs = [] ∧ Q σ H
def gCons (t : TG) (u : TGs) : TGs := fun vs σ H Q => ∃ v r, vs = v :: r ∧ t v σ H fun σ' H' => u r σ' H' Q
theorem pgs_nil : PGs X [] gNil := by
  intro pins s σ H vs us Q I r h
  obtain ⟨e, h⟩ := h
  subst e
  cases r
  exact assignInOrder_nil ⟨σ, H, I, h⟩
theorem pgs_cons {e : Expr} {es : List Expr} {t : TG} {u : TGs} (h1 : PG X e t) (h2 : PGs X es u)
    (hs : (assignEach (e :: es) X.env).map (·.2) = assign e X.env :: (assignEach es X.env).map (·.2) := by rfl) : PGs X (e :: es) (gCons t u) := by
  intro pins s σ H vs us Q I r h
  obtain ⟨v, vr, e1, h⟩ := h
  subst e1
  cases r with
  | cons r rr =>
    rw [hs]
    refine assignInOrder_cons (thn (h1 pins s σ H _ _ _ I r h) fun _ s1 ⟨σ1, H1, I1, q1⟩ => ?_)
    exact h2 pins s1 σ1 H1 _ _ Q I1 rr q1
/-- (a, b, ..) = a tuple of that length -/
def gTup (K : PySem.W.Frag) (n : Nat) (t : TGs) : TG := fun v σ H Q => ∃ a xs, v = .ref a ∧ SqT K H a xs ∧ xs.length = n ∧ t xs σ H Q
theorem pg_tup {es : List Expr} {k : Nat} {t : TGs} {n : Nat} (hc : X.calm = true) (h : PGs X es t)
    (hn : (assignEach es X.env).length = n := by rfl) (hst : (assignEach es X.env).findIdx? (·.1) = none := by rfl) : PG X (.Tuple es k pos) (gTup X.K n t) := by
  intro pins s σ H v u Q I r hw
  obtain ⟨a, xs, e1, hq, hl, hw⟩ := hw
  subst e1
  cases r
  obtain ⟨its, rv, ht, hz⟩ := I.tuple hq
  refine assign_Tuple_tuple (I.ok.hd hc) ht (by simp [hn, ← hl, rv.length]) hst fun h' hx => ?_
  have I1 : Inv X pins σ H { s with heap := h' } := I.kept (t' := s.toks) fun b o e => hx b o (Nat.ne_of_lt (Heap.lt_size e)) e
  exact h pins _ σ H xs _ Q I1 (by simpa using rv) hw
/-- target = value -/
def tAsg (te : TE) (g : TG) : TS := fun D σ H => te σ H fun x H1 => g x σ H1 D.nx
theorem ps_asg {tg e : Expr} {te : TE} {g : TG} (he : PE X e te) (hg : PG X tg g) (hs : swapsWithSole [tg] e pos.line X.env = pure false := by rfl) (hw : swappedStores [tg] e X.env = pure none := by rfl)
    (h1 : (assignEach [tg] X.env).map (·.2) = [assign tg X.env] := by rfl) : PS X (.Assign [tg] e pos) (tAsg te g) := by
  intro pins s σ H D I h
  refine wpAny_Assign_stores (thn (he pins s σ H _ I h) fun v s1 ⟨x, H1, I1, r1, q1⟩ => ?_) hs hw
  rw [h1]
  exact thn (hg pins s1 σ H1 x v _ I1 r1 q1) fun _ s2 q => q
/-- name = value -/
theorem ps_set {i : Nat} {x : Str} {e : Expr} {te : TE} {pos' : Pos} (hN : X.N.Nodup) (hi : X.N[i]? = some x) (hx : Loc X.env.scope x) (he : PE X e te) (hs : swapsWith e (some (.Name x pos')) pos.line X.env = pure false := by rfl) (hf : X.fn x = true ∨ X.env.scope.names.lookup x = some .local := by first | exact .inl rfl | exact .inr rfl | assumption) :
    PS X (.Assign [.Name x pos'] e pos) (tAsg te (gName i)) := by
  intro pins s σ H D I h
  refine wpAny_Assign_Name (thn (he pins s σ H _ I h) fun v s1 ⟨y, H1, I1, r1, q1⟩ => ?_) hs
  exact store_ok I1 hN hi hx r1 (fun s2 I2 => ⟨_, H1, I2, q1⟩) hf
end

/-! ### while -/
section
variable {X : Cx} {pos : Pos}
end

/-! ### what a loop or a comprehension walks -/
/-- at turn i: it yields x (the heap may grow), or it stops -/
structure It where
  go : Nat → Hp → Prop
  yld : Nat → Hp → V → Hp → Prop
  stop : Nat → Hp → Prop
/-- the iterator's own objects may turn: they are not the frame's, not pinned, younger than the entry (or a comprehension's own) -/
def FpOk (X : Cx) (pins : List (Addr × Obj)) (H : Hp) (b : Addr) : Prop :=
  H b = none ∧ b ≠ X.env.locals ∧ b ∉ X.fs ∧ (b ∈ X.ex ∨ X.s₀.heap.objs.size ≤ b) ∧ (∀ x c, X.env.cells.lookup x = some c → c ≠ b) ∧ ∀ p ∈ X.pn ++ pins, p.1 ≠ b
theorem Inv.fpOk {X : Cx} {pins : List (Addr × Obj)} {σ : St} {H H' : Hp} {s : Shared} {b : Addr} (I : Inv X pins σ H s) (hb : s.heap.objs.size ≤ b) (hn : H' b = none) : FpOk X pins H' b := by
  refine ⟨hn, Nat.ne_of_gt (Nat.lt_of_lt_of_le I.lt hb), I.nofs hb, .inr (Nat.le_trans I.sz hb), fun x c e z => ?_, fun p hp z => ?_⟩
  · obtain ⟨v, q⟩ := I.cell x c e
    exact absurd (Nat.lt_of_lt_of_le q.lt (by rw [z]; exact hb)) (Nat.lt_irrefl _)
  · exact absurd (Nat.lt_of_lt_of_le (Heap.lt_size (I.pin p hp).1) (by rw [z]; exact hb)) (Nat.lt_irrefl _)
structure Turn (P : Program) (w : World) (K : PySem.W.Frag) (tg : Expr) (J : It) (fp : List Addr) (it : Addr) (tn : Nat → Heap → Prop) : Prop where
  mem : it ∈ fp
  obj : ∀ i h, tn i h → ∀ b ∈ fp, ∃ o, h.get? b = some o ∧ ∀ v, o.data ≠ .cell v
  keep : ∀ i h h', tn i h → (∀ b ∈ fp, ∀ o, h.get? b = some o → h'.get? b = some o) → tn i h'
  item : ∀ (X : Cx), X.prog = P → X.w = w → X.K = K → X.calm = true → ∀ (i : Nat) (pins : List (Addr × Obj)) (s : Shared) (σ : St) (H : Hp) (E : Value → Shared → Prop), Inv X pins σ H s → (∀ b ∈ fp, FpOk X pins H b) → tn i s.heap → J.go i H →
    wpAny (model P w) X.A (pyNext (.ref it)) (fun r s1 => ∃ u, r = some u ∧
      wpAny (model P w) X.A (letOwnedTupleGo tg (.ref it) u) (fun _ s2 => ∃ x H', Inv X pins σ H' s2 ∧ RelV x u ∧ J.yld i H x H' ∧ tn (i + 1) s2.heap ∧ ∀ b ∈ fp, H' b = none) E s1) E s
  done : ∀ (X : Cx), X.prog = P → X.w = w → X.K = K → X.calm = true → ∀ (i : Nat) (pins : List (Addr × Obj)) (s : Shared) (σ : St) (H : Hp) (E : Value → Shared → Prop), Inv X pins σ H s → (∀ b ∈ fp, FpOk X pins H b) → tn i s.heap → J.stop i H →
    wpAny (model P w) X.A (pyNext (.ref it)) (fun r s1 => r = none ∧ Inv X pins σ H s1) E s
  self : ∀ (A : Around) (i : Nat) (s : Shared) (Q : Value → Shared → Prop) (E : Value → Shared → Prop), tn i s.heap → Q (.ref it) s → wpAny (model P w) A (pyIter (.ref it)) Q E s
abbrev TI := St → Hp → (It → Hp → Prop) → Prop
/-- an iterator has come -/
def PIE (X : Cx) (pins : List (Addr × Obj)) (σ : St) (tg : Expr) (R : It → Hp → Prop) (itv : Value) (s2 : Shared) : Prop :=
  ∃ (it : Addr) (fp : List Addr) (tn : Nat → Heap → Prop) (J : It) (H' : Hp), itv = .ref it ∧ Inv X pins σ H' s2 ∧ Turn X.prog X.w X.K tg J fp it tn ∧ tn 0 s2.heap ∧ (∀ b ∈ fp, FpOk X pins H' b) ∧ R J H'
def PI (X : Cx) (tg iter : Expr) (wi : TI) : Prop :=
  ∀ (pins : List (Addr × Obj)) (s : Shared) (σ : St) (H : Hp) (R : It → Hp → Prop), Inv X pins σ H s → wi σ H R →
    wpAny (model X.prog X.w) X.A (eval iter X.env) (fun v s1 => wpAny (model X.prog X.w) X.A (pyIter v) (PIE X pins σ tg R) X.xe s1) X.xe s

/-- the step ahead of the store is nothing for an iterator that keeps no tuple -/
theorem go_of {M : Model} {A : Around} {E : Value → Shared → Prop} {s : Shared} {tg : Expr} {it : Addr} {u : Value} {o : Obj} {n : String} {vs : Array Value} {Q : Unit → Shared → Prop} (ho : s.heap.get? it = some o) (hc : o.cls = .type n) (hd : o.data = .fields vs)
    (hn : ["enumerate", "zip", "dict_itemiterator", "dict_reverseitemiterator", "odict_iterator", "itertools.zip_longest", "itertools.pairwise"].contains n = false) (hQ : Q () s) : wpAny M A (letOwnedTupleGo tg (.ref it) u) Q E s := by
  unfold letOwnedTupleGo
  cases tg <;> first
    | exact wpAny_pure hQ
    | (cases u <;> first
        | exact wpAny_pure hQ
        | (refine wpAny_bind (wpAny_load ho ?_)
           rw [hc, hd]
           show wpAny M A (if (["enumerate", "zip", "dict_itemiterator", "dict_reverseitemiterator", "odict_iterator", "itertools.zip_longest", "itertools.pairwise"].contains n && vs[0]? == some (rawInt _)) = true then _ else _) Q E s
           rw [if_neg (by intro h; rw [hn, Bool.false_and] at h; cases h)]
           exact wpAny_pure hQ))

/-- the list at a, as it stands at each turn (a loop may append to it) -/
def Itl (K : PySem.W.Frag) (a : Addr) : It :=
  ⟨fun i H => ∃ xs x, SqL K H a xs ∧ xs[i]? = some x, fun i H x H' => H' = H ∧ ∀ xs, SqL K H a xs → xs[i]? = some x, fun i H => ∃ xs, SqL K H a xs ∧ xs.length ≤ i⟩
/-- lo, lo + 1, .. (n of them) -/
def Itr (lo : Int) (n : Nat) : It := ⟨fun i _ => i < n, fun i H x H' => H' = H ∧ x = .int (lo + i), fun i _ => n ≤ i⟩
theorem turn_list {P : Program} {w : World} {K : PySem.W.Frag} {tg : Expr} (a it : Addr) : Turn P w K tg (Itl K a) [it] it (fun i h => h.IsListIter it a i) where
  mem := by simp
  obj := fun i h st b hb => by
    have e : b = it := by simpa using hb
    subst e
    obtain ⟨o, e, c, d⟩ := st
    exact ⟨o, e, fun v z => by rw [d] at z; cases z⟩
  keep := fun i h h' st k => st.at fun o e => k it (by simp) o e
  item := by
    intro X hP hw hK hc i pins s σ H E I hf st hg
    subst hP hw hK
    obtain ⟨xs, x, hq, hx⟩ := hg
    obtain ⟨its, rv, p, hz⟩ := I.list hq
    obtain ⟨u, hu, ru⟩ := rv.get hx
    obtain ⟨f0, f1, f2, f3, f4, f5⟩ := hf it (by simp)
    refine wpAny_pyNext_list_item st p.isList (x := u) (by simpa using hu) fun h' st' sb => ?_
    have I1 : Inv X pins σ H { s with heap := h' } := I.turned (t' := s.toks) (fun b o hb e => (sb.2 b hb).trans e) f0 f1 f3 f4 f5
    obtain ⟨o, e, c, d⟩ := id st'
    exact ⟨u, rfl, go_of (s := { s with heap := h' }) e c d (by decide) ⟨x, H, I1, ru, ⟨rfl, fun ys hy => by rw [I.list_inj hy hq]; exact hx⟩, st', fun b hb => (hf b hb).1⟩⟩
  done := by
    intro X hP hw hK hc i pins s σ H E I hf st hg
    subst hP hw hK
    obtain ⟨xs, hq, hx⟩ := hg
    obtain ⟨its, rv, p, hz⟩ := I.list hq
    obtain ⟨f0, f1, f2, f3, f4, f5⟩ := hf it (by simp)
    have hl := rv.length
    exact wpAny_pyNext_list_end (I.ok.hd hc) st p.isList (by simp; omega) fun h' eb => ⟨rfl, I.turned (t' := s.toks) (fun b o hb e => eb b o hb e) f0 f1 f3 f4 f5⟩
  self := fun _ _ _ _ _ st h => wpAny_pyIter_listiter st h
theorem turn_range {P : Program} {w : World} {K : PySem.W.Frag} {tg : Expr} (it : Addr) (lo : Int) (n : Nat) : Turn P w K tg (Itr lo n) [it] it (fun i h => IsRangeIter h it (lo + (i : Nat) * 1) ((n : Int) - (i : Nat)) 1) where
  mem := by simp
  obj := fun i h st b hb => by
    have e : b = it := by simpa using hb
    subst e
    exact ⟨_, st, fun v z => by
      have z' : Data.fields _ = Data.cell v := z
      cases z'⟩
  keep := fun i h h' st k => k it (by simp) _ st
  item := by
    intro X hP hw hK hc i pins s σ H E I hf st hg
    subst hP hw hK
    obtain ⟨f0, f1, f2, f3, f4, f5⟩ := hf it (by simp)
    have W := Walks.range (prog := X.prog) (w := X.w) (I.ok.hd hc) it lo 1 n
    refine W.item i s _ _ hg st fun v h' tk hv st' kk => ?_
    obtain ⟨t, rfl⟩ := hv
    have I1 : Inv X pins σ H { s with heap := h', toks := tk } := I.turned (fun b o hb e => kk b o (by simpa using hb) e) f0 f1 f3 f4 f5
    refine ⟨_, rfl, go_of (s := { s with heap := h', toks := tk }) (n := "range_iterator") st' rfl rfl (by decide) ⟨.int (lo + i), H, I1, ⟨t, ?_⟩, ⟨rfl, rfl⟩, st', fun b hb => (hf b hb).1⟩⟩
    rw [Int.mul_one]
  done := by
    intro X hP hw hK hc i pins s σ H E I hf st hg
    subst hP hw hK
    obtain ⟨f0, f1, f2, f3, f4, f5⟩ := hf it (by simp)
    exact wpAny_pyNext_range_end (I.ok.hd hc) st (by have : n ≤ i := hg; omega) fun h' eb => ⟨rfl, I.turned (t' := s.toks) (fun b o hb e => eb b o hb e) f0 f1 f3 f4 f5⟩
  self := fun _ _ _ _ _ st h => wpAny_pyIter_rangeiter st h
end L2

namespace L2
open PySem PySem.Spec PyProof.Rows
section
variable {X : Cx} {tg : Expr}
def iList (K : PySem.W.Frag) (tl : TE) : TI := fun σ H R => tl σ H fun x H1 => ∃ a, x = .ref a ∧ (∃ xs, SqL K H1 a xs) ∧ R (Itl K a) H1
theorem pi_list {l : Expr} {tl : TE} (hl : PE X l tl) : PI X tg l (iList X.K tl) := by
  intro pins s σ H R I h
  refine thn (hl pins s σ H _ I h) fun v s1 ⟨x, H1, I1, r1, q1⟩ => ?_
  obtain ⟨a, e, ⟨xs, hq⟩, q⟩ := q1
  subst e
  cases r1
  obtain ⟨its, rv, p, hz⟩ := I1.list hq
  refine wpAny_pyIter_list p.isList ?_
  refine ⟨s1.heap.objs.size, [s1.heap.objs.size], _, _, H1, rfl, I1.kept (t' := s1.toks) fun b o e => Heap.get?_push_of_some _ e, turn_list a _, ⟨_, Heap.get?_push_size _ rfl, rfl, rfl⟩, fun b hb => ?_, q⟩
  have e : b = s1.heap.objs.size := by simpa using hb
  subst e
  exact I1.fpOk (Nat.le_refl _) (I1.hok.fresh (Nat.le_refl _))
/-- a range object just made, walked -/
theorem range_it {pins : List (Addr × Obj)} {σ : St} {H : Hp} {s : Shared} {R : It → Hp → Prop} {E : Value → Shared → Prop} {lo hi : Int} {t u v : Tok} {tk : Nat} (I : Inv X pins σ H s) (h1 : -(2 ^ 62) ≤ lo) (h2 : lo < 2 ^ 62) (h3 : -(2 ^ 62) ≤ hi) (h4 : hi < 2 ^ 62)
    (q : R (Itr lo (hi - lo).toNat) H) : wpAny (model X.prog X.w) X.A (pyIter (.ref s.heap.objs.size)) (PIE X pins σ tg R) E { s with heap := s.heap.push { cls := .type "range", data := .fields #[.int lo t, .int hi u, .int 1 v] }, toks := tk } := by
  refine wpAny_pyIter_range (IsRange.new ..) (small_one h1 h2 h3 h4) ?_
  have I1 : Inv X pins σ H { s with heap := s.heap.push { cls := .type "range", data := .fields #[.int lo t, .int hi u, .int 1 v] }, toks := tk } := I.kept fun b o e => Heap.get?_push_of_some _ e
  refine ⟨(s.heap.push { cls := .type "range", data := .fields #[.int lo t, .int hi u, .int 1 v] }).objs.size, [(s.heap.push { cls := .type "range", data := .fields #[.int lo t, .int hi u, .int 1 v] }).objs.size], _, _, H, rfl,
    I1.kept (t' := tk) fun b o e => Heap.get?_push_of_some _ e, turn_range _ lo (hi - lo).toNat, ?_, fun b hb => ?_, q⟩
  · have e1 : lo + ((0 : Nat) : Int) * 1 = lo := by simp
    have e2 : (((hi - lo).toNat : Nat) : Int) - ((0 : Nat) : Int) = Builtin.Range.rangeSize lo hi 1 := by rw [rangeSize_one]; split <;> omega
    show IsRangeIter _ _ (lo + ((0 : Nat) : Int) * 1) ((((hi - lo).toNat : Nat) : Int) - ((0 : Nat) : Int)) 1
    rw [e1, e2]
    exact Heap.get?_push_size _ rfl
  · have e : b = (s.heap.push { cls := .type "range", data := .fields #[.int lo t, .int hi u, .int 1 v] }).objs.size := by simpa using hb
    subst e
    exact I1.fpOk (Nat.le_refl _) (I1.hok.fresh (Nat.le_refl _))
def iRng1 (ta : TA) : TI := fun σ H R => ta σ H fun vs H1 => ∃ j : Int, vs = [.int j] ∧ -(2 ^ 62) ≤ j ∧ j < 2 ^ 62 ∧ R (Itr 0 j.toNat) H1
def iRng2 (ta : TA) : TI := fun σ H R => ta σ H fun vs H1 => ∃ i j : Int, vs = [.int i, .int j] ∧ (-(2 ^ 62) ≤ i ∧ i < 2 ^ 62 ∧ -(2 ^ 62) ≤ j ∧ j < 2 ^ 62) ∧ R (Itr i (j - i).toNat) H1
theorem pi_range1 {a : Expr} {ta : TA} {p pos : Pos} (hg : Gl X "range") (hm : X.mg "range" = none) (ha : PA X [a] ta) (hs : starEach [a] X.env = [(false, eval a X.env)] := by rfl) : PI X tg (.Call (.Name "range" p) [a] [] pos) (iRng1 ta) := by
  intro pins s σ H R I h
  refine Call_ (ld_blt I hg hm boot_range (PyProof.Rows.callWith_type1 (thn (ha pos pins s σ H _ I h) fun us s1 ⟨vs, H1, I1, r1, q1⟩ => ?_) hs rfl))
  obtain ⟨j, e, q1, q2, q⟩ := q1
  subst e
  cases r1 with
  | cons r rr =>
    cases rr
    obtain ⟨t, rfl⟩ := r
    exact call_range_1 (range_it I1 (by omega) (by omega) q1 q2 (by simpa using q))
theorem pi_range2 {a b : Expr} {ta : TA} {p pos : Pos} (hg : Gl X "range") (hm : X.mg "range" = none) (ha : PA X [a, b] ta) (hs : starEach [a, b] X.env = [(false, eval a X.env), (false, eval b X.env)] := by rfl) (hs2 : starEach [b] X.env = [(false, eval b X.env)] := by rfl) :
    PI X tg (.Call (.Name "range" p) [a, b] [] pos) (iRng2 ta) := by
  intro pins s σ H R I h
  refine Call_ (ld_blt I hg hm boot_range (PyProof.Rows.callWith_type1 (thn (ha pos pins s σ H _ I h) fun us s1 ⟨vs, H1, I1, r1, q1⟩ => ?_) (by rw [hs, hs2]) (by rw [hs2]; rfl)))
  obtain ⟨i, j, e, ⟨q1, q2, q3, q4⟩, q⟩ := q1
  subst e
  cases r1 with
  | cons r rr =>
    cases rr with
    | cons r' rr =>
      cases rr
      obtain ⟨t, rfl⟩ := r
      obtain ⟨t', rfl⟩ := r'
      exact call_range_2 (range_it I1 q1 q2 q3 q4 q)

/-! ### for -/
/-- W: the invariant by the turn and a measure; N: what the body is to reach -/
def tFor (wi : TI) (g : TG) (tb : TS) : TS := fun D σ H => wi σ H fun J H1 => ∃ W : Nat → Nat → St → Hp → Prop, (∃ m, W 0 m σ H1) ∧ ∀ i m σ H, W i m σ H →
  (J.stop i H ∧ D.nx σ H) ∨ (J.go i H ∧ ∃ N : St → Hp → Prop, (∀ σ' H', N σ' H' → ∃ m', m' < m ∧ W (i + 1) m' σ' H') ∧ ∀ x H', J.yld i H x H' → g x σ H' fun σ2 H2 => tb { D with nx := N, ct := N, bk := D.nx } σ2 H2)
/-- the records at fp as they stand -/
def pinsAt (fp : List Addr) (h : Heap) : List (Addr × Obj) := fp.filterMap fun b => (h.get? b).map fun o => (b, o)
theorem mem_pinsAt {fp : List Addr} {h : Heap} {b : Addr} {o : Obj} (hb : b ∈ fp) (e : h.get? b = some o) : (b, o) ∈ pinsAt fp h := List.mem_filterMap.mpr ⟨b, hb, by rw [e]; rfl⟩
theorem of_pinsAt {fp : List Addr} {h : Heap} {p : Addr × Obj} (hp : p ∈ pinsAt fp h) : p.1 ∈ fp ∧ h.get? p.1 = some p.2 := by
  obtain ⟨b, hb, e⟩ := List.mem_filterMap.mp hp
  cases q : h.get? b with
  | none => rw [q] at e; cases e
  | some o =>
    rw [q] at e
    have e' : (b, o) = p := Option.some.inj e
    subst e'
    exact ⟨hb, q⟩
theorem Inv.pinned {pins : List (Addr × Obj)} {σ : St} {H : Hp} {s : Shared} {fp : List Addr} (I : Inv X pins σ H s) (hf : ∀ b ∈ fp, FpOk X pins H b) (ho : ∀ b ∈ fp, ∃ o, s.heap.get? b = some o ∧ ∀ v, o.data ≠ .cell v) : Inv X (pins ++ pinsAt fp s.heap) σ H s :=
  I.pins_of fun p hp => (List.mem_append.mp hp).elim (fun z => I.pin p (List.mem_append_right _ z)) fun z => by
    obtain ⟨hb, e⟩ := of_pinsAt z
    obtain ⟨f0, f1, f2, _⟩ := hf p.1 hb
    obtain ⟨o, e', d⟩ := ho p.1 hb
    rw [e] at e'; cases e'
    exact ⟨e, f0, f1, f2, d⟩
theorem Inv.unpinned {pins pl : List (Addr × Obj)} {σ : St} {H : Hp} {s : Shared} (I : Inv X (pins ++ pl) σ H s) : Inv X pins σ H s := I.pins_of fun p hp => I.pin p (List.mem_append_right _ (List.mem_append_left _ hp))
theorem ps_for {iter : Expr} {body : List Stmt} {wi : TI} {g : TG} {tb : TS} {pos : Pos} (hp : PassesOwn (model X.prog X.w) X.A X.env X.xe) (hc : X.calm = true) (hi : PI X tg iter wi) (hg : PG X tg g) (hb : PSs X body tb)
    (hs : ∀ x, foldedSetIterable iter X.env x = pure x := by intro _; rfl) : PS X (.For tg iter body [] pos) (tFor wi g tb) := by
  intro pins s σ H D I h
  refine wpAny_For (thn (hi pins s σ H _ I h) fun v s1 h1 => thn h1 fun itv s2 h2 => ?_) hs
  obtain ⟨it, fp, tn, J, H2, e, I2, T, st2, f2, W, ⟨m0, w0⟩, turn⟩ := h2
  subst e
  -- what stays true of the iterator's objects through the loop
  have stat : ∀ {H' : Hp}, (∀ b ∈ fp, H' b = none) → ∀ b ∈ fp, FpOk X pins H' b := fun hn b hb => ⟨hn b hb, (f2 b hb).2⟩
  refine codeAny_forLoop_any (fun n s' => ∃ i σ' H', Inv X pins σ' H' s' ∧ tn i s'.heap ∧ (∀ b ∈ fp, H' b = none) ∧ W i n σ' H') ?_ m0 ⟨0, σ, H2, I2, st2, fun b hb => (f2 b hb).1, w0⟩
  rintro n s3 ⟨i, σ3, H3, I3, st3, fr3, w3⟩
  rcases turn i n σ3 H3 w3 with ⟨stop, qn⟩ | ⟨go, N, hN, step⟩
  · refine wpAny_passesOwn hp (thn (T.done X rfl rfl rfl hc i pins s3 σ3 H3 X.xe I3 (stat fr3) st3 stop) fun r s4 ⟨hr, I4⟩ => ?_)
    subst hr
    exact wpAny_execs_nil ⟨σ3, H3, I4, qn⟩
  · refine wpAny_passesOwn hp (thn (T.item X rfl rfl rfl hc i pins s3 σ3 H3 X.xe I3 (stat fr3) st3 go) fun r s4 ⟨u, hr, h4⟩ => ?_)
    subst hr
    refine wpAny_passesOwn hp (thn h4 fun _ s5 ⟨x, H5, I5, r5, y5, st5, fr5⟩ => ?_)
    have I5' := I5.pinned (stat fr5) (T.obj _ _ st5)
    refine wpAny_passesOwn hp (thn (hg _ s5 σ3 H5 x u _ I5' r5 (step x H5 y5)) fun _ s6 ⟨σ6, H6, I6, q6⟩ => ?_)
    refine wpAny_passesOwn hp (thn (hb _ s6 σ6 H6 _ I6 q6) fun f s7 q7 => ?_)
    have again : ∀ {σ7 : St} {H7 : Hp}, Inv X (pins ++ pinsAt fp s5.heap) σ7 H7 s7 → N σ7 H7 → ∃ m, m < n ∧ ∃ i σ' H', Inv X pins σ' H' s7 ∧ tn i s7.heap ∧ (∀ b ∈ fp, H' b = none) ∧ W i m σ' H' := fun {σ7 H7} I7 n7 => by
      obtain ⟨m', hm, w7⟩ := hN σ7 H7 n7
      refine ⟨m', hm, i + 1, σ7, H7, I7.unpinned, T.keep _ _ _ st5 fun b hb o e => (I7.pin (b, o) (List.mem_append_right _ (List.mem_append_right _ (mem_pinsAt hb e)))).1, fun b hb => ?_, w7⟩
      obtain ⟨o, e, d⟩ := T.obj _ _ st5 b hb
      exact (I7.pin (b, o) (List.mem_append_right _ (List.mem_append_right _ (mem_pinsAt hb e)))).2.1
    cases f with
    | next => obtain ⟨σ7, H7, I7, n7⟩ := q7; exact again I7 n7
    | cont => obtain ⟨σ7, H7, I7, n7⟩ := q7; exact again I7 n7
    | brk => obtain ⟨σ7, H7, I7, q7⟩ := q7; exact ⟨σ7, H7, I7.unpinned, q7⟩
    | ret v => obtain ⟨x7, σ7, H7, I7, r7, q7⟩ := q7; exact ⟨x7, σ7, H7, I7.unpinned, r7, q7⟩
end

/-! ### the forms one uses -/
/-- over a list that the body leaves as it is -/
theorem for_list {K : PySem.W.Frag} {a : Addr} {xs : List V} {g : TG} {tb : TS} {D : Ends} {σ : St} {H : Hp} (Pv : Nat → St → Hp → Prop) (h0 : Pv 0 σ H) (hl : ∀ i σ H, i ≤ xs.length → Pv i σ H → SqL K H a xs)
    (hs : ∀ i x σ H, xs[i]? = some x → Pv i σ H → g x σ H fun σ2 H2 => tb { D with nx := Pv (i + 1), ct := Pv (i + 1), bk := D.nx } σ2 H2) (hd : ∀ σ H, Pv xs.length σ H → D.nx σ H) :
    ∃ W : Nat → Nat → St → Hp → Prop, (∃ m, W 0 m σ H) ∧ ∀ i m σ H, W i m σ H →
      ((Itl K a).stop i H ∧ D.nx σ H) ∨ ((Itl K a).go i H ∧ ∃ N : St → Hp → Prop, (∀ σ' H', N σ' H' → ∃ m', m' < m ∧ W (i + 1) m' σ' H') ∧ ∀ x H', (Itl K a).yld i H x H' → g x σ H' fun σ2 H2 => tb { D with nx := N, ct := N, bk := D.nx } σ2 H2) := by
  refine ⟨fun i m σ H => m = xs.length - i ∧ i ≤ xs.length ∧ Pv i σ H, ⟨xs.length, by simp, Nat.zero_le _, h0⟩, ?_⟩
  rintro i m σ H ⟨rfl, hi, p⟩
  have q := hl i σ H hi p
  by_cases hlt : i < xs.length
  · refine .inr ⟨⟨xs, xs[i], q, by simp [hlt]⟩, Pv (i + 1), fun σ' H' p' => ⟨xs.length - (i + 1), by omega, rfl, hlt, p'⟩, fun x H' y => ?_⟩
    obtain ⟨e, y⟩ := y
    subst e
    exact hs i x σ _ (y xs q) p
  · have e : i = xs.length := by omega
    subst e
    exact .inl ⟨⟨xs, q, Nat.le_refl _⟩, hd σ H p⟩
theorem for_range {lo : Int} {n : Nat} {g : TG} {tb : TS} {D : Ends} {σ : St} {H : Hp} (Pv : Nat → St → Hp → Prop) (h0 : Pv 0 σ H)
    (hs : ∀ i σ H, i < n → Pv i σ H → g (.int (lo + i)) σ H fun σ2 H2 => tb { D with nx := Pv (i + 1), ct := Pv (i + 1), bk := D.nx } σ2 H2) (hd : ∀ σ H, Pv n σ H → D.nx σ H) :
    ∃ W : Nat → Nat → St → Hp → Prop, (∃ m, W 0 m σ H) ∧ ∀ i m σ H, W i m σ H →
      ((Itr lo n).stop i H ∧ D.nx σ H) ∨ ((Itr lo n).go i H ∧ ∃ N : St → Hp → Prop, (∀ σ' H', N σ' H' → ∃ m', m' < m ∧ W (i + 1) m' σ' H') ∧ ∀ x H', (Itr lo n).yld i H x H' → g x σ H' fun σ2 H2 => tb { D with nx := N, ct := N, bk := D.nx } σ2 H2) := by
  refine ⟨fun i m σ H => m = n - i ∧ i ≤ n ∧ Pv i σ H, ⟨n, by simp, Nat.zero_le _, h0⟩, ?_⟩
  rintro i m σ H ⟨rfl, hi, p⟩
  by_cases hlt : i < n
  · refine .inr ⟨hlt, Pv (i + 1), fun σ' H' p' => ⟨n - (i + 1), by omega, rfl, hlt, p'⟩, fun x H' y => ?_⟩
    obtain ⟨e, y⟩ := y
    subst e y
    exact hs i σ _ hlt p
  · have e : i = n := by omega
    subst e
    exact .inl ⟨Nat.le_refl _, hd σ H p⟩
end L2

namespace L2
open PySem PySem.Spec PyProof.Rows

abbrev R2 := V → V → Hp → VK → Prop
/-- a two-place operation on values: f is binaryOp op, inplaceOp op or compareOp op -/
def OpR (X : Cx) (f : Value → Value → Sem Value) (r : R2) : Prop :=
  ∀ (pins : List (Addr × Obj)) (s : Shared) (σ : St) (H : Hp) (x y : V) (v u : Value) (Q : VK), Inv X pins σ H s → RelV x v → RelV y u → r x y H Q →
    wpAny (model X.prog X.w) X.A (f v u) (EP X pins σ Q) X.xe s
/-- a one-place operation -/
def UnR (X : Cx) (f : Value → Sem Value) (r : V → Hp → VK → Prop) : Prop :=
  ∀ (pins : List (Addr × Obj)) (s : Shared) (σ : St) (H : Hp) (x : V) (v : Value) (Q : VK), Inv X pins σ H s → RelV x v → r x H Q →
    wpAny (model X.prog X.w) X.A (f v) (EP X pins σ Q) X.xe s
/-- a call of a value that is known (a builtin, a type) with values -/
def CallR (X : Cx) (f : Value) (r : List V → Hp → VK → Prop) : Prop :=
  ∀ (pins : List (Addr × Obj)) (s : Shared) (σ : St) (H : Hp) (xs : List V) (us : List Value) (Q : VK), Inv X pins σ H s → Vals xs us → r xs H Q →
    wpAny (model X.prog X.w) X.A (call f us) (EP X pins σ Q) X.xe s
def tOp (r : R2) (ta tb : TE) : TE := fun σ H Q => ta σ H fun x H1 => tb σ H1 fun y H2 => r x y H2 Q
def tUn (r : V → Hp → VK → Prop) (ta : TE) : TE := fun σ H Q => ta σ H fun x H1 => r x H1 Q
/-- ints in, under C, and a value out -/
def rI (C : Int → Int → Prop) (g : Int → Int → V) : R2 := fun x y H Q => ∃ i j, x = .int i ∧ y = .int j ∧ C i j ∧ Q (g i j) H
def rI0 (g : Int → Int → V) : R2 := fun x y H Q => ∃ i j, x = .int i ∧ y = .int j ∧ Q (g i j) H
def rU (g : Int → V) : V → Hp → VK → Prop := fun x H Q => ∃ i, x = .int i ∧ Q (g i) H

section
variable {X : Cx} {a b c : Expr} {ta tb tc : TE} {pos : Pos}

theorem binT (ha : PE X a ta) (hb : PE X b tb) {pins : List (Addr × Obj)} {s : Shared} {σ : St} {H : Hp} {R : V → V → Hp → Prop} (I : Inv X pins σ H s)
    (h : ta σ H fun x H1 => tb σ H1 fun y H2 => R x y H2) {Q : Value → Shared → Prop} {f : Value → Value → Sem Value}
    (hf : ∀ v u s2 x y H2, Inv X pins σ H2 s2 → RelV x v → RelV y u → R x y H2 → wpAny (model X.prog X.w) X.A (f v u) Q X.xe s2) :
    wpAny (model X.prog X.w) X.A (eval a X.env) (fun v s₁ => wpAny (model X.prog X.w) X.A (eval b X.env) (fun u s₂ => wpAny (model X.prog X.w) X.A (f v u) Q X.xe s₂) X.xe s₁) X.xe s := by
  refine thn (ha pins s σ H _ I h) fun v s1 ⟨x, H1, I1, r1, q1⟩ => ?_
  refine thn (hb pins s1 σ H1 _ I1 q1) fun u s2 ⟨y, H2, I2, r2, q2⟩ => ?_
  exact hf v u s2 x y H2 I2 r1 r2 q2

theorem pe_op {op : Operator} {r : R2} (ho : OpR X (binaryOp op) r) (ha : PE X a ta) (hb : PE X b tb) : PE X (.BinOp a op b pos) (tOp r ta tb) := by
  intro pins s σ H Q I h
  exact wpAny_BinOp (binT ha hb I h fun v u s2 x y H2 I2 rx ry q => ho pins s2 σ H2 x y v u Q I2 rx ry q)
theorem pe_un {op : UnaryOp} {r : V → Hp → VK → Prop} (ho : UnR X (unaryOp op) r) (ha : PE X a ta) : PE X (.UnaryOp op a pos) (tUn r ta) := by
  intro pins s σ H Q I h
  exact UnaryOp_ (thn (ha pins s σ H _ I h) fun v s1 ⟨x, H1, I1, r1, q1⟩ => ho pins s1 σ H1 x v Q I1 r1 q1)
/-! ### ints -/
theorem opI {f : Value → Value → Sem Value} {C : Int → Int → Prop} {g : Int → Int → Int}
    (rule : ∀ (i j : Int) (t u : Tok) (s : Shared) (Q : Value → Shared → Prop) (E : Value → Shared → Prop), C i j → Q (.int (g i j) s.toks) { s with toks := s.toks + 1 } → wpAny (model X.prog X.w) X.A (f (.int i t) (.int j u)) Q E s) :
    OpR X f (rI C fun i j => .int (g i j)) := by
  intro pins s σ H x y v u Q I rx ry h
  obtain ⟨i, j, rfl, rfl, hc, q⟩ := h
  obtain ⟨t, rfl⟩ := rx
  obtain ⟨t', rfl⟩ := ry
  exact rule i j t t' s _ _ hc ⟨.int (g i j), H, I.tok _, ⟨_, rfl⟩, q⟩
theorem opI0 {f : Value → Value → Sem Value} {g : Int → Int → Int}
    (rule : ∀ (i j : Int) (t u : Tok) (s : Shared) (Q : Value → Shared → Prop) (E : Value → Shared → Prop), Q (.int (g i j) s.toks) { s with toks := s.toks + 1 } → wpAny (model X.prog X.w) X.A (f (.int i t) (.int j u)) Q E s) :
    OpR X f (rI0 fun i j => .int (g i j)) := by
  intro pins s σ H x y v u Q I rx ry h
  obtain ⟨i, j, rfl, rfl, q⟩ := h
  obtain ⟨t, rfl⟩ := rx
  obtain ⟨t', rfl⟩ := ry
  exact rule i j t t' s _ _ ⟨.int (g i j), H, I.tok _, ⟨_, rfl⟩, q⟩
theorem opB0 {f : Value → Value → Sem Value} {g : Int → Int → Bool}
    (rule : ∀ (i j : Int) (t u : Tok) (s : Shared) (Q : Value → Shared → Prop) (E : Value → Shared → Prop), Q (.bool (g i j)) s → wpAny (model X.prog X.w) X.A (f (.int i t) (.int j u)) Q E s) :
    OpR X f (rI0 fun i j => .bl (g i j)) := by
  intro pins s σ H x y v u Q I rx ry h
  obtain ⟨i, j, rfl, rfl, q⟩ := h
  obtain ⟨t, rfl⟩ := rx
  obtain ⟨t', rfl⟩ := ry
  exact rule i j t t' s _ _ ⟨.bl (g i j), H, I, rfl, q⟩

def CDiv (i j : Int) : Prop := 0 < j ∧ j < 1073741824
def CMul (i j : Int) : Prop := (-(2 ^ 64) < i ∧ i < 2 ^ 64) ∨ (-(2 ^ 64) < j ∧ j < 2 ^ 64)
theorem CMul.ok {i j : Int} (h : CMul i j) : IntMulOk i j := by
  rcases h with ⟨h1, h2⟩ | ⟨h1, h2⟩
  · exact .of_left (intBits_le_64 h1 h2)
  · exact .of_right (intBits_le_64 h1 h2)
theorem op_add : OpR X (binaryOp .Add) (rI0 fun i j => .int (i + j)) := opI0 fun _ _ _ _ _ _ _ q => add_int q
theorem op_mul : OpR X (binaryOp .Mult) (rI CMul fun i j => .int (i * j)) := opI fun _ _ _ _ _ _ _ hc q => mul_int q hc.ok
/-- // by a positive divisor -/
theorem op_fdiv : OpR X (binaryOp .FloorDiv) (rI CDiv fun i j => .int (i / j)) := opI fun i j _ _ _ _ _ hc q => by
  have h1 : (0 : Int) < j := hc.1
  have h2 : j < 1073741824 := hc.2
  exact floordiv_int (by omega) (by rw [Int.fdiv_eq_ediv_of_nonneg i (by omega)]; exact q) (.inl (PyProof.noPylong_small (by omega)))
/-- % by a positive divisor of any size -/
theorem op_mod : OpR X (binaryOp .Mod) (rI (fun _ j => 0 < j) fun i j => .int (i % j)) := opI fun i j _ _ _ _ _ hc q => by
  have h1 : (0 : Int) < j := hc
  exact mod_int' (by omega) (by rw [Int.fmod_eq_emod_of_nonneg i (by omega)]; exact q)
theorem unI {f : Value → Sem Value} {g : Int → Int}
    (rule : ∀ (i : Int) (t : Tok) (s : Shared) (Q : Value → Shared → Prop) (E : Value → Shared → Prop), Q (.int (g i) s.toks) { s with toks := s.toks + 1 } → wpAny (model X.prog X.w) X.A (f (.int i t)) Q E s) :
    UnR X f (rU fun i => .int (g i)) := by
  intro pins s σ H x v Q I rx h
  obtain ⟨i, rfl, q⟩ := h
  obtain ⟨t, rfl⟩ := rx
  exact rule i t s _ _ ⟨.int (g i), H, I.tok _, ⟨_, rfl⟩, q⟩
theorem un_neg : UnR X (unaryOp .USub) (rU fun i => .int (-i)) := unI fun _ _ _ _ _ q => neg_int q
/-! ### bools among ints: n += (a < b) -/
end

/-! ### comparisons -/
/-- the scalars that == tells apart as data does -/
def scal : V → V → Bool
  | .non, .non => true | .non, .int _ => true | .int _, .non => true | .non, .bl _ => true | .bl _, .non => true | .non, .str _ => true | .str _, .non => true
  | .int _, .int _ => true | .bl _, .bl _ => true | .str _, .str _ => true | .byt _, .byt _ => true
  | .int _, .str _ => true | .str _, .int _ => true | .bl _, .str _ => true | .str _, .bl _ => true
  | _, _ => false
def rEq : R2 := fun x y H Q => scal x y = true ∧ Q (.bl (decide (x = y))) H
def rNe : R2 := fun x y H Q => scal x y = true ∧ Q (.bl (!decide (x = y))) H

theorem dec_int {i j : Int} : decide (V.int i = V.int j) = (i == j) := by
  rw [Bool.eq_iff_iff]
  simp
theorem dec_bl {i j : Bool} : decide (V.bl i = V.bl j) = (i == j) := by
  rw [Bool.eq_iff_iff]
  simp
theorem dec_str {i j : Str} : decide (V.str i = V.str j) = (i == j) := by
  rw [Bool.eq_iff_iff]
  simp
theorem dec_byt {i j : Array UInt8} : decide (V.byt i = V.byt j) = (i.toList == j.toList) := by
  rw [Bool.eq_iff_iff]
  cases i
  cases j
  simp

section
variable {X : Cx} {a b c : Expr} {ta tb tc : TE} {pos : Pos}
theorem fin_bl {pins : List (Addr × Obj)} {σ : St} {H : Hp} {s : Shared} {Q : VK} {k k' : Bool} (I : Inv X pins σ H s) (q : Q (.bl k) H) (e : k = k') : EP X pins σ Q (.bool k') s := by
  subst e
  exact ⟨.bl k, H, I, rfl, q⟩
theorem op_eq : OpR X (compareOp .Eq) rEq := by
  intro pins s σ H x y v u Q I rx ry h
  obtain ⟨hs, q⟩ := h
  cases x with
  | non =>
    cases rx
    cases y with
    | non => cases ry; exact PySem.EqNone.eq_none_none (fin_bl I q (by simp))
    | bl j => cases ry; exact PySem.EqNone.eq_none_bool (fin_bl I q (by simp))
    | int j => obtain ⟨t', rfl⟩ := ry; exact PySem.EqNone.eq_none_int (fin_bl I q (by simp))
    | str j => obtain ⟨t', rfl⟩ := ry; exact PySem.EqNone.eq_none_str (fin_bl I q (by simp))
    | _ => exact absurd (show false = true from hs) Bool.false_ne_true
  | bl i =>
    cases rx
    cases y with
    | non => cases ry; exact PySem.EqNone.eq_bool_none (fin_bl I q (by simp))
    | bl j => cases ry; exact eq_bool (fin_bl I q dec_bl)
    | str j => obtain ⟨t', rfl⟩ := ry; exact PySem.EqMixed.eq_bool_str (fin_bl I q (by simp))
    | _ => exact absurd (show false = true from hs) Bool.false_ne_true
  | int i =>
    obtain ⟨t, rfl⟩ := rx
    cases y with
    | non => cases ry; exact PySem.EqNone.eq_int_none (fin_bl I q (by simp))
    | int j => obtain ⟨t', rfl⟩ := ry; exact eq_int (fin_bl I q dec_int)
    | str j => obtain ⟨t', rfl⟩ := ry; exact PySem.EqMixed.eq_int_str (fin_bl I q (by simp))
    | _ => exact absurd (show false = true from hs) Bool.false_ne_true
  | str i =>
    obtain ⟨t, rfl⟩ := rx
    cases y with
    | non => cases ry; exact PySem.EqNone.eq_str_none (fin_bl I q (by simp))
    | bl j => cases ry; exact PySem.EqMixed.eq_str_bool (fin_bl I q (by simp))
    | int j => obtain ⟨t', rfl⟩ := ry; exact PySem.EqMixed.eq_str_int (fin_bl I q (by simp))
    | str j => obtain ⟨t', rfl⟩ := ry; exact eq_str (fin_bl I q dec_str)
    | _ => exact absurd (show false = true from hs) Bool.false_ne_true
  | byt i =>
    obtain ⟨t, rfl⟩ := rx
    cases y with
    | byt j => obtain ⟨t', rfl⟩ := ry; exact PySem.W.eq_bytes (fin_bl I q dec_byt)
    | _ => exact absurd (show false = true from hs) Bool.false_ne_true
  | _ => cases y <;> exact absurd (show false = true from hs) Bool.false_ne_true
theorem op_ne : OpR X (compareOp .NotEq) rNe := by
  intro pins s σ H x y v u Q I rx ry h
  obtain ⟨hs, q⟩ := h
  cases x with
  | non =>
    cases rx
    cases y with
    | non => cases ry; exact PySem.EqNone.ne_none_none (fin_bl I q (by simp))
    | bl j => cases ry; exact PySem.EqNone.ne_none_bool (fin_bl I q (by simp))
    | int j => obtain ⟨t', rfl⟩ := ry; exact PySem.EqNone.ne_none_int (fin_bl I q (by simp))
    | str j => obtain ⟨t', rfl⟩ := ry; exact PySem.EqNone.ne_none_str (fin_bl I q (by simp))
    | _ => exact absurd (show false = true from hs) Bool.false_ne_true
  | bl i =>
    cases rx
    cases y with
    | non => cases ry; exact PySem.EqNone.ne_bool_none (fin_bl I q (by simp))
    | bl j => cases ry; exact ne_bool (fin_bl I q (congrArg not dec_bl))
    | str j => obtain ⟨t', rfl⟩ := ry; exact PySem.EqMixed.ne_bool_str (fin_bl I q (by simp))
    | _ => exact absurd (show false = true from hs) Bool.false_ne_true
  | int i =>
    obtain ⟨t, rfl⟩ := rx
    cases y with
    | non => cases ry; exact PySem.EqNone.ne_int_none (fin_bl I q (by simp))
    | int j => obtain ⟨t', rfl⟩ := ry; exact ne_int (fin_bl I q (congrArg not dec_int))
    | str j => obtain ⟨t', rfl⟩ := ry; exact PySem.EqMixed.ne_int_str (fin_bl I q (by simp))
    | _ => exact absurd (show false = true from hs) Bool.false_ne_true
  | str i =>
    obtain ⟨t, rfl⟩ := rx
    cases y with
    | non => cases ry; exact PySem.EqNone.ne_str_none (fin_bl I q (by simp))
    | bl j => cases ry; exact PySem.EqMixed.ne_str_bool (fin_bl I q (by simp))
    | int j => obtain ⟨t', rfl⟩ := ry; exact PySem.EqMixed.ne_str_int (fin_bl I q (by simp))
    | str j => obtain ⟨t', rfl⟩ := ry; exact ne_str (fin_bl I q (congrArg not dec_str))
    | _ => exact absurd (show false = true from hs) Bool.false_ne_true
  | byt i =>
    obtain ⟨t, rfl⟩ := rx
    cases y with
    | byt j => obtain ⟨t', rfl⟩ := ry; exact PySem.W.ne_bytes (fin_bl I q (congrArg not dec_byt))
    | _ => exact absurd (show false = true from hs) Bool.false_ne_true
  | _ => cases y <;> exact absurd (show false = true from hs) Bool.false_ne_true

theorem op_lt : OpR X (compareOp .Lt) (rI0 fun i j => .bl (decide (i < j))) := opB0 fun _ _ _ _ _ _ _ q => lt_int q
theorem op_le : OpR X (compareOp .LtE) (rI0 fun i j => .bl (decide (i ≤ j))) := opB0 fun _ _ _ _ _ _ _ q => le_int q
theorem op_gt : OpR X (compareOp .Gt) (rI0 fun i j => .bl (decide (j < i))) := opB0 fun _ _ _ _ _ _ _ q => gt_int q
theorem op_ge : OpR X (compareOp .GtE) (rI0 fun i j => .bl (decide (j ≤ i))) := opB0 fun _ _ _ _ _ _ _ q => ge_int q
theorem nomark (b : Expr) {op : CmpOp} (h : op ≠ .In := by decide) (h2 : op ≠ .NotIn := by decide) : behindInMarks op b = false := by
  have e1 : (op == CmpOp.In) = false := by cases op <;> first | rfl | exact absurd rfl h
  have e2 : (op == CmpOp.NotIn) = false := by cases op <;> first | rfl | exact absurd rfl h2
  cases b <;> simp [behindInMarks, e1, e2]
/-- a comparison as a value; hm: nomark b, or (for in, not in) by with_unfolding_all rfl -/
theorem pe_cmpR {op : CmpOp} {r : R2} (ho : OpR X (compareOp op) r) (ha : PE X a ta) (hb : PE X b tb) (hm : behindInMarks op b = false) : PE X (.Compare a [op] [b] pos) (tOp r ta tb) := by
  intro pins s σ H Q I h
  exact wpAny_Compare1 (binT ha hb I h fun v u s2 x y H2 I2 rx ry q => ho pins s2 σ H2 x y v u Q I2 rx ry q) hm
/-- a reading of a value as a test -/
def tTest (t : TE) : TT := fun σ H Q => t σ H fun x H' => ∃ k, x = .bl k ∧ Q k H'
theorem pt_cmpR {op : CmpOp} {r : R2} (ho : OpR X (compareOp op) r) (ha : PE X a ta) (hb : PE X b tb) (hm : behindInMarks op b = false) : PT X (.Compare a [op] [b] pos) (tTest (tOp r ta tb)) := by
  intro pins s σ H Q I h
  refine wpAny_isTrue_Compare1 (thn (ha pins s σ H _ I h) fun v s1 ⟨x, H1, I1, r1, q1⟩ => thn (hb pins s1 σ H1 _ I1 q1) fun u s2 ⟨y, H2, I2, r2, q2⟩ =>
    thn (ho pins s2 σ H2 x y v u _ I2 r1 r2 q2) fun c s3 ⟨z, H3, I3, r3, k, e, q3⟩ => ?_) hm
  subst e
  cases r3
  exact wpAny_truthy_bool ⟨H3, I3, q3⟩
/-! ### truth -/
theorem line63 : (sizeLine : Nat) < 2 ^ 63 := by rw [sizeLine_eq]; decide
/-! ### strs and bytes -/
/-! ### scalar builtins, by CallR -/
theorem vals1 {x : V} {us : List Value} (r : Vals [x] us) : ∃ u, us = [u] ∧ RelV x u := by
  cases r with
  | cons r1 r2 => cases r2; exact ⟨_, rfl, r1⟩
end
end L2

namespace L2
open PySem PySem.Spec PyProof.Rows

/-! ### an instance, its attributes a map -/
structure ObjM (h : Heap) (x dx C : Addr) (mA : Str → Option Value) : Prop where
  obj : h.get? x = some (PySem.W.instObj C dx)
  ns : h.Ns1 dx mA
  ne : dx ≠ x

theorem lookIn_ns {h : Heap} {dx : Addr} {mA : Str → Option Value} (n : h.Ns1 dx mA) : ∃ od, h.get? dx = some od ∧ ∀ name, PySem.W.lookIn name od = some (mA name) := by
  obtain ⟨o, es, ep, ho, hd, hk, _, hm⟩ := n
  refine ⟨o, ho, fun name => ?_⟩
  have e := hm name
  unfold nsFind findBy at e
  rw [← Array.find?_toList] at e
  unfold PySem.W.lookIn
  rw [hd]
  dsimp only
  split
  · rename_i y q
    rw [q] at e
    exact congrArg some e
  · rename_i q
    rw [q] at e
    have a : es.toList.any (·.refKey) = false := by
      rw [List.any_eq_false]
      intro y hy
      obtain ⟨z, t, hkey⟩ := hk y (Array.mem_toList_iff.mp hy)
      simp [DictEntry.refKey, hkey]
    have a' : ¬ es.toList.any (·.refKey) = true := by rw [a]; exact Bool.false_ne_true
    rw [if_neg a']
    exact congrArg some e

theorem ObjM.look {h : Heap} {x dx C : Addr} {mA : Str → Option Value} (I : ObjM h x dx C mA) : ∃ od, PySem.W.InstAt h x (PySem.W.instObj C dx) C (some od) ∧ ∀ name, PySem.W.lookIn name od = some (mA name) :=
  let ⟨od, ho, hl⟩ := lookIn_ns I.ns
  ⟨od, ⟨I.obj, rfl, rfl, ho⟩, hl⟩

section
variable {prog : Program} {w : World} {A : Around} {E : Value → Shared → Prop} {s : Shared} {K : PySem.W.Frag} {x dx C f : Addr} {mA : Str → Option Value} {name : Str} {v : Value}

end

/-! ### the attributes as a list of pairs -/
section
variable {P : Program} {w : World} {H H' : Hp} {h h' : Heap} {a C dx : Addr} {fs fs' : List (Str × V)}
theorem ins_get (hok : HOk P w H h) (e : H a = some (.ins C dx fs)) : ∃ mA, ObjM h a dx C mA ∧ (∀ f, RelO (fs.lookup f) (mA f)) ∧ PySem.Within mA (fs.map (·.1)) ∧ fs.length ≤ 1000 ∧ H dx = some (.own a) := by
  obtain ⟨d, z, ne, ob, mA, n, r, q⟩ := (show ObjOk P w H h a (.ins C dx fs) from hok a _ e)
  exact ⟨mA, ⟨ob, n, ne⟩, r, q, z, d⟩
end

/-! ### what of the text a class must have -/
structure Cls (K : PySem.W.Frag) (C : Addr) : Prop where
  pg : PySem.W.plainGet K C Str.empty = true
  hd : PySem.W.hasDictIn K C = true
  po : PySem.W.plainOver K C = true
  sa : PySem.W.findIn K (.ref C) "__setattr__" = some (some (.builtin "object.__setattr__"))
theorem Cls.get {K : PySem.W.Frag} {C : Addr} (c : Cls K C) (f : Str) : PySem.W.plainGet K C f = true := c.pg
section
variable {X : Cx} {pins : List (Addr × Obj)} {σ : St} {H : Hp} {s : Shared} {a C dx : Addr} {fs : List (Str × V)} {f : Str} {v : V} {A : Around} {E : Value → Shared → Prop}

/-- a new instance, tracked, without attributes -/
theorem Inv.made (I : Inv X pins σ H s) : Inv X pins σ (upd (upd H s.heap.objs.size (.own (s.heap.objs.size + 1))) (s.heap.objs.size + 1) (.ins C s.heap.objs.size []))
    { s with heap := (s.heap.push PySem.W.emptyDict).push (PySem.W.instObj C s.heap.objs.size) } := by
  have e1 : (s.heap.push PySem.W.emptyDict).get? s.heap.objs.size = some PySem.W.emptyDict := Heap.get?_push_size s.heap rfl
  have e2 : ((s.heap.push PySem.W.emptyDict).push (PySem.W.instObj C s.heap.objs.size)).get? (s.heap.objs.size + 1) = some (PySem.W.instObj C s.heap.objs.size) := by
    have := Heap.get?_push_size (s.heap.push PySem.W.emptyDict) (o := PySem.W.instObj C s.heap.objs.size) rfl
    rwa [Heap.size_push] at this
  have e3 : (s.heap.push PySem.W.emptyDict).Ns s.heap.objs.size (fun _ => none) := ⟨PySem.W.emptyDict, #[], _, e1, rfl, (fun e he => absurd he (by simp)), fun _ => rfl⟩
  have I1 := I.laid (a := s.heap.objs.size) (o := .own (s.heap.objs.size + 1)) (h' := s.heap.push PySem.W.emptyDict) (t' := s.toks) (fun b u q => Heap.get?_push_of_some _ q) (Nat.le_refl _) ⟨_, e1⟩
  refine I1.laid (a := s.heap.objs.size + 1) (o := .ins C s.heap.objs.size []) (t' := s.toks) (fun b u q => Heap.get?_push_of_some _ q) (Nat.le_of_eq (Heap.size_push _ _)) ?_
  have ne : s.heap.objs.size ≠ s.heap.objs.size + 1 := Nat.ne_of_lt (Nat.lt_succ_self _)
  refine ⟨by rw [upd_ne ne, upd_same], Nat.zero_le _, ne, e2, fun _ => none, (Heap.Ns1.of_empty e3).at fun o q => Heap.get?_push_of_some _ q, fun _ => True.intro, fun y hy => absurd rfl hy⟩

end

/-! ### readings and rules -/
section
variable {X : Cx} {o e value : Expr} {f : Str} {pos pos' tpos : Pos} {ta tv : TE}
end

/-! ### isinstance -/
section
variable {X : Cx} {pins : List (Addr × Obj)} {σ : St} {H : Hp} {s : Shared} {A : Around} {E : Value → Shared → Prop} {Q : Value → Shared → Prop} {c : Value} {b : Bool}
/-- the type of a value, as the fragment's deciders take it; for an instance its class -/
inductive TyOf (K : PySem.W.Frag) (H : Hp) : V → Value → Prop where
  | non : TyOf K H .non (.type "NoneType")
  | bl (x : Bool) : TyOf K H (.bl x) (.type "bool")
  | int (i : Int) : TyOf K H (.int i) (.type "int")
  | str (x : Str) : TyOf K H (.str x) (.type "str")
  | flt (x : UInt64) : TyOf K H (.flt x) (.type "float")
  | lst {a : Addr} {xs : List V} (e : H a = some (.lst xs)) : TyOf K H (.ref a) (.type "list")
  | frz {a : Addr} {o : Obj} {xs : List V} (e : H a = some (.frz o (.lst xs))) : TyOf K H (.ref a) (.type "list")
  | tup {a : Addr} {xs : List V} (e : H a = some (.tup xs)) : TyOf K H (.ref a) (.type "tuple")
  | dK {a : Addr} {kvs : List (Key × V)} (e : H a = some (.dK kvs)) : TyOf K H (.ref a) (.type "dict")
  | dT {a : Addr} {kvs : List (List Key × V)} (e : H a = some (.dT kvs)) : TyOf K H (.ref a) (.type "dict")
  | ins {a C dx : Addr} {fs : List (Str × V)} (e : H a = some (.ins C dx fs)) (cl : Cls K C) (ha : PySem.W.findIn K (.ref C) "__class__" = some (some (.builtin "object.__class__")))
      (hn : PySem.W.specialIn K (.builtin "object.__class__") "__get__" = some (some (.builtin "getset_descriptor.__get__"))) (htk : PySem.W.takesIn K (.builtin "object.__class__") = some true)
      (hm : PySem.W.mroIn K C (.type "object") = some true) : TyOf K H (.ref a) (.ref C)
/-- isinstance(x, c) for one class c, a built-in or an own one: kitOne's answer -/
theorem isinst_ok {x : V} {u t : Value} (I : Inv X pins σ H s) (rx : RelV x u) (ty : TyOf X.K H x t) (e : PySem.W.kitOne X.K t c = some b) (h : ∀ tk, Q (.bool b) { s with toks := tk }) :
    wpAny (model X.prog X.w) A (call (.builtin "isinstance") [u, c]) Q E s := by
  cases ty with
  | non => cases (show u = Value.none from rx); exact PySem.W.kia_one PySem.W.kitx_none I.kIn True.intro e (fun z => nomatch z) h
  | bl y => cases (show u = Value.bool y from rx); exact PySem.W.kia_one PySem.W.kitx_bool I.kIn True.intro e (fun z => nomatch z) h
  | int i => obtain ⟨t, q⟩ := (show ∃ t, u = Value.int i t from rx); cases q; exact PySem.W.kia_one PySem.W.kitx_int I.kIn True.intro e (fun z => nomatch z) h
  | str y => obtain ⟨t, q⟩ := (show ∃ t, u = Value.str y t from rx); cases q; exact PySem.W.kia_one PySem.W.kitx_str I.kIn True.intro e (fun z => nomatch z) h
  | flt y => obtain ⟨t, q⟩ := (show ∃ t, u = Value.float y t from rx); cases q; exact PySem.W.kia_one PySem.W.kitx_float I.kIn True.intro e (fun z => nomatch z) h
  | @lst a xs ea =>
    cases (show u = Value.ref a from rx)
    obtain ⟨_, _, n, _, h1⟩ := (show ObjOk X.prog X.w H s.heap a (.lst xs) from I.hok a _ ea)
    exact PySem.W.kia_one PySem.W.kitx_list I.kIn ⟨_, h1, rfl⟩ e (fun z => nomatch z) h
  | @frz a ob xs ea =>
    cases (show u = Value.ref a from rx)
    obtain ⟨_, _, _, n, _, h1⟩ := (show ObjOk X.prog X.w H s.heap a (.frz ob (.lst xs)) from I.hok a _ ea)
    exact PySem.W.kia_one PySem.W.kitx_list I.kIn ⟨_, h1, rfl⟩ e (fun z => nomatch z) h
  | @tup a xs ea =>
    cases (show u = Value.ref a from rx)
    obtain ⟨_, _, _, p⟩ := (show ObjOk X.prog X.w H s.heap a (.tup xs) from I.hok a _ ea)
    obtain ⟨o, h1, h2, _⟩ := p
    exact PySem.W.kia_one PySem.W.kitx_tuple I.kIn ⟨o, h1, h2⟩ e (fun z => nomatch z) h
  | @dK a kvs ea =>
    cases (show u = Value.ref a from rx)
    obtain ⟨_, _, vs, _, p⟩ := (show ObjOk X.prog X.w H s.heap a (.dK kvs) from I.hok a _ ea)
    obtain ⟨o, es, ep, h1, h2, _⟩ := p
    exact PySem.W.kia_one PySem.W.kitx_dict I.kIn ⟨o, h1, h2.1⟩ e (fun z => nomatch z) h
  | @dT a kvs ea =>
    cases (show u = Value.ref a from rx)
    obtain ⟨_, _, xs, _, o, es, ep, h1, h2, _⟩ := (show ObjOk X.prog X.w H s.heap a (.dT kvs) from I.hok a _ ea)
    exact PySem.W.kia_one PySem.W.kitx_dict I.kIn ⟨o, h1, h2.1⟩ e (fun z => nomatch z) h
  | @ins a C dx fs ea cl ha hn htk hm =>
    cases (show u = Value.ref a from rx)
    obtain ⟨mA, O, _⟩ := ins_get I.hok ea
    obtain ⟨od, J, _⟩ := O.look
    exact PySem.W.kia_one (PySem.W.kitx_own (cl.get _) cl.hd ha hn htk hm) I.kIn J e (fun z => nomatch z) h
end
end L2

namespace L2
open PySem PySem.Spec PyProof.Rows

/-! ### room -/
structure Room (k : Nat) (A : Around) : Prop where
  hd : A.handled = none
  dp : A.depth + 3 * k + 5 < recursionLimit
  un : A.units + 16 * k + 200 < cLine
theorem Room.mono {j k : Nat} {A : Around} (r : Room k A) (h : j ≤ k) : Room j A := ⟨r.hd, by have := r.dp; omega, by have := r.un; omega⟩
theorem Room.deeper {k : Nat} {A : Around} (r : Room (k + 1) A) (env : Env) : Room k (A.deeper env) :=
  ⟨r.hd, by have := r.dp; show A.depth + 1 + 3 * k + 5 < _; omega, by have := r.un; show A.units + 3 + 16 * k + 200 < _; omega⟩
theorem Room.in1 {k : Nat} {A : Around} (r : Room (k + 1) A) : Room k A.in1 :=
  ⟨r.hd, by have := r.dp; show A.depth + 3 * k + 5 < _; omega, by have := r.un; show A.units + 1 + 16 * k + 200 < _; omega⟩
theorem Room.depth {k : Nat} {A : Around} (r : Room k A) : A.depth < recursionLimit := by have := r.dp; omega
theorem Room.units {k : Nat} {A : Around} (r : Room k A) : A.units + 64 < cLine := by have := r.un; omega
/-! ### argument lists and displays -/
def tNil : TA := fun _ H Q => Q [] H
def tCons (ta : TE) (tr : TA) : TA := fun σ H Q => ta σ H fun x H1 => tr σ H1 fun xs H2 => Q (x :: xs) H2
section
variable {X : Cx} {e : Expr} {es : List Expr} {te : TE} {t : TA} {pos : Pos}
theorem pa_nil : PA X [] tNil := fun _ _ _ _ H Q I h => Calls.spliced_nil ⟨[], H, I, .nil, h⟩
theorem pa_cons (ha : PE X e te) (hr : PA X es t) (hs : starEach (e :: es) X.env = (false, eval e X.env) :: starEach es X.env := by rfl) : PA X (e :: es) (tCons te t) := by
  intro pos pins s σ H Q I h
  rw [hs]
  show wpAny _ _ (spliced ((false, eval e X.env) :: backTo pos (starEach es X.env))) _ _ s
  refine Calls.spliced_cons (thn (ha pins s σ H _ I h) fun u s1 ⟨x, H1, I1, r1, q1⟩ => ?_)
  exact thn (hr pos pins s1 σ H1 _ I1 q1) fun us s2 ⟨xs, H2, I2, r2, q2⟩ => ⟨x :: xs, H2, I2, .cons r1 r2, q2⟩

/-- a tuple, a list of written items -/
def tTup (t : TA) : TE := fun σ H Q => t σ H fun xs H1 => xs.length ≤ sizeLine ∧ ∀ p, H1 p = none → Q (.ref p) (upd H1 p (.tup xs))
def tLst (t : TA) : TE := fun σ H Q => t σ H fun xs H1 => xs.length ≤ sizeLine ∧ ∀ p, H1 p = none → Q (.ref p) (upd H1 p (.lst xs))
theorem pe_tup {x1} (h : PA X es t) : PE X (.Tuple es x1 pos) (tTup t) := by
  intro pins s σ H Q I hq
  refine wpAny_Tuple_spliced (thn (h pos pins s σ H _ I hq) fun us s1 ⟨xs, H1, I1, r, z, q⟩ => ⟨by rw [← r.length]; exact z, ?_⟩)
  have hf : H1 s1.heap.objs.size = none := I1.hok.fresh (Nat.le_refl _)
  refine ⟨.ref s1.heap.objs.size, upd H1 s1.heap.objs.size (.tup xs), I1.laid (t' := s1.toks) (fun b u e => Heap.get?_push_of_some _ e) (Nat.le_refl _) ?_, rfl, q _ hf⟩
  exact ⟨z, us, r, ⟨_, Heap.get?_push_size _ rfl, rfl, _, rfl⟩⟩
theorem pe_lst (h : PA X es t) : PE X (.List es pos) (tLst t) := by
  intro pins s σ H Q I hq
  refine wpAny_List_spliced (thn (h pos pins s σ H _ I hq) fun us s1 ⟨xs, H1, I1, r, z, q⟩ => ⟨by rw [← r.length]; exact z, ?_⟩)
  have hf : H1 s1.heap.objs.size = none := I1.hok.fresh (Nat.le_refl _)
  refine ⟨.ref s1.heap.objs.size, upd H1 s1.heap.objs.size (.lst xs), I1.laid (t' := s1.toks) (fun b u e => Heap.get?_push_of_some _ e) (Nat.le_refl _) ?_, rfl, q _ hf⟩
  exact ⟨z, us, 0, r, Heap.get?_push_size _ rfl⟩
end

/-! ### what a def promises -/
/-- a def's promise: the bound arguments in the parameters' order, the heap, the wanted end, the wanted exception -/
abbrev Sp := List V → Hp → VK → XK → Prop
/-- how an exception lies behind a call (file 08 gives it): the callers' frames, abstract heap and state ahead of the call, the wish, the exception, the state -/
abbrev CXT := List Env → Hp → Shared → XK → Value → Shared → Prop

/-- the state at a call -/
structure Env0 (P : Program) (w : World) (K : PySem.W.Frag) (mg : Str → Option Value) (base : Heap) (A : Around) (outer : List Env) (s : Shared) (H : Hp) : Prop where
  frames : A.frames = some outer
  mod : Mod K mg base
  bs : ∀ b o, base.get? b = some o → s.heap.get? b = some o ∧ H b = none
  bsz : base.objs.size ≤ s.heap.objs.size
  funs : s.heap.FunFrames base outer
  frf : ∀ b ∈ frs outer, H b = none
  hok : HOk P w H s.heap
  bare : AllBare s.gens
/-- a call's end -/
def CE (outer : List Env) (P : Program) (w : World) (H : Hp) (s : Shared) (Q : VK) (u : Value) (s' : Shared) : Prop :=
  ∃ v H', s'.os = s.os ∧ AllBare s'.gens ∧ Un (frs outer) [] H H' s.heap s'.heap ∧ HOk P w H' s'.heap ∧ RelV v u ∧ Q v H'
def CR (CX : CXT) (outer : List Env) (P : Program) (w : World) (H : Hp) (s : Shared) (Q : VK) (E : XK) (r : Result) (s' : Shared) : Prop :=
  match r with
  | .ok (.ret u) => CE outer P w H s Q u s'
  | .ok _ => False
  | .error e => CX outer H s E e s'
structure FnOk (P : Program) (w : World) (K : PySem.W.Frag) (mg : Str → Option Value) (base : Heap) (CX : CXT) (k : Nat) (f : Addr) (fd : FuncData) (ps : List Str) (sp : Sp) : Prop where
  len : ∀ vs H Q E, sp vs H Q E → vs.length = ps.length
  run : ∀ (A : Around) (outer : List Env) (s : Shared) (H : Hp) (args : Args) (us : List Value) (vs : List V) (Q : VK) (E : XK), Room k A → Env0 P w K mg base A outer s H → BindsTo s fd args (ps.zip us) → Vals vs us → sp vs H Q E →
    codeAny (model P w) A (.call (.ref f) args) (CR CX outer P w H s Q E) s
theorem FnOk.mono {P : Program} {w : World} {K : PySem.W.Frag} {mg : Str → Option Value} {base : Heap} {CX : CXT} {j k : Nat} {f : Addr} {fd : FuncData} {ps : List Str} {sp : Sp} (F : FnOk P w K mg base CX j f fd ps sp) (h : j ≤ k) :
    FnOk P w K mg base CX k f fd ps sp := ⟨F.len, fun A outer s H args us vs Q E hr => F.run A outer s H args us vs Q E (hr.mono h)⟩
theorem Env0.in1 {P : Program} {w : World} {K : PySem.W.Frag} {mg : Str → Option Value} {base : Heap} {A : Around} {outer : List Env} {s : Shared} {H : Hp} (e : Env0 P w K mg base A outer s H) :
    Env0 P w K mg base A.in1 outer s H := ⟨e.frames, e.mod, e.bs, e.bsz, e.funs, e.frf, e.hok, e.bare⟩

section
variable {X : Cx} {pins : List (Addr × Obj)} {σ : St} {H : Hp} {s s' : Shared}
/-- from a body: what a callee wants -/
theorem Inv.env0 (I : Inv X pins σ H s) : Env0 X.prog X.w X.K X.mg X.base X.A X.stack s H :=
  ⟨I.ok.frames, I.ok.mod, I.bs, Nat.le_trans I.ok.bsz I.sz, I.stack, I.stkFree, I.hok, I.bare⟩
/-- behind a call -/
theorem Inv.after {Q : VK} {u : Value} (I : Inv X pins σ H s) (h : CE X.stack X.prog X.w H s Q u s') : EP X pins σ Q u s' := by
  obtain ⟨v, H', os, bare, un, hok, r, q⟩ := h
  obtain ⟨hh, g, d, t, os'⟩ := s'
  obtain rfl : os' = s.os := os
  exact ⟨v, H', I.call (h' := hh) (g' := g) (d' := d) (t' := t) (ch := []) un hok bare (fun b z => absurd z (by simp)), r, q⟩
end

/-! ### calls -/
/-- f(..): the written arguments, then the defaults dvs; E: what is wanted of an exception -/
def tCall (sp : Sp) (dvs : List V) (E : XK) (t : TA) : TE := fun σ H Q => t σ H fun vs H1 => sp (vs ++ dvs) H1 Q E
/-- how the parameters are bound: us the positional arguments, kw the keywords' values by name, ds the defaults that fill up -/
def Binds (K : PySem.W.Frag) (fd : FuncData) (ps : List Str) (ds : List Value) : Prop :=
  ∀ (s : Shared) (us : List Value), K.In s.heap → (us ++ ds).length = ps.length → BindsTo s fd ⟨us, []⟩ (ps.zip (us ++ ds))
/-- every parameter is given -/
theorem Binds.all {K : PySem.W.Frag} {fd : FuncData} {ps : List Str} (h : ∀ us : List Value, us.length = ps.length → bindArgs fd ⟨us, []⟩ = pure (ps.zip us)) : Binds K fd ps [] := fun s us _ hl => by
  rw [List.append_nil] at hl ⊢
  exact .of_eq (h us hl)

/-- an exception of a callee reaches what this body wants of exceptions -/
def Passes (CX : CXT) (X : Cx) (E : XK) : Prop := ∀ (pins : List (Addr × Obj)) (σ : St) (H : Hp) (s : Shared) (e : Value) (s' : Shared), Inv X pins σ H s → CX X.stack H s E e s' → X.xe e s'

section
variable {X : Cx} {CX : CXT} {k : Nat} {f C : Addr} {fd : FuncData} {ps : List Str} {sp : Sp} {dvs : List V} {ds : List Value} {E : XK} {x m : Str} {p pos apos : Pos} {e o : Expr} {es : List Expr} {ta : TE} {t : TA}

/-- the callee runs -/
theorem run_fn {pins : List (Addr × Obj)} {σ : St} {H : Hp} {s : Shared} {Q : VK} {us : List Value} {vs : List V} (F : FnOk X.prog X.w X.K X.mg X.base CX k f fd ps sp) (hr : Room k X.A) (hb : Binds X.K fd ps ds) (hd : Vals dvs ds) (hx : Passes CX X E)
    (I : Inv X pins σ H s) (r : Vals vs us) (h : sp (vs ++ dvs) H Q E) : wpAny (model X.prog X.w) X.A (call (.ref f) us) (EP X pins σ Q) X.xe s := by
  have r2 : Vals (vs ++ dvs) (us ++ ds) := r.append hd
  have hl : (us ++ ds).length = ps.length := by rw [← r2.length]; exact F.len _ _ _ _ h
  refine wpAny_call (codeAny_mono (F.run X.A X.stack s H ⟨us, []⟩ (us ++ ds) (vs ++ dvs) Q E hr I.env0 (hb s us I.kIn hl) r2 h) fun r s' hq => ?_)
  cases r with
  | error e => exact hx pins σ H s e s' I hq
  | ok fl =>
    cases fl with
    | ret u => exact I.after hq
    | next => exact False.elim hq
    | brk => exact False.elim hq
    | cont => exact False.elim hq

theorem pe_call (F : FnOk X.prog X.w X.K X.mg X.base CX k f fd ps sp) (hr : Room k X.A) (hg : Gl X x) (hm : X.mg x = some (.ref f)) (hk : PySem.W.keepIn X.K (.ref f) = true) (hb : Binds X.K fd ps ds) (hd : Vals dvs ds) (hx : Passes CX X E)
    (ha : PA X (e :: es) t) (hdb : (x == ("__debug__" : Str)) = false := by decide) (he : starEach (e :: es) X.env = (false, eval e X.env) :: starEach es X.env := by rfl) (hpl : (backTo pos (starEach es X.env)).any (·.1) = false := by rfl) :
    PE X (.Call (.Name x p) (e :: es) [] pos) (tCall sp dvs E t) := by
  intro pins s σ H Q I h
  refine wpAny_Call_Name_kw (ld_glob I hg hm ?_ hdb)
  refine PySem.W.callWith_K (h₀ := X.base) I.ok.mod.kin hk (thn (ha pos pins s σ H _ I h) fun us s1 ⟨vs, H1, I1, r, q⟩ => ⟨I1.kIn, ?_⟩) he hpl
  exact run_fn F hr hb hd hx I1 r q
end

/-! ### keywords -/
section
variable {X : Cx} {CX : CXT} {k : Nat} {f C : Addr} {fd : FuncData} {ps ks : List Str} {sp : Sp} {E : XK} {x m : Str} {p pos apos kpos : Pos} {e o : Expr} {es : List Expr} {kws : List Keyword} {te ta : TE} {t tk : TA} {nm : Option Str}
variable {g : List Value → List Value → List Value} {gV : List V → List V → List V}
end

/-! ### a def's body keeps its promise -/
/-- names: the parameters first -/
structure FnScope (N P : List Str) (sc : Scope) : Prop where
  kind : sc.kind = .function
  co : sc.isCoroutine = false
  gen : sc.isGenerator = false
  nd : N.Nodup
  pre : N.take P.length = P
  par : ∀ x ∈ P, sc.names.lookup x = some .local ∨ sc.names.lookup x = some .cell
  nofree : ∀ y ∈ sc.names, y.2 ≠ .free

theorem bindL_out {kindOf : Str → Option NameKind} {x : Str} : ∀ {binds : List (Str × Value)} {m : Str → Option Value}, (∀ v, (x, v) ∉ binds) → bindL kindOf binds m x = m x
  | [], _, _ => rfl
  | (n, v) :: r, m, h => by
    unfold bindL
    rw [bindL_out fun w hw => h w (List.mem_cons_of_mem _ hw)]
    split
    · have : x ≠ n := by rintro rfl; exact h v List.mem_cons_self
      simp [this]
    · rfl
theorem bindC_out {kindOf : Str → Option NameKind} {x : Str} : ∀ {binds : List (Str × Value)} {m : Str → Option Value}, (∀ v, (x, v) ∉ binds) → bindC kindOf binds m x = m x
  | [], _, _ => rfl
  | (n, v) :: r, m, h => by
    unfold bindC
    rw [bindC_out fun w hw => h w (List.mem_cons_of_mem _ hw)]
    split
    · rfl
    · have : x ≠ n := by rintro rfl; exact h v List.mem_cons_self
      simp [this]
theorem bindL_get {kindOf : Str → Option NameKind} {x : Str} {v : Value} : ∀ {P : List Str} {vs : List Value} {i : Nat} {m : Str → Option Value}, P.Nodup → P[i]? = some x → vs[i]? = some v → kindOf x = some .local →
    bindL kindOf (P.zip vs) m x = some v
  | [], _, _, _, _, h, _, _ => by simp at h
  | _ :: _, [], _, _, _, _, h, _ => by simp at h
  | p :: P, w :: vs, 0, m, nd, h1, h2, hk => by
    simp at h1 h2; subst h1; subst h2
    show bindL kindOf ((p, w) :: P.zip vs) m p = _
    unfold bindL
    rw [bindL_out fun v hv => (List.nodup_cons.mp nd).1 (List.of_mem_zip hv).1, if_pos hk]
    simp
  | p :: P, w :: vs, i + 1, m, nd, h1, h2, hk => by
    show bindL kindOf ((p, w) :: P.zip vs) m x = _
    unfold bindL
    exact bindL_get (i := i) (List.nodup_cons.mp nd).2 (by simpa using h1) (by simpa using h2) hk
theorem bindC_get {kindOf : Str → Option NameKind} {x : Str} {v : Value} : ∀ {P : List Str} {vs : List Value} {i : Nat} {m : Str → Option Value}, P.Nodup → P[i]? = some x → vs[i]? = some v → kindOf x ≠ some .local →
    bindC kindOf (P.zip vs) m x = some v
  | [], _, _, _, _, h, _, _ => by simp at h
  | _ :: _, [], _, _, _, _, h, _ => by simp at h
  | p :: P, w :: vs, 0, m, nd, h1, h2, hk => by
    simp at h1 h2; subst h1; subst h2
    show bindC kindOf ((p, w) :: P.zip vs) m p = _
    unfold bindC
    rw [bindC_out fun v hv => (List.nodup_cons.mp nd).1 (List.of_mem_zip hv).1, if_neg hk]
    simp
  | p :: P, w :: vs, i + 1, m, nd, h1, h2, hk => by
    show bindC kindOf ((p, w) :: P.zip vs) m x = _
    unfold bindC
    exact bindC_get (i := i) (List.nodup_cons.mp nd).2 (by simpa using h1) (by simpa using h2) hk

/-- the names' values at the entry -/
def start (N : List Str) (vs : List V) : St := vs.map some ++ List.replicate (N.length - vs.length) none

/-- the context of a def's body, at its entry; an exception leaves the frame, then lies as CX says -/
def cxOf (CX : CXT) (P : Program) (w : World) (K : PySem.W.Frag) (mg : Str → Option Value) (base : Heap) (N : List Str) (qual : Str) (scope : Scope) (f : Addr) (cd : Value) (A : Around) (outer : List Env) (s : Shared) (H : Hp) (E : XK) : Cx where
  prog := P
  w := w
  K := K
  mg := mg
  base := base
  A := A.deeper (envOfC qual scope s.heap.objs.size f cd)
  N := N
  s₀ := s
  H₀ := H
  env := envOfC qual scope s.heap.objs.size f cd
  outer := outer
  stack := envOfC qual scope s.heap.objs.size f cd :: outer
  ex := []
  calm := true
  fn := fun _ => true
  pn := []
  xe := fun e s' => wpAny (model P w) (A.deeper (envOfC qual scope s.heap.objs.size f cd)) (leaving (envOfC qual scope s.heap.objs.size f cd) e) (fun _ s'' => CX outer H s E e s'') (fun e' s'' => CX outer H s E e' s'') s'

theorem cell_has {sc : Scope} {n : Nat} {x : Str} (h : sc.names.lookup x = some .cell) : ∃ c, (cellsFrom n sc.names []).lookup x = some c := by
  have q := PySem.W.cellsFrom_some sc.names n [] (.inl h)
  exact Option.isSome_iff_exists.mp q

theorem inv_start {CX : CXT} {P : Program} {w : World} {K : PySem.W.Frag} {mg : Str → Option Value} {base : Heap} {N ps : List Str} {qual : Str} {scope : Scope} {f : Addr} {cd : Value} {A : Around} {outer : List Env} {s s1 : Shared} {H : Hp} {E : XK} {us : List Value} {vs : List V}
    (S : FnScope N ps scope) (hd : A.handled = none) (e0 : Env0 P w K mg base A outer s H) (hl : vs.length = ps.length) (r : Vals vs us)
    (x : InCallC s s.heap.objs.size (bindL (envOfC qual scope s.heap.objs.size f cd).kindOf (ps.zip us) fun _ => none) (cellsFrom (s.heap.objs.size + 1) scope.names []) (bindC (envOfC qual scope s.heap.objs.size f cd).kindOf (ps.zip us) fun _ => none) s1) :
    Inv (cxOf CX P w K mg base N qual scope f cd A outer s H E) [] (start N vs) H s1 := by
  have hpl : ps.length ≤ N.length := by have := congrArg List.length S.pre; rw [List.length_take] at this; omega
  obtain ⟨h1, tk, rfl, hk⟩ := x.done
  have noA : ∀ b : Addr, b ∉ (cxOf CX P w K mg base N qual scope f cd A outer s H E).ex := fun b z => absurd (show b ∈ ([] : List Addr) from z) (by simp)
  refine ⟨⟨e0.mod, S.kind, rfl, rfl, Nat.le_refl _, fun y z c h1 h2 => ?_, fun y hy => ?_, fun y c _ h => ?_, fun _ => hd, Around.frames_deeper e0.frames, .inr ⟨rfl, rfl⟩, fun b z => absurd z (noA b), e0.bs, e0.bsz, fun b _ _ => noA b, fun b z => absurd z (noA b), e0.funs, e0.frf⟩,
    rfl, e0.bare, Un.kept hk, ⟨_, x.toInCall.ns, fun i y v h1 h2 h3 => ?_⟩, fun y c h => ⟨_, x.cell y c h⟩, e0.hok.fresh (Nat.le_refl _), fun y c h => ?_, fun p hp => absurd (show p ∈ ([] : List (Addr × Obj)) from hp) (by simp), e0.hok.kept hk, ?_⟩
  · exact name_of_addr x.apart (PySem.mem_of_lookup h1) (PySem.mem_of_lookup h2)
  · have hy : scope.names.lookup y = some .cell ∨ scope.names.lookup y = some .free := hy
    rcases hy with hy | hy
    · exact cell_has hy
    · exact absurd rfl (S.nofree _ (PySem.mem_of_lookup hy))
  · exact Nat.le_of_lt (x.above y c (PySem.mem_of_lookup h))
  · have hi : i < vs.length := by
      unfold start at h2
      by_cases hi : i < vs.length
      · exact hi
      · rw [List.getElem?_append_right (by simpa using hi)] at h2
        rw [List.getElem?_replicate] at h2
        split at h2 <;> cases h2
    have ha : vs[i]? = some v := by
      unfold start at h2
      rw [List.getElem?_append_left (by simpa using hi), List.getElem?_map] at h2
      cases e : vs[i]? with
      | none => rw [e] at h2; cases h2
      | some a => rw [e] at h2; cases h2; rfl
    obtain ⟨u, hu, rv⟩ := r.get ha
    have hp : ps[i]? = some y := by
      rw [← S.pre, List.getElem?_take_of_lt (by omega)]; exact h1
    have ndP : ps.Nodup := by rw [← S.pre]; exact S.nd.sublist (List.take_sublist _ _)
    refine ⟨u, rv, ?_⟩
    rcases S.par y (List.mem_of_getElem? hp) with k | k
    · exact .inl ⟨k, bindL_get ndP hp hu k⟩
    · obtain ⟨c, e⟩ := cell_has (n := s.heap.objs.size + 1) k
      refine .inr ⟨.inl k, c, e, ?_⟩
      have q := x.cell y c e
      rw [bindC_get ndP hp hu (by show scope.names.lookup y ≠ _; rw [k]; decide)] at q
      exact q
  · exact e0.hok.fresh (Nat.le_of_lt (x.above y c (PySem.mem_of_lookup h)))
  · unfold start
    show _ = N.length
    rw [List.length_append, List.length_map, List.length_replicate]
    omega

/-- THE RULE: a def (or a method) of the text, by its body. The body's reading t is chosen for each entry; it is run at the parameters' values -/
theorem fn_of {CX : CXT} {P : Program} {w : World} {K : PySem.W.Frag} {mg : Str → Option Value} {base : Heap} {k : Nat} {f : Addr} {name qual : Str} {params : Arguments} {body : List Stmt} {scope : Scope} {dV kV doc pm cdv ct oc : Value} {an od : Option Addr}
    {osl : Array (Option Value)} {N ps : List Str} {sp : Sp} (lk : K.lookup f = some ⟨oc, od, .func (PySem.W.fnOf name qual params body scope dV kV doc pm an cdv ct), osl⟩) (hcd : PySem.W.codeIn K cdv qual = true) (S : FnScope N ps scope)
    (len : ∀ vs H Q E, sp vs H Q E → vs.length = ps.length)
    (hbody : ∀ (A : Around) (outer : List Env) (s : Shared) (H : Hp) (vs : List V) (Q : VK) (E : XK), Room k (A.deeper (envOfC qual scope s.heap.objs.size f cdv)) → sp vs H Q E →
      ∃ t, PSs (cxOf CX P w K mg base N qual scope f cdv A outer s H E) body t ∧ t { nx := fun _ H' => Q .non H', rt := Q } (start N vs) H) :
    FnOk P w K mg base CX (k + 1) f (PySem.W.fnOf name qual params body scope dV kV doc pm an cdv ct) ps sp := by
  refine ⟨len, fun A outer s H args us vs Q E hr e0 hb r hsp => ?_⟩
  have hl := len _ _ _ _ hsp
  have KX : K.In s.heap := e0.mod.kin.keeps fun b o e => (e0.bs b o e).1
  have lim : s.heap.NoLimit := e0.mod.nolimit.keeps fun b o e => (e0.bs b o e).1
  have hkind : ∀ y ∈ ps.zip us, scope.names.lookup y.1 = some .local ∨ (scope.names.lookup y.1 = some .cell ∧ ((cellsFrom (s.heap.objs.size + 1) scope.names []).lookup y.1).isSome = true) := fun ⟨n, v⟩ hy => by
    rcases S.par n (List.of_mem_zip hy).1 with q | q
    · exact .inl q
    · exact .inr ⟨q, PySem.W.cellsFrom_some _ _ _ (.inl q)⟩
  refine codeAny_call_function hr.depth (KX _ _ lk) rfl S.co S.gen rfl (PySem.W.codeRec_of KX hcd) (hb _ _ _ _ ?_)
  refine wpAny_newFunctionEnv_cells S.kind hkind fun env he s1 x => ?_
  subst he
  refine ⟨lim.keeps x.toInCall.keep, codeAny_func ?_⟩
  obtain ⟨t, ht, hq⟩ := hbody A outer s H vs Q E (hr.deeper _) hsp
  have I : Inv (cxOf CX P w K mg base N qual scope f cdv A outer s H E) [] (start N vs) H s1 := inv_start S hr.hd e0 hl r x
  refine wpAny_mono (ht [] s1 (start N vs) H _ I hq) (fun fl s' hs => ?_) fun e s' hs => hs
  have fin : ∀ {σ' : St} {H' : Hp} {v : V} {u : Value}, Inv (cxOf CX P w K mg base N qual scope f cdv A outer s H E) [] σ' H' s' → RelV v u → Q v H' → CE outer P w H s Q u s' :=
    fun {σ' H' v u} J rv q => ⟨v, H', J.os, J.bare, J.base, J.hok, rv, q⟩
  cases fl with
  | ret u =>
    obtain ⟨v, σ', H', J, rv, q⟩ := hs
    exact fin J rv q
  | next =>
    obtain ⟨σ', H', J, q⟩ := hs
    exact fin (v := V.non) (u := Value.none) J rfl q
  | brk =>
    obtain ⟨_, _, _, q⟩ := hs
    exact False.elim q
  | cont =>
    obtain ⟨_, _, _, q⟩ := hs
    exact False.elim q
end L2

namespace L2
open PySem PySem.Spec PyProof.Rows
section
variable {X : Cx} {x : Str} {p pos : Pos} {e : Expr} {es : List Expr} {t : TA} {id T : String} {r : List V → Hp → VK → Prop}

def tCB (r : List V → Hp → VK → Prop) (t : TA) : TE := fun σ H Q => t σ H fun vs H1 => r vs H1 Q
/-- f(e, ..), f a built-in function -/
theorem pe_callB (hc : CallR X (.builtin id) r) (hg : Gl X x) (hm : X.mg x = none) (hv : bootBuiltins x = some (.builtin id)) (ha : PA X (e :: es) t) (hn : x ≠ "__name__" := by decide) (hdb : (x == ("__debug__" : Str)) = false := by decide)
    (he : starEach (e :: es) X.env = (false, eval e X.env) :: starEach es X.env := by rfl) (hpl : (backTo pos (starEach es X.env)).any (·.1) = false := by rfl) : PE X (.Call (.Name x p) (e :: es) [] pos) (tCB r t) := by
  intro pins s σ H Q I h
  refine wpAny_Call_Name_kw (ld_blt I hg hm hv ?_ hn hdb)
  exact PyProof.Rows.callWith_builtin1 (thn (ha pos pins s σ H _ I h) fun us s1 ⟨vs, H1, I1, r1, q1⟩ => hc pins s1 σ H1 vs us Q I1 r1 q1) he hpl
/-- T(e, ..), T a built-in type -/
theorem pe_callTy (hc : CallR X (.type T) r) (hg : Gl X x) (hm : X.mg x = none) (hv : bootBuiltins x = some (.type T)) (ha : PA X (e :: es) t) (hn : x ≠ "__name__" := by decide) (hdb : (x == ("__debug__" : Str)) = false := by decide)
    (he : starEach (e :: es) X.env = (false, eval e X.env) :: starEach es X.env := by rfl) (hpl : (backTo pos (starEach es X.env)).any (·.1) = false := by rfl) : PE X (.Call (.Name x p) (e :: es) [] pos) (tCB r t) := by
  intro pins s σ H Q I h
  refine wpAny_Call_Name_kw (ld_blt I hg hm hv ?_ hn hdb)
  exact PyProof.Rows.callWith_type1 (thn (ha pos pins s σ H _ I h) fun us s1 ⟨vs, H1, I1, r1, q1⟩ => hc pins s1 σ H1 vs us Q I1 r1 q1) he hpl
end
end L2

namespace HT
open PySem PyProof.Rows

/-- t < u of tuples of ints -/
def lexLt : List Int → List Int → Bool
  | [], [] => false
  | [], _ :: _ => true
  | _ :: _, [] => false
  | x :: xs, y :: ys => if x = y then lexLt xs ys else decide (x < y)
theorem lexLt_cons (x y : Int) (xs ys : List Int) : lexLt (x :: xs) (y :: ys) = if x = y then lexLt xs ys else decide (x < y) := rfl
theorem eqAt_int (A : Around) (s : Shared) (a : Int) (t : Tok) (c : Int) (u : Tok) : ∃ e, SeqAt.EqAt A s (.int a t) (.int c u) e ∧ (e = true ↔ a = c) :=
  ⟨(a == c), SeqAt.EqAt.int_int a t c u, by simp⟩
theorem rcLt_int (A : Around) (s : Shared) (a : Int) (t : Tok) (c : Int) (u : Tok) (prog : Program) (w : World) (E : Value → Shared → Prop) (Q : Value → Shared → Prop) (h : Q (.bool (decide (a < c))) s) :
    wpAny (model prog w) A (richCompare .Lt (.int a t) (.int c u)) Q E s :=
  (PyProof.Rows.lt_int h : wpAny (model prog w) A (compareOp .Lt (.int a t) (.int c u)) Q E s)

section
open PySem.SeqAt
open PySem.AutoSeq1 (wpAny_loadPart')
open PySem.MeetsSeq PySem.MeetsSeq2 PySem.MeetsSeq3

end

section
variable {prog : Program} {w : World} {A : Around} {E : Value → Shared → Prop} {s : Shared}

/-! ### t[a:b], not the whole -/
/-- a slice's bound as a place among n (d where it is left out) -/
def sIx (n d : Nat) : Option Int → Nat
  | none => d
  | some v => if v < 0 then (v + (n : Int)).toNat else min v.toNat n
theorem sIx_none (n d : Nat) : sIx n d none = d := rfl
theorem sIx_nat (n d k : Nat) : sIx n d (some (k : Int)) = min k n := by
  show (if (k : Int) < 0 then ((k : Int) + (n : Int)).toNat else min (k : Int).toNat n) = min k n
  rw [if_neg (by omega), Int.toNat_natCast]
end
end HT

namespace L2
open PySem PySem.Spec PyProof.Rows

/-! ### the parts of a slice -/
abbrev TO := St → Hp → (Option Int → Hp → Prop) → Prop
/-- a slice's part (left out, or an int) -/
def PO (X : Cx) (e : Option Expr) (t : TO) : Prop :=
  ∀ (pins : List (Addr × Obj)) (s : Shared) (σ : St) (H : Hp) (Q : Option Int → Hp → Prop), Inv X pins σ H s → t σ H Q →
    wpAny (model X.prog X.w) X.A (evalPart e X.env) (fun u s' => ∃ o H', Inv X pins σ H' s' ∧ IsPart u o ∧ Q o H') X.xe s
def tNoPart : TO := fun _ H Q => Q none H
def tPart (t : TE) : TO := fun σ H Q => t σ H fun x H1 => ∃ i, x = .int i ∧ Q (some i) H1

theorem intsAre_of {ns : List Int} : ∀ {us : List Value}, Vals (ns.map V.int) us → IntsAre us ns := by
  induction ns with
  | nil => intro us r; rw [List.map_nil] at r; cases r; exact .nil
  | cons n ns ih =>
    intro us r
    rw [List.map_cons] at r
    cases r with
    | cons r1 r2 =>
      obtain ⟨t, e⟩ := r1
      subst e
      exact .cons n t (ih r2)

section
variable {X : Cx} {e : Expr} {te : TE} {lo hi : Option Expr} {tl th : TO} {pos p2 : Pos}

theorem po_none : PO X none tNoPart := by
  intro pins s σ H Q I h
  rw [evalPart_none]
  exact wpAny_pure ⟨none, H, I, .none, h⟩
theorem po_some (h : PE X e te) : PO X (some e) (tPart te) := by
  intro pins s σ H Q I hw
  rw [evalPart_some]
  refine thn (h pins s σ H _ I hw) fun u s1 ⟨x, H1, I1, r1, q1⟩ => ?_
  obtain ⟨i, rfl, q⟩ := q1
  obtain ⟨t, rfl⟩ := r1
  exact ⟨some i, H1, I1, .int i t, q⟩

/-- what a slice of a value is, by values: the slice object stands at sl -/
def SlR (X : Cx) (r : V → Option Int → Option Int → Hp → VK → Prop) : Prop :=
  ∀ (pins : List (Addr × Obj)) (s : Shared) (σ : St) (H : Hp) (x : V) (v vl vu : Value) (lo hi : Option Int) (sl : Addr) (Q : VK), Inv X pins σ H s → RelV x v → s.heap.IsSliceOf sl vl vu .none → IsPart vl lo → IsPart vu hi → r x lo hi H Q →
    ∃ T id, typeLookup (.type T) "__getitem__" = pure (some (.builtin id)) ∧ s.TypeIs v T ∧ wpAny (model X.prog X.w) X.A (getItem v (.ref sl)) (EP X pins σ Q) X.xe s
def tSl (r : V → Option Int → Option Int → Hp → VK → Prop) (te : TE) (tl th : TO) : TE := fun σ H Q => te σ H fun x H1 => tl σ H1 fun l H2 => th σ H2 fun u H3 => r x l u H3 Q
/-- a[lo:hi], any a -/
theorem pe_slice {r : V → Option Int → Option Int → Hp → VK → Prop} (hr : SlR X r) (he : PE X e te) (hl : PO X lo tl) (hu : PO X hi th) : PE X (.Subscript e (.Slice lo hi none p2) pos) (tSl r te tl th) := by
  intro pins s σ H Q I h
  refine Subscript_ (thn (he pins s σ H _ I h) fun v s1 ⟨x, H1, I1, r1, q1⟩ => ?_)
  refine wpAny_Slice (thn (hl pins s1 σ H1 _ I1 q1) fun vl s2 ⟨l, H2, I2, pl, q2⟩ => thn (hu pins s2 σ H2 _ I2 q2) fun vu s3 ⟨u, H3, I3, pu, q3⟩ => ?_)
  rw [evalPart_none]
  refine wpAny_pure ?_
  have I4 : Inv X pins σ H3 { s3 with heap := s3.heap.push { cls := .type "slice", data := .fields #[vl, vu, .none] } } := I3.kept (t' := s3.toks) fun b ob q => Heap.get?_push_of_some _ q
  obtain ⟨T, id, hT, ht, hg⟩ := hr pins { s3 with heap := s3.heap.push { cls := .type "slice", data := .fields #[vl, vu, .none] } } σ H3 x v vl vu l u s3.heap.objs.size Q I4 r1 (Heap.IsSliceOf.new ..) pl pu q3
  show wpAny (model X.prog X.w) X.A (subscriptTail e (.Slice lo hi none p2) v (.ref s3.heap.objs.size)) (EP X pins σ Q) X.xe { s3 with heap := s3.heap.push { cls := .type "slice", data := .fields #[vl, vu, .none] } }
  exact tail_any (ops := [.ref s3.heap.objs.size, v]) ht hT hg (by with_unfolding_all rfl)

/-- the items of xs[lo:hi] -/
def cutV (xs : List V) (lo hi : Option Int) : List V := (xs.drop (HT.sIx xs.length 0 lo)).take (HT.sIx xs.length xs.length hi - HT.sIx xs.length 0 lo)
theorem cutV_length (xs : List V) (lo hi : Option Int) : (cutV xs lo hi).length ≤ xs.length := by
  unfold cutV
  rw [List.length_take, List.length_drop]
  omega
/-! ### t < u, t + u -/
end
end L2

namespace L2
open PySem PySem.Spec PyProof.Rows

/-! ### places -/
/-- the place that an index of any sign means -/
def ixN (n : Nat) (i : Int) : Option Nat := if 0 ≤ i then (if i < n then some i.toNat else none) else if -(n : Int) ≤ i then some (i + n).toNat else none
def atI {α : Type} (xs : List α) (i : Int) : Option α := (ixN xs.length i).bind fun j => xs[j]?
theorem ixN_seq {n : Nat} {i : Int} {j : Nat} (h : ixN n i = some j) : seqIndex? i n = some j ∧ j < n ∧ -(n : Int) ≤ i ∧ i < n := by
  unfold ixN at h
  by_cases h0 : 0 ≤ i
  · rw [if_pos h0] at h
    by_cases h1 : i < n
    · rw [if_pos h1] at h
      have e : i.toNat = j := Option.some.inj h
      exact ⟨by rw [seqIndex_of h0 h1, e], by omega, by omega, h1⟩
    · rw [if_neg h1] at h; cases h
  · rw [if_neg h0] at h
    by_cases h1 : -(n : Int) ≤ i
    · rw [if_pos h1] at h
      have e : (i + n).toNat = j := Option.some.inj h
      exact ⟨by rw [seqIndex_neg (by omega) h1, e], by omega, h1, by omega⟩
    · rw [if_neg h1] at h; cases h
theorem atI_get {α : Type} {xs : List α} {i : Int} {v : α} (h : atI xs i = some v) : ∃ j, seqIndex? i xs.length = some j ∧ xs[j]? = some v ∧ j < xs.length ∧ -(xs.length : Int) ≤ i ∧ i < xs.length := by
  unfold atI at h
  cases e : ixN xs.length i with
  | none => rw [e] at h; cases h
  | some j =>
    rw [e] at h
    obtain ⟨h1, h2, h3, h4⟩ := ixN_seq e
    exact ⟨j, h1, h, h2, h3, h4⟩
theorem atI_nat {α : Type} {xs : List α} {j : Nat} {v : α} (h : xs[j]? = some v) : atI xs (j : Int) = some v := by
  have hj : j < xs.length := (List.getElem?_eq_some_iff.mp h).1
  have e : ixN xs.length (j : Int) = some j := by
    unfold ixN
    rw [if_pos (by omega), if_pos (by omega)]; simp
  unfold atI; rw [e]; exact h
theorem atI_last {α : Type} (xs : List α) (v : α) : atI (xs ++ [v]) (-1) = some v := by
  have hl : (xs ++ [v]).length = xs.length + 1 := by simp
  have e : ixN (xs ++ [v]).length (-1) = some xs.length := by
    unfold ixN
    rw [hl, if_neg (by decide), if_pos (by omega)]
    congr 1
    omega
  unfold atI
  rw [e]
  show (xs ++ [v])[xs.length]? = some v
  simp

/-! ### what may be subscripted -/
/-- what stands as an index of a plain subscript -/
def PlainIx (b : Expr) : Prop := ∀ o i, subscripted b false o i = operate [o, i] (getItem o i)
/-- a subscript by values -/
def IxR (X : Cx) (r : R2) : Prop :=
  ∀ (value slice : Expr) (pins : List (Addr × Obj)) (s : Shared) (σ : St) (H : Hp) (x y : V) (v u : Value) (Q : VK), Inv X pins σ H s → RelV x v → RelV y u → r x y H Q →
    subscripted slice false v u = operate [v, u] (getItem v u) → wpAny (model X.prog X.w) X.A (subscriptTail value slice v u) (EP X pins σ Q) X.xe s
/-- a call of a builtin's method by values: the receiver, the arguments -/
def MtR (X : Cx) (id : String) (r : V → List V → Hp → VK → Prop) : Prop :=
  ∀ (pins : List (Addr × Obj)) (s : Shared) (σ : St) (H : Hp) (x : V) (xs : List V) (v : Value) (us : List Value) (Q : VK), Inv X pins σ H s → RelV x v → Vals xs us → r x xs H Q →
    wpAny (model X.prog X.w) X.A (call (.builtin id) (v :: us)) (EP X pins σ Q) X.xe s
section
variable {X : Cx} {a b : Expr} {ta tb : TE} {pos : Pos}
/-- a[b] -/
theorem pe_ix {r : R2} (hr : IxR X r) (ha : PE X a ta) (hb : PE X b tb) (hs : PlainIx b) : PE X (.Subscript a b pos) (tOp r ta tb) := by
  intro pins s σ H Q I h
  exact Subscript_ (binT ha hb I h fun v u s2 x y H2 I2 rx ry q => hr a b pins s2 σ H2 x y v u Q I2 rx ry q (hs _ _))

def rIxL (K : PySem.W.Frag) : R2 := fun x y H Q => ∃ p xs i v, x = .ref p ∧ y = .int i ∧ SqL K H p xs ∧ atI xs i = some v ∧ Q v H
def rIxT (K : PySem.W.Frag) : R2 := fun x y H Q => ∃ p xs i v, x = .ref p ∧ y = .int i ∧ SqT K H p xs ∧ atI xs i = some v ∧ Q v H
theorem ix_list : IxR X (rIxL X.K) := by
  intro value slice pins s σ H x y v u Q I rx ry h hs
  obtain ⟨p, xs, i, z, rfl, rfl, hq, he, q⟩ := h
  cases rx
  obtain ⟨t, rfl⟩ := ry
  obtain ⟨its, r, pl, hz⟩ := I.list hq
  obtain ⟨j, h1, h2, h3, h4, h5⟩ := atI_get he
  obtain ⟨w, ew, rw'⟩ := r.get h2
  have hl := r.length
  have hn := line63
  have fin : EP X pins σ Q w s := ⟨z, H, I, rw', q⟩
  by_cases h0 : 0 ≤ i
  · have hj : i.toNat = j := by
      rw [seqIndex_of h0 h5] at h1
      exact Option.some.inj h1
    exact item_listR pl.isList h0 (by omega) (by rw [hj]; simpa using ew) fin hs
  · have hj : (i + (its.toArray.size : Int)).toNat = j := by
      rw [seqIndex_neg (by omega) h4] at h1
      rw [List.size_toArray, ← hl]
      exact Option.some.inj h1
    exact subscriptTail_builtinR (x := w) pl.isList.typeIs slot_list_getitem.lookup
      (wpAny_getItem_list_neg (Q := fun r s' => r = w ∧ EP X pins σ Q r s') pl.isList (by omega) (by rw [List.size_toArray] <;> omega) (by omega) (by rw [hj]; simpa using ew) ⟨rfl, fin⟩) hs
theorem ix_tup : IxR X (rIxT X.K) := by
  intro value slice pins s σ H x y v u Q I rx ry h hs
  obtain ⟨p, xs, i, z, rfl, rfl, hq, he, q⟩ := h
  cases rx
  obtain ⟨t, rfl⟩ := ry
  obtain ⟨its, r, pl, hz⟩ := I.tuple hq
  obtain ⟨j, h1, h2, h3, h4, h5⟩ := atI_get he
  obtain ⟨w, ew, rw'⟩ := r.get h2
  have hl := r.length
  have hn := line63
  have fin : EP X pins σ Q w s := ⟨z, H, I, rw', q⟩
  exact subscriptTail_builtinR (x := w) pl.typeIs slot_tuple_getitem.lookup
    (getItem_tuple (j := j) (Q := fun r s' => r = w ∧ EP X pins σ Q r s') pl (by omega) (by omega) (by rw [List.size_toArray, ← hl]; exact h1) (by simpa using ew) ⟨rfl, fin⟩) hs
/-! ### xs[i] = v, any sign -/
theorem Inv.lst {pins : List (Addr × Obj)} {σ : St} {H : Hp} {s : Shared} {p : Addr} {xs : List V} (I : Inv X pins σ H s) (h : H p = some (.lst xs)) :
    ∃ (its : List Value) (n : Nat), Vals xs its ∧ s.heap.get? p = some { cls := .type "list", data := .seq its.toArray n } ∧ xs.length ≤ sizeLine := by
  obtain ⟨z, its, n, r, e⟩ := I.hok p _ h
  exact ⟨its, n, r, e, z⟩
/-! ### slices -/
theorem slice_bounds (lo hi : Option Int) (n : Nat) : (sliceBounds lo hi none n).1 = ((HT.sIx n 0 lo : Nat) : Int) ∧ (sliceBounds lo hi none n).2.1 = ((HT.sIx n n hi : Nat) : Int) ∧ (sliceBounds lo hi none n).2.2 = 1 := by
  refine ⟨?_, ?_, rfl⟩
  · cases lo with
    | none => simp [sliceBounds, HT.sIx]
    | some i =>
      simp only [sliceBounds, HT.sIx, Option.getD_none, show (1 : Int) > 0 by decide, if_true]
      by_cases h : i < 0
      · simp only [h, if_true] <;> omega
      · simp only [h, if_false] <;> omega
  · cases hi with
    | none => simp [sliceBounds, HT.sIx]
    | some i =>
      simp only [sliceBounds, HT.sIx, Option.getD_none, show (1 : Int) > 0 by decide, if_true]
      by_cases h : i < 0
      · simp only [h, if_true] <;> omega
      · simp only [h, if_false] <;> omega
theorem slicePick_cut (its : List Value) (lo hi : Option Int) : slicePick its.toArray lo hi none = ((its.drop (HT.sIx its.length 0 lo)).take (HT.sIx its.length its.length hi - HT.sIx its.length 0 lo)).toArray := by
  obtain ⟨h1, h2, h3⟩ := slice_bounds lo hi its.toArray.size
  unfold slicePick
  rw [h1, h2, h3]
  simp only [sliceRange_one, pick_run, List.size_toArray] <;> rfl
/-- xs[lo:hi] of a list: a new list -/
def rSlL (K : PySem.W.Frag) : V → Option Int → Option Int → Hp → VK → Prop := fun x lo hi H Q => ∃ a xs, x = .ref a ∧ SqL K H a xs ∧ ∀ p, H p = none → Q (.ref p) (upd H p (.lst (cutV xs lo hi)))
theorem sl_list : SlR X (rSlL X.K) := by
  intro pins s σ H x v vl vu lo hi sl Q I rx hs pl pu h
  obtain ⟨a, xs, rfl, hx, q⟩ := h
  cases rx
  obtain ⟨its, r, ht, hz⟩ := I.list hx
  have hlen := r.length
  refine ⟨"list", _, slot_list_getitem.lookup, ht.isList.typeIs, ?_⟩
  refine wpAny_getItem_list_slice ht.isList hs pl pu .none (by simp) ?_ (by rw [List.size_toArray] <;> omega)
  rw [slicePick_cut, ← hlen]
  refine ⟨.ref s.heap.objs.size, _, I.laid (t' := s.toks) (o := .lst (cutV xs lo hi)) (fun b ob q => Heap.get?_push_of_some _ q) (Nat.le_refl _) ?_, rfl, q _ (I.hok.fresh (Nat.le_refl _))⟩
  exact ⟨Nat.le_trans (cutV_length xs lo hi) hz, _, 0, (r.drop (HT.sIx xs.length 0 lo)).take (HT.sIx xs.length xs.length hi - HT.sIx xs.length 0 lo), Heap.get?_push_size _ rfl⟩

/-! ### in, not in: flat items -/
def flatV : V → Bool
  | .non => true
  | .bl _ => true
  | .int _ => true
  | .str _ => true
  | _ => false
/-- == of flat values -/
def eqV : V → V → Bool
  | .non, .non => true
  | .bl a, .bl b => a == b
  | .bl a, .int b => (if a then 1 else 0) == b
  | .int a, .bl b => a == (if b then 1 else 0)
  | .int a, .int b => a == b
  | .str a, .str b => a == b
  | _, _ => false
theorem eqAt_V {A : Around} {s : Shared} {y x : V} {u v : Value} (ry : RelV y u) (rx : RelV x v) (fy : flatV y = true) (fx : flatV x = true) : SeqAt.EqAt A s u v (eqV y x) := by
  cases y with
  | non =>
    cases ry
    cases x with
    | non => cases rx; exact SeqAt.EqAt.same _
    | bl b => cases rx; exact SeqAt.EqAt.none_bool b
    | int b => obtain ⟨t, rfl⟩ := rx; exact SeqAt.EqAt.none_int b t
    | str b => obtain ⟨t, rfl⟩ := rx; exact SeqAt.EqAt.none_str b t
    | _ => exact absurd (show false = true from fx) Bool.false_ne_true
  | bl a =>
    cases ry
    cases x with
    | non => cases rx; exact SeqAt.EqAt.bool_none a
    | bl b => cases rx; exact SeqAt.EqAt.bool_bool a b
    | int b => obtain ⟨t, rfl⟩ := rx; exact SeqAt.EqAt.bool_int a b t
    | str b => obtain ⟨t, rfl⟩ := rx; exact SeqAt.EqAt.bool_str a b t
    | _ => exact absurd (show false = true from fx) Bool.false_ne_true
  | int a =>
    obtain ⟨t', rfl⟩ := ry
    cases x with
    | non => cases rx; exact SeqAt.EqAt.int_none a t'
    | bl b => cases rx; exact SeqAt.EqAt.int_bool a t' b
    | int b => obtain ⟨t, rfl⟩ := rx; exact SeqAt.EqAt.int_int a t' b t
    | str b => obtain ⟨t, rfl⟩ := rx; exact SeqAt.EqAt.int_str a t' b t
    | _ => exact absurd (show false = true from fx) Bool.false_ne_true
  | str a =>
    obtain ⟨t', rfl⟩ := ry
    cases x with
    | non => cases rx; exact SeqAt.EqAt.str_none a t'
    | bl b => cases rx; exact SeqAt.EqAt.str_bool a t' b
    | int b => obtain ⟨t, rfl⟩ := rx; exact SeqAt.EqAt.str_int a t' b t
    | str b => obtain ⟨t, rfl⟩ := rx; exact SeqAt.EqAt.str_str a t' b t
    | _ => exact absurd (show false = true from fx) Bool.false_ne_true
  | _ => exact absurd (show false = true from fy) Bool.false_ne_true
/-- the items' answers, read off the values (a value's own answer does not lean on its token) -/
def eqU (x : V) (u : Value) : Bool := match u with
  | .none => eqV .non x
  | .bool b => eqV (.bl b) x
  | .int i _ => eqV (.int i) x
  | .str z _ => eqV (.str z) x
  | _ => false
theorem eqU_of {x y : V} {u : Value} (r : RelV y u) (f : flatV y = true) : eqU x u = eqV y x := by
  cases y with
  | non => cases r; rfl
  | bl b => cases r; rfl
  | int i => obtain ⟨t, rfl⟩ := r; rfl
  | str z => obtain ⟨t, rfl⟩ := r; rfl
  | _ => exact absurd (show false = true from f) Bool.false_ne_true
theorem any_eqU {x : V} : ∀ {xs : List V} {us : List Value}, Vals xs us → xs.all flatV = true → us.any (eqU x) = xs.any fun y => eqV y x
  | _, _, .nil, _ => rfl
  | y :: xs, u :: us, .cons r t, f => by
    rw [List.all_cons, Bool.and_eq_true] at f
    rw [List.any_cons, List.any_cons, eqU_of r f.1, any_eqU t f.2]
theorem mem_eqAt {A : Around} {s : Shared} {x : V} {v : Value} (rx : RelV x v) (fx : flatV x = true) : ∀ {xs : List V} {us : List Value}, Vals xs us → xs.all flatV = true → ∀ u ∈ us, SeqAt.EqAt A s u v (eqU x u)
  | _, _, .nil, _ => fun u hu => by cases hu
  | y :: xs, u :: us, .cons r t, f => fun u' hu => by
    rw [List.all_cons, Bool.and_eq_true] at f
    rcases List.mem_cons.mp hu with rfl | hu
    · rw [eqU_of r f.1]; exact eqAt_V r rx f.1 fx
    · exact mem_eqAt rx fx t f.2 u' hu
def inV (x : V) (xs : List V) : Bool := xs.any fun y => eqV y x
/-- x in a list or tuple of flat items -/
def rIn (K : PySem.W.Frag) (neg : Bool) : R2 := fun x y H Q => ∃ p xs, y = .ref p ∧ (SqL K H p xs ∨ SqT K H p xs) ∧ flatV x = true ∧ xs.all flatV = true ∧ Q (.bl (if neg then !inV x xs else inV x xs)) H
theorem op_in_seq : OpR X (compareOp .In) (rIn X.K false) := by
  intro pins s σ H x y v u Q I rx ry h
  obtain ⟨p, xs, rfl, hq, fx, fs, q⟩ := h
  cases ry
  rcases hq with hq | hq
  · obtain ⟨its, r, pl, hz⟩ := I.list hq
    refine SeqAt.in_listAt (eqU x) pl.isList (fun w hw => mem_eqAt rx fx r fs w (by simpa using hw)) ⟨.bl _, H, I, rfl, ?_⟩
    rw [show its.toArray.any (eqU x) = its.any (eqU x) by simp, any_eqU r fs]
    exact q
  · obtain ⟨its, r, pl, hz⟩ := I.tuple hq
    refine SeqAt.in_tupleAt (eqU x) pl (fun w hw => mem_eqAt rx fx r fs w (by simpa using hw)) ⟨.bl _, H, I, rfl, ?_⟩
    rw [show its.toArray.any (eqU x) = its.any (eqU x) by simp, any_eqU r fs]
    exact q
/-! ### len, list(x), tuple(x) of any list or tuple that is read -/
theorem call_len_seq : CallR X (.builtin "len") (fun xs H Q => ∃ p ys, xs = [.ref p] ∧ (SqL X.K H p ys ∨ SqT X.K H p ys) ∧ Q (.int ys.length) H) := by
  intro pins s σ H xs us Q I r h
  obtain ⟨p, ys, rfl, hq, q⟩ := h
  obtain ⟨u, rfl, rx⟩ := vals1 r
  cases rx
  have hn := line63
  rcases hq with hq | hq
  · obtain ⟨its, r', pl, hz⟩ := I.list hq
    have hlen := r'.length
    exact Calls.call_len_list pl.isList (by simp only [List.size_toArray] <;> omega) ⟨.int ys.length, H, I.tok _, ⟨s.toks + 1, by rw [List.size_toArray, hlen]⟩, q⟩
  · obtain ⟨its, r', pl, hz⟩ := I.tuple hq
    have hlen := r'.length
    exact len_tuple pl (by simp only [List.size_toArray] <;> omega) ⟨.int ys.length, H, I.tok _, ⟨s.toks + 1, by rw [List.size_toArray, hlen]⟩, q⟩
theorem call_list_of : CallR X (.type "list") (fun xs H Q => ∃ p ys, xs = [.ref p] ∧ (SqL X.K H p ys ∨ SqT X.K H p ys) ∧ ∀ l, H l = none → Q (.ref l) (upd H l (.lst ys))) := by
  intro pins s σ H xs us Q I r h
  obtain ⟨p, ys, rfl, hq, q⟩ := h
  obtain ⟨u, rfl, rx⟩ := vals1 r
  cases rx
  have fin : ∀ (its : List Value), Vals ys its → ys.length ≤ sizeLine → ∀ (h' : Heap) (c' : Nat), (∀ b o', s.heap.get? b = some o' → h'.get? b = some o') →
      h'.get? s.heap.objs.size = some { cls := .type "list", dict := none, data := .seq its.toArray c', slots := #[] } → EP X pins σ Q (.ref s.heap.objs.size) { s with heap := h' } := fun its r' hz h' c' kp e =>
    ⟨.ref s.heap.objs.size, _, I.laid (t' := s.toks) kp (Nat.le_refl _) (show ObjOk X.prog X.w _ h' _ (.lst ys) from ⟨hz, its, c', r', e⟩), rfl, q _ (I.hok.fresh (Nat.le_refl _))⟩
  rcases hq with hq | hq
  · obtain ⟨its, r', pl, hz⟩ := I.list hq
    have hlen := r'.length
    obtain ⟨o, ho, hc, n, hd⟩ := pl.isList
    exact call_list_seq p (.inl rfl) ho hc hd (fun h' c' kp e => fin its r' hz h' c' kp e) (by simp only [List.size_toArray] <;> omega)
  · obtain ⟨its, r', pl, hz⟩ := I.tuple hq
    have hlen := r'.length
    obtain ⟨o, ho, hc, n, hd⟩ := pl
    exact call_list_seq p (.inr rfl) ho hc hd (fun h' c' kp e => fin its r' hz h' c' kp e) (by simp only [List.size_toArray] <;> omega)
/-! ### the call of a builtin's method: o.m(..) -/
/-- the value is of that builtin type -/
def tyV (K : PySem.W.Frag) (T : String) (x : V) (H : Hp) : Prop := match x with
  | .str _ => T = "str"
  | .int _ => T = "int"
  | .ref p => (T = "list" ∧ ∃ xs, SqL K H p xs) ∨ (T = "tuple" ∧ ∃ o, K.lookup p = some o ∧ o.cls = .type "tuple" ∧ o.dict = none) ∨
      (T = "dict" ∧ ((∃ kvs, H p = some (.dK kvs)) ∨ ∃ kvs, H p = some (.dT kvs))) ∨ (T = "set" ∧ ∃ S n, H p = some (.set S n))
  | _ => False
theorem tyV_is {pins : List (Addr × Obj)} {σ : St} {H : Hp} {s : Shared} {T : String} {x : V} {v : Value} (I : Inv X pins σ H s) (r : RelV x v) (ty : tyV X.K T x H) :
    s.TypeIs v T ∧ ∀ a, v = .ref a → ∃ ob, s.heap.get? a = some ob ∧ ob.dict = none := by
  cases x with
  | str z =>
    obtain ⟨t, rfl⟩ := r
    cases (show T = "str" from ty)
    exact ⟨typeIs_str s z t, fun _ e => nomatch e⟩
  | int i =>
    obtain ⟨t, rfl⟩ := r
    cases (show T = "int" from ty)
    exact ⟨typeIs_int s i t, fun _ e => nomatch e⟩
  | ref p =>
    cases r
    rcases ty with ⟨rfl, xs, hq⟩ | ⟨rfl, o, hk, hc, hd⟩ | ⟨rfl, hk⟩ | ⟨rfl, S, n, hk⟩
    · obtain ⟨its, _, pl, _⟩ := I.list hq
      refine ⟨pl.isList.typeIs, fun a e => ?_⟩
      cases e
      obtain ⟨o, n, e, c, hd, _⟩ := pl
      exact ⟨o, e, hd⟩
    · refine ⟨⟨o, I.kIn p o hk, hc⟩, fun a e => ?_⟩
      cases e
      exact ⟨o, I.kIn _ o hk, hd⟩
    · have z : ∃ o, s.heap.get? p = some o ∧ o.ExactDict := by
        rcases hk with ⟨kvs, hk⟩ | ⟨kvs, hk⟩
        · obtain ⟨_, _, _, _, o, _, _, e, ex, _⟩ := I.hok p _ hk
          exact ⟨o, e, ex⟩
        · obtain ⟨_, _, _, _, o, _, _, e, ex, _⟩ := I.hok p _ hk
          exact ⟨o, e, ex⟩
      obtain ⟨o, e, ex⟩ := z
      refine ⟨⟨o, e, ex.1⟩, fun a e2 => ?_⟩
      cases e2
      exact ⟨o, e, ex.2.1⟩
    · obtain ⟨o, _, _, _, e, ex, _⟩ := I.hok p _ hk
      refine ⟨⟨o, e, ex.1⟩, fun a e2 => ?_⟩
      cases e2
      exact ⟨o, e, ex.2.1⟩
  | _ => exact False.elim ty
def tBM (K : PySem.W.Frag) (T : String) (r : V → List V → Hp → VK → Prop) (to : TE) (t : TA) : TE := fun σ H Q => to σ H fun x H1 => tyV K T x H1 ∧ t σ H1 fun xs H2 => r x xs H2 Q
variable {o e : Expr} {es : List Expr} {to : TE} {t : TA} {name : Str} {apos cpos : Pos} {T id : String} {r : V → List V → Hp → VK → Prop}
theorem pe_bm (pa : PlainAttrs T) (slot : Slot T name id) (hty : typeOf (.builtin id) = pure (.type "method_descriptor")) (hm : MtR X id r) (ho : PE X o to) (ha : PA X (e :: es) t)
    (hbase : attributeBase o name X.env (eval o X.env) = eval o X.env := by rfl)
    (hfew : ((backTo cpos (starEach (e :: es) X.env)).all (fun x => !x.1) && (backToKw cpos (keywordEach [] X.env)).all (fun x => x.1.isSome)
      && decide ((e :: es).length + ([] : List Keyword).length + (if ([] : List Keyword).isEmpty then 0 else 1) < 30)) = true := by rfl)
    (hline : (apos.endLine == cpos.line) = true := by rfl) (hs : starEach (e :: es) X.env = (false, eval e X.env) :: starEach es X.env := by rfl) (hplain : (backTo cpos (starEach es X.env)).any (·.1) = false := by rfl) :
    PE X (.Call (.Attribute o name apos) (e :: es) [] cpos) (tBM X.K T r to t) := by
  intro pins s σ H Q I h
  refine wpAny_Call_method_late hbase hfew hline rfl (thn (ho pins s σ H _ I h) fun v s1 ⟨x, H1, I1, r1, ty, q1⟩ => ?_)
  obtain ⟨h1, h2⟩ := tyV_is I1 r1 ty
  refine ⟨T, id, pa, slot, hty, h1, h2, ?_⟩
  have hA := ha cpos pins s1 σ H1 _ I1 q1
  rw [hs] at hA ⊢
  refine Calls.callWith_builtin (by show (false || (backTo cpos (starEach es X.env)).any (·.1)) = false; rw [hplain] <;> rfl) (Calls.evalArgs_plain ?_)
  exact thn hA fun us s2 ⟨vs, H2, I2, r2, q2⟩ => hm pins s2 σ H2 x vs v us Q I2 r1 r2 q2
/- xs.append(e), list.index on a module's tuple .. are MtR facts of 06m -/
end
end L2

namespace L2
open PySem PySem.Spec PyProof.Rows

def MtM (X : Cx) (id : String) (r : V → List V → Hp → VK → Prop) : Prop :=
  ∀ (pins : List (Addr × Obj)) (s : Shared) (σ : St) (H : Hp) (x : V) (xs : List V) (v : Value) (us : List Value) (Q : VK), Inv X pins σ H s → RelV x v → Vals xs us → r x xs H Q →
    wpAny (model X.prog X.w) X.A (call (.builtin id) (v :: us)) (EP X pins σ Q) X.xe s

/-! ### lists of values -/
theorem Vals.one : ∀ {x : V} {us : List Value}, Vals [x] us → ∃ u, us = [u] ∧ RelV x u
  | _, _, .cons r .nil => ⟨_, rfl, r⟩
theorem Vals.two : ∀ {x y : V} {us : List Value}, Vals [x, y] us → ∃ u v, us = [u, v] ∧ RelV x u ∧ RelV y v
  | _, _, _, .cons r (.cons q .nil) => ⟨_, _, rfl, r, q⟩
theorem Vals.zero : ∀ {us : List Value}, Vals [] us → us = []
  | _, .nil => rfl
theorem Vals.dropLast {xs : List V} {us : List Value} (h : Vals xs us) : Vals xs.dropLast us.dropLast := by
  induction h with
  | nil => exact .nil
  | cons r t ih =>
    cases t with
    | nil => exact .nil
    | cons q t' => exact .cons r ih
theorem Vals.reverse {xs : List V} {us : List Value} (h : Vals xs us) : Vals xs.reverse us.reverse := by
  induction h with
  | nil => exact .nil
  | cons r t ih => rw [List.reverse_cons, List.reverse_cons]; exact Vals.append ih (.cons r .nil)
section
variable {X : Cx} {pins : List (Addr × Obj)} {σ : St} {H : Hp} {s : Shared} {l b : Addr} {xs ys zs : List V}

/-! ### the two steps: a tracked list is rewritten, a new list is laid -/
theorem Inv.lset {its its' : List Value} {n : Nat} {f : Array Value → Array Value} {t' : Nat} (I : Inv X pins σ H s) (hH : H l = some (.lst xs))
    (e : s.heap.get? l = some { cls := .type "list", data := .seq its.toArray n }) (hf : f its.toArray = its'.toArray) (hv : Vals ys its') (hz : ys.length ≤ sizeLine) :
    Inv X pins σ (upd H l (.lst ys)) { s with heap := s.heap.update l (Obj.mapSeq f), toks := t' } := by
  have q := PySem.IsL.update e f
  rw [hf] at q
  refine I.write (x := l) (e := l) (by rw [hH]; exact trivial) (.inl rfl) (fun b' u hb hu => (Heap.get?_update_other s.heap (Obj.mapSeq f) (Ne.symm hb)).trans hu) ⟨_, q⟩ ?_
  exact ⟨hz, its', _, hv, q⟩
theorem Inv.lnew {its : List Value} {t' : Nat} (I : Inv X pins σ H s) (hv : Vals ys its) (hz : ys.length ≤ sizeLine) :
    Inv X pins σ (upd H s.heap.objs.size (.lst ys)) { s with heap := s.heap.push { cls := .type "list", data := .seq its.toArray }, toks := t' } :=
  I.laid (fun _ _ q => Heap.get?_push_of_some _ q) (Nat.le_refl _) ⟨hz, its, 0, hv, Heap.get?_push_size _ rfl⟩
theorem Inv.fresh (I : Inv X pins σ H s) : H s.heap.objs.size = none := I.hok.fresh (Nat.le_refl _)
theorem Inv.lstM (I : Inv X pins σ H s) (hH : H l = some (.lst xs)) : xs.length ≤ sizeLine ∧ ∃ (its : List Value) (n : Nat), Vals xs its ∧ xs.length = its.length ∧ s.heap.get? l = some { cls := .type "list", data := .seq its.toArray n } := by
  obtain ⟨z, its, n, r, e⟩ := I.hok l _ hH
  exact ⟨z, its, n, r, r.length, e⟩

theorem notLongL {n : Nat} (h : n ≤ sizeLine) : Builtin.List.listTooLong n = false := by
  unfold Builtin.List.listTooLong
  exact decide_eq_false (by omega)
end

section
variable {X : Cx}

/-! ### methods -/
def rAppend : V → List V → Hp → VK → Prop := fun x vs H Q => ∃ l xs y, x = .ref l ∧ vs = [y] ∧ H l = some (.lst xs) ∧ xs.length < sizeLine ∧ Q .non (upd H l (.lst (xs ++ [y])))
theorem mt_append : MtM X "list.append" rAppend := by
  intro pins s σ H x vs v us Q I rx rv h
  obtain ⟨l, xs, y, rfl, rfl, hH, hz, q⟩ := h
  cases rx
  obtain ⟨u, rfl, ru⟩ := rv.one
  obtain ⟨z, its, n, r, hl, e⟩ := I.lstM hH
  refine call_meets F.slot_list_append ⟨_, e, rfl⟩ F.entry_list_append (F.args_list_append_2 _ _) (PySem.list_append l its.toArray n u (by rw [List.size_toArray]; omega)) ⟨e, ?_⟩
  refine ⟨.non, _, I.lset (its' := its ++ [u]) hH e (by simp) (r.append (.cons ru .nil)) ?_, rfl, q⟩
  rw [List.length_append, List.length_singleton]
  omega

def rExtend : V → List V → Hp → VK → Prop := fun x vs H Q => ∃ l b xs zs, x = .ref l ∧ vs = [.ref b] ∧ H l = some (.lst xs) ∧ H b = some (.lst zs) ∧ xs.length + zs.length ≤ sizeLine ∧ Q .non (upd H l (.lst (xs ++ zs)))
theorem mt_extend : MtM X "list.extend" rExtend := by
  intro pins s σ H x vs v us Q I rx rv h
  obtain ⟨l, b, xs, zs, rfl, rfl, hH, hB, hz, q⟩ := h
  cases rx
  obtain ⟨u, rfl, ru⟩ := rv.one
  cases ru
  obtain ⟨z, its, n, r, hl, e⟩ := I.lstM hH
  obtain ⟨z2, its2, n2, r2, hl2, e2⟩ := I.lstM hB
  have hsz : its.toArray.size + its2.toArray.size ≤ sizeLine := by rw [List.size_toArray, List.size_toArray]; omega
  have hlong : ¬ (!its.toArray.isEmpty && Builtin.List.listTooLong (its.toArray.size + its2.toArray.size)) = true := by
    rw [notLongL hsz, Bool.and_false]
    exact Bool.false_ne_true
  refine call_meets F.slot_list_extend ⟨_, e, rfl⟩ F.entry_list_extend (F.args_list_extend_2 _ _)
    (AutoSeq1.list_extend_list_list_0 l its.toArray n b its2.toArray n2 hlong (by rw [List.size_toArray]; omega) (by omega)) ⟨e, e2, ?_⟩
  refine ⟨.non, _, I.lset (its' := its ++ its2) hH e (by simp) (r.append r2) ?_, rfl, q⟩
  rw [List.length_append]
  omega

/-! ### list + list, list += list, list * int -/
def rCat : R2 := fun x y H Q => ∃ l b xs zs, x = .ref l ∧ y = .ref b ∧ H l = some (.lst xs) ∧ H b = some (.lst zs) ∧ xs.length + zs.length ≤ sizeLine ∧ ∀ p, H p = none → Q (.ref p) (upd H p (.lst (xs ++ zs)))
theorem op_cat : OpR X (binaryOp .Add) rCat := by
  intro pins s σ H x y v u Q I rx ry h
  obtain ⟨l, b, xs, zs, rfl, rfl, hH, hB, hz, q⟩ := h
  cases rx
  cases ry
  obtain ⟨z, its, n, r, hl, e⟩ := I.lstM hH
  obtain ⟨z2, its2, n2, r2, hl2, e2⟩ := I.lstM hB
  refine PySem.P.add_list e e2 ?_ (by rw [List.size_toArray, List.size_toArray]; omega)
  have ea : its.toArray ++ its2.toArray = (its ++ its2).toArray := by simp
  rw [ea]
  exact ⟨.ref _, _, I.lnew (t' := s.toks) (r.append r2) (by rw [List.length_append]; omega), rfl, q _ I.fresh⟩
/-! ### del xs[i] -/
end

/-! ### xs[a:b] = ys -/
section
variable {prog : Program} {w : World} {A : Around} {E : Value → Shared → Prop} {s : Shared}
end

section
variable {X : Cx}
end
end L2

namespace Att
open PySem PySem.W PySem.Calls PyProof.Rows

/-! ### the script -/
theorem ints_of_wellAll {P : Params} {h : Heap} : ∀ (ns : List Int) (vs : List Value), WellAll P h vs (ns.map WData.int) → IntsAre vs ns := by
  intro ns
  induction ns with
  | nil =>
    intro vs w
    rw [List.map_nil] at w
    cases w
    exact .nil
  | cons n ns ih =>
    intro vs w
    rw [List.map_cons] at w
    cases w with
    | cons a b =>
      cases a
      exact .cons _ _ (ih _ b)

theorem script_of {l : OpenLaw} {n : Nat} (hn : l.most = some n) {P : Params} {h : Heap} {args : List WData} {vals : List Value}
    (hpre : l.row.toRowW.claim.pre args = true) (hwl : WellAll P h vals args) :
    ∃ a vs ns, vals = [Value.ref a] ∧ args = [WData.list (ns.map WData.int)] ∧ h.get? a = some { cls := .type "list", data := .seq vs.toArray } ∧ IntsAre vs ns ∧ ns.length ≤ n := by
  have hsh : WShape.hasAll [] args [.list .int] = true := (pre_splitW hpre).1
  have hc : l.pre.holds [] { args := args } = true := (pre_splitW hpre).2
  obtain ⟨d, r, rfl, h1, h2⟩ := hasAllW_cons hsh
  obtain rfl := hasAllW_nil h2
  obtain ⟨xs, rfl, h3⟩ := hasW_list h1
  obtain ⟨ns, rfl⟩ := items_int h3
  have hlen : ns.length ≤ n := by
    unfold OpenLaw.pre at hc
    have h4 : (WTm.not (.lt (.lit (.int (n : Int))) (.len (.arg 0)))).holds [] { args := [.list (ns.map .int)] } = true := by
      have h4 := (holds_andW hc).1
      rw [hn] at h4
      exact h4
    have h5 := condW_of h4 (w_not (w_lt w_lit (w_len_list (w_arg rfl))))
    rw [List.length_map] at h5
    refine Nat.le_of_not_lt fun q => ?_
    have q' : (n : Int) < ((ns.length : Nat) : Int) := by omega
    first
      | (rw [decide_eq_true q'] at h5; exact absurd h5 (by decide))
      | (simp at h5; omega)
  cases hwl with
  | cons w1 w2 =>
    cases w2
    cases w1 with
    | list ho hall => exact ⟨_, _, ns, rfl, rfl, ho, ints_of_wellAll ns _ hall, hlen⟩

theorem post_true (l : OpenLaw) (args : List WData) : l.row.toRowW.claim.post args (.bool true) args = true :=
  postW_of (r := l.row.toRowW) (X := (true == true))
    (show WShape.has [] (.bool true) .bool = true by first | rfl | decide | simp [WShape.has, WShape.arms, WShape.armsAll])
    (show (WTm.eq .res (.lit (.bool true))).value [] { args := args, res := some (.bool true), after := args } = some (.bool (true == true)) from w_eq_bool (w_res rfl) w_lit) rfl

/-! ### the attachment: holds_open's last premise (the goal 'hc' behind k_head) from a wpAny of the law's body -/
/-- the same from a codeAny of the CALL (for a layer whose function contracts speak of calls) -/
theorem attach_call {l : OpenLaw} {n : Nat} {q : Program} {loose : List Str} {XP : (Str → Option Value) → Heap → Prop} {YP : World → Heap → Prop} {d : DefRec}
    (hn : l.most = some n) (hdf : d.params.defaults = [])
    (call : ∀ (w : World) (s₀ s₁ : Shared) (mg mb : Str → Option Value) (fa : Addr) (o : Obj) (pm cd doc : Value) (a : Addr) (vs : List Value) (ns : List Int),
      Ground q loose [] XP w s₀ mg mb s₁.heap → YP w s₁.heap →
      s₁.heap.get? fa = some o → o.data = .func (docDef d.name d.params d.body d.scope pm cd doc) → s₁.heap.CodeRec cd d.name → mg d.name = some (.ref fa) →
      s₁.heap.get? a = some { cls := .type "list", data := .seq vs.toArray } → IntsAre vs ns → ns.length ≤ n → s₁.gens = #[] →
      codeAny (model l.prog w) callerA (.call (.ref fa) ⟨[.ref a], []⟩) (fun r s' => r = .ok (.ret (.bool true)) ∧ OldK s₁.heap s'.heap ∧ s'.os = s₁.os ∧ AllBare s'.gens) s₁) :
    WalkO q loose XP YP l.row.toRowW d [] (fun f vs => PySem.call f vs) := by
  intro w s₀ s₁ mg mb G Y fa o pm cd doc dV kV ho hd hcd hD hmg hg args vals as hpre hlay hrd hwl hlo
  obtain rfl : dV = .none := Dflts.none hD hdf
  obtain rfl : kV = .none := Dflts.noKw hD
  obtain ⟨a, vs, ns, rfl, rfl, hobj, hints, hlen⟩ := script_of hn hpre hwl
  refine enter_call (codeAny_mono (call w s₀ s₁ mg mb fa o pm cd doc a vs ns G Y ho (fd_plain hd) hcd hmg hobj hints hlen hg) fun r s' hq => ?_)
  obtain ⟨rfl, h2, h3, h4⟩ := hq
  exact ⟨.inl ⟨.bool true, .bool true, [], rfl, fun _ => rfl, .bool true, post_true l _, fun _ => ⟨List.Pairwise.nil, fun _ hm => (nomatch hm)⟩⟩, h2, h3, h4⟩

/-! ### rules over ANY heap (no ledger) from facts about the written part K: the library's own take a ledger (News) for what they write -/
section
variable {prog : Program} {w : World} {A : Around} {E : Value → Shared → Prop} {s : Shared} {K : Frag}

/-! the whole heap as the ledger: makes every rule that writes through a ledger a rule over any heap -/
end
end Att

namespace L2
open PySem PySem.Spec PyProof.Rows

theorem vals_ints : ∀ {vs : List Value} {ns : List Int}, IntsAre vs ns → Vals (ns.map V.int) vs
  | _, _, .nil => .nil
  | _, _, .cons n t h => .cons ⟨t, rfl⟩ (vals_ints h)

/-- nothing is tracked but the script, known to the object (or it is an object of the module) -/
def Only (H : Hp) : Prop := ∀ b, H b = none ∨ ∃ o xs, H b = some (.frz o (.lst xs))

/-- THE HEAD: the law's promise, at the heap behind the top. F, the promise of the law's def, may use that base is part of the heap (so K.In base, base.Ns mainGlobals mg stand in Mod) -/
theorem law_call {P : Program} {w : World} {K : PySem.W.Frag} {mg mb : Str → Option Value} {CX : CXT} {k : Nat} {fa a : Addr} {fd : FuncData} {x : Str} {sp : Sp} {s₁ : Shared} {vs : List Value} {ns : List Int}
    (KX : K.In s₁.heap) (hns : s₁.heap.Ns mainGlobals mg) (hb : s₁.heap.Ns builtinsNs mb) (hbb : ∀ x : Str, x ≠ "__name__" → mb x = bootBuiltins x) (hlim : s₁.heap.NoLimit) (hg : s₁.gens = #[])
    (ha : s₁.heap.get? a = some { cls := .type "list", data := .seq vs.toArray }) (hi : IntsAre vs ns) (hl : ns.length ≤ sizeLine) (hr : Room k callerA)
    (F : ∀ base : Heap, K.In base → base.Ns mainGlobals mg → FnOk P w K mg base CX k fa fd [x] sp) (hbind : ∀ (s : Shared) (u : Value), BindsTo s fd ⟨[u], []⟩ [(x, u)])
    (hsp : ∀ H : Hp, Only H → SqL K H a (ns.map V.int) → sp [.ref a] H (fun v _ => v = .bl true) fun _ _ _ => False)
    (hCX : ∀ H e s', CX [] H s₁ (fun _ _ _ => False) e s' → False) :
    codeAny (model P w) callerA (.call (.ref fa) ⟨[.ref a], []⟩) (fun r s' => r = .ok (.ret (.bool true)) ∧ OldK s₁.heap s'.heap ∧ s'.os = s₁.os ∧ AllBare s'.gens) s₁ := by
  have rv := vals_ints hi
  have lenV := hi.length
  -- from an abstract heap in which nothing but the script may be tracked
  have core : ∀ H : Hp, Only H → SqL K H a (ns.map V.int) → HOk P w H s₁.heap → (∀ b, H b ≠ none → b = a) → (H a ≠ none → K.lookup a = none) →
      codeAny (model P w) callerA (.call (.ref fa) ⟨[.ref a], []⟩) (fun r s' => r = .ok (.ret (.bool true)) ∧ OldK s₁.heap s'.heap ∧ s'.os = s₁.os ∧ AllBare s'.gens) s₁ := by
    intro H hO hS hok hA hK
    have base_of : ∀ {b : Addr} {o : Obj}, s₁.heap.get? b = some o → H b = none → (hidT s₁.heap H).get? b = some o := fun e n => hidT_get e n
    have noA : ∀ {b : Addr} {o : Obj} {es : Array DictEntry} {ep : Nat}, s₁.heap.get? b = some o → o.data = .dict es ep → H b = none := fun {b o es ep} e d => by
      cases q : H b with
      | none => rfl
      | some u =>
        have e' : b = a := hA b (by rw [q]; simp)
        subst e'
        rw [ha] at e; cases e
        have d' : Data.seq vs.toArray _ = Data.dict es ep := d
        cases d'
    have nsK : ∀ {b : Addr} {m : Str → Option Value}, s₁.heap.Ns b m → (hidT s₁.heap H).Ns b m := fun {b m} ⟨o, es, ep, e, d, r⟩ => ⟨o, es, ep, base_of e (noA e d), d, r⟩
    have hKb : K.In (hidT s₁.heap H) := fun b o e => base_of (KX b o e) (by
      cases q : H b with
      | none => rfl
      | some u =>
        have e' : b = a := hA b (by rw [q]; simp)
        subst e'
        rw [hK (by rw [q]; simp)] at e; cases e)
    have hM : Mod K mg (hidT s₁.heap H) := ⟨hKb, nsK hns, ⟨mb, nsK hb, hbb⟩, let ⟨mc, h1, h2⟩ := hlim; ⟨mc, nsK h1, h2⟩⟩
    have e0 : Env0 P w K mg (hidT s₁.heap H) callerA [] s₁ H := ⟨rfl, hM, fun b o e => of_hidT e, Nat.le_of_eq (hidT_size _ _), trivial, fun b hb => absurd (show b ∈ ([] : List Addr) from hb) (by simp), hok, .of_eq hg⟩
    refine codeAny_mono ((F _ hKb (nsK hns)).run callerA [] s₁ H ⟨[.ref a], []⟩ [.ref a] [.ref a] _ _ hr e0 (hbind s₁ (.ref a)) (.cons rfl .nil) (hsp H hO hS)) fun r s' h => ?_
    cases r with
    | error e => exact (hCX H e s' h).elim
    | ok fl =>
      cases fl with
      | next => exact False.elim h
      | brk => exact False.elim h
      | cont => exact False.elim h
      | ret u =>
        obtain ⟨v, H', os, bare, un, hok', r', q⟩ := h
        have q' : v = .bl true := q
        subst q'
        obtain rfl : u = Value.bool true := r'
        refine ⟨rfl, OldK.of_keep fun b o e => ?_, os, bare⟩
        cases q : H b with
        | none => exact un.keep b o e q (by intro z; exact absurd (show b ∈ ([] : List Addr) from z) (by simp)) (by simp)
        | some u =>
          rcases hO b with z | ⟨ob, xs, z⟩
          · rw [q] at z; cases z
          · have z2 := un.frzs b ob _ z
            obtain ⟨e1, _⟩ := hok b _ z
            obtain ⟨e2, _⟩ := hok' b _ z2
            rw [e] at e1; cases e1
            exact e2
  cases hk : K.lookup a with
  | some o =>
    -- the script is one of the module's own objects
    have e := KX a o hk
    rw [ha] at e
    cases e
    refine core (fun _ => none) (fun _ => .inl rfl) (.inr ⟨_, vs.toArray, _, hk, rfl, rfl, rfl, by rw [List.size_toArray, lenV]; exact hl, by simpa using rv⟩) (fun b u z => by have z' : (none : Option HO) = some u := z; cases z') (fun b z => absurd rfl z) fun z => absurd rfl z
  | none =>
    refine core (fun b => if b = a then some (.frz { cls := .type "list", data := .seq vs.toArray } (.lst (ns.map V.int))) else none) (fun b => ?_) (.inl (.inr ⟨{ cls := .type "list", data := .seq vs.toArray }, if_pos rfl⟩)) (fun b u z => ?_) (fun b z => ?_) fun _ => hk
    · by_cases hb : b = a
      · exact .inr ⟨_, _, if_pos hb⟩
      · exact .inl (if_neg hb)
    · by_cases hb : b = a
      · have z' := (if_pos hb).symm.trans z
        cases z'
        subst hb
        exact ⟨ha, by rw [List.length_map]; exact hl, vs, _, rv, ha⟩
      · have z' := (if_neg hb).symm.trans z
        cases z'
    · by_cases hb : b = a
      · exact hb
      · exact absurd (if_neg hb) z
end L2

namespace L2
open PySem PySem.Spec PyProof.Rows

abbrev KOf {K : PySem.W.Frag} {h : Heap} (_ : K.In h) : PySem.W.Frag := K

/-- the goal that k_head leaves (case hc), from the law's promise. F gives the function object fd (K's own) once, then the promise over every base -/
theorem walk_of {l : PySem.W.OpenLaw} {n k : Nat} {q : Program} {loose : List Str} {XP : (Str → Option Value) → Heap → Prop} {YP : World → Heap → Prop} {d : DefRec} {K : Params → PySem.W.Frag} {CX : World → CXT} {sp : World → Sp} {x : Str}
    (hn : l.most = some n) (hn2 : n ≤ sizeLine) (hdf : d.params.defaults = []) (hr : Room k callerA)
    (hY : ∀ (w : World) (h : Heap), YP w h → (K w.params).In h)
    (F : ∀ (w : World) (mg : Str → Option Value) (fa : Addr) (h : Heap), (K w.params).In h → h.Ns mainGlobals mg → mg d.name = some (.ref fa) →
      ∃ fd : FuncData, (∀ (s : Shared) (u : Value), BindsTo s fd ⟨[u], []⟩ [(x, u)]) ∧
        ∀ base : Heap, (K w.params).In base → base.Ns mainGlobals mg → FnOk l.prog w (K w.params) mg base (CX w) k fa fd [x] (sp w))
    (hsp : ∀ (w : World) (H : Hp) (a : Addr) (ns : List Int), ns.length ≤ n → Only H → SqL (K w.params) H a (ns.map V.int) → sp w [.ref a] H (fun v _ => v = .bl true) fun _ _ _ => False)
    (hCX : ∀ (w : World) (H : Hp) (s : Shared) (e : Value) (s' : Shared), CX w [] H s (fun _ _ _ => False) e s' → False) :
    PySem.W.WalkO q loose XP YP l.row.toRowW d [] (fun f vs => PySem.call f vs) := by
  refine Att.attach_call hn hdf fun w s₀ s₁ mg mb fa o pm cd doc a vs ns G Y ho hd hcd hmg hobj hints hlen hg => ?_
  have KX := hY w _ Y
  obtain ⟨fd, hb, hF⟩ := F w mg fa _ KX G.T.g hmg
  exact law_call KX G.T.g G.T.b G.T.builtins G.T.nolimit hg hobj hints (Nat.le_trans hlen hn2) hr hF hb (fun H hO hS => hsp w H a ns hlen hO hS) fun H e s' => hCX w H s₁ e s'
end L2

/- THE LAST THEOREM (shape; LID, My.* are yours):
   My.Adr: a structure of the addresses that your layer names (classes, functions); My.Txt K t: a structure (Prop) of the equations over K;
   My.txt_mk : {K} {implicit addresses ..} (e1 : nsIn K mainGlobals "law" = some (some (.ref f))) (e2 : K.lookup f = some ⟨oc, od, .func (fnOf "law" "law" params body scope dV kV doc pm an cdv ct), sl⟩) (e3 : codeIn K cdv "law" = true) .. : ∃ t, My.Txt K t

set_option maxRecDepth 100000 in
set_option maxHeartbeats 0 in
theorem PySem.Challenge.cw_LID_holds : PySem.Challenge.rw_LID.Holds := by
  w_on; o_law; k_head; (case hw => w_witness2)
  k_fill
  refine L2.walk_of (l := PySem.Challenge.rw_LID) (n := 63) (k := 40) (x := "script") (CX := fun w => ..) (sp := fun _ => My.sp_law) rfl (by decide) rfl ⟨rfl, by decide, by decide⟩ (fun w h Y => PySem.W.kIn_of Y) ?F ?S ?C
  case F =>
    intro w mg fa h KX G hmg
    have T : ∃ t, My.Txt (L2.KOf KX) t := by
      dsimp only [L2.KOf]                          -- K must stand as «<heap const> w.params» for k_is
      refine' My.txt_mk ?e1 ?e2 ?e3 ..
      (case e1 => PySem.W.k_is)                    -- in the order: a name -> its address -> its object -> its parts
      (case e2 => PySem.W.k_is)
      ..
    obtain ⟨t, T⟩ := T
    have e0 := hmg.symm.trans (PySem.W.mg_of KX G T.law)
    cases e0                                       -- fa is the law's own address
    exact ⟨_, fun s u => .of_eq rfl, fun base kb nb => My.law_fn T kb nb⟩     -- if «.of_eq rfl» comes too early: refine' ⟨_, ?b, fun base kb nb => My.law_fn T kb nb⟩; exact fun s u => .of_eq rfl
  case S => exact fun w H a ns hl hO hS => ..
  case C => exact ..
(the tactic k_is has no namespace: write k_is) -/

/-! SHORT WORDS over the layer: a def of the text, its body, what a loop and a test want. -/
namespace L2
open PySem PySem.Spec PyProof.Rows

/-! ### the text by places -/
def defArgs (s : Stmt) : Arguments := match s with
  | .FunctionDef _ a _ _ _ _ _ _ _ _ => a
  | _ => { posonlyargs := [], args := [], vararg := none, kwonlyargs := [], kw_defaults := [], kwarg := none, defaults := [] }
def defBody (s : Stmt) : List Stmt := match s with
  | .FunctionDef _ _ b _ _ _ _ _ _ _ => b
  | _ => []
def defScope (s : Stmt) : Scope := match s with
  | .FunctionDef _ _ _ _ _ _ sc _ _ _ => sc
  | _ => { kind := .function, names := [], isGenerator := false, isCoroutine := false }

/-! ### no exception leaves a def -/
abbrev CX0 : CXT := fun _ _ _ _ _ _ => False
abbrev E0 : XK := fun _ _ _ => False
theorem pass0 {X : Cx} : Passes CX0 X E0 := fun _ _ _ _ _ _ _ h => h.elim

/-! ### a def (or method) of the text as it stands behind the top -/
structure Fun (K : PySem.W.Frag) (x qual : Str) (st : Stmt) (f : Addr) (fd : FuncData) : Prop where
  ex : ∃ (oc : Value) (od : Option Addr) (kV doc pm : Value) (an : Option Addr) (cdv ct : Value) (osl : Array (Option Value)),
    fd = PySem.W.fnOf x qual (defArgs st) (defBody st) (defScope st) .none kV doc pm an cdv ct ∧ K.lookup f = some ⟨oc, od, .func fd, osl⟩ ∧ PySem.W.codeIn K cdv qual = true
  kp : PySem.W.keepIn K (.ref f) = true
section
variable {P : Program} {w : World} {K : PySem.W.Frag} {mg : Str → Option Value} {base : Heap}
/-- THE RULE for a def: its body as a term of rules, and the reading of that term -/
theorem Fun.ok {x qual : Str} {st : Stmt} {f : Addr} {fd : FuncData} {N ps : List Str} {k : Nat} {sp : Sp} (F : Fun K x qual st f fd) (S : FnScope N ps (defScope st)) (len : ∀ vs H Q E, sp vs H Q E → vs.length = ps.length)
    (hbody : ∀ (cdv : Value) (A : Around) (outer : List Env) (s : Shared) (H : Hp) (vs : List V) (Q : VK) (E : XK), Room k (A.deeper (envOfC qual (defScope st) s.heap.objs.size f cdv)) → sp vs H Q E →
      ∃ t, PSs (cxOf CX0 P w K mg base N qual (defScope st) f cdv A outer s H E).nox (defBody st) t ∧ t { nx := fun _ H' => Q .non H', rt := Q } (start N vs) H) : FnOk P w K mg base CX0 (k + 1) f fd ps sp := by
  obtain ⟨oc, od, kV, doc, pm, an, cdv, ct, osl, rfl, lk, hcd⟩ := F.ex
  refine fn_of lk hcd S len fun A outer s H vs Q E hr hsp => ?_
  obtain ⟨t, h, q⟩ := hbody cdv A outer s H vs Q E hr hsp
  exact ⟨t, h.nox, q⟩
/-- how its arguments bind (no defaults): h is «fun _ _ _ _ _ _ us hl => match us, hl with | [_, _], _ => rfl», one _ a parameter -/
theorem Fun.binds {x qual : Str} {st : Stmt} {f : Addr} {fd : FuncData} {ps : List Str} (F : Fun K x qual st f fd)
    (h : ∀ (kV doc pm : Value) (an : Option Addr) (cdv ct : Value) (us : List Value), us.length = ps.length → bindArgs (PySem.W.fnOf x qual (defArgs st) (defBody st) (defScope st) .none kV doc pm an cdv ct) ⟨us, []⟩ = pure (ps.zip us)) : Binds K fd ps [] := by
  obtain ⟨oc, od, kV, doc, pm, an, cdv, ct, osl, rfl, lk, hcd⟩ := F.ex
  exact .all (h kV doc pm an cdv ct)
theorem fun_mk {x qual : Str} {st : Stmt} {f : Addr} {oc : Value} {od an : Option Addr} {osl : Array (Option Value)} {kV doc pm cdv ct : Value} (l : K.lookup f = some ⟨oc, od, .func (PySem.W.fnOf x qual (defArgs st) (defBody st) (defScope st) .none kV doc pm an cdv ct), osl⟩)
    (c : PySem.W.codeIn K cdv qual = true) (k : PySem.W.keepIn K (.ref f) = true) : Fun K x qual st f (PySem.W.fnOf x qual (defArgs st) (defBody st) (defScope st) .none kV doc pm an cdv ct) := ⟨⟨oc, od, kV, doc, pm, an, cdv, ct, osl, rfl, l, c⟩, k⟩
end
/-! ### expressions in short: the name that stands in the i-th slot -/
section
variable {X : Cx}
theorem pv (i : Nat) {x : Str} {pos : Pos} (hN : X.N[i]? = some x := by rfl) (hv : Vis X.env.scope x := by first | exact Or.inl rfl | exact Or.inr (Or.inl rfl) | exact Or.inr (Or.inr rfl)) (hd : (x == ("__debug__" : Str)) = false := by decide)
    (hcd : (x == ("__classdict__" : Str)) = false := by decide) : PE X (.Name x pos) (tVar i) := pe_var hN hv hd hcd
end

/-! ### tests -/
theorem iteF {A B : Prop} (h : B) : if false = true then A else B := by
  rw [if_neg Bool.false_ne_true]
  exact h
theorem iteT {A B : Prop} (h : A) : if true = true then A else B := by
  rw [if_pos rfl]
  exact h
theorem ite2 {c A B : Prop} [Decidable c] (h1 : c → A) (h2 : ¬ c → B) : if c then A else B := by
  by_cases h : c
  · rw [if_pos h]
    exact h1 h
  · rw [if_neg h]
    exact h2 h
theorem iteNS {c A B : Prop} [Decidable c] (hc : c) (h : B) : if (!decide c) = true then A else B := by
  rw [decide_eq_true hc]
  exact iteF h

/-! ### heaps -/
/-- all that was tracked is as it was -/
def Same (H H' : Hp) : Prop := ∀ b o, H b = some o → H' b = some o
theorem Same.refl (H : Hp) : Same H H := fun _ _ h => h
theorem Same.trans {H H1 H2 : Hp} (a : Same H H1) (b : Same H1 H2) : Same H H2 := fun c o h => b c o (a c o h)
theorem Same.free {H H' : Hp} (e : Same H H') {l : Addr} (h : H' l = Option.none) : H l = Option.none := by
  cases q : H l with
  | none => rfl
  | some o =>
    rw [e l o q] at h
    cases h
theorem Same.seq {K : PySem.W.Frag} {H H' : Hp} {a : Addr} {xs : List V} (e : Same H H') (h : SqL K H a xs) : SqL K H' a xs := by
  rcases h with (h | ⟨o, h⟩) | h
  · exact .inl (.inl (e _ _ h))
  · exact .inl (.inr ⟨o, e _ _ h⟩)
  · exact .inr h

end L2

/-! EXT 1: list comprehensions over the layer: a context for the block, a rule for the value, a rule for the assignment whose stores are exchanged. -/
namespace L2
open PySem PySem.Spec PyProof.Rows

/-- the block's context: entered at s (the new list is laid), its own map at C, the iterator's records at fp -/
def cxLc (X : Cx) (scope : Scope) (N : List Str) (cl : List (Str × Addr)) (C : Addr) (fp : List Addr) (s : Shared) (H : Hp) : Cx where
  prog := X.prog
  w := X.w
  K := X.K
  mg := X.mg
  base := X.base
  A := X.A
  N := N
  s₀ := s
  H₀ := H
  env := compEnvC scope cl C X.env
  outer := X.stack
  stack := X.stack
  ex := fp
  fn := fun _ => false
  calm := X.calm
  pn := []
  xe := fun _ _ => False

/-- the block's names at its entry: those that come from outside -/
def iniOf (ini : List (Option Nat)) (σ : St) : St := ini.map fun o => o.bind fun j => (σ[j]?).bind id

/-- the tests of a clause -/
def PIf (X : Cx) (ifs : List Expr) (t : TT) : Prop :=
  ∀ (pins : List (Addr × Obj)) (s : Shared) (σ : St) (H : Hp) (Q : Bool → Hp → Prop), Inv X pins σ H s → t σ H Q →
    wpAny (model X.prog X.w) X.A (forIn ifs true fun c r => if r = true then do let ok ← isTrue c X.env (eval c X.env); pure (ForInStep.yield ok) else pure (ForInStep.yield r)) (TP X pins σ Q) X.xe s
def tYes : TT := fun _ H Q => Q true H
theorem pif_nil {X : Cx} : PIf X [] tYes := fun _ _ _ H _ I h => wpAny_tests_nil ⟨H, I, h⟩
theorem pif_one {X : Cx} {c : Expr} {t : TT} (h : PT X c t) : PIf X [c] t := fun pins s σ H Q I q => wpAny_tests_one (h pins s σ H Q I q)

/-- the reading of a comprehension: D is the new list, W the word between two turns -/
def tLc (wi : TI) (ini : List (Option Nat)) (g : TG) (tc : TT) (te : TE) : TE := fun σ H Q => wi σ H fun J H1 => ∀ D, H1 D = none → ∃ W : Nat → Nat → St → Hp → Prop, (∃ m, W 0 m (iniOf ini σ) (upd H1 D (.lst []))) ∧
  ∀ i m σ' H', W i m σ' H' → (J.stop i H' ∧ Q (.ref D) H') ∨ (J.go i H' ∧ ∃ N : St → Hp → Prop, (∀ σ2 H2, N σ2 H2 → ∃ m', m' < m ∧ W (i + 1) m' σ2 H2) ∧
    ∀ x H2, J.yld i H' x H2 → g x σ' H2 fun σ3 H3 => tc σ3 H3 fun ok H4 => if ok = true then te σ3 H4 fun y H5 => ∃ ys, H5 D = some (.lst ys) ∧ ys.length < sizeLine ∧ N σ3 (upd H5 D (.lst (ys ++ [y]))) else N σ3 H4)

theorem closure_go {env : Env} : ∀ (names : List (Str × NameKind)) (acc : List (Str × Addr)),
    (∀ y ∈ names, y.2 = .free → ∃ c, env.cells.lookup y.1 = some c) →
    ∃ cl : List (Str × Addr), (forIn names acc fun (p : Str × NameKind) (cs : List (Str × Addr)) => (if (p.2 == .free) = true then do let c ← cellOf env p.1; pure (ForInStep.yield ((p.1, c) :: cs)) else pure (ForInStep.yield cs) : Sem _)) = (pure cl : Sem _) ∧
      (∀ x c, cl.lookup x = some c → acc.lookup x = some c ∨ (env.cells.lookup x = some c)) ∧ (∀ x, (x, NameKind.free) ∈ names → ∃ c, cl.lookup x = some c) ∧ (∀ x c, acc.lookup x = some c → ∃ c', cl.lookup x = some c')
  | [], acc, _ => ⟨acc, rfl, fun _ _ h => .inl h, (fun _ h => nomatch h), fun _ c h => ⟨c, h⟩⟩
  | (n, k) :: r, acc, h => by
    by_cases hk : k = .free
    · subst hk
      obtain ⟨c, hc⟩ := h (n, .free) List.mem_cons_self rfl
      obtain ⟨cl, e, h1, h2, h3⟩ := closure_go r ((n, c) :: acc) fun y hy => h y (List.mem_cons_of_mem _ hy)
      refine ⟨cl, ?_, fun x d hx => ?_, fun x hx => ?_, fun x d hx => ?_⟩
      · rw [List.forIn_cons]
        have e1 : cellOf env n = pure c := by unfold cellOf; rw [hc]
        simp only [beq_self_eq_true, if_true, e1]
        exact e
      · rcases h1 x d hx with z | z
        · rw [List.lookup_cons] at z
          by_cases hxn : x = n
          · subst hxn
            simp only [beq_self_eq_true] at z
            cases z
            exact .inr hc
          · have : (x == n) = false := beq_eq_false_iff_ne.mpr hxn
            simp only [this] at z
            exact .inl z
        · exact .inr z
      · rcases List.mem_cons.mp hx with z | z
        · cases z
          exact h3 n c (by simp [List.lookup_cons])
        · exact h2 x z
      · by_cases hxn : x = n
        · subst hxn
          exact h3 x c (by simp [List.lookup_cons])
        · have : (x == n) = false := beq_eq_false_iff_ne.mpr hxn
          exact h3 x d (by simp only [List.lookup_cons, this]; exact hx)
    · obtain ⟨cl, e, h1, h2, h3⟩ := closure_go r acc fun y hy => h y (List.mem_cons_of_mem _ hy)
      refine ⟨cl, ?_, h1, fun x hx => ?_, h3⟩
      · rw [List.forIn_cons]
        have : (k == NameKind.free) = false := beq_eq_false_iff_ne.mpr hk
        simp only [this, Bool.false_eq_true, if_false]
        exact e
      · rcases List.mem_cons.mp hx with z | z
        · cases z
          exact absurd rfl hk
        · exact h2 x z
theorem closure_ok {scope : Scope} {env : Env} (h : ∀ y ∈ scope.names, y.2 = .free → ∃ c, env.cells.lookup y.1 = some c) :
    ∃ cl : List (Str × Addr), closureFor scope env = pure cl ∧ (∀ x c, cl.lookup x = some c → env.cells.lookup x = some c) ∧ (∀ x, (x, NameKind.free) ∈ scope.names → ∃ c, cl.lookup x = some c) := by
  obtain ⟨cl, e, h1, h2, _⟩ := closure_go scope.names [] h
  refine ⟨cl, ?_, fun x c hx => (h1 x c hx).resolve_left (fun z => nomatch z), h2⟩
  unfold closureFor
  have e' : (forIn scope.names ([] : List (Str × Addr)) fun (p : Str × NameKind) (cs : List (Str × Addr)) => (match p with | (name, kind) => if (kind == .free) = true then do let c ← cellOf env name; pure (ForInStep.yield ((name, c) :: cs)) else pure (ForInStep.yield cs) : Sem _)) = (pure cl : Sem _) := e
  first
    | exact e'
    | (rw [e']; rfl)
    | (simp only [bind_pure] ; exact e')

theorem relabel_free {scope : Scope} {env : Env} {x : Str} (h : (relabel scope env).names.lookup x = some .cell ∨ (relabel scope env).names.lookup x = some .free) (hcell : ∀ y ∈ scope.names, y.2 ≠ .cell) : (x, NameKind.free) ∈ scope.names := by
  have key : ∀ (names : List (Str × NameKind)), (∀ y ∈ names, y.2 ≠ .cell) →
      ((names.map fun (n, k) => if (k == NameKind.free && env.scope.kind == .function && env.kindOf n == some .cell) then (n, NameKind.cell) else (n, k)).lookup x = some .cell ∨
       (names.map fun (n, k) => if (k == NameKind.free && env.scope.kind == .function && env.kindOf n == some .cell) then (n, NameKind.cell) else (n, k)).lookup x = some .free) → (x, NameKind.free) ∈ names := by
    intro names
    induction names with
    | nil => intro _ h; rcases h with h | h <;> simp at h
    | cons p r ih =>
      obtain ⟨n, k⟩ := p
      intro hc h
      by_cases hxn : x = n
      · subst hxn
        by_cases hk : k = .free
        · subst hk; exact List.mem_cons_self
        · exfalso
          have e : (k == NameKind.free) = false := beq_eq_false_iff_ne.mpr hk
          have hkc : k ≠ .cell := hc (x, k) List.mem_cons_self
          rcases h with h | h
          · simp only [List.map_cons, e, Bool.false_and, Bool.false_eq_true, if_false, List.lookup_cons, beq_self_eq_true] at h
            cases h; exact hkc rfl
          · simp only [List.map_cons, e, Bool.false_and, Bool.false_eq_true, if_false, List.lookup_cons, beq_self_eq_true] at h
            cases h; exact hk rfl
      · have hb : (x == n) = false := beq_eq_false_iff_ne.mpr hxn
        refine List.mem_cons_of_mem _ (ih (fun y hy => hc y (List.mem_cons_of_mem _ hy)) ?_)
        simp only [List.map_cons] at h
        split at h <;> simpa only [List.lookup_cons, hb] using h
  exact key scope.names hcell h

/-- a free name of the block is a cell or a free name there -/
theorem relabel_look {scope : Scope} {env : Env} {x : Str} (h : scope.names.lookup x = some .free) : (relabel scope env).names.lookup x = some .cell ∨ (relabel scope env).names.lookup x = some .free := by
  have key : ∀ (names : List (Str × NameKind)), names.lookup x = some .free →
      ((names.map fun (n, k) => if (k == NameKind.free && env.scope.kind == .function && env.kindOf n == some .cell) then (n, NameKind.cell) else (n, k)).lookup x = some .cell ∨
       (names.map fun (n, k) => if (k == NameKind.free && env.scope.kind == .function && env.kindOf n == some .cell) then (n, NameKind.cell) else (n, k)).lookup x = some .free) := by
    intro names
    induction names with
    | nil => intro h; simp at h
    | cons p r ih =>
      obtain ⟨n, k⟩ := p
      intro h
      by_cases hxn : x = n
      · subst hxn
        simp only [List.lookup_cons, beq_self_eq_true] at h
        cases h
        simp only [List.map_cons]
        split
        · exact .inl (by simp only [List.lookup_cons, beq_self_eq_true])
        · exact .inr (by simp only [List.lookup_cons, beq_self_eq_true])
      · have hb : (x == n) = false := beq_eq_false_iff_ne.mpr hxn
        simp only [List.lookup_cons, hb] at h
        simp only [List.map_cons]
        have := ih h
        split <;> simpa only [List.lookup_cons, hb] using this
  exact key scope.names h

/-- what the text must show of a comprehension's scope -/
structure LcScope (X : Cx) (scope : Scope) (N : List Str) (ini : List (Option Nat)) : Prop where
  kind : scope.kind = .function
  cell : ∀ y ∈ scope.names, y.2 ≠ .cell
  names : ∀ y ∈ scope.names, y.2 = .local → scope.names.lookup y.1 = some .local
  free : ∀ y ∈ scope.names, y.2 = .free → X.env.kindOf y.1 = some .cell ∨ X.env.kindOf y.1 = some .free
  len : ini.length = N.length
  out : ∀ (i j : Nat) (x : Str), ini[i]? = some (some j) → N[i]? = some x → X.N[j]? = some x ∧ scope.names.lookup x = some .free

section
variable {X : Cx} {pins : List (Addr × Obj)} {σ : St} {H : Hp} {s : Shared}

/-- an object of ours that nothing tracks has changed -/
theorem Inv.sameBut {C : Addr} {h' : Heap} (I : Inv X pins σ H s) (hs : Heap.SameBut C s.heap h') (hn : H C = none) (hL : C ≠ X.env.locals)
    (h1 : X.s₀.heap.objs.size ≤ C) (h2 : ∀ x c, X.env.cells.lookup x = some c → c ≠ C) (h3 : ∀ p ∈ X.pn ++ pins, p.1 ≠ C) : Inv X pins σ H { s with heap := h' } :=
  I.turned (t' := s.toks) (it := C) (fun b o hb e => (hs.2 b hb).trans e) hn hL (.inr h1) h2 h3

/-- the block is entered -/
theorem lc_start {scope : Scope} {N : List Str} {ini : List (Option Nat)} {cl : List (Str × Addr)} {fp : List Addr} {h1 : Heap} {t : Nat} {m : Str → Option Value} (S : LcScope X scope N ini) (I : Inv X pins σ H s) (hf : ∀ b ∈ fp, FpOk X pins H b)
    (hfo : ∀ b ∈ fp, ∃ o, s.heap.get? b = some o) (hcl : ∀ x c, cl.lookup x = some c → X.env.cells.lookup x = some c) (hcl2 : ∀ x, (x, NameKind.free) ∈ scope.names → ∃ c, cl.lookup x = some c)
    (hk : ∀ b o, s.heap.get? b = some o → h1.get? b = some o) (hns : h1.Ns s.heap.objs.size m) :
    Inv (cxLc X scope N cl s.heap.objs.size fp s H) [] (iniOf ini σ) H { s with heap := h1, toks := t } := by
  have below : ∀ b o, s.heap.get? b = some o → b ≠ s.heap.objs.size := fun b o e => Nat.ne_of_lt (Heap.lt_size e)
  refine ⟨⟨I.ok.mod, S.kind, I.ok.glob, I.ok.blt, Nat.le_refl _, fun x y c e1 e2 => I.ok.inj x y c (hcl x c e1) (hcl y c e2), fun x hx => ?_, (fun x c z => nomatch z), I.ok.hd, I.ok.frames, .inl rfl, fun b hb => ?_, I.bs, Nat.le_trans I.ok.bsz I.sz, fun b o e hb => ?_, fun b hb hb2 => ?_, I.stack, I.stkFree⟩,
    rfl, I.bare, Un.kept hk, ⟨m, hns, fun i x v e1 e2 e3 => ?_⟩, fun x c e => ?_, I.hok.fresh (Nat.le_refl _), fun x c e => I.freeC x c (hcl x c e), fun p hp => ?_, I.hok.kept hk, ?_⟩
  · exact hcl2 x (relabel_free hx S.cell)
  · obtain ⟨o, ho⟩ := hfo b hb
    exact ⟨below b o ho, fun x c e => (hf b hb).2.2.2.2.1 x c (hcl x c e)⟩
  · rcases (hf b hb).2.2.2.1 with z | z
    · exact I.ok.noex b o e z
    · exact absurd (Nat.lt_of_lt_of_le (Heap.lt_size (I.ok.bs b o e).1) z) (Nat.lt_irrefl _)
  · rcases List.mem_cons.mp (I.stkSub b hb2) with z | z
    · exact (hf b hb).2.1 z
    · exact (hf b hb).2.2.1 z
  · have e1' : N[i]? = some x := e1
    unfold iniOf at e2
    rw [List.getElem?_map] at e2
    cases q : ini[i]? with
    | none => rw [q] at e2; cases e2
    | some o =>
      rw [q] at e2
      cases o with
      | none => cases e2
      | some j =>
        have e2' : (σ[j]?).bind id = some v := Option.some.inj e2
        have hs : σ[j]? = some (some v) := by
          cases r : σ[j]? with
          | none => rw [r] at e2'; cases e2'
          | some z => rw [r] at e2'; exact congrArg some e2'
        obtain ⟨n1, n2⟩ := S.out i j x q e1'
        have hfree : (x, NameKind.free) ∈ scope.names := PySem.mem_of_lookup n2
        have kx := S.free _ hfree rfl
        obtain ⟨m0, hn0, hl0⟩ := I.loc
        obtain ⟨u, r, l⟩ := hl0 j x v n1 hs (by rcases kx with z | z; exact .inr (.inl z); exact .inr (.inr z))
        refine ⟨u, r, .inr ⟨relabel_look n2, ?_⟩⟩
        rcases l with ⟨z, _⟩ | ⟨_, c, e, z⟩
        · exfalso
          rcases kx with y | y <;> · rw [y] at z; cases z
        · obtain ⟨c', e'⟩ := hcl2 x hfree
          have : c' = c := by
            have := hcl x c' e'
            rw [e] at this
            exact (Option.some.inj this).symm
          subst this
          obtain ⟨oc, hoc, hd⟩ := z
          exact ⟨c', e', oc, hk _ _ hoc, hd⟩
  · obtain ⟨v, oc, hoc, hd⟩ := I.cell x c (hcl x c e)
    exact ⟨v, oc, hk _ _ hoc, hd⟩
  · exact absurd (show p ∈ ([] : List (Addr × Obj)) from hp) (by simp)
  · unfold iniOf
    rw [List.length_map]
    exact S.len
end
end L2

namespace L2
open PySem PySem.Spec PyProof.Rows
section
variable {prog : Program} {w : World} {A : Around} {R : Result → Shared → Prop} {s : Shared}
theorem comp_loop {elt target iter : Expr} {ifs : List Expr} {scope : Scope} {pos : Pos} {it acc : Value} {env : Env} (I : Nat → Shared → Prop)
    (turn : ∀ n s, I n s → wpAny (model prog w) A (pyNext it) (fun r s₁ => match r with
      | none => R (.ok .next) s₁
      | some v => wpAny (model prog w) A (letOwnedTupleGo target it v) (fun _ s₁' => wpAny (model prog w) A (assign target env v) (fun _ s₂ =>
          wpAny (model prog w) A (forIn ifs true fun c r => if r = true then do let ok ← isTrue c env (eval c env); pure (ForInStep.yield ok) else pure (ForInStep.yield r)) (fun ok s₃ =>
            if ok = true then wpAny (model prog w) A (eval elt env) (fun x s₄ =>
              wpAny (model prog w) A (call (.builtin "list.append") [acc, x]) (fun _ s₅ => ∃ m, m < n ∧ I m s₅) (fun _ _ => False) s₄) (fun _ _ => False) s₃
            else ∃ m, m < n ∧ I m s₃) (fun _ _ => False) s₂) (fun _ _ => False) s₁') (fun _ _ => False) s₁) (fun _ _ => False) s)
    (n : Nat) (h : I n s) :
    codeAny (model prog w) A (.compLoop (.ListComp elt [⟨target, iter, ifs, 0⟩] scope pos) 0 it acc env) R s := by
  refine codeAny_loop rfl I (fun n s hI => ?_) n h
  show wpAny _ A ((compTurn (.ListComp elt [⟨target, iter, ifs, 0⟩] scope pos) 0 it acc env).onRaise (fun x => do noteFrame x env; theTreesLotGoes x)) _ _ s
  refine wpAny_noted ?_
  rw [compTurn_list]
  refine wpAny_bind (wpAny_standAt (wpAny_bind (wpAny_mono (turn n s hI) (fun r s₁ h₁ => ?_) fun _ _ h' => h'.elim)))
  cases r with
  | none => exact wpAny_pure h₁
  | some v =>
    refine wpAny_bind (wpAny_mono h₁ (fun _ s₁' h₁' => ?_) fun _ _ h' => h'.elim)
    refine wpAny_bind (wpAny_mono h₁' (fun _ s₂ h₂ => wpAny_bind (wpAny_mono h₂ (fun ok s₃ h₃ => ?_) fun _ _ h' => h'.elim)) fun _ _ h' => h'.elim)
    cases ok with
    | false => exact wpAny_pure ⟨rfl, h₃⟩
    | true =>
      exact wpAny_bind (wpAny_bind (wpAny_mono h₃ (fun x s₄ h₄ => wpAny_bind (wpAny_mono h₄ (fun _ s₅ h₅ => wpAny_pure (wpAny_pure ⟨rfl, h₅⟩)) fun _ _ h' => h'.elim)) fun _ _ h' => h'.elim))
end

section
variable {X : Cx} {elt tg iter : Expr} {ifs : List Expr} {scope : Scope} {wi : TI} {g : TG} {tc : TT} {te : TE} {N : List Str} {ini : List (Option Nat)} {pos : Pos}

/-- what the end of a block leaves of its map at C -/
structure Gone (X : Cx) (pins : List (Addr × Obj)) (H : Hp) (h : Heap) (C : Addr) : Prop where
  ns : ∃ m, h.Ns C m
  fr : H C = none
  ne : C ≠ X.env.locals
  up : X.s₀.heap.objs.size ≤ C
  ce : ∀ x c, X.env.cells.lookup x = some c → c ≠ C
  pi : ∀ p ∈ X.pn ++ pins, p.1 ≠ C

theorem lc_run {pins : List (Addr × Obj)} {σ : St} {H2 : Hp} {s2 : Shared} {cl : List (Str × Addr)} {it : Addr} {fp : List Addr} {tn : Nat → Heap → Prop} {J : It} {Q : VK} {RR : Value → Addr → Result → Shared → Prop} (S : LcScope X scope N ini) (hc : X.calm = true)
    (hg : ∀ cl C fp s H, PG (cxLc X scope N cl C fp s H) tg g) (hif : ∀ cl C fp s H, PIf (cxLc X scope N cl C fp s H) ifs tc) (he : ∀ cl C fp s H, PE (cxLc X scope N cl C fp s H) elt te)
    (hcl : ∀ x c, cl.lookup x = some c → X.env.cells.lookup x = some c) (hcl2 : ∀ x, (x, NameKind.free) ∈ scope.names → ∃ c, cl.lookup x = some c)
    (I2 : Inv X pins σ H2 s2) (T : Turn X.prog X.w X.K tg J fp it tn) (st2 : tn 0 s2.heap) (f2 : ∀ b ∈ fp, FpOk X pins H2 b)
    (hW : ∀ D, H2 D = none → ∃ W : Nat → Nat → St → Hp → Prop, (∃ m, W 0 m (iniOf ini σ) (upd H2 D (.lst []))) ∧
      ∀ i m σ' H', W i m σ' H' → (J.stop i H' ∧ Q (.ref D) H') ∨ (J.go i H' ∧ ∃ N : St → Hp → Prop, (∀ σ2 H2, N σ2 H2 → ∃ m', m' < m ∧ W (i + 1) m' σ2 H2) ∧
        ∀ x H2, J.yld i H' x H2 → g x σ' H2 fun σ3 H3 => tc σ3 H3 fun ok H4 => if ok = true then te σ3 H4 fun y H5 => ∃ ys, H5 D = some (.lst ys) ∧ ys.length < sizeLine ∧ N σ3 (upd H5 D (.lst (ys ++ [y]))) else N σ3 H4))
    (fin : ∀ D C s' H', Inv X pins σ H' s' → Gone X pins H' s'.heap C → Q (.ref D) H' → RR (.ref D) C (.ok .next) s') :
    wpAny (model X.prog X.w) X.A (newList []) (fun acc s₃ => wpAny (model X.prog X.w) X.A (newFunctionEnv scope X.env.globals cl [] X.env.qual none .none (some X.env)) (fun cenv s₄ =>
      codeAny (model X.prog X.w) X.A (.compStart (.ListComp elt [⟨tg, iter, ifs, 0⟩] scope pos) 0 (.ref it) acc { cenv with scope := relabel scope X.env }) (RR acc cenv.locals) s₄) X.xe s₃) X.xe s2 := by
  refine wpAny_newObj_type (wpAny_newFunctionEnv S.cell (by intro y hy; simp at hy) (fun h₁ hns₁ hsb₁ => ?_) S.kind)
  dsimp only at hns₁ hsb₁ ⊢
  have hD0 : H2 s2.heap.objs.size = none := I2.hok.fresh (Nat.le_refl _)
  have I3 : Inv X pins σ (upd H2 s2.heap.objs.size (.lst [])) { s2 with heap := s2.heap.push { cls := .type "list", dict := none, data := .seq ([] : List Value).toArray } } := I2.lnew (its := []) (ys := []) (t' := s2.toks) .nil (Nat.zero_le _)
  generalize hs3 : ({ s2 with heap := s2.heap.push { cls := .type "list", dict := none, data := .seq ([] : List Value).toArray } } : Shared) = s3 at I3
  have eh : s2.heap.push { cls := .type "list", dict := none, data := .seq ([] : List Value).toArray } = s3.heap := by rw [← hs3]
  rw [eh] at hns₁ hsb₁
  have up2 : ∀ b o, s2.heap.get? b = some o → s3.heap.get? b = some o := fun b o e => by rw [← eh]; exact Heap.get?_push_of_some _ e
  have hk : ∀ b o, s3.heap.get? b = some o → h₁.get? b = some o := fun b o e => (hsb₁.2 b (Nat.ne_of_lt (Heap.lt_size e))).trans (Heap.get?_push_of_some _ e)
  have f3 : ∀ b ∈ fp, FpOk X pins (upd H2 s2.heap.objs.size (.lst [])) b := fun b hb => by
    obtain ⟨o, ho, _⟩ := T.obj _ _ st2 b hb
    exact ⟨by rw [upd_ne (Nat.ne_of_lt (Heap.lt_size ho))]; exact (f2 b hb).1, (f2 b hb).2⟩
  have I4 := lc_start (t := s3.toks) S I3 f3 (fun b hb => let ⟨o, ho, _⟩ := T.obj _ _ st2 b hb; ⟨o, up2 b o ho⟩) hcl hcl2 hk hns₁
  obtain ⟨W, ⟨m0, w0⟩, turn⟩ := hW s2.heap.objs.size hD0
  have st4 : tn 0 h₁ := T.keep _ _ _ st2 fun b _ o e => hk b o (up2 b o e)
  have stat : ∀ {H' : Hp}, (∀ b ∈ fp, H' b = none) → ∀ b ∈ fp, FpOk (cxLc X scope N cl s3.heap.objs.size fp s3 (upd H2 s2.heap.objs.size (.lst []))) [] H' b := fun {H'} hn b hb =>
    ⟨hn b hb, (I4.ok.exf b hb).1, I4.ok.exfs b hb, .inl hb, (I4.ok.exf b hb).2, fun p hp => absurd (show p ∈ ([] : List (Addr × Obj)) from hp) (by simp)⟩
  have loop : ∀ s4 : Shared, Inv (cxLc X scope N cl s3.heap.objs.size fp s3 (upd H2 s2.heap.objs.size (.lst []))) [] (iniOf ini σ) (upd H2 s2.heap.objs.size (.lst [])) s4 → tn 0 s4.heap →
      codeAny (model X.prog X.w) X.A (.compLoop (.ListComp elt [⟨tg, iter, ifs, 0⟩] scope pos) 0 (.ref it) (.ref s2.heap.objs.size) (compEnvC scope cl s3.heap.objs.size X.env)) (RR (.ref s2.heap.objs.size) s3.heap.objs.size) s4 := by
    intro s4 I4 st4
    refine comp_loop (fun n s' => ∃ i σ' H', Inv (cxLc X scope N cl s3.heap.objs.size fp s3 (upd H2 s2.heap.objs.size (.lst []))) [] σ' H' s' ∧ tn i s'.heap ∧ (∀ b ∈ fp, H' b = none) ∧ W i n σ' H') ?_ m0 ⟨0, _, _, I4, st4, fun b hb => (f3 b hb).1, w0⟩
    rintro n s5 ⟨i, σ5, H5, I5, st5, fr5, w5⟩
    rcases turn i n σ5 H5 w5 with ⟨stop, qn⟩ | ⟨go, NN, hNN, step⟩
    · refine thn (T.done (cxLc X scope N cl s3.heap.objs.size fp s3 (upd H2 s2.heap.objs.size (.lst []))) rfl rfl rfl hc i [] s5 σ5 H5 _ I5 (stat fr5) st5 stop) fun r s6 ⟨hr, I6⟩ => ?_
      subst hr
      have I6' : Inv X pins σ H5 s6 := I3.call' (ch := fp) I6.os I6.base I6.hok I6.bare fun b hb => ⟨(f3 b hb).2.2.2.1, (f3 b hb).2.1, (f3 b hb).2.2.2.2.1, (f3 b hb).2.2.2.2.2⟩
      refine fin _ _ s6 H5 I6' ⟨let ⟨m, hn, _⟩ := I6.loc; ⟨m, hn⟩, I6.free, ?_, I3.sz, fun x c e z => ?_, fun p hp z => ?_⟩ qn
      · exact Ne.symm (Nat.ne_of_lt I3.lt)
      · obtain ⟨v, oc, hoc, _⟩ := I3.cell x c e
        exact Nat.ne_of_lt (Heap.lt_size hoc) z
      · exact Nat.ne_of_lt (Heap.lt_size (I3.pin p hp).1) z
    · refine thn (T.item (cxLc X scope N cl s3.heap.objs.size fp s3 (upd H2 s2.heap.objs.size (.lst []))) rfl rfl rfl hc i [] s5 σ5 H5 _ I5 (stat fr5) st5 go) fun r s6 ⟨u, hr, h6⟩ => ?_
      subst hr
      refine thn h6 fun _ s7 ⟨x, H7, I7, r7, y7, st7, fr7⟩ => ?_
      have I7' := I7.pinned (stat fr7) (T.obj _ _ st7)
      have back : ∀ {σ9 : St} {H9 : Hp} {s9 : Shared}, Inv (cxLc X scope N cl s3.heap.objs.size fp s3 (upd H2 s2.heap.objs.size (.lst []))) ([] ++ pinsAt fp s7.heap) σ9 H9 s9 → NN σ9 H9 →
          ∃ m, m < n ∧ ∃ i σ' H', Inv (cxLc X scope N cl s3.heap.objs.size fp s3 (upd H2 s2.heap.objs.size (.lst []))) [] σ' H' s9 ∧ tn i s9.heap ∧ (∀ b ∈ fp, H' b = none) ∧ W i m σ' H' := fun {σ9 H9 s9} I9 n9 => by
        obtain ⟨m', hm, w9⟩ := hNN σ9 H9 n9
        refine ⟨m', hm, i + 1, σ9, H9, I9.unpinned, T.keep _ _ _ st7 fun b hb o e => (I9.pin (b, o) (List.mem_append_right _ (List.mem_append_right _ (mem_pinsAt hb e)))).1, fun b hb => ?_, w9⟩
        obtain ⟨o, e, d⟩ := T.obj _ _ st7 b hb
        exact (I9.pin (b, o) (List.mem_append_right _ (List.mem_append_right _ (mem_pinsAt hb e)))).2.1
      refine thn (hg _ _ _ _ _ _ s7 σ5 H7 x u _ I7' r7 (step x H7 y7)) fun _ s8 ⟨σ8, H8, I8, q8⟩ => ?_
      refine thn (hif _ _ _ _ _ _ s8 σ8 H8 _ I8 q8) fun ok s9 ⟨H9, I9, q9⟩ => ?_
      cases ok with
      | false =>
        rw [if_neg Bool.false_ne_true] at q9 ⊢
        exact back I9 q9
      | true =>
        rw [if_pos rfl] at q9 ⊢
        refine thn (he _ _ _ _ _ _ s9 σ8 H9 _ I9 q9) fun y s10 ⟨yv, H10, I10, r10, ys, hys, hlt, q10⟩ => ?_
        refine thn (mt_append _ s10 σ8 H10 (.ref s2.heap.objs.size) [yv] (.ref s2.heap.objs.size) [y] (fun _ H' => NN σ8 H') I10 rfl (.cons r10 .nil) ⟨_, ys, yv, rfl, rfl, hys, hlt, q10⟩) fun _ s11 ⟨v11, H11, I11, _, q11⟩ => ?_
        exact back I11 q11
  have e0 : ({ s2 with heap := h₁, toks := s2.toks + ([] : List (Str × Value)).length } : Shared) = { s3 with heap := h₁, toks := s3.toks } := by rw [← hs3]; rfl
  have L0 := loop _ I4 st4
  rw [← e0] at L0
  have es : s3.heap.objs.size = (s2.heap.push { cls := .type "list", dict := none, data := .seq ([] : List Value).toArray }).objs.size := by rw [eh]
  rw [es] at L0
  exact codeAny_compStart_list L0 (T.self _ 0 _ _ _ st4 L0)

/-- [e for t in i if c ..] -/
theorem pe_lc (N : List Str) (ini : List (Option Nat)) (hc : X.calm = true) (S : LcScope X scope N ini) (hi : PI X tg iter wi) (hg : ∀ cl C fp s H, PG (cxLc X scope N cl C fp s H) tg g) (hif : ∀ cl C fp s H, PIf (cxLc X scope N cl C fp s H) ifs tc)
    (he : ∀ cl C fp s H, PE (cxLc X scope N cl C fp s H) elt te) (hs : ∀ x, foldedSetIterable iter X.env x = pure x := by intro _; rfl) : PE X (.ListComp elt [⟨tg, iter, ifs, 0⟩] scope pos) (tLc wi ini g tc te) := by
  intro pins s σ H Q I h
  obtain ⟨cl, ecl, hcl, hcl2⟩ := closure_ok (scope := scope) (env := X.env) fun y hy hf => I.ok.has y.1 (S.free y hy hf)
  rw [eval_ListComp]
  refine wpAny_comprehension_free (use := none) rfl hs ecl S.kind S.names (thn (hi pins s σ H _ I h) fun v s1 h1 => thn h1 fun itv s2 h2 => ?_)
  obtain ⟨it, fp, tn, J, H2, e, I2, T, st2, f2, hW⟩ := h2
  subst e
  refine lc_run (RR := fun acc C => compPost (model X.prog X.w) X.A X.xe none (EP X pins σ Q) acc C) S hc hg hif he hcl hcl2 I2 T st2 f2 hW fun D C s' H' I' G q => ?_
  obtain ⟨m, hn⟩ := G.ns
  exact ⟨m, hn, fun h' hs' => ⟨.ref D, H', I'.sameBut hs' G.fr G.ne G.up G.ce G.pi, rfl, q⟩⟩

/-- x = [e for t in i if c ..], the stores exchanged -/
theorem ps_setLc {i : Nat} {y : Str} {py spos : Pos} (N : List Str) (ini : List (Option Nat)) (hc : X.calm = true) (S : LcScope X scope N ini) (hN : X.N.Nodup) (hy : X.N[i]? = some y) (hx : Loc X.env.scope y) (hi : PI X tg iter wi) (hg : ∀ cl C fp s H, PG (cxLc X scope N cl C fp s H) tg g)
    (hif : ∀ cl C fp s H, PIf (cxLc X scope N cl C fp s H) ifs tc) (he : ∀ cl C fp s H, PE (cxLc X scope N cl C fp s H) elt te)
    (hsw : swapsWith (.ListComp elt [⟨tg, iter, ifs, 0⟩] scope pos) (some (.Name y py)) spos.line X.env = pure true := by rfl) (hs : ∀ x, foldedSetIterable iter X.env x = pure x := by intro _; rfl)
    (hf : X.fn y = true ∨ X.env.scope.names.lookup y = some .local := by first | exact .inl rfl | exact .inr rfl | assumption) :
    PS X (.Assign [.Name y py] (.ListComp elt [⟨tg, iter, ifs, 0⟩] scope pos) spos) (tAsg (tLc wi ini g tc te) (gName i)) := by
  intro pins s σ H D0 I h
  obtain ⟨cl, ecl, hcl, hcl2⟩ := closure_ok (scope := scope) (env := X.env) fun y hy hf => I.ok.has y.1 (S.free y hy hf)
  rw [exec_Assign_Name_used _ _ _ _ hsw]
  refine wpAny_bind (wpAny_standAt (wpAny_bind ?_))
  show wpAny _ X.A (do let _ ← comprehension (.ListComp elt [⟨tg, iter, ifs, 0⟩] scope pos) scope X.env _ (newList []) false (eval iter X.env) (some (assign (.Name y py) X.env))) _ _ s
  refine wpAny_bind (wpAny_mono (wpAny_comprehension_free (use := some (assign (.Name y py) X.env)) (Q := fun _ s' => SP X pins D0 .next s') rfl hs ecl S.kind S.names
    (thn (hi pins s σ H _ I h) fun v s1 h1 => thn h1 fun itv s2 h2 => ?_)) (fun _ s' hq => wpAny_pure (wpAny_pure hq)) fun _ _ e => e)
  obtain ⟨it, fp, tn, J, H2, e, I2, T, st2, f2, hW⟩ := h2
  subst e
  refine lc_run (Q := fun v H' => gName i v σ H' D0.nx) (RR := fun acc C => compPost (model X.prog X.w) X.A X.xe (some (assign (.Name y py) X.env)) (fun _ s' => SP X pins D0 .next s') acc C) S hc hg hif he hcl hcl2 I2 T st2 f2 hW fun D C s' H' I' G q => ?_
  obtain ⟨m, hn⟩ := G.ns
  refine wpAny_assign_Name (store_ok2 (v := .ref D) (u := .ref D) I' hN hy hx rfl (fun s'' I'' ⟨a, hsa, ha⟩ => ?_) hf)
  have hCa : C ≠ a := by
    rcases ha with z | z
    · rw [z]; exact G.ne
    · exact (G.ce _ _ z).symm
  exact ⟨m, hn.sameBut hsa hCa, fun h' hs' => ⟨_, H', I''.sameBut hs' G.fr G.ne G.up G.ce G.pi, q⟩⟩
end

/-! ### the forms one uses -/
/-- over a list that the block leaves as it is: Pv (turn, names, heap) with the new list within -/
theorem lc_list {K : PySem.W.Frag} {a D : Addr} {xs : List V} {g : TG} {tc : TT} {te : TE} {R : Hp → Prop} {σ : St} {H : Hp} (Pv : Nat → St → Hp → Prop) (h0 : Pv 0 σ H) (hl : ∀ i σ H, i ≤ xs.length → Pv i σ H → SqL K H a xs)
    (hs : ∀ i x σ H, xs[i]? = some x → Pv i σ H → g x σ H fun σ3 H3 => tc σ3 H3 fun ok H4 => if ok = true then te σ3 H4 fun y H5 => ∃ ys, H5 D = some (.lst ys) ∧ ys.length < sizeLine ∧ Pv (i + 1) σ3 (upd H5 D (.lst (ys ++ [y]))) else Pv (i + 1) σ3 H4)
    (hd : ∀ σ H, Pv xs.length σ H → R H) :
    ∃ W : Nat → Nat → St → Hp → Prop, (∃ m, W 0 m σ H) ∧
      ∀ i m σ' H', W i m σ' H' → ((Itl K a).stop i H' ∧ R H') ∨ ((Itl K a).go i H' ∧ ∃ N : St → Hp → Prop, (∀ σ2 H2, N σ2 H2 → ∃ m', m' < m ∧ W (i + 1) m' σ2 H2) ∧
        ∀ x H2, (Itl K a).yld i H' x H2 → g x σ' H2 fun σ3 H3 => tc σ3 H3 fun ok H4 => if ok = true then te σ3 H4 fun y H5 => ∃ ys, H5 D = some (.lst ys) ∧ ys.length < sizeLine ∧ N σ3 (upd H5 D (.lst (ys ++ [y]))) else N σ3 H4) := by
  refine ⟨fun i m σ' H' => m = xs.length - i ∧ i ≤ xs.length ∧ Pv i σ' H', ⟨_, rfl, Nat.zero_le _, h0⟩, ?_⟩
  rintro i m σ' H' ⟨rfl, hi, p⟩
  have q := hl i σ' H' hi p
  by_cases he : i = xs.length
  · subst he
    exact .inl ⟨⟨xs, q, Nat.le_refl _⟩, hd _ _ p⟩
  · have hlt : i < xs.length := by omega
    obtain ⟨x, hx⟩ : ∃ x, xs[i]? = some x := ⟨_, List.getElem?_eq_getElem hlt⟩
    refine .inr ⟨⟨xs, x, q, hx⟩, Pv (i + 1), fun σ2 H2 p2 => ⟨xs.length - (i + 1), by omega, rfl, hlt, p2⟩, ?_⟩
    rintro y H2 ⟨rfl, hy⟩
    have := hy xs q
    rw [hx] at this
    cases this
    exact hs i _ σ' _ hx p
theorem lc_range {lo : Int} {n : Nat} {D : Addr} {g : TG} {tc : TT} {te : TE} {R : Hp → Prop} {σ : St} {H : Hp} (Pv : Nat → St → Hp → Prop) (h0 : Pv 0 σ H)
    (hs : ∀ i σ H, i < n → Pv i σ H → g (.int (lo + i)) σ H fun σ3 H3 => tc σ3 H3 fun ok H4 => if ok = true then te σ3 H4 fun y H5 => ∃ ys, H5 D = some (.lst ys) ∧ ys.length < sizeLine ∧ Pv (i + 1) σ3 (upd H5 D (.lst (ys ++ [y]))) else Pv (i + 1) σ3 H4)
    (hd : ∀ σ H, Pv n σ H → R H) :
    ∃ W : Nat → Nat → St → Hp → Prop, (∃ m, W 0 m σ H) ∧
      ∀ i m σ' H', W i m σ' H' → ((Itr lo n).stop i H' ∧ R H') ∨ ((Itr lo n).go i H' ∧ ∃ N : St → Hp → Prop, (∀ σ2 H2, N σ2 H2 → ∃ m', m' < m ∧ W (i + 1) m' σ2 H2) ∧
        ∀ x H2, (Itr lo n).yld i H' x H2 → g x σ' H2 fun σ3 H3 => tc σ3 H3 fun ok H4 => if ok = true then te σ3 H4 fun y H5 => ∃ ys, H5 D = some (.lst ys) ∧ ys.length < sizeLine ∧ N σ3 (upd H5 D (.lst (ys ++ [y]))) else N σ3 H4) := by
  refine ⟨fun i m σ' H' => m = n - i ∧ i ≤ n ∧ Pv i σ' H', ⟨_, rfl, Nat.zero_le _, h0⟩, ?_⟩
  rintro i m σ' H' ⟨rfl, hi, p⟩
  by_cases he : i = n
  · subst he
    exact .inl ⟨Nat.le_refl _, hd _ _ p⟩
  · have hlt : i < n := by omega
    refine .inr ⟨hlt, Pv (i + 1), fun σ2 H2 p2 => ⟨n - (i + 1), by omega, rfl, hlt, p2⟩, ?_⟩
    rintro y H2 ⟨rfl, rfl⟩
    exact hs i σ' _ hlt p
end L2

namespace L2
open PySem PySem.Spec PyProof.Rows
/-- what a text's tables say of a comprehension's scope -/
def lcOk (DN : List (Str × NameKind)) (XN : List Str) (scope : Scope) (N : List Str) (ini : List (Option Nat)) : Bool :=
  scope.names.all (fun y => y.2 != .cell) && (scope.names.all (fun y => y.2 != .local || scope.names.lookup y.1 == some .local) && (scope.names.all (fun y => y.2 != .free || (DN.lookup y.1 == some .cell || DN.lookup y.1 == some .free)) &&
    (decide (ini.length = N.length) && (ini.zip N).all fun z => match z.1 with
      | none => true
      | some j => XN[j]? == some z.2 && scope.names.lookup z.2 == some .free)))
theorem lc_of {X : Cx} {scope : Scope} {N : List Str} {ini : List (Option Nat)} (DN : List (Str × NameKind)) (XN : List Str) (hk : ∀ x, X.env.kindOf x = DN.lookup x) (hN : X.N = XN) (hs : scope.kind = .function) (h : lcOk DN XN scope N ini = true) : LcScope X scope N ini := by
  unfold lcOk at h
  simp only [Bool.and_eq_true, List.all_eq_true] at h
  obtain ⟨h1, h2, h3, h4, h5⟩ := h
  refine ⟨hs, fun y hy e => ?_, fun y hy e => ?_, fun y hy e => ?_, of_decide_eq_true h4, fun i j x e1 e2 => ?_⟩
  · have := h1 y hy
    rw [e] at this
    exact absurd this (by decide)
  · have := h2 y hy
    rw [e] at this
    simpa using this
  · have := h3 y hy
    rw [e] at this
    rw [hk]
    simpa using this
  · have hm : (some j, x) ∈ ini.zip N := by
      refine List.mem_of_getElem? (i := i) ?_
      rw [List.getElem?_zip_eq_some]
      exact ⟨e1, e2⟩
    have := h5 _ hm
    simp only [Bool.and_eq_true, beq_iff_eq] at this
    rw [hN]
    exact this
/-- a name of a comprehension's own -/
theorem pg_lc {X : Cx} {scope : Scope} {N : List Str} {cl : List (Str × Addr)} {C : Addr} {fp : List Addr} {s : Shared} {H : Hp} {x : Str} {pos : Pos} (i : Nat) (hN : N.Nodup) (hi : N[i]? = some x := by rfl)
    (hx : Loc (relabel scope X.env) x := by first | exact Or.inl rfl | exact Or.inr rfl) (hf : (relabel scope X.env).names.lookup x = some .local := by rfl) : PG (cxLc X scope N cl C fp s H) (.Name x pos) (gName i) :=
  pg_name (i := i) hN hi hx (.inr hf)
end L2

namespace L2
open PySem PySem.Spec PyProof.Rows
theorem yesT {P R : Hp → Prop} {σ : St} {H : Hp} (h : P H) : tYes σ H (fun ok H4 => if ok = true then P H4 else R H4) := by
  show if true = true then P H else R H
  rw [if_pos rfl]
  exact h
theorem yesG {i : Nat} {v : V} {σ : St} {H : Hp} {P R : St → Hp → Prop} (h : P (σ.set i (some v)) H) : gName i v σ H (fun σ3 H3 => tYes σ3 H3 fun ok H4 => if ok = true then P σ3 H4 else R σ3 H4) := by
  show if true = true then P (σ.set i (some v)) H else R (σ.set i (some v)) H
  rw [if_pos rfl]
  exact h
/-- for the use within a comprehension: the relation named by K alone -/
def rListOf (K : PySem.W.Frag) : List V → Hp → VK → Prop := fun xs H Q => ∃ p ys, xs = [.ref p] ∧ (SqL K H p ys ∨ SqT K H p ys) ∧ ∀ l, H l = none → Q (.ref l) (upd H l (.lst ys))
theorem call_list_K {X : Cx} : CallR X (.type "list") (rListOf X.K) := call_list_of
end L2

/-! EXT 2: data of any depth compared; isinstance; nested lists of ints as they stand in the abstract heap. -/
namespace L2
open PySem PySem.Spec PyProof.Rows

mutual
/-- a value as data, read off the abstract heap -/
inductive Dat (K : PySem.W.Frag) (H : Hp) : V → PyData → Prop where
  | non : Dat K H .non .none
  | bl (b : Bool) : Dat K H (.bl b) (.bool b)
  | int (i : Int) : Dat K H (.int i) (.int i)
  | str (x : Str) : Dat K H (.str x) (.str x)
  | lst {a : Addr} {xs : List V} {ds : List PyData} : SqL K H a xs → DatAll K H xs ds → Dat K H (.ref a) (.list ds)
  | tup {a : Addr} {xs : List V} {ds : List PyData} : SqT K H a xs → DatAll K H xs ds → Dat K H (.ref a) (.tuple ds)
inductive DatAll (K : PySem.W.Frag) (H : Hp) : List V → List PyData → Prop where
  | nil : DatAll K H [] []
  | cons {x : V} {d : PyData} {xs : List V} {ds : List PyData} : Dat K H x d → DatAll K H xs ds → DatAll K H (x :: xs) (d :: ds)
end

section
variable {X : Cx} {pins : List (Addr × Obj)} {σ : St} {H : Hp} {s : Shared}
mutual
theorem Dat.reads (I : Inv X pins σ H s) {x : V} {d : PyData} {u : Value} : Dat X.K H x d → RelV x u → ∃ as, Reads s.heap u d as
  | .non, r => by cases (show u = Value.none from r); exact ⟨_, .none⟩
  | .bl b, r => by cases (show u = Value.bool b from r); exact ⟨_, .bool b⟩
  | .int i, r => by obtain ⟨t, q⟩ := (show ∃ t, u = Value.int i t from r); cases q; exact ⟨_, .int i t⟩
  | .str z, r => by obtain ⟨t, q⟩ := (show ∃ t, u = Value.str z t from r); cases q; exact ⟨_, .str z t⟩
  | .lst (a := a) h t, r => by
    cases (show u = Value.ref a from r)
    obtain ⟨its, v, ⟨o, n, e, c, _, d⟩, _⟩ := I.list h
    obtain ⟨as, q⟩ := DatAll.reads I t v
    exact ⟨_, .list e c d (by simpa using q)⟩
  | .tup (a := a) h t, r => by
    cases (show u = Value.ref a from r)
    obtain ⟨its, v, ⟨o, e, c, n, d⟩, _⟩ := I.tuple h
    obtain ⟨as, q⟩ := DatAll.reads I t v
    exact ⟨_, .tuple e c d (by simpa using q)⟩
theorem DatAll.reads (I : Inv X pins σ H s) {xs : List V} {ds : List PyData} {us : List Value} : DatAll X.K H xs ds → Vals xs us → ∃ as, ReadsAll s.heap us ds as
  | .nil, .nil => ⟨_, .nil⟩
  | .cons h t, .cons r q => by
    obtain ⟨as, e⟩ := Dat.reads I h r
    obtain ⟨bs, f⟩ := DatAll.reads I t q
    exact ⟨_, .cons e f⟩
end
end

/-- == of data -/
def rEqD (K : PySem.W.Frag) : R2 := fun x y H Q => ∃ dx dy, Dat K H x dx ∧ Dat K H y dy ∧ dx.canLay0 = true ∧ dy.canLay0 = true ∧ dx.depth ≤ 60 ∧ Q (.bl (PyData.eqv dx dy)) H
def rNeD (K : PySem.W.Frag) : R2 := fun x y H Q => ∃ dx dy, Dat K H x dx ∧ Dat K H y dy ∧ dx.canLay0 = true ∧ dy.canLay0 = true ∧ dx.depth ≤ 60 ∧ Q (.bl (!PyData.eqv dx dy)) H
section
variable {X : Cx}
theorem op_eqD (hu : X.A.units + 64 < cLine) : OpR X (compareOp .Eq) (rEqD X.K) := by
  intro pins s σ H x y v u Q I rx ry h
  obtain ⟨dx, dy, hx, hy, lx, ly, hd, q⟩ := h
  obtain ⟨as, ra⟩ := hx.reads I rx
  obtain ⟨bs, rb⟩ := hy.reads I ry
  exact SeqAt.compareEq_reads ra rb lx ly (Nat.lt_of_le_of_lt (Nat.add_le_add_left (Nat.le_trans (Nat.min_le_left _ _) (Nat.le_trans hd (by decide : 60 ≤ 64))) _) hu) ⟨.bl _, H, I, rfl, q⟩
theorem op_neD (hu : X.A.units + 64 < cLine) : OpR X (compareOp .NotEq) (rNeD X.K) := by
  intro pins s σ H x y v u Q I rx ry h
  obtain ⟨dx, dy, hx, hy, lx, ly, hd, q⟩ := h
  obtain ⟨as, ra⟩ := hx.reads I rx
  obtain ⟨bs, rb⟩ := hy.reads I ry
  exact SeqAt.compareNe_reads ra rb lx ly (Nat.lt_of_le_of_lt (Nat.add_le_add_left (Nat.le_trans (Nat.min_le_left _ _) (Nat.le_trans hd (by decide : 60 ≤ 64))) _) hu) ⟨.bl _, H, I, rfl, q⟩

/-- isinstance(x, T), T a built-in type -/
def rIsi (K : PySem.W.Frag) : List V → Hp → VK → Prop := fun xs H Q => ∃ x T t b, xs = [x, .ty T] ∧ TyOf K H x t ∧ PySem.W.kitOne K t (.type T) = some b ∧ Q (.bl b) H
theorem call_isi : CallR X (.builtin "isinstance") (rIsi X.K) := by
  intro pins s σ H xs us Q I r h
  obtain ⟨x, T, t, b, rfl, ty, e, q⟩ := h
  obtain ⟨u, c, rfl, rx, rc⟩ := r.two
  cases (show c = Value.type T from rc)
  exact isinst_ok I rx ty e fun tk => ⟨.bl b, H, I.tok _, rfl, q⟩
theorem kit_same {K : PySem.W.Frag} (T : String) : PySem.W.kitOne K (.type T) (.type T) = some true := by
  unfold PySem.W.kitOne
  rw [if_pos (by simp)]
end

/-! ### lists of ints, lists of lists of ints -/
def dI (ns : List Int) : PyData := .list (ns.map .int)
def dL (p : List (List Int)) : PyData := .list (p.map dI)
theorem eqvAll_ints : ∀ a b : List Int, PyData.eqvAll (a.map .int) (b.map .int) = decide (a = b)
  | [], [] => by simp [PyData.eqvAll]
  | [], y :: ys => by simp [PyData.eqvAll]
  | x :: xs, [] => by simp [PyData.eqvAll]
  | x :: xs, y :: ys => by
    rw [List.map_cons, List.map_cons, PyData.eqvAll, PyData.eqv, eqvAll_ints xs ys]
    by_cases h : x = y <;> simp [h]
theorem eqv_dI (a b : List Int) : PyData.eqv (dI a) (dI b) = decide (a = b) := by
  unfold dI
  rw [PyData.eqv, eqvAll_ints]
theorem eqvAll_dI : ∀ a b : List (List Int), PyData.eqvAll (a.map dI) (b.map dI) = decide (a = b)
  | [], [] => by simp [PyData.eqvAll]
  | [], y :: ys => by simp [PyData.eqvAll]
  | x :: xs, [] => by simp [PyData.eqvAll]
  | x :: xs, y :: ys => by
    rw [List.map_cons, List.map_cons, PyData.eqvAll, eqv_dI, eqvAll_dI xs ys]
    by_cases h : x = y <;> simp [h]
theorem eqv_dL (a b : List (List Int)) : PyData.eqv (dL a) (dL b) = decide (a = b) := by
  unfold dL
  rw [PyData.eqv, eqvAll_dI]
theorem lay_ints : ∀ a : List Int, PyData.canLayAll0 (a.map .int) = true
  | [] => by simp [PyData.canLayAll0]
  | x :: xs => by rw [List.map_cons, PyData.canLayAll0, lay_ints xs]; simp [PyData.canLay0]
theorem lay_dI (a : List Int) : (dI a).canLay0 = true := by
  unfold dI
  rw [PyData.canLay0]
  exact lay_ints a
theorem lay_dIs : ∀ a : List (List Int), PyData.canLayAll0 (a.map dI) = true
  | [] => by simp [PyData.canLayAll0]
  | x :: xs => by rw [List.map_cons, PyData.canLayAll0, lay_dIs xs, lay_dI]; rfl
theorem lay_dL (a : List (List Int)) : (dL a).canLay0 = true := by
  unfold dL
  rw [PyData.canLay0]
  exact lay_dIs a
theorem dep_ints : ∀ a : List Int, PyData.depthAll (a.map .int) ≤ 1
  | [] => by simp [PyData.depthAll]
  | x :: xs => by have := dep_ints xs; rw [List.map_cons]; simp only [PyData.depthAll, PyData.depth]; omega
theorem dep_dI (a : List Int) : (dI a).depth ≤ 2 := by
  unfold dI
  have := dep_ints a
  simp only [PyData.depth]; omega
theorem dep_dIs : ∀ a : List (List Int), PyData.depthAll (a.map dI) ≤ 2
  | [] => by simp [PyData.depthAll]
  | x :: xs => by have := dep_dIs xs; have := dep_dI x; rw [List.map_cons]; simp only [PyData.depthAll]; omega
theorem dep_dL (a : List (List Int)) : (dL a).depth ≤ 3 := by
  unfold dL
  have := dep_dIs a
  simp only [PyData.depth]; omega

/-- v is a list of the ints ns -/
def LI (H : Hp) (v : V) (ns : List Int) : Prop := ∃ a, v = .ref a ∧ H a = some (.lst (ns.map V.int))
/-- v is a list of lists of ints -/
def LL (H : Hp) (v : V) (p : List (List Int)) : Prop := ∃ a xs, v = .ref a ∧ H a = some (.lst xs) ∧ Paired (LI H) xs p
theorem LI.same {H H' : Hp} {v : V} {ns : List Int} (s : Same H H') (h : LI H v ns) : LI H' v ns := let ⟨a, e, q⟩ := h; ⟨a, e, s _ _ q⟩
theorem lis_same {H H' : Hp} (s : Same H H') {xs : List V} {p : List (List Int)} (h : Paired (LI H) xs p) : Paired (LI H') xs p := Paired.imp' (fun _ _ q => q.same s) h
theorem LL.same {H H' : Hp} {v : V} {p : List (List Int)} (s : Same H H') (h : LL H v p) : LL H' v p := let ⟨a, xs, e, q, r⟩ := h; ⟨a, xs, e, s _ _ q, lis_same s r⟩
theorem datAll_ints {K : PySem.W.Frag} {H : Hp} : ∀ ns : List Int, DatAll K H (ns.map V.int) (ns.map .int)
  | [] => .nil
  | n :: r => .cons (.int n) (datAll_ints r)
theorem LI.dat {K : PySem.W.Frag} {H : Hp} {v : V} {ns : List Int} (h : LI H v ns) : Dat K H v (dI ns) := by
  obtain ⟨a, rfl, e⟩ := h
  exact .lst (.of e) (datAll_ints ns)
theorem datAll_lis {K : PySem.W.Frag} {H : Hp} : ∀ {xs : List V} {p : List (List Int)}, Paired (LI H) xs p → DatAll K H xs (p.map dI)
  | _, _, .nil => .nil
  | _, _, .cons h t => .cons h.dat (datAll_lis t)
theorem LL.dat {K : PySem.W.Frag} {H : Hp} {v : V} {p : List (List Int)} (h : LL H v p) : Dat K H v (dL p) := by
  obtain ⟨a, xs, rfl, e, r⟩ := h
  exact .lst (.of e) (datAll_lis r)
theorem same_upd {H : Hp} {a : Addr} {o : HO} (h : H a = none) : Same H (upd H a o) := fun b u e => by rw [upd_ne (ne_of_none e h)]; exact e
theorem Same.upd {H H' : Hp} {a : Addr} {o : HO} (s : Same H H') (h : H a = none) : Same H (upd H' a o) := fun b u e => by rw [upd_ne (ne_of_none e h)]; exact s b u e
theorem Paired.get {α β : Type} {F : α → β → Prop} : ∀ {l₁ : List α} {l₂ : List β} {i : Nat} {x : α}, Paired F l₁ l₂ → l₁[i]? = some x → ∃ y, l₂[i]? = some y ∧ F x y
  | _, _, _, _, .nil, e => by simp at e
  | _, _, 0, _, .cons r _, e => by simp at e; subst e; exact ⟨_, rfl, r⟩
  | _, _, i + 1, x, .cons _ t, e => by
    obtain ⟨u, h1, h2⟩ := Paired.get (i := i) (x := x) t (by simpa using e)
    exact ⟨u, by simpa using h1, h2⟩
theorem Paired.take {α β : Type} {F : α → β → Prop} : ∀ {l₁ : List α} {l₂ : List β} (n : Nat), Paired F l₁ l₂ → Paired F (l₁.take n) (l₂.take n)
  | _, _, 0, _ => .nil
  | _, _, _ + 1, .nil => .nil
  | _, _, n + 1, .cons r t => .cons r (Paired.take n t)
theorem Paired.drop {α β : Type} {F : α → β → Prop} : ∀ {l₁ : List α} {l₂ : List β} (n : Nat), Paired F l₁ l₂ → Paired F (l₁.drop n) (l₂.drop n)
  | _, _, 0, r => r
  | _, _, _ + 1, .nil => .nil
  | _, _, n + 1, .cons _ t => Paired.drop n t
theorem Paired.append {α β : Type} {F : α → β → Prop} : ∀ {a b : List α} {c d : List β}, Paired F a c → Paired F b d → Paired F (a ++ b) (c ++ d)
  | _, _, _, _, .nil, s => s
  | _, _, _, _, .cons r t, s => .cons r (Paired.append t s)
end L2

/-! EXT 3: short words for a def of the text and its promise; what a text's def hands back. -/
namespace L2
open PySem PySem.Spec PyProof.Rows

/-- the def named x stands behind the top, and the module's name x is it -/
structure Def (K : PySem.W.Frag) (mg : Str → Option Value) (x : Str) (st : Stmt) : Prop where
  ex : ∃ (f : Addr) (fd : FuncData), Fun K x x st f fd ∧ mg x = some (.ref f)
/-- .. and keeps its promise -/
structure Ok (P : Program) (w : World) (K : PySem.W.Frag) (mg : Str → Option Value) (base : Heap) (x : Str) (k : Nat) (ps : List Str) (sp : Sp) : Prop where
  ex : ∃ (f : Addr) (fd : FuncData), FnOk P w K mg base CX0 k f fd ps sp ∧ mg x = some (.ref f) ∧ PySem.W.keepIn K (.ref f) = true ∧ Binds K fd ps []
section
variable {P : Program} {w : World} {K : PySem.W.Frag} {mg : Str → Option Value} {base : Heap}
theorem Def.ok {x : Str} {st : Stmt} {N ps : List Str} {k : Nat} {sp : Sp} (D : Def K mg x st) (S : FnScope N ps (defScope st))
    (hb : ∀ (kV doc pm : Value) (an : Option Addr) (cdv ct : Value) (us : List Value), us.length = ps.length → bindArgs (PySem.W.fnOf x x (defArgs st) (defBody st) (defScope st) .none kV doc pm an cdv ct) ⟨us, []⟩ = pure (ps.zip us))
    (len : ∀ vs H Q E, sp vs H Q E → vs.length = ps.length)
    (hbody : ∀ (f : Addr) (cdv : Value) (A : Around) (outer : List Env) (s : Shared) (H : Hp) (vs : List V) (Q : VK) (E : XK), Room k (A.deeper (envOfC x (defScope st) s.heap.objs.size f cdv)) → sp vs H Q E →
      ∃ t, PSs (cxOf CX0 P w K mg base N x (defScope st) f cdv A outer s H E).nox (defBody st) t ∧ t { nx := fun _ H' => Q .non H', rt := Q } (start N vs) H) : Ok P w K mg base x (k + 1) ps sp := by
  obtain ⟨f, fd, F, m⟩ := D.ex
  exact ⟨f, fd, F.ok S len (fun cdv A outer s H vs Q E hr h => hbody f cdv A outer s H vs Q E hr h), m, F.kp, F.binds hb⟩
theorem Ok.mono {x : Str} {j k : Nat} {ps : List Str} {sp : Sp} (O : Ok P w K mg base x j ps sp) (h : j ≤ k) : Ok P w K mg base x k ps sp := by
  obtain ⟨f, fd, F, r⟩ := O.ex
  exact ⟨f, fd, F.mono h, r⟩
theorem def_mk {x : Str} {st : Stmt} {f : Addr} {oc : Value} {od an : Option Addr} {osl : Array (Option Value)} {kV doc pm cdv ct : Value} {h : Heap} (X : K.In h) (G : h.Ns mainGlobals mg) (a : PySem.W.nsIn K mainGlobals x = some (some (.ref f)))
    (l : K.lookup f = some ⟨oc, od, .func (PySem.W.fnOf x x (defArgs st) (defBody st) (defScope st) .none kV doc pm an cdv ct), osl⟩)
    (c : PySem.W.codeIn K cdv x = true) (k : PySem.W.keepIn K (.ref f) = true) : Def K mg x st := ⟨f, _, fun_mk l c k, PySem.W.mg_of X G a⟩
end
/-- a call of a def of the text -/
theorem pe_callO {X : Cx} {x : Str} {k : Nat} {ps : List Str} {sp : Sp} {p pos : Pos} {e : Expr} {es : List Expr} {t : TA} (O : Ok X.prog X.w X.K X.mg X.base x k ps sp) (hr : Room k X.A) (ha : PA X (e :: es) t) (hg : Gl X x := by rfl) (hdb : (x == ("__debug__" : Str)) = false := by decide)
    (he : starEach (e :: es) X.env = (false, eval e X.env) :: starEach es X.env := by rfl) (hpl : (backTo pos (starEach es X.env)).any (·.1) = false := by rfl) : PE X (.Call (.Name x p) (e :: es) [] pos) (tCall sp [] E0 t) := by
  obtain ⟨f, fd, F, m, kp, b⟩ := O.ex
  exact pe_call F hr hg m kp b .nil pass0 ha hdb he hpl
/-- the law's promise -/
def spLaw (K : PySem.W.Frag) : Sp := fun vs H Q _ => ∃ (a : Addr) (ns : List Int), vs = [.ref a] ∧ SqL K H a (ns.map V.int) ∧ ns.length ≤ 63 ∧ ∀ H', Q (.bl true) H'
theorem walkL {l : PySem.W.OpenLaw} {q : Program} {loose : List Str} {XP : (Str → Option Value) → Heap → Prop} {YP : World → Heap → Prop} {d : DefRec} {K : Params → PySem.W.Frag} {k : Nat} (hn : l.most = some 63) (hdf : d.params.defaults = []) (hk : Room k callerA)
    (hY : ∀ (w : World) (h : Heap), YP w h → (K w.params).In h)
    (F : ∀ (w : World) (mg : Str → Option Value) (fa : Addr) (h : Heap), (K w.params).In h → h.Ns mainGlobals mg → mg d.name = some (.ref fa) →
      ∃ fd : FuncData, (∀ (s : Shared) (u : Value), BindsTo s fd ⟨[u], []⟩ [("script", u)]) ∧ ∀ base : Heap, (K w.params).In base → base.Ns mainGlobals mg → FnOk l.prog w (K w.params) mg base CX0 k fa fd ["script"] (spLaw (K w.params))) :
    PySem.W.WalkO q loose XP YP l.row.toRowW d [] (fun f vs => PySem.call f vs) :=
  L2.walk_of (n := 63) (k := k) (x := "script") (CX := fun _ => CX0) (sp := fun w => spLaw (K w.params)) hn (by decide) hdf hk hY F (fun _ _ a ns hl _ hS => ⟨a, ns, rfl, hS, hl, fun _ => rfl⟩) fun _ _ _ _ _ z => z

/-- a new list of ints is handed back, all that was tracked stands -/
def RetI (H : Hp) (Q : VK) (ns : List Int) : Prop := ∀ l H', H l = none → Same H H' → H' l = some (.lst (ns.map V.int)) → Q (.ref l) H'
/-- at D stands a new list of new lists of ints -/
structure Nw (H H2 : Hp) (D : Addr) (p : List (List Int)) : Prop where
  fr : H D = none
  ex : ∃ xs, H2 D = some (.lst xs) ∧ Paired (fun (u : V) (ns : List Int) => ∃ b, u = V.ref b ∧ b ≠ D ∧ H b = none ∧ H2 b = some (.lst (ns.map V.int))) xs p
def RetL (H : Hp) (Q : VK) (p : List (List Int)) : Prop := ∀ D H', Same H H' → Nw H H' D p → Q (.ref D) H'
theorem Nw.same {H H2 H3 : Hp} {D : Addr} {p : List (List Int)} (n : Nw H H2 D p) (s : Same H2 H3) : Nw H H3 D p := by
  obtain ⟨f, xs, e, r⟩ := n
  exact ⟨f, xs, s _ _ e, Paired.imp' (fun _ _ ⟨b, e1, e2, e3, e4⟩ => ⟨b, e1, e2, e3, s _ _ e4⟩) r⟩
theorem Nw.ll {H H2 : Hp} {D : Addr} {p : List (List Int)} (n : Nw H H2 D p) : LL H2 (.ref D) p := by
  obtain ⟨_, xs, e, r⟩ := n
  exact ⟨D, xs, rfl, e, Paired.imp' (fun _ _ ⟨b, e1, _, _, e4⟩ => ⟨b, e1, e4⟩) r⟩
theorem Nw.nil {H H2 : Hp} {D : Addr} (f : H D = none) (e : H2 D = some (.lst [])) : Nw H H2 D [] := ⟨f, [], e, .nil⟩
/-- one more list is put behind -/
theorem Nw.snoc {H H2 H3 : Hp} {D b : Addr} {p : List (List Int)} {xs : List V} {m : List Int} (n : Nw H H2 D p) (s : Same H2 H3) (e : H2 D = some (.lst xs)) (hb : H b = none) (hn : b ≠ D) (hm : H3 b = some (.lst (m.map V.int))) :
    Nw H (upd H3 D (.lst (xs ++ [.ref b]))) D (p ++ [m]) := by
  obtain ⟨f, ys, e', r⟩ := n
  rw [e] at e'
  cases e'
  refine ⟨f, _, upd_same, Paired.snoc (Paired.imp' (fun _ _ ⟨c, e1, e2, e3, e4⟩ => ⟨c, e1, e2, e3, ?_⟩) r) ⟨b, rfl, hn, hb, ?_⟩⟩
  · rw [upd_ne hn]
    exact hm
  · rw [upd_ne e2]
    exact s _ _ e4
theorem Same.write {H H2 : Hp} {D : Addr} {o : HO} (s : Same H H2) (f : H D = none) : Same H (L2.upd H2 D o) := s.upd f
/-- a statement, what holds behind it, the rest -/
def tMid (mid : St → Hp → Prop) (t u : TS) : TS := fun D σ H => t { D with nx := mid } σ H ∧ ∀ σ' H', mid σ' H' → u D σ' H'
theorem pss_mid {X : Cx} {st : Stmt} {rest : List Stmt} {t u : TS} (mid : St → Hp → Prop) (h1 : PS X st t) (h2 : PSs X rest u) : PSs X (st :: rest) (tMid mid t u) := by
  intro pins s σ H D I h
  refine wpAny_execs_cons (thn (h1 pins s σ H _ I h.1) fun f s1 q => ?_)
  cases f with
  | next => obtain ⟨σ1, H1, I1, q1⟩ := q; exact h2 pins s1 σ1 H1 D I1 (h.2 σ1 H1 q1)
  | brk => exact q
  | cont => exact q
  | ret v => exact q
/-- the names of a frame that one says nothing of -/
theorem lt1000 {n : Nat} (h : n ≤ 999) : n < sizeLine := Nat.lt_of_le_of_lt h (by decide)
theorem le1000 {n : Nat} (h : n ≤ 1000) : n ≤ sizeLine := Nat.le_trans h (by decide)
theorem map_int_get {ns : List Int} {i : Nat} {y : V} (hi : (ns.map V.int)[i]? = some y) : ∃ z, y = V.int z ∧ ns[i]? = some z := by
  rw [List.getElem?_map] at hi
  cases e : ns[i]? with
  | none => rw [e] at hi; cases hi
  | some z => rw [e] at hi; exact ⟨z, (Option.some.inj hi).symm, rfl⟩
end L2
namespace L2
open PySem
theorem bt_list : bootBuiltins "list" = some (.type "list") := by decide +kernel
theorem bt_tuple : bootBuiltins "tuple" = some (.type "tuple") := by decide +kernel
theorem bt_bool : bootBuiltins "bool" = some (.type "bool") := by decide +kernel
theorem bt_int : bootBuiltins "int" = some (.type "int") := by decide +kernel
theorem bt_isinstance : bootBuiltins "isinstance" = some (.builtin "isinstance") := by decide +kernel
theorem bt_sorted : bootBuiltins "sorted" = some (.builtin "sorted") := by decide +kernel
end L2

/-! MATH 1: plans, sets, answers as plain functions. -/
namespace Mix
def isSetFrom (w b : Int) : List Int → Bool
  | [] => true
  | x :: r => if x ≤ b ∨ w ≤ x then false else isSetFrom w x r
def isSet (w : Int) (ns : List Int) : Bool := isSetFrom w (-1) ns
def isMix (w : Int) (m : List Int) : Bool := !m.isEmpty && isSet w m
def isPlan (w : Int) (p : List (List Int)) : Bool := decide (p.length ≤ 12) && p.all (isMix w)
def hit (m s : List Int) : Bool := m.any fun x => s.contains x
def ans (p : List (List Int)) (s : List Int) : List Bool := p.map fun m => hit m s
def cell (ns : List Int) (k : Int) : Int := ns.getD k.toNat 0

theorem isSetFrom_cons {w b x : Int} {r : List Int} : isSetFrom w b (x :: r) = if x ≤ b ∨ w ≤ x then false else isSetFrom w x r := rfl
theorem isSetFrom_snoc : ∀ {w b y : Int} {l : List Int}, isSetFrom w b l = true → (∀ x ∈ l, x < y) → b < y → y < w → isSetFrom w b (l ++ [y]) = true
  | w, b, y, [], _, _, h1, h2 => by
    show (if y ≤ b ∨ w ≤ y then false else true) = true
    rw [if_neg (by omega)]
  | w, b, y, x :: r, h, hl, h1, h2 => by
    rw [List.cons_append, isSetFrom_cons]
    rw [isSetFrom_cons] at h
    by_cases c : x ≤ b ∨ w ≤ x
    · rw [if_pos c] at h; cases h
    · rw [if_neg c] at h ⊢
      exact isSetFrom_snoc h (fun z hz => hl z (List.mem_cons_of_mem _ hz)) (hl x List.mem_cons_self) h2
theorem isSet_snoc {w y : Int} {l : List Int} (h : isSet w l = true) (hl : ∀ x ∈ l, x < y) (h0 : 0 ≤ y) (h2 : y < w) : isSet w (l ++ [y]) = true := isSetFrom_snoc h hl (by omega) h2
theorem isSet_one {w y : Int} (h0 : 0 ≤ y) (h2 : y < w) : isSet w [y] = true := isSet_snoc (l := []) rfl (fun _ h => nomatch h) h0 h2
theorem isPlan_iff {w : Int} {p : List (List Int)} : isPlan w p = true ↔ p.length ≤ 12 ∧ ∀ m ∈ p, m ≠ [] ∧ isSet w m = true := by
  unfold isPlan isMix
  simp [List.all_eq_true]
theorem hit_cons {x : Int} {m s : List Int} : hit (x :: m) s = (s.contains x || hit m s) := rfl
theorem any_beq (s : List Int) (x : Int) : (s.any fun y => y == x) = s.contains x := by
  induction s with
  | nil => rfl
  | cons a r ih =>
    rw [List.any_cons, List.contains_cons, ih]
    by_cases h : a = x
    · subst h; simp
    · have h1 : (a == x) = false := beq_eq_false_iff_ne.mpr h
      have h2 : (x == a) = false := beq_eq_false_iff_ne.mpr (fun e => h e.symm)
      rw [h1, h2]
end Mix
namespace L2
open PySem
theorem inV_ints (x : Int) (s : List Int) : inV (.int x) (s.map V.int) = s.contains x := by
  unfold inV
  rw [List.any_map]
  exact Mix.any_beq s x
theorem flat_ints (s : List Int) : (s.map V.int).all flatV = true := by
  rw [List.all_map, List.all_eq_true]
  intro x _
  rfl
end L2
namespace Mix
/-- the wares whose figure by twos in c is 1 -/
def someBy (c : Int) (n : Nat) : List Int := ((List.range n).filter fun i => decide (c / 2 ^ i % 2 = 1)).map fun (i : Nat) => (i : Int)
theorem someBy_succ (c : Int) (n : Nat) : someBy c (n + 1) = if c / 2 ^ n % 2 = 1 then someBy c n ++ [(n : Int)] else someBy c n := by
  unfold someBy
  rw [List.range_succ, List.filter_append, List.map_append]
  by_cases h : c / 2 ^ n % 2 = 1
  · rw [if_pos h]
    congr 1
    rw [List.filter_cons, if_pos (decide_eq_true h)]
    rfl
  · rw [if_neg h]
    rw [List.filter_cons, if_neg (fun q => h (of_decide_eq_true q))]
    simp
theorem div_step (c : Int) (i : Nat) : c / 2 ^ i / 2 = c / 2 ^ (i + 1) := by
  rw [Int.ediv_ediv_of_nonneg (Int.le_of_lt (Int.pow_pos (by decide))), Int.pow_succ]
theorem someBy_lt (c : Int) (n : Nat) : ∀ x ∈ someBy c n, 0 ≤ x ∧ x < n := by
  intro x hx
  unfold someBy at hx
  obtain ⟨i, hi, rfl⟩ := List.mem_map.mp hx
  have := List.mem_range.mp (List.mem_filter.mp hi).1
  omega
theorem someBy_len (c : Int) (n : Nat) : (someBy c n).length ≤ n := by
  unfold someBy
  rw [List.length_map]
  have := List.length_filter_le (fun i => decide (c / 2 ^ i % 2 = 1)) (List.range n)
  rw [List.length_range] at this
  exact this
theorem isSetFrom_mono : ∀ {w w' b : Int} {l : List Int}, isSetFrom w b l = true → w ≤ w' → isSetFrom w' b l = true
  | _, _, _, [], _, _ => rfl
  | w, w', b, x :: r, h, hw => by
    rw [isSetFrom_cons] at h ⊢
    by_cases c : x ≤ b ∨ w ≤ x
    · rw [if_pos c] at h; cases h
    · rw [if_neg c] at h
      rw [if_neg (by omega)]
      exact isSetFrom_mono h hw
theorem someBy_set (c : Int) : ∀ n : Nat, isSet n (someBy c n) = true
  | 0 => rfl
  | n + 1 => by
    have ih := isSetFrom_mono (w' := ((n + 1 : Nat) : Int)) (someBy_set c n) (by omega)
    rw [someBy_succ]
    split
    · exact isSet_snoc ih (fun x hx => (someBy_lt c n x hx).2) (by omega) (by omega)
    · exact ih
/-- a rising list by a test over 0 .. n - 1 -/
def pick (t : Nat → Bool) (n : Nat) : List Int := ((List.range n).filter t).map fun (i : Nat) => (i : Int)
theorem pick_succ (t : Nat → Bool) (n : Nat) : pick t (n + 1) = if t n = true then pick t n ++ [(n : Int)] else pick t n := by
  unfold pick
  rw [List.range_succ, List.filter_append, List.map_append]
  by_cases h : t n = true
  · rw [if_pos h, List.filter_cons, if_pos h]
    rfl
  · rw [if_neg h, List.filter_cons, if_neg h]
    simp
theorem pick_lt (t : Nat → Bool) (n : Nat) : ∀ x ∈ pick t n, 0 ≤ x ∧ x < n := by
  intro x hx
  unfold pick at hx
  obtain ⟨i, hi, rfl⟩ := List.mem_map.mp hx
  have := List.mem_range.mp (List.mem_filter.mp hi).1
  omega
theorem pick_len (t : Nat → Bool) (n : Nat) : (pick t n).length ≤ n := by
  unfold pick
  rw [List.length_map]
  have := List.length_filter_le t (List.range n)
  rw [List.length_range] at this
  exact this
theorem pick_set (t : Nat → Bool) : ∀ n : Nat, isSet n (pick t n) = true
  | 0 => rfl
  | n + 1 => by
    have ih := isSetFrom_mono (w' := ((n + 1 : Nat) : Int)) (pick_set t n) (by omega)
    rw [pick_succ]
    split
    · exact isSet_snoc ih (fun x hx => (pick_lt t n x hx).2) (by omega) (by omega)
    · exact ih
theorem isPlan_insert {w : Int} {p : List (List Int)} {m : List Int} {k : Nat} (h : isPlan w p = true) (hl : p.length < 12) (h1 : m ≠ []) (h2 : isSet w m = true) : isPlan w (p.take k ++ [m] ++ p.drop k) = true := by
  rw [isPlan_iff] at h ⊢
  refine ⟨?_, fun x hx => ?_⟩
  · simp only [List.length_append, List.length_take, List.length_drop, List.length_cons, List.length_nil]
    omega
  · rcases List.mem_append.mp hx with hx | hx
    · rcases List.mem_append.mp hx with hx | hx
      · exact h.2 x (List.mem_of_mem_take hx)
      · rw [List.mem_singleton.mp hx]
        exact ⟨h1, h2⟩
    · exact h.2 x (List.mem_of_mem_drop hx)
end Mix

/-! SORT: list.sort's machine over places with an oracle for the comparison: a mirror of its steps, and that the one does what the other does. -/
set_option maxHeartbeats 1000000
namespace Srt
open PySem PyProof.Rows
def gallop' : Bool → Keyed → Array Keyed → Nat → Nat → Nat → StateT SortSt Sem (Option Nat) := sortPriv% PySem.Builtin.gallop
def mergeLo' : Array Keyed → Array Keyed → StateT SortSt Sem (Array Keyed) := sortPriv% PySem.Builtin.mergeLo
def mergeHi' : Array Keyed → Array Keyed → StateT SortSt Sem (Array Keyed) := sortPriv% PySem.Builtin.mergeHi
def setMinGallop' : Nat → StateT SortSt Sem Unit := sortPriv% PySem.Builtin.setMinGallop

theorem setMinGallop'_eq (g : Nat) : setMinGallop' g = modify fun s => SortSt.mk' (kindOf s) (arrOf s) (pendingOf s) g (failedOf s) := rfl
/-! ### the plain machine: places in the place of items, an oracle in the place of the comparison -/
structure PSt where
  a : Array Nat
  pending : Array (Nat × Nat × Nat)
  mg : Nat
abbrev PM := StateT PSt Option
def dead {α : Type} : PM α := fun _ => none
def ruleP : PM Unit := pure ()
section
variable (L : Nat → Nat → Bool)
def elemP (a : Array Nat) (i : Nat) : PM Nat := match a[i]? with
  | some x => pure x
  | none => dead
def ltP (x y : Nat) : PM (Option Bool) := pure (some (L x y))
def ltAtP (i j : Nat) : PM (Option Bool) := do
  let a := (← get).a
  ltP L (← elemP a i) (← elemP a j)
def revP (i j : Nat) : PM Unit := modify fun s => { s with a := mirror s.a i j ((j - i) / 2) }
def downP (src dst : Nat) : PM Unit := modify fun s => { s with a := bubble s.a src (src - dst) }
def countRunP (dn nr : Nat) : PM (Option Nat) := do
  let mut n := 1
  for _ in List.range' 1 (nr - 1) do
    let some yes ← ltAtP L (dn + n) (dn + n - 1) | return none
    if yes then break
    n := n + 1
  if n == nr then return some n
  if n > 1 then
    let some yes ← ltAtP L dn (dn + n - 1) | return none
    if yes then return some n
    revP dn (dn + n)
  ruleP
  n := n + 1
  let mut nq := 0
  for _ in List.range' n (nr - n) do
    let some yes ← ltAtP L (dn + n) (dn + n - 1) | return none
    if yes then
      if nq > 0 then revP (dn + n - (nq + 1)) (dn + n)
      nq := 0
    else
      let some yes ← ltAtP L (dn + n - 1) (dn + n) | return none
      if yes then break
      nq := nq + 1
    n := n + 1
  if nq > 0 then revP (dn + n - (nq + 1)) (dn + n)
  revP dn (dn + n)
  for _ in List.range' n (nr - n) do
    let some yes ← ltAtP L (dn + n) (dn + n - 1) | return none
    if yes then break
    n := n + 1
  return some n
def binarySortP (dn n ok : Nat) : PM Bool := do
  for k in List.range' (max ok 1) (n - max ok 1) do
    let mut x := 0
    let mut y := k
    for _ in List.range' 0 (k - 0) do
      if x ≥ y then break
      let m := (x + y) / 2
      let some yes ← ltAtP L (dn + k) (dn + m) | return false
      if yes then y := m else x := m + 1
    downP (dn + k) (dn + x)
  return true
def gallopP (lf : Bool) (key : Nat) (v : Array Nat) (b0 n at0 : Nat) : PM (Option Nat) := do
  let ask (i : Nat) : PM (Option Bool) := do
    let x ← elemP v (b0 + i)
    if lf then ltP L x key else return (← ltP L key x).map (!·)
  let mut was := 0
  let mut far := 1
  let mut dn := 0
  let mut tp := 0
  let some up ← ask at0 | return none
  if up then
    let lid := n - at0
    for _ in List.range' 0 (n - 0) do
      if far ≥ lid then break
      let some yes ← ask (at0 + far) | return none
      if !yes then break
      was := far
      far := 2 * far + 1
    dn := at0 + was + 1
    tp := at0 + min far lid
  else
    let lid := at0 + 1
    for _ in List.range' 0 (n - 0) do
      if far ≥ lid then break
      let some yes ← ask (at0 - far) | return none
      if yes then break
      was := far
      far := 2 * far + 1
    dn := at0 + 1 - min far lid
    tp := at0 - was
  for _ in List.range' 0 (n - 0) do
    if dn ≥ tp then break
    let m := dn + (tp - dn) / 2
    let some yes ← ask m | return none
    if yes then dn := m + 1 else tp := m
  return some tp
def mgP (g : Nat) : PM Unit := modify ({ · with mg := g })
def mergeLoP (u v : Array Nat) : PM (Array Nat) := do
  ruleP
  let tt := u.size + v.size
  let fin (o : Array Nat) (i j : Nat) := o ++ u.extract i u.size ++ v.extract j v.size
  let finA (o : Array Nat) (i j : Nat) := o ++ v.extract j v.size ++ u.extract i u.size
  let mut o : Array Nat := #[← elemP v 0]
  let mut i := 0
  let mut j := 1
  if j == v.size then return fin o i j
  if i + 1 == u.size then return finA o i j
  let mut g := (← get).mg
  for _ in List.range' 0 (tt - 0) do
    let mut ca := 0
    let mut cb := 0
    for _ in List.range' 0 (tt - 0) do
      let some yes ← ltP L (← elemP v j) (← elemP u i) | return fin o i j
      if yes then
        o := o.push (← elemP v j); j := j + 1; cb := cb + 1; ca := 0
        if j == v.size then return fin o i j
        if cb ≥ g then break
      else
        o := o.push (← elemP u i); i := i + 1; ca := ca + 1; cb := 0
        if i + 1 == u.size then return finA o i j
        if ca ≥ g then break
    ruleP
    g := g + 1
    for _ in List.range' 0 (tt - 0) do
      if g > 1 then g := g - 1
      mgP g
      let some k ← gallopP L false (← elemP v j) u i (u.size - i) 0 | return fin o i j
      ca := k
      if k > 0 then
        o := o ++ u.extract i (i + k); i := i + k
        if i + 1 == u.size then return finA o i j
        if i == u.size then return fin o i j
      o := o.push (← elemP v j); j := j + 1
      if j == v.size then return fin o i j
      let some k ← gallopP L true (← elemP u i) v j (v.size - j) 0 | return fin o i j
      cb := k
      if k > 0 then
        o := o ++ v.extract j (j + k); j := j + k
        if j == v.size then return fin o i j
      o := o.push (← elemP u i); i := i + 1
      if i + 1 == u.size then return finA o i j
      if ca < 7 && cb < 7 then break
    g := g + 1
    mgP g
  dead
def mergeHiP (u v : Array Nat) : PM (Array Nat) := do
  ruleP
  let tt := u.size + v.size
  let fin (o : Array Nat) (i j : Nat) := u.extract 0 i ++ v.extract 0 j ++ o.reverse
  let finB (o : Array Nat) (i j : Nat) := v.extract 0 j ++ u.extract 0 i ++ o.reverse
  let mut i := u.size - 1
  let mut j := v.size
  let mut o : Array Nat := #[← elemP u i]
  if i == 0 then return fin o i j
  if j == 1 then return finB o i j
  let mut g := (← get).mg
  for _ in List.range' 0 (tt - 0) do
    let mut ca := 0
    let mut cb := 0
    for _ in List.range' 0 (tt - 0) do
      let some yes ← ltP L (← elemP v (j - 1)) (← elemP u (i - 1)) | return fin o i j
      if yes then
        i := i - 1; o := o.push (← elemP u i); ca := ca + 1; cb := 0
        if i == 0 then return fin o i j
        if ca ≥ g then break
      else
        j := j - 1; o := o.push (← elemP v j); cb := cb + 1; ca := 0
        if j == 1 then return finB o i j
        if cb ≥ g then break
    ruleP
    g := g + 1
    for _ in List.range' 0 (tt - 0) do
      if g > 1 then g := g - 1
      mgP g
      let some r ← gallopP L false (← elemP v (j - 1)) u 0 i (i - 1) | return fin o i j
      let k := i - r
      ca := k
      if k > 0 then
        o := o ++ (u.extract r i).reverse; i := r
        if i == 0 then return fin o i j
      j := j - 1; o := o.push (← elemP v j)
      if j == 1 then return finB o i j
      let some r ← gallopP L true (← elemP u (i - 1)) v 0 j (j - 1) | return fin o i j
      let k := j - r
      cb := k
      if k > 0 then
        o := o ++ (v.extract r j).reverse; j := r
        if j == 1 then return finB o i j
        if j == 0 then return fin o i j
      i := i - 1; o := o.push (← elemP u i)
      if i == 0 then return fin o i j
      if ca < 7 && cb < 7 then break
    g := g + 1
    mgP g
  dead
def mergeAtP (i : Nat) : PM Bool := do
  let s ← get
  let (some (p, m, pw), some (q, n, _)) := (s.pending[i]?, s.pending[i + 1]?) | dead
  set { s with pending := (s.pending.setIfInBounds i (p, m + n, pw)).eraseIdxIfInBounds (i + 1) }
  let some k ← gallopP L false (← elemP s.a q) s.a p m 0 | return false
  let (p, m) := (p + k, m - k)
  if m == 0 then return true
  let some n ← gallopP L true (← elemP s.a (p + m - 1)) s.a q n (n - 1) | return false
  if n == 0 then return true
  let u := s.a.extract p q
  let v := s.a.extract q (q + n)
  let z ← if m ≤ n then mergeLoP L u v else mergeHiP L u v
  modify fun s => { s with a := z.toList.zipIdx.foldl (fun a (c, j) => a.setIfInBounds (p + j) c) s.a }
  let _ ← get
  return true
def sortRunsP : PM Unit := do
  let sz := (← get).a.size
  let mr := minRun' sz sz 0
  let mut dn := 0
  for _ in List.range' 0 (sz - 0) do
    if dn ≥ sz then break
    let some f0 ← countRunP L dn (sz - dn) | return
    let mut n := f0
    if n < mr then
      ruleP
      let fc := min (sz - dn) mr
      if !(← binarySortP L dn fc n) then return
      n := fc
    if let some (s1, n1, _) := (← get).pending.back? then
      let pw := power' sz (2 * s1 + n1) (2 * s1 + n1 + n1 + n) sz
      for _ in List.range' 0 (sz - 0) do
        let p := (← get).pending
        let some (_, _, old) := (if p.size > 1 then p[p.size - 2]? else none) | break
        if old ≤ pw then break
        if !(← mergeAtP L (p.size - 2)) then return
      modify fun s => { s with pending := s.pending.modify (s.pending.size - 1) fun (st, len, _) => (st, len, pw) }
    modify fun s => { s with pending := s.pending.push (dn, n, 0) }
    dn := dn + n
  for _ in List.range' 0 (sz - 0) do
    let p := (← get).pending
    if p.size ≤ 1 then break
    let i := p.size - 2
    let bf := if i > 0 then p[i - 1]?.map (·.2.1) else none
    let i := if bf.any (· < (p[i + 1]?.elim 0 (·.2.1))) then i - 1 else i
    if !(← mergeAtP L i) then return
end

section
variable (prog : Program) (w : World) (A : Around) (E : Value → Shared → Prop) (s : Shared) (κ : SortKind) (I : Nat → Keyed)
def conc (st : PSt) : SortSt := SortSt.mk' κ (st.a.map I) st.pending st.mg none
/-- the machine over items does what the plain machine does -/
def RS {α β : Type} (g : β → α) (m : StateT SortSt Sem α) (p : PM β) : Prop :=
  ∀ (st : PSt) (b : β) (st' : PSt), p st = some (b, st') → ∀ Q : α → SortSt → Prop, Q (g b) (conc κ I st') → wpS (model prog w) A E s m Q (conc κ I st)
end
section
variable {prog : Program} {w : World} {A : Around} {E : Value → Shared → Prop} {s : Shared} {κ : SortKind} {I : Nat → Keyed}
theorem rs_bind {α β γ δ : Type} {g : β → α} {h : δ → γ} {m : StateT SortSt Sem α} {p : PM β} {f : α → StateT SortSt Sem γ} {q : β → PM δ} (h1 : RS prog w A E s κ I g m p) (h2 : ∀ b, RS prog w A E s κ I h (f (g b)) (q b)) :
    RS prog w A E s κ I h (m >>= f) (p >>= q) := by
  intro st b st' e Q hq
  have e' : (p st).bind (fun x => q x.1 x.2) = some (b, st') := e
  cases hp : p st with
  | none => rw [hp] at e'; cases e'
  | some x =>
    rw [hp] at e'
    obtain ⟨x1, x2⟩ := x
    exact wpS_bind (h1 st x1 x2 hp _ (h2 x1 x2 b st' e' Q hq))
theorem rs_pure {α β : Type} {g : β → α} {a : α} {b : β} (e : a = g b) : RS prog w A E s κ I g (pure a) (pure b) := by
  intro st b' st' e' Q hq
  have : some (b, st) = some (b', st') := e'
  cases this
  subst e
  exact wpS_pure hq
theorem rs_ite {α β : Type} {g : β → α} {c : Prop} {d1 d2 : Decidable c} {m m' : StateT SortSt Sem α} {p p' : PM β} (h1 : c → RS prog w A E s κ I g m p) (h2 : ¬ c → RS prog w A E s κ I g m' p') :
    RS prog w A E s κ I g (@ite _ c d1 m m') (@ite _ c d2 p p') := by
  by_cases h : c
  · rw [if_pos h, if_pos h]; exact h1 h
  · rw [if_neg h, if_neg h]; exact h2 h
def fisMap {α β : Type} (g : β → α) : ForInStep β → ForInStep α
  | .done b => .done (g b)
  | .yield b => .yield (g b)
theorem rs_forL {α β : Type} {g : β → α} {f : Nat → α → StateT SortSt Sem (ForInStep α)} {q : Nat → β → PM (ForInStep β)} (h : ∀ x c, RS prog w A E s κ I (fisMap g) (f x (g c)) (q x c)) :
    ∀ (l : List Nat) (c : β), RS prog w A E s κ I g (forIn l (g c) f) (forIn l c q)
  | [], c => by
    rw [List.forIn_nil, List.forIn_nil]
    exact rs_pure rfl
  | x :: r, c => by
    rw [List.forIn_cons, List.forIn_cons]
    refine rs_bind (h x c) fun b => ?_
    cases b with
    | done b => exact rs_pure rfl
    | yield b => exact rs_forL h r b
theorem rs_for {α β : Type} {g : β → α} {a b : Nat} {c : β} {c' : α} {f : Nat → α → StateT SortSt Sem (ForInStep α)} {q : Nat → β → PM (ForInStep β)} (e : c' = g c) (h : ∀ x c, RS prog w A E s κ I (fisMap g) (f x (g c)) (q x c)) :
    RS prog w A E s κ I g (forIn [a:b] c' f) (forIn (List.range' a (b - a)) c q) := by
  subst e
  rw [Std.Legacy.Range.forIn_eq_forIn_range']
  have hsz : ([a:b] : Std.Legacy.Range).size = b - a := by simp [Std.Legacy.Range.size]
  show RS prog w A E s κ I g (forIn (List.range' a ([a:b] : Std.Legacy.Range).size 1) (g c) f) _
  rw [hsz]
  exact rs_forL h _ c
theorem rs_get : RS prog w A E s κ I (conc κ I) get get := by
  intro st b st' e Q hq
  have : some (st, st) = some (b, st') := e
  cases this
  exact wpS_get hq
theorem rs_modify {F : SortSt → SortSt} {G : PSt → PSt} (e : ∀ st, F (conc κ I st) = conc κ I (G st)) : RS prog w A E s κ I id (modify F) (modify G) := by
  intro st b st' e' Q hq
  have : some ((⟨⟩ : PUnit), G st) = some (b, st') := e'
  cases this
  exact wpS_modify (by rw [e]; exact hq)
theorem rs_rule {x : String} : RS prog w A E s κ I id (liftM (rule x) : StateT SortSt Sem Unit) ruleP := by
  intro st b st' e Q hq
  have : some ((), st) = some (b, st') := e
  cases this
  exact wpS_lift (wpAny_rule ⟨rfl, hq⟩)
theorem rs_elem {a : Array Nat} {i : Nat} : RS prog w A E s κ I I (elem' (a.map I) i) (elemP a i) := by
  intro st b st' e Q hq
  unfold elemP at e
  rw [elem'_eq]
  rw [Array.getElem?_map]
  cases h : a[i]? with
  | none => rw [h] at e; cases e
  | some x =>
    rw [h] at e
    have : some (x, st) = some (b, st') := e
    cases this
    exact wpS_pure hq
/-- the comparison answers as the oracle says -/
def Orac (prog : Program) (w : World) (A : Around) (s : Shared) (κ : SortKind) (I : Nat → Keyed) (L : Nat → Nat → Bool) : Prop :=
  ∀ (x y : Nat) (E : Value → Shared → Prop) (Q : Bool → Shared → Prop), Q (L x y) s → wpAny (model prog w) A (keyLt' κ (I x).1 (I y).1) Q E s
variable {L : Nat → Nat → Bool}
theorem rs_lt (O : Orac prog w A s κ I L) (x y : Nat) : RS prog w A E s κ I id (lt' (I x) (I y)) (ltP L x y) := by
  intro st b st' e Q hq
  have : some (some (L x y), st) = some (b, st') := e
  cases this
  rw [lt'_eq]
  refine wpS_bind (wpS_get ?_)
  refine wpS_bind (wpS_lift (wpAny_attempt (O x y _ _ ⟨rfl, ?_⟩)))
  exact wpS_pure hq
theorem rs_ltAt (O : Orac prog w A s κ I L) (i j : Nat) : RS prog w A E s κ I id (ltAt' i j) (ltAtP L i j) := by
  rw [ltAt'_eq]
  exact rs_bind rs_get fun st => rs_bind rs_elem fun x => rs_bind rs_elem fun y => rs_lt O x y
theorem swap_map (a : Array Nat) (i j : Nat) : (a.map I).swapIfInBounds i j = (a.swapIfInBounds i j).map I := by
  rw [Array.swapIfInBounds_def, Array.swapIfInBounds_def]
  by_cases h1 : i < a.size
  · by_cases h2 : j < a.size
    · simp [h1, h2]
      apply Array.ext_getElem?
      intro m
      simp only [Array.getElem?_map, Array.getElem?_swap]
      repeat' split
      all_goals simp_all
    · simp [h1, h2]
  · simp [h1]
theorem swaps_map (u v : Nat → Nat) : ∀ (l : List Nat) (a : Array Nat), l.foldl (fun a k => a.swapIfInBounds (u k) (v k)) (a.map I) = (l.foldl (fun a k => a.swapIfInBounds (u k) (v k)) a).map I
  | [], _ => rfl
  | k :: l, a => by
    rw [List.foldl_cons, List.foldl_cons, swap_map]
    exact swaps_map u v l _
theorem rs_rev (i j : Nat) : RS prog w A E s κ I id (reverseSlice' i j) (revP i j) := by
  rw [reverseSlice'_eq]
  exact rs_modify fun st => congrArg (fun x => SortSt.mk' κ x st.pending st.mg none) (swaps_map _ _ _ _)
theorem rs_down (i j : Nat) : RS prog w A E s κ I id (moveDown' i j) (downP i j) := by
  rw [moveDown'_eq]
  exact rs_modify fun st => congrArg (fun x => SortSt.mk' κ x st.pending st.mg none) (swaps_map _ _ _ _)
theorem rs_fid {α : Type} {m : StateT SortSt Sem (ForInStep α)} {p : PM (ForInStep α)} (h : RS prog w A E s κ I id m p) : RS prog w A E s κ I (fisMap fun x => x) m p := by
  have : (fisMap fun (x : α) => x) = id := by funext x; cases x <;> rfl
  rw [this]; exact h
theorem rs_count (O : Orac prog w A s κ I L) (lo nrem : Nat) : RS prog w A E s κ I id (countRun' lo nrem) (countRunP L lo nrem) := by
  rw [countRun'_eq]
  unfold countRunP
  dsimp only
  repeat' (first
    | exact rs_pure rfl
    | (refine rs_bind (rs_ltAt O _ _) ?_; rintro (_ | b) <;> dsimp only [id])
    | (refine rs_bind (rs_rev _ _) ?_; intro _)
    | (refine rs_bind rs_rule ?_; intro _)
    | (refine rs_bind (rs_for (g := fun x => x) rfl fun x c => rs_fid ?_) ?_)
    | refine rs_ite (fun _ => ?_) (fun _ => ?_)
    | (rintro ⟨_ | r, c⟩ <;> dsimp only))
theorem rs_bin (O : Orac prog w A s κ I L) (lo n ok : Nat) : RS prog w A E s κ I id (binarySort' lo n ok) (binarySortP L lo n ok) := by
  rw [binarySort'_eq]
  unfold binarySortP
  dsimp only
  repeat' (first
    | exact rs_pure rfl
    | (refine rs_bind (rs_ltAt O _ _) ?_; rintro (_ | b) <;> dsimp only [id])
    | (refine rs_bind (rs_down _ _) ?_; intro _)
    | (refine rs_bind (rs_for (g := fun x => x) rfl fun x c => rs_fid ?_) ?_)
    | refine rs_ite (fun _ => ?_) (fun _ => ?_)
    | (rintro ⟨_ | r, c⟩ <;> dsimp only))
theorem rs_gallop (O : Orac prog w A s κ I L) (left : Bool) (key : Nat) (arr : Array Nat) (base n hint : Nat) : RS prog w A E s κ I id (gallop' left (I key) (arr.map I) base n hint) (gallopP L left key arr base n hint) := by
  unfold gallopP
  have hb : ∀ i, RS prog w A E s κ I id (do
      let x ← elem' (arr.map I) (base + i)
      if left = true then lt' x (I key)
        else do
          let __do_lift ← lt' (I key) x
          pure (Option.map (fun x => !x) __do_lift)) (do
      let x ← elemP arr (base + i)
      if left = true then ltP L x key
        else do
          let __do_lift ← ltP L key x
          pure (Option.map (fun x => !x) __do_lift)) := fun i => rs_bind rs_elem fun x => rs_ite (fun _ => rs_lt O _ _) fun _ => rs_bind (rs_lt O _ _) fun b => rs_pure rfl
  dsimp only
  repeat' (first
    | exact rs_pure rfl
    | (refine rs_bind (hb _) ?_; rintro (_ | b) <;> dsimp only [id])
    | (refine rs_bind (rs_for (g := fun x => x) rfl fun x c => rs_fid ?_) ?_)
    | refine rs_ite (fun _ => ?_) (fun _ => ?_)
    | (rintro ⟨_ | r, c⟩ <;> dsimp only))
theorem rs_dead {α β : Type} {g : β → α} {m : StateT SortSt Sem α} : RS prog w A E s κ I g m dead := fun _ _ _ e => nomatch e
def gM (I : Nat → Keyed) {γ : Type} (c : Option (Array Nat) × Array Nat × γ) : Option (Array Keyed) × Array Keyed × γ := (c.1.map (·.map I), c.2.1.map I, c.2.2)
theorem rs_mg (g : Nat) : RS prog w A E s κ I id (setMinGallop' g) (mgP g) := by
  rw [setMinGallop'_eq]
  exact rs_modify fun st => rfl
def gH (I : Nat → Keyed) {γ : Type} (c : Option (Array Nat) × Nat × Nat × Array Nat × γ) : Option (Array Keyed) × Nat × Nat × Array Keyed × γ := (c.1.map (·.map I), c.2.1, c.2.2.1, c.2.2.2.1.map I, c.2.2.2.2)
theorem map_one (x : Nat) : Array.map I #[x] = #[I x] := by simp
theorem rs_mergeLo (O : Orac prog w A s κ I L) (a b : Array Nat) : RS prog w A E s κ I (fun x => x.map I) (mergeLo' (a.map I) (b.map I)) (mergeLoP L a b) := by
  unfold mergeLoP
  refine rs_bind rs_rule fun _ => ?_
  simp only [Array.size_map]
  repeat' (first
    | with_reducible exact rs_dead
    | (with_reducible refine rs_bind rs_elem ?_; intro _)
    | (with_reducible refine rs_bind (rs_lt O _ _) ?_; rintro (_ | b) <;> dsimp only [id])
    | (with_reducible refine rs_bind (rs_gallop O _ _ _ _ _ _) ?_; rintro (_ | k) <;> dsimp only [id])
    | (with_reducible refine rs_bind (rs_mg _) ?_; intro _)
    | (with_reducible refine rs_bind rs_rule ?_; intro _)
    | (with_reducible refine rs_bind rs_get ?_; intro _)
    | (with_reducible refine rs_bind (rs_for (g := gM I) ?_ fun x c => ?_) ?_)
    | with_reducible refine rs_ite (fun _ => ?_) (fun _ => ?_)
    | dsimp only [gM]
    | refine rs_ite (fun _ => ?_) (fun _ => ?_)
    | (with_reducible refine rs_pure ?_; (first | rfl | (simp only [gM, fisMap, map_one, Array.map_append, Array.map_extract, Array.map_push, Array.map_reverse, Option.map]; done) | (simp only [gM, fisMap, map_one, Array.map_append, Array.map_extract, Array.map_push, Array.map_reverse, Option.map]; rfl)))
    | (with_reducible intro c; obtain ⟨_ | r, out, c⟩ := c <;> dsimp only [gM, Option.map])
    | (first | rfl | (simp only [gM, fisMap, map_one, Array.map_append, Array.map_extract, Array.map_push, Array.map_reverse, Option.map]; done) | (simp only [gM, fisMap, map_one, Array.map_append, Array.map_extract, Array.map_push, Array.map_reverse, Option.map]; rfl)))
theorem rs_mergeHi (O : Orac prog w A s κ I L) (a b : Array Nat) : RS prog w A E s κ I (fun x => x.map I) (mergeHi' (a.map I) (b.map I)) (mergeHiP L a b) := by
  unfold mergeHiP
  refine rs_bind rs_rule fun _ => ?_
  simp only [Array.size_map]
  repeat' (first
    | with_reducible exact rs_dead
    | (with_reducible refine rs_bind rs_elem ?_; intro _)
    | (with_reducible refine rs_bind (rs_lt O _ _) ?_; rintro (_ | b) <;> dsimp only [id])
    | (with_reducible refine rs_bind (rs_gallop O _ _ _ _ _ _) ?_; rintro (_ | k) <;> dsimp only [id])
    | (with_reducible refine rs_bind (rs_mg _) ?_; intro _)
    | (with_reducible refine rs_bind rs_rule ?_; intro _)
    | (with_reducible refine rs_bind rs_get ?_; intro _)
    | (with_reducible refine rs_bind (rs_for (g := gH I) ?_ fun x c => ?_) ?_)
    | with_reducible refine rs_ite (fun _ => ?_) (fun _ => ?_)
    | dsimp only [gH]
    | refine rs_ite (fun _ => ?_) (fun _ => ?_)
    | (with_reducible refine rs_pure ?_; (first | rfl | (simp only [gH, fisMap, map_one, Array.map_append, Array.map_extract, Array.map_push, Array.map_reverse, Option.map]; done) | (simp only [gH, fisMap, map_one, Array.map_append, Array.map_extract, Array.map_push, Array.map_reverse, Option.map]; rfl)))
    | (with_reducible intro c; obtain ⟨_ | r, na, nb, out, c⟩ := c <;> dsimp only [gH, Option.map])
    | (first | rfl | (simp only [gH, fisMap, map_one, Array.map_append, Array.map_extract, Array.map_push, Array.map_reverse, Option.map]; done) | (simp only [gH, fisMap, map_one, Array.map_append, Array.map_extract, Array.map_push, Array.map_reverse, Option.map]; rfl)))
theorem setIf_map (a : Array Nat) (i x : Nat) : (a.map I).setIfInBounds i (I x) = (a.setIfInBounds i x).map I := by
  apply Array.ext_getElem?
  intro m
  simp only [Array.getElem?_map, Array.getElem?_setIfInBounds, Array.size_map]
  repeat' split
  all_goals simp_all
theorem sets_map (k : Nat) : ∀ (l : List (Nat × Nat)) (a : Array Nat), (l.map fun x => (I x.1, x.2)).foldl (fun a (x : Keyed × Nat) => a.setIfInBounds (k + x.2) x.1) (a.map I) = (l.foldl (fun a (x : Nat × Nat) => a.setIfInBounds (k + x.2) x.1) a).map I
  | [], _ => rfl
  | x :: l, a => by
    rw [List.map_cons, List.foldl_cons, List.foldl_cons, setIf_map]
    exact sets_map k l _
theorem zip_map (m : Array Nat) : (m.map I).toList.zipIdx = m.toList.zipIdx.map fun x => (I x.1, x.2) := by
  rw [Array.toList_map, List.zipIdx_map]
  rfl
theorem rs_set {st2 : PSt} {S : SortSt} (e : S = conc κ I st2) : RS prog w A E s κ I id (set S) (set st2) := by
  intro st b st' e' Q hq
  have : some ((⟨⟩ : PUnit), st2) = some (b, st') := e'
  cases this
  subst e
  unfold wpS
  rw [StateT.run_set]
  exact wpAny_pure ⟨rfl, hq⟩
theorem rs_mergeAt (O : Orac prog w A s κ I L) (i : Nat) : RS prog w A E s κ I id (mergeAt' i) (mergeAtP L i) := by
  unfold mergeAtP
  refine rs_bind rs_get fun st => ?_
  show RS prog w A E s κ I id (match (st.pending[i]?, st.pending[i + 1]?) with
    | (some (sa, na, power), some (sb, nb, snd)) => _
    | x => _) _
  rcases st.pending[i]? with _ | ⟨sa, na, power⟩
  · exact rs_dead
  rcases st.pending[i + 1]? with _ | ⟨sb, nb, x⟩
  · exact rs_dead
  dsimp only
  refine rs_bind (rs_set rfl) fun _ => ?_
  refine rs_bind rs_elem fun key => rs_bind (rs_gallop O _ _ _ _ _ _) ?_
  rintro (_ | k)
  · exact rs_pure rfl
  dsimp only [id]
  refine rs_ite (fun _ => rs_pure rfl) fun _ => ?_
  refine rs_bind rs_elem fun key => rs_bind (rs_gallop O _ _ _ _ _ _) ?_
  rintro (_ | nb2)
  · exact rs_pure rfl
  dsimp only [id]
  refine rs_ite (fun _ => rs_pure rfl) fun _ => ?_
  have fin : ∀ mg : Array Nat, RS prog w A E s κ I id (do
      modify fun s => setArr s (((mg.map I).toList.zipIdx).foldl (fun a (x : Keyed × Nat) => match x with | (p, j) => a.setIfInBounds (sa + k + j) p) (arrOf s))
      let __do_lift ← get
      pure (failedOf __do_lift).isNone) (do
      modify fun s => { s with a := mg.toList.zipIdx.foldl (fun a (x : Nat × Nat) => match x with | (p, j) => a.setIfInBounds (sa + k + j) p) s.a }
      let _ ← get
      pure true) := fun mg => by
    refine rs_bind (rs_modify fun st => ?_) fun _ => rs_bind rs_get fun st => rs_pure rfl
    have := sets_map (I := I) (sa + k) mg.toList.zipIdx st.a
    rw [← zip_map] at this
    exact congrArg (fun x => SortSt.mk' κ x st.pending st.mg none) this
  have ex : ∀ i j, (arrOf (conc κ I st)).extract i j = (st.a.extract i j).map I := fun i j => Array.map_extract.symm
  rw [ex, ex]
  refine rs_ite (fun _ => ?_) fun _ => ?_
  · exact rs_bind (rs_mergeLo O _ _) fun mg => fin mg
  · exact rs_bind (rs_mergeHi O _ _) fun mg => fin mg
theorem rs_sortRuns (O : Orac prog w A s κ I L) : RS prog w A E s κ I id sortRuns' (sortRunsP L) := by
  rw [sortRuns'_eq]
  unfold sortRunsP
  refine rs_bind rs_get fun st0 => ?_
  have hsz : (arrOf (conc κ I st0)).size = st0.a.size := Array.size_map ..
  simp only [hsz]
  repeat' (first
    | (with_reducible refine rs_bind (rs_count O _ _) ?_; rintro (_ | b) <;> dsimp only [id])
    | (with_reducible refine rs_bind (rs_bin O _ _ _) ?_; intro b; dsimp only [id])
    | (refine rs_bind (rs_mergeAt O _) ?_; intro b; dsimp only [id])
    | (with_reducible refine rs_bind rs_rule ?_; intro _)
    | (with_reducible refine rs_bind rs_get ?_; intro st)
    | (with_reducible refine rs_bind (rs_modify fun st => rfl) ?_; intro _)
    | (with_reducible refine rs_bind (rs_for (g := fun x => x) rfl fun x c => rs_fid ?_) ?_)
    | with_reducible refine rs_ite (fun _ => ?_) (fun _ => ?_)
    | (with_reducible refine rs_pure ?_; rfl)
    | (with_reducible intro c; obtain ⟨_ | r, c⟩ := c <;> dsimp only)
    | (rw [show (pendingOf (conc κ I st)).back? = st.pending.back? from rfl]; rcases st.pending.back? with _ | ⟨s1, n1, x1⟩ <;> dsimp only)
    | (rw [show (if (pendingOf (conc κ I st)).size > 1 then (pendingOf (conc κ I st))[(pendingOf (conc κ I st)).size - 2]? else none) = (if st.pending.size > 1 then st.pending[st.pending.size - 2]? else none) from rfl]; rcases (if st.pending.size > 1 then st.pending[st.pending.size - 2]? else none) with _ | ⟨s1, n1, x1⟩ <;> dsimp only)
    | refine rs_ite (fun _ => ?_) (fun _ => ?_)
    | exact rs_pure rfl)
end
end Srt

/-! EXT 4: two lists of ints, of one length, by <. -/
namespace L2
open PySem PySem.Spec PyProof.Rows
section
open PySem.SeqAt
open PySem.AutoSeq1 (wpAny_loadPart')
open PySem.MeetsSeq PySem.MeetsSeq2 PySem.MeetsSeq3

theorem ints_at : ∀ {vs : List Value} {ns : List Int} {i : Nat}, IntsAre vs ns → i < vs.length → ∃ (n : Int) (t : Tok), vs[i]? = some (.int n t) ∧ ns[i]? = some n
  | _, _, _, .nil, h => by simp at h
  | _, _, 0, .cons n t _, _ => ⟨n, t, rfl, rfl⟩
  | _, _, i + 1, .cons _ _ r, h => by
    obtain ⟨n, t, h1, h2⟩ := ints_at (i := i) r (by simpa using h)
    exact ⟨n, t, by simpa using h1, by simpa using h2⟩

theorem lt_loop (l b : Addr) (items items2 : Array Value) (n n2 : Nat) (dd dd2 : Option Addr) (sl sl2 : Array (Option Value)) (hsz : items.size = items2.size) (ns ms : List Int) (hi : IntsAre items.toList ns) (hj : IntsAre items2.toList ms) (k : Nat) :
    ∀ i : Nat, items.size - i = k → Meets (Builtin.«list.__eq__.loop» ⟨[.ref l, .ref b, rawInt i, rawInt 0], []⟩)
      (fun _ R s => s.heap.get? l = some { cls := .type "list", dict := dd, data := .seq items n, slots := sl } ∧ s.heap.get? b = some { cls := .type "list", dict := dd2, data := .seq items2 n2, slots := sl2 } ∧
        R (.ok (.ret (.bool (HT.lexLt (ns.drop i) (ms.drop i))))) s) := by
  have z1 : items.size = ns.length := by rw [← hi.length]; simp
  have z2 : items2.size = ms.length := by rw [← hj.length]; simp
  induction k with
  | zero =>
    intro i hk prog w A R s h
    obtain ⟨hp, g, d, tk, os⟩ := s; obtain ⟨hl, hb, h⟩ := h
    wp_walk using wpAny_loadPart' hl, wpAny_loadPart' hb
    have hi1 : items[((i : Nat) : Int).toNat]? = none := by simp; omega
    have hi2 : items2[((i : Nat) : Int).toNat]? = none := by simp; omega
    rw [List.drop_of_length_le (by omega), List.drop_of_length_le (by omega)] at h
    rw [hi1, hi2]
    wp_walk using wpAny_loadPart' hl, wpAny_loadPart' hb
    show R (.ok (.ret (.bool (decide (items.size < items2.size))))) _
    rw [decide_eq_false (by omega)]
    exact h
  | succ k ih =>
    intro i hk prog w A R s h
    obtain ⟨hp, g, d, tk, os⟩ := s; obtain ⟨hl, hb, h⟩ := h
    wp_walk using wpAny_loadPart' hl, wpAny_loadPart' hb
    have hlt : i < items.size := by omega
    have hlt2 : i < items2.size := by omega
    obtain ⟨x, t, hx1, hx2⟩ := ints_at (i := i) hi (by simpa using hlt)
    obtain ⟨y, u, hy1, hy2⟩ := ints_at (i := i) hj (by simpa using hlt2)
    have hi1 : items[((i : Nat) : Int).toNat]? = some (.int x t) := by simpa using hx1
    have hi2 : items2[((i : Nat) : Int).toNat]? = some (.int y u) := by simpa using hy1
    have hd1 : ns.drop i = x :: ns.drop (i + 1) := by
      obtain ⟨h1, h2⟩ := List.getElem?_eq_some_iff.mp hx2
      rw [List.drop_eq_getElem_cons h1, h2]
    have hd2 : ms.drop i = y :: ms.drop (i + 1) := by
      obtain ⟨h1, h2⟩ := List.getElem?_eq_some_iff.mp hy2
      rw [List.drop_eq_getElem_cons h1, h2]
    have hc : ((i : Int) + 1) = ((i + 1 : Nat) : Int) := by push_cast; rfl
    rw [hd1, hd2, HT.lexLt_cons] at h
    rw [hi1, hi2]
    obtain ⟨e, he, hiff⟩ := HT.eqAt_int A.in1 ⟨hp, g, d, tk, os⟩ x t y u
    refine wpAny_bind (he prog w _ _ ?_)
    cases e with
    | true =>
      rw [if_pos (hiff.mp rfl)] at h
      wp_walk
      rw [hc]
      exact ⟨plainId_quiet plain_eq_loop _, codeAny_builtin entry_eq_loop (by
        rw [Around.under_plainId plain_eq_loop _]
        exact ih (i + 1) (by omega) prog w A R _ ⟨hl, hb, h⟩)⟩
    | false =>
      rw [if_neg (fun q => absurd (hiff.mpr q) Bool.false_ne_true)] at h
      have hri := HT.rcLt_int A.in1 ⟨hp, g, d, tk, os⟩ x t y u prog w
      wp_walk using wpAny_loadPart' hl, wpAny_loadPart' hb
      rw [hi1, hi2]
      wp_walk using hri
      exact h

theorem list_lt_ints (l b : Addr) (items items2 : Array Value) (n n2 : Nat) (dd dd2 : Option Addr) (sl sl2 : Array (Option Value)) (hsz : items.size = items2.size) (ns ms : List Int) (hi : IntsAre items.toList ns) (hj : IntsAre items2.toList ms) :
    Meets (Builtin.«list.__lt__» ⟨[.ref l, .ref b], []⟩)
      (fun _ R s => s.heap.get? l = some { cls := .type "list", dict := dd, data := .seq items n, slots := sl } ∧ s.heap.get? b = some { cls := .type "list", dict := dd2, data := .seq items2 n2, slots := sl2 } ∧
        R (.ok (.ret (.bool (HT.lexLt ns ms)))) s) := by
  intro prog w A R s h
  obtain ⟨hp, g, d, tk, os⟩ := s; obtain ⟨hl, hb, h⟩ := h
  have f3 := AutoSeq1.sub_list_list
  wp_walk using wpAny_loadPart' hl, wpAny_loadPart' hb
  exact ⟨plainId_quiet plain_eq_loop _, codeAny_builtin entry_eq_loop (by
    rw [Around.under_plainId plain_eq_loop _]
    exact lt_loop l b items items2 n n2 dd dd2 sl sl2 hsz ns ms hi hj _ 0 rfl prog w A R _ ⟨hl, hb, by simpa using h⟩)⟩
end
section
variable {prog : Program} {w : World} {A : Around} {E : Value → Shared → Prop} {s : Shared}
theorem lt_listInts {l b : Addr} {items items2 : Array Value} {ns ms : List Int} {Q : Value → Shared → Prop} (hl : s.heap.IsList l items) (hb : s.heap.IsList b items2) (hi : IntsAre items.toList ns) (hj : IntsAre items2.toList ms) (hsz : items.size = items2.size)
    (hu : A.units < cLine) (h : Q (.bool (HT.lexLt ns ms)) s) : wpAny (model prog w) A (compareOp .Lt (.ref l) (.ref b)) Q E s := by
  obtain ⟨⟨cls, dd, data, sl⟩, ho, hc, n, hd⟩ := id hl
  obtain ⟨⟨cls2, dd2, data2, sl2⟩, ho2, hc2, n2, hd2⟩ := id hb
  simp only at hc hd hc2 hd2
  subst hc hd hc2 hd2
  exact richCompare_meets_room (op := .Lt) ⟨_, ho, rfl⟩ ⟨_, ho2, rfl⟩ PySem.F.slot_list_lt PySem.F.entry_list_lt (PySem.F.args_list_lt_2 _ _) (list_lt_ints l b items items2 n n2 dd dd2 sl sl2 hsz ns ms hi hj)
    ⟨ho, ho2, show Value.bool (HT.lexLt ns ms) ≠ Value.notImplemented ∧ Q (.bool (HT.lexLt ns ms)) s from ⟨(fun x => nomatch x), h⟩⟩ hu
end
end L2

/-! EXT 5: sorted(..) of tuples, each a length and a list of ints of that length. -/
namespace Mix
def lexLt : List Int → List Int → Bool
  | [], [] => false
  | [], _ :: _ => true
  | _ :: _, [] => false
  | x :: xs, y :: ys => if x = y then lexLt xs ys else decide (x < y)
def keyLt (a b : List Int) : Bool := if a.length = b.length then lexLt a b else decide (a.length < b.length)
/-- the key at a place (one beyond the end: the first) -/
def keyAt (ks : List (List Int)) (i : Nat) : List Int := ks.getD i (ks.headD [])
/-- the places in the order that sorted puts them -/
def order (ks : List (List Int)) : Option (Array Nat) :=
  if ks.length < 2 then some (List.range ks.length).toArray else
  match Srt.sortRunsP (fun i j => keyLt (keyAt ks i) (keyAt ks j)) ⟨(List.range ks.length).toArray, #[], 7⟩ with
  | some (_, st) => some st.a
  | none => none
end Mix
namespace L2
open PySem PySem.Spec PyProof.Rows
theorem le_1000 {n : Nat} (h : n ≤ 1000) : n ≤ sizeLine := Nat.le_trans h (by decide)
theorem lexLt_eq : ∀ a b : List Int, HT.lexLt a b = Mix.lexLt a b
  | [], [] => rfl
  | [], _ :: _ => rfl
  | _ :: _, [] => rfl
  | x :: xs, y :: ys => by
    rw [HT.lexLt_cons, lexLt_eq xs ys]
    rfl
section
variable {prog : Program} {w : World} {A : Around} {E : Value → Shared → Prop} {s : Shared}
/-- list.sort, the comparison by an oracle -/
theorem sort_by {a : Addr} {vs : List Value} {n : Nat} {P : PySem.Fin → Shared → Prop} {κ : SortKind} {I : Nat → Keyed} {L : Nat → Nat → Bool} {st : Srt.PSt} (ho : s.heap.get? a = some (seqObj "list" vs.toArray n)) (h2 : ¬ vs.length < 2)
    (hI : vs.toArray.zip vs.toArray = (List.range vs.length).toArray.map I)
    (hk : ∀ s6 : Shared, (∀ b o, b ≠ a → s.heap.get? b = some o → s6.heap.get? b = some o) → (∀ Q : SortKind → Shared → Prop, Q κ s6 → wpAny (model prog w) A (keyKind' vs.toArray) Q E s6) ∧ Srt.Orac prog w A s6 κ I L)
    (hr : Srt.sortRunsP L ⟨(List.range vs.length).toArray, #[], 7⟩ = some ((), st)) (lv : vs.length ≤ 1000) (hz : st.a.size ≤ 1000) (h : P (.done (.ret .none)) { s with heap := sortedHeap s.heap a vs ((st.a.map I).map (·.2)) }) :
    wpAny (model prog w) A (Builtin.«list.sort» ⟨[.ref a], []⟩) P E s := by
  rw [list_sort_plain]
  have ha : a < s.heap.objs.size := Heap.lt_size ho
  have lz : vs.length ≤ sizeLine := le_1000 lv
  obtain ⟨e1, ho1⟩ : ∃ e1, (s.heap.update a (Obj.mapSeq fun _ => #[])).get? a = some (seqObj "list" #[] e1) := ⟨_, get?_update_seq ho (fun _ => #[])⟩
  have keep : ∀ b o, b ≠ a → s.heap.get? b = some o → (((s.heap.update a (Obj.mapSeq fun _ => #[])).push (seqObj "tuple" vs.toArray 0)).push (seqObj "list" #[] 0)).get? b = some o := fun b o hb e =>
    Heap.get?_push_of_some _ (Heap.get?_push_of_some _ (by rw [Heap.get?_update_other _ _ hb.symm]; exact e))
  have ho6 : (((s.heap.update a (Obj.mapSeq fun _ => #[])).push (seqObj "tuple" vs.toArray 0)).push (seqObj "list" #[] 0)).get? a = some (seqObj "list" #[] e1) := Heap.get?_push_of_some _ (Heap.get?_push_of_some _ ho1)
  refine wpAny_bind (listItems_at ho rfl (wpAny_bind (listUpdate_at ho rfl (hsz := by rw [List.size_toArray]; exact lz) (wpAny_bind (seqEpoch_at ho1 rfl (wpAny_bind (wpAny_newTuple (hsz := lz) (wpAny_bind (wpAny_newList (wpAny_holding ?_))))))))))
  show wpAny (model prog w) A _ P E { s with heap := ((s.heap.update a (Obj.mapSeq fun _ => #[])).push (seqObj "tuple" vs.toArray 0)).push (seqObj "list" #[] 0) }
  have h2' : ¬ vs.toArray.size < 2 := by rw [List.size_toArray]; exact h2
  obtain ⟨k1, k2⟩ := hk { s with heap := ((s.heap.update a (Obj.mapSeq fun _ => #[])).push (seqObj "tuple" vs.toArray 0)).push (seqObj "list" #[] 0) } keep
  rw [if_neg h2', if_neg h2']
  refine wpAny_bind (k1 _ ?_)
  rw [hI]
  refine wpAny_bind (wpAny_mono (Srt.rs_sortRuns k2 ⟨(List.range vs.length).toArray, #[], 7⟩ () st hr (fun _ st' => st' = Srt.conc κ I st) rfl) ?_ fun _ _ e => e)
  rintro ⟨⟨⟩, st'⟩ s' ⟨rfl, rfl⟩
  dsimp only
  refine wpAny_bind (seqEpoch_at ho6 rfl (wpAny_bind (listUpdate_at ho6 rfl (hsz2 := ?_) ?_)))
  · rw [show failedOf (Srt.conc κ I st) = none from rfl]
    simp only [bne_self_eq_false, Bool.false_eq_true, if_false]
    exact wpAny_pure h
  · show ((st.a.map I).map (·.2)).size ≤ _
    rw [Array.size_map, Array.size_map]
    exact Nat.le_trans (le_1000 hz) (Nat.le_succ _)
/-- list.sort of at most one item -/
theorem sort_small {a : Addr} {vs : List Value} {n : Nat} {P : PySem.Fin → Shared → Prop} (ho : s.heap.get? a = some (seqObj "list" vs.toArray n)) (h2 : vs.length < 2) (h : P (.done (.ret .none)) { s with heap := sortedHeap s.heap a vs vs.toArray }) :
    wpAny (model prog w) A (Builtin.«list.sort» ⟨[.ref a], []⟩) P E s := by
  rw [list_sort_plain]
  have lz : vs.length ≤ sizeLine := le_1000 (by omega)
  obtain ⟨e1, ho1⟩ : ∃ e1, (s.heap.update a (Obj.mapSeq fun _ => #[])).get? a = some (seqObj "list" #[] e1) := ⟨_, get?_update_seq ho (fun _ => #[])⟩
  have ho6 : (((s.heap.update a (Obj.mapSeq fun _ => #[])).push (seqObj "tuple" vs.toArray 0)).push (seqObj "list" #[] 0)).get? a = some (seqObj "list" #[] e1) := Heap.get?_push_of_some _ (Heap.get?_push_of_some _ ho1)
  refine wpAny_bind (listItems_at ho rfl (wpAny_bind (listUpdate_at ho rfl (hsz := by rw [List.size_toArray]; exact lz) (wpAny_bind (seqEpoch_at ho1 rfl (wpAny_bind (wpAny_newTuple (hsz := lz) (wpAny_bind (wpAny_newList (wpAny_holding ?_))))))))))
  show wpAny (model prog w) A _ P E { s with heap := ((s.heap.update a (Obj.mapSeq fun _ => #[])).push (seqObj "tuple" vs.toArray 0)).push (seqObj "list" #[] 0) }
  have h2' : vs.toArray.size < 2 := by rw [List.size_toArray]; exact h2
  have hv : (vs.toArray.zip vs.toArray).map (·.2) = vs.toArray := by
    match vs, h2 with
    | [], _ => simp
    | [v], _ => simp
  rw [if_pos h2', if_pos h2']
  refine wpAny_bind (wpAny_pure ?_)
  dsimp only
  rw [StateT.run_pure]
  refine wpAny_bind (wpAny_pure ?_)
  dsimp only
  refine wpAny_bind (seqEpoch_at ho6 rfl (wpAny_bind (listUpdate_at ho6 rfl (hsz2 := ?_) ?_)))
  · simp only [bne_self_eq_false, Bool.false_eq_true, if_false]
    refine wpAny_pure ?_
    rw [show (arrOf (SortSt.mk' general' (vs.toArray.zip vs.toArray) #[] 7 none)).map (·.2) = vs.toArray from hv]
    exact h
  · show ((vs.toArray.zip vs.toArray).map (·.2)).size ≤ _
    rw [hv, List.size_toArray]
    exact Nat.le_trans lz (Nat.le_succ _)
/-- sorted(l) by what list.sort does of a copy -/
theorem sorted_by {l : Addr} {vs : List Value} {Q : Value → Shared → Prop} (out : Array Value) (hl : s.heap.IsList l vs.toArray) (lv : vs.length ≤ 1000)
    (hs : ∀ (s1 : Shared) (a : Addr) (P : PySem.Fin → Shared → Prop), s.heap.objs.size < a → (∀ b o, s.heap.get? b = some o → s1.heap.get? b = some o) → s1.heap.get? a = some (seqObj "list" vs.toArray 0) → P (.done (.ret .none)) { s1 with heap := sortedHeap s1.heap a vs out } →
      wpAny (model prog w) A.in1.in1 (Builtin.«list.sort» ⟨[.ref a], []⟩) P E s1)
    (h : Q (.ref (s.heap.objs.size + 1)) { s with heap := sortedAll s.heap vs out }) : wpAny (model prog w) A (call (.builtin "sorted") [.ref l]) Q E s := by
  refine Calls.call_function_entry kind_sorted plain_sorted entry_sorted (args_sorted1 _) ?_
  unfold Builtin.«sorted»
  refine wpAny_bind (m := checkCount "sorted" 1 1 _) (wpAny_pure (wpAny_bind (collect_list hl (hsz := le_1000 lv) (wpAny_bind (wpAny_newList (hsz := le_1000 lv) ?_)))))
  have hsz : ((s.heap.push (seqObj "list" #[] 0)).update s.heap.objs.size (Obj.mapSeq (· ++ vs.toArray))).objs.size = s.heap.objs.size + 1 := by rw [Heap.size_update, size_push']
  have hoL : (((s.heap.push (seqObj "list" #[] 0)).update s.heap.objs.size (Obj.mapSeq (· ++ vs.toArray))).push (seqObj "list" vs.toArray 0)).get? (s.heap.objs.size + 1) = some (seqObj "list" vs.toArray 0) := by
    rw [← hsz]; exact Heap.get?_push_size _ rfl
  show wpAny _ _ _ _ _ { s with heap := ((s.heap.push (seqObj "list" #[] 0)).update s.heap.objs.size (Obj.mapSeq (· ++ vs.toArray))).push (seqObj "list" vs.toArray 0) }
  rw [hsz]
  refine wpAny_bind (wpAny_holding (wpAny_call_entry slot_list_sort ⟨_, hoL, rfl⟩ entry_list_sort (hs _ _ _ (Nat.lt_succ_self _) (fun b o e => ?_) hoL ⟨_, rfl, ?_⟩) (args_list_sort _)))
  · exact Heap.get?_push_of_some _ (by rw [Heap.get?_update_other _ _ (Nat.ne_of_lt (Heap.lt_size e)).symm]; exact Heap.get?_push_of_some _ e)
  · exact wpAny_pure ⟨_, rfl, h⟩
end

/-! ### the comparison of two such tuples -/
/-- a tuple of a length and a list of ints of that length, as it lies in the heap -/
structure KItem (h : Heap) (v : Value) (k : List Int) : Prop where
  ex : ∃ (t b : Addr) (o : Obj) (n : Nat) (tk : Tok) (its : Array Value), v = .ref t ∧ h.get? t = some o ∧ o.cls = .type "tuple" ∧ o.data = .seq #[.int k.length tk, .ref b] n ∧ h.IsList b its ∧ IntsAre its.toList k
theorem KItem.keeps {h h' : Heap} {v : Value} {k : List Int} (x : KItem h v k) (hk : ∀ b o, h.get? b = some o → h'.get? b = some o) : KItem h' v k := by
  obtain ⟨t, b, o, n, tk, its, e, ho, hc, hd, ⟨ob, hob, r⟩, hi⟩ := x
  exact ⟨t, b, o, n, tk, its, e, hk t o ho, hc, hd, ⟨ob, hk b ob hob, r⟩, hi⟩
theorem KItem.first {h : Heap} {v : Value} {k : List Int} (x : KItem h v k) : ∃ (a : Addr) (o : Obj) (xs : Array Value) (n : Nat) (tk : Tok), v = .ref a ∧ h.get? a = some o ∧ o.cls = .type "tuple" ∧ o.data = .seq xs n ∧ xs[0]? = some (.int k.length tk) := by
  obtain ⟨t, b, o, n, tk, its, e, ho, hc, hd, _⟩ := x
  exact ⟨t, o, _, n, tk, e, ho, hc, hd, rfl⟩
theorem kitems_tups {h : Heap} : ∀ {vs : List Value} {ks : List (List Int)}, Paired (KItem h) vs ks → ∃ fs : List Value, PySem.W.KatTups h vs fs ∧ fs.length = vs.length ∧ ∀ f ∈ fs, ∃ n t, f = Value.int n t
  | _, _, .nil => ⟨[], .nil, rfl, fun f hf => absurd hf (by simp)⟩
  | _, _, .cons x r => by
    obtain ⟨fs, t, l, q⟩ := kitems_tups r
    obtain ⟨a, o, xs, n, tk, rfl, ho, hc, hd, hf⟩ := x.first
    refine ⟨_ :: fs, .cons ho hc hd hf t, by simp [l], fun f hf => ?_⟩
    rcases List.mem_cons.mp hf with z | z
    · exact ⟨_, _, z⟩
    · exact q f z
theorem lex_irr : ∀ k : List Int, Mix.lexLt k k = false
  | [] => rfl
  | x :: r => by
    show (if x = x then Mix.lexLt r r else decide (x < x)) = false
    rw [if_pos rfl]
    exact lex_irr r
theorem reads_ints {h : Heap} : ∀ {vs : List Value} {ns : List Int}, IntsAre vs ns → ∃ as, ReadsAll h vs (ns.map .int) as
  | _, _, .nil => ⟨_, .nil⟩
  | _, _, .cons n t r => let ⟨as, q⟩ := reads_ints r; ⟨_, .cons (.int n t) q⟩
theorem reads_list {h : Heap} {b : Addr} {its : Array Value} {k : List Int} (hl : h.IsList b its) (hi : IntsAre its.toList k) : ∃ as, Reads h (.ref b) (dI k) as := by
  obtain ⟨o, ho, hc, n, hd⟩ := hl
  obtain ⟨as, q⟩ := reads_ints hi
  exact ⟨_, .list ho hc hd q⟩
section
variable {prog : Program} {w : World} {A : Around} {E : Value → Shared → Prop} {s : Shared}
theorem key_lt {v u : Value} {j k : List Int} {Q : Bool → Shared → Prop} (hv : KItem s.heap v j) (hu : KItem s.heap u k) (hr : A.units + 8 < cLine) (h : Q (Mix.keyLt j k) s) : wpAny (model prog w) A (keyLt' (tuples' true) v u) Q E s := by
  obtain ⟨t1, b1, o1, n1, k1, i1, rfl, ho1, hc1, hd1, hl1, hi1⟩ := hv
  obtain ⟨t2, b2, o2, n2, k2, i2, rfl, ho2, hc2, hd2, hl2, hi2⟩ := hu
  refine PySem.W.kat_lt ho1 hd1 ho2 hd2 (PySem.W.kat_cons (SeqAt.EqAt.int_int _ _ _ _ prog w _ _ ?_))
  unfold Mix.keyLt at h
  by_cases hn : j.length = k.length
  · rw [if_pos hn] at h
    rw [show ((j.length : Int) == (k.length : Int)) = true by simp [hn]]
    refine PySem.W.kat_yes (PySem.W.kat_cons ?_)
    obtain ⟨as, r1⟩ := reads_list hl1 hi1
    obtain ⟨bs, r2⟩ := reads_list hl2 hi2
    refine SeqAt.eqAt_reads (dI j) (dI k) A s _ _ as bs r1 r2 (lay_dI j) (lay_dI k) ?_ prog w _ _ ?_
    · have := dep_dI j
      have := Nat.min_le_left (dI j).depth (dI k).depth
      omega
    rw [eqv_dI]
    by_cases e : j = k
    · rw [decide_eq_true e]
      refine PySem.W.kat_yes (PySem.W.kat_nil ?_)
      rw [e, lex_irr] at h
      exact h
    · rw [decide_eq_false e]
      refine PySem.W.kat_no (PySem.W.kat_one _ _ (lt_listInts hl1 hl2 hi1 hi2 ?_ (by omega) ?_))
      · have q1 := hi1.length
        have q2 := hi2.length
        simp only [Array.length_toList] at q1 q2
        omega
      · rw [lexLt_eq]
        exact h
  · rw [if_neg hn] at h
    rw [show ((j.length : Int) == (k.length : Int)) = false by simp; omega]
    refine PySem.W.kat_no (oneLt_int ?_)
    rw [show decide ((j.length : Int) < (k.length : Int)) = decide (j.length < k.length) by simp]
    exact h
/-- the kind of the keys -/
theorem key_kind {vs : List Value} {ks : List (List Int)} {Q : SortKind → Shared → Prop} (h : Paired (KItem s.heap) vs ks) (h2 : ¬ vs.length < 2) (q : Q (tuples' true) s) : wpAny (model prog w) A (keyKind' vs.toArray) Q E s := by
  obtain ⟨fs, t, l, hi⟩ := kitems_tups h
  refine PySem.W.kat_kind (T := .type "int") t (by omega) (fun v hv => ?_) (by rfl) q
  obtain ⟨n, tk, rfl⟩ := hi v hv
  exact PySem.W.Looks.now
theorem paired_at {α β : Type} {F : α → β → Prop} {xs : List α} {ys : List β} (h : Paired F xs ys) (h0 : xs ≠ []) (d : α) (e : β) (i : Nat) : F (xs.getD i (xs.headD d)) (ys.getD i (ys.headD e)) := by
  cases h with
  | nil => exact absurd rfl h0
  | @cons a b l1 l2 f r =>
    show F ((a :: l1).getD i a) ((b :: l2).getD i b)
    have key : ∀ {l1 : List α} {l2 : List β} (i : Nat), Paired F l1 l2 → F (l1.getD i a) (l2.getD i b) := by
      intro l1 l2 i r
      induction r generalizing i with
      | nil => simpa using f
      | cons g r ih =>
        cases i with
        | zero => simpa using g
        | succ i => simpa using ih i
    exact key i (.cons f r)
theorem range_getD {α β : Type} (f : α → β) (vs : List α) (d : α) : (List.range vs.length).map (fun i => f (vs.getD i d)) = vs.map f := by
  apply List.ext_getElem?
  intro i
  rw [List.getElem?_map, List.getElem?_map]
  by_cases hi : i < vs.length
  · simp [hi]
  · simp [hi]
theorem zip_self {α : Type} : ∀ vs : List α, vs.zip vs = vs.map fun v => (v, v)
  | [] => rfl
  | v :: r => by rw [List.zip_cons_cons, List.map_cons, zip_self r]
/-- sorted of such tuples -/
theorem sorted_keys {l : Addr} {vs : List Value} {ks : List (List Int)} {ord : Array Nat} {Q : Value → Shared → Prop} (hl : s.heap.IsList l vs.toArray) (hk : Paired (KItem s.heap) vs ks) (hu : A.units + 64 < cLine) (lv : ks.length ≤ 1000) (ho : Mix.order ks = some ord) (hz : ord.size ≤ 1000)
    (h : Q (.ref (s.heap.objs.size + 1)) { s with heap := sortedAll s.heap vs (ord.map fun i => vs.getD i (vs.headD .none)) }) : wpAny (model prog w) A (call (.builtin "sorted") [.ref l]) Q E s := by
  have hlen := hk.length
  have hu2 : A.in1.in1.units + 8 < cLine := by rw [units_in1, units_in1]; omega
  refine sorted_by _ hl (by omega) (fun s1 a P ha hold hoa hP => ?_) h
  unfold Mix.order at ho
  by_cases h2 : vs.length < 2
  · refine sort_small hoa h2 ?_
    rw [if_pos (by omega), ← hlen] at ho
    cases ho
    have e : (List.range vs.length).toArray.map (fun i => vs.getD i (vs.headD .none)) = vs.toArray := by
      have := range_getD id vs (vs.headD .none)
      rw [List.map_toArray]
      exact congrArg List.toArray (this.trans (List.map_id _))
    rw [e] at hP
    exact hP
  · rw [if_neg (by omega)] at ho
    cases hr : Srt.sortRunsP (fun i j => Mix.keyLt (Mix.keyAt ks i) (Mix.keyAt ks j)) ⟨(List.range ks.length).toArray, #[], 7⟩ with
    | none => rw [hr] at ho; cases ho
    | some x =>
      obtain ⟨⟨⟩, st⟩ := x
      rw [hr] at ho
      cases ho
      rw [← hlen] at hr
      refine sort_by (κ := tuples' true) (I := fun i => (vs.getD i (vs.headD .none), vs.getD i (vs.headD .none))) hoa h2 ?_ (fun s6 keep => ?_) hr (by omega) hz ?_
      · have := range_getD (fun v => (v, v)) vs (vs.headD .none)
        rw [List.map_toArray, this, List.zip_toArray]
        rw [zip_self]
      · have k6 : Paired (KItem s6.heap) vs ks := Paired.imp' (fun _ _ x => x.keeps fun b o e => keep b o (Nat.ne_of_lt (Nat.lt_trans (Heap.lt_size e) ha)) (hold b o e)) hk
        refine ⟨fun Q q => key_kind k6 h2 q, fun x y E Q q => ?_⟩
        have ne : vs ≠ [] := by
          intro z
          subst z
          exact h2 (by simp)
        exact key_lt (paired_at k6 ne _ [] x) (paired_at k6 ne _ [] y) hu2 q
      · rw [Array.map_map]
        exact hP
end
/-- at t stands a tuple of the length of k and a list of k -/
def KeyT (H : Hp) (t : Addr) (k : List Int) : Prop := ∃ b, H t = some (.tup [.int k.length, .ref b]) ∧ H b = some (.lst (k.map V.int))
def rSortK : List V → Hp → VK → Prop := fun xs H Q => ∃ (F : Addr) (ts : List Addr) (ks : List (List Int)) (ord : Array Nat), xs = [.ref F] ∧ H F = some (.lst (ts.map V.ref)) ∧ Paired (KeyT H) ts ks ∧ ks.length ≤ 1000 ∧ Mix.order ks = some ord ∧ ord.size ≤ 1000 ∧
  ∀ D, H D = none → Q (.ref D) (upd H D (.lst (ord.toList.map fun i => V.ref (ts.getD i (ts.headD 0)))))
theorem vals_refs : ∀ {ts : List Addr} {us : List Value}, Vals (ts.map V.ref) us → us = ts.map Value.ref
  | [], _, .nil => rfl
  | t :: r, _, .cons h q => by
    have h : _ = Value.ref t := h
    rw [h, vals_refs q]
    rfl
theorem call_sortK {X : Cx} (hu : X.A.units + 64 < cLine) : CallR X (.builtin "sorted") rSortK := by
  intro pins s σ H xs us Q I r h
  obtain ⟨F, ts, ks, ord, rfl, hF, hk, lk, ho, hz, q⟩ := h
  obtain ⟨u, rfl, ru⟩ := r.one
  cases (show u = Value.ref F from ru)
  obtain ⟨its, n, rv, hob, hl⟩ := I.lst hF
  have e := vals_refs rv
  subst e
  have hkI : Paired (KItem s.heap) (ts.map Value.ref) ks := by
    clear hF rv hob q ho hz lk
    induction hk with
    | nil => exact .nil
    | @cons t k l1 l2 f _ ih =>
      refine .cons ?_ (ih (by rw [List.map_cons, List.length_cons] at hl; omega))
      obtain ⟨b, h1, h2⟩ := f
      obtain ⟨_, it1, r1, ⟨o, e1, c1, m, d1⟩⟩ := (show ObjOk X.prog X.w H s.heap t _ from I.hok t _ h1)
      obtain ⟨its2, n2, r2, e2, _⟩ := I.lst h2
      obtain ⟨x1, x2, rfl, q1, q2⟩ := r1.two
      obtain ⟨tk, rfl⟩ := (show ∃ tk, x1 = Value.int (k.length : Nat) tk from q1)
      cases (show x2 = Value.ref b from q2)
      exact ⟨t, b, o, m, tk, its2.toArray, rfl, e1, c1, d1, ⟨_, e2, rfl, _, rfl⟩, by simpa using intsAre_of r2⟩
  refine sorted_keys (vs := ts.map Value.ref) ⟨_, hob, rfl, _, rfl⟩ hkI hu lk ho hz ?_
  have hout : (ord.map fun i => (ts.map Value.ref).getD i ((ts.map Value.ref).headD .none)).toList = ord.toList.map fun i => (ts.map Value.ref).getD i ((ts.map Value.ref).headD .none) := by simp
  refine ⟨.ref (s.heap.objs.size + 1), _, I.laid (t' := s.toks) (a := s.heap.objs.size + 1) (o := .lst (ord.toList.map fun i => V.ref (ts.getD i (ts.headD 0)))) (fun b ob e => sortedAll_old e) (Nat.le_succ _) ?_, rfl, q _ (I.hok.fresh (Nat.le_succ _))⟩
  obtain ⟨e, he⟩ := sortedAll_at s.heap (ts.map Value.ref) (ord.map fun i => (ts.map Value.ref).getD i ((ts.map Value.ref).headD .none))
  refine ⟨by rw [List.length_map, Array.length_toList]; exact le_1000 hz, ord.toList.map (fun i => (ts.map Value.ref).getD i ((ts.map Value.ref).headD .none)), e, ?_, ?_⟩
  · have hd : ord.toList = [] ∨ ∀ i, (ts.map Value.ref).getD i ((ts.map Value.ref).headD .none) = Value.ref (ts.getD i (ts.headD 0)) := by
      cases ts with
      | nil =>
        cases hk
        left
        have : some (List.range 0).toArray = some ord := ho
        cases this
        rfl
      | cons t r =>
        right
        intro i
        show ((t :: r).map Value.ref).getD i (Value.ref t) = Value.ref ((t :: r).getD i t)
        rw [List.getD_eq_getElem?_getD, List.getD_eq_getElem?_getD, List.getElem?_map]
        cases (t :: r)[i]? <;> rfl
    rcases hd with hd | hd
    · rw [hd]
      exact .nil
    · generalize ord.toList = l
      induction l with
      | nil => exact .nil
      | cons i l ih => exact .cons (hd i) ih
  · have harr : ord.map (fun i => (ts.map Value.ref).getD i ((ts.map Value.ref).headD .none)) = (ord.toList.map fun i => (ts.map Value.ref).getD i ((ts.map Value.ref).headD .none)).toArray := by
      rw [← hout]
    rw [he, harr]
end L2

/-! MATH 2: all sets of at most the most wares, in order. -/
namespace Mix
/-- the least ware that may be put behind a set -/
def first (s : List Int) : Nat := match s.getLast? with
  | none => 0
  | some x => (x + 1).toNat
def more (w : Nat) (s : List Int) : List (List Int) := (List.range (w - first s)).map fun (i : Nat) => s ++ [((first s + i : Nat) : Int)]
def layer (w : Nat) : Nat → List (List Int)
  | 0 => [[]]
  | k + 1 => (layer w k).flatMap (more w)
def sets (w : Nat) : Nat → List (List Int)
  | 0 => [[]]
  | k + 1 => sets w k ++ layer w (k + 1)
/-- the sets as the numbers give them, before they are put in order -/
def keysTo (w m c : Nat) : List (List Int) := ((List.range c).map fun (c : Nat) => someBy c w).filter fun s => decide (s.length ≤ m)
theorem keysTo_succ (w m c : Nat) : keysTo w m (c + 1) = if (someBy c w).length ≤ m then keysTo w m c ++ [someBy c w] else keysTo w m c := by
  unfold keysTo
  rw [List.range_succ, List.map_append, List.filter_append]
  by_cases h : (someBy c w).length ≤ m
  · rw [if_pos h]
    congr 1
    rw [List.map_cons, List.map_nil, List.filter_cons, if_pos (decide_eq_true h)]
    rfl
  · rw [if_neg h]
    rw [List.map_cons, List.map_nil, List.filter_cons, if_neg (fun z => h (of_decide_eq_true z))]
    simp
theorem keysTo_len (w m c : Nat) : (keysTo w m c).length ≤ c := by
  unfold keysTo
  have := List.length_filter_le (fun s : List Int => decide (s.length ≤ m)) ((List.range c).map fun (c : Nat) => someBy c w)
  rw [List.length_map, List.length_range] at this
  exact this
/-- layers and sets are small, and of wares alone -/
def smallOk (w m : Nat) : Bool := decide ((layer w m).length ≤ 100) && (decide ((sets w m).length ≤ 100) && ((layer w m).all fun s => s.all (fun x => decide (0 ≤ x) && decide (x < w)) && decide (s.length ≤ 3)) && (sets w m).all fun s => isSet w s && decide (s.length ≤ m))
theorem small_all : (List.range 9).all (fun w => (List.range 4).all fun m => smallOk w m) = true := by decide +kernel
theorem small {w m : Nat} (hw : w ≤ 8) (hm : m ≤ 3) : (layer w m).length ≤ 100 ∧ (sets w m).length ≤ 100 ∧ (∀ s ∈ layer w m, (∀ x ∈ s, 0 ≤ x ∧ x < w) ∧ s.length ≤ 3) ∧ ∀ s ∈ sets w m, isSet w s = true ∧ s.length ≤ m := by
  have h := small_all
  simp only [List.all_eq_true, List.mem_range] at h
  have := h w (by omega) m (by omega)
  unfold smallOk at this
  simp only [Bool.and_eq_true, decide_eq_true_eq, List.all_eq_true] at this
  obtain ⟨h1, ⟨h2, h3⟩, h4⟩ := this
  exact ⟨h1, h2, h3, h4⟩
end Mix

/-! MATH 2s: sorted puts the sets in order. -/
namespace Mix
/-- sorted puts them in order: gone through for each number of wares and each most -/
def sortOk (w m : Nat) : Bool := match order (keysTo w m (2 ^ w)) with
  | none => false
  | some o => decide (o.size ≤ 1000) && decide (o.toList.map (keyAt (keysTo w m (2 ^ w))) = sets w m)
theorem sort_low : (List.range 7).all (fun w => (List.range 4).all fun m => sortOk w m) = true := by decide +kernel
theorem sort_high : (List.range 3).all (fun m => sortOk 7 m && sortOk 8 m) = true := by decide +kernel
theorem sort_73 : sortOk 7 3 = true := by decide +kernel
theorem sort_83 : sortOk 8 3 = true := by decide +kernel
theorem sort_ok {w m : Nat} (hw : w ≤ 8) (hm : m ≤ 3) : sortOk w m = true := by
  have low := sort_low
  have high := sort_high
  simp only [List.all_eq_true, List.mem_range, Bool.and_eq_true] at low high
  by_cases h7 : w < 7
  · exact low w h7 m (by omega)
  · by_cases h3 : m < 3
    · have := high m h3
      obtain rfl | rfl : w = 7 ∨ w = 8 := by omega
      · exact this.1
      · exact this.2
    · obtain rfl : m = 3 := by omega
      obtain rfl | rfl : w = 7 ∨ w = 8 := by omega
      · exact sort_73
      · exact sort_83
theorem sort_sets {w m : Nat} (hw : w ≤ 8) (hm : m ≤ 3) : ∃ o, order (keysTo w m (2 ^ w)) = some o ∧ o.size ≤ 1000 ∧ o.toList.map (keyAt (keysTo w m (2 ^ w))) = sets w m := by
  have h := sort_ok hw hm
  unfold sortOk at h
  cases e : order (keysTo w m (2 ^ w)) with
  | none => rw [e] at h; cases h
  | some o =>
    rw [e] at h
    simp only [Bool.and_eq_true, decide_eq_true_eq] at h
    exact ⟨o, rfl, h⟩
end Mix

/-! EXT 6: cuts that are chosen while one reads; one for many ways. -/
namespace L2
open PySem PySem.Spec PyProof.Rows
/-- an expression, by what holds of its value -/
def tCut (t : TE) : TE := fun σ H Q => ∃ R : VK, t σ H R ∧ ∀ v H', R v H' → Q v H'
theorem pe_cut {X : Cx} {e : Expr} {t : TE} (h : PE X e t) : PE X e (tCut t) := by
  intro pins s σ H Q I q
  obtain ⟨R, h1, h2⟩ := q
  exact thn (h pins s σ H R I h1) fun v s1 ⟨x, H1, I1, r1, q1⟩ => ⟨x, H1, I1, r1, h2 x H1 q1⟩
/-- a statement, by what holds behind it -/
def tCutS (t : TS) : TS := fun D σ H => ∃ mid : St → Hp → Prop, t { D with nx := mid } σ H ∧ ∀ σ' H', mid σ' H' → D.nx σ' H'
theorem ps_cut {X : Cx} {st : Stmt} {t : TS} (h : PS X st t) : PS X st (tCutS t) := by
  intro pins s σ H D I q
  obtain ⟨mid, h1, h2⟩ := q
  refine thn (h pins s σ H _ I h1) fun f s1 z => ?_
  cases f with
  | next => obtain ⟨σ1, H1, I1, q1⟩ := z; exact ⟨σ1, H1, I1, h2 _ _ q1⟩
  | brk => exact z
  | cont => exact z
  | ret v => exact z
theorem Nw.at {H H2 : Hp} {D : Addr} {p : List (List Int)} (N : Nw H H2 D p) {xs : List V} (e : H2 D = some (.lst xs)) : Paired (fun (u : V) (ns : List Int) => ∃ b, u = V.ref b ∧ b ≠ D ∧ H b = none ∧ H2 b = some (.lst (ns.map V.int))) xs p := by
  obtain ⟨_, ys, e', r⟩ := N
  rw [e] at e'
  cases e'
  exact r
/-- the lists of a new list are put behind another -/
theorem Nw.put {H H2 H3 : Hp} {D y : Addr} {p q : List (List Int)} {fs ys : List V} (N : Nw H H2 D p) (s : Same H H2) (s2 : Same H2 H3) (M : Nw H2 H3 y q) (e : H3 D = some (.lst fs)) (ey : H3 y = some (.lst ys)) :
    Nw H (L2.upd H3 D (.lst (fs ++ ys))) D (p ++ q) ∧ Nw H (L2.upd H3 D (.lst (fs ++ ys))) y q ∧ y ≠ D := by
  obtain ⟨zs, ez, _⟩ := id N.ex
  have hD : ∀ b, H2 b = none → b ≠ D := fun b hb => (ne_of_none ez hb).symm
  have nyD : y ≠ D := hD y M.fr
  have r1 := (N.same s2).at e
  have r2 := M.at ey
  refine ⟨⟨N.fr, _, upd_same, Paired.append (Paired.imp' (fun _ _ ⟨b, h1, h2, h3, h4⟩ => ⟨b, h1, h2, h3, by rw [upd_ne h2]; exact h4⟩) r1) (Paired.imp' (fun _ _ ⟨b, h1, h2, h3, h4⟩ => ⟨b, h1, hD b h3, s.free h3, by rw [upd_ne (hD b h3)]; exact h4⟩) r2)⟩,
    ⟨s.free M.fr, ys, by rw [upd_ne nyD]; exact ey, Paired.imp' (fun _ _ ⟨b, h1, h2, h3, h4⟩ => ⟨b, h1, h2, s.free h3, by rw [upd_ne (hD b h3)]; exact h4⟩) r2⟩, nyD⟩
/-- two names of a comprehension's own, by a tuple of two -/
theorem pg_lc2 {X : Cx} {scope : Scope} {N : List Str} {cl : List (Str × Addr)} {C : Addr} {fp : List Addr} {s : Shared} {H : Hp} {x y : Str} {px py pos : Pos} {k : Nat} (hc : X.calm = true) (hN : N.Nodup) (hi : N[0]? = some x := by rfl) (hj : N[1]? = some y := by rfl)
    (hx : Loc (relabel scope X.env) x := by first | exact Or.inl rfl | exact Or.inr rfl) (hf : (relabel scope X.env).names.lookup x = some .local := by rfl)
    (hy : Loc (relabel scope X.env) y := by first | exact Or.inl rfl | exact Or.inr rfl) (hg : (relabel scope X.env).names.lookup y = some .local := by rfl) :
    PG (cxLc X scope N cl C fp s H) (.Tuple [.Name x px, .Name y py] k pos) (gTup X.K 2 (gCons (gName 0) (gCons (gName 1) gNil))) :=
  pg_tup (X := cxLc X scope N cl C fp s H) (n := 2) hc (pgs_cons (pg_lc 0 hN hi hx hf) (pgs_cons (pg_lc 1 hN hj hy hg) pgs_nil))
/-! ### lists of bools -/
def dB (bs : List Bool) : PyData := .list (bs.map .bool)
theorem eqvAll_bools : ∀ a b : List Bool, PyData.eqvAll (a.map .bool) (b.map .bool) = decide (a = b)
  | [], [] => by simp [PyData.eqvAll]
  | [], y :: ys => by simp [PyData.eqvAll]
  | x :: xs, [] => by simp [PyData.eqvAll]
  | x :: xs, y :: ys => by
    rw [List.map_cons, List.map_cons, PyData.eqvAll, PyData.eqv, eqvAll_bools xs ys]
    by_cases h : x = y <;> simp [h]
theorem eqv_dB (a b : List Bool) : PyData.eqv (dB a) (dB b) = decide (a = b) := by
  unfold dB
  rw [PyData.eqv, eqvAll_bools]
theorem lay_bools : ∀ a : List Bool, PyData.canLayAll0 (a.map .bool) = true
  | [] => by simp [PyData.canLayAll0]
  | x :: xs => by rw [List.map_cons, PyData.canLayAll0, lay_bools xs]; simp [PyData.canLay0]
theorem lay_dB (a : List Bool) : (dB a).canLay0 = true := by
  unfold dB
  rw [PyData.canLay0]
  exact lay_bools a
theorem dep_bools : ∀ a : List Bool, PyData.depthAll (a.map .bool) ≤ 1
  | [] => by simp [PyData.depthAll]
  | x :: xs => by have := dep_bools xs; rw [List.map_cons]; simp only [PyData.depthAll, PyData.depth]; omega
theorem dep_dB (a : List Bool) : (dB a).depth ≤ 2 := by
  unfold dB
  have := dep_bools a
  simp only [PyData.depth]; omega
/-- v is a list of the bools bs -/
def LB (H : Hp) (v : V) (bs : List Bool) : Prop := ∃ a, v = .ref a ∧ H a = some (.lst (bs.map V.bl))
theorem LB.same {H H' : Hp} {v : V} {bs : List Bool} (s : Same H H') (h : LB H v bs) : LB H' v bs := let ⟨a, e, q⟩ := h; ⟨a, e, s _ _ q⟩
theorem datAll_bools {K : PySem.W.Frag} {H : Hp} : ∀ bs : List Bool, DatAll K H (bs.map V.bl) (bs.map .bool)
  | [] => .nil
  | n :: r => .cons (.bl n) (datAll_bools r)
theorem LB.dat {K : PySem.W.Frag} {H : Hp} {v : V} {bs : List Bool} (h : LB H v bs) : Dat K H v (dB bs) := by
  obtain ⟨a, rfl, e⟩ := h
  exact .lst (.of e) (datAll_bools bs)
/-- a list of a plan and of answers -/
theorem eqv_pb (p : List (List Int)) (t : List Bool) : PyData.eqv (.list [dL p, dB t]) (.list [dL p, dB t]) = true := by
  simp only [PyData.eqv, PyData.eqvAll, eqv_dL, eqv_dB]
  simp
theorem lay_pb (p : List (List Int)) (t : List Bool) : (PyData.list [dL p, dB t]).canLay0 = true := by
  simp only [PyData.canLay0, PyData.canLayAll0, lay_dL, lay_dB]
  rfl
theorem dep_pb (p : List (List Int)) (t : List Bool) : (PyData.list [dL p, dB t]).depth ≤ 60 := by
  have h1 := dep_dL p
  have h2 := dep_dB t
  simp only [PyData.depth, PyData.depthAll]
  omega
theorem dat_pb {K : PySem.W.Frag} {H : Hp} {a : Addr} {x y : V} {p : List (List Int)} {t : List Bool} (h : H a = some (.lst [x, y])) (hx : LL H x p) (hy : LB H y t) : Dat K H (.ref a) (.list [dL p, dB t]) :=
  .lst (.of h) (.cons hx.dat (.cons hy.dat .nil))
/-- [list(mixture) for mixture in plan]: d is the new list -/
theorem copy_lc {K : PySem.W.Frag} {H : Hp} {R : Hp → Prop} {D d : Addr} {xs : List V} {p : List (List Int)} (ex : H D = some (.lst xs)) (rx : Paired (LI H) xs p) (h9 : p.length ≤ 900) (hd : H d = none) (h : ∀ H4, Same H H4 → Nw H H4 d p → R H4) :
    ∃ W : Nat → Nat → St → Hp → Prop, (∃ m, W 0 m [none] (L2.upd H d (.lst []))) ∧
      ∀ i m σ' H', W i m σ' H' → ((Itl K D).stop i H' ∧ R H') ∨ ((Itl K D).go i H' ∧ ∃ N : St → Hp → Prop, (∀ σ2 H2, N σ2 H2 → ∃ m', m' < m ∧ W (i + 1) m' σ2 H2) ∧
        ∀ x H2, (Itl K D).yld i H' x H2 → gName 0 x σ' H2 fun σ3 H3 => tYes σ3 H3 fun ok H4 => if ok = true then tCB (rListOf K) (tCons (tVar 0) tNil) σ3 H4 fun y H5 => ∃ ys, H5 d = some (.lst ys) ∧ ys.length < sizeLine ∧ N σ3 (L2.upd H5 d (.lst (ys ++ [y]))) else N σ3 H4) := by
  have hlen := rx.length
  refine lc_list (K := K) (a := D) (xs := xs) (fun i σ H4 => ∃ c : Option V, σ = [c] ∧ Nw H H4 d (p.take i) ∧ Same H H4)
    ⟨none, rfl, Nw.nil hd upd_same, same_upd hd⟩ (fun i σ H4 _ ⟨_, _, _, s4⟩ => SqL.of (s4 _ _ ex)) ?_ ?_
  · rintro i y σ H4 hi ⟨c, rfl, N4, s4⟩
    obtain ⟨m, hm, b, rfl, hbm⟩ := Paired.get rx hi
    obtain ⟨ys, ey, ry⟩ := N4.ex
    have hlen4 := ry.length
    rw [List.length_take] at hlen4
    refine yesG ?_
    refine ⟨_, rfl, b, _, rfl, .inl (SqL.of (s4 _ _ hbm)), fun q hq => ⟨ys, same_upd hq _ _ ey, lt1000 (by omega), _, rfl, ?_, ?_⟩⟩
    · rw [List.take_add_one, hm]
      exact N4.snoc (same_upd hq) ey (s4.free hq) (ne_of_none ey hq).symm upd_same
    · exact (s4.trans (same_upd hq)).upd N4.fr
  · rintro σ H4 ⟨c, rfl, N4, s4⟩
    rw [hlen, List.take_length] at N4
    exact h H4 s4 N4
/-- xs[:k] -/
theorem cut_upto (xs : List V) (k : Nat) : cutV xs none (some (k : Int)) = xs.take k := by
  unfold cutV
  rw [HT.sIx_none, HT.sIx_nat, List.drop_zero, Nat.sub_zero]
  by_cases h : k ≤ xs.length
  · rw [Nat.min_eq_left h]
  · rw [Nat.min_eq_right (by omega), List.take_length, List.take_of_length_le (by omega)]
end L2

/-! MATH 3: covers, clashes. -/
namespace Mix
/-- all mixtures that have x are spoilt -/
def aloneAt (x : Int) (p : List (List Int)) (bs : List Bool) (k : Nat) : Bool := !((p.getD k []).contains x) || bs.getD k true
def alone (x : Int) (p : List (List Int)) (bs : List Bool) : Bool := (List.range p.length).all (aloneAt x p bs)
def plain (n : Nat) (p : List (List Int)) (bs : List Bool) : List Int := pick (fun i => alone (i : Int) p bs) n
end Mix

/-! MATH 4: what sets are there; clashes, covers and plain reading as statements over all sets. -/
namespace Mix
/-! clashes -/
/-! covers -/
/-- one ware more put among a set -/
def put (x : Int) : List Int → List Int
  | [] => [x]
  | y :: r => if x < y then x :: y :: r else y :: put x r
/-! sorting out -/
def haveN (x : Int) (ss : List (List Int)) : Nat := (ss.filter fun s => s.contains x).length
def inAll (ss : List (List Int)) (i : Nat) : Bool := decide (haveN (i : Int) ss = ss.length)
def inNone (ss : List (List Int)) (i : Nat) : Bool := !(inAll ss i) && decide (haveN (i : Int) ss = 0)
def inSome (ss : List (List Int)) (i : Nat) : Bool := !(inAll ss i) && !decide (haveN (i : Int) ss = 0)
end Mix

/-! EXT 11: exceptions: how one lies behind a call, how one is raised, how one leaves a def. -/
namespace L2
open PySem PySem.Spec PyProof.Rows
theorem ObjOk.is {P : Program} {w : World} {H : Hp} {h : Heap} {a : Addr} {o : HO} (x : ObjOk P w H h a o) : ∃ ob, h.get? a = some ob := by
  cases o with
  | lst xs => obtain ⟨_, _, _, _, e⟩ := x; exact ⟨_, e⟩
  | tup xs => obtain ⟨_, _, _, ob, e, _⟩ := x; exact ⟨_, e⟩
  | dK kvs => obtain ⟨_, _, _, _, o, _, _, e, _⟩ := x; exact ⟨_, e⟩
  | dT kvs => obtain ⟨_, _, _, _, o, _, _, e, _⟩ := x; exact ⟨_, e⟩
  | set S n => obtain ⟨o, _, _, _, e, _⟩ := x; exact ⟨_, e⟩
  | ins C dx fs => obtain ⟨_, _, _, e, _⟩ := x; exact ⟨_, e⟩
  | own y => exact x
  | xd fs => obtain ⟨_, ⟨_, _, _, e, _⟩, _⟩ := x; exact ⟨_, e⟩
  | rng lo hi => obtain ⟨_, _, _, e⟩ := x; exact ⟨_, e⟩
  | frz ob u => exact ⟨_, x.1⟩
  | tbl ps => exact ⟨_, x⟩
  | met f y => exact ⟨_, x⟩
  | ext φ => exact x.2.1
/-- B bears all that stood at s, and all that is tracked, but the frames at l -/
def Covers (l : List Env) (h : Heap) (H' : Hp) (h' B : Heap) : Prop := ∀ b o, h'.get? b = some o → ((∃ o₀, h.get? b = some o₀) ∨ H' b ≠ none) → b ∉ frs l → B.get? b = some o
/-- an exception of the class C has left a call -/
def CX1 (P : Program) (w : World) : CXT := fun outer H s E v s' => ∃ (e : Addr) (C a0 : Value) (B : Heap) (H' : Hp), v = .ref e ∧ s'.os = s.os ∧ AllBare s'.gens ∧ Un (frs outer) [] H H' s.heap s'.heap ∧ HOk P w H' s'.heap ∧
  Heap.FlyingW B outer e C a0 s'.heap ∧ s.heap.get? e = none ∧ (∀ b ∈ frs outer, H' b = none) ∧ Covers outer s.heap H' s'.heap B ∧ H' e = none ∧ E C none H'
/-- behind a further step of what an exception writes -/
theorem un_on {l : List Env} {H H' : Hp} {h h1 h2 B base : Heap} (un : Un (frs l) [] H H' h h1) (fl : h1.FunFrames base l) (cov : Covers l h H' h1 B) (st : B.StaysIn h2) (up : h1.UpToSlots h2) : Un (frs l) [] H H' h h2 where
  keep := fun b o q n hb hx => st b o (cov b o (un.keep b o q n hb hx) (.inl ⟨o, q⟩) hb)
  slot := fun b o q n hb hx => by
    obtain ⟨sl, e⟩ := un.slot b o q n hb hx
    obtain ⟨_, o', ho', hd⟩ := fl.mem hb
    rw [e] at ho'
    cases ho'
    obtain ⟨sl', e'⟩ := up b _ e hd
    exact ⟨sl', e'⟩
  free := un.free
  there := fun b o q hx => by
    obtain ⟨o', e⟩ := un.there b o q hx
    by_cases hb : b ∈ frs l
    · obtain ⟨_, o2, ho2, hd⟩ := fl.mem hb
      obtain ⟨sl', e'⟩ := up b _ ho2 hd
      exact ⟨_, e'⟩
    · exact ⟨o', st b o' (cov b o' e (.inl ⟨o, q⟩) hb)⟩
  tups := un.tups
  frzs := un.frzs
  tbls := un.tbls
theorem hok_on {P : Program} {w : World} {l : List Env} {H' : Hp} {h h1 h2 B : Heap} (ok : HOk P w H' h1) (fr : ∀ b ∈ frs l, H' b = none) (cov : Covers l h H' h1 B) (st : B.StaysIn h2) : HOk P w H' h2 := fun b u e => by
  have hn : ∀ c v, H' c = some v → c ∉ frs l := fun c v q hc => by rw [fr c hc] at q; cases q
  refine (ok b u e).stay (fun c v hc r => st c v (cov c v r (.inr ?_) ?_)) (fun _ q => q) fun _ _ q => q
  · rcases hc with rfl | hc
    · rw [e]; exact fun z => nomatch z
    · rw [hc]; exact fun z => nomatch z
  · rcases hc with rfl | hc
    · exact hn _ _ e
    · exact hn _ _ hc
section
variable {P : Program} {w : World} {K : PySem.W.Frag} {mg : Str → Option Value} {base : Heap} {N : List Str} {qual : Str} {scope : Scope} {f : Addr} {cd : Value} {A : Around} {outer : List Env} {s₀ : Shared} {H₀ : Hp} {E : XK}
/-- an exception that was just made leaves a def's body -/
theorem made_leaves {pins : List (Addr × Obj)} {σ : St} {H : Hp} {s : Shared} {h' : Heap} {e : Addr} {C : Value} {vs : List Value} (I : Inv (cxOf (CX1 P w) P w K mg base N qual scope f cd A outer s₀ H₀ E) pins σ H s) (hx : Heap.MadeExcOf s.heap h' e C vs) (q : E C none H) :
    (cxOf (CX1 P w) P w K mg base N qual scope f cd A outer s₀ H₀ E).xe (.ref e) { s with heap := h' } := by
  have hL : (envOfC qual scope s₀.heap.objs.size f cd).frame = some s₀.heap.objs.size := rfl
  show wpAny (model P w) (A.deeper (envOfC qual scope s₀.heap.objs.size f cd)) (leaving (envOfC qual scope s₀.heap.objs.size f cd) (.ref e)) _ _ { s with heap := h' }
  have hin : ∀ env ∈ ((envOfC qual scope s₀.heap.objs.size f cd) :: outer), ∀ b, env.frame = some b → b ∈ frs ((envOfC qual scope s₀.heap.objs.size f cd) :: outer) := fun env he b hb => List.mem_filterMap.mpr ⟨env, he, hb⟩
  have ff : s.heap.FunFrames base ((envOfC qual scope s₀.heap.objs.size f cd) :: outer) := I.stack
  refine wpAny_leaves_madeW (base := PySem.W.hideAll s.heap (frs ((envOfC qual scope s₀.heap.objs.size f cd) :: outer))) (h := s.heap) I.ok.frames hL (fun b o z => PySem.W.of_hideAll _ z) (PySem.W.funFrames_hide ff hin) hx fun h'' t fly htup hbt up => ?_
  have cov : Covers ((envOfC qual scope s₀.heap.objs.size f cd) :: outer) s.heap H s.heap (PySem.W.hideAll s.heap (frs ((envOfC qual scope s₀.heap.objs.size f cd) :: outer))) := fun b o e _ hb => PySem.W.hideAll_get _ e hb
  have up2 : s.heap.UpToSlots h'' := (Heap.UpToSlots.of_keeps hx.keeps).trans up
  have fr : ∀ b ∈ frs ((envOfC qual scope s₀.heap.objs.size f cd) :: outer), H b = none := I.stkFree
  have un' := un_on (Un.refl (fs := frs ((envOfC qual scope s₀.heap.objs.size f cd) :: outer)) (ex := []) (H := H) (h := s.heap)) ff cov fly.1 up2
  have hok' := hok_on I.hok fr cov fly.1
  have J : Inv (cxOf (CX1 P w) P w K mg base N qual scope f cd A outer s₀ H₀ E) pins σ H { s with heap := h'' } := I.call' (s' := { s with heap := h'' }) (ch := []) rfl un' hok' I.bare (fun b z => nomatch z)
  have hs0 : ∀ b o, s₀.heap.get? b = some o → b ≠ s₀.heap.objs.size := fun b o e => Nat.ne_of_lt (Heap.lt_size e)
  have hHe : H e = none := by
    cases z : H e with
    | none => rfl
    | some u =>
      obtain ⟨ob, hob⟩ := (I.hok e u z).is
      rw [hx.new] at hob
      cases hob
  refine ⟨e, C, .ref t, _, H, rfl, J.os, J.bare, J.base, J.hok, fly, ?_, fun b hb => fr b (List.mem_cons_of_mem _ hb), fun b o hb hc hf => ?_, hHe, q⟩
  · cases z : s₀.heap.get? e with
    | none => rfl
    | some o =>
      obtain ⟨o', e'⟩ := I.base.there e o z (fun z => nomatch z)
      rw [hx.new] at e'
      cases e'
  · have hb' : b ∉ frs ((envOfC qual scope s₀.heap.objs.size f cd) :: outer) := fun z => by
      rcases List.mem_cons.mp (show b ∈ s₀.heap.objs.size :: frs outer from z) with z | z
      · rcases hc with ⟨o₀, h0⟩ | hc
        · exact hs0 b o₀ h0 z
        · exact hc (by rw [z]; exact J.free)
      · exact hf z
    obtain ⟨o', e1⟩ : ∃ o', s.heap.get? b = some o' := by
      rcases hc with ⟨o₀, h0⟩ | hc
      · exact I.base.there b o₀ h0 (fun z => nomatch z)
      · cases z : H b with
        | none => exact absurd z hc
        | some u => exact (I.hok b u z).is
    have e2 := PySem.W.hideAll_get _ e1 hb'
    have := fly.1 b o' e2
    rw [hb] at this
    cases this
    exact e2
end
end L2

/-! EXT 12: a def that may raise; raise; texts with a number in them. -/
namespace L2
open PySem PySem.Spec PyProof.Rows
/-- a def that may raise, and keeps its promise -/
structure OkX (P : Program) (w : World) (K : PySem.W.Frag) (mg : Str → Option Value) (base : Heap) (x : Str) (k : Nat) (ps : List Str) (sp : Sp) : Prop where
  ex : ∃ (f : Addr) (fd : FuncData), FnOk P w K mg base (CX1 P w) k f fd ps sp ∧ mg x = some (.ref f) ∧ PySem.W.keepIn K (.ref f) = true ∧ Binds K fd ps []
section
variable {P : Program} {w : World} {K : PySem.W.Frag} {mg : Str → Option Value} {base : Heap}
theorem OkX.mono {x : Str} {j k : Nat} {ps : List Str} {sp : Sp} (O : OkX P w K mg base x j ps sp) (h : j ≤ k) : OkX P w K mg base x k ps sp := by
  obtain ⟨f, fd, F, r⟩ := O.ex
  exact ⟨f, fd, F.mono h, r⟩
theorem Def.okX {x : Str} {st : Stmt} {N ps : List Str} {k : Nat} {sp : Sp} (D : Def K mg x st) (S : FnScope N ps (defScope st))
    (hb : ∀ (kV doc pm : Value) (an : Option Addr) (cdv ct : Value) (us : List Value), us.length = ps.length → bindArgs (PySem.W.fnOf x x (defArgs st) (defBody st) (defScope st) .none kV doc pm an cdv ct) ⟨us, []⟩ = pure (ps.zip us))
    (len : ∀ vs H Q E, sp vs H Q E → vs.length = ps.length)
    (hbody : ∀ (f : Addr) (cdv : Value) (A : Around) (outer : List Env) (s : Shared) (H : Hp) (vs : List V) (Q : VK) (E : XK), Room k (A.deeper (envOfC x (defScope st) s.heap.objs.size f cdv)) → sp vs H Q E →
      ∃ t, PSs (cxOf (CX1 P w) P w K mg base N x (defScope st) f cdv A outer s H E) (defBody st) t ∧ t { nx := fun _ H' => Q .non H', rt := Q } (start N vs) H) : OkX P w K mg base x (k + 1) ps sp := by
  obtain ⟨f, fd, F, m⟩ := D.ex
  refine ⟨f, fd, ?_, m, F.kp, F.binds hb⟩
  obtain ⟨oc, od, kV, doc, pm, an, cdv, ct, osl, rfl, lk, hcd⟩ := F.ex
  exact fn_of lk hcd S len fun A outer s H vs Q E hr hsp => hbody f cdv A outer s H vs Q E hr hsp
end
/-- a call of a def that may raise -/
theorem pe_callX {X : Cx} {x : Str} {k : Nat} {ps : List Str} {sp : Sp} {p pos : Pos} {e : Expr} {es : List Expr} {t : TA} {E : XK} (O : OkX X.prog X.w X.K X.mg X.base x k ps sp) (hr : Room k X.A) (hx : Passes (CX1 X.prog X.w) X E) (ha : PA X (e :: es) t) (hg : Gl X x := by rfl) (hdb : (x == ("__debug__" : Str)) = false := by decide)
    (he : starEach (e :: es) X.env = (false, eval e X.env) :: starEach es X.env := by rfl) (hpl : (backTo pos (starEach es X.env)).any (·.1) = false := by rfl) : PE X (.Call (.Name x p) (e :: es) [] pos) (tCall sp [] E t) := by
  obtain ⟨f, fd, F, m, kp, b⟩ := O.ex
  exact pe_call F hr hg m kp b .nil hx ha hdb he hpl
theorem PS.nox {X : Cx} {st : Stmt} {t : TS} (h : PS X.nox st t) : PS X st t := fun pins s σ H D I hw =>
  wpAny_mono (h pins s σ H D (I.wish _) hw) (fun _ _ q => q.unwish) fun _ _ z => False.elim z
/-! ### raise -/
theorem exc_obj {K : PySem.W.Frag} {h : Heap} {C : Addr} {bmB : List Value} {newId : String} (X : K.In h) (q : PySem.W.excIn K C bmB newId = true) :
    ∃ (bm : List Value) (N : Addr) (nm qn : Str) (bs : List Value) (hd : Bool) (sn : List Str) (sub : List Value) (ab : Bool) (col : Option Bool) (dd : Option Addr) (k0 k1 k2 k3 k5 : Option Value) (mN : Str → Option Value),
      h.get? C = some (excClassObj nm qn C N bs bm hd sn sub ab col dd k0 k1 k2 k3 k5 newId) ∧ h.Ns N mN ∧ mN "__init__" = none ∧ OwnTail h bmB bm ∧ ∀ (v : Value) (b : Bool), PySem.W.mroIn K C v = some b → (Value.ref C :: bm).contains v = b := by
  unfold PySem.W.excIn at q
  split at q
  · rename_i dd cd sl ho
    split at q
    · rename_i C' bm k0 k1 k2 k3 n k5 hm hs
      simp only [Bool.and_eq_true, beq_iff_eq, Bool.not_eq_true'] at q
      obtain ⟨⟨⟨⟨⟨rfl, rfl⟩, hdel⟩, ht⟩, hok⟩, hni⟩ := q
      obtain ⟨nm, bs, mro, ns, qn, hd, sn, sub, ab, col, del⟩ := cd
      dsimp only at hm hdel hok hni
      subst hm hdel
      have hsl : sl = #[k0, k1, k2, k3, some (.builtin n), k5] := by
        obtain ⟨l⟩ := sl
        simp only at hs
        rw [hs]
      subst hsl
      refine ⟨bm, ns, nm, qn, bs, hd, sn, sub, ab, col, dd, k0, k1, k2, k3, k5, _, X _ _ ho, .of_isNs (PySem.W.isNs_of_in X hok), PySem.W.nsMap_none_of_in X hok hni, PySem.W.tail_of_in X ht, fun v b z => ?_⟩
      unfold PySem.W.mroIn PySem.W.clsIn at z
      rw [ho] at z
      exact Option.some.inj z
    · cases q
  · cases q
abbrev veMro : List Value := [.type "ValueError", .type "Exception", .type "BaseException", .type "object"]
/-- raise C(..): what is wanted of the exception -/
def tRaise (C : Addr) (E : XK) (t : TA) : TS := fun _ σ H => t σ H fun vs H1 => vs.length ≤ sizeLine ∧ E (.ref C) none H1
section
variable {P : Program} {w : World} {K : PySem.W.Frag} {mg : Str → Option Value} {base : Heap} {N : List Str} {qual : Str} {scope : Scope} {f : Addr} {cd : Value} {A : Around} {outer : List Env} {s₀ : Shared} {H₀ : Hp} {E : XK}
theorem ps_raise {x : Str} {C : Addr} {np cpos pos : Pos} {e : Expr} {es : List Expr} {t : TA} (hm : mg x = some (.ref C)) (hex : PySem.W.excIn K C veMro "ValueError.__new__" = true) (ha : PA (cxOf (CX1 P w) P w K mg base N qual scope f cd A outer s₀ H₀ E) (e :: es) t)
    (hg : Gl (cxOf (CX1 P w) P w K mg base N qual scope f cd A outer s₀ H₀ E) x := by rfl) (hdb : (x == ("__debug__" : Str)) = false := by decide)
    (he : starEach (e :: es) (envOfC qual scope s₀.heap.objs.size f cd) = (false, eval e (envOfC qual scope s₀.heap.objs.size f cd)) :: starEach es (envOfC qual scope s₀.heap.objs.size f cd) := by rfl)
    (hpl : (backTo cpos (starEach es (envOfC qual scope s₀.heap.objs.size f cd))).any (·.1) = false := by rfl) :
    PS (cxOf (CX1 P w) P w K mg base N qual scope f cd A outer s₀ H₀ E) (.Raise (some (.Call (.Name x np) (e :: es) [] cpos)) none pos) (tRaise C E t) := by
  intro pins s σ H D I h
  have hname : PE (cxOf (CX1 P w) P w K mg base N qual scope f cd A outer s₀ H₀ E) (.Name x np) (tC (.ref C)) := pe_glob (v := .ref C) hg hm rfl hdb
  obtain ⟨tl, M, nm, q, bs, hdct, sn, sub, ab, col, dd, k0, k1, k2, k3, k5, mN, hC, hN, hni, T, _⟩ := exc_obj I.mod.kin hex
  refine wpAny_Raise_call_subT (C := C) (nm := nm) (q := q) (N := M) (bs := bs) (bm := tl) (hdct := hdct) (sn := sn) (sub := sub) (ab := ab) (col := col) (dd := dd) (k0 := k0) (k1 := k1) (k2 := k2) (k3 := k3) (k5 := k5)
    PySem.F.excBase_ValueError (mN := mN) (T.hasType PySem.F.excBase_ValueError.hasBase) (I.ok.hd rfl) ?_ hni (thn (hname pins s σ H (fun v H' => v = .ref C ∧ H = H') I ⟨rfl, rfl⟩) fun u s1 ⟨v, H1, I1, r1, e1, e2⟩ => ?_)
  · show (backTo cpos (starEach (e :: es) (envOfC qual scope s₀.heap.objs.size f cd))).any (·.1) = false
    rw [he]
    show (false || (backTo cpos (starEach es (envOfC qual scope s₀.heap.objs.size f cd))).any (·.1)) = false
    rw [hpl]
    rfl
  · subst e1 e2
    cases (show u = Value.ref C from r1)
    refine ⟨rfl, ?_⟩
    have hA := ha cpos pins s1 σ H _ I1 h
    show wpAny _ _ (evalArgs (.ref C) true (backTo cpos (starEach (e :: es) (envOfC qual scope s₀.heap.objs.size f cd))) []) _ _ s1
    have hA' : wpAny (model P w) (A.deeper (envOfC qual scope s₀.heap.objs.size f cd)) (spliced (backTo cpos (starEach (e :: es) (envOfC qual scope s₀.heap.objs.size f cd)))) _ _ s1 := hA
    rw [he] at hA' ⊢
    refine Calls.evalArgs_plain (thn hA' fun us s2 ⟨vs, H2, I2, rv, hl, hq⟩ => ?_)
    exact ⟨rfl, by rw [← rv.length]; exact hl, I2.bk _ _ hC, hN.keeps I2.bk, T.keeps I2.bk, fun h' e' hx => made_leaves I2 hx hq⟩
end
/-! ### texts with a number in them -/
section
variable {X : Cx} {pos : Pos}
end
end L2

/-! EXT 13: try .. except C as e; calls within the except suite; isinstance of an exception. -/
namespace L2
open PySem PySem.Spec PyProof.Rows
/-- at e stands an exception of the class C -/
def ExcIs (e : Addr) (C : Value) (h : Heap) : Prop := ∃ o vs, h.get? e = some o ∧ o.cls = C ∧ o.data = .fields vs
/-- within an except suite: the around marked, nothing known of exceptions, some pins borne -/
abbrev Cx.marked (X : Cx) (v : Value) (pn : List (Addr × Obj)) : Cx := { X with A := X.A.mark (some v), calm := false, pn := pn, xe := fun _ _ => False }
abbrev Cx.bears (X : Cx) (pn : List (Addr × Obj)) (W : Value → Shared → Prop) : Cx := { X with pn := pn, xe := W }
section
variable {X : Cx} {pins : List (Addr × Obj)} {σ : St} {H : Hp} {s : Shared}
theorem Inv.mark {pn : List (Addr × Obj)} (I : Inv X pins σ H s) (v : Value) (hp : ∀ p ∈ pn, p ∈ X.pn ++ pins) : Inv (X.marked v pn) [] σ H s := by
  refine ⟨⟨I.ok.mod, I.ok.kind, I.ok.glob, I.ok.blt, I.ok.above, I.ok.inj, I.ok.has, I.ok.cab, (fun z => nomatch z), I.ok.frames, I.ok.stk, I.ok.exf, I.ok.bs, I.ok.bsz, I.ok.noex, I.ok.exfs, I.ok.funs, I.ok.frf⟩,
    I.os, I.bare, I.base, I.loc, I.cell, I.free, I.freeC, fun p hq => I.pin p (hp p (by simpa using hq)), I.hok, I.len⟩
theorem Inv.unmark {pn ps : List (Addr × Obj)} {v : Value} (ok : X.Ok) (I : Inv (X.marked v pn) ps σ H s) (hp : ∀ p ∈ X.pn ++ pins, p ∈ pn) : Inv X pins σ H s :=
  ⟨ok, I.os, I.bare, I.base, I.loc, I.cell, I.free, I.freeC, fun p hq => I.pin p (List.mem_append_left _ (hp p hq)), I.hok, I.len⟩
theorem Inv.bear {W : Value → Shared → Prop} (I : Inv X pins σ H s) : Inv (X.bears (X.pn ++ pins) W) [] σ H s :=
  ⟨⟨I.ok.mod, I.ok.kind, I.ok.glob, I.ok.blt, I.ok.above, I.ok.inj, I.ok.has, I.ok.cab, I.ok.hd, I.ok.frames, I.ok.stk, I.ok.exf, I.ok.bs, I.ok.bsz, I.ok.noex, I.ok.exfs, I.ok.funs, I.ok.frf⟩,
    I.os, I.bare, I.base, I.loc, I.cell, I.free, I.freeC, fun p hq => I.pin p (by simpa using hq), I.hok, I.len⟩
theorem Inv.unbear {W : Value → Shared → Prop} {ps : List (Addr × Obj)} (ok : X.Ok) (I : Inv (X.bears (X.pn ++ pins) W) ps σ H s) : Inv X pins σ H s :=
  ⟨ok, I.os, I.bare, I.base, I.loc, I.cell, I.free, I.freeC, fun p hq => I.pin p (List.mem_append_left _ hq), I.hok, I.len⟩
/-- an exception that was not tracked is tracked from now on -/
theorem Inv.track {e : Addr} {C : Value} (I : Inv X pins σ H s) (hx : ExcIs e C s.heap) (hH : H e = none) (h0 : X.s₀.heap.get? e = none) (hL : e ≠ X.env.locals) (hc : ∀ x c, X.env.cells.lookup x = some c → c ≠ e) (hp : ∀ p ∈ X.pn ++ pins, p.1 ≠ e) :
    Inv X pins σ (upd H e (.ext (ExcIs e C))) s := by
  have ne : ∀ b u, H b = some u → b ≠ e := fun b u q => ne_of_none q hH
  have n0 : ∀ b o, X.s₀.heap.get? b = some o → b ≠ e := fun b o q z => by rw [z, h0] at q; cases q
  refine ⟨I.ok, I.os, I.bare, ⟨I.base.keep, I.base.slot, fun b o q n hx => ?_, I.base.there, fun b xs q => ?_, fun b o u q => ?_, fun b ps q => ?_⟩, I.loc, I.cell, ?_, fun x c q => ?_, fun p hq => ?_, fun b u q => ?_, I.len⟩
  · rw [upd_ne (n0 b o q)]
    exact I.base.free b o q n hx
  · have := I.base.tups b xs q
    rw [upd_ne (ne b _ this)]
    exact this
  · have := I.base.frzs b o u q
    rw [upd_ne (ne b _ this)]
    exact this
  · obtain ⟨more, z⟩ := I.base.tbls b ps q
    exact ⟨more, by rw [upd_ne (ne b _ z)]; exact z⟩
  · rw [upd_ne (Ne.symm hL)]
    exact I.free
  · rw [upd_ne (hc x c q)]
    exact I.freeC x c q
  · obtain ⟨z1, z2, z3⟩ := I.pin p hq
    exact ⟨z1, by rw [upd_ne (hp p hq)]; exact z2, z3⟩
  · by_cases hb : b = e
    · subst hb
      rw [upd_same] at q
      cases q
      obtain ⟨o, vs, e1, r⟩ := id hx
      exact ⟨hx, ⟨o, e1⟩, fun h1 h2 z k => by obtain ⟨o, vs, e1, r⟩ := z; exact ⟨o, vs, k o e1, r⟩⟩
    · rw [upd_ne hb] at q
      exact (I.hok b u q).stay (fun c v hc r => r) (fun c r => by rw [upd_ne (ne c _ r)]; exact r) fun c xs r => by rw [upd_ne (ne c _ r)]; exact r
/-- the names are forgotten: the frame's own map has changed -/
theorem Inv.forget {h' : Heap} {m' : Str → Option Value} {tk : Nat} (I : Inv X pins σ H s) (hn : h'.Ns X.env.locals m') (hs : Heap.SameBut X.env.locals s.heap h') : Inv X pins (List.replicate X.N.length none) H { s with heap := h', toks := tk } := by
  have nl : ∀ b o, X.s₀.heap.get? b = some o → b ≠ X.env.locals := fun b o e => Nat.ne_of_lt (Nat.lt_of_lt_of_le (Heap.lt_size e) I.ok.above)
  refine ⟨I.ok, I.os, I.bare, ⟨fun b o e n hb hx => ?_, fun b o e n hb hx => ?_, I.base.free, fun b o e hx => ?_, I.base.tups, I.base.frzs, I.base.tbls⟩, ⟨m', hn, fun i x v e1 e2 => ?_⟩, fun x c e => ?_, I.free, I.freeC, fun p hp => ?_, fun b u e => ?_, by rw [List.length_replicate]⟩
  · exact (hs.2 b (nl b o e)).trans (I.base.keep b o e n hb hx)
  · obtain ⟨sl, z⟩ := I.base.slot b o e n hb hx
    exact ⟨sl, (hs.2 b (nl b o e)).trans z⟩
  · obtain ⟨o', z⟩ := I.base.there b o e hx
    exact ⟨o', (hs.2 b (nl b o e)).trans z⟩
  · rw [List.getElem?_replicate] at e2
    split at e2 <;> cases e2
  · obtain ⟨v, z⟩ := I.cell x c e
    exact ⟨v, z.sameBut hs (I.cne x c e)⟩
  · obtain ⟨e, n, ne, nf, d⟩ := I.pin p hp
    exact ⟨(hs.2 p.1 ne).trans e, n, ne, nf, d⟩
  · refine (I.hok b u e).stay (fun c v hc q => (hs.2 c ?_).trans q) (fun _ q => q) fun _ _ q => q
    rintro rfl
    rcases hc with rfl | hc
    · rw [I.free] at e; cases e
    · rw [I.free] at hc; cases hc
end
section
variable {M : Model} {A : Around} {E : Value → Shared → Prop} {h : Heap} {g : Array GenState} {d : Drawn} {t : Nat} {os : OsState}
/-- an exception of an own class matches an own class above it, or does not -/
theorem matches_own {C D : Addr} {e : Addr} {oe : Obj} {nm q nm' q' : Str} {N N' : Addr} {bs bm bs' bm' : List Value} {hdct hdct' : Bool} {sn sn' : List Str} {sub sub' : List Value} {ab ab' : Bool} {col col' : Option Bool} {dd dd' : Option Addr} {k0 k1 k2 k3 k5 l0 l1 l2 l3 l5 : Option Value} {newId newId' : String} {Q : Bool → Shared → Prop}
    (hC : h.get? C = some (excClassObj nm q C N bs bm hdct sn sub ab col dd k0 k1 k2 k3 k5 newId)) (hD : h.get? D = some (excClassObj nm' q' D N' bs' bm' hdct' sn' sub' ab' col' dd' l0 l1 l2 l3 l5 newId')) (he : h.get? e = some oe) (hcls : oe.cls = .ref C)
    (hbase : bm'.contains (.type "BaseException") = true) (hm : (Value.ref C :: bm).contains (.ref D) = true) (hq : Q true ⟨h, g, d, t, os⟩) : wpAny M A (excMatches (.ref e) (.ref D)) Q E ⟨h, g, d, t, os⟩ := by
  have hcB : (Value.ref D :: bm').contains (.type "BaseException") = true := by rw [List.contains_cons, hbase, Bool.or_true]
  have f := tc_notTuple
  unfold excMatches
  repeat (first | (with_reducible refine wpAny_loadPart_at he ?_; rw [hcls]) | with_reducible refine wpAny_loadPart_at hD ?_ | with_reducible refine wpAny_loadPart_at hC ?_ | (with_reducible refine wpAny_isSubtype_exc hD ?_; rw [hcB]) | (with_reducible refine wpAny_isSubtype_exc hC ?_; rw [hm]) | wp_step)
  exact hq
end
end L2

/-! EXT 14: try .. except C as e, whose suite returns. -/
namespace L2
open PySem PySem.Spec PyProof.Rows
/-- what is wanted of an exception that a try catches: an own class above which D stands -/
def Caught (K : PySem.W.Frag) (D : Addr) (Ex : XK) : Prop := ∀ C H, Ex C none H → ∃ Ca, C = .ref Ca ∧ PySem.W.excIn K Ca veMro "ValueError.__new__" = true ∧ PySem.W.mroIn K Ca (.ref D) = some true
def tTry (Ex : XK) (i n : Nat) (t u : TS) : TS := fun D σ H => t D σ H ∧ ∀ (C : Value) (H' : Hp) (e : Addr) (σ' : St), σ'.length = n → Ex C none H' → H' e = none → u { nx := fun _ _ => False, rt := D.rt } (σ'.set i (some (.ref e))) (upd H' e (.ext (ExcIs e C)))
theorem set_at {σ : St} {i n : Nat} {v : V} (h : σ.length = n) (hi : i < n) : (σ.set i (some v))[i]? = some (some v) := by
  rw [List.getElem?_set_self (by omega)]
section
variable {X : Cx}
theorem ps_try {body : List Stmt} {b₀ : Stmt} {suite : List Stmt} {x n : Str} {np hpos pos : Pos} {D : Addr} {Ex : XK} {t u : TS} (i : Nat) (hex0 : X.ex = []) (hstk : X.stack = X.env :: X.outer) (hfrm : X.env.frame = some X.env.locals)
    (hm : X.mg x = some (.ref D)) (hD : PySem.W.excIn X.K D veMro "ValueError.__new__" = true) (hc : Caught X.K D Ex)
    (hbody : ∀ pn W, Passes (CX1 X.prog X.w) (X.bears pn W) Ex → PSs (X.bears pn W) body t) (hsuite : ∀ v pn, PSs (X.marked v pn) (b₀ :: suite) u)
    (hN : X.N.Nodup) (hi : X.N[i]? = some n) (hg : Gl X x := by rfl) (hdb : (x == ("__debug__" : Str)) = false := by decide) (hx : X.env.scope.names.lookup n = some .local := by rfl) :
    PS X (.Try body [.ExceptHandler (some (.Name x np)) (some n) (b₀ :: suite) hpos] [] [] pos) (tTry Ex i X.N.length t u) := by
  intro pins s σ H D0 I ⟨ht, hu⟩
  have hcls : (X.env.scope.kind == .class || (X.env.scope.kind == .module && X.env.locals != X.env.globals)) = false := by rw [I.ok.kind]; rfl
  refine wpAny_Try_except ?_
  have B := hbody (X.pn ++ pins) (fun e s₁ => wpAny (model X.prog X.w) X.A (noteFrame e X.env) (fun _ s₂ => wpAny (model X.prog X.w) X.A (setFlight e none) (fun _ s₃ => wpAny (model X.prog X.w) X.A (handleBy e X.env [.ExceptHandler (some (.Name x np)) (some n) (b₀ :: suite) hpos]) (SP X pins D0) X.xe s₃) X.xe s₂) X.xe s₁) ?_
  · refine wpAny_mono (B [] s σ H D0 I.bear ht) (fun f s1 q => ?_) fun _ _ z => z
    cases f with
    | next =>
      obtain ⟨σ', H', I', q⟩ := q
      exact wpAny_execs_nil ⟨σ', H', I'.unbear I.ok, q⟩
    | ret v =>
      obtain ⟨v', σ', H', I', r, q⟩ := q
      exact ⟨v', σ', H', I'.unbear I.ok, r, q⟩
    | brk =>
      obtain ⟨σ', H', I', q⟩ := q
      exact ⟨σ', H', I'.unbear I.ok, q⟩
    | cont =>
      obtain ⟨σ', H', I', q⟩ := q
      exact ⟨σ', H', I'.unbear I.ok, q⟩
  · intro pins1 σ1 H1 s1 e0 s2 I1 hcx
    have I1 : Inv X pins σ1 H1 s1 := I1.unbear I.ok
    obtain ⟨e, C, a0, Bh, H', rfl, os, bare, un, hok, fly, hne, fr, cov, hHe, q⟩ := hcx
    obtain ⟨Ca, rfl, hex, hup⟩ := hc _ _ q
    have fly : Heap.FlyingW Bh (X.env :: X.outer) e (.ref Ca) a0 s2.heap := by rw [← hstk]; exact fly
    have un : Un (frs X.stack) [] H1 H' s1.heap s2.heap := un
    have fr : ∀ b ∈ frs X.stack, H' b = none := fr
    have cov : Covers X.stack s1.heap H' s2.heap Bh := cov
    have ff : s2.heap.FunFrames Bh X.stack := by rw [hstk]; exact fly.2.2.1
    have neL : e ≠ X.env.locals := fun z => by
      obtain ⟨m, hn, _⟩ := I1.loc
      obtain ⟨o, es, ep, ho, _⟩ := hn
      rw [← z, hne] at ho
      cases ho
    have neC : ∀ y c, X.env.cells.lookup y = some c → c ≠ e := fun y c z w => by
      obtain ⟨v, oc, hoc, _⟩ := I1.cell y c z
      rw [w, hne] at hoc
      cases hoc
    have neP : ∀ p ∈ X.pn ++ pins, p.1 ≠ e := fun p hp w => by
      have := (I1.pin p hp).1
      rw [w, hne] at this
      cases this
    have ne0 : X.s₀.heap.get? e = none := by
      cases z : X.s₀.heap.get? e with
      | none => rfl
      | some o =>
        obtain ⟨o', h'⟩ := I1.base.there e o z (by rw [hex0]; exact fun z => nomatch z)
        rw [hne] at h'
        cases h'
    have key : ∀ h3 : Heap, Bh.StaysIn h3 → s2.heap.UpToSlots h3 → Inv X pins σ1 H' { s2 with heap := h3 } := fun h3 st up =>
      I1.call' (s' := { s2 with heap := h3 }) (ch := []) os (un_on un ff cov st up) (hok_on hok fr cov st) bare (fun b z => nomatch z)
    refine wpAny_looks_onW (by rw [← hstk]; exact I.ok.frames) hfrm fly fun h3 held up3 => ?_
    refine wpAny_landsW (s := { s2 with heap := h3 }) held fun h4 fly4 up4 => ?_
    have J4 := key h4 fly4.1 (up3.trans up4)
    have M4 : Inv (X.marked (.ref e) (X.pn ++ pins)) [] σ1 H' { s2 with heap := h4 } := J4.mark _ fun p hp => hp
    obtain ⟨bmC, NC, nmC, qnC, bsC, hdC, snC, subC, abC, colC, ddC, k0, k1, k2, k3, k5, mNC, oC, _, _, _, mroC⟩ := exc_obj (J4.kIn) hex
    obtain ⟨bmD, ND, nmD, qnD, bsD, hdD, snD, subD, abD, colD, ddD, l0, l1, l2, l3, l5, mND, oD, _, _, TD, _⟩ := exc_obj (J4.kIn) hD
    obtain ⟨oe, he, hecls⟩ := fly4.there
    refine wpAny_handleBy_cons (codeAny_handlers_test ?_) (fun z => nomatch z)
    refine ld_glob (X := X.marked (.ref e) (X.pn ++ pins)) M4 hg hm ?_ hdb
    refine matches_own oC oD he hecls (TD.hasType PySem.F.excBase_ValueError.hasBase) (mroC _ _ hup) ?_
    refine codeAny_handlers_suite_as ?_
    refine lands_againW (s := { s2 with heap := h4 }) fly4 fun h5 fly5 up5 => ?_
    have J5 := key h5 fly5.1 ((up3.trans up4).trans up5)
    have M5 : Inv (X.marked (.ref e) (X.pn ++ pins)) [] σ1 H' { s2 with heap := h5 } := J5.mark _ fun p hp => hp
    obtain ⟨oe5, vs5, he5, hc5, hd5, _⟩ := fly5.first
    have M6 := M5.track (C := .ref Ca) ⟨oe5, vs5, he5, hc5, hd5⟩ hHe ne0 neL neC (fun p hp => neP p (by simpa using hp))
    refine store_ok (X := X.marked (.ref e) (X.pn ++ pins)) M6 hN hi (.inl hx) (v := .ref e) rfl (fun s6 M7 => ?_) (.inr hx)
    refine wpAny_mono (hsuite _ _ [] s6 _ _ _ M7 (hu _ H' e σ1 I1.len q hHe)) (fun f s7 q7 => ?_) fun _ _ z => False.elim z
    cases f with
    | next =>
      obtain ⟨_, _, _, z⟩ := q7
      exact False.elim z
    | brk =>
      obtain ⟨_, _, _, z⟩ := q7
      exact False.elim z
    | cont =>
      obtain ⟨_, _, _, z⟩ := q7
      exact False.elim z
    | ret v =>
      obtain ⟨v', σ8, H8, M8, r, z⟩ := q7
      have J8 : Inv X pins σ8 H8 s7 := M8.unmark I.ok fun p hp => hp
      obtain ⟨m8, hn8, _⟩ := J8.loc
      refine wpAny_nameGoes hx hn8 hcls fun h9 m9 hn9 hs9 => ?_
      exact ⟨v', _, H8, J8.forget hn9 hs9, r, z⟩
end
end L2

/-! EXT 15: calls within an except suite; isinstance of an exception; count and index of a list of truths. -/
namespace L2
open PySem PySem.Spec PyProof.Rows
/-! ### room where an exception may be in hand -/
structure RoomH (k : Nat) (A : Around) : Prop where
  dp : A.depth + 3 * k + 5 < recursionLimit
  un : A.units + 16 * k + 200 < cLine
theorem RoomH.mono {j k : Nat} {A : Around} (r : RoomH k A) (h : j ≤ k) : RoomH j A := ⟨by have := r.dp; omega, by have := r.un; omega⟩
theorem RoomH.deeper {k : Nat} {A : Around} (r : RoomH (k + 1) A) (env : Env) : RoomH k (A.deeper env) :=
  ⟨by have := r.dp; show A.depth + 1 + 3 * k + 5 < _; omega, by have := r.un; show A.units + 3 + 16 * k + 200 < _; omega⟩
theorem Room.toH {k : Nat} {A : Around} (r : Room k A) (v : Option Value) : RoomH k (A.mark v) := ⟨r.dp, r.un⟩
structure FnOkH (P : Program) (w : World) (K : PySem.W.Frag) (mg : Str → Option Value) (base : Heap) (k : Nat) (f : Addr) (fd : FuncData) (ps : List Str) (sp : Sp) : Prop where
  len : ∀ vs H Q E, sp vs H Q E → vs.length = ps.length
  run : ∀ (A : Around) (outer : List Env) (s : Shared) (H : Hp) (args : Args) (us : List Value) (vs : List V) (Q : VK) (E : XK), RoomH k A → Env0 P w K mg base A outer s H → BindsTo s fd args (ps.zip us) → Vals vs us → sp vs H Q E →
    codeAny (model P w) A (.call (.ref f) args) (CR CX0 outer P w H s Q E) s
structure OkH (P : Program) (w : World) (K : PySem.W.Frag) (mg : Str → Option Value) (base : Heap) (x : Str) (k : Nat) (ps : List Str) (sp : Sp) : Prop where
  ex : ∃ (f : Addr) (fd : FuncData), FnOkH P w K mg base k f fd ps sp ∧ mg x = some (.ref f) ∧ PySem.W.keepIn K (.ref f) = true ∧ Binds K fd ps []
abbrev Cx.wild (X : Cx) : Cx := { X with calm := false, xe := fun _ _ => False }
section
variable {P : Program} {w : World} {K : PySem.W.Frag} {mg : Str → Option Value} {base : Heap}
theorem fn_ofH {k : Nat} {f : Addr} {name qual : Str} {params : Arguments} {body : List Stmt} {scope : Scope} {dV kV doc pm cdv ct oc : Value} {an od : Option Addr}
    {osl : Array (Option Value)} {N ps : List Str} {sp : Sp} (lk : K.lookup f = some ⟨oc, od, .func (PySem.W.fnOf name qual params body scope dV kV doc pm an cdv ct), osl⟩) (hcd : PySem.W.codeIn K cdv qual = true) (S : FnScope N ps scope)
    (len : ∀ vs H Q E, sp vs H Q E → vs.length = ps.length)
    (hbody : ∀ (A : Around) (outer : List Env) (s : Shared) (H : Hp) (vs : List V) (Q : VK) (E : XK), RoomH k (A.deeper (envOfC qual scope s.heap.objs.size f cdv)) → sp vs H Q E →
      ∃ t, PSs (cxOf CX0 P w K mg base N qual scope f cdv A outer s H E).wild body t ∧ t { nx := fun _ H' => Q .non H', rt := Q } (start N vs) H) :
    FnOkH P w K mg base (k + 1) f (PySem.W.fnOf name qual params body scope dV kV doc pm an cdv ct) ps sp := by
  refine ⟨len, fun A outer s H args us vs Q E hr e0 hb r hsp => ?_⟩
  have hl := len _ _ _ _ hsp
  have KX : K.In s.heap := e0.mod.kin.keeps fun b o e => (e0.bs b o e).1
  have lim : s.heap.NoLimit := e0.mod.nolimit.keeps fun b o e => (e0.bs b o e).1
  have hkind : ∀ y ∈ ps.zip us, scope.names.lookup y.1 = some .local ∨ (scope.names.lookup y.1 = some .cell ∧ ((cellsFrom (s.heap.objs.size + 1) scope.names []).lookup y.1).isSome = true) := fun ⟨n, v⟩ hy => by
    rcases S.par n (List.of_mem_zip hy).1 with q | q
    · exact .inl q
    · exact .inr ⟨q, PySem.W.cellsFrom_some _ _ _ (.inl q)⟩
  refine codeAny_call_function (by have := hr.dp; omega) (KX _ _ lk) rfl S.co S.gen rfl (PySem.W.codeRec_of KX hcd) (hb _ _ _ _ ?_)
  refine wpAny_newFunctionEnv_cells S.kind hkind fun env he s1 x => ?_
  subst he
  refine ⟨lim.keeps x.toInCall.keep, codeAny_func ?_⟩
  obtain ⟨t, ht, hq⟩ := hbody A outer s H vs Q E (hr.deeper _) hsp
  have e1 : Env0 P w K mg base { A with handled := none } outer s H := ⟨e0.frames, e0.mod, e0.bs, e0.bsz, e0.funs, e0.frf, e0.hok, e0.bare⟩
  have I0 : Inv (cxOf CX0 P w K mg base N qual scope f cdv { A with handled := none } outer s H E) [] (start N vs) H s1 := inv_start S rfl e1 hl r x
  have I : Inv (cxOf CX0 P w K mg base N qual scope f cdv A outer s H E).wild [] (start N vs) H s1 :=
    ⟨⟨I0.ok.mod, I0.ok.kind, I0.ok.glob, I0.ok.blt, I0.ok.above, I0.ok.inj, I0.ok.has, I0.ok.cab, (fun z => nomatch z), Around.frames_deeper e0.frames, I0.ok.stk, I0.ok.exf, I0.ok.bs, I0.ok.bsz, I0.ok.noex, I0.ok.exfs, I0.ok.funs, I0.ok.frf⟩,
      I0.os, I0.bare, I0.base, I0.loc, I0.cell, I0.free, I0.freeC, I0.pin, I0.hok, I0.len⟩
  refine wpAny_mono (ht [] s1 (start N vs) H _ I hq) (fun fl s' hs => ?_) fun e s' hs => False.elim hs
  have fin : ∀ {σ' : St} {H' : Hp} {v : V} {u : Value}, Inv (cxOf CX0 P w K mg base N qual scope f cdv A outer s H E).wild [] σ' H' s' → RelV v u → Q v H' → CE outer P w H s Q u s' :=
    fun {σ' H' v u} J rv q => ⟨v, H', J.os, J.bare, J.base, J.hok, rv, q⟩
  cases fl with
  | ret u =>
    obtain ⟨v, σ', H', J, rv, q⟩ := hs
    exact fin J rv q
  | next =>
    obtain ⟨σ', H', J, q⟩ := hs
    exact fin (v := V.non) (u := Value.none) J rfl q
  | brk =>
    obtain ⟨_, _, _, q⟩ := hs
    exact False.elim q
  | cont =>
    obtain ⟨_, _, _, q⟩ := hs
    exact False.elim q
theorem Def.okH {x : Str} {st : Stmt} {N ps : List Str} {k : Nat} {sp : Sp} (D : Def K mg x st) (S : FnScope N ps (defScope st))
    (hb : ∀ (kV doc pm : Value) (an : Option Addr) (cdv ct : Value) (us : List Value), us.length = ps.length → bindArgs (PySem.W.fnOf x x (defArgs st) (defBody st) (defScope st) .none kV doc pm an cdv ct) ⟨us, []⟩ = pure (ps.zip us))
    (len : ∀ vs H Q E, sp vs H Q E → vs.length = ps.length)
    (hbody : ∀ (f : Addr) (cdv : Value) (A : Around) (outer : List Env) (s : Shared) (H : Hp) (vs : List V) (Q : VK) (E : XK), RoomH k (A.deeper (envOfC x (defScope st) s.heap.objs.size f cdv)) → sp vs H Q E →
      ∃ t, PSs (cxOf CX0 P w K mg base N x (defScope st) f cdv A outer s H E).wild (defBody st) t ∧ t { nx := fun _ H' => Q .non H', rt := Q } (start N vs) H) : OkH P w K mg base x (k + 1) ps sp := by
  obtain ⟨f, fd, F, m⟩ := D.ex
  refine ⟨f, fd, ?_, m, F.kp, F.binds hb⟩
  obtain ⟨oc, od, kV, doc, pm, an, cdv, ct, osl, rfl, lk, hcd⟩ := F.ex
  exact fn_ofH lk hcd S len fun A outer s H vs Q E hr hsp => hbody f cdv A outer s H vs Q E hr hsp
end
section
variable {X : Cx} {k : Nat} {ps : List Str} {sp : Sp} {x : Str} {p pos : Pos} {e : Expr} {es : List Expr} {t : TA}
theorem pe_callH (O : OkH X.prog X.w X.K X.mg X.base x k ps sp) (hr : RoomH k X.A) (ha : PA X (e :: es) t) (hg : Gl X x := by rfl) (hdb : (x == ("__debug__" : Str)) = false := by decide)
    (he : starEach (e :: es) X.env = (false, eval e X.env) :: starEach es X.env := by rfl) (hpl : (backTo pos (starEach es X.env)).any (·.1) = false := by rfl) : PE X (.Call (.Name x p) (e :: es) [] pos) (tCall sp [] E0 t) := by
  obtain ⟨f, fd, F, hm, hk, hb⟩ := O.ex
  intro pins s σ H Q I h
  refine wpAny_Call_Name_kw (ld_glob I hg hm ?_ hdb)
  refine PySem.W.callWith_K (h₀ := X.base) I.ok.mod.kin hk (thn (ha pos pins s σ H _ I h) fun us s1 ⟨vs, H1, I1, r, q⟩ => ⟨I1.kIn, ?_⟩) he hpl
  have r2 : Vals (vs ++ []) (us ++ []) := r.append .nil
  have hl : (us ++ []).length = ps.length := by rw [← r2.length]; exact F.len _ _ _ _ q
  refine wpAny_call (codeAny_mono (F.run X.A X.stack s1 H1 ⟨us, []⟩ (us ++ []) (vs ++ []) Q E0 hr I1.env0 (hb s1 us I1.kIn hl) r2 q) fun r s' hq => ?_)
  cases r with
  | error e => exact False.elim hq
  | ok fl =>
    cases fl with
    | ret u => exact I1.after hq
    | next => exact False.elim hq
    | brk => exact False.elim hq
    | cont => exact False.elim hq
end
/-! ### isinstance of an exception -/
structure ExcKit (K : PySem.W.Frag) (C : Addr) : Prop where
  ha : PySem.W.findIn K (.ref C) "__class__" = some (some (.builtin "object.__class__"))
  hn : PySem.W.specialIn K (.builtin "object.__class__") "__get__" = some (some (.builtin "getset_descriptor.__get__"))
  ht : PySem.W.takesIn K (.builtin "object.__class__") = some true
  hm : PySem.W.mroIn K C (.type "object") = some true
  hB : PySem.W.mroIn K C (.type "BaseException") = some true
  hga : PySem.W.findIn K (.ref C) "__getattribute__" = some (some (.builtin "BaseException.__getattribute__"))
  hgt : PySem.W.findIn K (.ref C) "__getattr__" = some none
  hc : (PySem.W.clsIn K C).isSome = true
section
variable {K : PySem.W.Frag} {C e : Addr}
theorem ExcIs.type {M : Model} {h : Heap} (I : ExcIs e (.ref C) h) : PySem.W.Looks M h (typeOf (.ref e)) (.ref C) := by
  obtain ⟨o, vs, ho, hc, _⟩ := I
  exact hc ▸ (PySem.W.Looks.ld ho).andThen .now
variable {prog : Program} {w : World} {A : Around} {E : Value → Shared → Prop} {s : Shared}
open PySem.W Builtin Builtin.ObjectAttr Builtin.Getset_descriptor in
theorem exc_class_get {R : Result → Shared → Prop} {tp : Value} (X : K.In s.heap) (I : ExcIs e (.ref C) s.heap) (hm : mroIn K C (.type "object") = some true)
    (h : R (.ok (.ret (.ref C))) s) : codeAny (model prog w) A (.call (.builtin "getset_descriptor.__get__") ⟨[.builtin "object.__class__", .ref e, tp], []⟩) R s := by
  obtain ⟨hh, g, dr, t, os⟩ := s
  have L0 := I.type (M := model prog w)
  have L1 := looks_mroIn (M := model prog w) X hm
  refine codeAny_call_builtin KF.slot_gs.plain KF.entry_gs (KF.slot_gs.check _ _ _ _ _ _ _ _ KF.type_class (KF.args_gs _ _ _) ?_)
  unfold Builtin.«getset_descriptor.__get__» descrGet
  rw [dga_obj]
  refine wpAny_bind (wpAny_pure ?_)
  unfold descrGetter descrCheckInstance descrNameAndClass isInstance
  simp only [KF.owner_class]
  repeat lk
  refine ⟨Code.quiet_builtin _ (by decide +kernel), codeAny_builtin KF.entry_class ?_⟩
  unfold Builtin.«object.__class__» shownTypeOf
  repeat lk
  exact h
open PySem.W Builtin Builtin.ObjectAttr in
theorem exc_class_entry {tk : Tok} {Q : Fin → Shared → Prop} (X : K.In s.heap) (Z : ExcKit K C) (I : ExcIs e (.ref C) s.heap) (h : Q (.done (.ret (.ref C))) s) :
    wpAny (model prog w) A (Builtin.«object.__getattribute__» ⟨[.ref e, .str "__class__" tk], []⟩) Q E s := by
  have L0 := I.type (M := model prog w)
  have Lf : Looks (model prog w) s.heap (find (.ref e) (.ref C) "__class__") (.bind (.builtin "getset_descriptor.__get__") (.builtin "object.__class__")) :=
    (looks_findIn X Z.ha).andThen ((show Looks (model prog w) s.heap (getOf (some (.builtin "object.__class__"))) _ from looks_specialIn X Z.hn).andThen
      ((show Looks (model prog w) s.heap (dataDescriptor? (some (.builtin "object.__class__")) (some (.builtin "getset_descriptor.__get__"))) (some (.builtin "getset_descriptor.__get__", .builtin "object.__class__")) from (looks_takesIn X Z.ht).andThen .now).andThen (Looks.tag .now)))
  unfold Builtin.«object.__getattribute__»
  refine wpAny_bind (wpAny_pure ?_)
  refine wpAny_bind (wpAny_pure ?_)
  refine wpAny_bind (L0.at (wpAny_bind (Lf.at ?_)))
  show wpAny _ _ (bindTo _ _ _ _) _ _ _
  unfold bindTo
  refine wpAny_bind (wpAny_holding (wpAny_call (exc_class_get X I Z.hm ?_)))
  exact wpAny_pure h
open PySem.W in
theorem exc_check {nameV : Value} {Q : Unit → Shared → Prop} (X : K.In s.heap) (Z : ExcKit K C) (I : ExcIs e (.ref C) s.heap) (hq : Q () s) : wpAny (model prog w) A (checkBuiltinCall "BaseException.__getattribute__" ⟨[.ref e, nameV], []⟩) Q E s := by
  have hk : builtinKind "BaseException.__getattribute__" = some .slot := by decide +kernel
  have hsplit : splitId "BaseException.__getattribute__" = some ("BaseException", "__getattribute__") := by decide +kernel
  have ha := PySem.F.args_bexc_ga (.ref e) nameV
  have LI : Looks (model prog w) s.heap (isInstance (.ref e) (.type "BaseException")) true := I.type.andThen (looks_mroIn X Z.hB)
  obtain ⟨hh, g, d, t, os⟩ := s
  simp only [checkBuiltinCall, hk, hsplit]
  refine wpAny_bind (LI.at ?_)
  repeat (first | wp_step)
  exact hq
end
end L2

/-! EXT 16: isinstance of an exception, as a rule; the classes of the package; count and index of a list of truths. -/
namespace L2
open PySem PySem.Spec PyProof.Rows
section
variable {K : PySem.W.Frag} {C e : Addr} {prog : Program} {w : World} {A : Around} {E : Value → Shared → Prop} {s : Shared}
open PySem.W Builtin Builtin.ObjectAttr in
theorem exc_class_attr {Q : Option Value → Shared → Prop} (X : K.In s.heap) (Z : ExcKit K C) (I : ExcIs e (.ref C) s.heap) (h : Q (some (.ref C)) { s with toks := s.toks + 1 }) : wpAny (model prog w) A (getAttr? (.ref e) "__class__") Q E s := by
  have f3 := PySem.F.excAttr_ValueError.ga.bind (.ref e)
  have hx2 : (Value.builtin "BaseException.__getattribute__" == Value.builtin "object.__getattribute__") = false := by decide +kernel
  have hx1 : (onTheHeap (Value.ref C) && Value.builtin "BaseException.__getattribute__" == Value.builtin "object.__getattribute__") = false := by rw [hx2]; rfl
  have L0 := I.type (M := model prog w)
  have L1 := looks_findIn (M := model prog w) X Z.hga
  have L2 := looks_findIn (M := model prog w) X Z.hgt
  obtain ⟨hh, g, d, t, os⟩ := s
  unfold getAttr? getAttrBy? getAttrBy
  refine wpAny_bind (wpAny_mkText (wpAny_bind (wpAny_attempt (wpAny_holding (wpAny_bind (L0.at (wpAny_bind (L1.at ?_))))))))
  dsimp only
  rw [hx1]
  rw [if_neg Bool.false_ne_true]
  unfold getAttrByItsOwn hookBefore
  refine wpAny_bind ?_
  rw [if_pos (show onTheHeap (Value.ref C) = true from rfl)]
  refine L2.at ?_
  refine wpAny_bind (wpAny_attempt (wpAny_holding ?_))
  unfold callGetattribute
  rw [if_neg (by decide)]
  unfold boundAndCalled
  rw [f3]
  refine wpAny_bind (wpAny_pure ?_)
  refine wpAny_call (codeAny_call_builtin PySem.F.excAttr_ValueError.ga.plain PySem.F.entry_bexc_ga (exc_check (s := ⟨hh, g, d, t + 1, os⟩) X Z I (exc_class_entry (s := ⟨hh, g, d, t + 1, os⟩) X Z I ?_)))
  exact wpAny_pure (wpAny_pure h)
open PySem.W in
theorem kitx_exc (Z : ExcKit K C) : KitX K (.ref e) (.ref C) (ExcIs e (.ref C)) where
  ty := fun _ _ _ I => I.type
  it := fun _ _ X _ => by
    obtain ⟨cdD, hcD⟩ := Option.isSome_iff_exists.mp Z.hc
    unfold clsIn at hcD
    split at hcD
    · rename_i c' d' cd' sl' ho
      intro A' Q' E' s' k q
      unfold isType loadHead
      exact wpAny_bind (wpAny_loadPart (k _ _ (X _ _ ho)) (wpAny_pure q))
    · cases hcD
  ne := fun h tp dd its n sl X htp => by
    obtain ⟨cdD, hcD⟩ := Option.isSome_iff_exists.mp Z.hc
    refine Bool.eq_false_iff.mpr fun q => ?_
    have e : C = tp := Value.ref.inj (beq_iff_eq.mp q)
    subst e
    unfold clsIn at hcD
    split at hcD
    · rename_i c' d' cd' sl' ho
      have z := (X _ _ ho).symm.trans htp
      cases z
    · cases hcD
  ca := fun X I k => exc_class_attr X Z I k
end
/-- isinstance(e, c), e an exception in hand -/
def rIsiX (K : PySem.W.Frag) : List V → Hp → VK → Prop := fun xs H Q => ∃ e C y c b, xs = [.ref e, y] ∧ (∀ u, RelV y u → u = c) ∧ H e = some (.ext (ExcIs e (.ref C))) ∧ ExcKit K C ∧ PySem.W.kitOne K (.ref C) c = some b ∧ Q (.bl b) H
theorem call_isiX {X : Cx} : CallR X (.builtin "isinstance") (rIsiX X.K) := by
  intro pins s σ H xs us Q I r h
  obtain ⟨e, C, y, c, b, rfl, hy, hH, Z, hk, q⟩ := h
  obtain ⟨u, c', rfl, rx, rc⟩ := r.two
  cases hy _ rc
  cases (show u = Value.ref e from rx)
  exact PySem.W.kia_one (kitx_exc Z) I.kIn (I.hok e _ hH).1 hk (fun z => nomatch z) fun tk => ⟨.bl b, H, I.tok _, rfl, q⟩
/-! ### the classes of the package -/
/-- what is to be read of an exception class C below D -/
def potOk1 (K : PySem.W.Frag) (D C : Addr) : Bool :=
  PySem.W.excIn K C veMro "ValueError.__new__" && ((PySem.W.clsIn K C).any (fun cd => cd.mro == .ref C :: .ref D :: veMro) && (PySem.W.typeIn K (.ref C) == some (.type "type") &&
    (PySem.W.findIn K (.ref C) "__class__" == some (some (.builtin "object.__class__")) && (PySem.W.findIn K (.ref C) "__getattribute__" == some (some (.builtin "BaseException.__getattribute__")) && PySem.W.findIn K (.ref C) "__getattr__" == some none))))
def potOk (K : PySem.W.Frag) (D : Addr) (Cs : List Addr) : Bool :=
  PySem.W.specialIn K (.builtin "object.__class__") "__get__" == some (some (.builtin "getset_descriptor.__get__")) && (PySem.W.takesIn K (.builtin "object.__class__") == some true && (PySem.W.excIn K D veMro "ValueError.__new__" && Cs.all (potOk1 K D)))
def potNames : List Str := ["NoWares", "NoPlan", "NoSet", "NoMost", "NoAnswers", "NoFit", "NotTold", "NoNote"]
structure Pots (K : PySem.W.Frag) (mg : Str → Option Value) (D : Addr) (Cs : List Addr) : Prop where
  top : mg "PotError" = some (.ref D)
  nm : Paired (fun (x : Str) (C : Addr) => mg x = some (.ref C)) potNames Cs
  ok : potOk K D Cs = true
  nd : (D :: Cs).Nodup
section
variable {K : PySem.W.Frag} {mg : Str → Option Value} {D : Addr} {Cs : List Addr}
theorem Pots.exD (Z : Pots K mg D Cs) : PySem.W.excIn K D veMro "ValueError.__new__" = true := by
  have h := Z.ok
  unfold potOk at h
  simp only [Bool.and_eq_true] at h
  exact h.2.2.1
theorem Pots.one (Z : Pots K mg D Cs) {C : Addr} (hC : C ∈ Cs) : potOk1 K D C = true := by
  have h := Z.ok
  unfold potOk at h
  simp only [Bool.and_eq_true, List.all_eq_true] at h
  exact h.2.2.2 C hC
theorem Pots.exC (Z : Pots K mg D Cs) {C : Addr} (hC : C ∈ Cs) : PySem.W.excIn K C veMro "ValueError.__new__" = true := by
  have h := Z.one hC
  unfold potOk1 at h
  simp only [Bool.and_eq_true] at h
  exact h.1
theorem Pots.mro (Z : Pots K mg D Cs) {C : Addr} (hC : C ∈ Cs) : ∃ cd, PySem.W.clsIn K C = some cd ∧ cd.mro = .ref C :: .ref D :: veMro := by
  have h := Z.one hC
  unfold potOk1 at h
  simp only [Bool.and_eq_true] at h
  have h := h.2.1
  cases z : PySem.W.clsIn K C with
  | none => rw [z] at h; cases h
  | some cd =>
    rw [z] at h
    exact ⟨cd, rfl, beq_iff_eq.mp h⟩
theorem Pots.mroIn (Z : Pots K mg D Cs) {C : Addr} (hC : C ∈ Cs) (v : Value) : PySem.W.mroIn K C v = some ((Value.ref C :: .ref D :: veMro).contains v) := by
  obtain ⟨cd, e, m⟩ := Z.mro hC
  unfold PySem.W.mroIn
  rw [e, Option.bind_some, m]
  rfl
theorem Pots.kit (Z : Pots K mg D Cs) {C : Addr} (hC : C ∈ Cs) : ExcKit K C := by
  have h := Z.one hC
  have h0 := Z.ok
  obtain ⟨cd, e, m⟩ := Z.mro hC
  unfold potOk1 at h
  unfold potOk at h0
  simp only [Bool.and_eq_true, beq_iff_eq] at h h0
  obtain ⟨_, _, _, h4, h5, h6⟩ := h
  exact ⟨h4, h0.1, h0.2.1, by rw [Z.mroIn hC]; rfl, by rw [Z.mroIn hC]; rfl, h5, h6, by rw [e]; rfl⟩
theorem Pots.caught (Z : Pots K mg D Cs) {Ex : XK} (h : ∀ C H, Ex C none H → ∃ Ca, C = .ref Ca ∧ Ca ∈ Cs) : Caught K D Ex := fun C H q => by
  obtain ⟨Ca, rfl, hm⟩ := h C H q
  refine ⟨Ca, rfl, Z.exC hm, ?_⟩
  rw [Z.mroIn hm]
  simp
/-- isinstance against a class of the package -/
theorem Pots.isC (Z : Pots K mg D Cs) {C C' : Addr} (hC : C ∈ Cs) (hC' : C' ∈ Cs) : PySem.W.kitOne K (.ref C) (.ref C') = some (decide (C = C')) := by
  unfold PySem.W.kitOne
  by_cases q : C = C'
  · subst q
    rw [if_pos (by simp), decide_eq_true rfl]
  · rw [if_neg (fun z => q (Value.ref.inj (beq_iff_eq.mp z))), decide_eq_false q]
    have h := Z.one hC'
    unfold potOk1 at h
    simp only [Bool.and_eq_true] at h
    obtain ⟨cd, e, _⟩ := Z.mro hC'
    show (if ((PySem.W.clsIn K C').isSome && PySem.W.typeIn K (.ref C') == some (.type "type")) = true then PySem.W.subIn K (.ref C) (.ref C') else none) = some false
    rw [if_pos (by rw [h.2.2.1, e]; rfl)]
    show PySem.W.mroIn K C (.ref C') = _
    rw [Z.mroIn hC]
    have n2 : C' ≠ D := fun z => by
      have := Z.nd
      rw [List.nodup_cons] at this
      exact this.1 (z ▸ hC')
    have n1 : C' ≠ C := fun z => q z.symm
    simp [List.contains_cons, n1, n2]
/-- isinstance against ValueError -/
theorem Pots.isV (Z : Pots K mg D Cs) {C : Addr} (hC : C ∈ Cs) : PySem.W.kitOne K (.ref C) (.type "ValueError") = some true := by
  unfold PySem.W.kitOne
  rw [if_neg (fun z => by cases beq_iff_eq.mp z)]
  show (if PySem.W.kitMeta "ValueError" = true then PySem.W.mroIn K C (.type "ValueError") else none) = some true
  rw [if_pos (by decide +kernel), Z.mroIn hC]
  simp [List.contains_cons]
end
/-! ### count and index -/
def rCount : V → List V → Hp → VK → Prop := fun x vs H Q => ∃ (l : Addr) (bs : List Bool) (b : Bool), x = .ref l ∧ vs = [.bl b] ∧ H l = some (.lst (bs.map V.bl)) ∧ Q (.int ((bs.countP (· == b) : Nat) : Int)) H
theorem bools_are : ∀ {bs : List Bool} {us : List Value}, Vals (bs.map V.bl) us → us = bs.map Value.bool
  | [], _, .nil => rfl
  | b :: bs, _, .cons r t => by
    rw [bools_are t]
    cases (show _ = Value.bool b from r)
    rfl
theorem mt_count {X : Cx} : MtM X "list.count" rCount := by
  intro pins s σ H x vs v us Q I rx rv h
  obtain ⟨l, bs, b, rfl, rfl, hH, q⟩ := h
  cases rx
  obtain ⟨u, rfl, ru⟩ := rv.one
  cases (show u = Value.bool b from ru)
  obtain ⟨z, its, n, r, hl, e⟩ := I.lstM hH
  cases bools_are r
  refine call_meets PySem.F.slot_list_count ⟨_, e, rfl⟩ PySem.F.entry_list_count (PySem.F.args_list_count_2 _ _) (PySem.SeqAt.list_countAt l _ n none #[] (.bool b) (isBoolOf b)) ⟨e, fun y hy => ?_, ?_⟩
  · obtain ⟨c, _, rfl⟩ := List.mem_map.mp (List.mem_toArray.mp hy)
    exact PySem.SeqAt.EqAt.bool_bool c b
  · refine ⟨.int _, H, I.tok _, ⟨_, rfl⟩, ?_⟩
    have hc : ((bs.map Value.bool).toArray.toList.countP (isBoolOf b)) = bs.countP (· == b) := by
      show (bs.map Value.bool).countP (isBoolOf b) = _
      rw [List.countP_map]
      rfl
    rw [hc]
    exact q
def rIndex : V → List V → Hp → VK → Prop := fun x vs H Q => ∃ (l : Addr) (bs : List Bool) (b : Bool) (j : Nat), x = .ref l ∧ vs = [.bl b] ∧ H l = some (.lst (bs.map V.bl)) ∧ bs[j]? = some b ∧ (∀ m, m < j → bs[m]? ≠ some b) ∧ j < 1000 ∧ Q (.int (j : Int)) H
theorem mt_index {X : Cx} : MtM X "list.index" rIndex := by
  intro pins s σ H x vs v us Q I rx rv h
  obtain ⟨l, bs, b, j, rfl, rfl, hH, hj, hm, hsm, q⟩ := h
  cases rx
  obtain ⟨u, rfl, ru⟩ := rv.one
  cases (show u = Value.bool b from ru)
  obtain ⟨z, its, n, r, hl, e⟩ := I.lstM hH
  cases bools_are r
  obtain ⟨hj1, hj2⟩ := List.getElem?_eq_some_iff.mp hj
  refine call_meets PySem.F.slot_list_index ⟨_, e, rfl⟩ PySem.F.entry_list_index (PySem.F.args_list_index_2 _ _) (PySem.SeqAt.list_indexAt l _ n none #[] (.bool b) (isBoolOf b) j (by simpa using hj1) (by omega) ?_ ?_) ⟨e, fun y hy => ?_, ?_⟩
  · simp [isBoolOf, hj2]
  · intro k hk hlt
    have hk' : k < bs.length := by simpa using hk
    have := hm k hlt
    rw [List.getElem?_eq_getElem hk'] at this
    simp only [List.getElem_toArray, List.getElem_map, isBoolOf]
    exact beq_eq_false_iff_ne.mpr fun w => this (congrArg some w)
  · obtain ⟨c, _, rfl⟩ := List.mem_map.mp (List.mem_toArray.mp hy)
    exact PySem.SeqAt.EqAt.bool_bool c b
  · exact ⟨.int _, H, I.tok _, ⟨_, rfl⟩, q⟩
section
variable {K : PySem.W.Frag} {mg : Str → Option Value} {D c0 c1 c2 c3 c4 c5 c6 c7 : Addr}
abbrev Pots8 (K : PySem.W.Frag) (mg : Str → Option Value) (D c0 c1 c2 c3 c4 c5 c6 c7 : Addr) : Prop := Pots K mg D [c0, c1, c2, c3, c4, c5, c6, c7]
theorem Pots.all (Z : Pots8 K mg D c0 c1 c2 c3 c4 c5 c6 c7) : mg "NoWares" = some (.ref c0) ∧ mg "NoPlan" = some (.ref c1) ∧ mg "NoSet" = some (.ref c2) ∧ mg "NoMost" = some (.ref c3) ∧
    mg "NoAnswers" = some (.ref c4) ∧ mg "NoFit" = some (.ref c5) ∧ mg "NotTold" = some (.ref c6) ∧ mg "NoNote" = some (.ref c7) := by
  have h := Z.nm
  unfold potNames at h
  cases h with | cons h0 h => cases h with | cons h1 h => cases h with | cons h2 h => cases h with | cons h3 h => cases h with | cons h4 h => cases h with | cons h5 h => cases h with | cons h6 h => cases h with | cons h7 h =>
    exact ⟨h0, h1, h2, h3, h4, h5, h6, h7⟩
end
/-- one of a list without repetition, marked -/
theorem marks_count : ∀ {cs : List Addr} {c : Addr}, cs.Nodup → c ∈ cs → (cs.map fun x => decide (c = x)).countP (· == true) = 1
  | [], _, _, h => nomatch h
  | x :: cs, c, nd, h => by
    rw [List.nodup_cons] at nd
    rw [List.map_cons, List.countP_cons]
    by_cases q : c = x
    · subst q
      have z : (cs.map fun x => decide (c = x)).countP (· == true) = 0 := by
        rw [List.countP_eq_zero]
        intro b hb
        obtain ⟨y, hy, rfl⟩ := List.mem_map.mp hb
        intro w
        have : c = y := of_decide_eq_true (beq_iff_eq.mp w)
        exact nd.1 (this ▸ hy)
      rw [z, decide_eq_true rfl]
      rfl
    · rw [marks_count nd.2 ((List.mem_cons.mp h).resolve_left q), decide_eq_false q]
      rfl
theorem marks_at {cs : List Addr} {c : Addr} {j : Nat} (h : cs[j]? = some c) : (cs.map fun x => decide (c = x))[j]? = some true := by
  rw [List.getElem?_map, h]
  simp
theorem marks_not {cs : List Addr} {c : Addr} {j : Nat} (nd : cs.Nodup) (h : cs[j]? = some c) : ∀ m, m < j → (cs.map fun x => decide (c = x))[m]? ≠ some true := by
  intro m hm z
  rw [List.getElem?_map] at z
  cases e : cs[m]? with
  | none => rw [e] at z; cases z
  | some x =>
    rw [e] at z
    have q : c = x := of_decide_eq_true (Option.some.inj z)
    subst q
    have := (List.getElem?_inj (List.getElem?_eq_some_iff.mp e).1 nd).mp (e.trans h.symm)
    omega
end L2

/-! EXT 17: small things for the laws with refusals. -/
namespace L2
open PySem PySem.Spec PyProof.Rows
theorem iteEqT {i j : Int} {P Q : Prop} (h : i = j) (p : P) : if decide (V.int i = V.int j) = true then P else Q := by
  rw [if_pos (decide_eq_true (congrArg V.int h))]
  exact p
theorem iteEqF {i j : Int} {P Q : Prop} (h : i ≠ j) (q : Q) : if decide (V.int i = V.int j) = true then P else Q := by
  rw [if_neg (fun z => h (V.int.inj (of_decide_eq_true z)))]
  exact q
end L2

namespace Law
open PySem L2
set_option maxHeartbeats 4000000
def top (i : Nat) : Stmt := PySem.Challenge.pw_mixpots_k04_sorted_out.main.body.getD i (.Pass ⟨0, 0, 0, 0⟩)
abbrev s_is_set : Stmt := top 14
abbrev s_is_plan : Stmt := top 15
abbrev s_check_wares : Stmt := top 16
abbrev s_check_plan : Stmt := top 17
abbrev s_check_most : Stmt := top 18
abbrev s_has_ware_of : Stmt := top 19
abbrev s_answers_of : Stmt := top 20
abbrev s_one_ware_more : Stmt := top 21
abbrev s_sets : Stmt := top 22
abbrev s_check_answers : Stmt := top 24
abbrev s_fitting : Stmt := top 25
abbrev s_how_many_have : Stmt := top 26
abbrev s_sorted_out : Stmt := top 27
abbrev s__law_cell_at : Stmt := top 29
abbrev s__law_whole : Stmt := top 30
abbrev s__law_is_list : Stmt := top 31
abbrev s__law_word_of : Stmt := top 32
abbrev s__law_some_by : Stmt := top 33
abbrev s__law_plan_by : Stmt := top 34
abbrev s__law_met : Stmt := top 35
abbrev s__law_sets : Stmt := top 36
abbrev s__law_tried : Stmt := top 37
abbrev s__law_due : Stmt := top 38
abbrev s_law : Stmt := top 39
section
variable {P : Program} {w : World} {K : PySem.W.Frag} {mg : Str → Option Value} {base : Heap} {PD c0 c1 c2 c3 c4 c5 c6 c7 : Addr}
def sp_is_set : Sp := fun vs H Q _ => ∃ (wn : Int) (v : V) (ns : List Int), vs = [.int wn, v] ∧ LI H v ns ∧ Q (.bl (Mix.isSet wn ns)) H
theorem sc_is_set : FnScope ["wares", "members", "before", "ware"] ["wares", "members"] (defScope s_is_set) := ⟨rfl, rfl, rfl, by decide +kernel, rfl, by decide +kernel, by decide +kernel⟩
theorem ok_is_set (D : Def K mg "is_set" s_is_set) : Ok P w K mg base "is_set" 1 ["wares", "members"] sp_is_set := by
  refine D.ok sc_is_set (fun _ _ _ _ _ _ us hl => match us, hl with | [_, _], _ => rfl) (fun vs H Q E h => ?_) (fun f cdv A outer s H vs Q E hr h => ?_)
  · obtain ⟨wn, v, ns, rfl, _⟩ := h
    rfl
  · obtain ⟨wn, v, ns, rfl, ⟨a, rfl, ha⟩, k⟩ := h
    refine ⟨_, pss_cons (ps_set (i := 2) sc_is_set.nd rfl (Or.inl rfl) (pe_un un_neg pe_int))
      (pss_cons (ps_for PassesOwn.never rfl (pi_list (pv 1)) (pg_name (i := 3) sc_is_set.nd rfl (Or.inl rfl))
        (pss_cons (ps_if (pw_or (pt_cmpR op_le (pv 3) (pv 2) (nomark _)) (pw_or1 (pt_cmpR op_ge (pv 3) (pv 0) (nomark _)))).pt (pss_one (ps_ret pe_bl)) pss_nil)
        (pss_one (ps_set (i := 2) sc_is_set.nd rfl (Or.inl rfl) (pv 3)))))
      (pss_one (ps_ret pe_bl))), ?_⟩
    refine ⟨_, rfl, _, rfl, a, rfl, ⟨_, SqL.of ha⟩, for_list (K := K) (a := a) (xs := ns.map V.int) (fun i σ H2 => H2 = H ∧ ∃ (b : Int) (c : Option V), σ = [some (.int wn), some (.ref a), some (.int b), c] ∧ Mix.isSetFrom wn b (ns.drop i) = Mix.isSet wn ns)
      ⟨rfl, -1, none, rfl, rfl⟩ (fun i σ H2 _ ⟨e, _⟩ => e ▸ SqL.of ha) ?_ ?_⟩
    · rintro i y σ H2 hi ⟨rfl, b, c, rfl, hb⟩
      obtain ⟨z, rfl, hz⟩ := map_int_get hi
      have hd : ns.drop i = z :: ns.drop (i + 1) := by
        obtain ⟨h1, h2⟩ := List.getElem?_eq_some_iff.mp hz
        rw [List.drop_eq_getElem_cons h1, h2]
      rw [hd, Mix.isSetFrom_cons] at hb
      refine ⟨_, rfl, _, rfl, _, _, rfl, rfl, _, rfl, ?_⟩
      refine ite2 (fun h1 => ?_) (fun h1 => ?_)
      · refine iteT ?_
        rw [if_pos (.inl (of_decide_eq_true h1))] at hb
        rw [← hb] at k
        exact k
      · have n1 : ¬ z ≤ b := fun q => h1 (decide_eq_true q)
        refine ⟨_, rfl, _, rfl, _, _, rfl, rfl, _, rfl, ?_⟩
        refine ite2 (fun h2 => ?_) (fun h2 => ?_)
        · rw [if_pos (.inr (of_decide_eq_true h2))] at hb
          rw [← hb] at k
          exact k
        · have n2 : ¬ wn ≤ z := fun q => h2 (decide_eq_true q)
          rw [if_neg (fun q => q.elim n1 n2)] at hb
          exact ⟨_, rfl, rfl, z, _, rfl, hb⟩
    · rintro σ H2 ⟨rfl, b, c, rfl, hb⟩
      rw [List.length_map, List.drop_length] at hb
      rw [← hb] at k
      exact k

def sp_is_plan : Sp := fun vs H Q _ => ∃ (wn : Int) (v : V) (p : List (List Int)), vs = [.int wn, v] ∧ LL H v p ∧ Q (.bl (Mix.isPlan wn p)) H
theorem sc_is_plan : FnScope ["wares", "plan", "mixture"] ["wares", "plan"] (defScope s_is_plan) := ⟨rfl, rfl, rfl, by decide +kernel, rfl, by decide +kernel, by decide +kernel⟩
theorem ok_is_plan (D : Def K mg "is_plan" s_is_plan) (O1 : Ok P w K mg base "is_set" 1 ["wares", "members"] sp_is_set) (zlen : mg "len" = none) (tm : Tok) (zm : mg "MIXTURES_LIMIT" = some (.int 12 tm)) : Ok P w K mg base "is_plan" 2 ["wares", "plan"] sp_is_plan := by
  refine D.ok sc_is_plan (fun _ _ _ _ _ _ us hl => match us, hl with | [_, _], _ => rfl) (fun vs H Q E h => ?_) (fun f cdv A outer s H vs Q E hr h => ?_)
  · obtain ⟨wn, v, ns, rfl, _⟩ := h
    rfl
  · obtain ⟨wn, v, p, rfl, ⟨a, xs, rfl, ha, hp⟩, k⟩ := h
    have hlen := hp.length
    refine ⟨_, pss_cons (ps_if (pt_cmpR op_gt (pe_callB call_len_seq (by rfl) zlen PySem.boot_len (pa_cons (pv 1) pa_nil)) (pe_glob (v := .int 12) (by rfl) zm ⟨tm, rfl⟩) (nomark _)) (pss_one (ps_ret pe_bl)) pss_nil)
      (pss_cons (ps_for PassesOwn.never rfl (pi_list (pv 1)) (pg_name (i := 2) sc_is_plan.nd rfl (Or.inl rfl))
        (pss_one (ps_if (pw_or (pt_cmpR op_eq (pe_callB call_len_seq (by rfl) zlen PySem.boot_len (pa_cons (pv 2) pa_nil)) pe_int (nomark _))
          (pw_or1 (pt_not (pt_val (pe_callO O1 hr (pa_cons (pv 0) (pa_cons (pv 2) pa_nil))))))).pt (pss_one (ps_ret pe_bl)) pss_nil)))
      (pss_one (ps_ret pe_bl))), ?_⟩
    refine ⟨_, rfl, a, xs, rfl, .inl (SqL.of ha), _, _, rfl, rfl, _, rfl, ?_⟩
    refine ite2 (fun h1 => ?_) (fun h1 => ?_)
    · have h1 : (12 : Int) < xs.length := of_decide_eq_true h1
      have : Mix.isPlan wn p = false := by
        unfold Mix.isPlan
        rw [decide_eq_false (by omega)]
        rfl
      rw [this] at k
      exact k
    · have h1 : ¬ (12 : Int) < xs.length := fun q => h1 (decide_eq_true q)
      have hle : p.length ≤ 12 := by omega
      have key : Mix.isPlan wn p = p.all (Mix.isMix wn) := by
        unfold Mix.isPlan
        rw [decide_eq_true hle]
        rfl
      rw [key] at k
      refine ⟨_, rfl, a, rfl, ⟨_, SqL.of ha⟩, for_list (K := K) (a := a) (xs := xs) (fun i σ H2 => H2 = H ∧ ∃ c : Option V, σ = [some (.int wn), some (.ref a), c] ∧ (p.drop i).all (Mix.isMix wn) = p.all (Mix.isMix wn))
        ⟨rfl, none, rfl, rfl⟩ (fun i σ H2 _ ⟨e, _⟩ => e ▸ SqL.of ha) ?_ ?_⟩
      · rintro i y σ H2 hi ⟨rfl, c, rfl, hb⟩
        obtain ⟨m, hm, b, rfl, hbm⟩ := Paired.get hp hi
        have hd : p.drop i = m :: p.drop (i + 1) := by
          obtain ⟨h1, h2⟩ := List.getElem?_eq_some_iff.mp hm
          rw [List.drop_eq_getElem_cons h1, h2]
        rw [hd, List.all_cons] at hb
        refine ⟨_, rfl, b, _, rfl, .inl (SqL.of hbm), rfl, _, rfl, ?_⟩
        refine ite2 (fun h2 => ?_) (fun h2 => ?_)
        · have h2 := of_decide_eq_true h2
          have e0 : m = [] := by
            cases m with
            | nil => rfl
            | cons x r => exact absurd (V.int.inj h2) (by simp; omega)
          subst e0
          refine iteT ?_
          rw [show Mix.isMix wn [] = false from rfl, Bool.false_and] at hb
          rw [← hb] at k
          exact k
        · have ne : m.isEmpty = false := by
            cases m with
            | nil => exact absurd (by simp) h2
            | cons x r => rfl
          refine ⟨_, rfl, _, rfl, wn, .ref b, m, rfl, ⟨b, rfl, hbm⟩, _, rfl, ?_⟩
          have em : Mix.isMix wn m = Mix.isSet wn m := by
            unfold Mix.isMix
            rw [ne]
            rfl
          rw [em] at hb
          cases e : Mix.isSet wn m with
          | false =>
            rw [e, Bool.false_and] at hb
            rw [← hb] at k
            exact k
          | true =>
            rw [e, Bool.true_and] at hb
            exact ⟨rfl, _, rfl, hb⟩
      · rintro σ H2 ⟨rfl, c, rfl, hb⟩
        rw [hlen, List.drop_length] at hb
        rw [← hb] at k
        exact k

def sp_check_wares : Sp := fun vs H Q _ => ∃ wn : Int, vs = [.int wn] ∧ 1 ≤ wn ∧ wn ≤ 8 ∧ Q .non H
theorem sc_check_wares : FnScope ["wares"] ["wares"] (defScope s_check_wares) := ⟨rfl, rfl, rfl, by decide +kernel, rfl, by decide +kernel, by decide +kernel⟩
theorem ok_check_wares (D : Def K mg "check_wares" s_check_wares) (tw : Tok) (zw : mg "WARES_LIMIT" = some (.int 8 tw)) : Ok P w K mg base "check_wares" 1 ["wares"] sp_check_wares := by
  refine D.ok sc_check_wares (fun _ _ _ _ _ _ us hl => match us, hl with | [_], _ => rfl) (fun vs H Q E h => ?_) (fun f cdv A outer s H vs Q E hr h => ?_)
  · obtain ⟨wn, rfl, _⟩ := h
    rfl
  · obtain ⟨wn, rfl, h1, h2, k⟩ := h
    refine ⟨_, pss_one (ps_if (pw_or (pt_cmpR op_lt (pv 0) pe_int (nomark _)) (pw_or1 (pt_cmpR op_gt (pv 0) (pe_glob (v := .int 8) (by rfl) zw ⟨tw, rfl⟩) (nomark _)))).pt pss_never pss_nil), ?_⟩
    refine ⟨_, rfl, _, _, rfl, rfl, _, rfl, ?_⟩
    refine ite2 (fun q => ?_) (fun _ => ?_)
    · have := of_decide_eq_true q
      omega
    · refine ⟨_, rfl, _, _, rfl, rfl, _, rfl, ?_⟩
      refine ite2 (fun q => ?_) (fun _ => k)
      have := of_decide_eq_true q
      omega

def sp_check_plan : Sp := fun vs H Q _ => ∃ (wn : Int) (v : V) (p : List (List Int)), vs = [.int wn, v] ∧ 1 ≤ wn ∧ wn ≤ 8 ∧ LL H v p ∧ Mix.isPlan wn p = true ∧ Q .non H
theorem sc_check_plan : FnScope ["wares", "plan"] ["wares", "plan"] (defScope s_check_plan) := ⟨rfl, rfl, rfl, by decide +kernel, rfl, by decide +kernel, by decide +kernel⟩
theorem ok_check_plan (D : Def K mg "check_plan" s_check_plan) (O1 : Ok P w K mg base "check_wares" 1 ["wares"] sp_check_wares) (O2 : Ok P w K mg base "is_plan" 2 ["wares", "plan"] sp_is_plan) : Ok P w K mg base "check_plan" 3 ["wares", "plan"] sp_check_plan := by
  refine D.ok sc_check_plan (fun _ _ _ _ _ _ us hl => match us, hl with | [_, _], _ => rfl) (fun vs H Q E h => ?_) (fun f cdv A outer s H vs Q E hr h => ?_)
  · obtain ⟨wn, v, p, rfl, _⟩ := h
    rfl
  · obtain ⟨wn, v, p, rfl, h1, h2, hl, hp, k⟩ := h
    refine ⟨_, pss_cons (ps_expr (pe_callO O1 (hr.mono (by decide)) (pa_cons (pv 0) pa_nil)))
      (pss_one (ps_if (pt_not (pt_val (pe_callO O2 hr (pa_cons (pv 0) (pa_cons (pv 1) pa_nil))))) pss_never pss_nil)), ?_⟩
    refine ⟨_, rfl, wn, rfl, h1, h2, ?_⟩
    refine ⟨_, rfl, _, rfl, wn, v, p, rfl, hl, _, rfl, ?_⟩
    rw [hp]
    exact k

def sp_check_most : Sp := fun vs H Q _ => ∃ m : Int, vs = [.int m] ∧ 0 ≤ m ∧ m ≤ 3 ∧ Q .non H
theorem sc_check_most : FnScope ["most"] ["most"] (defScope s_check_most) := ⟨rfl, rfl, rfl, by decide +kernel, rfl, by decide +kernel, by decide +kernel⟩
theorem ok_check_most (D : Def K mg "check_most" s_check_most) (tw : Tok) (zw : mg "MOST_LIMIT" = some (.int 3 tw)) : Ok P w K mg base "check_most" 1 ["most"] sp_check_most := by
  refine D.ok sc_check_most (fun _ _ _ _ _ _ us hl => match us, hl with | [_], _ => rfl) (fun vs H Q E h => ?_) (fun f cdv A outer s H vs Q E hr h => ?_)
  · obtain ⟨wn, rfl, _⟩ := h
    rfl
  · obtain ⟨wn, rfl, h1, h2, k⟩ := h
    refine ⟨_, pss_one (ps_if (pw_or (pt_cmpR op_lt (pv 0) pe_int (nomark _)) (pw_or1 (pt_cmpR op_gt (pv 0) (pe_glob (v := .int 3) (by rfl) zw ⟨tw, rfl⟩) (nomark _)))).pt pss_never pss_nil), ?_⟩
    refine ⟨_, rfl, _, _, rfl, rfl, _, rfl, ?_⟩
    refine ite2 (fun q => ?_) (fun _ => ?_)
    · have := of_decide_eq_true q
      omega
    · refine ⟨_, rfl, _, _, rfl, rfl, _, rfl, ?_⟩
      refine ite2 (fun q => ?_) (fun _ => k)
      have := of_decide_eq_true q
      omega

def sp_has_ware_of : Sp := fun vs H Q _ => ∃ (v u : V) (m t : List Int), vs = [v, u] ∧ LI H v m ∧ LI H u t ∧ Q (.bl (Mix.hit m t)) H
theorem sc_has_ware_of : FnScope ["mixture", "members", "ware"] ["mixture", "members"] (defScope s_has_ware_of) := ⟨rfl, rfl, rfl, by decide +kernel, rfl, by decide +kernel, by decide +kernel⟩
theorem ok_has_ware_of (D : Def K mg "has_ware_of" s_has_ware_of) : Ok P w K mg base "has_ware_of" 1 ["mixture", "members"] sp_has_ware_of := by
  refine D.ok sc_has_ware_of (fun _ _ _ _ _ _ us hl => match us, hl with | [_, _], _ => rfl) (fun vs H Q E h => ?_) (fun f cdv A outer s H vs Q E hr h => ?_)
  · obtain ⟨v, u, m, t, rfl, _⟩ := h
    rfl
  · obtain ⟨v, u, m, t, rfl, ⟨a, rfl, ha⟩, ⟨b, rfl, hb⟩, k⟩ := h
    refine ⟨_, pss_cons (ps_for PassesOwn.never rfl (pi_list (pv 0)) (pg_name (i := 2) sc_has_ware_of.nd rfl (Or.inl rfl))
        (pss_one (ps_if (pt_cmpR op_in_seq (pv 2) (pv 1) (by with_unfolding_all rfl)) (pss_one (ps_ret pe_bl)) pss_nil)))
      (pss_one (ps_ret pe_bl)), ?_⟩
    refine ⟨_, rfl, a, rfl, ⟨_, SqL.of ha⟩, for_list (K := K) (a := a) (xs := m.map V.int) (fun i σ H2 => H2 = H ∧ ∃ c : Option V, σ = [some (.ref a), some (.ref b), c] ∧ Mix.hit (m.drop i) t = Mix.hit m t)
      ⟨rfl, none, rfl, rfl⟩ (fun i σ H2 _ ⟨e, _⟩ => e ▸ SqL.of ha) ?_ ?_⟩
    · rintro i y σ H2 hi ⟨rfl, c, rfl, hh⟩
      obtain ⟨z, rfl, hz⟩ := map_int_get hi
      have hd : m.drop i = z :: m.drop (i + 1) := by
        obtain ⟨h1, h2⟩ := List.getElem?_eq_some_iff.mp hz
        rw [List.drop_eq_getElem_cons h1, h2]
      rw [hd, Mix.hit_cons] at hh
      refine ⟨_, rfl, _, rfl, b, _, rfl, .inl (SqL.of hb), rfl, flat_ints t, _, rfl, ?_⟩
      show if inV (V.int z) (t.map V.int) = true then _ else _
      rw [inV_ints]
      cases e : t.contains z with
      | true =>
        rw [e, Bool.true_or] at hh
        rw [← hh] at k
        exact k
      | false =>
        rw [e, Bool.false_or] at hh
        exact ⟨rfl, _, rfl, hh⟩
    · rintro σ H2 ⟨rfl, c, rfl, hh⟩
      rw [List.length_map, List.drop_length] at hh
      rw [← hh] at k
      exact k

/-- the answers of some wares, a new list -/
def sp_answers_of : Sp := fun vs H Q _ => ∃ (v u : V) (p : List (List Int)) (t : List Int), vs = [v, u] ∧ LL H v p ∧ LI H u t ∧ p.length ≤ 900 ∧ ∀ l H', H l = none → Same H H' → H' l = some (.lst ((Mix.ans p t).map V.bl)) → Q (.ref l) H'
abbrev nm_answers_of : List Str := ["plan", "members"]
theorem sc_answers_of : FnScope ["plan", "members"] ["plan", "members"] (defScope s_answers_of) := ⟨rfl, rfl, rfl, by decide +kernel, rfl, by decide +kernel, by decide +kernel⟩
theorem ok_answers_of (D : Def K mg "answers_of" s_answers_of) (O3 : Ok P w K mg base "has_ware_of" 1 ["mixture", "members"] sp_has_ware_of) :
    Ok P w K mg base "answers_of" 2 ["plan", "members"] sp_answers_of := by
  refine D.ok sc_answers_of (fun _ _ _ _ _ _ us hl => match us, hl with | [_, _], _ => rfl) (fun vs H Q E h => ?_) (fun f cdv A outer s H vs Q E hr h => ?_)
  · obtain ⟨v, u, p, t, rfl, _⟩ := h
    rfl
  · obtain ⟨v, u, p, t, rfl, hl, hu, hp9, k⟩ := h
    refine ⟨_, pss_one (ps_ret (pe_lc ["mixture", "members"] [none, some 1] rfl (lc_of (defScope s_answers_of).names nm_answers_of (fun _ => rfl) rfl rfl (by decide +kernel)) (pi_list (pv 0))
        (fun _ _ _ _ _ => pg_lc 0 (by decide +kernel)) (fun _ _ _ _ _ => pif_nil)
        (fun _ _ _ _ _ => pe_callO O3 (hr.mono (by decide)) (pa_cons (pv 0) (pa_cons (pv 1) pa_nil))))), ?_⟩
    obtain ⟨a, xs, rfl, ha, hx⟩ := hl
    have hlen := hx.length
    refine ⟨_, rfl, a, rfl, ⟨_, SqL.of ha⟩, fun d hd => lc_list (K := K) (a := a) (xs := xs) (fun i σ H2 => H2 = upd H d (.lst ((Mix.ans (p.take i) t).map V.bl)) ∧ ∃ c : Option V, σ = [c, some u])
      ⟨rfl, none, rfl⟩ (fun i σ H2 _ ⟨e, _⟩ => by subst e; exact SqL.of (by rw [upd_ne (ne_of_none ha hd)]; exact ha)) ?_ ?_⟩
    · rintro i y σ H2 hi ⟨rfl, c, rfl⟩
      obtain ⟨m, hm, b, rfl, hbm⟩ := Paired.get hx hi
      have sm := same_upd (o := .lst ((Mix.ans (p.take i) t).map V.bl)) hd
      have hil : i < p.length := (List.getElem?_eq_some_iff.mp hm).1
      refine yesG ?_
      refine ⟨_, rfl, _, rfl, .ref b, u, m, t, rfl, ⟨b, rfl, sm _ _ hbm⟩, hu.same sm, _, upd_same, ?_, ?_, _, rfl⟩
      · rw [List.length_map]
        refine lt1000 ?_
        unfold Mix.ans
        rw [List.length_map, List.length_take]
        omega
      · rw [upd_upd, List.take_add_one, hm]
        unfold Mix.ans
        simp
    · rintro σ H2 ⟨rfl, c, rfl⟩
      refine k d _ hd (same_upd hd) ?_
      rw [upd_same, hlen, List.take_length]

/-- each list with one ware more behind it, in all ways: new lists -/
def sp_one_ware_more : Sp := fun vs H Q _ => ∃ (n : Nat) (v : V) (p : List (List Int)), vs = [.int n, v] ∧ n ≤ 8 ∧ LL H v p ∧ p.length ≤ 100 ∧ (∀ s ∈ p, (∀ x ∈ s, 0 ≤ x ∧ x < n) ∧ s.length ≤ 3) ∧ RetL H Q (p.flatMap (Mix.more n))
theorem sc_one_ware_more : FnScope ["wares", "smaller", "larger", "members", "first", "ware"] ["wares", "smaller"] (defScope s_one_ware_more) := ⟨rfl, rfl, rfl, by decide +kernel, rfl, by decide +kernel, by decide +kernel⟩
theorem more_len (n : Nat) (s : List Int) : (Mix.more n s).length = n - Mix.first s := by
  unfold Mix.more
  rw [List.length_map, List.length_range]
theorem more_all_len {n : Nat} (h : n ≤ 8) : ∀ p : List (List Int), (p.flatMap (Mix.more n)).length ≤ 8 * p.length
  | [] => by simp
  | s :: r => by
    have := more_all_len h r
    have := more_len n s
    rw [List.flatMap_cons, List.length_append, List.length_cons]
    omega
theorem ok_one_ware_more (D : Def K mg "one_ware_more" s_one_ware_more) (zlen : mg "len" = none) (zrange : mg "range" = none) : Ok P w K mg base "one_ware_more" 1 ["wares", "smaller"] sp_one_ware_more := by
  refine D.ok sc_one_ware_more (fun _ _ _ _ _ _ us hl => match us, hl with | [_, _], _ => rfl) (fun vs H Q E h => ?_) (fun f cdv A outer s H vs Q E hr h => ?_)
  · obtain ⟨n, v, p, rfl, _⟩ := h
    rfl
  · obtain ⟨n, v, p, rfl, hn8, ⟨a, xs, rfl, ha, hx⟩, hp1, hp2, k⟩ := h
    have nd := sc_one_ware_more.nd
    have hlen := hx.length
    refine ⟨_, pss_cons (ps_set (i := 2) nd rfl (Or.inl rfl) (pe_lst pa_nil))
      (pss_cons (ps_for PassesOwn.never rfl (pi_list (pv 1)) (pg_name (i := 3) nd rfl (Or.inl rfl))
        (pss_cons (ps_set (i := 4) nd rfl (Or.inl rfl) (pe_cut (pe_ifExp (pt_cmpR op_gt (pe_callB call_len_seq (by rfl) zlen PySem.boot_len (pa_cons (pv 3) pa_nil)) pe_int (nomark _))
          (pe_op op_add (pe_ix ix_list (pv 3) (pe_un un_neg pe_int) (fun _ _ => rfl)) pe_int) pe_int)))
        (pss_one (ps_for PassesOwn.never rfl (pi_range2 (by rfl) zrange (pa_cons (pv 4) (pa_cons (pv 0) pa_nil))) (pg_name (i := 5) nd rfl (Or.inl rfl))
          (pss_one (ps_expr (pe_bm PySem.F.plainAttrs_list PySem.F.slot_list_append PySem.F.type_list_append mt_append (pv 2) (pa_cons (pe_op op_cat (pv 3) (pe_lst (pa_cons (pv 5) pa_nil))) pa_nil))))))))
      (pss_one (ps_ret (pv 2)))), ?_⟩
    refine ⟨Nat.zero_le _, fun l hl => ?_⟩
    refine ⟨_, rfl, a, rfl, ⟨_, SqL.of (same_upd hl _ _ ha)⟩, for_list (K := K) (a := a) (xs := xs) (fun i σ H2 => Nw H H2 l ((p.take i).flatMap (Mix.more n)) ∧ Same H H2 ∧ ∃ x y z : Option V, σ = [some (.int n), some (.ref a), some (.ref l), x, y, z])
      ⟨Nw.nil hl upd_same, same_upd hl, none, none, none, by simp [L2.start]⟩ (fun i σ H2 _ ⟨_, sm, _⟩ => SqL.of (sm _ _ ha)) ?_ ?_⟩
    · rintro i y σ H2 hi ⟨N2, s2, x, y', z, rfl⟩
      obtain ⟨m, hm, c, rfl, hc⟩ := Paired.get hx hi
      have hil : i < p.length := (List.getElem?_eq_some_iff.mp hm).1
      have hmem : m ∈ p := List.mem_of_getElem? hm
      obtain ⟨hm1, hm2⟩ := hp2 m hmem
      have hfirst : (Mix.first m : Int) ≤ n := by
        unfold Mix.first
        cases e : m.getLast? with
        | none => simp
        | some x =>
          have := hm1 x (List.mem_of_getLast? e)
          simp only
          omega
      refine ⟨fun v H3 => v = .int (Mix.first m) ∧ H3 = H2, ?_, ?_⟩
      · refine ⟨_, rfl, c, _, rfl, .inl (SqL.of (s2 _ _ hc)), _, _, rfl, rfl, _, rfl, ?_⟩
        refine ite2 (fun h1 => ?_) (fun h1 => ?_)
        · have h1 : (0 : Int) < ((m.map V.int).length : Nat) := of_decide_eq_true h1
          rw [List.length_map] at h1
          obtain ⟨m', z', rfl⟩ : ∃ m' z', m = m' ++ [z'] := by
            refine ⟨m.dropLast, m.getLast (by intro e; subst e; simp at h1), (List.dropLast_concat_getLast _).symm⟩
          refine ⟨_, rfl, _, rfl, c, _, _, .int z', rfl, rfl, SqL.of (s2 _ _ hc), ?_, _, _, rfl, rfl, ?_⟩
          · rw [List.map_append]
            exact atI_last _ _
          · have e : z' + 1 = (Mix.first (m' ++ [z']) : Int) := by
              have := hm1 z' (by simp)
              unfold Mix.first
              rw [List.getLast?_append]
              simp
              omega
            exact ⟨congrArg V.int e, rfl⟩
        · have h1 : ¬ (0 : Int) < ((m.map V.int).length : Nat) := fun q => h1 (decide_eq_true q)
          rw [List.length_map] at h1
          have e : m = [] := List.eq_nil_of_length_eq_zero (by omega)
          subst e
          exact ⟨rfl, rfl⟩
      · rintro v H3 ⟨rfl, rfl⟩
        refine ⟨_, rfl, _, rfl, (Mix.first m : Int), (n : Int), rfl, ⟨by omega, by omega, by omega, by omega⟩, for_range (lo := (Mix.first m : Int)) (n := ((n : Int) - (Mix.first m : Int)).toNat)
          (fun j σ H4 => Nw H H4 l ((p.take i).flatMap (Mix.more n) ++ (List.range j).map fun (k : Nat) => m ++ [((Mix.first m + k : Nat) : Int)]) ∧ Same H H4 ∧ ∃ z : Option V, σ = [some (.int n), some (.ref a), some (.ref l), some (.ref c), some (.int (Mix.first m)), z])
          ⟨by simpa using N2, s2, z, rfl⟩ ?_ ?_⟩
        · rintro j σ H4 hj ⟨N4, s4, z', rfl⟩
          obtain ⟨ys, ey, ry⟩ := N4.ex
          have hlen4 := ry.length
          have hl2 := more_all_len hn8 (p.take i)
          rw [List.length_take] at hl2
          rw [List.length_append, List.length_map, List.length_range] at hlen4
          have hcl : l ≠ c := (ne_of_none hc hl).symm
          refine ⟨_, rfl, .inl ⟨rfl, _, SqL.of ey⟩, _, rfl, _, rfl, le1000 (by simp), fun q hq => ⟨c, q, _, _, rfl, rfl, same_upd hq _ _ (s4 _ _ hc), upd_same, le1000 (by rw [List.length_map]; simp; omega), fun r hr2 => ?_⟩⟩
          have hr0 : H4 r = none := (same_upd hq).free hr2
          have hql : l ≠ q := ne_of_none ey hq
          have hrl : l ≠ r := ne_of_none ey hr0
          have e2 : upd (upd H4 q (.lst [.int ((Mix.first m : Int) + (j : Int))])) r (.lst (m.map V.int ++ [.int ((Mix.first m : Int) + (j : Int))])) l = some (.lst ys) := by
            rw [upd_ne hrl, upd_ne hql]; exact ey
          refine ⟨l, ys, _, rfl, rfl, e2, lt1000 (by omega), ?_⟩
          have s5 : Same H4 (upd (upd H4 q (.lst [.int ((Mix.first m : Int) + (j : Int))])) r (.lst (m.map V.int ++ [.int ((Mix.first m : Int) + (j : Int))]))) := (same_upd hq).trans (same_upd hr2)
          refine ⟨?_, (s4.trans s5).upd hl, _, rfl⟩
          have := N4.snoc (m := m ++ [((Mix.first m + j : Nat) : Int)]) s5 ey (s4.free hr0) hrl.symm (by rw [upd_same]; simp)
          rw [List.append_assoc] at this
          rw [List.range_succ, List.map_append]
          exact this
        · rintro σ H4 ⟨N4, s4, z', rfl⟩
          refine ⟨?_, s4, _, _, _, rfl⟩
          rw [List.take_add_one, hm]
          have e1 : ((n : Int) - (Mix.first m : Int)).toNat = n - Mix.first m := by omega
          rw [e1] at N4
          have e2 : (p.take i ++ (some m).toList).flatMap (Mix.more n) = (p.take i).flatMap (Mix.more n) ++ (List.range (n - Mix.first m)).map fun (k : Nat) => m ++ [((Mix.first m + k : Nat) : Int)] := by
            rw [List.flatMap_append]
            simp [Mix.more]
          rw [e2]
          exact N4
    · rintro σ H2 ⟨N2, s2, x, y, z, rfl⟩
      rw [hlen, List.take_length] at N2
      exact ⟨_, rfl, k l H2 s2 N2⟩

def sp_sets : Sp := fun vs H Q _ => ∃ (n m : Nat), vs = [.int n, .int m] ∧ 1 ≤ n ∧ n ≤ 8 ∧ m ≤ 3 ∧ RetL H Q (Mix.sets n m)
theorem sc_sets : FnScope ["wares", "most", "layer", "found", "step"] ["wares", "most"] (defScope s_sets) := ⟨rfl, rfl, rfl, by decide +kernel, rfl, by decide +kernel, by decide +kernel⟩
theorem ok_sets (D : Def K mg "sets" s_sets) (O1 : Ok P w K mg base "check_wares" 1 ["wares"] sp_check_wares) (O2 : Ok P w K mg base "check_most" 1 ["most"] sp_check_most) (O3 : Ok P w K mg base "one_ware_more" 1 ["wares", "smaller"] sp_one_ware_more)
    (zrange : mg "range" = none) (zlist : mg "list" = none) : Ok P w K mg base "sets" 2 ["wares", "most"] sp_sets := by
  refine D.ok sc_sets (fun _ _ _ _ _ _ us hl => match us, hl with | [_, _], _ => rfl) (fun vs H Q E h => ?_) (fun f cdv A outer s H vs Q E hr h => ?_)
  · obtain ⟨n, m, rfl, _⟩ := h
    rfl
  · obtain ⟨n, m, rfl, n1, n8, m3, k⟩ := h
    have nd := sc_sets.nd
    refine ⟨_, pss_cons (ps_expr (pe_callO O1 hr (pa_cons (pv 0) pa_nil)))
      (pss_cons (ps_expr (pe_callO O2 hr (pa_cons (pv 1) pa_nil)))
      (pss_cons (ps_set (i := 2) nd rfl (Or.inl rfl) (pe_lst (pa_cons (pe_lst pa_nil) pa_nil)))
      (pss_cons (ps_set (i := 3) nd rfl (Or.inl rfl) (pe_callTy call_list_of (by rfl) zlist bt_list (pa_cons (pv 2) pa_nil)))
      (pss_cons (ps_for PassesOwn.never rfl (pi_range1 (by rfl) zrange (pa_cons (pv 1) pa_nil)) (pg_name (i := 4) nd rfl (Or.inl rfl))
        (pss_cons (ps_set (i := 2) nd rfl (Or.inl rfl) (pe_callO O3 hr (pa_cons (pv 0) (pa_cons (pv 2) pa_nil))))
        (pss_one (ps_expr (pe_bm PySem.F.plainAttrs_list PySem.F.slot_list_extend PySem.F.type_list_extend mt_extend (pv 3) (pa_cons (pv 2) pa_nil))))))
      (pss_one (ps_ret (pv 3))))))), ?_⟩
    refine ⟨_, rfl, n, rfl, by omega, by omega, ?_⟩
    refine ⟨_, rfl, m, rfl, by omega, by omega, ?_⟩
    refine ⟨Nat.zero_le _, fun e he => ⟨le1000 (by simp), fun l hl => ?_⟩⟩
    refine ⟨_, rfl, l, _, rfl, .inl (SqL.of upd_same), fun d hd => ?_⟩
    have hle : H l = none := (same_upd he).free hl
    have hd1 : upd H e (.lst []) d = none := (same_upd hl).free hd
    have hd0 : H d = none := (same_upd he).free hd1
    have nel : e ≠ l := ne_of_none upd_same hl
    have ned : e ≠ d := ne_of_none (upd_same (H := H) (a := e) (o := .lst [])) hd1
    have nld : l ≠ d := ne_of_none upd_same hd
    have s0 : Same H (upd (upd (upd H e (.lst [])) l (.lst [.ref e])) d (.lst [.ref e])) := (same_upd he).trans ((same_upd hl).trans (same_upd hd))
    have e0 : upd (upd (upd H e (.lst [])) l (.lst [.ref e])) d (.lst [.ref e]) e = some (.lst (([] : List Int).map V.int)) := by
      rw [upd_ne ned, upd_ne nel, upd_same]; rfl
    refine ⟨_, rfl, (m : Int), rfl, by omega, by omega, for_range (n := m) (fun i σ H2 => ∃ (x : Addr) (z : Option V), σ = [some (.int n), some (.int m), some (.ref x), some (.ref d), z] ∧ x ≠ d ∧ Nw H H2 x (Mix.layer n i) ∧ Nw H H2 d (Mix.sets n i) ∧ Same H H2)
      ⟨l, none, by simp [L2.start], nld, ⟨hle, _, by rw [upd_ne nld]; exact upd_same, .cons ⟨e, rfl, nel, he, e0⟩ .nil⟩, ⟨hd0, _, upd_same, .cons ⟨e, rfl, ned, he, e0⟩ .nil⟩, s0⟩ ?_ ?_⟩
    · rintro i σ H2 hi ⟨x, z, rfl, nxd, N1, N2, s2⟩
      obtain ⟨b1, b2, b3, _⟩ := Mix.small n8 (m := i) (by omega)
      obtain ⟨_, c2, _, _⟩ := Mix.small n8 (m := i + 1) (by omega)
      refine ⟨_, rfl, _, rfl, n, .ref x, _, rfl, n8, N1.ll, b1, b3, fun y H3 s3 N3 => ?_⟩
      have N2' := N2.same s3
      obtain ⟨fs, ef, rf⟩ := N2'.ex
      obtain ⟨ys, ey, ry⟩ := N3.ex
      have l1 := rf.length
      have l2 := ry.length
      have hs : Mix.sets n (i + 1) = Mix.sets n i ++ (Mix.layer n i).flatMap (Mix.more n) := rfl
      rw [hs, List.length_append] at c2
      refine ⟨_, rfl, .inl ⟨rfl, _, SqL.of ef⟩, _, rfl, d, y, fs, ys, rfl, rfl, ef, ey, le1000 (by omega), ?_⟩
      obtain ⟨M1, M2, nyd⟩ := N2.put s2 s3 N3 ef ey
      exact ⟨y, _, rfl, nyd, M2, M1, (s2.trans s3).upd hd0⟩
    · rintro σ H2 ⟨x, z, rfl, nxd, N1, N2, s2⟩
      exact ⟨_, rfl, k d H2 s2 N2⟩

def sp_check_answers : Sp := fun vs H Q _ => ∃ (v u : V) (p : List (List Int)) (bs : List Bool), vs = [v, u] ∧ LL H v p ∧ LB H u bs ∧ bs.length = p.length ∧ Q .non H
theorem sc_check_answers : FnScope ["plan", "told"] ["plan", "told"] (defScope s_check_answers) := ⟨rfl, rfl, rfl, by decide +kernel, rfl, by decide +kernel, by decide +kernel⟩
theorem ok_check_answers (D : Def K mg "check_answers" s_check_answers) (zlen : mg "len" = none) : Ok P w K mg base "check_answers" 1 ["plan", "told"] sp_check_answers := by
  refine D.ok sc_check_answers (fun _ _ _ _ _ _ us hl => match us, hl with | [_, _], _ => rfl) (fun vs H Q E h => ?_) (fun f cdv A outer s H vs Q E hr h => ?_)
  · obtain ⟨v, u, p, bs, rfl, _⟩ := h
    rfl
  · obtain ⟨v, u, p, bs, rfl, ⟨a, xs, rfl, ha, hx⟩, ⟨b, rfl, hb⟩, hl, k⟩ := h
    have hlen := hx.length
    refine ⟨_, pss_one (ps_if (pt_cmpR op_ne (pe_callB call_len_seq (by rfl) zlen PySem.boot_len (pa_cons (pv 1) pa_nil)) (pe_callB call_len_seq (by rfl) zlen PySem.boot_len (pa_cons (pv 0) pa_nil)) (nomark _)) pss_never pss_nil), ?_⟩
    refine ⟨_, rfl, b, _, rfl, .inl (SqL.of hb), _, rfl, a, _, rfl, .inl (SqL.of ha), rfl, _, rfl, ?_⟩
    refine iteNS (by rw [List.length_map, hlen, hl]) k

/-- the sets that fit -/
abbrev fits (n m : Nat) (p : List (List Int)) (bs : List Bool) : List (List Int) := (Mix.sets n m).filter fun t => decide (Mix.ans p t = bs)
def sp_fitting : Sp := fun vs H Q _ => ∃ (n m : Nat) (v u : V) (p : List (List Int)) (bs : List Bool), vs = [.int n, v, .int m, u] ∧ 1 ≤ n ∧ n ≤ 8 ∧ LL H v p ∧ Mix.isPlan n p = true ∧ m ≤ 3 ∧ LB H u bs ∧ bs.length = p.length ∧ RetL H Q (fits n m p bs)
abbrev nm_fitting : List Str := ["wares", "plan", "most", "told"]
theorem sc_fitting : FnScope ["wares", "plan", "most", "told"] ["wares", "plan", "most", "told"] (defScope s_fitting) := ⟨rfl, rfl, rfl, by decide +kernel, rfl, by decide +kernel, by decide +kernel⟩
theorem ok_fitting (D : Def K mg "fitting" s_fitting) (O1 : Ok P w K mg base "check_plan" 3 ["wares", "plan"] sp_check_plan) (O2 : Ok P w K mg base "check_most" 1 ["most"] sp_check_most) (O3 : Ok P w K mg base "check_answers" 1 ["plan", "told"] sp_check_answers)
    (O4 : Ok P w K mg base "sets" 2 ["wares", "most"] sp_sets) (O5 : Ok P w K mg base "answers_of" 2 ["plan", "members"] sp_answers_of) : Ok P w K mg base "fitting" 4 ["wares", "plan", "most", "told"] sp_fitting := by
  refine D.ok sc_fitting (fun _ _ _ _ _ _ us hl => match us, hl with | [_, _, _, _], _ => rfl) (fun vs H Q E h => ?_) (fun f cdv A outer s H vs Q E hr h => ?_)
  · obtain ⟨n, m, v, u, p, bs, rfl, _⟩ := h
    rfl
  · obtain ⟨n, m, v, u, p, bs, rfl, n1, n8, hl, hp, m3, hu, hb, k⟩ := h
    have nd := sc_fitting.nd
    have hun := hr.units
    have r1 : Room 1 _ := hr.mono (by decide)
    have r2 : Room 2 _ := hr.mono (by decide)
    have hp12 := (Mix.isPlan_iff.mp hp).1
    refine ⟨_, pss_cons (ps_expr (pe_callO O1 hr (pa_cons (pv 0) (pa_cons (pv 1) pa_nil))))
      (pss_cons (ps_expr (pe_callO O2 r1 (pa_cons (pv 2) pa_nil)))
      (pss_cons (ps_expr (pe_callO O3 r1 (pa_cons (pv 1) (pa_cons (pv 3) pa_nil))))
      (pss_one (ps_ret (pe_lc ["members", "plan", "told"] [none, some 1, some 3] rfl (lc_of (defScope s_fitting).names nm_fitting (fun _ => rfl) rfl rfl (by decide +kernel)) (pi_list (pe_callO O4 r2 (pa_cons (pv 0) (pa_cons (pv 2) pa_nil))))
        (fun _ _ _ _ _ => pg_lc 0 (by decide +kernel)) (fun _ _ _ _ _ => pif_one (pt_cmpR (r := rEqD K) (op_eqD hun) (pe_callO O5 r2 (pa_cons (pv 1) (pa_cons (pv 0) pa_nil))) (pv 2) (nomark _))) (fun _ _ _ _ _ => pv 0)))))), ?_⟩
    refine ⟨_, rfl, _, rfl, n, v, p, rfl, by omega, by omega, hl, hp, ?_⟩
    refine ⟨_, rfl, m, rfl, by omega, by omega, ?_⟩
    refine ⟨_, rfl, _, rfl, v, u, p, bs, rfl, hl, hu, hb, ?_⟩
    refine ⟨_, rfl, _, rfl, n, m, rfl, n1, n8, m3, fun S H1 s1 N1 => ?_⟩
    obtain ⟨xs, ex, rx⟩ := id N1.ex
    have hlen := rx.length
    obtain ⟨_, q2, _, q4⟩ := Mix.small n8 m3
    refine ⟨S, rfl, ⟨_, SqL.of ex⟩, fun d hd => lc_list (K := K) (a := S) (xs := xs) (fun i σ H2 => ∃ c : Option V, σ = [c, some v, some u] ∧ Nw H H2 d (((Mix.sets n m).take i).filter fun t => decide (Mix.ans p t = bs)) ∧ Same H1 H2)
      ⟨none, rfl, Nw.nil (s1.free hd) upd_same, same_upd hd⟩ (fun i σ H2 _ ⟨_, _, _, s2⟩ => SqL.of (s2 _ _ ex)) ?_ ?_⟩
    · rintro i y σ H2 hi ⟨c, rfl, N2, s2⟩
      obtain ⟨t, ht, b, rfl, nb, hb0, hbm⟩ := Paired.get rx hi
      have hil : i < (Mix.sets n m).length := (List.getElem?_eq_some_iff.mp ht).1
      refine ⟨_, rfl, _, rfl, v, .ref b, p, t, rfl, hl.same (s1.trans s2), ⟨b, rfl, s2 _ _ hbm⟩, by omega, fun l H3 hl3 s3 e3 => ?_⟩
      have dl : LB H3 (.ref l) (Mix.ans p t) := ⟨l, rfl, e3⟩
      refine ⟨_, rfl, dB (Mix.ans p t), dB bs, dl.dat, (hu.same ((s1.trans s2).trans s3)).dat, lay_dB _, lay_dB _, Nat.le_trans (dep_dB _) (by decide), _, rfl, ?_⟩
      rw [eqv_dB]
      have N3 := N2.same s3
      obtain ⟨ys, ey, ry⟩ := N3.ex
      have hl4 := ry.length
      have hl5 := List.length_filter_le (fun t => decide (Mix.ans p t = bs)) ((Mix.sets n m).take i)
      rw [List.length_take] at hl5
      by_cases hq : Mix.ans p t = bs
      · rw [decide_eq_true hq]
        refine iteT ?_
        refine ⟨_, rfl, ys, ey, lt1000 (by omega), _, rfl, ?_, ?_⟩
        · rw [List.take_add_one, ht, List.filter_append]
          have e1 : (some t).toList.filter (fun t => decide (Mix.ans p t = bs)) = [t] := by
            show [t].filter _ = _
            rw [List.filter_cons, if_pos (decide_eq_true hq)]
            rfl
          rw [e1]
          exact N3.snoc (Same.refl _) ey hb0 (ne_of_none hbm hd) (s3 _ _ (s2 _ _ hbm))
        · exact (s2.trans s3).upd hd
      · rw [decide_eq_false hq]
        refine iteF ?_
        refine ⟨_, rfl, ?_, s2.trans s3⟩
        rw [List.take_add_one, ht, List.filter_append]
        have e1 : (some t).toList.filter (fun t => decide (Mix.ans p t = bs)) = [] := by
          show [t].filter _ = _
          rw [List.filter_cons, if_neg (fun z => hq (of_decide_eq_true z))]
          rfl
        rw [e1, List.append_nil]
        exact N3
    · rintro σ H2 ⟨c, rfl, N2, s2⟩
      rw [hlen, List.take_length] at N2
      exact k d H2 (s1.trans s2) N2

def sp_how_many_have : Sp := fun vs H Q _ => ∃ (x : Int) (v : V) (ss : List (List Int)), vs = [.int x, v] ∧ LL H v ss ∧ ss.length ≤ 900 ∧ ∀ H', Same H H' → Q (.int (Mix.haveN x ss)) H'
abbrev nm_how_many_have : List Str := ["ware", "found"]
theorem sc_how_many_have : FnScope ["ware", "found"] ["ware", "found"] (defScope s_how_many_have) := ⟨rfl, rfl, rfl, by decide +kernel, rfl, by decide +kernel, by decide +kernel⟩
theorem ok_how_many_have (D : Def K mg "how_many_have" s_how_many_have) (zlen : mg "len" = none) : Ok P w K mg base "how_many_have" 1 ["ware", "found"] sp_how_many_have := by
  refine D.ok sc_how_many_have (fun _ _ _ _ _ _ us hl => match us, hl with | [_, _], _ => rfl) (fun vs H Q E h => ?_) (fun f cdv A outer s H vs Q E hr h => ?_)
  · obtain ⟨x, v, ss, rfl, _⟩ := h
    rfl
  · obtain ⟨x, v, ss, rfl, ⟨a, xs, rfl, ha, hx⟩, h9, k⟩ := h
    have hlen := hx.length
    refine ⟨_, pss_one (ps_ret (pe_callB call_len_seq (by rfl) zlen PySem.boot_len (pa_cons (pe_lc ["members", "ware"] [none, some 0] rfl (lc_of (defScope s_how_many_have).names nm_how_many_have (fun _ => rfl) rfl rfl (by decide +kernel)) (pi_list (pv 1))
        (fun _ _ _ _ _ => pg_lc 0 (by decide +kernel)) (fun _ _ _ _ _ => pif_one (pt_cmpR (r := rIn K false) op_in_seq (pv 1) (pv 0) (by with_unfolding_all rfl))) (fun _ _ _ _ _ => pv 0)) pa_nil))), ?_⟩
    refine ⟨_, rfl, a, rfl, ⟨_, SqL.of ha⟩, fun d hd => lc_list (K := K) (a := a) (xs := xs) (fun i σ H2 => ∃ (c : Option V) (ys : List V), σ = [c, some (.int x)] ∧ H2 = upd H d (.lst ys) ∧ ys.length = Mix.haveN x (ss.take i))
      ⟨none, [], rfl, rfl, rfl⟩ (fun i σ H2 _ ⟨_, _, _, e, _⟩ => by subst e; exact SqL.of (same_upd hd _ _ ha)) ?_ ?_⟩
    · rintro i y σ H2 hi ⟨c, ys, rfl, rfl, hy⟩
      obtain ⟨t, ht, b, rfl, hb⟩ := Paired.get hx hi
      have hil : i < ss.length := (List.getElem?_eq_some_iff.mp ht).1
      have hfl := List.length_filter_le (fun s : List Int => s.contains x) (ss.take i)
      rw [List.length_take] at hfl
      unfold Mix.haveN at hy
      refine ⟨_, rfl, _, rfl, b, _, rfl, .inl (SqL.of (same_upd hd _ _ hb)), rfl, flat_ints t, _, rfl, ?_⟩
      show if inV (V.int x) (t.map V.int) = true then _ else _
      rw [inV_ints]
      have step : Mix.haveN x (ss.take (i + 1)) = Mix.haveN x (ss.take i) + if t.contains x = true then 1 else 0 := by
        unfold Mix.haveN
        rw [List.take_add_one, ht, List.filter_append, List.length_append]
        congr 1
        show ([t].filter _).length = _
        rw [List.filter_cons]
        cases t.contains x <;> rfl
      cases e : t.contains x with
      | true =>
        rw [e, if_pos rfl] at step
        refine iteT ?_
        refine ⟨_, rfl, ys, upd_same, lt1000 (by omega), _, ys ++ [.ref b], rfl, upd_upd, ?_⟩
        rw [step, List.length_append, hy]
        rfl
      | false =>
        rw [e, if_neg Bool.false_ne_true] at step
        refine iteF ?_
        exact ⟨_, ys, rfl, rfl, by rw [step, hy]; rfl⟩
    · rintro σ H2 ⟨c, ys, rfl, rfl, hy⟩
      rw [hlen, List.take_length] at hy
      refine ⟨d, ys, rfl, .inl (SqL.of upd_same), ?_⟩
      rw [hy]
      exact k _ (same_upd hd)

/-- a new tuple of three new lists -/
def Ret3 (H : Hp) (Q : VK) (p q r : List Int) : Prop := ∀ t b c d H', Same H H' → H t = none → H b = none → H c = none → H d = none → H' t = some (.tup [.ref b, .ref c, .ref d]) → H' b = some (.lst (p.map V.int)) → H' c = some (.lst (q.map V.int)) → H' d = some (.lst (r.map V.int)) → b ≠ c → b ≠ d → c ≠ d → Q (.ref t) H'
def sp_sorted_out (c : Addr) : Sp := fun vs H Q E => ∃ (n m : Nat) (v u : V) (p : List (List Int)) (bs : List Bool), vs = [.int n, v, .int m, u] ∧ 1 ≤ n ∧ n ≤ 8 ∧ LL H v p ∧ Mix.isPlan n p = true ∧ m ≤ 3 ∧ LB H u bs ∧ bs.length = p.length ∧ (fits n m p bs = [] → ∀ H', Same H H' → E (.ref c) none H') ∧ (fits n m p bs ≠ [] →
  Ret3 H Q (Mix.pick (Mix.inAll (fits n m p bs)) n) (Mix.pick (Mix.inNone (fits n m p bs)) n) (Mix.pick (Mix.inSome (fits n m p bs)) n))
theorem sc_sorted_out : FnScope ["wares", "plan", "most", "told", "found", "spoilt", "good", "unsure", "ware", "count"] ["wares", "plan", "most", "told"] (defScope s_sorted_out) := ⟨rfl, rfl, rfl, by decide +kernel, rfl, by decide +kernel, by decide +kernel⟩
theorem ok_sorted_out (D : Def K mg "sorted_out" s_sorted_out) (Z : Pots8 K mg PD c0 c1 c2 c3 c4 c5 c6 c7) (O1 : Ok P w K mg base "fitting" 4 ["wares", "plan", "most", "told"] sp_fitting) (O2 : Ok P w K mg base "how_many_have" 1 ["ware", "found"] sp_how_many_have)
    (zlen : mg "len" = none) (zrange : mg "range" = none) : OkX P w K mg base "sorted_out" 5 ["wares", "plan", "most", "told"] (sp_sorted_out c5) := by
  refine D.okX sc_sorted_out (fun _ _ _ _ _ _ us hl => match us, hl with | [_, _, _, _], _ => rfl) (fun vs H Q E h => ?_) (fun f cdv A outer s H vs Q E hr h => ?_)
  · obtain ⟨n, m, v, u, p, bs, rfl, _⟩ := h
    rfl
  · obtain ⟨n, m, v, u, p, bs, rfl, n1, n8, hl, hp, m3, hu, hb, hraise, k⟩ := h
    have nd := sc_sorted_out.nd
    have r1 : Room 1 _ := hr.mono (by decide)
    refine ⟨_, pss_cons (ps_set (i := 4) nd rfl (Or.inl rfl) (pe_callO O1 hr (pa_cons (pv 0) (pa_cons (pv 1) (pa_cons (pv 2) (pa_cons (pv 3) pa_nil))))))
      (pss_cons (ps_if (pt_cmpR op_eq (pe_callB call_len_seq (by rfl) zlen PySem.boot_len (pa_cons (pv 4) pa_nil)) pe_int (nomark _)) (pss_one (ps_raise Z.all.2.2.2.2.2.1 (Z.exC (by simp)) (pa_cons pe_str pa_nil))) pss_nil)
      (PSs.nox (pss_cons (ps_set (i := 5) nd rfl (Or.inl rfl) (pe_lst pa_nil))
      (pss_cons (ps_set (i := 6) nd rfl (Or.inl rfl) (pe_lst pa_nil))
      (pss_cons (ps_set (i := 7) nd rfl (Or.inl rfl) (pe_lst pa_nil))
      (pss_cons (ps_for PassesOwn.never rfl (pi_range1 (by rfl) zrange (pa_cons (pv 0) pa_nil)) (pg_name (i := 8) nd rfl (Or.inl rfl))
        (pss_cons (ps_set (i := 9) nd rfl (Or.inl rfl) (pe_callO O2 r1 (pa_cons (pv 8) (pa_cons (pv 4) pa_nil))))
        (pss_one (ps_if (pt_cmpR op_eq (pv 9) (pe_callB call_len_seq (by rfl) zlen PySem.boot_len (pa_cons (pv 4) pa_nil)) (nomark _))
          (pss_one (ps_expr (pe_bm PySem.F.plainAttrs_list PySem.F.slot_list_append PySem.F.type_list_append mt_append (pv 5) (pa_cons (pv 8) pa_nil))))
          (pss_one (ps_if (pt_cmpR op_eq (pv 9) pe_int (nomark _))
            (pss_one (ps_expr (pe_bm PySem.F.plainAttrs_list PySem.F.slot_list_append PySem.F.type_list_append mt_append (pv 6) (pa_cons (pv 8) pa_nil))))
            (pss_one (ps_expr (pe_bm PySem.F.plainAttrs_list PySem.F.slot_list_append PySem.F.type_list_append mt_append (pv 7) (pa_cons (pv 8) pa_nil))))))))))
      (pss_one (ps_ret (pe_tup (pa_cons (pv 5) (pa_cons (pv 6) (pa_cons (pv 7) pa_nil)))))))))))), ?_⟩
    refine ⟨_, rfl, _, rfl, _, rfl, _, rfl, n, m, v, u, p, bs, rfl, n1, n8, hl, hp, m3, hu, hb, fun S H1 s1 N1 => ?_⟩
    obtain ⟨xs, ex, rx⟩ := id N1.ex
    have hlen : xs.length = (fits n m p bs).length := rx.length
    obtain ⟨_, q2, _, _⟩ := Mix.small n8 m3
    have hfl : (fits n m p bs).length ≤ 900 := by
      have := List.length_filter_le (fun t => decide (Mix.ans p t = bs)) (Mix.sets n m)
      show ((Mix.sets n m).filter fun t => decide (Mix.ans p t = bs)).length ≤ 900
      omega
    revert hlen hfl hraise k rx N1
    generalize fits n m p bs = ss
    intro hraise k N1 rx hlen hfl
    refine ⟨_, rfl, S, _, rfl, .inl (SqL.of ex), rfl, _, rfl, ?_⟩
    refine ite2 (fun h => ?_) (fun h => ?_)
    · have h : (xs.length : Int) = 0 := V.int.inj (of_decide_eq_true h)
      exact ⟨Nat.le_trans (by simp) (le1000 (Nat.le_refl 1000)), hraise (List.length_eq_zero_iff.mp (by omega)) _ s1⟩
    have h : ¬ (xs.length : Int) = 0 := fun z => h (decide_eq_true (congrArg V.int z))
    have hpos : 0 < ss.length := by omega
    replace k := k (List.length_pos_iff.mp hpos)
    refine ⟨Nat.zero_le _, fun b hb1 => ⟨Nat.zero_le _, fun c hc1 => ⟨Nat.zero_le _, fun d hd1 => ?_⟩⟩⟩
    have hc0 : H1 c = none := (same_upd hb1).free hc1
    have hd0' : upd H1 b (.lst []) d = none := (same_upd hc1).free hd1
    have hd0 : H1 d = none := (same_upd hb1).free hd0'
    have nbc : b ≠ c := ne_of_none upd_same hc1
    have nbd : b ≠ d := ne_of_none (upd_same (H := H1) (a := b) (o := .lst [])) hd0'
    have ncd : c ≠ d := ne_of_none upd_same hd1
    have s2 : Same H1 (upd (upd (upd H1 b (.lst [])) c (.lst [])) d (.lst [])) := (same_upd hb1).trans ((same_upd hc1).trans (same_upd hd1))
    refine ⟨_, rfl, (n : Int), rfl, by omega, by omega, for_range (n := n) (fun i σ H2 => Same H1 H2 ∧ ∃ x y : Option V, σ = [some (.int n), some v, some (.int m), some u, some (.ref S), some (.ref b), some (.ref c), some (.ref d), x, y] ∧
        H2 b = some (.lst ((Mix.pick (Mix.inAll ss) i).map V.int)) ∧ H2 c = some (.lst ((Mix.pick (Mix.inNone ss) i).map V.int)) ∧ H2 d = some (.lst ((Mix.pick (Mix.inSome ss) i).map V.int)))
      ⟨s2, none, none, by simp [L2.start], by rw [upd_ne nbd, upd_ne nbc]; exact upd_same, by rw [upd_ne ncd]; exact upd_same, upd_same⟩ ?_ ?_⟩
    · rintro i σ H2 hi ⟨s2, x, y, rfl, eb, ec, ed⟩
      have hz : (0 : Int) + (i : Int) = (i : Int) := Int.zero_add _
      show gName 8 (V.int (0 + (i : Int))) _ _ _
      rw [hz]
      refine ⟨_, rfl, _, rfl, (i : Int), .ref S, ss, rfl, (N1.same s2).ll, hfl, fun H3 s3 => ?_⟩
      have s13 := s2.trans s3
      have l1 := Mix.pick_len (Mix.inAll ss) i
      have l2 := Mix.pick_len (Mix.inNone ss) i
      have l3 := Mix.pick_len (Mix.inSome ss) i
      refine ⟨_, rfl, _, rfl, S, _, rfl, .inl (SqL.of (s13 _ _ ex)), rfl, _, rfl, ?_⟩
      rw [Mix.pick_succ, Mix.pick_succ, Mix.pick_succ]
      refine ite2 (fun h => ?_) (fun h => ?_)
      · have h : (Mix.haveN (i : Int) ss : Int) = (xs.length : Int) := V.int.inj (of_decide_eq_true h)
        have ha : Mix.inAll ss i = true := decide_eq_true (by omega)
        have hn : ¬ Mix.inNone ss i = true := by unfold Mix.inNone; rw [ha]; exact Bool.false_ne_true
        have hs : ¬ Mix.inSome ss i = true := by unfold Mix.inSome; rw [ha]; exact Bool.false_ne_true
        rw [if_pos ha, if_neg hn, if_neg hs]
        refine ⟨_, rfl, .inl ⟨rfl, _, SqL.of (s3 _ _ eb)⟩, _, rfl, b, _, _, rfl, rfl, s3 _ _ eb, lt1000 (by rw [List.length_map]; omega), s13.upd hb1, _, _, rfl, ?_, ?_, ?_⟩
        · rw [upd_same, List.map_append]; rfl
        · rw [upd_ne nbc.symm]; exact s3 _ _ ec
        · rw [upd_ne nbd.symm]; exact s3 _ _ ed
      · have h : ¬ (Mix.haveN (i : Int) ss : Int) = (xs.length : Int) := fun z => h (decide_eq_true (congrArg V.int z))
        have ha : Mix.inAll ss i = false := decide_eq_false (by omega)
        rw [if_neg (by rw [ha]; exact Bool.false_ne_true)]
        refine ⟨_, rfl, rfl, _, rfl, ?_⟩
        refine ite2 (fun h0 => ?_) (fun h0 => ?_)
        · have h0 : (Mix.haveN (i : Int) ss : Int) = 0 := V.int.inj (of_decide_eq_true h0)
          have e0 : decide (Mix.haveN (i : Int) ss = 0) = true := decide_eq_true (by omega)
          have hn : Mix.inNone ss i = true := by unfold Mix.inNone; rw [ha, e0]; rfl
          have hs : ¬ Mix.inSome ss i = true := by unfold Mix.inSome; rw [ha, e0]; exact Bool.false_ne_true
          rw [if_pos hn, if_neg hs]
          refine ⟨_, rfl, .inl ⟨rfl, _, SqL.of (s3 _ _ ec)⟩, _, rfl, c, _, _, rfl, rfl, s3 _ _ ec, lt1000 (by rw [List.length_map]; omega), s13.upd hc0, _, _, rfl, ?_, ?_, ?_⟩
          · rw [upd_ne nbc]; exact s3 _ _ eb
          · rw [upd_same, List.map_append]; rfl
          · rw [upd_ne ncd.symm]; exact s3 _ _ ed
        · have h0 : ¬ (Mix.haveN (i : Int) ss : Int) = 0 := fun z => h0 (decide_eq_true (congrArg V.int z))
          have e0 : decide (Mix.haveN (i : Int) ss = 0) = false := decide_eq_false (by omega)
          have hn : ¬ Mix.inNone ss i = true := by unfold Mix.inNone; rw [ha, e0]; exact Bool.false_ne_true
          have hs : Mix.inSome ss i = true := by unfold Mix.inSome; rw [ha, e0]; rfl
          rw [if_neg hn, if_pos hs]
          refine ⟨_, rfl, .inl ⟨rfl, _, SqL.of (s3 _ _ ed)⟩, _, rfl, d, _, _, rfl, rfl, s3 _ _ ed, lt1000 (by rw [List.length_map]; omega), s13.upd hd0, _, _, rfl, ?_, ?_, ?_⟩
          · rw [upd_ne nbd]; exact s3 _ _ eb
          · rw [upd_ne ncd]; exact s3 _ _ ec
          · rw [upd_same, List.map_append]; rfl
    · rintro σ H2 ⟨s2, x, y, rfl, eb, ec, ed⟩
      refine ⟨_, rfl, _, rfl, _, rfl, le1000 (by simp), fun t ht => ?_⟩
      exact k t b c d _ ((s1.trans s2).trans (same_upd ht)) ((s1.trans s2).free ht) (s1.free hb1) (s1.free hc0) (s1.free hd0) upd_same (same_upd ht _ _ eb) (same_upd ht _ _ ec) (same_upd ht _ _ ed) nbc nbd ncd

def sp__law_cell_at (K : PySem.W.Frag) : Sp := fun vs H Q _ => ∃ (a : Addr) (ns : List Int) (k : Int), vs = [.ref a, .int k] ∧ SqL K H a (ns.map V.int) ∧ 0 ≤ k ∧ Q (.int (Mix.cell ns k)) H
theorem sc__law_cell_at : FnScope ["script", "k"] ["script", "k"] (defScope s__law_cell_at) := ⟨rfl, rfl, rfl, by decide +kernel, rfl, by decide +kernel, by decide +kernel⟩
theorem ok__law_cell_at (D : Def K mg "_law_cell_at" s__law_cell_at) (zlen : mg "len" = none) : Ok P w K mg base "_law_cell_at" 1 ["script", "k"] (sp__law_cell_at K) := by
  refine D.ok sc__law_cell_at (fun _ _ _ _ _ _ us hl => match us, hl with | [_, _], _ => rfl) (fun vs H Q E h => ?_) (fun f cdv A outer s H vs Q E hr h => ?_)
  · obtain ⟨a, ns, k, rfl, _⟩ := h
    rfl
  · obtain ⟨a, ns, k, rfl, hS, hk, q⟩ := h
    refine ⟨_, pss_cons (ps_if (pt_cmpR op_lt (pv 1) (pe_callB call_len_seq (by rfl) zlen PySem.boot_len (pa_cons (pv 0) pa_nil)) (nomark _)) (pss_one (ps_ret (pe_ix ix_list (pv 0) (pv 1) (fun _ _ => rfl)))) pss_nil)
      (pss_one (ps_ret pe_int)), ?_⟩
    refine ⟨_, rfl, _, rfl, a, _, rfl, .inl hS, _, _, rfl, rfl, _, rfl, ?_⟩
    obtain ⟨j, rfl⟩ := Int.eq_ofNat_of_zero_le hk
    refine ite2 (fun h1 => ?_) (fun h1 => ?_)
    · have h1 : (j : Int) < ((ns.map V.int).length : Nat) := of_decide_eq_true h1
      rw [List.length_map] at h1
      have hj : j < ns.length := by omega
      refine ⟨_, rfl, _, rfl, a, _, _, .int (ns[j]), rfl, rfl, hS, atI_nat ?_, ?_⟩
      · rw [List.getElem?_map, List.getElem?_eq_getElem hj]
        rfl
      · have e : Mix.cell ns (j : Int) = ns[j] := by
          unfold Mix.cell
          rw [Int.toNat_natCast, List.getD_eq_getElem?_getD, List.getElem?_eq_getElem hj]
          rfl
        rw [e] at q
        exact q
    · have h1 : ¬ (j : Int) < ((ns.map V.int).length : Nat) := fun z => h1 (decide_eq_true z)
      rw [List.length_map] at h1
      have e : Mix.cell ns (j : Int) = 0 := by
        unfold Mix.cell
        rw [Int.toNat_natCast, List.getD_eq_getElem?_getD, List.getElem?_eq_none (by omega)]
        rfl
      rw [e] at q
      exact q

def sp__law_whole : Sp := fun vs H Q _ => ∃ i : Int, vs = [.int i] ∧ Q (.bl true) H
theorem sc__law_whole : FnScope ["found"] ["found"] (defScope s__law_whole) := ⟨rfl, rfl, rfl, by decide +kernel, rfl, by decide +kernel, by decide +kernel⟩
theorem kit_int_bool (K : PySem.W.Frag) : PySem.W.kitOne K (.type "int") (.type "bool") = some false := by
  unfold PySem.W.kitOne
  rw [if_neg (by decide +kernel)]
  show (if PySem.W.kitMeta "bool" = true then (fastBuiltinMro "int").map (·.contains (.type "bool")) else none) = some false
  decide +kernel
theorem ok__law_whole (D : Def K mg "_law_whole" s__law_whole) (zisi : mg "isinstance" = none) (zint : mg "int" = none) (zbool : mg "bool" = none) : Ok P w K mg base "_law_whole" 1 ["found"] sp__law_whole := by
  refine D.ok sc__law_whole (fun _ _ _ _ _ _ us hl => match us, hl with | [_], _ => rfl) (fun vs H Q E h => ?_) (fun f cdv A outer s H vs Q E hr h => ?_)
  · obtain ⟨i, rfl, _⟩ := h
    rfl
  · obtain ⟨i, rfl, q⟩ := h
    refine ⟨_, pss_one (ps_ret (pe_and (pe_callB call_isi (by rfl) zisi bt_isinstance (pa_cons (pv 0) (pa_cons (pe_bltn (v := .ty "int") (by rfl) zint bt_int rfl) pa_nil)))
      (pe_one (pe_not (pe_callB call_isi (by rfl) zisi bt_isinstance (pa_cons (pv 0) (pa_cons (pe_bltn (v := .ty "bool") (by rfl) zbool bt_bool rfl) pa_nil))))))), ?_⟩
    refine ⟨_, rfl, _, _, _, _, rfl, .int i, kit_same "int", _, rfl, ?_⟩
    refine iteT ?_
    exact ⟨_, rfl, _, _, _, _, rfl, .int i, kit_int_bool K, _, rfl, q⟩

/-- two lists of the same ints -/
def sp__law_is_list : Sp := fun vs H Q _ => ∃ (v u : V) (ns : List Int), vs = [v, u] ∧ LI H v ns ∧ LI H u ns ∧ ns.length ≤ 900 ∧ Q (.bl true) H
theorem sc__law_is_list : FnScope ["found", "due", "k"] ["found", "due"] (defScope s__law_is_list) := ⟨rfl, rfl, rfl, by decide +kernel, rfl, by decide +kernel, by decide +kernel⟩
theorem ok__law_is_list (D : Def K mg "_law_is_list" s__law_is_list) (O1 : Ok P w K mg base "_law_whole" 1 ["found"] sp__law_whole) (zlen : mg "len" = none) (zrange : mg "range" = none) (zisi : mg "isinstance" = none) (zlist : mg "list" = none) :
    Ok P w K mg base "_law_is_list" 2 ["found", "due"] sp__law_is_list := by
  refine D.ok sc__law_is_list (fun _ _ _ _ _ _ us hl => match us, hl with | [_, _], _ => rfl) (fun vs H Q E h => ?_) (fun f cdv A outer s H vs Q E hr h => ?_)
  · obtain ⟨v, u, ns, rfl, _⟩ := h
    rfl
  · obtain ⟨v, u, ns, rfl, ⟨a, rfl, ha⟩, ⟨b, rfl, hb⟩, h900, q⟩ := h
    have nd := sc__law_is_list.nd
    refine ⟨_, pss_cons (ps_if (pw_or (pt_not (pt_val (pe_callB call_isi (by rfl) zisi bt_isinstance (pa_cons (pv 0) (pa_cons (pe_bltn (v := .ty "list") (by rfl) zlist bt_list rfl) pa_nil)))))
        (pw_or1 (pt_cmpR op_ne (pe_callB call_len_seq (by rfl) zlen PySem.boot_len (pa_cons (pv 0) pa_nil)) (pe_callB call_len_seq (by rfl) zlen PySem.boot_len (pa_cons (pv 1) pa_nil)) (nomark _)))).pt (pss_one (ps_ret pe_bl)) pss_nil)
      (pss_cons (ps_for PassesOwn.never rfl (pi_range1 (by rfl) zrange (pa_cons (pe_callB call_len_seq (by rfl) zlen PySem.boot_len (pa_cons (pv 1) pa_nil)) pa_nil)) (pg_name (i := 2) nd rfl (Or.inl rfl))
        (pss_one (ps_if (pw_or (pt_not (pt_val (pe_callO O1 hr (pa_cons (pe_ix ix_list (pv 0) (pv 2) (fun _ _ => rfl)) pa_nil))))
          (pw_or1 (pt_cmpR op_ne (pe_ix ix_list (pv 0) (pv 2) (fun _ _ => rfl)) (pe_ix ix_list (pv 1) (pv 2) (fun _ _ => rfl)) (nomark _)))).pt (pss_one (ps_ret pe_bl)) pss_nil)))
      (pss_one (ps_ret pe_bl))), ?_⟩
    refine ⟨_, rfl, _, _, _, _, rfl, .lst ha, kit_same "list", _, rfl, ?_⟩
    refine iteF ?_
    refine ⟨_, rfl, a, _, rfl, .inl (SqL.of ha), _, rfl, b, _, rfl, .inl (SqL.of hb), rfl, _, rfl, ?_⟩
    refine iteNS rfl ?_
    refine ⟨_, rfl, b, _, rfl, .inl (SqL.of hb), ((ns.map V.int).length : Int), rfl, by omega, by rw [List.length_map]; omega, for_range (n := (ns.map V.int).length) (fun i σ H2 => H2 = H ∧ ∃ x : Option V, σ = [some (.ref a), some (.ref b), x])
      ⟨rfl, none, rfl⟩ ?_ ?_⟩
    · rintro i σ H2 hi ⟨rfl, x, rfl⟩
      have hg : (ns.map V.int)[i]? = some (V.int (ns[i]'(by simpa using hi))) := by
        rw [List.getElem?_map, List.getElem?_eq_getElem (by simpa using hi)]
        rfl
      have hz : (0 : Int) + (i : Int) = (i : Int) := Int.zero_add _
      show gName 2 (V.int (0 + (i : Int))) _ _ _
      rw [hz]
      refine ⟨_, rfl, _, rfl, a, _, _, _, rfl, rfl, SqL.of ha, atI_nat hg, _, rfl, _, rfl, ?_⟩
      refine iteF ?_
      refine ⟨_, rfl, _, rfl, a, _, _, _, rfl, rfl, SqL.of ha, atI_nat hg, _, rfl, _, rfl, b, _, _, _, rfl, rfl, SqL.of hb, atI_nat hg, rfl, _, rfl, ?_⟩
      refine iteNS rfl ?_
      exact ⟨rfl, _, rfl⟩
    · rintro σ H2 ⟨rfl, x, rfl⟩
      exact q

abbrev lawWords : List Str := ["wares", "plan", "set", "most", "answers", "fit", "told", "note"]
def sp__law_word_of (cs : List Addr) : Sp := fun vs H Q _ => ∃ (e c : Addr) (j : Nat) (x : Str), vs = [.ref e] ∧ H e = some (.ext (ExcIs e (.ref c))) ∧ cs[j]? = some c ∧ lawWords[j]? = some x ∧ ∀ H', Same H H' → Q (.str x) H'
theorem sc__law_word_of : FnScope ["e", "kinds"] ["e"] (defScope s__law_word_of) := ⟨rfl, rfl, rfl, by decide +kernel, rfl, by decide +kernel, by decide +kernel⟩
theorem bt_ValueError : bootBuiltins "ValueError" = some (.type "ValueError") := by decide +kernel
theorem ok__law_word_of (D : Def K mg "_law_word_of" s__law_word_of) (Z : Pots8 K mg PD c0 c1 c2 c3 c4 c5 c6 c7) (zisi : mg "isinstance" = none) (zve : mg "ValueError" = none) :
    OkH P w K mg base "_law_word_of" 1 ["e"] (sp__law_word_of [c0, c1, c2, c3, c4, c5, c6, c7]) := by
  refine D.okH sc__law_word_of (fun _ _ _ _ _ _ us hl => match us, hl with | [_], _ => rfl) (fun vs H Q E h => ?_) (fun f cdv A outer s H vs Q E hr h => ?_)
  · obtain ⟨e, c, j, x, rfl, _⟩ := h
    rfl
  · obtain ⟨e, c, j, x, rfl, he, hj, hx, k⟩ := h
    obtain ⟨m0, m1, m2, m3, m4, m5, m6, m7⟩ := Z.all
    have nd := sc__law_word_of.nd
    have hcm : c ∈ [c0, c1, c2, c3, c4, c5, c6, c7] := List.mem_of_getElem? hj
    have hk := Z.kit hcm
    have hnd : [c0, c1, c2, c3, c4, c5, c6, c7].Nodup := (List.nodup_cons.mp Z.nd).2
    have hj8 : j < 8 := by have := (List.getElem?_eq_some_iff.mp hj).1; exact this
    refine ⟨_, pss_cons (ps_set (i := 1) nd rfl (Or.inl rfl) (pe_lst (pa_cons (pe_callB call_isiX (by rfl) zisi bt_isinstance (pa_cons (pv 0) (pa_cons (pe_glob (v := .ref c0) (by rfl) m0 rfl) pa_nil)))
        (pa_cons (pe_callB call_isiX (by rfl) zisi bt_isinstance (pa_cons (pv 0) (pa_cons (pe_glob (v := .ref c1) (by rfl) m1 rfl) pa_nil)))
        (pa_cons (pe_callB call_isiX (by rfl) zisi bt_isinstance (pa_cons (pv 0) (pa_cons (pe_glob (v := .ref c2) (by rfl) m2 rfl) pa_nil)))
        (pa_cons (pe_callB call_isiX (by rfl) zisi bt_isinstance (pa_cons (pv 0) (pa_cons (pe_glob (v := .ref c3) (by rfl) m3 rfl) pa_nil))) pa_nil))))))
      (pss_cons (ps_set (i := 1) nd rfl (Or.inl rfl) (pe_op op_cat (pv 1) (pe_lst (pa_cons (pe_callB call_isiX (by rfl) zisi bt_isinstance (pa_cons (pv 0) (pa_cons (pe_glob (v := .ref c4) (by rfl) m4 rfl) pa_nil)))
        (pa_cons (pe_callB call_isiX (by rfl) zisi bt_isinstance (pa_cons (pv 0) (pa_cons (pe_glob (v := .ref c5) (by rfl) m5 rfl) pa_nil)))
        (pa_cons (pe_callB call_isiX (by rfl) zisi bt_isinstance (pa_cons (pv 0) (pa_cons (pe_glob (v := .ref c6) (by rfl) m6 rfl) pa_nil)))
        (pa_cons (pe_callB call_isiX (by rfl) zisi bt_isinstance (pa_cons (pv 0) (pa_cons (pe_glob (v := .ref c7) (by rfl) m7 rfl) pa_nil))) pa_nil)))))))
      (pss_cons (ps_if (pw_or (pt_cmpR op_ne (pe_bm PySem.F.plainAttrs_list PySem.F.slot_list_count PySem.F.type_list_count mt_count (pv 1) (pa_cons pe_bl pa_nil)) pe_int (nomark _))
          (pw_or1 (pt_not (pt_val (pe_callB call_isiX (by rfl) zisi bt_isinstance (pa_cons (pv 0) (pa_cons (pe_bltn (v := .ty "ValueError") (by rfl) zve bt_ValueError rfl) pa_nil))))))).pt pss_never pss_nil)
      (pss_one (ps_ret (pe_ix ix_list (pe_lst (pa_cons pe_str (pa_cons pe_str (pa_cons pe_str (pa_cons pe_str (pa_cons pe_str (pa_cons pe_str (pa_cons pe_str (pa_cons pe_str pa_nil)))))))))
        (pe_bm PySem.F.plainAttrs_list PySem.F.slot_list_index PySem.F.type_list_index mt_index (pv 1) (pa_cons pe_bl pa_nil)) (fun _ _ => rfl)))))), ?_⟩
    refine ⟨_, rfl, e, c, _, _, _, rfl, fun _ h => h, he, hk, Z.isC hcm (by simp), ?_⟩
    refine ⟨_, rfl, e, c, _, _, _, rfl, fun _ h => h, he, hk, Z.isC hcm (by simp), ?_⟩
    refine ⟨_, rfl, e, c, _, _, _, rfl, fun _ h => h, he, hk, Z.isC hcm (by simp), ?_⟩
    refine ⟨_, rfl, e, c, _, _, _, rfl, fun _ h => h, he, hk, Z.isC hcm (by simp), ?_⟩
    refine ⟨le1000 (by simp), fun a ha => ?_⟩
    have s1 : Same H (upd H a (.lst [V.bl (decide (c = c0)), V.bl (decide (c = c1)), V.bl (decide (c = c2)), V.bl (decide (c = c3))])) := same_upd ha
    refine ⟨_, rfl, ?_⟩
    refine ⟨_, rfl, e, c, _, _, _, rfl, fun _ h => h, s1 _ _ he, hk, Z.isC hcm (by simp), ?_⟩
    refine ⟨_, rfl, e, c, _, _, _, rfl, fun _ h => h, s1 _ _ he, hk, Z.isC hcm (by simp), ?_⟩
    refine ⟨_, rfl, e, c, _, _, _, rfl, fun _ h => h, s1 _ _ he, hk, Z.isC hcm (by simp), ?_⟩
    refine ⟨_, rfl, e, c, _, _, _, rfl, fun _ h => h, s1 _ _ he, hk, Z.isC hcm (by simp), ?_⟩
    refine ⟨le1000 (by simp), fun b hb => ?_⟩
    have s2 := s1.trans (same_upd (o := .lst [V.bl (decide (c = c4)), V.bl (decide (c = c5)), V.bl (decide (c = c6)), V.bl (decide (c = c7))]) hb)
    refine ⟨a, b, _, _, rfl, rfl, same_upd hb _ _ upd_same, upd_same, le1000 (by simp), fun d hd => ?_⟩
    have s3 := s2.trans (same_upd (o := .lst ([V.bl (decide (c = c0)), V.bl (decide (c = c1)), V.bl (decide (c = c2)), V.bl (decide (c = c3))] ++ [V.bl (decide (c = c4)), V.bl (decide (c = c5)), V.bl (decide (c = c6)), V.bl (decide (c = c7))])) hd)
    generalize hH : upd (upd (upd H a (.lst [V.bl (decide (c = c0)), V.bl (decide (c = c1)), V.bl (decide (c = c2)), V.bl (decide (c = c3))])) b (.lst [V.bl (decide (c = c4)), V.bl (decide (c = c5)), V.bl (decide (c = c6)), V.bl (decide (c = c7))])) d (.lst ([V.bl (decide (c = c0)), V.bl (decide (c = c1)), V.bl (decide (c = c2)), V.bl (decide (c = c3))] ++ [V.bl (decide (c = c4)), V.bl (decide (c = c5)), V.bl (decide (c = c6)), V.bl (decide (c = c7))])) = H3 at s3
    have ed : H3 d = some (.lst (([c0, c1, c2, c3, c4, c5, c6, c7].map fun x => decide (c = x)).map V.bl)) := by rw [← hH]; exact upd_same
    refine ⟨_, rfl, .inl ⟨rfl, _, SqL.of ed⟩, d, _, true, rfl, rfl, ed, ?_⟩
    rw [marks_count hnd hcm]
    refine ⟨rfl, _, rfl, ?_⟩
    refine iteF ?_
    refine ⟨_, rfl, e, c, _, _, _, rfl, fun _ h => h, s3 _ _ he, hk, Z.isV hcm, _, rfl, ?_⟩
    refine iteF ?_
    refine ⟨le1000 (by simp), fun g hg => ?_⟩
    have s4 := s3.trans (same_upd (o := .lst [V.str "wares", V.str "plan", V.str "set", V.str "most", V.str "answers", V.str "fit", V.str "told", V.str "note"]) hg)
    refine ⟨_, rfl, .inl ⟨rfl, _, SqL.of (same_upd hg _ _ ed)⟩, d, _, true, j, rfl, rfl, same_upd hg _ _ ed, marks_at hj, marks_not hnd hj, by omega, ?_⟩
    refine ⟨g, _, _, .str x, rfl, rfl, SqL.of upd_same, ?_, k _ s4⟩
    have hx' : (lawWords.map V.str)[j]? = some (.str x) := by rw [List.getElem?_map, hx]; rfl
    exact atI_nat hx'

def sp__law_some_by : Sp := fun vs H Q _ => ∃ (c : Int) (n : Nat), vs = [.int c, .int n] ∧ n ≤ 64 ∧ RetI H Q (Mix.someBy c n)
theorem sc__law_some_by : FnScope ["cell", "wares", "found", "ware"] ["cell", "wares"] (defScope s__law_some_by) := ⟨rfl, rfl, rfl, by decide +kernel, rfl, by decide +kernel, by decide +kernel⟩
theorem ok__law_some_by (D : Def K mg "_law_some_by" s__law_some_by) (zrange : mg "range" = none) : Ok P w K mg base "_law_some_by" 1 ["cell", "wares"] sp__law_some_by := by
  refine D.ok sc__law_some_by (fun _ _ _ _ _ _ us hl => match us, hl with | [_, _], _ => rfl) (fun vs H Q E h => ?_) (fun f cdv A outer s H vs Q E hr h => ?_)
  · obtain ⟨c, n, rfl, _⟩ := h
    rfl
  · obtain ⟨c, n, rfl, hn, k⟩ := h
    refine ⟨_, pss_cons (ps_set (i := 2) sc__law_some_by.nd rfl (Or.inl rfl) (pe_lst pa_nil))
      (pss_cons (ps_for PassesOwn.never rfl (pi_range1 (by rfl) zrange (pa_cons (pv 1) pa_nil)) (pg_name (i := 3) sc__law_some_by.nd rfl (Or.inl rfl))
        (pss_cons (ps_if (pt_cmpR op_eq (pe_op op_mod (pv 0) pe_int) pe_int (nomark _))
          (pss_one (ps_expr (pe_bm PySem.F.plainAttrs_list PySem.F.slot_list_append PySem.F.type_list_append mt_append (pv 2) (pa_cons (pv 3) pa_nil)))) pss_nil)
        (pss_one (ps_set (i := 0) sc__law_some_by.nd rfl (Or.inl rfl) (pe_op op_fdiv (pv 0) pe_int)))))
      (pss_one (ps_ret (pv 2)))), ?_⟩
    refine ⟨Nat.zero_le _, fun l hl => ?_⟩
    refine ⟨_, rfl, (n : Int), rfl, by omega, by omega, for_range (n := n) (fun i σ H2 => ∃ x : Option V, σ = [some (.int (c / 2 ^ i)), some (.int n), some (.ref l), x] ∧ H2 = upd H l (.lst ((Mix.someBy c i).map V.int)))
      ⟨none, by simp [L2.start], rfl⟩ ?_ ?_⟩
    · rintro i σ H2 hi ⟨x, rfl, rfl⟩
      have step : ∀ H3, H3 = upd H l (.lst ((Mix.someBy c (i + 1)).map V.int)) → ∃ x : Option V, [some (V.int (c / 2 ^ i / 2)), some (.int n), some (.ref l), some (.int (0 + (i : Int)))] = [some (.int (c / 2 ^ (i + 1))), some (.int n), some (.ref l), x] ∧ H3 = upd H l (.lst ((Mix.someBy c (i + 1)).map V.int)) :=
        fun H3 e => ⟨_, by rw [Mix.div_step], e⟩
      refine ⟨_, rfl, _, _, rfl, rfl, (by show (0 : Int) < 2; decide), rfl, _, rfl, ?_⟩
      refine ite2 (fun h1 => ?_) (fun h1 => ?_)
      · have h1 : c / 2 ^ i % 2 = 1 := V.int.inj (of_decide_eq_true h1)
        refine ⟨_, rfl, .inl ⟨rfl, _, SqL.of upd_same⟩, _, rfl, l, _, _, rfl, rfl, upd_same, lt1000 ?_, ?_⟩
        · rw [List.length_map]
          have := Mix.someBy_len c i
          omega
        · refine ⟨_, rfl, _, _, rfl, rfl, ⟨by decide, by decide⟩, step _ ?_⟩
          rw [upd_upd, Mix.someBy_succ, if_pos h1, List.map_append]
          simp
      · have h1 : ¬ c / 2 ^ i % 2 = 1 := fun z => h1 (decide_eq_true (congrArg V.int z))
        refine ⟨_, rfl, _, _, rfl, rfl, ⟨by decide, by decide⟩, step _ ?_⟩
        rw [Mix.someBy_succ, if_neg h1]
    · rintro σ H2 ⟨x, rfl, rfl⟩
      exact ⟨_, rfl, k l _ hl (same_upd hl) upd_same⟩

/-- some plan of some wares, new -/
def sp__law_plan_by (K : PySem.W.Frag) : Sp := fun vs H Q _ => ∃ (a : Addr) (ns : List Int), vs = [.ref a] ∧ SqL K H a (ns.map V.int) ∧
  ∀ (n : Nat) (p : List (List Int)) (D t : Addr) (H' : Hp), 1 ≤ n → n ≤ 8 → Mix.isPlan n p = true → Same H H' → H t = none → H' t = some (.tup [.int n, .ref D]) → Nw H H' D p → Q (.ref t) H'
abbrev nm__law_plan_by : List Str := ["script", "wares", "plan", "kind", "bit", "mixture", "k", "cell", "at"]
theorem sc__law_plan_by : FnScope ["script", "wares", "plan", "kind", "bit", "mixture", "k", "cell", "at"] ["script"] (defScope s__law_plan_by) := ⟨rfl, rfl, rfl, by decide +kernel, rfl, by decide +kernel, by decide +kernel⟩
/-- what holds of plan's first make -/
def pb1 (H : Hp) (a : Addr) (n : Nat) (kd : Int) : St → Hp → Prop := fun σ H2 => ∃ (D : Addr) (p : List (List Int)), σ = [some (.ref a), some (.int n), some (.ref D), some (.int kd), none, none, none, none, none] ∧ Nw H H2 D p ∧ Same H H2 ∧
  (kd = 1 ∨ p = []) ∧ p.length ≤ 8 ∧ ∀ m ∈ p, Mix.isSet n m = true
def pb2 (H : Hp) (a : Addr) (n : Nat) (kd : Int) : St → Hp → Prop := fun σ H2 => ∃ (D : Addr) (p : List (List Int)) (z : Option V), σ = [some (.ref a), some (.int n), some (.ref D), some (.int kd), z, none, none, none, none] ∧ Nw H H2 D p ∧ Same H H2 ∧
  p.length ≤ 8 ∧ ∀ m ∈ p, Mix.isSet n m = true
/-- .. between two turns -/
def pb3 (H : Hp) (a : Addr) (n : Nat) (kd : Int) : St → Hp → Prop := fun σ H2 => ∃ (D : Addr) (p : List (List Int)) (z1 z2 z3 z4 z5 : Option V), σ = [some (.ref a), some (.int n), some (.ref D), some (.int kd), z1, z2, z3, z4, z5] ∧ Nw H H2 D p ∧ Same H H2 ∧
  Mix.isPlan n p = true
/-- .. within a turn -/
def pb4 (H : Hp) (a : Addr) (n : Nat) (kd : Int) : St → Hp → Prop := fun σ H2 => ∃ (D b : Addr) (p : List (List Int)) (m : List Int) (k c : Int) (z1 z5 : Option V), σ = [some (.ref a), some (.int n), some (.ref D), some (.int kd), z1, some (.ref b), some (.int k), some (.int c), z5] ∧ Nw H H2 D p ∧ Same H H2 ∧
  Mix.isPlan n p = true ∧ H b = none ∧ b ≠ D ∧ H2 b = some (.lst (m.map V.int)) ∧ m ≠ [] ∧ Mix.isSet n m = true
theorem cut_take (xs : List V) (k : Nat) (h : k ≤ xs.length) : cutV xs none (some (k : Int)) = xs.take k := by
  unfold cutV
  rw [HT.sIx_none, HT.sIx_nat, Nat.min_eq_left h, List.drop_zero, Nat.sub_zero]
theorem cut_drop (xs : List V) (k : Nat) (h : k ≤ xs.length) : cutV xs (some (k : Int)) none = xs.drop k := by
  unfold cutV
  rw [HT.sIx_none, HT.sIx_nat, Nat.min_eq_left h]
  refine List.take_of_length_le ?_
  rw [List.length_drop]
  omega
theorem ok__law_plan_by (D : Def K mg "_law_plan_by" s__law_plan_by) (O1 : Ok P w K mg base "_law_cell_at" 1 ["script", "k"] (sp__law_cell_at K)) (O2 : Ok P w K mg base "_law_some_by" 1 ["cell", "wares"] sp__law_some_by)
    (zlen : mg "len" = none) (zrange : mg "range" = none) (zlist : mg "list" = none) : Ok P w K mg base "_law_plan_by" 2 ["script"] (sp__law_plan_by K) := by
  refine D.ok sc__law_plan_by (fun _ _ _ _ _ _ us hl => match us, hl with | [_], _ => rfl) (fun vs H Q E h => ?_) (fun f cdv A outer s H vs Q E hr h => ?_)
  · obtain ⟨a, ns, rfl, _⟩ := h
    rfl
  · obtain ⟨a, ns, rfl, hS, kk⟩ := h
    have hu := hr.units
    have nd := sc__law_plan_by.nd
    obtain ⟨n, hn⟩ : ∃ n : Nat, 1 + Mix.cell ns 0 % 8 = (n : Int) := ⟨(1 + Mix.cell ns 0 % 8).toNat, by omega⟩
    have n1 : 1 ≤ n := by omega
    have n8 : n ≤ 8 := by omega
    generalize hkd : Mix.cell ns 2 % 4 = kd
    refine ⟨_, pss_cons (ps_set (i := 1) nd rfl (Or.inl rfl) (pe_op op_add pe_int (pe_op op_mod (pe_callO O1 hr (pa_cons (pv 0) (pa_cons pe_int pa_nil))) pe_int)))
      (pss_cons (ps_set (i := 2) nd rfl (Or.inl rfl) (pe_lst pa_nil))
      (pss_cons (ps_set (i := 3) nd rfl (Or.inl rfl) (pe_op op_mod (pe_callO O1 hr (pa_cons (pv 0) (pa_cons pe_int pa_nil))) pe_int))
      (pss_mid (pb1 H a n kd) (ps_if (pt_cmpR op_eq (pv 3) pe_int (nomark _))
        (pss_one (ps_setLc (i := 2) ["ware"] [none] rfl (lc_of (defScope s__law_plan_by).names nm__law_plan_by (fun _ => rfl) rfl rfl (by decide +kernel)) nd rfl (Or.inl rfl) (pi_range1 (by rfl) zrange (pa_cons (pv 1) pa_nil))
          (fun _ _ _ _ _ => pg_lc 0 (by decide +kernel)) (fun _ _ _ _ _ => pif_nil) (fun _ _ _ _ _ => pe_lst (pa_cons (pv 0) pa_nil)))) pss_nil)
      (pss_mid (pb2 H a n kd) (ps_if (pt_cmpR op_eq (pv 3) pe_int (nomark _))
        (pss_one (ps_for PassesOwn.never rfl (pi_list (pe_lst (pa_cons pe_int (pa_cons pe_int (pa_cons pe_int pa_nil))))) (pg_name (i := 4) nd rfl (Or.inr rfl))
          (pss_cons (ps_expr (pe_bm PySem.F.plainAttrs_list PySem.F.slot_list_append PySem.F.type_list_append mt_append (pv 2) (pa_cons
            (pe_lc ["ware", "bit"] [none, some 4] rfl (lc_of (defScope s__law_plan_by).names nm__law_plan_by (fun _ => rfl) rfl rfl (by decide +kernel)) (pi_range1 (by rfl) zrange (pa_cons (pv 1) pa_nil))
              (fun _ _ _ _ _ => pg_lc 0 (by decide +kernel)) (fun _ _ _ _ _ => pif_one (pt_cmpR op_eq (pe_op op_mod (pe_op op_fdiv (pv 0) (pv 1)) pe_int) pe_int (nomark _))) (fun _ _ _ _ _ => pv 0)) pa_nil)))
          (pss_one (ps_expr (pe_bm PySem.F.plainAttrs_list PySem.F.slot_list_append PySem.F.type_list_append mt_append (pv 2) (pa_cons
            (pe_lc ["ware", "bit"] [none, some 4] rfl (lc_of (defScope s__law_plan_by).names nm__law_plan_by (fun _ => rfl) rfl rfl (by decide +kernel)) (pi_range1 (by rfl) zrange (pa_cons (pv 1) pa_nil))
              (fun _ _ _ _ _ => pg_lc 0 (by decide +kernel)) (fun _ _ _ _ _ => pif_one (pt_cmpR op_eq (pe_op op_mod (pe_op op_fdiv (pv 0) (pv 1)) pe_int) pe_int (nomark _))) (fun _ _ _ _ _ => pv 0)) pa_nil))))))) pss_nil)
      (pss_mid (pb3 H a n kd) (ps_setLc (i := 2) ["mixture"] [none] rfl (lc_of (defScope s__law_plan_by).names nm__law_plan_by (fun _ => rfl) rfl rfl (by decide +kernel)) nd rfl (Or.inl rfl) (pi_list (pv 2))
          (fun _ _ _ _ _ => pg_lc 0 (by decide +kernel)) (fun _ _ _ _ _ => pif_one (pt_cmpR (r := rNeD K) (op_neD hu) (pv 0) (pe_lst pa_nil) (nomark _))) (fun _ _ _ _ _ => pv 0))
      (pss_mid (pb3 H a n kd) (ps_for PassesOwn.never rfl (pi_range1 (by rfl) zrange (pa_cons (pe_op op_mod (pe_callO O1 hr (pa_cons (pv 0) (pa_cons pe_int pa_nil))) pe_int) pa_nil)) (pg_name (i := 6) nd rfl (Or.inl rfl))
        (pss_cons (ps_set (i := 7) nd rfl (Or.inl rfl) (pe_callO O1 hr (pa_cons (pv 0) (pa_cons (pe_op op_add pe_int (pv 6)) pa_nil))))
        (pss_cons (ps_set (i := 5) nd rfl (Or.inl rfl) (pe_callO O2 hr (pa_cons (pe_op op_fdiv (pv 7) pe_int) (pa_cons (pv 1) pa_nil))))
        (pss_mid (pb4 H a n kd) (ps_if (pt_cmpR (op_eqD hu) (pv 5) (pe_lst pa_nil) (nomark _)) (pss_one (ps_set (i := 5) nd rfl (Or.inl rfl) (pe_lst (pa_cons (pe_op op_mod (pv 7) (pv 1)) pa_nil)))) pss_nil)
        (pss_mid (pb4 H a n kd) (ps_if (pw_and (pt_cmpR (op_neD hu) (pv 2) (pe_lst pa_nil) (nomark _)) (pw_and1 (pt_cmpR op_eq (pe_op op_mod (pe_op op_fdiv (pv 7) pe_int) pe_int) pe_int (nomark _)))).pt
          (pss_one (ps_set (i := 5) nd rfl (Or.inl rfl) (pe_callTy call_list_of (by rfl) zlist bt_list (pa_cons (pe_ix ix_list (pv 2) (pe_op op_mod (pe_op op_fdiv (pv 7) pe_int) (pe_callB call_len_seq (by rfl) zlen PySem.boot_len (pa_cons (pv 2) pa_nil))) (fun _ _ => rfl)) pa_nil)))) pss_nil)
        (pss_one (ps_if (pt_cmpR op_lt (pe_callB call_len_seq (by rfl) zlen PySem.boot_len (pa_cons (pv 2) pa_nil)) pe_int (nomark _))
          (pss_cons (ps_set (i := 8) nd rfl (Or.inl rfl) (pe_op op_mod (pe_op op_fdiv (pe_op op_fdiv (pv 7) pe_int) pe_int) (pe_op op_add (pe_callB call_len_seq (by rfl) zlen PySem.boot_len (pa_cons (pv 2) pa_nil)) pe_int)))
          (pss_one (ps_set (i := 2) nd rfl (Or.inl rfl) (pe_op op_cat (pe_op op_cat (pe_slice sl_list (pv 2) po_none (po_some (pv 8))) (pe_lst (pa_cons (pv 5) pa_nil))) (pe_slice sl_list (pv 2) (po_some (pv 8)) po_none))))) pss_nil)))))))
      (pss_one (ps_ret (pe_tup (pa_cons (pv 1) (pa_cons (pv 2) pa_nil))))))))))), ?_⟩
    -- wares = 1 + cell(0) % 8; plan = []; kind = cell(2) % 4
    refine ⟨_, rfl, a, ns, 0, rfl, hS, by decide, _, _, rfl, rfl, (by show (0 : Int) < _; decide), _, _, rfl, rfl, ?_⟩
    show tSeq _ _ _ (List.set _ _ (some (V.int (1 + Mix.cell ns 0 % 8)))) _
    rw [hn]
    refine ⟨Nat.zero_le _, fun l hl => ?_⟩
    refine ⟨_, rfl, a, ns, 2, rfl, (same_upd hl).seq hS, by decide, _, _, rfl, rfl, (by show (0 : Int) < _; decide), ?_⟩
    show tMid _ _ _ _ (List.set _ _ (some (V.int (Mix.cell ns 2 % 4)))) _
    rw [hkd]
    refine ⟨?_, ?_⟩
    · -- if kind == 1
      refine ⟨_, rfl, rfl, _, rfl, ?_⟩
      refine ite2 (fun h1 => ?_) (fun h1 => ?_)
      · have h1 : kd = 1 := V.int.inj (of_decide_eq_true h1)
        refine ⟨_, rfl, (n : Int), rfl, by omega, by omega, fun d hd => ?_⟩
        refine lc_range (n := n) (fun i σ H3 => ∃ c : Option V, σ = [c] ∧ Nw H H3 d ((List.range i).map fun (j : Nat) => [(j : Int)]) ∧ Same H H3)
          ⟨none, rfl, Nw.nil ((same_upd hl).free hd) upd_same, (same_upd hl).trans (same_upd hd)⟩ ?_ ?_
        · rintro i σ H3 hi ⟨c, rfl, N3, s3⟩
          obtain ⟨xs, ex, rx⟩ := N3.ex
          have hlen := rx.length
          rw [List.length_map, List.length_range] at hlen
          refine yesG ?_
          refine ⟨_, rfl, (le1000 (by simp)), fun b hb => ⟨xs, ?_, lt1000 (by omega), _, rfl, ?_, ?_⟩⟩
          · rw [upd_ne (ne_of_none ex hb)]
            exact ex
          · rw [List.range_succ, List.map_append]
            refine N3.snoc (same_upd hb) ex (s3.free hb) (ne_of_none ex hb).symm ?_
            rw [upd_same, Int.zero_add]
            rfl
          · exact (s3.upd (s3.free hb)).upd N3.fr
        · rintro σ H3 ⟨c, rfl, N3, s3⟩
          refine ⟨d, _, rfl, N3, s3, .inl h1, ?_, ?_⟩
          · rw [List.length_map, List.length_range]
            exact n8
          · intro m hm
            obtain ⟨j, hj, rfl⟩ := List.mem_map.mp hm
            have := List.mem_range.mp hj
            exact Mix.isSet_one (by omega) (by omega)
      · exact ⟨l, [], rfl, Nw.nil hl upd_same, same_upd hl, .inr rfl, Nat.zero_le _, (fun m hm => nomatch hm)⟩
    rintro σ H2 ⟨D1, p1, rfl, N1, s1, hp1, l1, q1⟩
    refine ⟨?_, ?_⟩
    · -- if kind == 2
      refine ⟨_, rfl, rfl, _, rfl, ?_⟩
      refine ite2 (fun h1 => ?_) (fun h1 => ?_)
      · have h1 : kd = 2 := V.int.inj (of_decide_eq_true h1)
        have hp1 : p1 = [] := hp1.resolve_left (by omega)
        subst hp1
        refine ⟨le1000 (by simp), fun e he => ⟨e, rfl, ⟨_, SqL.of upd_same⟩, for_list (K := K) (a := e) (xs := [.int 1, .int 2, .int 4]) (fun i σ H3 => ∃ (D : Addr) (p : List (List Int)) (z : Option V), σ = [some (.ref a), some (.int n), some (.ref D), some (.int kd), z, none, none, none, none] ∧ Nw H H3 D p ∧ Same H H3 ∧
          H3 e = some (.lst [.int 1, .int 2, .int 4]) ∧ H e = none ∧ e ≠ D ∧ p.length ≤ 2 * i ∧ ∀ m ∈ p, Mix.isSet n m = true) ?_ (fun i σ H3 _ ⟨_, _, _, _, _, _, z, _⟩ => SqL.of z) ?_ ?_⟩⟩
        · obtain ⟨xs, ex, _⟩ := N1.ex
          exact ⟨D1, [], none, rfl, N1.same (same_upd he), s1.trans (same_upd he), upd_same, s1.free he, (ne_of_none ex he).symm, Nat.zero_le _, (fun m hm => nomatch hm)⟩
        · rintro i y σ H3 hi ⟨D3, p3, z, rfl, N3, s3, e3, he0, hne, l3, q3⟩
          have hi3 : i < 3 := by simpa using (List.getElem?_eq_some_iff.mp hi).1
          obtain ⟨bt, rfl, hbt, hbt2⟩ : ∃ bt : Int, y = .int bt ∧ 0 < bt ∧ bt < 1073741824 := by
            match i, hi with
            | 0, hi => cases hi; exact ⟨1, rfl, by decide, by decide⟩
            | 1, hi => cases hi; exact ⟨2, rfl, by decide, by decide⟩
            | 2, hi => cases hi; exact ⟨4, rfl, by decide, by decide⟩
          have grow : ∀ (r : Int) (t : Nat → Bool), True := fun _ _ => trivial
          obtain ⟨xs, ex, rx⟩ := N3.ex
          have hlen := rx.length
          refine ⟨_, rfl, .inl ⟨rfl, _, SqL.of ex⟩, _, rfl, (n : Int), rfl, by omega, by omega, fun d hd => ?_⟩
          refine lc_range (n := n) (fun j σ H4 => ∃ c : Option V, σ = [c, some (.int bt)] ∧ H4 = upd H3 d (.lst ((Mix.pick (fun j => decide ((j : Int) / bt % 2 = 1)) j).map V.int)))
            ⟨none, rfl, rfl⟩ ?_ ?_
          · rintro j σ H4 hj ⟨c, rfl, rfl⟩
            refine ⟨_, rfl, _, rfl, _, _, rfl, rfl, ⟨hbt, hbt2⟩, _, _, rfl, rfl, (by show (0 : Int) < _; decide), rfl, _, rfl, ?_⟩
            have key : ∀ H5, H5 = upd H3 d (.lst ((Mix.pick (fun j => decide ((j : Int) / bt % 2 = 1)) (j + 1)).map V.int)) → ∃ c : Option V, [some (V.int (0 + (j : Int))), some (V.int bt)] = [c, some (.int bt)] ∧ H5 = upd H3 d (.lst ((Mix.pick (fun j => decide ((j : Int) / bt % 2 = 1)) (j + 1)).map V.int)) := fun H5 e => ⟨_, rfl, e⟩
            rw [Int.zero_add] at key ⊢
            refine ite2 (fun h2 => ?_) (fun h2 => ?_)
            · have h2 : (j : Int) / bt % 2 = 1 := V.int.inj (of_decide_eq_true h2)
              refine ⟨_, rfl, _, upd_same, lt1000 ?_, key _ ?_⟩
              · rw [List.length_map]
                have := Mix.pick_len (fun j => decide ((j : Int) / bt % 2 = 1)) j
                omega
              · rw [upd_upd, Mix.pick_succ, if_pos (decide_eq_true h2), List.map_append]
                rfl
            · have h2 : ¬ (j : Int) / bt % 2 = 1 := fun z => h2 (decide_eq_true (congrArg V.int z))
              refine key _ ?_
              rw [Mix.pick_succ, if_neg (fun z => h2 (of_decide_eq_true z))]
          · rintro σ H4 ⟨c, rfl, rfl⟩
            have nD : D3 ≠ d := ne_of_none ex hd
            have hd0 : H d = none := s3.free hd
            refine ⟨D3, xs, _, rfl, rfl, ?_, lt1000 (by omega), ?_⟩
            · rw [upd_ne nD]
              exact ex
            have N5 := N3.snoc (b := d) (m := Mix.pick (fun j => decide ((j : Int) / bt % 2 = 1)) n) (same_upd (o := .lst ((Mix.pick (fun j => decide ((j : Int) / bt % 2 = 1)) n).map V.int)) hd) ex hd0 nD.symm upd_same
            have s5 : Same H (upd (upd H3 d (.lst ((Mix.pick (fun j => decide ((j : Int) / bt % 2 = 1)) n).map V.int))) D3 (.lst (xs ++ [.ref d]))) := (s3.upd hd0).upd N3.fr
            have e5 : upd (upd H3 d (.lst ((Mix.pick (fun j => decide ((j : Int) / bt % 2 = 1)) n).map V.int))) D3 (.lst (xs ++ [.ref d])) e = some (.lst [.int 1, .int 2, .int 4]) := by
              rw [upd_ne hne, upd_ne (ne_of_none e3 hd)]
              exact e3
            revert N5 s5 e5
            generalize upd (upd H3 d (.lst ((Mix.pick (fun j => decide ((j : Int) / bt % 2 = 1)) n).map V.int))) D3 (.lst (xs ++ [.ref d])) = H5
            intro N5 s5 e5
            have l5 : (p3 ++ [Mix.pick (fun j => decide ((j : Int) / bt % 2 = 1)) n]).length ≤ 2 * i + 1 := by rw [List.length_append]; simp; omega
            have q5 : ∀ m ∈ p3 ++ [Mix.pick (fun j => decide ((j : Int) / bt % 2 = 1)) n], Mix.isSet n m = true := fun m hm => by
              rcases List.mem_append.mp hm with hm | hm
              · exact q3 m hm
              · rw [List.mem_singleton.mp hm]
                exact Mix.pick_set _ n
            revert N5 l5 q5
            generalize p3 ++ [Mix.pick (fun j => decide ((j : Int) / bt % 2 = 1)) n] = p5
            intro N5 l5 q5
            obtain ⟨ys, ey, ry⟩ := N5.ex
            have hlen5 := ry.length
            refine ⟨_, rfl, .inl ⟨rfl, _, SqL.of ey⟩, _, rfl, (n : Int), rfl, by omega, by omega, fun g hg => ?_⟩
            refine lc_range (n := n) (fun j σ H4 => ∃ c : Option V, σ = [c, some (.int bt)] ∧ H4 = upd H5 g (.lst ((Mix.pick (fun j => decide ((j : Int) / bt % 2 = 0)) j).map V.int)))
              ⟨none, rfl, rfl⟩ ?_ ?_
            · rintro j σ H4 hj ⟨c, rfl, rfl⟩
              refine ⟨_, rfl, _, rfl, _, _, rfl, rfl, ⟨hbt, hbt2⟩, _, _, rfl, rfl, (by show (0 : Int) < _; decide), rfl, _, rfl, ?_⟩
              have key : ∀ H6, H6 = upd H5 g (.lst ((Mix.pick (fun j => decide ((j : Int) / bt % 2 = 0)) (j + 1)).map V.int)) → ∃ c : Option V, [some (V.int (0 + (j : Int))), some (V.int bt)] = [c, some (.int bt)] ∧ H6 = upd H5 g (.lst ((Mix.pick (fun j => decide ((j : Int) / bt % 2 = 0)) (j + 1)).map V.int)) := fun H6 e => ⟨_, rfl, e⟩
              rw [Int.zero_add] at key ⊢
              refine ite2 (fun h2 => ?_) (fun h2 => ?_)
              · have h2 : (j : Int) / bt % 2 = 0 := V.int.inj (of_decide_eq_true h2)
                refine ⟨_, rfl, _, upd_same, lt1000 ?_, key _ ?_⟩
                · rw [List.length_map]
                  have := Mix.pick_len (fun j => decide ((j : Int) / bt % 2 = 0)) j
                  omega
                · rw [upd_upd, Mix.pick_succ, if_pos (decide_eq_true h2), List.map_append]
                  rfl
              · have h2 : ¬ (j : Int) / bt % 2 = 0 := fun z => h2 (decide_eq_true (congrArg V.int z))
                refine key _ ?_
                rw [Mix.pick_succ, if_neg (fun z => h2 (of_decide_eq_true z))]
            · rintro σ H4 ⟨c, rfl, rfl⟩
              have nG : D3 ≠ g := ne_of_none ey hg
              have hg0 : H g = none := s5.free hg
              refine ⟨D3, ys, _, rfl, rfl, ?_, lt1000 (by omega), ?_⟩
              · rw [upd_ne nG]
                exact ey
              refine ⟨D3, p5 ++ [Mix.pick (fun j => decide ((j : Int) / bt % 2 = 0)) n], _, rfl, N5.snoc (same_upd hg) ey hg0 nG.symm upd_same, (s5.upd hg0).upd N5.fr, ?_, he0, hne, ?_, fun m hm => ?_⟩
              · rw [upd_ne hne, upd_ne (ne_of_none e5 hg)]
                exact e5
              · rw [List.length_append]
                simp
                omega
              · rcases List.mem_append.mp hm with hm | hm
                · exact q5 m hm
                · rw [List.mem_singleton.mp hm]
                  exact Mix.pick_set _ n
        · rintro σ H3 ⟨D3, p3, z, rfl, N3, s3, _, _, _, l3, q3⟩
          exact ⟨D3, p3, z, rfl, N3, s3, by simp at l3; omega, q3⟩
      · exact ⟨D1, p1, none, rfl, N1, s1, l1, q1⟩
    clear hp1 l1 q1 N1 s1
    rintro σ H3 ⟨D2, p2, z, rfl, N2, s2, l2, q2⟩
    refine ⟨?_, ?_⟩
    · -- plan = [mixture for mixture in plan if mixture != []]
      obtain ⟨xs, ex, rx⟩ := id N2.ex
      have hlen := rx.length
      refine ⟨_, rfl, D2, rfl, ⟨_, SqL.of ex⟩, fun d hd => lc_list (K := K) (a := D2) (xs := xs) (fun i σ H4 => ∃ (c : Option V) (p : List (List Int)), σ = [c] ∧ Same H3 H4 ∧ Nw H H4 d p ∧ p.length ≤ i ∧ ∀ m ∈ p, m ≠ [] ∧ Mix.isSet n m = true)
        ⟨none, [], rfl, same_upd hd, Nw.nil (s2.free hd) upd_same, Nat.le_refl _, (fun m hm => nomatch hm)⟩ (fun i σ H4 _ ⟨_, _, _, s4, _⟩ => SqL.of (s4 _ _ ex)) ?_ ?_⟩
      · rintro i y σ H4 hi ⟨c, p4, rfl, s4, N4, l4, q4⟩
        obtain ⟨m, hm, b, rfl, hbD, hb0, hbm⟩ := Paired.get rx hi
        obtain ⟨ys, ey, ry⟩ := N4.ex
        have hlen4 := ry.length
        have hi8 : i < xs.length := (List.getElem?_eq_some_iff.mp hi).1
        have hbd : b ≠ d := ne_of_none hbm hd
        refine ⟨_, rfl, Nat.zero_le _, fun e he => ⟨dI m, dI [], LI.dat ⟨b, rfl, same_upd he _ _ (s4 _ _ hbm)⟩, LI.dat ⟨e, rfl, upd_same⟩, lay_dI _, lay_dI _, Nat.le_trans (dep_dI _) (by decide), _, rfl, ?_⟩⟩
        show if (!PyData.eqv (dI m) (dI [])) = true then _ else _
        rw [eqv_dI]
        have hd0 : H d = none := s2.free hd
        by_cases hm0 : m = []
        · rw [decide_eq_true hm0]
          exact ⟨_, p4, rfl, s4.trans (same_upd he), N4.same (same_upd he), by omega, q4⟩
        · rw [decide_eq_false hm0]
          refine ⟨_, rfl, ys, ?_, lt1000 (by omega), _, p4 ++ [m], rfl, ?_, ?_, ?_, fun m' hm' => ?_⟩
          · exact same_upd he _ _ ey
          · exact (s4.trans (same_upd he)).upd hd
          · exact N4.snoc (same_upd he) ey hb0 hbd (same_upd he _ _ (s4 _ _ hbm))
          · rw [List.length_append]
            simp
            omega
          · rcases List.mem_append.mp hm' with hm' | hm'
            · exact q4 m' hm'
            · rw [List.mem_singleton.mp hm']
              exact ⟨hm0, q2 m (List.mem_of_getElem? hm)⟩
      · rintro σ H4 ⟨c, p4, rfl, s4, N4, l4, q4⟩
        refine ⟨d, p4, z, none, none, none, none, rfl, N4, s2.trans s4, Mix.isPlan_iff.mpr ⟨by omega, q4⟩⟩
    clear N2 s2 l2 q2
    rintro σ H4 ⟨D4, p4, z1, z2, z3, z4, z5, rfl, N4, s4, q4⟩
    refine ⟨?_, ?_⟩
    · -- for k in range(cell(1) % 13)
      refine ⟨_, rfl, a, ns, 1, rfl, s4.seq hS, by decide, _, _, rfl, rfl, (by show (0 : Int) < _; decide), Mix.cell ns 1 % 13, rfl, by omega, by omega, for_range (n := (Mix.cell ns 1 % 13).toNat) (fun i σ H5 => pb3 H a n kd σ H5)
        ⟨D4, p4, z1, z2, z3, z4, z5, rfl, N4, s4, q4⟩ ?_ (fun σ H5 h => h)⟩
      clear N4 s4 q4
      rintro i σ H5 hi ⟨D5, p5, z1, z2, z3, z4, z5, rfl, N5, s5, q5⟩
      obtain ⟨xs, ex, rx⟩ := id N5.ex
      -- cell = cell(3 + k)
      refine ⟨_, rfl, _, rfl, _, _, rfl, rfl, a, ns, _, rfl, s5.seq hS, by omega, ?_⟩
      generalize Mix.cell ns (3 + (0 + (i : Int))) = c
      -- mixture = some_by(cell // 16, wares)
      refine ⟨_, rfl, _, _, rfl, rfl, ⟨by decide, by decide⟩, _, rfl, c / 16, n, rfl, by omega, fun b H6 hb s6 hm => ?_⟩
      have hb0 : H b = none := s5.free hb
      have hbD : b ≠ D5 := (ne_of_none ex hb).symm
      refine ⟨?_, ?_⟩
      · -- if mixture == []: mixture = [cell % wares]
        refine ⟨_, rfl, Nat.zero_le _, fun e he => ⟨dI (Mix.someBy (c / 16) n), dI [], LI.dat ⟨b, rfl, same_upd he _ _ hm⟩, LI.dat ⟨e, rfl, upd_same⟩, lay_dI _, lay_dI _, Nat.le_trans (dep_dI _) (by decide), _, rfl, ?_⟩⟩
        show if PyData.eqv (dI (Mix.someBy (c / 16) n)) (dI []) = true then _ else _
        rw [eqv_dI]
        refine ite2 (fun h1 => ?_) (fun h1 => ?_)
        · refine ⟨_, rfl, _, rfl, _, _, rfl, rfl, (by omega), (le1000 (by simp)), fun g hg => ?_⟩
          have s7 := s5.trans (s6.trans (same_upd (o := .lst []) he))
          refine ⟨D5, g, p5, [c % n], _, c, _, _, rfl, (N5.same (s6.trans (same_upd he))).same (same_upd hg), s7.trans (same_upd hg), q5, s7.free hg, ?_, upd_same, (by simp), Mix.isSet_one (Int.emod_nonneg _ (by omega)) (Int.emod_lt_of_pos _ (by omega))⟩
          exact (ne_of_none ((s6.trans (same_upd he)) _ _ ex) hg).symm
        · refine ⟨D5, b, p5, _, _, c, _, _, rfl, N5.same (s6.trans (same_upd he)), s5.trans (s6.trans (same_upd he)), q5, hb0, hbD, same_upd he _ _ hm, fun z => h1 (decide_eq_true z), Mix.someBy_set _ n⟩
      clear hb0 hbD hm hb s6 N5 s5 q5 rx ex
      rintro σ H6 ⟨D6, b6, p6, m6, k6, c6, y1, y5, rfl, N6, s6, q6, hb0, hbD, hbm, hm0, hms⟩
      obtain ⟨xs, ex, rx⟩ := id N6.ex
      have hlen := rx.length
      refine ⟨?_, ?_⟩
      · -- if plan != [] and cell // 65536 % 8 == 5: mixture = list(plan[..])
        refine ⟨_, rfl, Nat.zero_le _, fun e he => ⟨dL p6, dL [], (N6.same (same_upd he)).ll.dat, LL.dat ⟨e, [], rfl, upd_same, .nil⟩, lay_dL _, lay_dL _, Nat.le_trans (dep_dL _) (by decide), _, rfl, ?_⟩⟩
        show if (!PyData.eqv (dL p6) (dL [])) = true then _ else _
        rw [eqv_dL]
        have N7 := N6.same (same_upd (o := .lst []) he)
        have s7 := s6.trans (same_upd (o := .lst []) he)
        have stay : pb4 H a n kd [some (.ref a), some (.int n), some (.ref D6), some (.int kd), y1, some (.ref b6), some (.int k6), some (.int c6), y5] (upd H6 e (.lst [])) :=
          ⟨D6, b6, p6, m6, k6, c6, y1, y5, rfl, N7, s7, q6, hb0, hbD, same_upd he _ _ hbm, hm0, hms⟩
        by_cases hp0 : p6 = []
        · rw [decide_eq_true hp0]
          exact stay
        · rw [decide_eq_false hp0]
          refine ⟨_, rfl, _, _, rfl, rfl, ⟨by decide, by decide⟩, _, _, rfl, rfl, (by show (0 : Int) < _; decide), rfl, _, rfl, ?_⟩
          refine ite2 (fun h1 => ?_) (fun h1 => stay)
          have hpos : 0 < p6.length := List.length_pos_iff.mpr hp0
          obtain ⟨j, hj, hjl⟩ : ∃ j : Nat, c6 / 1048576 % (xs.length : Int) = (j : Int) ∧ j < xs.length := by
            have h3 := Int.emod_nonneg (c6 / 1048576) (b := (xs.length : Int)) (by omega)
            have h4 := Int.emod_lt_of_pos (c6 / 1048576) (b := (xs.length : Int)) (by omega)
            exact ⟨(c6 / 1048576 % (xs.length : Int)).toNat, by omega, by omega⟩
          have hgx := List.getElem?_eq_getElem hjl
          obtain ⟨m, hm, g, hgv, hgD, hg0, hgm⟩ := Paired.get rx hgx
          rw [hgv] at hgx
          refine ⟨_, rfl, _, rfl, _, _, rfl, rfl, ⟨by decide, by decide⟩, _, rfl, D6, xs, rfl, .inl (SqL.of (same_upd he _ _ ex)), _, _, rfl, rfl, (by omega), D6, xs, _, .ref g, rfl, rfl, SqL.of (same_upd he _ _ ex), ?_, ?_⟩
          · rw [hj]
            exact atI_nat hgx
          · refine ⟨g, _, rfl, .inl (SqL.of (same_upd he _ _ hgm)), fun q hq => ?_⟩
            obtain ⟨_, hall⟩ := Mix.isPlan_iff.mp q6
            have hmm := hall m (List.mem_of_getElem? hm)
            exact ⟨D6, q, p6, m, k6, c6, y1, y5, rfl, N7.same (same_upd hq), s7.trans (same_upd hq), q6, s7.free hq, (ne_of_none (same_upd he _ _ ex) hq).symm, upd_same, hmm.1, hmm.2⟩
      clear hb0 hbD hbm hm0 hms N6 s6 q6 rx ex hlen
      rintro σ H7 ⟨D7, b7, p7, m7, k7, c7, y1, y5, rfl, N7, s7, q7, hb0, hbD, hbm, hm0, hms⟩
      obtain ⟨xs, ex, rx⟩ := id N7.ex
      have hlen := rx.length
      -- if len(plan) < 12
      refine ⟨_, rfl, D7, xs, rfl, .inl (SqL.of ex), _, _, rfl, rfl, _, rfl, ?_⟩
      refine ite2 (fun h1 => ?_) (fun h1 => ⟨D7, p7, _, _, _, _, _, rfl, N7, s7, q7⟩)
      have h1 : (xs.length : Int) < 12 := of_decide_eq_true h1
      obtain ⟨j, hj, hjl⟩ : ∃ j : Nat, c7 / 16 / 256 % ((xs.length : Int) + 1) = (j : Int) ∧ j ≤ xs.length := by
        have h3 := Int.emod_nonneg (c7 / 16 / 256) (b := (xs.length : Int) + 1) (by omega)
        have h4 := Int.emod_lt_of_pos (c7 / 16 / 256) (b := (xs.length : Int) + 1) (by omega)
        exact ⟨(c7 / 16 / 256 % ((xs.length : Int) + 1)).toNat, by omega, by omega⟩
      refine ⟨_, rfl, _, _, rfl, rfl, ⟨by decide, by decide⟩, _, _, rfl, rfl, ⟨by decide, by decide⟩, _, rfl, D7, xs, rfl, .inl (SqL.of ex), _, _, rfl, rfl, _, _, rfl, rfl, (by omega), ?_⟩
      dsimp only [gName]
      rw [hj]
      refine ⟨_, rfl, _, rfl, _, rfl, D7, xs, rfl, SqL.of ex, fun l1 hl1 => ?_⟩
      rw [cut_take xs j hjl]
      refine ⟨_, rfl, (le1000 (by simp)), fun l2 hl2 => ?_⟩
      have e1 : upd (upd H7 l1 (.lst (xs.take j))) l2 (.lst [.ref b7]) l1 = some (.lst (xs.take j)) := same_upd hl2 _ _ upd_same
      refine ⟨l1, l2, _, _, rfl, rfl, e1, upd_same, le1000 (by simp only [List.length_append, List.length_take, List.length_drop, List.length_cons, List.length_nil]; omega), fun l3 hl3 => ?_⟩
      have sA : Same H7 (upd (upd (upd H7 l1 (.lst (xs.take j))) l2 (.lst [.ref b7])) l3 (.lst (xs.take j ++ [.ref b7]))) := (same_upd hl1).trans ((same_upd hl2).trans (same_upd hl3))
      refine ⟨_, rfl, _, rfl, _, rfl, D7, xs, rfl, SqL.of (sA _ _ ex), fun l4 hl4 => ?_⟩
      rw [cut_drop xs j hjl]
      refine ⟨l3, l4, _, _, rfl, rfl, same_upd hl4 _ _ upd_same, upd_same, le1000 (by simp only [List.length_append, List.length_take, List.length_drop, List.length_cons, List.length_nil]; omega), fun l5 hl5 => ?_⟩
      have sB := sA.trans ((same_upd (o := .lst (xs.drop j)) hl4).trans (same_upd (o := .lst (xs.take j ++ [.ref b7] ++ xs.drop j)) hl5))
      refine ⟨l5, p7.take j ++ [m7] ++ p7.drop j, _, _, _, _, _, rfl, ⟨(s7.trans (sA.trans (same_upd hl4))).free hl5, _, upd_same, ?_⟩, s7.trans sB, Mix.isPlan_insert q7 (by omega) hm0 hms⟩
      have hne : ∀ {x : Addr} {o : HO}, H7 x = some o → x ≠ l5 := fun {x o} hx => ne_of_none ((sA.trans (same_upd hl4)) _ _ hx) hl5
      refine Paired.append (Paired.append (Paired.imp' ?_ (Paired.take j rx)) (.cons ⟨b7, rfl, hne hbm, hb0, sB _ _ hbm⟩ .nil)) (Paired.imp' ?_ (Paired.drop j rx))
      · rintro u m ⟨x, e1, e2, e3, e4⟩
        exact ⟨x, e1, hne e4, e3, sB _ _ e4⟩
      · rintro u m ⟨x, e1, e2, e3, e4⟩
        exact ⟨x, e1, hne e4, e3, sB _ _ e4⟩
    clear N4 s4 q4
    rintro σ H5 ⟨D5, p5, z1, z2, z3, z4, z5, rfl, N5, s5, q5⟩
    refine ⟨_, rfl, _, rfl, (le1000 (by simp)), fun t ht => ?_⟩
    exact kk n p5 D5 t _ n1 n8 q5 (s5.trans (same_upd ht)) (s5.free ht) upd_same (N5.same (same_upd ht))

def sp__law_met : Sp := fun vs H Q _ => ∃ (v u : V) (p : List (List Int)) (t : List Int), vs = [v, u] ∧ LL H v p ∧ LI H u t ∧ p.length ≤ 900 ∧ ∀ l H', H l = none → Same H H' → H' l = some (.lst ((Mix.ans p t).map V.bl)) → Q (.ref l) H'
theorem sc__law_met : FnScope ["plan", "some", "found", "mixture", "hit", "ware"] ["plan", "some"] (defScope s__law_met) := ⟨rfl, rfl, rfl, by decide +kernel, rfl, by decide +kernel, by decide +kernel⟩
theorem ok__law_met (D : Def K mg "_law_met" s__law_met) : Ok P w K mg base "_law_met" 1 ["plan", "some"] sp__law_met := by
  refine D.ok sc__law_met (fun _ _ _ _ _ _ us hl => match us, hl with | [_, _], _ => rfl) (fun vs H Q E h => ?_) (fun f cdv A outer s H vs Q E hr h => ?_)
  · obtain ⟨v, u, p, t, rfl, _⟩ := h
    rfl
  · obtain ⟨v, u, p, t, rfl, ⟨a, xs, rfl, ha, hx⟩, ⟨b, rfl, hb⟩, h900, k⟩ := h
    have hlen := hx.length
    refine ⟨_, pss_cons (ps_set (i := 2) sc__law_met.nd rfl (Or.inl rfl) (pe_lst pa_nil))
      (pss_cons (ps_for PassesOwn.never rfl (pi_list (pv 0)) (pg_name (i := 3) sc__law_met.nd rfl (Or.inl rfl))
        (pss_cons (ps_set (i := 4) sc__law_met.nd rfl (Or.inl rfl) pe_bl)
        (pss_cons (ps_for PassesOwn.never rfl (pi_list (pv 3)) (pg_name (i := 5) sc__law_met.nd rfl (Or.inl rfl))
          (pss_one (ps_if (pt_cmpR op_in_seq (pv 5) (pv 1) (by with_unfolding_all rfl)) (pss_one (ps_set (i := 4) sc__law_met.nd rfl (Or.inl rfl) pe_bl)) pss_nil)))
        (pss_one (ps_expr (pe_bm PySem.F.plainAttrs_list PySem.F.slot_list_append PySem.F.type_list_append mt_append (pv 2) (pa_cons (pv 4) pa_nil)))))))
      (pss_one (ps_ret (pv 2)))), ?_⟩
    refine ⟨Nat.zero_le _, fun l hl => ?_⟩
    refine ⟨_, rfl, a, rfl, ⟨_, SqL.of (by rw [upd_ne (ne_of_none ha hl)]; exact ha)⟩, for_list (K := K) (a := a) (xs := xs) (fun i σ H2 => H2 = upd H l (.lst ((Mix.ans (p.take i) t).map V.bl)) ∧ ∃ x y z : Option V, σ = [some (.ref a), some (.ref b), some (.ref l), x, y, z])
      ⟨rfl, none, none, none, by simp [L2.start]⟩ (fun i σ H2 _ ⟨e, _⟩ => by subst e; exact SqL.of (by rw [upd_ne (ne_of_none ha hl)]; exact ha)) ?_ ?_⟩
    · rintro i y σ H2 hi ⟨rfl, x, y', z, rfl⟩
      obtain ⟨m, hm, c, rfl, hc⟩ := Paired.get hx hi
      have hc' : upd H l (.lst ((Mix.ans (p.take i) t).map V.bl)) c = some (.lst (m.map V.int)) := by rw [upd_ne (ne_of_none hc hl)]; exact hc
      have hil : i < p.length := (List.getElem?_eq_some_iff.mp hm).1
      refine ⟨_, rfl, c, rfl, ⟨_, SqL.of hc'⟩, for_list (K := K) (a := c) (xs := m.map V.int) (fun j σ H2 => H2 = upd H l (.lst ((Mix.ans (p.take i) t).map V.bl)) ∧ ∃ z : Option V, σ = [some (.ref a), some (.ref b), some (.ref l), some (.ref c), some (.bl (Mix.hit (m.take j) t)), z])
        ⟨rfl, _, rfl⟩ (fun j σ H2 _ ⟨e, _⟩ => by subst e; exact SqL.of hc') ?_ ?_⟩
      · rintro j y σ H2 hj ⟨rfl, z, rfl⟩
        obtain ⟨q, rfl, hq⟩ := map_int_get hj
        have hb' : upd H l (.lst ((Mix.ans (p.take i) t).map V.bl)) b = some (.lst (t.map V.int)) := by rw [upd_ne (ne_of_none hb hl)]; exact hb
        have e1 : Mix.hit (m.take (j + 1)) t = (Mix.hit (m.take j) t || t.contains q) := by
          rw [List.take_add_one, hq]
          unfold Mix.hit
          rw [List.any_append]
          simp
        refine ⟨_, rfl, _, rfl, b, _, rfl, .inl (SqL.of hb'), rfl, flat_ints t, _, rfl, ?_⟩
        show if inV (V.int q) (t.map V.int) = true then _ else _
        rw [inV_ints]
        cases e : t.contains q with
        | true =>
          rw [e, Bool.or_true] at e1
          exact ⟨rfl, _, by rw [e1]; rfl⟩
        | false =>
          rw [e, Bool.or_false] at e1
          exact ⟨rfl, _, by rw [e1]; rfl⟩
      · rintro σ H2 ⟨rfl, z, rfl⟩
        rw [List.length_map, List.take_length]
        refine ⟨_, rfl, .inl ⟨rfl, _, SqL.of upd_same⟩, _, rfl, l, _, _, rfl, rfl, upd_same, lt1000 ?_, ?_⟩
        · unfold Mix.ans
          rw [List.length_map, List.length_map, List.length_take]
          omega
        · refine ⟨?_, _, _, _, rfl⟩
          rw [upd_upd, List.take_add_one, hm]
          unfold Mix.ans
          simp
    · rintro σ H2 ⟨rfl, x, y, z, rfl⟩
      refine ⟨_, rfl, k l _ hl (same_upd hl) ?_⟩
      rw [upd_same, hlen, List.take_length]

/-- all sets in order, new lists -/
def sp__law_sets : Sp := fun vs H Q _ => ∃ (n m : Nat), vs = [.int n, .int m] ∧ n ≤ 8 ∧ m ≤ 3 ∧ RetL H Q (Mix.sets n m)
abbrev nm__law_sets : List Str := ["wares", "most", "found", "total", "ware", "number", "some"]
theorem sc__law_sets : FnScope ["wares", "most", "found", "total", "ware", "number", "some"] ["wares", "most"] (defScope s__law_sets) := ⟨rfl, rfl, rfl, by decide +kernel, rfl, by decide +kernel, by decide +kernel⟩
/-- a new list of new tuples, each of a length and a new list -/
structure NwK (H H2 : Hp) (F : Addr) (ts : List Addr) (ks : List (List Int)) : Prop where
  fr : H F = none
  lst : H2 F = some (.lst (ts.map V.ref))
  ks : Paired (fun (t : Addr) (k : List Int) => ∃ b, H t = none ∧ t ≠ F ∧ H b = none ∧ b ≠ F ∧ H2 t = some (.tup [.int k.length, .ref b]) ∧ H2 b = some (.lst (k.map V.int))) ts ks
theorem NwK.same {H H2 H3 : Hp} {F : Addr} {ts : List Addr} {ks : List (List Int)} (N : NwK H H2 F ts ks) (s : Same H2 H3) : NwK H H3 F ts ks :=
  ⟨N.fr, s _ _ N.lst, Paired.imp' (fun _ _ ⟨b, h1, h2, h3, h4, h5, h6⟩ => ⟨b, h1, h2, h3, h4, s _ _ h5, s _ _ h6⟩) N.ks⟩
theorem NwK.snoc {H H2 H3 : Hp} {F t b : Addr} {ts : List Addr} {ks : List (List Int)} {k : List Int} (N : NwK H H2 F ts ks) (s : Same H2 H3) (ht : H t = none) (hb : H b = none) (nt : t ≠ F) (nb : b ≠ F) (et : H3 t = some (.tup [.int k.length, .ref b])) (eb : H3 b = some (.lst (k.map V.int))) :
    NwK H (upd H3 F (.lst ((ts ++ [t]).map V.ref))) F (ts ++ [t]) (ks ++ [k]) := by
  refine ⟨N.fr, upd_same, Paired.snoc (Paired.imp' (fun _ _ ⟨b, h1, h2, h3, h4, h5, h6⟩ => ⟨b, h1, h2, h3, h4, by rw [upd_ne h2]; exact s _ _ h5, by rw [upd_ne h4]; exact s _ _ h6⟩) N.ks) ⟨b, ht, nt, hb, nb, ?_, ?_⟩⟩
  · rw [upd_ne nt]; exact et
  · rw [upd_ne nb]; exact eb
theorem ok__law_sets (D : Def K mg "_law_sets" s__law_sets) (O1 : Ok P w K mg base "_law_some_by" 1 ["cell", "wares"] sp__law_some_by) (zlen : mg "len" = none) (zrange : mg "range" = none) (zsorted : mg "sorted" = none) :
    Ok P w K mg base "_law_sets" 2 ["wares", "most"] sp__law_sets := by
  refine D.ok sc__law_sets (fun _ _ _ _ _ _ us hl => match us, hl with | [_, _], _ => rfl) (fun vs H Q E h => ?_) (fun f cdv A outer s H vs Q E hr h => ?_)
  · obtain ⟨n, m, rfl, _⟩ := h
    rfl
  · obtain ⟨n, m, rfl, n8, m3, k⟩ := h
    have nd := sc__law_sets.nd
    have hu := hr.units
    refine ⟨_, pss_cons (ps_set (i := 2) nd rfl (Or.inl rfl) (pe_lst pa_nil))
      (pss_cons (ps_set (i := 3) nd rfl (Or.inl rfl) pe_int)
      (pss_cons (ps_for PassesOwn.never rfl (pi_range1 (by rfl) zrange (pa_cons (pv 0) pa_nil)) (pg_name (i := 4) nd rfl (Or.inl rfl))
        (pss_one (ps_set (i := 3) nd rfl (Or.inl rfl) (pe_op op_mul pe_int (pv 3)))))
      (pss_cons (ps_for PassesOwn.never rfl (pi_range1 (by rfl) zrange (pa_cons (pv 3) pa_nil)) (pg_name (i := 5) nd rfl (Or.inl rfl))
        (pss_cons (ps_set (i := 6) nd rfl (Or.inl rfl) (pe_callO O1 hr (pa_cons (pv 5) (pa_cons (pv 0) pa_nil))))
        (pss_one (ps_if (pt_cmpR op_le (pe_callB call_len_seq (by rfl) zlen PySem.boot_len (pa_cons (pv 6) pa_nil)) (pv 1) (nomark _))
          (pss_one (ps_expr (pe_bm PySem.F.plainAttrs_list PySem.F.slot_list_append PySem.F.type_list_append mt_append (pv 2) (pa_cons (pe_tup (pa_cons (pe_callB call_len_seq (by rfl) zlen PySem.boot_len (pa_cons (pv 6) pa_nil)) (pa_cons (pv 6) pa_nil))) pa_nil)))) pss_nil))))
      (pss_one (ps_ret (pe_lc ["size", "some"] [none, none] rfl (lc_of (defScope s__law_sets).names nm__law_sets (fun _ => rfl) rfl rfl (by decide +kernel)) (pi_list (pe_callB (call_sortK hu) (by rfl) zsorted bt_sorted (pa_cons (pv 2) pa_nil)))
        (fun _ _ _ _ _ => pg_lc2 rfl (by decide +kernel)) (fun _ _ _ _ _ => pif_nil) (fun _ _ _ _ _ => pv 1))))))), ?_⟩
    refine ⟨Nat.zero_le _, fun F hF => ?_⟩
    have pw : ∀ i, i ≤ n → 2 ^ i ≤ 256 := fun i hi => Nat.le_trans (Nat.pow_le_pow_right (by decide) (Nat.le_trans hi n8)) (by decide)
    refine ⟨_, rfl, (n : Int), rfl, by omega, by omega, for_range (n := n) (fun i σ H2 => H2 = upd H F (.lst []) ∧ ∃ x : Option V, σ = [some (.int n), some (.int m), some (.ref F), some (.int ((2 ^ i : Nat) : Int)), x, none, none])
      ⟨rfl, none, by simp [L2.start]⟩ ?_ ?_⟩
    · rintro i σ H2 hi ⟨rfl, x, rfl⟩
      refine ⟨_, rfl, _, _, rfl, rfl, .inl ⟨by decide, by decide⟩, rfl, some (.int (0 + (i : Int))), ?_⟩
      have e : (2 : Int) * ((2 ^ i : Nat) : Int) = ((2 ^ (i + 1) : Nat) : Int) := by rw [Nat.pow_succ]; omega
      show List.set _ 3 (some (V.int (2 * ((2 ^ i : Nat) : Int)))) = _
      rw [e]
      rfl
    · rintro σ H2 ⟨rfl, x, rfl⟩
      have hp := pw n (Nat.le_refl _)
      refine ⟨_, rfl, ((2 ^ n : Nat) : Int), rfl, Int.le_trans (by decide) (Int.natCast_nonneg _), Int.lt_of_le_of_lt (Int.ofNat_le.mpr hp) (by decide), for_range (n := 2 ^ n) (fun c σ H2 => ∃ (ts : List Addr) (x y z : Option V), σ = [some (.int n), some (.int m), some (.ref F), some (.int ((2 ^ n : Nat) : Int)), x, y, z] ∧ NwK H H2 F ts (Mix.keysTo n m c) ∧ Same H H2)
        ⟨[], _, none, none, rfl, ⟨hF, upd_same, .nil⟩, same_upd hF⟩ ?_ ?_⟩
      · rintro c σ H2 hc ⟨ts, x, y, z, rfl, N2, s2⟩
        have hz : (0 : Int) + (c : Int) = (c : Int) := Int.zero_add _
        show gName 5 (V.int (0 + (c : Int))) _ _ _
        rw [hz]
        refine ⟨_, rfl, _, rfl, (c : Int), n, rfl, by omega, fun l H3 hl s3 hl3 => ?_⟩
        have N3 := N2.same s3
        have hlen := N3.ks.length
        have hkl := Mix.keysTo_len n m c
        have nlF : l ≠ F := (ne_of_none N2.lst hl).symm
        refine ⟨_, rfl, l, _, rfl, .inl (SqL.of hl3), _, rfl, _, _, rfl, rfl, _, rfl, ?_⟩
        refine ite2 (fun h1 => ?_) (fun h1 => ?_)
        · have h1 : (((Mix.someBy (c : Int) n).map V.int).length : Int) ≤ (m : Int) := of_decide_eq_true h1
          rw [List.length_map] at h1
          refine ⟨_, rfl, .inl ⟨rfl, _, SqL.of N3.lst⟩, _, rfl, l, _, rfl, .inl (SqL.of hl3), _, rfl, le1000 (by simp), fun t ht => ?_⟩
          have ntF : t ≠ F := (ne_of_none N3.lst ht).symm
          refine ⟨F, _, _, rfl, rfl, same_upd ht _ _ N3.lst, lt1000 (by rw [List.length_map]; omega), ?_⟩
          refine ⟨ts ++ [t], _, _, _, rfl, ?_, ((s2.trans s3).trans (same_upd ht)).upd hF⟩
          have := N3.snoc (k := Mix.someBy (c : Int) n) (b := l) (same_upd (o := .tup [.int (((Mix.someBy (c : Int) n).map V.int).length : Nat), .ref l]) ht) ((s2.trans s3).free ht) (s2.free hl) ntF nlF (by rw [upd_same, List.length_map]) (same_upd ht _ _ hl3)
          rw [Mix.keysTo_succ, if_pos (by omega)]
          rw [List.map_append] at this
          exact this
        · have h1 : ¬ (((Mix.someBy (c : Int) n).map V.int).length : Int) ≤ (m : Int) := fun q => h1 (decide_eq_true q)
          rw [List.length_map] at h1
          refine ⟨ts, _, _, _, rfl, ?_, s2.trans s3⟩
          rw [Mix.keysTo_succ, if_neg (by omega)]
          exact N3
      · rintro σ H2 ⟨ts, x, y, z, rfl, N2, s2⟩
        obtain ⟨ord, ho, hsz, hmap⟩ := Mix.sort_sets n8 m3
        have hlen := N2.ks.length
        have hkl := Mix.keysTo_len n m (2 ^ n)
        refine ⟨_, rfl, F, ts, Mix.keysTo n m (2 ^ n), ord, rfl, N2.lst, Paired.imp' (fun _ _ ⟨b, _, _, _, _, h5, h6⟩ => ⟨b, h5, h6⟩) N2.ks, by omega, ho, hsz, fun D' hD => ⟨D', rfl, ⟨_, SqL.of upd_same⟩, fun d hd => ?_⟩⟩
        have s3 : Same H2 (upd H2 D' (.lst (ord.toList.map fun i => V.ref (ts.getD i (ts.headD 0))))) := same_upd hD
        have e3 : upd H2 D' (.lst (ord.toList.map fun i => V.ref (ts.getD i (ts.headD 0)))) D' = some (.lst (ord.toList.map fun i => V.ref (ts.getD i (ts.headD 0)))) := upd_same
        revert s3 e3 hd
        generalize upd H2 D' (.lst (ord.toList.map fun i => V.ref (ts.getD i (ts.headD 0)))) = H3
        intro hd s3 e3
        have N3 := N2.same s3
        refine lc_list (K := K) (a := D') (xs := ord.toList.map fun i => V.ref (ts.getD i (ts.headD 0))) (fun i σ H4 => ∃ c1 c2 : Option V, σ = [c1, c2] ∧ Nw H H4 d ((Mix.sets n m).take i) ∧ Same H3 H4)
          ⟨none, none, rfl, Nw.nil ((s2.trans s3).free hd) upd_same, same_upd hd⟩ (fun i σ H4 _ ⟨_, _, _, _, s4⟩ => SqL.of (s4 _ _ e3)) ?_ ?_
        · rintro i y' σ H4 hi ⟨c1, c2, rfl, N4, s4⟩
          rw [List.getElem?_map] at hi
          cases ej : ord.toList[i]? with
          | none => rw [ej] at hi; cases hi
          | some j =>
            rw [ej] at hi
            have hi : V.ref (ts.getD j (ts.headD 0)) = y' := Option.some.inj hi
            subst hi
            have hset : (Mix.sets n m)[i]? = some (Mix.keyAt (Mix.keysTo n m (2 ^ n)) j) := by
              rw [← hmap, List.getElem?_map, ej]
              rfl
            have hts : ts ≠ [] := by
              intro z
              have hk0 : Mix.keysTo n m (2 ^ n) = [] := List.eq_nil_of_length_eq_zero (by rw [← hlen, z]; rfl)
              rw [hk0] at ho
              have : ord = #[] := (Option.some.inj (show some (List.range 0).toArray = some ord from ho)).symm
              rw [this] at ej
              simp at ej
            obtain ⟨b, h1, h2, h3, h4, h5, h6⟩ := paired_at N3.ks hts 0 [] j
            obtain ⟨ys, ey, ry⟩ := N4.ex
            have hl4 := ry.length
            rw [List.length_take] at hl4
            obtain ⟨_, q2, _, _⟩ := Mix.small n8 m3
            refine ⟨_, _, rfl, SqT.of (s4 _ _ h5), rfl, _, _, rfl, _, _, rfl, rfl, ?_⟩
            refine yesT ?_
            refine ⟨_, rfl, ys, ey, lt1000 (by omega), _, _, rfl, ?_, ?_⟩
            · rw [List.take_add_one, hset]
              exact N4.snoc (Same.refl _) ey h3 (ne_of_none h6 hd) (s4 _ _ h6)
            · exact s4.upd hd
        · rintro σ H4 ⟨c1, c2, rfl, N4, s4⟩
          have hl : (ord.toList.map fun i => V.ref (ts.getD i (ts.headD 0))).length = (Mix.sets n m).length := by
            rw [← hmap, List.length_map, List.length_map]
          rw [hl, List.take_length] at N4
          exact k d H4 ((s2.trans s3).trans s4) N4

def sp__law_tried : Sp := fun vs H Q _ => ∃ (n m : Nat) (v u : V) (p : List (List Int)) (bs : List Bool), vs = [.int n, v, .int m, u] ∧ 1 ≤ n ∧ n ≤ 8 ∧ LL H v p ∧ Mix.isPlan n p = true ∧ m ≤ 3 ∧ LB H u bs ∧ bs.length = p.length ∧
  (fits n m p bs = [] → ∀ H', Same H H' → Q (.str "fit") H') ∧ (fits n m p bs ≠ [] → Ret3 H Q (Mix.pick (Mix.inAll (fits n m p bs)) n) (Mix.pick (Mix.inNone (fits n m p bs)) n) (Mix.pick (Mix.inSome (fits n m p bs)) n))
theorem sc__law_tried : FnScope ["wares", "plan", "most", "told", "e"] ["wares", "plan", "most", "told"] (defScope s__law_tried) := ⟨rfl, rfl, rfl, by decide +kernel, rfl, by decide +kernel, by decide +kernel⟩
theorem ok__law_tried (D : Def K mg "_law_tried" s__law_tried) (Z : Pots8 K mg PD c0 c1 c2 c3 c4 c5 c6 c7) (O1 : OkX P w K mg base "sorted_out" 5 ["wares", "plan", "most", "told"] (sp_sorted_out c5)) (O2 : OkH P w K mg base "_law_word_of" 1 ["e"] (sp__law_word_of [c0, c1, c2, c3, c4, c5, c6, c7])) :
    Ok P w K mg base "_law_tried" 6 ["wares", "plan", "most", "told"] sp__law_tried := by
  refine D.ok sc__law_tried (fun _ _ _ _ _ _ us hl => match us, hl with | [_, _, _, _], _ => rfl) (fun vs H Q E h => ?_) (fun f cdv A outer s H vs Q E hr h => ?_)
  · obtain ⟨n, m, v, u, p, bs, rfl, _⟩ := h
    rfl
  · obtain ⟨n, m, v, u, p, bs, rfl, n1, n8, hl, hp, m3, hu, hb, k1, k2⟩ := h
    have nd := sc__law_tried.nd
    refine ⟨_, pss_one (ps_try (Ex := fun C _ H' => C = .ref c5 ∧ Same H H' ∧ fits n m p bs = []) 4 rfl rfl rfl Z.top Z.exD (Z.caught fun C H q => ⟨c5, q.1, by simp⟩)
      (fun pn W hx => pss_one (ps_ret (pe_callX O1 hr hx (pa_cons (pv 0) (pa_cons (pv 1) (pa_cons (pv 2) (pa_cons (pv 3) pa_nil)))))))
      (fun v pn => pss_one (ps_ret (pe_callH O2 ((hr.toH _).mono (by decide)) (pa_cons (pv 4) pa_nil)))) nd rfl), ?_⟩
    refine ⟨⟨_, rfl, _, rfl, _, rfl, _, rfl, n, m, v, u, p, bs, rfl, n1, n8, hl, hp, m3, hu, hb, fun z H' s' => ⟨rfl, s', z⟩, k2⟩, ?_⟩
    rintro C H' e σ' hσ ⟨rfl, s', z⟩ he
    exact ⟨_, set_at hσ (show 4 < 5 by decide), e, c5, 5, "fit", rfl, upd_same, rfl, rfl, fun H2 s2 => k1 z _ (s'.trans ((same_upd he).trans s2))⟩

def sp__law_due : Sp := fun vs H Q _ => ∃ (n : Nat) (v : V) (ss : List (List Int)), vs = [.int n, v] ∧ n ≤ 8 ∧ LL H v ss ∧ ss.length ≤ 900 ∧ 0 < ss.length ∧
  RetL H Q [Mix.pick (Mix.inAll ss) n, Mix.pick (Mix.inNone ss) n, Mix.pick (Mix.inSome ss) n]
abbrev nm__law_due : List Str := ["wares", "fits", "found", "ware", "count", "place"]
theorem sc__law_due : FnScope ["wares", "fits", "found", "ware", "count", "place"] ["wares", "fits"] (defScope s__law_due) := ⟨rfl, rfl, rfl, by decide +kernel, rfl, by decide +kernel, by decide +kernel⟩
theorem ok__law_due (D : Def K mg "_law_due" s__law_due) (zlen : mg "len" = none) (zrange : mg "range" = none) : Ok P w K mg base "_law_due" 1 ["wares", "fits"] sp__law_due := by
  refine D.ok sc__law_due (fun _ _ _ _ _ _ us hl => match us, hl with | [_, _], _ => rfl) (fun vs H Q E h => ?_) (fun f cdv A outer s H vs Q E hr h => ?_)
  · obtain ⟨n, v, ss, rfl, _⟩ := h
    rfl
  · obtain ⟨n, v, ss, rfl, n8, ⟨S, xs, rfl, ex, rx⟩, h9, hpos, k⟩ := h
    have nd := sc__law_due.nd
    have hlen := rx.length
    refine ⟨_, pss_cons (ps_set (i := 2) nd rfl (Or.inl rfl) (pe_lst (pa_cons (pe_lst pa_nil) (pa_cons (pe_lst pa_nil) (pa_cons (pe_lst pa_nil) pa_nil)))))
      (pss_cons (ps_for PassesOwn.never rfl (pi_range1 (by rfl) zrange (pa_cons (pv 0) pa_nil)) (pg_name (i := 3) nd rfl (Or.inr rfl))
        (pss_cons (ps_set (i := 4) nd rfl (Or.inl rfl) (pe_callB call_len_seq (by rfl) zlen PySem.boot_len (pa_cons (pe_lc ["one", "ware"] [none, some 3] rfl (lc_of (defScope s__law_due).names nm__law_due (fun _ => rfl) rfl rfl (by decide +kernel)) (pi_list (pv 1))
          (fun _ _ _ _ _ => pg_lc 0 (by decide +kernel)) (fun _ _ _ _ _ => pif_one (pt_cmpR (r := rIn K false) op_in_seq (pv 1) (pv 0) (by with_unfolding_all rfl))) (fun _ _ _ _ _ => pv 0)) pa_nil)))
        (pss_cons (ps_set (i := 5) nd rfl (Or.inl rfl) pe_int)
        (pss_cons (ps_if (pt_cmpR op_eq (pv 4) (pe_callB call_len_seq (by rfl) zlen PySem.boot_len (pa_cons (pv 1) pa_nil)) (nomark _)) (pss_one (ps_set (i := 5) nd rfl (Or.inl rfl) pe_int)) pss_nil)
        (pss_cons (ps_if (pt_cmpR op_eq (pv 4) pe_int (nomark _)) (pss_one (ps_set (i := 5) nd rfl (Or.inl rfl) pe_int)) pss_nil)
        (pss_one (ps_expr (pe_bm PySem.F.plainAttrs_list PySem.F.slot_list_append PySem.F.type_list_append mt_append (pe_ix ix_list (pv 2) (pv 5) (fun _ _ => rfl)) (pa_cons (pv 3) pa_nil)))))))))
      (pss_one (ps_ret (pv 2)))), ?_⟩
    refine ⟨Nat.zero_le _, fun a ha => ⟨Nat.zero_le _, fun b hb1 => ⟨Nat.zero_le _, fun c hc1 => ⟨le1000 (by simp), fun l hl1 => ?_⟩⟩⟩⟩
    have sa : Same H (upd H a (.lst [])) := same_upd ha
    have sb : Same H (upd (upd H a (.lst [])) b (.lst [])) := sa.trans (same_upd hb1)
    have sc : Same H (upd (upd (upd H a (.lst [])) b (.lst [])) c (.lst [])) := sb.trans (same_upd hc1)
    have hb : H b = none := sa.free hb1
    have hc : H c = none := sb.free hc1
    have hl : H l = none := sc.free hl1
    have nab : a ≠ b := ne_of_none (upd_same (H := H) (a := a) (o := .lst [])) hb1
    have nbc : b ≠ c := ne_of_none (upd_same (H := upd H a (.lst [])) (a := b) (o := .lst [])) hc1
    have nac : a ≠ c := ne_of_none (same_upd hb1 _ _ (upd_same (H := H) (a := a) (o := .lst []))) hc1
    have ncl : c ≠ l := ne_of_none (upd_same (H := upd (upd H a (.lst [])) b (.lst [])) (a := c) (o := .lst [])) hl1
    have nbl : b ≠ l := ne_of_none (same_upd hc1 _ _ (upd_same (H := upd H a (.lst [])) (a := b) (o := .lst []))) hl1
    have nal : a ≠ l := ne_of_none (same_upd hc1 _ _ (same_upd hb1 _ _ (upd_same (H := H) (a := a) (o := .lst [])))) hl1
    have s0 : Same H (upd (upd (upd (upd H a (.lst [])) b (.lst [])) c (.lst [])) l (.lst [.ref a, .ref b, .ref c])) := sc.trans (same_upd hl1)
    refine ⟨_, rfl, (n : Int), rfl, by omega, by omega, for_range (n := n) (fun i σ H2 => Same H H2 ∧ ∃ x y z : Option V, σ = [some (.int n), some (.ref S), some (.ref l), x, y, z] ∧ H2 l = some (.lst [.ref a, .ref b, .ref c]) ∧
        H2 a = some (.lst ((Mix.pick (Mix.inAll ss) i).map V.int)) ∧ H2 b = some (.lst ((Mix.pick (Mix.inNone ss) i).map V.int)) ∧ H2 c = some (.lst ((Mix.pick (Mix.inSome ss) i).map V.int)))
      ⟨s0, none, none, none, by simp [L2.start], upd_same, by rw [upd_ne nal, upd_ne nac, upd_ne nab]; exact upd_same, by rw [upd_ne nbl, upd_ne nbc]; exact upd_same, by rw [upd_ne ncl]; exact upd_same⟩ ?_ ?_⟩
    · rintro i σ H2 hi ⟨s2, x, y, z, rfl, el, ea, eb, ec⟩
      have hz : (0 : Int) + (i : Int) = (i : Int) := Int.zero_add _
      show gName 3 (V.int (0 + (i : Int))) _ _ _
      rw [hz]
      refine ⟨_, rfl, S, rfl, ⟨_, SqL.of (s2 _ _ ex)⟩, fun d hd => lc_list (K := K) (a := S) (xs := xs) (fun j σ H3 => ∃ (c : Option V) (ys : List V), σ = [c, some (.int (i : Int))] ∧ H3 = upd H2 d (.lst ys) ∧ ys.length = Mix.haveN (i : Int) (ss.take j))
        ⟨none, [], rfl, rfl, rfl⟩ (fun j σ H3 _ ⟨_, _, _, e, _⟩ => by subst e; exact SqL.of (same_upd hd _ _ (s2 _ _ ex))) ?_ ?_⟩
      · rintro j y σ H3 hj ⟨c, ys, rfl, rfl, hy⟩
        obtain ⟨t, ht, b, rfl, hb⟩ := Paired.get rx hj
        have hil : j < ss.length := (List.getElem?_eq_some_iff.mp ht).1
        have hfl := List.length_filter_le (fun s : List Int => s.contains (i : Int)) (ss.take j)
        rw [List.length_take] at hfl
        unfold Mix.haveN at hy
        refine ⟨_, rfl, _, rfl, b, _, rfl, .inl (SqL.of (same_upd hd _ _ (s2 _ _ hb))), rfl, flat_ints t, _, rfl, ?_⟩
        show if inV (V.int (i : Int)) (t.map V.int) = true then _ else _
        rw [inV_ints]
        have step : Mix.haveN (i : Int) (ss.take (j + 1)) = Mix.haveN (i : Int) (ss.take j) + if t.contains (i : Int) = true then 1 else 0 := by
          unfold Mix.haveN
          rw [List.take_add_one, ht, List.filter_append, List.length_append]
          congr 1
          show ([t].filter _).length = _
          rw [List.filter_cons]
          cases t.contains (i : Int) <;> rfl
        cases e : t.contains (i : Int) with
        | true =>
          rw [e, if_pos rfl] at step
          refine iteT ?_
          refine ⟨_, rfl, ys, upd_same, lt1000 (by omega), _, ys ++ [.ref b], rfl, upd_upd, ?_⟩
          rw [step, List.length_append, hy]
          rfl
        | false =>
          rw [e, if_neg Bool.false_ne_true] at step
          refine iteF ?_
          exact ⟨_, ys, rfl, rfl, by rw [step, hy]; rfl⟩
      rintro σ H3 ⟨c', ys, rfl, rfl, hy⟩
      rw [hlen, List.take_length] at hy
      have s23 : Same H2 (upd H2 d (.lst ys)) := same_upd hd
      refine ⟨d, ys, rfl, .inl (SqL.of upd_same), ?_⟩
      revert s23
      generalize upd H2 d (.lst ys) = H3
      intro s23
      have s3 := s2.trans s23
      have l1 := Mix.pick_len (Mix.inAll ss) i
      have l2 := Mix.pick_len (Mix.inNone ss) i
      have l3 := Mix.pick_len (Mix.inSome ss) i
      refine ⟨_, rfl, _, rfl, S, _, rfl, .inl (SqL.of (s3 _ _ ex)), rfl, _, rfl, ?_⟩
      have hsp := Mix.pick_succ (Mix.inAll ss) i
      rw [Mix.pick_succ, Mix.pick_succ, Mix.pick_succ]
      by_cases q1 : Mix.haveN (i : Int) ss = ss.length
      · have ia : Mix.inAll ss i = true := decide_eq_true q1
        have hn : ¬ Mix.inNone ss i = true := by unfold Mix.inNone; rw [ia]; exact Bool.false_ne_true
        have hs : ¬ Mix.inSome ss i = true := by unfold Mix.inSome; rw [ia]; exact Bool.false_ne_true
        rw [if_pos ia, if_neg hn, if_neg hs]
        refine iteEqT (by omega) ?_
        refine ⟨_, rfl, rfl, _, rfl, ?_⟩
        refine iteEqF (by omega) ?_
        refine ⟨_, rfl, _, rfl, l, _, 0, .ref a, rfl, rfl, SqL.of (s23 _ _ el), rfl, .inl ⟨rfl, _, SqL.of (s23 _ _ ea)⟩, _, rfl, a, _, _, rfl, rfl, s23 _ _ ea, lt1000 (by rw [List.length_map]; omega), s3.upd ha, _, _, _, rfl, ?_, ?_, ?_, ?_⟩
        · rw [upd_ne nal.symm]; exact s23 _ _ el
        · rw [upd_same, List.map_append]; rfl
        · rw [upd_ne nab.symm]; exact s23 _ _ eb
        · rw [upd_ne nac.symm]; exact s23 _ _ ec
      · have ia : Mix.inAll ss i = false := decide_eq_false q1
        rw [if_neg (by rw [ia]; exact Bool.false_ne_true)]
        refine iteEqF (by omega) ?_
        refine ⟨_, rfl, rfl, _, rfl, ?_⟩
        by_cases q0 : Mix.haveN (i : Int) ss = 0
        · have e0 : decide (Mix.haveN (i : Int) ss = 0) = true := decide_eq_true q0
          have hn : Mix.inNone ss i = true := by unfold Mix.inNone; rw [ia, e0]; rfl
          have hs : ¬ Mix.inSome ss i = true := by unfold Mix.inSome; rw [ia, e0]; exact Bool.false_ne_true
          rw [if_pos hn, if_neg hs]
          refine iteEqT (by omega) ?_
          refine ⟨_, rfl, _, rfl, l, _, 1, .ref b, rfl, rfl, SqL.of (s23 _ _ el), rfl, .inl ⟨rfl, _, SqL.of (s23 _ _ eb)⟩, _, rfl, b, _, _, rfl, rfl, s23 _ _ eb, lt1000 (by rw [List.length_map]; omega), s3.upd hb, _, _, _, rfl, ?_, ?_, ?_, ?_⟩
          · rw [upd_ne nbl.symm]; exact s23 _ _ el
          · rw [upd_ne nab]; exact s23 _ _ ea
          · rw [upd_same, List.map_append]; rfl
          · rw [upd_ne nbc.symm]; exact s23 _ _ ec
        · have e0 : decide (Mix.haveN (i : Int) ss = 0) = false := decide_eq_false q0
          have hn : ¬ Mix.inNone ss i = true := by unfold Mix.inNone; rw [ia, e0]; exact Bool.false_ne_true
          have hs : Mix.inSome ss i = true := by unfold Mix.inSome; rw [ia, e0]; rfl
          rw [if_neg hn, if_pos hs]
          refine iteEqF (by omega) ?_
          refine ⟨_, rfl, _, rfl, l, _, 2, .ref c, rfl, rfl, SqL.of (s23 _ _ el), rfl, .inl ⟨rfl, _, SqL.of (s23 _ _ ec)⟩, _, rfl, c, _, _, rfl, rfl, s23 _ _ ec, lt1000 (by rw [List.length_map]; omega), s3.upd hc, _, _, _, rfl, ?_, ?_, ?_, ?_⟩
          · rw [upd_ne ncl.symm]; exact s23 _ _ el
          · rw [upd_ne nac]; exact s23 _ _ ea
          · rw [upd_ne nbc]; exact s23 _ _ eb
          · rw [upd_same, List.map_append]; rfl
    · rintro σ H2 ⟨s2, x, y, z, rfl, el, ea, eb, ec⟩
      exact ⟨_, rfl, k l H2 s2 ⟨hl, _, el, .cons ⟨a, rfl, nal, ha, ea⟩ (.cons ⟨b, rfl, nbl, hb, eb⟩ (.cons ⟨c, rfl, ncl, hc, ec⟩ .nil))⟩⟩

abbrev nm_law : List Str := ["script", "wares", "plan", "most", "told", "fits", "handed", "turn", "found", "due", "k"]
theorem sc_law : FnScope ["script", "wares", "plan", "most", "told", "fits", "handed", "turn", "found", "due", "k"] ["script"] (defScope s_law) := ⟨rfl, rfl, rfl, by decide +kernel, rfl, by decide +kernel, by decide +kernel⟩
theorem ans_len (p : List (List Int)) (t : List Int) : (Mix.ans p t).length = p.length := by
  unfold Mix.ans
  rw [List.length_map]
theorem ok_law {f : Addr} {fd : FuncData} (F : Fun K "law" "law" s_law f fd) (O1 : Ok P w K mg base "_law_plan_by" 2 ["script"] (sp__law_plan_by K)) (O2 : Ok P w K mg base "_law_cell_at" 1 ["script", "k"] (sp__law_cell_at K)) (O3 : Ok P w K mg base "_law_some_by" 1 ["cell", "wares"] sp__law_some_by)
    (O4 : Ok P w K mg base "_law_met" 1 ["plan", "some"] sp__law_met) (O5 : Ok P w K mg base "_law_sets" 2 ["wares", "most"] sp__law_sets) (O6 : Ok P w K mg base "_law_tried" 6 ["wares", "plan", "most", "told"] sp__law_tried) (O7 : Ok P w K mg base "_law_due" 1 ["wares", "fits"] sp__law_due)
    (O8 : Ok P w K mg base "_law_is_list" 2 ["found", "due"] sp__law_is_list) (zlen : mg "len" = none) (zrange : mg "range" = none) (zlist : mg "list" = none) (zisi : mg "isinstance" = none) (ztuple : mg "tuple" = none) :
    FnOk P w K mg base CX0 7 f fd ["script"] (spLaw K) := by
  refine F.ok sc_law (fun vs H Q E h => ?_) (fun cdv A outer s H vs Q E hr h => ?_)
  · obtain ⟨a, ns, rfl, _⟩ := h
    rfl
  · obtain ⟨a, ns, rfl, hS, hlen, kk⟩ := h
    have hun := hr.units
    have nd := sc_law.nd
    have r1 : Room 1 _ := hr.mono (by decide)
    have r2 : Room 2 _ := hr.mono (by decide)
    refine ⟨_, pss_cons (ps_asg (pe_callO O1 r2 (pa_cons (pv 0) pa_nil)) (pg_tup (n := 2) rfl (pgs_cons (pg_name (i := 1) nd rfl (Or.inl rfl)) (pgs_cons (pg_name (i := 2) nd rfl (Or.inr rfl)) pgs_nil))))
      (pss_cons (ps_set (i := 3) nd rfl (Or.inl rfl) (pe_cut (pe_op op_mod (pe_callO O2 r1 (pa_cons (pv 0) (pa_cons pe_int pa_nil))) pe_int)))
      (pss_cons (ps_set (i := 4) nd rfl (Or.inr rfl) (pe_callO O4 r1 (pa_cons (pv 2) (pa_cons (pe_slice sl_list (pe_callO O3 r1 (pa_cons (pe_callO O2 r1 (pa_cons (pv 0) (pa_cons pe_int pa_nil))) (pa_cons (pv 1) pa_nil))) po_none (po_some (pv 3))) pa_nil))))
      (pss_cons (ps_cut (ps_if (pt_cmpR op_eq (pe_op op_mod (pe_callO O2 r1 (pa_cons (pv 0) (pa_cons pe_int pa_nil))) pe_int) pe_int (nomark _))
        (pss_one (ps_set (i := 4) nd rfl (Or.inr rfl) (pe_lc ["k", "script"] [none, some 0] rfl (lc_of (defScope s_law).names nm_law (fun _ => rfl) rfl rfl (by decide +kernel)) (pi_range1 (by rfl) zrange (pa_cons (pe_callB call_len_seq (by rfl) zlen PySem.boot_len (pa_cons (pv 2) pa_nil)) pa_nil))
          (fun _ _ _ _ _ => pg_lc 0 (by decide +kernel)) (fun _ _ _ _ _ => pif_nil) (fun _ _ _ _ _ => pe_cmpR op_eq (pe_op op_mod (pe_callO O2 r1 (pa_cons (pv 1) (pa_cons (pe_op op_add pe_int (pv 0)) pa_nil))) pe_int) pe_int (nomark _))))) pss_nil))
      (pss_cons (ps_setLc (i := 5) ["one", "plan", "told"] [none, some 2, some 4] rfl (lc_of (defScope s_law).names nm_law (fun _ => rfl) rfl rfl (by decide +kernel)) nd rfl (Or.inl rfl) (pi_list (pe_callO O5 r2 (pa_cons (pv 1) (pa_cons (pv 3) pa_nil))))
          (fun _ _ _ _ _ => pg_lc 0 (by decide +kernel)) (fun _ _ _ _ _ => pif_one (pt_cmpR (r := rEqD K) (op_eqD hun) (pe_callO O4 r1 (pa_cons (pv 1) (pa_cons (pv 0) pa_nil))) (pv 2) (nomark _))) (fun _ _ _ _ _ => pv 0))
      (pss_cons (ps_set (i := 6) nd rfl (Or.inl rfl) (pe_lst (pa_cons
          (pe_lc ["mixture"] [none] rfl (lc_of (defScope s_law).names nm_law (fun _ => rfl) rfl rfl (by decide +kernel)) (pi_list (pv 2))
            (fun _ _ _ _ _ => pg_lc 0 (by decide +kernel)) (fun _ _ _ _ _ => pif_nil) (fun _ _ _ _ _ => pe_callTy (r := rListOf K) call_list_K (by rfl) zlist bt_list (pa_cons (pv 0) pa_nil)))
          (pa_cons (pe_callTy call_list_of (by rfl) zlist bt_list (pa_cons (pv 4) pa_nil)) pa_nil))))
      (pss_cons (ps_for PassesOwn.never rfl (pi_range1 (by rfl) zrange (pa_cons pe_int pa_nil)) (pg_name (i := 7) nd rfl (Or.inl rfl))
        (pss_cons (ps_set (i := 8) nd rfl (Or.inl rfl) (pe_cut (pe_callO O6 hr (pa_cons (pv 1) (pa_cons (pe_ix ix_list (pv 6) pe_int (fun _ _ => rfl)) (pa_cons (pv 3) (pa_cons (pe_ix ix_list (pv 6) pe_int (fun _ _ => rfl)) pa_nil)))))))
        (pss_cons (ps_if (pt_cmpR (op_neD hun) (pv 6) (pe_lst (pa_cons (pv 2) (pa_cons (pv 4) pa_nil))) (nomark _)) (pss_one (ps_ret pe_bl)) pss_nil)
        (pss_cons (ps_if (pt_cmpR (op_eqD hun) (pv 5) (pe_lst pa_nil) (nomark _)) (pss_one (ps_ret (pe_cmpR op_eq (pv 8) pe_str (nomark _)))) pss_nil)
        (pss_cons (ps_if (pw_or (pt_not (pt_val (pe_callB call_isi (by rfl) zisi bt_isinstance (pa_cons (pv 8) (pa_cons (pe_bltn (v := .ty "tuple") (by rfl) ztuple bt_tuple rfl) pa_nil)))))
          (pw_or1 (pt_cmpR op_ne (pe_callB call_len_seq (by rfl) zlen PySem.boot_len (pa_cons (pv 8) pa_nil)) pe_int (nomark _)))).pt (pss_one (ps_ret pe_bl)) pss_nil)
        (pss_cons (ps_set (i := 9) nd rfl (Or.inl rfl) (pe_callO O7 r1 (pa_cons (pv 1) (pa_cons (pv 5) pa_nil))))
        (pss_one (ps_for PassesOwn.never rfl (pi_range1 (by rfl) zrange (pa_cons pe_int pa_nil)) (pg_name (i := 10) nd rfl (Or.inl rfl))
          (pss_cons (ps_if (pt_not (pt_val (pe_callO O8 r2 (pa_cons (pe_ix ix_tup (pv 8) (pv 10) (fun _ _ => rfl)) (pa_cons (pe_ix ix_list (pv 9) (pv 10) (fun _ _ => rfl)) pa_nil))))) (pss_one (ps_ret pe_bl)) pss_nil)
          (pss_one (ps_expr (pe_bm PySem.F.plainAttrs_list PySem.F.slot_list_append PySem.F.type_list_append mt_append (pe_ix ix_tup (pv 8) (pv 10) (fun _ _ => rfl)) (pa_cons pe_int pa_nil)))))))))))))
      (pss_one (ps_ret pe_bl)))))))), ?_⟩
    -- wares, plan
    refine ⟨_, rfl, a, ns, rfl, hS, fun n p D t H1 n1 n8 hp s1 ht et N1 => ?_⟩
    refine ⟨t, _, rfl, SqT.of et, rfl, _, _, rfl, _, _, rfl, rfl, ?_⟩
    have hp12 := (Mix.isPlan_iff.mp hp).1
    -- most
    obtain ⟨m, hm⟩ : ∃ m : Nat, Mix.cell ns 20 % 4 = (m : Int) := ⟨(Mix.cell ns 20 % 4).toNat, by omega⟩
    have m3 : m ≤ 3 := by omega
    refine ⟨fun v H' => v = .int m ∧ H1 = H', ⟨_, rfl, a, ns, 20, rfl, s1.seq hS, by decide, _, _, rfl, rfl, (by show (0 : Int) < _; decide), congrArg V.int hm, rfl⟩, ?_⟩
    rintro v H' ⟨rfl, rfl⟩
    -- told
    refine ⟨_, rfl, _, rfl, a, ns, 21, rfl, s1.seq hS, by decide, _, rfl, Mix.cell ns 21, n, rfl, by omega, fun l H2 hl s2 hl2 => ?_⟩
    generalize Mix.someBy (Mix.cell ns 21) n = so at hl2
    refine ⟨_, rfl, _, rfl, l, _, rfl, SqL.of hl2, fun q hq => ?_⟩
    rw [cut_upto, ← List.map_take]
    have e3 : upd H2 q (.lst ((so.take m).map V.int)) q = some (.lst ((so.take m).map V.int)) := upd_same
    have s13 : Same H1 (upd H2 q (.lst ((so.take m).map V.int))) := s2.trans (same_upd hq)
    revert e3 s13
    generalize upd H2 q (.lst ((so.take m).map V.int)) = H3
    intro e3 s13
    have N3 := N1.same s13
    refine ⟨.ref D, .ref q, p, so.take m, rfl, N3.ll, ⟨q, rfl, e3⟩, by omega, fun u H4 hu4 s4 eu4 => ?_⟩
    have N4 := N3.same s4
    have s14 := s1.trans (s13.trans s4)
    refine ⟨fun σ H5 => ∃ (u' : Addr) (bs : List Bool), σ = [some (.ref a), some (.int n), some (.ref D), some (.int m), some (.ref u'), none, none, none, none, none, none] ∧ Same H4 H5 ∧ H5 u' = some (.lst (bs.map V.bl)) ∧ bs.length = p.length, ?_, ?_⟩
    · refine ⟨_, rfl, a, ns, 22, rfl, s14.seq hS, by decide, _, _, rfl, rfl, (by show (0 : Int) < _; decide), rfl, _, rfl, ?_⟩
      refine ite2 (fun _ => ?_) (fun _ => ?_)
      · obtain ⟨xs, ex, rx⟩ := id N4.ex
        have hlen4 := rx.length
        refine ⟨_, rfl, D, _, rfl, .inl (SqL.of ex), (xs.length : Int), rfl, by omega, by omega, fun d hd => ?_⟩
        refine lc_range (n := xs.length) (fun i σ H5 => ∃ (c : Option V) (bs : List Bool), σ = [c, some (.ref a)] ∧ bs.length = i ∧ H5 = upd H4 d (.lst (bs.map V.bl)))
          ⟨none, [], rfl, rfl, rfl⟩ ?_ ?_
        · rintro i σ H5 hi ⟨c, bs, rfl, hb, rfl⟩
          refine yesG ?_
          refine ⟨_, rfl, _, rfl, _, _, rfl, rfl, a, ns, _, rfl, (s14.trans (same_upd hd)).seq hS, by omega, _, _, rfl, rfl, (by show (0 : Int) < _; decide), rfl, _, upd_same, lt1000 (by rw [List.length_map]; omega), _, bs ++ [decide (V.int (Mix.cell ns (23 + (0 + (i : Int))) % 2) = V.int 1)], rfl, by simp [hb], ?_⟩
          rw [upd_upd, List.map_append]
          rfl
        · rintro σ H5 ⟨c, bs, rfl, hb, rfl⟩
          exact ⟨d, bs, rfl, same_upd hd, upd_same, by omega⟩
      · exact ⟨u, Mix.ans p (so.take m), rfl, Same.refl _, eu4, ans_len _ _⟩
    clear eu4 hu4
    rintro σ H5 ⟨u', bs, rfl, s5, eu5, hbl⟩
    have N5 := N4.same s5
    have s15 := s14.trans s5
    have lb5 : LB H5 (.ref u') bs := ⟨u', rfl, eu5⟩
    -- fits
    obtain ⟨_, q2, _, q4⟩ := Mix.small n8 m3
    refine ⟨_, rfl, _, rfl, n, m, rfl, n8, m3, fun S H6 s6 N6 => ?_⟩
    obtain ⟨xs, ex, rx⟩ := id N6.ex
    have hlen6 := rx.length
    refine ⟨S, rfl, ⟨_, SqL.of ex⟩, fun d hd => lc_list (K := K) (a := S) (xs := xs) (fun i σ H7 => ∃ c : Option V, σ = [c, some (.ref D), some (.ref u')] ∧ Nw H5 H7 d (((Mix.sets n m).take i).filter fun t => decide (Mix.ans p t = bs)) ∧ Same H6 H7)
      ⟨none, rfl, Nw.nil (s6.free hd) upd_same, same_upd hd⟩ (fun i σ H7 _ ⟨_, _, _, s7⟩ => SqL.of (s7 _ _ ex)) ?_ ?_⟩
    · rintro i y σ H7 hi ⟨c, rfl, N7, s7⟩
      obtain ⟨t, ht, b, rfl, nb, hb0, hbm⟩ := Paired.get rx hi
      have hil : i < (Mix.sets n m).length := (List.getElem?_eq_some_iff.mp ht).1
      refine ⟨_, rfl, _, rfl, .ref D, .ref b, p, t, rfl, (N5.same (s6.trans s7)).ll, ⟨b, rfl, s7 _ _ hbm⟩, by omega, fun l H8 hl8 s8 e8 => ?_⟩
      have dl : LB H8 (.ref l) (Mix.ans p t) := ⟨l, rfl, e8⟩
      refine ⟨_, rfl, dB (Mix.ans p t), dB bs, dl.dat, (lb5.same ((s6.trans s7).trans s8)).dat, lay_dB _, lay_dB _, Nat.le_trans (dep_dB _) (by decide), _, rfl, ?_⟩
      rw [eqv_dB]
      have N8 := N7.same s8
      obtain ⟨ys, ey, ry⟩ := N8.ex
      have hl4 := ry.length
      have hl5 := List.length_filter_le (fun t => decide (Mix.ans p t = bs)) ((Mix.sets n m).take i)
      rw [List.length_take] at hl5
      by_cases hq : Mix.ans p t = bs
      · rw [decide_eq_true hq]
        refine iteT ?_
        refine ⟨_, rfl, ys, ey, lt1000 (by omega), _, rfl, ?_, ?_⟩
        · rw [List.take_add_one, ht, List.filter_append]
          have e1 : (some t).toList.filter (fun t => decide (Mix.ans p t = bs)) = [t] := by
            show [t].filter _ = _
            rw [List.filter_cons, if_pos (decide_eq_true hq)]
            rfl
          rw [e1]
          exact N8.snoc (Same.refl _) ey hb0 (ne_of_none hbm hd) (s8 _ _ (s7 _ _ hbm))
        · exact (s7.trans s8).upd hd
      · rw [decide_eq_false hq]
        refine iteF ?_
        refine ⟨_, rfl, ?_, s7.trans s8⟩
        rw [List.take_add_one, ht, List.filter_append]
        have e1 : (some t).toList.filter (fun t => decide (Mix.ans p t = bs)) = [] := by
          show [t].filter _ = _
          rw [List.filter_cons, if_neg (fun z => hq (of_decide_eq_true z))]
          rfl
        rw [e1, List.append_nil]
        exact N8
    rintro σ H7 ⟨c, rfl, N7, s7⟩
    rw [hlen6, List.take_length] at N7
    have s57 := s6.trans s7
    clear s6 s7 rx ex hlen6 N6
    have hfl : (fits n m p bs).length ≤ 900 := by
      have := List.length_filter_le (fun t => decide (Mix.ans p t = bs)) (Mix.sets n m)
      show ((Mix.sets n m).filter fun t => decide (Mix.ans p t = bs)).length ≤ 900
      omega
    have N7 : Nw H5 H7 d (fits n m p bs) := N7
    -- handed
    obtain ⟨_, xs, e, ex, rx⟩ := (N5.same s57).ll
    cases e
    refine ⟨_, rfl, D, rfl, ⟨_, SqL.of ex⟩, fun g hg => copy_lc ex rx (by omega) hg fun H8 s8 N8 => ?_⟩
    have s58 := s57.trans s8
    refine ⟨_, rfl, u', _, rfl, .inl (SqL.of (s58 _ _ eu5)), fun e he => ⟨le1000 (by simp), fun hh hhh => ?_⟩⟩
    have s9 : Same H8 (upd (upd H8 e (.lst (bs.map V.bl))) hh (.lst [.ref g, .ref e])) := (same_upd he).trans (same_upd hhh)
    have e9 : upd (upd H8 e (.lst (bs.map V.bl))) hh (.lst [.ref g, .ref e]) e = some (.lst (bs.map V.bl)) := same_upd hhh _ _ upd_same
    have h9 : upd (upd H8 e (.lst (bs.map V.bl))) hh (.lst [.ref g, .ref e]) hh = some (.lst [.ref g, .ref e]) := upd_same
    revert s9 e9 h9
    generalize upd (upd H8 e (.lst (bs.map V.bl))) hh (.lst [.ref g, .ref e]) = H9
    intro s9 e9 h9
    have N9 := N8.same s9
    have s59 := s58.trans s9
    have D9 := N7.same (s8.trans s9)
    -- for turn
    refine ⟨(2 : Int), rfl, by decide, by decide, for_range (n := 2) (fun i σ H10 => Same H9 H10 ∧ ∃ x y z v : Option V, σ = [some (.ref a), some (.int n), some (.ref D), some (.int m), some (.ref u'), some (.ref d), some (.ref hh), x, y, z, v])
      ⟨Same.refl _, none, none, none, none, rfl⟩ ?_ ?_⟩
    · rintro i0 σ H10 hi ⟨s10, x, y, z, v, rfl⟩
      refine ⟨fun v H11 => Same H10 H11 ∧ (fits n m p bs = [] → v = .str "fit") ∧ (fits n m p bs ≠ [] → ∃ t b c d', v = .ref t ∧ H10 b = none ∧ H10 c = none ∧ H10 d' = none ∧ H10 t = none ∧ H11 t = some (.tup [.ref b, .ref c, .ref d']) ∧ H11 b = some (.lst ((Mix.pick (Mix.inAll (fits n m p bs)) n).map V.int)) ∧
          H11 c = some (.lst ((Mix.pick (Mix.inNone (fits n m p bs)) n).map V.int)) ∧ H11 d' = some (.lst ((Mix.pick (Mix.inSome (fits n m p bs)) n).map V.int)) ∧ b ≠ c ∧ b ≠ d' ∧ c ≠ d'),
        ⟨_, rfl, _, rfl, hh, _, 0, .ref g, rfl, rfl, SqL.of (s10 _ _ h9), rfl, _, rfl, _, rfl, hh, _, 1, .ref e, rfl, rfl, SqL.of (s10 _ _ h9), rfl, n, m, .ref g, .ref e, p, bs, rfl, n1, n8, (N9.same s10).ll, hp, m3, ⟨e, rfl, s10 _ _ e9⟩, hbl,
          fun z H' s' => ⟨s', fun _ => rfl, fun w => absurd z w⟩, fun z t b c d' H' s' ht hb hc hd' et eb ec ed nbc nbd ncd => ⟨s', fun w => absurd w z, fun _ => ⟨t, b, c, d', rfl, hb, hc, hd', ht, et, eb, ec, ed, nbc, nbd, ncd⟩⟩⟩, ?_⟩
      rintro v11 H11 ⟨s11, k1, k2⟩
      have s911 := s10.trans s11
      have s511 := s59.trans s911
      refine ⟨_, rfl, _, rfl, _, rfl, le1000 (by simp), fun j hj => ⟨_, _, dat_pb (same_upd hj _ _ (s911 _ _ h9)) (N9.same (s911.trans (same_upd hj))).ll ⟨e, rfl, same_upd hj _ _ (s911 _ _ e9)⟩, dat_pb upd_same (N5.same (s511.trans (same_upd hj))).ll (lb5.same (s511.trans (same_upd hj))), lay_pb _ _, lay_pb _ _, dep_pb _ _, _, rfl, ?_⟩⟩
      rw [eqv_pb]
      refine iteF ?_
      have s1112 : Same H11 (upd H11 j (.lst [.ref D, .ref u'])) := same_upd hj
      revert s1112
      generalize upd H11 j (.lst [.ref D, .ref u']) = H12
      intro s1112
      refine ⟨_, rfl, Nat.zero_le _, fun j2 hj2 => ⟨dL (fits n m p bs), dL [], (D9.same (s911.trans (s1112.trans (same_upd hj2)))).ll.dat, (show LL _ (.ref j2) [] from ⟨j2, _, rfl, upd_same, .nil⟩).dat, lay_dL _, lay_dL _, Nat.le_trans (dep_dL _) (by decide), _, rfl, ?_⟩⟩
      rw [eqv_dL]
      have s1113 : Same H11 (upd H12 j2 (.lst [])) := s1112.trans (same_upd hj2)
      revert s1113
      generalize upd H12 j2 (.lst []) = H13
      intro s1113
      by_cases hf : fits n m p bs = []
      · rw [decide_eq_true hf]
        refine iteT ?_
        cases k1 hf
        exact ⟨_, rfl, rfl, kk _⟩
      · rw [decide_eq_false hf]
        refine iteF ?_
        obtain ⟨t, b, c, d', rfl, hb, hc, hd', ht, et, eb, ec, ed, nbc, nbd, ncd⟩ := k2 hf
        have et13 := s1113 _ _ et
        refine ⟨_, rfl, _, _, _, _, rfl, .tup et13, kit_same "tuple", _, rfl, ?_⟩
        refine iteF ?_
        refine ⟨_, rfl, t, _, rfl, .inr (SqT.of et13), rfl, _, rfl, ?_⟩
        refine iteNS rfl ?_
        refine ⟨_, rfl, _, rfl, n, .ref d, fits n m p bs, rfl, n8, (D9.same (s911.trans s1113)).ll, hfl, List.length_pos_iff.mpr hf, fun dd H14 s14' N14 => ?_⟩
        have s1114 := s1113.trans s14'
        obtain ⟨hdd, us, eus, rus⟩ := id N14
        have l1 := Mix.pick_len (Mix.inAll (fits n m p bs)) n
        have l2 := Mix.pick_len (Mix.inNone (fits n m p bs)) n
        have l3 := Mix.pick_len (Mix.inSome (fits n m p bs)) n
        cases rus with | cons r1' rus => cases rus with | cons r2' rus => cases rus with | cons r3' rus => cases rus with | nil =>
          obtain ⟨e1, rfl, ne1, he1, ee1⟩ := r1'
          obtain ⟨e2, rfl, ne2, he2, ee2⟩ := r2'
          obtain ⟨e3', rfl, ne3, he3, ee3⟩ := r3'
          have old : ∀ {x : Addr} {o : HO}, H11 x = some o → H14 x = some o := fun z => s1114 _ _ z
          have fb : ∀ {x y : Addr} {o : HO}, H11 x = some o → H13 y = none → x ≠ y := fun {x y o} z w => ne_of_none (s1113 _ _ z) w
          have fx := And.intro eb (And.intro ec ed)
          have ntb : t ≠ b := fun z => by rw [z, eb] at et; cases et
          have ntc : t ≠ c := fun z => by rw [z, ec] at et; cases et
          have ntd : t ≠ d' := fun z => by rw [z, ed] at et; cases et
          refine ⟨(3 : Int), rfl, by decide, by decide, for_range (n := 3) (fun i σ H15 => Same H10 H15 ∧ (∃ w : Option V, σ = [some (.ref a), some (.int n), some (.ref D), some (.int m), some (.ref u'), some (.ref d), some (.ref hh), some (.int (0 + (i0 : Int))), some (.ref t), some (.ref dd), w]) ∧
              H15 t = some (.tup [.ref b, .ref c, .ref d']) ∧ H15 dd = some (.lst [.ref e1, .ref e2, .ref e3']) ∧ H15 e1 = some (.lst ((Mix.pick (Mix.inAll (fits n m p bs)) n).map V.int)) ∧ H15 e2 = some (.lst ((Mix.pick (Mix.inNone (fits n m p bs)) n).map V.int)) ∧ H15 e3' = some (.lst ((Mix.pick (Mix.inSome (fits n m p bs)) n).map V.int)) ∧
              (i ≤ 0 → H15 b = some (.lst ((Mix.pick (Mix.inAll (fits n m p bs)) n).map V.int))) ∧ (i ≤ 1 → H15 c = some (.lst ((Mix.pick (Mix.inNone (fits n m p bs)) n).map V.int))) ∧ (i ≤ 2 → H15 d' = some (.lst ((Mix.pick (Mix.inSome (fits n m p bs)) n).map V.int))))
            ⟨s11.trans s1114, ⟨v, rfl⟩, old et, eus, ee1, ee2, ee3, fun _ => old eb, fun _ => old ec, fun _ => old ed⟩ ?_ ?_⟩
          · rintro i σ H15 hi ⟨s15', ⟨w, rfl⟩, et, eus, ee1, ee2, ee3, fb15, fc15, fd15⟩
            obtain rfl | rfl | rfl : i = 0 ∨ i = 1 ∨ i = 2 := by omega
            · have eb := fb15 (by decide)
              refine ⟨_, rfl, _, rfl, t, _, _, .ref b, rfl, rfl, SqT.of et, rfl, _, rfl, _, rfl, dd, _, _, .ref e1, rfl, rfl, SqL.of eus, rfl, .ref b, .ref e1, _, rfl, ⟨b, rfl, eb⟩, ⟨e1, rfl, ee1⟩, by omega, _, rfl, ?_⟩
              refine iteF ?_
              refine ⟨_, rfl, _, rfl, t, _, _, .ref b, rfl, rfl, SqT.of et, rfl, .inl ⟨rfl, _, SqL.of eb⟩, b, _, _, rfl, rfl, eb, lt1000 (by rw [List.length_map]; omega), s15'.upd hb, ⟨_, rfl⟩, ?_, ?_, ?_, ?_, ?_, fun z => absurd z (by decide), fun _ => ?_, fun _ => ?_⟩
              · rw [upd_ne ntb]; exact et
              · rw [upd_ne (fb fx.1 hdd).symm]; exact eus
              · rw [upd_ne (fb fx.1 he1).symm]; exact ee1
              · rw [upd_ne (fb fx.1 he2).symm]; exact ee2
              · rw [upd_ne (fb fx.1 he3).symm]; exact ee3
              · rw [upd_ne nbc.symm]; exact fc15 (by decide)
              · rw [upd_ne nbd.symm]; exact fd15 (by decide)
            · have ec := fc15 (by decide)
              refine ⟨_, rfl, _, rfl, t, _, _, .ref c, rfl, rfl, SqT.of et, rfl, _, rfl, _, rfl, dd, _, _, .ref e2, rfl, rfl, SqL.of eus, rfl, .ref c, .ref e2, _, rfl, ⟨c, rfl, ec⟩, ⟨e2, rfl, ee2⟩, by omega, _, rfl, ?_⟩
              refine iteF ?_
              refine ⟨_, rfl, _, rfl, t, _, _, .ref c, rfl, rfl, SqT.of et, rfl, .inl ⟨rfl, _, SqL.of ec⟩, c, _, _, rfl, rfl, ec, lt1000 (by rw [List.length_map]; omega), s15'.upd hc, ⟨_, rfl⟩, ?_, ?_, ?_, ?_, ?_, fun z => absurd z (by decide), fun z => absurd z (by decide), fun _ => ?_⟩
              · rw [upd_ne ntc]; exact et
              · rw [upd_ne (fb fx.2.1 hdd).symm]; exact eus
              · rw [upd_ne (fb fx.2.1 he1).symm]; exact ee1
              · rw [upd_ne (fb fx.2.1 he2).symm]; exact ee2
              · rw [upd_ne (fb fx.2.1 he3).symm]; exact ee3
              · rw [upd_ne ncd.symm]; exact fd15 (by decide)
            · have ed := fd15 (by decide)
              refine ⟨_, rfl, _, rfl, t, _, _, .ref d', rfl, rfl, SqT.of et, rfl, _, rfl, _, rfl, dd, _, _, .ref e3', rfl, rfl, SqL.of eus, rfl, .ref d', .ref e3', _, rfl, ⟨d', rfl, ed⟩, ⟨e3', rfl, ee3⟩, by omega, _, rfl, ?_⟩
              refine iteF ?_
              refine ⟨_, rfl, _, rfl, t, _, _, .ref d', rfl, rfl, SqT.of et, rfl, .inl ⟨rfl, _, SqL.of ed⟩, d', _, _, rfl, rfl, ed, lt1000 (by rw [List.length_map]; omega), s15'.upd hd', ⟨_, rfl⟩, ?_, ?_, ?_, ?_, ?_, fun z => absurd z (by decide), fun z => absurd z (by decide), fun z => absurd z (by decide)⟩
              · rw [upd_ne ntd]; exact et
              · rw [upd_ne (fb fx.2.2 hdd).symm]; exact eus
              · rw [upd_ne (fb fx.2.2 he1).symm]; exact ee1
              · rw [upd_ne (fb fx.2.2 he2).symm]; exact ee2
              · rw [upd_ne (fb fx.2.2 he3).symm]; exact ee3
          · rintro σ H15 ⟨s15', ⟨w, rfl⟩, _⟩
            exact ⟨s10.trans s15', _, _, _, _, rfl⟩
    · rintro σ H10 ⟨s10, x, y, z, v, rfl⟩
      exact kk _

end
theorem all_mk {l : PySem.W.OpenLaw} {w : World} {K : PySem.W.Frag} {h : Heap} {mg : Str → Option Value} {fa : Addr} (X : K.In h) (G : h.Ns mainGlobals mg) (hfa : mg "law" = some (.ref fa))
    {f0 : Addr} {od0 an0 : Option Addr} {sl0 : Array (Option Value)} {oc0 kV0 dc0 pm0 cd0 ct0 : Value}
    {f1 : Addr} {od1 an1 : Option Addr} {sl1 : Array (Option Value)} {oc1 kV1 dc1 pm1 cd1 ct1 : Value}
    {f2 : Addr} {od2 an2 : Option Addr} {sl2 : Array (Option Value)} {oc2 kV2 dc2 pm2 cd2 ct2 : Value}
    {f3 : Addr} {od3 an3 : Option Addr} {sl3 : Array (Option Value)} {oc3 kV3 dc3 pm3 cd3 ct3 : Value}
    {f4 : Addr} {od4 an4 : Option Addr} {sl4 : Array (Option Value)} {oc4 kV4 dc4 pm4 cd4 ct4 : Value}
    {f5 : Addr} {od5 an5 : Option Addr} {sl5 : Array (Option Value)} {oc5 kV5 dc5 pm5 cd5 ct5 : Value}
    {f6 : Addr} {od6 an6 : Option Addr} {sl6 : Array (Option Value)} {oc6 kV6 dc6 pm6 cd6 ct6 : Value}
    {f7 : Addr} {od7 an7 : Option Addr} {sl7 : Array (Option Value)} {oc7 kV7 dc7 pm7 cd7 ct7 : Value}
    {f8 : Addr} {od8 an8 : Option Addr} {sl8 : Array (Option Value)} {oc8 kV8 dc8 pm8 cd8 ct8 : Value}
    {f9 : Addr} {od9 an9 : Option Addr} {sl9 : Array (Option Value)} {oc9 kV9 dc9 pm9 cd9 ct9 : Value}
    {f10 : Addr} {od10 an10 : Option Addr} {sl10 : Array (Option Value)} {oc10 kV10 dc10 pm10 cd10 ct10 : Value}
    {f11 : Addr} {od11 an11 : Option Addr} {sl11 : Array (Option Value)} {oc11 kV11 dc11 pm11 cd11 ct11 : Value}
    {f12 : Addr} {od12 an12 : Option Addr} {sl12 : Array (Option Value)} {oc12 kV12 dc12 pm12 cd12 ct12 : Value}
    {f13 : Addr} {od13 an13 : Option Addr} {sl13 : Array (Option Value)} {oc13 kV13 dc13 pm13 cd13 ct13 : Value}
    {f14 : Addr} {od14 an14 : Option Addr} {sl14 : Array (Option Value)} {oc14 kV14 dc14 pm14 cd14 ct14 : Value}
    {f15 : Addr} {od15 an15 : Option Addr} {sl15 : Array (Option Value)} {oc15 kV15 dc15 pm15 cd15 ct15 : Value}
    {f16 : Addr} {od16 an16 : Option Addr} {sl16 : Array (Option Value)} {oc16 kV16 dc16 pm16 cd16 ct16 : Value}
    {f17 : Addr} {od17 an17 : Option Addr} {sl17 : Array (Option Value)} {oc17 kV17 dc17 pm17 cd17 ct17 : Value}
    {f18 : Addr} {od18 an18 : Option Addr} {sl18 : Array (Option Value)} {oc18 kV18 dc18 pm18 cd18 ct18 : Value}
    {f19 : Addr} {od19 an19 : Option Addr} {sl19 : Array (Option Value)} {oc19 kV19 dc19 pm19 cd19 ct19 : Value}
    {f20 : Addr} {od20 an20 : Option Addr} {sl20 : Array (Option Value)} {oc20 kV20 dc20 pm20 cd20 ct20 : Value}
    {f21 : Addr} {od21 an21 : Option Addr} {sl21 : Array (Option Value)} {oc21 kV21 dc21 pm21 cd21 ct21 : Value}
    {f22 : Addr} {od22 an22 : Option Addr} {sl22 : Array (Option Value)} {oc22 kV22 dc22 pm22 cd22 ct22 : Value}
    {f23 : Addr} {od23 an23 : Option Addr} {sl23 : Array (Option Value)} {oc23 kV23 dc23 pm23 cd23 ct23 : Value}
    {t_MIXTURES_LIMIT : Tok}
    {t_WARES_LIMIT : Tok}
    {t_MOST_LIMIT : Tok}
    {PD q0 q1 q2 q3 q4 q5 q6 q7 : Addr}
    (a0 : PySem.W.nsIn K mainGlobals "is_set" = some (some (.ref f0))) (l0 : K.lookup f0 = some ⟨oc0, od0, .func (PySem.W.fnOf "is_set" "is_set" (defArgs s_is_set) (defBody s_is_set) (defScope s_is_set) .none kV0 dc0 pm0 an0 cd0 ct0), sl0⟩) (c0 : PySem.W.codeIn K cd0 "is_set" = true) (k0 : PySem.W.keepIn K (.ref f0) = true)
    (a1 : PySem.W.nsIn K mainGlobals "is_plan" = some (some (.ref f1))) (l1 : K.lookup f1 = some ⟨oc1, od1, .func (PySem.W.fnOf "is_plan" "is_plan" (defArgs s_is_plan) (defBody s_is_plan) (defScope s_is_plan) .none kV1 dc1 pm1 an1 cd1 ct1), sl1⟩) (c1 : PySem.W.codeIn K cd1 "is_plan" = true) (k1 : PySem.W.keepIn K (.ref f1) = true)
    (a2 : PySem.W.nsIn K mainGlobals "check_wares" = some (some (.ref f2))) (l2 : K.lookup f2 = some ⟨oc2, od2, .func (PySem.W.fnOf "check_wares" "check_wares" (defArgs s_check_wares) (defBody s_check_wares) (defScope s_check_wares) .none kV2 dc2 pm2 an2 cd2 ct2), sl2⟩) (c2 : PySem.W.codeIn K cd2 "check_wares" = true) (k2 : PySem.W.keepIn K (.ref f2) = true)
    (a3 : PySem.W.nsIn K mainGlobals "check_plan" = some (some (.ref f3))) (l3 : K.lookup f3 = some ⟨oc3, od3, .func (PySem.W.fnOf "check_plan" "check_plan" (defArgs s_check_plan) (defBody s_check_plan) (defScope s_check_plan) .none kV3 dc3 pm3 an3 cd3 ct3), sl3⟩) (c3 : PySem.W.codeIn K cd3 "check_plan" = true) (k3 : PySem.W.keepIn K (.ref f3) = true)
    (a4 : PySem.W.nsIn K mainGlobals "check_most" = some (some (.ref f4))) (l4 : K.lookup f4 = some ⟨oc4, od4, .func (PySem.W.fnOf "check_most" "check_most" (defArgs s_check_most) (defBody s_check_most) (defScope s_check_most) .none kV4 dc4 pm4 an4 cd4 ct4), sl4⟩) (c4 : PySem.W.codeIn K cd4 "check_most" = true) (k4 : PySem.W.keepIn K (.ref f4) = true)
    (a5 : PySem.W.nsIn K mainGlobals "has_ware_of" = some (some (.ref f5))) (l5 : K.lookup f5 = some ⟨oc5, od5, .func (PySem.W.fnOf "has_ware_of" "has_ware_of" (defArgs s_has_ware_of) (defBody s_has_ware_of) (defScope s_has_ware_of) .none kV5 dc5 pm5 an5 cd5 ct5), sl5⟩) (c5 : PySem.W.codeIn K cd5 "has_ware_of" = true) (k5 : PySem.W.keepIn K (.ref f5) = true)
    (a6 : PySem.W.nsIn K mainGlobals "answers_of" = some (some (.ref f6))) (l6 : K.lookup f6 = some ⟨oc6, od6, .func (PySem.W.fnOf "answers_of" "answers_of" (defArgs s_answers_of) (defBody s_answers_of) (defScope s_answers_of) .none kV6 dc6 pm6 an6 cd6 ct6), sl6⟩) (c6 : PySem.W.codeIn K cd6 "answers_of" = true) (k6 : PySem.W.keepIn K (.ref f6) = true)
    (a7 : PySem.W.nsIn K mainGlobals "one_ware_more" = some (some (.ref f7))) (l7 : K.lookup f7 = some ⟨oc7, od7, .func (PySem.W.fnOf "one_ware_more" "one_ware_more" (defArgs s_one_ware_more) (defBody s_one_ware_more) (defScope s_one_ware_more) .none kV7 dc7 pm7 an7 cd7 ct7), sl7⟩) (c7 : PySem.W.codeIn K cd7 "one_ware_more" = true) (k7 : PySem.W.keepIn K (.ref f7) = true)
    (a8 : PySem.W.nsIn K mainGlobals "sets" = some (some (.ref f8))) (l8 : K.lookup f8 = some ⟨oc8, od8, .func (PySem.W.fnOf "sets" "sets" (defArgs s_sets) (defBody s_sets) (defScope s_sets) .none kV8 dc8 pm8 an8 cd8 ct8), sl8⟩) (c8 : PySem.W.codeIn K cd8 "sets" = true) (k8 : PySem.W.keepIn K (.ref f8) = true)
    (a9 : PySem.W.nsIn K mainGlobals "check_answers" = some (some (.ref f9))) (l9 : K.lookup f9 = some ⟨oc9, od9, .func (PySem.W.fnOf "check_answers" "check_answers" (defArgs s_check_answers) (defBody s_check_answers) (defScope s_check_answers) .none kV9 dc9 pm9 an9 cd9 ct9), sl9⟩) (c9 : PySem.W.codeIn K cd9 "check_answers" = true) (k9 : PySem.W.keepIn K (.ref f9) = true)
    (a10 : PySem.W.nsIn K mainGlobals "fitting" = some (some (.ref f10))) (l10 : K.lookup f10 = some ⟨oc10, od10, .func (PySem.W.fnOf "fitting" "fitting" (defArgs s_fitting) (defBody s_fitting) (defScope s_fitting) .none kV10 dc10 pm10 an10 cd10 ct10), sl10⟩) (c10 : PySem.W.codeIn K cd10 "fitting" = true) (k10 : PySem.W.keepIn K (.ref f10) = true)
    (a11 : PySem.W.nsIn K mainGlobals "how_many_have" = some (some (.ref f11))) (l11 : K.lookup f11 = some ⟨oc11, od11, .func (PySem.W.fnOf "how_many_have" "how_many_have" (defArgs s_how_many_have) (defBody s_how_many_have) (defScope s_how_many_have) .none kV11 dc11 pm11 an11 cd11 ct11), sl11⟩) (c11 : PySem.W.codeIn K cd11 "how_many_have" = true) (k11 : PySem.W.keepIn K (.ref f11) = true)
    (a12 : PySem.W.nsIn K mainGlobals "sorted_out" = some (some (.ref f12))) (l12 : K.lookup f12 = some ⟨oc12, od12, .func (PySem.W.fnOf "sorted_out" "sorted_out" (defArgs s_sorted_out) (defBody s_sorted_out) (defScope s_sorted_out) .none kV12 dc12 pm12 an12 cd12 ct12), sl12⟩) (c12 : PySem.W.codeIn K cd12 "sorted_out" = true) (k12 : PySem.W.keepIn K (.ref f12) = true)
    (a13 : PySem.W.nsIn K mainGlobals "_law_cell_at" = some (some (.ref f13))) (l13 : K.lookup f13 = some ⟨oc13, od13, .func (PySem.W.fnOf "_law_cell_at" "_law_cell_at" (defArgs s__law_cell_at) (defBody s__law_cell_at) (defScope s__law_cell_at) .none kV13 dc13 pm13 an13 cd13 ct13), sl13⟩) (c13 : PySem.W.codeIn K cd13 "_law_cell_at" = true) (k13 : PySem.W.keepIn K (.ref f13) = true)
    (a14 : PySem.W.nsIn K mainGlobals "_law_whole" = some (some (.ref f14))) (l14 : K.lookup f14 = some ⟨oc14, od14, .func (PySem.W.fnOf "_law_whole" "_law_whole" (defArgs s__law_whole) (defBody s__law_whole) (defScope s__law_whole) .none kV14 dc14 pm14 an14 cd14 ct14), sl14⟩) (c14 : PySem.W.codeIn K cd14 "_law_whole" = true) (k14 : PySem.W.keepIn K (.ref f14) = true)
    (a15 : PySem.W.nsIn K mainGlobals "_law_is_list" = some (some (.ref f15))) (l15 : K.lookup f15 = some ⟨oc15, od15, .func (PySem.W.fnOf "_law_is_list" "_law_is_list" (defArgs s__law_is_list) (defBody s__law_is_list) (defScope s__law_is_list) .none kV15 dc15 pm15 an15 cd15 ct15), sl15⟩) (c15 : PySem.W.codeIn K cd15 "_law_is_list" = true) (k15 : PySem.W.keepIn K (.ref f15) = true)
    (a16 : PySem.W.nsIn K mainGlobals "_law_word_of" = some (some (.ref f16))) (l16 : K.lookup f16 = some ⟨oc16, od16, .func (PySem.W.fnOf "_law_word_of" "_law_word_of" (defArgs s__law_word_of) (defBody s__law_word_of) (defScope s__law_word_of) .none kV16 dc16 pm16 an16 cd16 ct16), sl16⟩) (c16 : PySem.W.codeIn K cd16 "_law_word_of" = true) (k16 : PySem.W.keepIn K (.ref f16) = true)
    (a17 : PySem.W.nsIn K mainGlobals "_law_some_by" = some (some (.ref f17))) (l17 : K.lookup f17 = some ⟨oc17, od17, .func (PySem.W.fnOf "_law_some_by" "_law_some_by" (defArgs s__law_some_by) (defBody s__law_some_by) (defScope s__law_some_by) .none kV17 dc17 pm17 an17 cd17 ct17), sl17⟩) (c17 : PySem.W.codeIn K cd17 "_law_some_by" = true) (k17 : PySem.W.keepIn K (.ref f17) = true)
    (a18 : PySem.W.nsIn K mainGlobals "_law_plan_by" = some (some (.ref f18))) (l18 : K.lookup f18 = some ⟨oc18, od18, .func (PySem.W.fnOf "_law_plan_by" "_law_plan_by" (defArgs s__law_plan_by) (defBody s__law_plan_by) (defScope s__law_plan_by) .none kV18 dc18 pm18 an18 cd18 ct18), sl18⟩) (c18 : PySem.W.codeIn K cd18 "_law_plan_by" = true) (k18 : PySem.W.keepIn K (.ref f18) = true)
    (a19 : PySem.W.nsIn K mainGlobals "_law_met" = some (some (.ref f19))) (l19 : K.lookup f19 = some ⟨oc19, od19, .func (PySem.W.fnOf "_law_met" "_law_met" (defArgs s__law_met) (defBody s__law_met) (defScope s__law_met) .none kV19 dc19 pm19 an19 cd19 ct19), sl19⟩) (c19 : PySem.W.codeIn K cd19 "_law_met" = true) (k19 : PySem.W.keepIn K (.ref f19) = true)
    (a20 : PySem.W.nsIn K mainGlobals "_law_sets" = some (some (.ref f20))) (l20 : K.lookup f20 = some ⟨oc20, od20, .func (PySem.W.fnOf "_law_sets" "_law_sets" (defArgs s__law_sets) (defBody s__law_sets) (defScope s__law_sets) .none kV20 dc20 pm20 an20 cd20 ct20), sl20⟩) (c20 : PySem.W.codeIn K cd20 "_law_sets" = true) (k20 : PySem.W.keepIn K (.ref f20) = true)
    (a21 : PySem.W.nsIn K mainGlobals "_law_tried" = some (some (.ref f21))) (l21 : K.lookup f21 = some ⟨oc21, od21, .func (PySem.W.fnOf "_law_tried" "_law_tried" (defArgs s__law_tried) (defBody s__law_tried) (defScope s__law_tried) .none kV21 dc21 pm21 an21 cd21 ct21), sl21⟩) (c21 : PySem.W.codeIn K cd21 "_law_tried" = true) (k21 : PySem.W.keepIn K (.ref f21) = true)
    (a22 : PySem.W.nsIn K mainGlobals "_law_due" = some (some (.ref f22))) (l22 : K.lookup f22 = some ⟨oc22, od22, .func (PySem.W.fnOf "_law_due" "_law_due" (defArgs s__law_due) (defBody s__law_due) (defScope s__law_due) .none kV22 dc22 pm22 an22 cd22 ct22), sl22⟩) (c22 : PySem.W.codeIn K cd22 "_law_due" = true) (k22 : PySem.W.keepIn K (.ref f22) = true)
    (a23 : PySem.W.nsIn K mainGlobals "law" = some (some (.ref f23))) (l23 : K.lookup f23 = some ⟨oc23, od23, .func (PySem.W.fnOf "law" "law" (defArgs s_law) (defBody s_law) (defScope s_law) .none kV23 dc23 pm23 an23 cd23 ct23), sl23⟩) (c23 : PySem.W.codeIn K cd23 "law" = true) (k23 : PySem.W.keepIn K (.ref f23) = true)
    (z_len : PySem.W.nsIn K mainGlobals "len" = some none)
    (z_range : PySem.W.nsIn K mainGlobals "range" = some none)
    (z_list : PySem.W.nsIn K mainGlobals "list" = some none)
    (z_isinstance : PySem.W.nsIn K mainGlobals "isinstance" = some none)
    (z_int : PySem.W.nsIn K mainGlobals "int" = some none)
    (z_bool : PySem.W.nsIn K mainGlobals "bool" = some none)
    (z_ValueError : PySem.W.nsIn K mainGlobals "ValueError" = some none)
    (z_sorted : PySem.W.nsIn K mainGlobals "sorted" = some none)
    (z_tuple : PySem.W.nsIn K mainGlobals "tuple" = some none)
    (g_MIXTURES_LIMIT : PySem.W.nsIn K mainGlobals "MIXTURES_LIMIT" = some (some (.int 12 t_MIXTURES_LIMIT)))
    (g_WARES_LIMIT : PySem.W.nsIn K mainGlobals "WARES_LIMIT" = some (some (.int 8 t_WARES_LIMIT)))
    (g_MOST_LIMIT : PySem.W.nsIn K mainGlobals "MOST_LIMIT" = some (some (.int 3 t_MOST_LIMIT)))
    (p_PotError : PySem.W.nsIn K mainGlobals "PotError" = some (some (.ref PD)))
    (p_NoWares : PySem.W.nsIn K mainGlobals "NoWares" = some (some (.ref q0)))
    (p_NoPlan : PySem.W.nsIn K mainGlobals "NoPlan" = some (some (.ref q1)))
    (p_NoSet : PySem.W.nsIn K mainGlobals "NoSet" = some (some (.ref q2)))
    (p_NoMost : PySem.W.nsIn K mainGlobals "NoMost" = some (some (.ref q3)))
    (p_NoAnswers : PySem.W.nsIn K mainGlobals "NoAnswers" = some (some (.ref q4)))
    (p_NoFit : PySem.W.nsIn K mainGlobals "NoFit" = some (some (.ref q5)))
    (p_NotTold : PySem.W.nsIn K mainGlobals "NotTold" = some (some (.ref q6)))
    (p_NoNote : PySem.W.nsIn K mainGlobals "NoNote" = some (some (.ref q7)))
    (p_ok : potOk K PD [q0, q1, q2, q3, q4, q5, q6, q7] = true) (p_nd : [PD, q0, q1, q2, q3, q4, q5, q6, q7].Nodup) :
    ∃ fd : FuncData, (∀ (s : Shared) (v : Value), BindsTo s fd ⟨[v], []⟩ [("script", v)]) ∧ ∀ base : Heap, K.In base → base.Ns mainGlobals mg → FnOk l.prog w K mg base CX0 7 fa fd ["script"] (spLaw K) := by
  have e := hfa.symm.trans (PySem.W.mg_of X G a23)
  cases e
  have zz_len := PySem.W.mg_none_of X G z_len
  have zz_range := PySem.W.mg_none_of X G z_range
  have zz_list := PySem.W.mg_none_of X G z_list
  have zz_isinstance := PySem.W.mg_none_of X G z_isinstance
  have zz_int := PySem.W.mg_none_of X G z_int
  have zz_bool := PySem.W.mg_none_of X G z_bool
  have zz_ValueError := PySem.W.mg_none_of X G z_ValueError
  have zz_sorted := PySem.W.mg_none_of X G z_sorted
  have zz_tuple := PySem.W.mg_none_of X G z_tuple
  have gg_MIXTURES_LIMIT := PySem.W.mg_of X G g_MIXTURES_LIMIT
  have gg_WARES_LIMIT := PySem.W.mg_of X G g_WARES_LIMIT
  have gg_MOST_LIMIT := PySem.W.mg_of X G g_MOST_LIMIT
  have PP : Pots8 K mg PD q0 q1 q2 q3 q4 q5 q6 q7 := ⟨PySem.W.mg_of X G p_PotError, .cons (PySem.W.mg_of X G p_NoWares) (.cons (PySem.W.mg_of X G p_NoPlan) (.cons (PySem.W.mg_of X G p_NoSet) (.cons (PySem.W.mg_of X G p_NoMost) (.cons (PySem.W.mg_of X G p_NoAnswers) (.cons (PySem.W.mg_of X G p_NoFit) (.cons (PySem.W.mg_of X G p_NotTold) (.cons (PySem.W.mg_of X G p_NoNote) (.nil)))))))), p_ok, p_nd⟩
  have D_is_set : Def K mg "is_set" s_is_set := def_mk X G a0 l0 c0 k0
  have D_is_plan : Def K mg "is_plan" s_is_plan := def_mk X G a1 l1 c1 k1
  have D_check_wares : Def K mg "check_wares" s_check_wares := def_mk X G a2 l2 c2 k2
  have D_check_plan : Def K mg "check_plan" s_check_plan := def_mk X G a3 l3 c3 k3
  have D_check_most : Def K mg "check_most" s_check_most := def_mk X G a4 l4 c4 k4
  have D_has_ware_of : Def K mg "has_ware_of" s_has_ware_of := def_mk X G a5 l5 c5 k5
  have D_answers_of : Def K mg "answers_of" s_answers_of := def_mk X G a6 l6 c6 k6
  have D_one_ware_more : Def K mg "one_ware_more" s_one_ware_more := def_mk X G a7 l7 c7 k7
  have D_sets : Def K mg "sets" s_sets := def_mk X G a8 l8 c8 k8
  have D_check_answers : Def K mg "check_answers" s_check_answers := def_mk X G a9 l9 c9 k9
  have D_fitting : Def K mg "fitting" s_fitting := def_mk X G a10 l10 c10 k10
  have D_how_many_have : Def K mg "how_many_have" s_how_many_have := def_mk X G a11 l11 c11 k11
  have D_sorted_out : Def K mg "sorted_out" s_sorted_out := def_mk X G a12 l12 c12 k12
  have D__law_cell_at : Def K mg "_law_cell_at" s__law_cell_at := def_mk X G a13 l13 c13 k13
  have D__law_whole : Def K mg "_law_whole" s__law_whole := def_mk X G a14 l14 c14 k14
  have D__law_is_list : Def K mg "_law_is_list" s__law_is_list := def_mk X G a15 l15 c15 k15
  have D__law_word_of : Def K mg "_law_word_of" s__law_word_of := def_mk X G a16 l16 c16 k16
  have D__law_some_by : Def K mg "_law_some_by" s__law_some_by := def_mk X G a17 l17 c17 k17
  have D__law_plan_by : Def K mg "_law_plan_by" s__law_plan_by := def_mk X G a18 l18 c18 k18
  have D__law_met : Def K mg "_law_met" s__law_met := def_mk X G a19 l19 c19 k19
  have D__law_sets : Def K mg "_law_sets" s__law_sets := def_mk X G a20 l20 c20 k20
  have D__law_tried : Def K mg "_law_tried" s__law_tried := def_mk X G a21 l21 c21 k21
  have D__law_due : Def K mg "_law_due" s__law_due := def_mk X G a22 l22 c22 k22
  refine ⟨PySem.W.fnOf "law" "law" (defArgs s_law) (defBody s_law) (defScope s_law) .none kV23 dc23 pm23 an23 cd23 ct23, fun s v => .of_eq rfl, fun base _ _ => ?_⟩
  have O_is_set := ok_is_set (P := l.prog) (w := w) (base := base) D_is_set 
  have O_is_plan := ok_is_plan (P := l.prog) (w := w) (base := base) D_is_plan O_is_set zz_len _ gg_MIXTURES_LIMIT
  have O_check_wares := ok_check_wares (P := l.prog) (w := w) (base := base) D_check_wares _ gg_WARES_LIMIT
  have O_check_plan := ok_check_plan (P := l.prog) (w := w) (base := base) D_check_plan O_check_wares O_is_plan
  have O_check_most := ok_check_most (P := l.prog) (w := w) (base := base) D_check_most _ gg_MOST_LIMIT
  have O_has_ware_of := ok_has_ware_of (P := l.prog) (w := w) (base := base) D_has_ware_of 
  have O_answers_of := ok_answers_of (P := l.prog) (w := w) (base := base) D_answers_of O_has_ware_of
  have O_one_ware_more := ok_one_ware_more (P := l.prog) (w := w) (base := base) D_one_ware_more zz_len zz_range
  have O_sets := ok_sets (P := l.prog) (w := w) (base := base) D_sets O_check_wares O_check_most O_one_ware_more zz_range zz_list
  have O_check_answers := ok_check_answers (P := l.prog) (w := w) (base := base) D_check_answers zz_len
  have O_fitting := ok_fitting (P := l.prog) (w := w) (base := base) D_fitting O_check_plan O_check_most O_check_answers O_sets O_answers_of
  have O_how_many_have := ok_how_many_have (P := l.prog) (w := w) (base := base) D_how_many_have zz_len
  have O_sorted_out := ok_sorted_out (P := l.prog) (w := w) (base := base) D_sorted_out PP O_fitting O_how_many_have zz_len zz_range
  have O__law_cell_at := ok__law_cell_at (P := l.prog) (w := w) (base := base) D__law_cell_at zz_len
  have O__law_whole := ok__law_whole (P := l.prog) (w := w) (base := base) D__law_whole zz_isinstance zz_int zz_bool
  have O__law_is_list := ok__law_is_list (P := l.prog) (w := w) (base := base) D__law_is_list O__law_whole zz_len zz_range zz_isinstance zz_list
  have O__law_word_of := ok__law_word_of (P := l.prog) (w := w) (base := base) D__law_word_of PP zz_isinstance zz_ValueError
  have O__law_some_by := ok__law_some_by (P := l.prog) (w := w) (base := base) D__law_some_by zz_range
  have O__law_plan_by := ok__law_plan_by (P := l.prog) (w := w) (base := base) D__law_plan_by O__law_cell_at O__law_some_by zz_len zz_range zz_list
  have O__law_met := ok__law_met (P := l.prog) (w := w) (base := base) D__law_met 
  have O__law_sets := ok__law_sets (P := l.prog) (w := w) (base := base) D__law_sets O__law_some_by zz_len zz_range zz_sorted
  have O__law_tried := ok__law_tried (P := l.prog) (w := w) (base := base) D__law_tried PP O_sorted_out O__law_word_of
  have O__law_due := ok__law_due (P := l.prog) (w := w) (base := base) D__law_due zz_len zz_range
  exact ok_law (fun_mk (st := s_law) l23 c23 k23) O__law_plan_by O__law_cell_at O__law_some_by O__law_met O__law_sets O__law_tried O__law_due O__law_is_list zz_len zz_range zz_list zz_isinstance zz_tuple
end Law
open PySem PySem.W PyProof.Rows
set_option maxRecDepth 100000 in
set_option maxHeartbeats 0 in
theorem PySem.Challenge.cw_mixpots_k04_sorted_out_holds : PySem.Challenge.rw_mixpots_k04_sorted_out.Holds := by
  w_on; o_law; k_head; (case hw => w_witness2)
  k_fill
  refine L2.walkL (l := PySem.Challenge.rw_mixpots_k04_sorted_out) (k := 7) rfl rfl ⟨rfl, by decide, by decide⟩ (fun w h Y => PySem.W.kIn_of Y) ?F
  case F =>
    intro w mg fa h KX G hmg
    refine' Law.all_mk KX G hmg ?a0 ?l0 ?c0 ?k0 ?a1 ?l1 ?c1 ?k1 ?a2 ?l2 ?c2 ?k2 ?a3 ?l3 ?c3 ?k3 ?a4 ?l4 ?c4 ?k4 ?a5 ?l5 ?c5 ?k5 ?a6 ?l6 ?c6 ?k6 ?a7 ?l7 ?c7 ?k7 ?a8 ?l8 ?c8 ?k8 ?a9 ?l9 ?c9 ?k9 ?a10 ?l10 ?c10 ?k10 ?a11 ?l11 ?c11 ?k11 ?a12 ?l12 ?c12 ?k12 ?a13 ?l13 ?c13 ?k13 ?a14 ?l14 ?c14 ?k14 ?a15 ?l15 ?c15 ?k15 ?a16 ?l16 ?c16 ?k16 ?a17 ?l17 ?c17 ?k17 ?a18 ?l18 ?c18 ?k18 ?a19 ?l19 ?c19 ?k19 ?a20 ?l20 ?c20 ?k20 ?a21 ?l21 ?c21 ?k21 ?a22 ?l22 ?c22 ?k22 ?a23 ?l23 ?c23 ?k23 ?z_len ?z_range ?z_list ?z_isinstance ?z_int ?z_bool ?z_ValueError ?z_sorted ?z_tuple ?g_MIXTURES_LIMIT ?g_WARES_LIMIT ?g_MOST_LIMIT ?p_PotError ?p_NoWares ?p_NoPlan ?p_NoSet ?p_NoMost ?p_NoAnswers ?p_NoFit ?p_NotTold ?p_NoNote ?p_ok ?p_nd
    (case a0 => k_is)
    (case l0 => k_is)
    (case c0 => k_is)
    (case k0 => k_is)
    (case a1 => k_is)
    (case l1 => k_is)
    (case c1 => k_is)
    (case k1 => k_is)
    (case a2 => k_is)
    (case l2 => k_is)
    (case c2 => k_is)
    (case k2 => k_is)
    (case a3 => k_is)
    (case l3 => k_is)
    (case c3 => k_is)
    (case k3 => k_is)
    (case a4 => k_is)
    (case l4 => k_is)
    (case c4 => k_is)
    (case k4 => k_is)
    (case a5 => k_is)
    (case l5 => k_is)
    (case c5 => k_is)
    (case k5 => k_is)
    (case a6 => k_is)
    (case l6 => k_is)
    (case c6 => k_is)
    (case k6 => k_is)
    (case a7 => k_is)
    (case l7 => k_is)
    (case c7 => k_is)
    (case k7 => k_is)
    (case a8 => k_is)
    (case l8 => k_is)
    (case c8 => k_is)
    (case k8 => k_is)
    (case a9 => k_is)
    (case l9 => k_is)
    (case c9 => k_is)
    (case k9 => k_is)
    (case a10 => k_is)
    (case l10 => k_is)
    (case c10 => k_is)
    (case k10 => k_is)
    (case a11 => k_is)
    (case l11 => k_is)
    (case c11 => k_is)
    (case k11 => k_is)
    (case a12 => k_is)
    (case l12 => k_is)
    (case c12 => k_is)
    (case k12 => k_is)
    (case a13 => k_is)
    (case l13 => k_is)
    (case c13 => k_is)
    (case k13 => k_is)
    (case a14 => k_is)
    (case l14 => k_is)
    (case c14 => k_is)
    (case k14 => k_is)
    (case a15 => k_is)
    (case l15 => k_is)
    (case c15 => k_is)
    (case k15 => k_is)
    (case a16 => k_is)
    (case l16 => k_is)
    (case c16 => k_is)
    (case k16 => k_is)
    (case a17 => k_is)
    (case l17 => k_is)
    (case c17 => k_is)
    (case k17 => k_is)
    (case a18 => k_is)
    (case l18 => k_is)
    (case c18 => k_is)
    (case k18 => k_is)
    (case a19 => k_is)
    (case l19 => k_is)
    (case c19 => k_is)
    (case k19 => k_is)
    (case a20 => k_is)
    (case l20 => k_is)
    (case c20 => k_is)
    (case k20 => k_is)
    (case a21 => k_is)
    (case l21 => k_is)
    (case c21 => k_is)
    (case k21 => k_is)
    (case a22 => k_is)
    (case l22 => k_is)
    (case c22 => k_is)
    (case k22 => k_is)
    (case a23 => k_is)
    (case l23 => k_is)
    (case c23 => k_is)
    (case k23 => k_is)
    (case z_len => k_is)
    (case z_range => k_is)
    (case z_list => k_is)
    (case z_isinstance => k_is)
    (case z_int => k_is)
    (case z_bool => k_is)
    (case z_ValueError => k_is)
    (case z_sorted => k_is)
    (case z_tuple => k_is)
    (case g_MIXTURES_LIMIT => k_is)
    (case g_WARES_LIMIT => k_is)
    (case g_MOST_LIMIT => k_is)
    (case p_PotError => k_is)
    (case p_NoWares => k_is)
    (case p_NoPlan => k_is)
    (case p_NoSet => k_is)
    (case p_NoMost => k_is)
    (case p_NoAnswers => k_is)
    (case p_NoFit => k_is)
    (case p_NotTold => k_is)
    (case p_NoNote => k_is)
    (case p_ok => kernel_rfl)
    (case p_nd => decide +kernel)
#print axioms PySem.Challenge.cw_mixpots_k04_sorted_out_holds
