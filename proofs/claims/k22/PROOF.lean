import PyProof.Rows.All
import Wide.All
import OpenK.AllK
import Wide.FinOn
import Lean
import PyProof.EqAt
import PyProof.EqKinds
import PyProof.TupleCall
import KE.BitLaws
import PySem.Challenge.RW_fewbends_k22_nets_of_maps
set_option Elab.async false
set_option linter.all false
set_option maxRecDepth 100000
/-! THE HAND LAYER, for ints, bools, texts, own classes, LISTS and tuples (index, slices, in, append, pop ..), calls, loops. Paste it whole ahead of your own text; what your proof does not reach may be deleted. -/
namespace L2
open PySem PySem.Spec PyProof.Rows

/-- a key: an int or a str -/
abbrev Key := Sum Int Str
def keyIs : Key → Value → Bool
  | .inl k, v => Value.isInt k v
  | .inr x, v => Value.isStrOf x v
def keyH (w : World) : Key → Int
  | .inl k => hashInt k
  | .inr x => hashStr w x
theorem keyIs_shape : ∀ {k : Key} {v : Value}, keyIs k v = true → (∃ i t, k = Sum.inl i ∧ v = Value.int i t) ∨ (∃ x t, k = Sum.inr x ∧ v = Value.str x t)
  | .inl i, v, h => by
    obtain ⟨t, e⟩ := Value.isInt_shape (k := i) (v := v) h
    exact .inl ⟨i, t, rfl, e⟩
  | .inr x, v, h => by
    obtain ⟨t, e⟩ := Value.isStrOf_shape (x := x) (v := v) h
    exact .inr ⟨x, t, rfl, e⟩
theorem keyIs_int (i : Int) (t : Tok) : keyIs (.inl i) (.int i t) = true := by simp [keyIs, Value.isInt]
theorem keyIs_str (x : Str) (t : Tok) : keyIs (.inr x) (.str x t) = true := by simp [keyIs, Value.isStrOf]
theorem key_ll (a b : Int) : decide ((Sum.inl a : Key) = Sum.inl b) = (a == b) := by
  by_cases e : a = b
  · subst e; simp
  · have h : ¬ (Sum.inl a : Key) = Sum.inl b := fun q => e (Sum.inl.inj q)
    rw [decide_eq_false h]
    exact (beq_eq_false_iff_ne.mpr e).symm
theorem key_rr (a b : Str) : decide ((Sum.inr a : Key) = Sum.inr b) = decide (a = b) := by
  by_cases e : a = b
  · subst e; simp
  · have h : ¬ (Sum.inr a : Key) = Sum.inr b := fun q => e (Sum.inr.inj q)
    rw [decide_eq_false h, decide_eq_false e]
theorem key_lr (a : Int) (b : Str) : decide ((Sum.inl a : Key) = Sum.inr b) = false := decide_eq_false (fun q => nomatch q)
theorem key_rl (a : Str) (b : Int) : decide ((Sum.inr a : Key) = Sum.inl b) = false := decide_eq_false (fun q => nomatch q)

def mixKind (prog : Program) (w : World) : PySem.KeyKind prog w Key where
  is := keyIs
  hash := keyH w
  inj := fun v a b ha hb => by
    rcases keyIs_shape ha with ⟨i, t, rfl, rfl⟩ | ⟨x, t, rfl, rfl⟩
    · rcases keyIs_shape hb with ⟨j, u, rfl, e⟩ | ⟨y, u, rfl, e⟩
      · injection e with e1 _; rw [e1]
      · exact nomatch e
    · rcases keyIs_shape hb with ⟨j, u, rfl, e⟩ | ⟨y, u, rfl, e⟩
      · exact nomatch e
      · injection e with e1 _; rw [e1]
  byValue := fun k v h => by
    rcases keyIs_shape h with ⟨i, t, rfl, rfl⟩ | ⟨x, t, rfl, rfl⟩ <;> rfl
  pyHash := fun hv h => by
    rcases keyIs_shape hv with ⟨i, t, rfl, rfl⟩ | ⟨x, t, rfl, rfl⟩
    · exact wpAny_pyHash_int h
    · exact wpAny_pyHash_str h
  eqBool := fun hu hv h => by
    rcases keyIs_shape hu with ⟨i, t, rfl, rfl⟩ | ⟨x, t, rfl, rfl⟩
    · rcases keyIs_shape hv with ⟨j, u, rfl, rfl⟩ | ⟨y, u, rfl, rfl⟩
      · rw [key_ll] at h; exact wpAny_eqBool_int h
      · rw [key_lr] at h; exact SeqAt.EqAt.int_str i t y u _ _ _ _ h
    · rcases keyIs_shape hv with ⟨j, u, rfl, rfl⟩ | ⟨y, u, rfl, rfl⟩
      · rw [key_rl] at h; exact SeqAt.EqAt.str_int x t j u _ _ _ _ h
      · rw [key_rr] at h; exact wpAny_eqBool_str h
  «strs» := fun k x t v h => by
    rcases keyIs_shape h with ⟨i, u, rfl, e⟩ | ⟨y, u, rfl, e⟩
    · exact nomatch e
    · injection e with e1 _
      subst e1
      cases v <;> rfl

theorem mixKind_is (prog : Program) (w : World) (k : Key) (v : Value) : (mixKind prog w).is k v = keyIs k v := rfl
theorem mixKind_int (prog : Program) (w : World) (i : Int) (t : Tok) : (mixKind prog w).is (.inl i) (.int i t) = true := keyIs_int i t
theorem mixKind_str (prog : Program) (w : World) (x : Str) (t : Tok) : (mixKind prog w).is (.inr x) (.str x t) = true := keyIs_str x t
end L2

namespace L2
open PySem PySem.Spec PyProof.Rows

/-- a value, without the heap -/
inductive V where
  | non | bl (b : Bool) | int (i : Int) | str (x : Str) | byt (b : Array UInt8) | flt (b : UInt64) | ref (a : Addr) | ty (n : String)
  deriving DecidableEq

def RelV : V → Value → Prop
  | .non, u => u = Value.none
  | .bl b, u => u = Value.bool b
  | .int i, u => ∃ t, u = Value.int i t
  | .str x, u => ∃ t, u = Value.str x t
  | .byt b, u => ∃ t, u = Value.bytes b t
  | .flt b, u => ∃ t, u = Value.float b t
  | .ref a, u => u = Value.ref a
  | .ty n, u => u = Value.type n

abbrev Vals : List V → List Value → Prop := Paired RelV
theorem Vals.length {xs : List V} {us : List Value} (r : Vals xs us) : xs.length = us.length := Paired.length r
theorem Vals.get : ∀ {xs : List V} {us : List Value} {i : Nat} {x : V}, Vals xs us → xs[i]? = some x → ∃ u, us[i]? = some u ∧ RelV x u
  | _, _, _, _, .nil, e => by simp at e
  | _, _, 0, _, .cons r _, e => by simp at e; subst e; exact ⟨_, rfl, r⟩
  | _, _, i + 1, x, .cons _ t, e => by
    obtain ⟨u, h1, h2⟩ := Vals.get (i := i) (x := x) t (by simpa using e)
    exact ⟨u, by simpa using h1, h2⟩
theorem Vals.set {x : V} {u : Value} (r : RelV x u) : ∀ {xs : List V} {us : List Value} (i : Nat), Vals xs us → Vals (xs.set i x) (us.set i u)
  | _, _, _, .nil => .nil
  | _, _, 0, .cons _ t => .cons r t
  | _, _, i + 1, .cons q t => .cons q (Vals.set r i t)
theorem Vals.append : ∀ {xs ys : List V} {us ws : List Value}, Vals xs us → Vals ys ws → Vals (xs ++ ys) (us ++ ws)
  | _, _, _, _, .nil, s => s
  | _, _, _, _, .cons r t, s => .cons r (Vals.append t s)
theorem Vals.take : ∀ {xs : List V} {us : List Value} (n : Nat), Vals xs us → Vals (xs.take n) (us.take n)
  | _, _, 0, _ => .nil
  | _, _, _ + 1, .nil => .nil
  | _, _, n + 1, .cons r t => .cons r (Vals.take n t)
theorem Vals.drop : ∀ {xs : List V} {us : List Value} (n : Nat), Vals xs us → Vals (xs.drop n) (us.drop n)
  | _, _, 0, r => r
  | _, _, _ + 1, .nil => .nil
  | _, _, n + 1, .cons _ t => Vals.drop n t
theorem Vals.none_of : ∀ {xs : List V} {us : List Value} {i : Nat}, Vals xs us → xs[i]? = none → us[i]? = none := fun {xs us i} r e => by
  have h1 := r.length
  have h2 : xs.length ≤ i := List.getElem?_eq_none_iff.mp e
  exact List.getElem?_eq_none_iff.mpr (by omega)

def RelO : Option V → Option Value → Prop
  | some v, some u => RelV v u
  | none, none => True
  | _, _ => False
def KV {κ : Type} : List (κ × V) → List (κ × Value) → Prop := Paired fun (p : κ × V) (q : κ × Value) => p.1 = q.1 ∧ RelV p.2 q.2

/-- a key of a dict (00_mix): an int or a text -/
def kV : Key → V
  | .inl i => .int i
  | .inr x => .str x

/-- what stands at a tracked address -/
inductive HO where
  /-- a list -/
  | lst (xs : List V)
  /-- a tuple (never changes) -/
  | tup (xs : List V)
  /-- a dict whose keys are ints and texts; one whose keys are tuples of ints and texts (the empty one is both) -/
  | dK (kvs : List (Key × V)) | dT (kvs : List (List Key × V))
  /-- a set of ints: its members, its size -/
  | set (S : Int → Bool) (n : Nat)
  /-- an instance of the class at C, its dict at dx, its attributes -/
  | ins (C dx : Addr) (fs : List (Str × V))
  /-- the dict of the instance at x -/
  | own (x : Addr)
  /-- the dict of an exception -/
  | xd (fs : List (Str × V))
  /-- a bound method, f of x -/
  | met (f x : Addr)
  /-- a range object lo, lo + 1, .. below hi -/
  | rng (lo hi : Int)
  /-- a thing that is known to the object (the script; a dict while a loop walks it): read, never written while it is so -/
  | frz (o : Obj) (u : HO)
  /-- a code object's table -/
  | tbl (ps : Array Value)
  /-- any other thing, by what is true of its one object (a def of one's own: SetO a S n := HO.ext fun h => ..) -/
  | ext (φ : Heap → Prop)

abbrev Hp := Addr → Option HO
def upd (H : Hp) (a : Addr) (o : HO) : Hp := fun b => if b = a then some o else H b
theorem upd_same {H : Hp} {a : Addr} {o : HO} : upd H a o a = some o := by unfold upd; rw [if_pos rfl]
theorem upd_ne {H : Hp} {a b : Addr} {o : HO} (h : b ≠ a) : upd H a o b = H b := by unfold upd; rw [if_neg h]
theorem upd_upd {H : Hp} {a : Addr} {o u : HO} : upd (upd H a o) a u = upd H a u := by
  funext b; unfold upd; split <;> rfl
/-- two objects of different content stand apart -/
theorem ne_of {H : Hp} {a b : Addr} {o u : HO} (h : H a = some o) (h' : H b = some u) (d : o ≠ u) : a ≠ b := by
  intro e; subst e; rw [h] at h'; exact d (Option.some.inj h')
theorem ne_of_none {H : Hp} {a b : Addr} {o : HO} (h : H a = some o) (h' : H b = none) : a ≠ b := by
  intro e; subst e; rw [h] at h'; cases h'

section
variable (P : Program) (w : World)
def ObjOk (H : Hp) (h : Heap) (a : Addr) : HO → Prop
  | .lst xs => xs.length ≤ sizeLine ∧ ∃ (its : List Value) (n : Nat), Vals xs its ∧ h.get? a = some { cls := .type "list", data := .seq its.toArray n }
  | .tup xs => xs.length ≤ sizeLine ∧ ∃ its : List Value, Vals xs its ∧ IsTup h a its.toArray
  | .dK kvs => kvs.length ≤ sizeLine ∧ (a == sysModules) = false ∧ ∃ vs, KV kvs vs ∧ h.DictOf (mixKind P w) a vs
  | .dT kvs => kvs.length ≤ sizeLine ∧ (a == sysModules) = false ∧ ∃ xs : List (List Key × Addr × Value),
      Paired (fun (p : List Key × V) (q : List Key × Addr × Value) => p.1 = q.1 ∧ H q.2.1 = some (.tup (p.1.map kV)) ∧ RelV p.2 q.2.2) kvs xs ∧
      ∃ o es ep, h.get? a = some o ∧ o.ExactDict ∧ o.data = .dict es ep ∧ es.toList = xs.map (entryOfKey (tupleKind (mixKind P w))) ∧ (xs.map (·.1)).Nodup
  | .set S n => h.SetOf (intKind P w) a S n
  | .ins C dx fs => H dx = some (.own a) ∧ fs.length ≤ 1000 ∧ dx ≠ a ∧ h.get? a = some (PySem.W.instObj C dx) ∧
      ∃ mA, h.Ns1 dx mA ∧ (∀ f, RelO (fs.lookup f) (mA f)) ∧ PySem.Within mA (fs.map (·.1))
  | .own _ => ∃ o, h.get? a = some o
  | .xd fs => ∃ mA, h.Ns1 a mA ∧ ∀ f, RelO (fs.lookup f) (mA f)
  | .rng lo hi => ∃ t u v, h.get? a = some { cls := .type "range", data := .fields #[.int lo t, .int hi u, .int 1 v] }
  | .frz o u => h.get? a = some o ∧ ObjOk H h a u
  | .tbl ps => h.get? a = some { cls := .none, data := .fields ps }
  | .met f x => h.get? a = some (PySem.W.methodObj (.ref f) (.ref x))
  | .ext φ => φ h ∧ (∃ o, h.get? a = some o) ∧ ∀ h1 h2 : Heap, φ h1 → (∀ o, h1.get? a = some o → h2.get? a = some o) → φ h2
/-- the abstract heap is held -/
def HOk (H : Hp) (h : Heap) : Prop := ∀ a o, H a = some o → ObjOk P w H h a o
end

section
variable {P : Program} {w : World} {H H' : Hp} {h h' : Heap} {a : Addr} {o : HO}
theorem ObjOk.lt (x : ObjOk P w H h a o) : a < h.objs.size := by
  cases o with
  | lst xs => obtain ⟨_, _, _, _, e⟩ := x; exact Heap.lt_size e
  | tup xs => obtain ⟨_, _, _, p⟩ := x; exact p.lt
  | dK kvs => obtain ⟨_, _, _, _, o, _, _, e, _⟩ := x; exact Heap.lt_size e
  | dT kvs => obtain ⟨_, _, _, _, o, _, _, e, _⟩ := x; exact Heap.lt_size e
  | set S n => obtain ⟨o, _, _, _, e, _⟩ := x; exact Heap.lt_size e
  | ins C dx fs => obtain ⟨_, _, _, e, _⟩ := x; exact Heap.lt_size e
  | own y => obtain ⟨_, e⟩ := x; exact Heap.lt_size e
  | xd fs => obtain ⟨_, ⟨_, _, _, e, _⟩, _⟩ := x; exact Heap.lt_size e
  | rng lo hi => obtain ⟨_, _, _, e⟩ := x; exact Heap.lt_size e
  | frz ob u => obtain ⟨e, _⟩ := x; exact Heap.lt_size e
  | tbl ps => exact Heap.lt_size (show h.get? a = some _ from x)
  | met f y => exact Heap.lt_size (show h.get? a = some _ from x)
  | ext φ => obtain ⟨_, ⟨_, e⟩, _⟩ := x; exact Heap.lt_size e
theorem Paired.mapP {α β : Type} {F G : α → β → Prop} : ∀ {l₁ : List α} {l₂ : List β}, Paired F l₁ l₂ → (∀ a b, F a b → G a b) → Paired G l₁ l₂
  | _, _, .nil, _ => .nil
  | _, _, .cons r t, f => .cons (f _ _ r) (Paired.mapP t f)
theorem Paired.imp' {α β : Type} {F G : α → β → Prop} (f : ∀ a b, F a b → G a b) {l₁ : List α} {l₂ : List β} (r : Paired F l₁ l₂) : Paired G l₁ l₂ := Paired.mapP r f
/-- what an object's description leans on: its own object, its own dict, the tuples -/
theorem ObjOk.stay (x : ObjOk P w H h a o) (k : ∀ b u, (b = a ∨ H b = some (.own a)) → h.get? b = some u → h'.get? b = some u)
    (ho : ∀ b, H b = some (.own a) → H' b = some (.own a)) (ht : ∀ b xs, H b = some (.tup xs) → H' b = some (.tup xs)) : ObjOk P w H' h' a o := by
  induction o with
  | lst xs => obtain ⟨z, its, n, r, e⟩ := x; exact ⟨z, its, n, r, k _ _ (.inl rfl) e⟩
  | tup xs => obtain ⟨z, its, r, ob, e, c⟩ := x; exact ⟨z, its, r, ob, k _ _ (.inl rfl) e, c⟩
  | dK kvs => obtain ⟨z, y, vs, r, ob, es, ep, e, c⟩ := x; exact ⟨z, y, vs, r, ob, es, ep, k _ _ (.inl rfl) e, c⟩
  | dT kvs =>
    obtain ⟨z, y, xs, r, ob, es, ep, e, c⟩ := x
    exact ⟨z, y, xs, Paired.mapP r fun p q z => ⟨z.1, ht _ _ z.2.1, z.2.2⟩, ob, es, ep, k _ _ (.inl rfl) e, c⟩
  | set S n => obtain ⟨ob, es, ep, t, e, c⟩ := x; exact ⟨ob, es, ep, t, k _ _ (.inl rfl) e, c⟩
  | ins C dx fs =>
    obtain ⟨d, z, ne, e, mA, ⟨od, es, ep, e2, c⟩, r⟩ := x
    exact ⟨ho _ d, z, ne, k _ _ (.inl rfl) e, mA, ⟨od, es, ep, k _ _ (.inr d) e2, c⟩, r⟩
  | own y => obtain ⟨ob, e⟩ := x; exact ⟨ob, k _ _ (.inl rfl) e⟩
  | xd fs => obtain ⟨mA, ⟨od, es, ep, e, c⟩, r⟩ := x; exact ⟨mA, ⟨od, es, ep, k _ _ (.inl rfl) e, c⟩, r⟩
  | rng lo hi => obtain ⟨t, u, v, e⟩ := x; exact ⟨t, u, v, k _ _ (.inl rfl) e⟩
  | frz ob u ih => obtain ⟨e, q⟩ := x; exact ⟨k _ _ (.inl rfl) e, ih q⟩
  | tbl ps =>
    have e : h.get? a = some { cls := .none, data := .fields ps } := x
    show h'.get? a = some { cls := .none, data := .fields ps }
    exact k a _ (.inl rfl) e
  | met f y =>
    have e : h.get? a = some (PySem.W.methodObj (.ref f) (.ref y)) := x
    show h'.get? a = some (PySem.W.methodObj (.ref f) (.ref y))
    exact k a _ (.inl rfl) e
  | ext φ => obtain ⟨p, ⟨o, e⟩, st⟩ := x; exact ⟨st _ _ p fun o q => k _ _ (.inl rfl) q, ⟨o, k _ _ (.inl rfl) e⟩, st⟩
theorem HOk.lt (x : HOk P w H h) (e : H a = some o) : a < h.objs.size := (x a o e).lt
theorem HOk.fresh (x : HOk P w H h) (e : h.objs.size ≤ a) : H a = none := by
  cases q : H a with
  | none => rfl
  | some u => exact absurd (Nat.lt_of_lt_of_le (x.lt q) e) (Nat.lt_irrefl _)
/-- every object of the heap is kept -/
theorem HOk.kept (x : HOk P w H h) (k : ∀ b u, h.get? b = some u → h'.get? b = some u) : HOk P w H h' := fun a o e =>
  (x a o e).stay (fun b u _ q => k b u q) (fun _ q => q) fun _ _ q => q
/-- a new object is laid and tracked -/
theorem HOk.laid (x : HOk P w H h) (k : ∀ b u, h.get? b = some u → h'.get? b = some u) (hp : h.objs.size ≤ a) (new : ObjOk P w (upd H a o) h' a o) : HOk P w (upd H a o) h' := fun b u e => by
  have hn := x.fresh hp
  by_cases hb : b = a
  · subst hb; rw [upd_same] at e; cases e; exact new
  · rw [upd_ne hb] at e
    exact (x b u e).stay (fun c v _ q => k c v q) (fun c q => by rw [upd_ne (ne_of_none q hn)]; exact q) fun c xs q => by rw [upd_ne (ne_of_none q hn)]; exact q
end

/-- what may be read as u: it is u, or a known u -/
def Rd (H : Hp) (a : Addr) (u : HO) : Prop := H a = some u ∨ ∃ o, H a = some (.frz o u)
theorem Rd.of {H : Hp} {a : Addr} {u : HO} (h : H a = some u) : Rd H a u := .inl h
theorem Rd.ok {P : Program} {w : World} {H : Hp} {h : Heap} {a : Addr} {u : HO} (r : Rd H a u) (x : HOk P w H h) : ObjOk P w H h a u := by
  rcases r with r | ⟨o, r⟩
  · exact x a u r
  · obtain ⟨_, q⟩ := x a _ r
    exact q
/-- what may be written -/
def Mut : Option HO → Prop
  | some (.lst _) => True
  | some (.dK _) => True
  | some (.dT _) => True
  | some (.set _ _) => True
  | some (.ins _ _ _) => True
  | some (.ext _) => True
  | _ => False
section
variable {P : Program} {w : World} {H : Hp} {h h' : Heap} {x e : Addr} {o' : HO}
/-- the object at e is changed: x itself, or the dict of the instance x -/
theorem HOk.write (ok : HOk P w H h) (mu : Mut (H x)) (he : e = x ∨ H e = some (.own x)) (k : ∀ b u, b ≠ e → h.get? b = some u → h'.get? b = some u) (heo : ∃ u, h'.get? e = some u)
    (new : ObjOk P w (upd H x o') h' x o') : HOk P w (upd H x o') h' := fun b u q => by
  have nown : ∀ c y, H c = some (.own y) → c ≠ x := fun c y r z => by subst z; rw [r] at mu; exact mu
  have ntup : ∀ c xs, H c = some (.tup xs) → c ≠ x := fun c xs r z => by subst z; rw [r] at mu; exact mu
  by_cases hb : b = x
  · subst hb; rw [upd_same] at q; cases q; exact new
  · rw [upd_ne hb] at q
    by_cases hbe : b = e
    · have q' : H b = some (.own x) := by
        rcases he with z | z
        · exact absurd (hbe.trans z) hb
        · rw [hbe]; exact z
      rw [q] at q'; cases q'
      obtain ⟨v, hv⟩ := heo
      exact ⟨v, by rw [hbe]; exact hv⟩
    · refine (ok b u q).stay (fun c v hc r => k c v ?_ r) (fun c r => by rw [upd_ne (nown c b r)]; exact r) fun c xs r => by rw [upd_ne (ntup c xs r)]; exact r
      rcases hc with rfl | hc
      · exact hbe
      · rintro rfl
        rcases he with z | z
        · exact nown c b hc z
        · rw [hc] at z; cases z; exact hb rfl
end

/-! ### kept unless tracked; of the frames at fs (the callers') the slots may change (an exception that passes writes there); of the records at ex (iterators) nothing is said -/
structure Un (fs ex : List Addr) (H H' : Hp) (h h' : Heap) : Prop where
  keep : ∀ b o, h.get? b = some o → H b = none → b ∉ fs → b ∉ ex → h'.get? b = some o
  slot : ∀ b o, h.get? b = some o → H b = none → b ∈ fs → b ∉ ex → ∃ sl, h'.get? b = some { o with slots := sl }
  free : ∀ b o, h.get? b = some o → H b = none → b ∉ ex → H' b = none
  there : ∀ b o, h.get? b = some o → b ∉ ex → ∃ o', h'.get? b = some o'
  tups : ∀ b xs, H b = some (.tup xs) → H' b = some (.tup xs)
  frzs : ∀ b o u, H b = some (.frz o u) → H' b = some (.frz o u)
  tbls : ∀ b ps, H b = some (.tbl ps) → ∃ more, H' b = some (.tbl (ps ++ more))
section
variable {fs fs' ex ex' : List Addr} {H H1 H2 : Hp} {h h1 h2 h' : Heap} {a x e : Addr} {o : HO}
theorem Un.any (u : Un fs ex H H1 h h1) {b : Addr} {ob : Obj} (q : h.get? b = some ob) (n : H b = none) (hx : b ∉ ex) : ∃ sl, h1.get? b = some { ob with slots := sl } := by
  by_cases hb : b ∈ fs
  · exact u.slot b ob q n hb hx
  · exact ⟨ob.slots, u.keep b ob q n hb hx⟩
theorem Un.trans (a : Un fs ex H H1 h h1) (b : Un fs ex H1 H2 h1 h2) : Un fs ex H H2 h h2 where
  keep := fun c ob q n hc hx => b.keep c ob (a.keep c ob q n hc hx) (a.free c ob q n hx) hc hx
  slot := fun c ob q n hc hx => by
    obtain ⟨sl, e1⟩ := a.slot c ob q n hc hx
    obtain ⟨sl', e2⟩ := b.slot c _ e1 (a.free c ob q n hx) hc hx
    exact ⟨sl', e2⟩
  free := fun c ob q n hx => by
    obtain ⟨o', e1⟩ := a.there c ob q hx
    exact b.free c o' e1 (a.free c ob q n hx) hx
  there := fun c ob q hx => by
    obtain ⟨o', e1⟩ := a.there c ob q hx
    exact b.there c o' e1 hx
  tups := fun c xs q => b.tups c xs (a.tups c xs q)
  frzs := fun c ob xs q => b.frzs c ob xs (a.frzs c ob xs q)
  tbls := fun c ps q => by
    obtain ⟨m1, e1⟩ := a.tbls c ps q
    obtain ⟨m2, e2⟩ := b.tbls c _ e1
    exact ⟨m1 ++ m2, by rw [e2, Array.append_assoc]⟩
theorem Un.kept (k : ∀ b u, h.get? b = some u → h'.get? b = some u) : Un fs ex H H h h' :=
  ⟨fun b ob q _ _ _ => k b ob q, fun b ob q _ _ _ => ⟨ob.slots, k b ob q⟩, fun _ _ _ n _ => n, fun b ob q _ => ⟨ob, k b ob q⟩, fun _ _ q => q, fun _ _ _ q => q, fun _ ps q => ⟨#[], by rw [q]; simp⟩⟩
theorem Un.refl : Un fs ex H H h h := Un.kept fun _ _ q => q
theorem Un.laid (k : ∀ b u, h.get? b = some u → h'.get? b = some u) (hp : h.objs.size ≤ a) (hn : H a = none) : Un fs ex H (upd H a o) h h' where
  keep := fun b u q _ _ _ => k b u q
  slot := fun b u q _ _ _ => ⟨u.slots, k b u q⟩
  free := fun b u q n _ => by rw [upd_ne (Nat.ne_of_lt (Nat.lt_of_lt_of_le (Heap.lt_size q) hp))]; exact n
  there := fun b u q _ => ⟨u, k b u q⟩
  tups := fun b xs q => by rw [upd_ne (ne_of_none q hn)]; exact q
  frzs := fun b u xs q => by rw [upd_ne (ne_of_none q hn)]; exact q
  tbls := fun b ps q => ⟨#[], by rw [upd_ne (ne_of_none q hn), q]; simp⟩
theorem Un.write (mu : Mut (H x)) (he : e = x ∨ H e = some (.own x)) (k : ∀ b u, b ≠ e → h.get? b = some u → h'.get? b = some u) (heo : ∃ u, h'.get? e = some u) : Un fs ex H (upd H x o) h h' := by
  have hx : ∀ b, H b = none → b ≠ x := fun b n z => by subst z; rw [n] at mu; exact mu
  have hb : ∀ b, H b = none → b ≠ e := fun b n z => by
    subst z
    rcases he with r | r
    · exact hx b n r
    · rw [n] at r; cases r
  have hm : ∀ b u, H b = some u → ¬ Mut (some u) → b ≠ x := fun b u q nm z => by subst z; rw [q] at mu; exact nm mu
  refine ⟨fun b u q n _ _ => k b u (hb b n) q, fun b u q n _ _ => ⟨u.slots, k b u (hb b n) q⟩, fun b u q n _ => by rw [upd_ne (hx b n)]; exact n, fun b u q _ => ?_,
    fun b xs q => by rw [upd_ne (hm b _ q fun z => z)]; exact q, fun b u xs q => by rw [upd_ne (hm b _ q fun z => z)]; exact q, fun b ps q => ⟨#[], by rw [upd_ne (hm b _ q fun z => z), q]; simp⟩⟩
  by_cases hbe : b = e
  · subst hbe; exact heo
  · exact ⟨u, k b u hbe q⟩
theorem Un.mono (u : Un fs ex H H1 h h1) (hs : ∀ b ∈ fs, b ∈ fs') (hx : ∀ b ∈ ex, b ∈ ex') : Un fs' ex' H H1 h h1 :=
  ⟨fun b ob q n hb he => u.keep b ob q n (fun z => hb (hs b z)) fun z => he (hx b z), fun _ _ q n _ he => u.any q n fun z => he (hx _ z), fun b ob q n he => u.free b ob q n fun z => he (hx b z), fun b ob q he => u.there b ob q fun z => he (hx b z), u.tups, u.frzs, u.tbls⟩
end

/-! ### the heap without what is tracked -/
def trk (h : Heap) (H : Hp) : List Addr := (List.range h.objs.size).filter fun a => (H a).isSome
def hidT (h : Heap) (H : Hp) : Heap := PySem.W.hideAll h (trk h H)
theorem hidT_size (h : Heap) (H : Hp) : (hidT h H).objs.size = h.objs.size := PySem.W.hideAll_size _ _
theorem hidT_get {h : Heap} {H : Hp} {b : Addr} {o : Obj} (e : h.get? b = some o) (n : H b = none) : (hidT h H).get? b = some o :=
  PySem.W.hideAll_get _ e fun hm => by
    have q : (H b).isSome = true := (List.mem_filter.mp hm).2
    rw [n] at q; simp at q
theorem of_hidT {h : Heap} {H : Hp} {b : Addr} {o : Obj} (e : (hidT h H).get? b = some o) : h.get? b = some o ∧ H b = none := by
  have e' : h.get? b = some o := PySem.W.of_hideAll (trk h H) e
  refine ⟨e', ?_⟩
  cases q : H b with
  | none => rfl
  | some x =>
    have hm : b ∈ trk h H := List.mem_filter.mpr ⟨List.mem_range.mpr (Heap.lt_size e'), by simp [q]⟩
    have z : (hidT h H).get? b = none := PySem.W.hideAll_none (trk h H) hm
    rw [z] at e; cases e

/-! ### OpenK's ledger, filled with every new object but one -/
def allNews (g h : Heap) (L : Addr) : List (Addr × Obj) := (List.range h.objs.size).filterMap fun a => if a = L ∨ (g.get? a).isSome = true then none else (h.get? a).map fun o => (a, o)
theorem mem_allNews {g h : Heap} {L a : Addr} {o : Obj} (h1 : a ≠ L) (h2 : g.get? a = none) (h3 : h.get? a = some o) : (a, o) ∈ allNews g h L :=
  List.mem_filterMap.mpr ⟨a, List.mem_range.mpr (Heap.lt_size h3), by simp [h1, h2, h3]⟩
theorem of_mem_allNews {g h : Heap} {L : Addr} {p : Addr × Obj} (hp : p ∈ allNews g h L) : p.1 ≠ L ∧ g.get? p.1 = none ∧ h.get? p.1 = some p.2 := by
  obtain ⟨b, _, e⟩ := List.mem_filterMap.mp hp
  split at e
  · cases e
  · rename_i hn
    cases q : h.get? b with
    | none => rw [q] at e; simp at e
    | some u =>
      rw [q] at e
      simp only [Option.map_some, Option.some.injEq] at e
      subst e
      refine ⟨fun z => hn (.inl z), ?_, q⟩
      show g.get? b = none
      cases r : g.get? b with
      | none => rfl
      | some v => exact (hn (.inr (by simp [r]))).elim
def rest (g h : Heap) (L d : Addr) : List (Addr × Obj) := (allNews g h L).filter fun p => decide (p.1 ≠ d)
theorem rest_ne {g h : Heap} {L d : Addr} : ∀ p ∈ rest g h L d, p.1 ≠ d := fun p hp => of_decide_eq_true (List.mem_filter.mp hp).2
theorem mem_rest {g h : Heap} {L d a : Addr} {o : Obj} (h1 : a ≠ L) (h2 : g.get? a = none) (h3 : h.get? a = some o) (h4 : a ≠ d) : (a, o) ∈ rest g h L d :=
  List.mem_filter.mpr ⟨mem_allNews h1 h2 h3, decide_eq_true h4⟩
theorem news_all {g h : Heap} {L : Addr} : News g L h (allNews g h L) := fun p hp => let ⟨a, b, c⟩ := of_mem_allNews hp; ⟨c, a, b⟩
theorem news_at {g h : Heap} {L d : Addr} {o : Obj} (h1 : d ≠ L) (h2 : g.get? d = none) (h3 : h.get? d = some o) : News g L h ((d, o) :: rest g h L d) := fun p hp => by
  rcases List.mem_cons.mp hp with rfl | hp
  · exact ⟨h3, h1, h2⟩
  · exact news_all p (List.mem_filter.mp hp).1
/-- behind a rule that changed d alone: all else but the frame is kept -/
theorem kept_of_news {g h h' : Heap} {L d : Addr} {m : Str → Option Value} (k : ∀ b o, g.get? b = some o → h.get? b = some o) (F : Fr g L h' m) (N : News g L h' (rest g h L d)) :
    ∀ b o, b ≠ L → b ≠ d → h.get? b = some o → h'.get? b = some o := fun b o h1 h2 e => by
  cases q : g.get? b with
  | some u =>
    have := k b u q
    rw [e] at this; cases this
    exact F.keep b _ q
  | none => exact (N (b, o) (mem_rest h1 q e h2)).1
end L2

namespace L2
open PySem PySem.Spec PyProof.Rows

/-- the module's facts, over the base: the heap at the law's entry without what is tracked there -/
structure Mod (K : PySem.W.Frag) (mg : Str → Option Value) (base : Heap) : Prop where
  kin : K.In base
  glob : base.Ns mainGlobals mg
  blt : ∃ mb, base.Ns builtinsNs mb ∧ ∀ x : Str, x ≠ "__name__" → mb x = bootBuiltins x
  nolimit : base.NoLimit

/-- the context: a def's body (or a comprehension's block) running. base: fixed through the whole law; s₀, H₀: the entry; outer: the frames whose slots others may change (a def's callers); stack: all frames that run;
   ex: iterators that were made ahead of the entry and are walked here (a comprehension's); fn: the names whose cells were made at the entry (a def: all; a comprehension's block: its own); calm: not within an except suite; pn: pins that every state bears; xe: what is wanted of an exception that leaves the code -/
structure Cx where
  prog : Program
  w : World
  K : PySem.W.Frag
  mg : Str → Option Value
  base : Heap
  A : Around
  N : List Str
  s₀ : Shared
  H₀ : Hp
  env : Env
  outer : List Env
  stack : List Env
  ex : List Addr
  fn : Str → Bool
  calm : Bool
  pn : List (Addr × Obj)
  xe : Value → Shared → Prop
/-- the callers' frames -/
def frs (l : List Env) : List Addr := l.filterMap (·.frame)
abbrev Cx.fs (X : Cx) : List Addr := frs X.outer

def Vis (sc : Scope) (x : Str) : Prop := sc.names.lookup x = some .local ∨ sc.names.lookup x = some .cell ∨ sc.names.lookup x = some .free
def Loc (sc : Scope) (x : Str) : Prop := sc.names.lookup x = some .local ∨ sc.names.lookup x = some .cell
def Look (env : Env) (h : Heap) (m : Str → Option Value) (x : Str) (u : Value) : Prop :=
  (env.kindOf x = some .local ∧ m x = some u) ∨ ((env.kindOf x = some .cell ∨ env.kindOf x = some .free) ∧ ∃ c, env.cells.lookup x = some c ∧ h.IsCell c (some u))

structure Cx.Ok (X : Cx) : Prop where
  mod : Mod X.K X.mg X.base
  kind : X.env.scope.kind = .function
  glob : X.env.globals = mainGlobals
  blt : X.env.builtins = builtinsNs
  above : X.s₀.heap.objs.size ≤ X.env.locals
  inj : ∀ x y c, X.env.cells.lookup x = some c → X.env.cells.lookup y = some c → x = y
  has : ∀ x, (X.env.kindOf x = some .cell ∨ X.env.kindOf x = some .free) → ∃ c, X.env.cells.lookup x = some c
  cab : ∀ x c, X.fn x = true → X.env.cells.lookup x = some c → X.s₀.heap.objs.size ≤ c
  hd : X.calm = true → X.A.handled = none
  frames : X.A.frames = some X.stack
  stk : X.stack = X.outer ∨ (X.stack = X.env :: X.outer ∧ X.env.frame = some X.env.locals)
  exf : ∀ b ∈ X.ex, b ≠ X.env.locals ∧ ∀ x c, X.env.cells.lookup x = some c → c ≠ b
  bs : ∀ b o, X.base.get? b = some o → X.s₀.heap.get? b = some o ∧ X.H₀ b = none
  bsz : X.base.objs.size ≤ X.s₀.heap.objs.size
  noex : ∀ b o, X.base.get? b = some o → b ∉ X.ex
  exfs : ∀ b ∈ X.ex, b ∉ X.fs
  funs : X.s₀.heap.FunFrames X.base X.outer
  frf : ∀ b ∈ X.fs, X.H₀ b = none

structure Inv (X : Cx) (pins : List (Addr × Obj)) (σ : List (Option V)) (H : Hp) (s : Shared) : Prop where
  ok : X.Ok
  os : s.os = X.s₀.os
  bare : AllBare s.gens
  base : Un X.fs X.ex X.H₀ H X.s₀.heap s.heap
  loc : ∃ m, s.heap.Ns X.env.locals m ∧ ∀ (i : Nat) (x : Str) (v : V), X.N[i]? = some x → σ[i]? = some (some v) → Vis X.env.scope x → ∃ u, RelV v u ∧ Look X.env s.heap m x u
  cell : ∀ x c, X.env.cells.lookup x = some c → ∃ v, s.heap.IsCell c v
  free : H X.env.locals = none
  freeC : ∀ x c, X.env.cells.lookup x = some c → H c = none
  pin : ∀ p ∈ X.pn ++ pins, s.heap.get? p.1 = some p.2 ∧ H p.1 = none ∧ p.1 ≠ X.env.locals ∧ p.1 ∉ X.fs ∧ ∀ v, p.2.data ≠ .cell v
  hok : HOk X.prog X.w H s.heap
  len : σ.length = X.N.length

section
variable {X : Cx} {pins : List (Addr × Obj)} {σ : List (Option V)} {H H' : Hp} {s : Shared} {h' : Heap}

theorem Cx.Ok.nofr (ok : X.Ok) {b : Addr} {o : Obj} (e : X.base.get? b = some o) : b ∉ X.fs := fun hb => by
  have := (ok.funs.mem hb).1
  rw [e] at this; cases this
theorem Inv.bs (I : Inv X pins σ H s) : ∀ b o, X.base.get? b = some o → s.heap.get? b = some o ∧ H b = none := fun b o e =>
  ⟨I.base.keep b o (I.ok.bs b o e).1 (I.ok.bs b o e).2 (I.ok.nofr e) (I.ok.noex b o e), I.base.free b o (I.ok.bs b o e).1 (I.ok.bs b o e).2 (I.ok.noex b o e)⟩
theorem Inv.bk (I : Inv X pins σ H s) : ∀ b o, X.base.get? b = some o → s.heap.get? b = some o := fun b o e => (I.bs b o e).1
theorem Inv.mod (I : Inv X pins σ H s) : Mod X.K X.mg X.base := I.ok.mod
theorem Inv.kIn (I : Inv X pins σ H s) : X.K.In s.heap := I.ok.mod.kin.keeps I.bk
theorem Inv.nolimit (I : Inv X pins σ H s) : s.heap.NoLimit := I.ok.mod.nolimit.keeps I.bk
/-- the frame over the base: for OpenK's rules (K.In X.base is I.mod.kin) -/
theorem Inv.fr (I : Inv X pins σ H s) : ∃ m, Fr X.base X.env.locals s.heap m :=
  let ⟨m, hn, _⟩ := I.loc
  ⟨m, hn, I.bk, Nat.le_trans I.ok.bsz I.ok.above⟩
theorem Inv.lt (I : Inv X pins σ H s) : X.env.locals < s.heap.objs.size := let ⟨_, hn, _⟩ := I.loc; hn.lt
theorem Inv.sz (I : Inv X pins σ H s) : X.s₀.heap.objs.size ≤ s.heap.objs.size := Nat.le_trans I.ok.above (Nat.le_of_lt I.lt)
theorem Inv.nofs (I : Inv X pins σ H s) {a : Addr} (h : s.heap.objs.size ≤ a) : a ∉ X.fs := fun hb => by
  obtain ⟨_, o, ho, _⟩ := I.ok.funs.mem hb
  exact absurd (Nat.lt_of_lt_of_le (Heap.lt_size ho) (Nat.le_trans I.sz h)) (Nat.lt_irrefl _)
theorem Inv.cne (I : Inv X pins σ H s) : ∀ x c, X.env.cells.lookup x = some c → c ≠ X.env.locals := fun x c e z => by
  obtain ⟨v, o, ho, hd⟩ := I.cell x c e
  obtain ⟨m, ⟨o', es, ep, ho', hd', _⟩, _⟩ := I.loc
  rw [z, ho'] at ho; cases ho; rw [hd'] at hd; cases hd
theorem Inv.funs (I : Inv X pins σ H s) : s.heap.FunFrames X.base X.outer := by
  have all : ∀ (l : List Env), (∀ b ∈ frs l, b ∈ X.fs) → X.s₀.heap.FunFrames X.base l → s.heap.FunFrames X.base l := by
    intro l
    induction l with
    | nil => intro _ _; trivial
    | cons env r ih =>
      intro hs hl
      obtain ⟨hk, ⟨L, o, hf, hn, ho, hd⟩, hr⟩ := hl
      have hL : L ∈ X.fs := hs L (by unfold frs; rw [List.filterMap_cons, hf]; exact List.mem_cons_self)
      obtain ⟨sl, e⟩ := I.base.slot L o ho (I.ok.frf L hL) hL fun z => I.ok.exfs L z hL
      exact ⟨hk, ⟨L, _, hf, hn, e, hd⟩, ih (fun b hb => hs b (by unfold frs; rw [List.filterMap_cons, hf]; exact List.mem_cons_of_mem _ hb)) hr⟩
  exact all X.outer (fun _ hb => hb) I.ok.funs

/-- the frames that run, for a call -/
theorem Inv.stack (I : Inv X pins σ H s) : s.heap.FunFrames X.base X.stack := by
  rcases I.ok.stk with e | ⟨e, hf⟩
  · rw [e]; exact I.funs
  · rw [e]
    obtain ⟨m, hn, _⟩ := I.loc
    refine .cons (by rw [I.ok.kind]; decide) hf hn ?_ I.funs
    exact Heap.get?_none_of_le (Nat.le_trans I.ok.bsz I.ok.above)
theorem Inv.stkSub (I : Inv X pins σ H s) : ∀ b ∈ frs X.stack, b ∈ X.env.locals :: X.fs := fun b hb => by
  rcases I.ok.stk with e | ⟨e, hf⟩
  · rw [e] at hb; exact List.mem_cons_of_mem _ hb
  · rw [e] at hb
    unfold frs at hb
    rw [List.filterMap_cons, hf] at hb
    exact hb
theorem Inv.stkFree (I : Inv X pins σ H s) : ∀ b ∈ frs X.stack, H b = none := fun b hb => by
  rcases List.mem_cons.mp (I.stkSub b hb) with e | hb
  · rw [e]; exact I.free
  · obtain ⟨_, o, ho, _⟩ := I.ok.funs.mem hb
    exact I.base.free b o ho (I.ok.frf b hb) fun z => I.ok.exfs b z hb

/-- THE STEP: the untracked objects but the frame and the records at ch are kept (the callers' frames up to slots), the frame's map is kept, the new abstract heap is held -/
theorem Inv.step {g' : Array GenState} {t' : Nat} {d' : Drawn} {ch : List Addr} (I : Inv X pins σ H s)
    (hch : ∀ b ∈ ch, (b ∈ X.ex ∨ X.s₀.heap.objs.size ≤ b) ∧ b ≠ X.env.locals ∧ (∀ x c, X.env.cells.lookup x = some c → c ≠ b) ∧ ∀ p ∈ X.pn ++ pins, p.1 ≠ b)
    (keep : ∀ b o, b ≠ X.env.locals → b ∉ X.fs → b ∉ ch → s.heap.get? b = some o → H b = none → h'.get? b = some o)
    (slot : ∀ b o, b ≠ X.env.locals → b ∈ X.fs → b ∉ ch → s.heap.get? b = some o → H b = none → ∃ sl, h'.get? b = some { o with slots := sl }) (free : ∀ b o, b ∉ ch → s.heap.get? b = some o → H b = none → H' b = none)
    (there : ∀ b o, b ∉ ch → s.heap.get? b = some o → ∃ o', h'.get? b = some o')
    (tups : ∀ b xs, H b = some (.tup xs) → H' b = some (.tup xs)) (frzs : ∀ b o u, H b = some (.frz o u) → H' b = some (.frz o u)) (tbls : ∀ b ps, H b = some (.tbl ps) → ∃ more, H' b = some (.tbl (ps ++ more)))
    (ns : ∀ m, s.heap.Ns X.env.locals m → h'.Ns X.env.locals m) (hok : HOk X.prog X.w H' h') (hg : AllBare g') :
    Inv X pins σ H' { s with heap := h', gens := g', drawn := d', toks := t' } := by
  have neL : ∀ b o, X.s₀.heap.get? b = some o → b ≠ X.env.locals := fun b o e => Nat.ne_of_lt (Nat.lt_of_lt_of_le (Heap.lt_size e) I.ok.above)
  have neC : ∀ b o, X.s₀.heap.get? b = some o → b ∉ X.ex → b ∉ ch := fun b o e hx hb => by
    rcases (hch b hb).1 with z | z
    · exact hx z
    · exact absurd (Nat.lt_of_lt_of_le (Heap.lt_size e) z) (Nat.lt_irrefl _)
  have cellK : ∀ x c, X.env.cells.lookup x = some c → ∀ v, s.heap.IsCell c v → h'.IsCell c v := fun x c e v ⟨o, ho, hd⟩ => by
    have nch : c ∉ ch := fun z => (hch c z).2.2.1 x c e rfl
    by_cases hc : c ∈ X.fs
    · obtain ⟨sl, q⟩ := slot c o (I.cne x c e) hc nch ho (I.freeC x c e)
      exact ⟨_, q, hd⟩
    · exact ⟨o, keep c o (I.cne x c e) hc nch ho (I.freeC x c e), hd⟩
  refine ⟨I.ok, I.os, hg, ⟨fun b o e n hb hx => ?_, fun b o e n hb hx => ?_, fun b o e n hx => ?_, fun b o e hx => ?_, fun b xs e => tups b xs (I.base.tups b xs e), fun b o xs e => frzs b o xs (I.base.frzs b o xs e), fun b ps e => ?_⟩, ?_, fun x c e => ?_, ?_, fun x c e => ?_, fun p hp => ?_, hok, I.len⟩
  · exact keep b o (neL b o e) hb (neC b o e hx) (I.base.keep b o e n hb hx) (I.base.free b o e n hx)
  · obtain ⟨sl, e1⟩ := I.base.slot b o e n hb hx
    obtain ⟨sl', e2⟩ := slot b _ (neL b o e) hb (neC b o e hx) e1 (I.base.free b o e n hx)
    exact ⟨sl', e2⟩
  · obtain ⟨o', e1⟩ := I.base.there b o e hx
    exact free b o' (neC b o e hx) e1 (I.base.free b o e n hx)
  · obtain ⟨o', e1⟩ := I.base.there b o e hx
    exact there b o' (neC b o e hx) e1
  · obtain ⟨m1, e1⟩ := I.base.tbls b ps e
    obtain ⟨m2, e2⟩ := tbls b _ e1
    exact ⟨m1 ++ m2, by rw [e2, Array.append_assoc]⟩
  · obtain ⟨m, hn, hl⟩ := I.loc
    refine ⟨m, ns m hn, fun i x v e1 e2 e3 => ?_⟩
    obtain ⟨u, r, l⟩ := hl i x v e1 e2 e3
    refine ⟨u, r, ?_⟩
    rcases l with l | ⟨k, c, e, z⟩
    · exact .inl l
    · exact .inr ⟨k, c, e, cellK x c e _ z⟩
  · obtain ⟨v, z⟩ := I.cell x c e
    exact ⟨v, cellK x c e v z⟩
  · obtain ⟨m, ⟨o, _, _, ho, _⟩, _⟩ := I.loc
    exact free _ o (fun z => (hch _ z).2.1 rfl) ho I.free
  · obtain ⟨v, o, ho, hd⟩ := I.cell x c e
    exact free c o (fun z => (hch c z).2.2.1 x c e rfl) ho (I.freeC x c e)
  · obtain ⟨e, n, ne, nf, d⟩ := I.pin p hp
    have nch : p.1 ∉ ch := fun z => (hch p.1 z).2.2.2 p hp rfl
    exact ⟨keep p.1 p.2 ne nf nch e n, free p.1 p.2 nch e n, ne, nf, d⟩
/-- .. where the frame's own object is kept too -/
theorem Inv.un {t' : Nat} (I : Inv X pins σ H s) (u : Un X.fs [] H H' s.heap h') (hok : HOk X.prog X.w H' h') : Inv X pins σ H' { s with heap := h', toks := t' } := by
  obtain ⟨m, ⟨o, es, ep, ho, r⟩, _⟩ := id I.loc
  obtain ⟨sl, hL⟩ := u.any ho I.free (by simp)
  exact I.step (g' := s.gens) (d' := s.drawn) (ch := []) (fun _ z => nomatch z) (fun b o _ hb _ e n => u.keep b o e n hb (by simp)) (fun b o _ hb _ e n => u.slot b o e n hb (by simp)) (fun b o _ e n => u.free b o e n (by simp)) (fun b o _ e => u.there b o e (by simp)) u.tups u.frzs u.tbls (fun m' hm => by
    obtain ⟨o', es', ep', ho', r'⟩ := hm
    rw [ho] at ho'; cases ho'
    exact ⟨_, es', ep', hL, r'⟩) hok I.bare
/-- behind a call (or a comprehension's block): the slots of this frame may have changed too, the records at ch may have turned -/
theorem Inv.call {g' : Array GenState} {t' : Nat} {d' : Drawn} {ch : List Addr} (I : Inv X pins σ H s) (u : Un (frs X.stack) ch H H' s.heap h') (hok : HOk X.prog X.w H' h') (hg : AllBare g')
    (hch : ∀ b ∈ ch, (b ∈ X.ex ∨ X.s₀.heap.objs.size ≤ b) ∧ b ≠ X.env.locals ∧ (∀ x c, X.env.cells.lookup x = some c → c ≠ b) ∧ ∀ p ∈ X.pn ++ pins, p.1 ≠ b) :
    Inv X pins σ H' { s with heap := h', gens := g', drawn := d', toks := t' } := by
  obtain ⟨m, ⟨o, es, ep, ho, r⟩, _⟩ := id I.loc
  obtain ⟨sl, hL⟩ := u.any ho I.free fun z => (hch _ z).2.1 rfl
  exact I.step (ch := ch) hch (fun b o hL hb hc e n => u.keep b o e n (fun z => (List.mem_cons.mp (I.stkSub b z)).elim hL hb) hc) (fun b o _ _ hc e n => u.any e n hc) (fun b o hc e n => u.free b o e n hc) (fun b o hc e => u.there b o e hc) u.tups u.frzs u.tbls (fun m' hm => by
    obtain ⟨o', es', ep', ho', r'⟩ := hm
    rw [ho] at ho'; cases ho'
    exact ⟨_, es', ep', hL, r'⟩) hok hg
/-- an untracked record of ours (an iterator) has turned -/
theorem Inv.turned {t' : Nat} {it : Addr} (I : Inv X pins σ H s) (k : ∀ b o, b ≠ it → s.heap.get? b = some o → h'.get? b = some o) (hn : H it = none) (hL : it ≠ X.env.locals)
    (h1 : it ∈ X.ex ∨ X.s₀.heap.objs.size ≤ it) (h2 : ∀ x c, X.env.cells.lookup x = some c → c ≠ it) (h3 : ∀ p ∈ X.pn ++ pins, p.1 ≠ it) : Inv X pins σ H { s with heap := h', toks := t' } := by
  have nit : ∀ b u, H b = some u → b ≠ it := fun b u e z => by rw [z, hn] at e; cases e
  refine I.step (g' := s.gens) (d' := s.drawn) (ch := [it]) (fun b hb => ?_) (fun b o _ _ hc e _ => k b o (fun z => hc (by simp [z])) e) (fun b o _ _ hc e _ => ⟨o.slots, k b o (fun z => hc (by simp [z])) e⟩) (fun _ _ _ _ n => n)
    (fun b o hc e => ⟨o, k b o (fun z => hc (by simp [z])) e⟩) (fun _ _ e => e) (fun _ _ _ e => e) (fun b ps e => ⟨#[], by rw [e]; simp⟩) (fun m hm => ?_) (fun b u e => ?_) I.bare
  · have e : b = it := by simpa using hb
    subst e
    exact ⟨h1, hL, h2, h3⟩
  · obtain ⟨o, es, ep, ho, r⟩ := hm
    exact ⟨o, es, ep, k _ o (Ne.symm hL) ho, r⟩
  · refine (I.hok b u e).stay (fun c v hc q => k c v ?_ q) (fun _ q => q) fun _ _ q => q
    rcases hc with z | z
    · rw [z]; exact nit b u e
    · exact nit c _ z
theorem Inv.tok (I : Inv X pins σ H s) (t : Nat) : Inv X pins σ H { s with toks := t } := I.un (h' := s.heap) (t' := t) Un.refl I.hok
/-- all objects kept -/
theorem Inv.kept {t' : Nat} (I : Inv X pins σ H s) (k : ∀ b u, s.heap.get? b = some u → h'.get? b = some u) : Inv X pins σ H { s with heap := h', toks := t' } := I.un (Un.kept k) (I.hok.kept k)
/-- a new object laid and tracked -/
theorem Inv.laid {a : Addr} {o : HO} {t' : Nat} (I : Inv X pins σ H s) (k : ∀ b u, s.heap.get? b = some u → h'.get? b = some u) (hp : s.heap.objs.size ≤ a) (new : ObjOk X.prog X.w (upd H a o) h' a o) :
    Inv X pins σ (upd H a o) { s with heap := h', toks := t' } := I.un (Un.laid k hp (I.hok.fresh hp)) (I.hok.laid k hp new)
/-- an object written -/
theorem Inv.write {x e : Addr} {o : HO} {t' : Nat} (I : Inv X pins σ H s) (mu : Mut (H x)) (he : e = x ∨ H e = some (.own x)) (k : ∀ b u, b ≠ e → s.heap.get? b = some u → h'.get? b = some u) (heo : ∃ u, h'.get? e = some u)
    (new : ObjOk X.prog X.w (upd H x o) h' x o) : Inv X pins σ (upd H x o) { s with heap := h', toks := t' } := I.un (Un.write mu he k heo) (I.hok.write mu he k heo new)
/-- forgetting slots, pins -/
theorem Inv.weak {σ' : List (Option V)} (I : Inv X pins σ H s) (hl : σ'.length = σ.length) (w : ∀ (i : Nat) v, σ'[i]? = some (some v) → σ[i]? = some (some v)) : Inv X pins σ' H s :=
  ⟨I.ok, I.os, I.bare, I.base, let ⟨m, hn, hl'⟩ := I.loc; ⟨m, hn, fun i x v e1 e2 e3 => hl' i x v e1 (w i v e2) e3⟩, I.cell, I.free, I.freeC, I.pin, I.hok, hl.trans I.len⟩
theorem Inv.pins_of {pins' : List (Addr × Obj)} (I : Inv X pins σ H s) (h : ∀ p ∈ pins', s.heap.get? p.1 = some p.2 ∧ H p.1 = none ∧ p.1 ≠ X.env.locals ∧ p.1 ∉ X.fs ∧ ∀ v, p.2.data ≠ .cell v) : Inv X pins' σ H s :=
  ⟨I.ok, I.os, I.bare, I.base, I.loc, I.cell, I.free, I.freeC, fun p hp => (List.mem_append.mp hp).elim (fun z => I.pin p (List.mem_append_left _ z)) (h p), I.hok, I.len⟩

theorem nodup_ix {N : List Str} (hN : N.Nodup) {i j : Nat} {x : Str} (a : N[i]? = some x) (b : N[j]? = some x) : i = j := by
  obtain ⟨h1, e1⟩ := List.getElem?_eq_some_iff.mp a
  obtain ⟨h2, e2⟩ := List.getElem?_eq_some_iff.mp b
  exact (List.getElem_inj hN).mp (e1.trans e2.symm)

/-- a name is stored; what changed -/
theorem store_ok2 {M : Model} {A : Around} {E : Value → Shared → Prop} {i : Nat} {x : Str} {v : V} {u : Value} {Q : Unit → Shared → Prop} (I : Inv X pins σ H s) (hN : X.N.Nodup) (hi : X.N[i]? = some x) (hx : Loc X.env.scope x) (r : RelV v u)
    (h : ∀ s', Inv X pins (σ.set i (some v)) H s' → (∃ a, Heap.SameBut a s.heap s'.heap ∧ (a = X.env.locals ∨ X.env.cells.lookup x = some a)) → Q () s') (hf : X.fn x = true ∨ X.env.scope.names.lookup x = some .local := by first | exact .inl rfl | exact .inr rfl | assumption) : wpAny M A (storeName X.env x u) Q E s := by
  obtain ⟨m, hn, hl⟩ := id I.loc
  have hcls : (X.env.scope.kind == .class || (X.env.scope.kind == .module && X.env.locals != X.env.globals)) = false := by rw [I.ok.kind]; rfl
  have hiσ : i < σ.length := by rw [I.len]; exact (List.getElem?_eq_some_iff.mp hi).1
  have cne := I.cne
  have tracked : ∀ {a : Addr} {h' : Heap}, (∃ o, s.heap.get? a = some o ∧ H a = none) → Heap.SameBut a s.heap h' → HOk X.prog X.w H h' := fun {a h'} ha hs b ob e => by
    obtain ⟨_, _, hfree⟩ := ha
    refine (I.hok b ob e).stay (fun c w' hc q => (hs.2 c ?_).trans q) (fun _ q => q) fun _ _ q => q
    rintro rfl
    rcases hc with rfl | hc
    · rw [hfree] at e; cases e
    · rw [hfree] at hc; cases hc
  rcases hx with hk | hk
  · refine wpAny_storeName_local hk hn (fun h' hn' hs => ?_) hcls
    obtain ⟨oL, _, _, hoL, _⟩ := id hn
    refine h _ ⟨I.ok, I.os, I.bare, ⟨fun b o e n hb hx => ?_, fun b o e n hb hx => ?_, I.base.free, fun b o e hx => ?_, I.base.tups, I.base.frzs, I.base.tbls⟩, ⟨_, hn', fun j y v' e1 e2 e3 => ?_⟩, fun y c e => ?_, I.free, I.freeC, fun p hp => ?_, tracked ⟨oL, hoL, I.free⟩ hs, by simpa using I.len⟩ ⟨_, hs, .inl rfl⟩
    · exact (hs.2 b (Nat.ne_of_lt (Nat.lt_of_lt_of_le (Heap.lt_size e) I.ok.above))).trans (I.base.keep b o e n hb hx)
    · obtain ⟨sl, e1⟩ := I.base.slot b o e n hb hx
      exact ⟨sl, (hs.2 b (Nat.ne_of_lt (Nat.lt_of_lt_of_le (Heap.lt_size e) I.ok.above))).trans e1⟩
    · obtain ⟨o', e1⟩ := I.base.there b o e hx
      exact ⟨o', (hs.2 b (Nat.ne_of_lt (Nat.lt_of_lt_of_le (Heap.lt_size e) I.ok.above))).trans e1⟩
    · by_cases hj : j = i
      · subst hj
        rw [hi] at e1; cases e1
        rw [List.getElem?_set_self hiσ] at e2
        cases e2
        exact ⟨u, r, .inl ⟨hk, by simp⟩⟩
      · rw [List.getElem?_set_ne (Ne.symm hj)] at e2
        obtain ⟨u', r', q⟩ := hl j y v' e1 e2 e3
        refine ⟨u', r', ?_⟩
        rcases q with ⟨k, e⟩ | ⟨k, c, e, z⟩
        · refine .inl ⟨k, ?_⟩
          have : y ≠ x := fun e => hj (nodup_ix hN e1 (e ▸ hi))
          simp [this, e]
        · exact .inr ⟨k, c, e, z.sameBut hs (cne y c e)⟩
    · obtain ⟨w', z⟩ := I.cell y c e
      exact ⟨w', z.sameBut hs (cne y c e)⟩
    · obtain ⟨e, n, ne, nf, d⟩ := I.pin p hp
      exact ⟨(hs.2 p.1 ne).trans e, n, ne, nf, d⟩
  · have hfn : X.fn x = true := by
      rcases hf with z | z
      · exact z
      · rw [z] at hk; cases hk
    obtain ⟨c, hc⟩ := I.ok.has x (.inl hk)
    obtain ⟨w', z⟩ := I.cell x c hc
    refine wpAny_storeName_cell I.ok.kind hk hc z (fun h' hc' hs => ?_)
    obtain ⟨oc, hoc, hocd⟩ := id z
    refine h { s with heap := h' } ⟨I.ok, I.os, I.bare, ⟨fun b o e n hb hx => ?_, fun b o e n hb hx => ?_, I.base.free, fun b o e hx => ?_, I.base.tups, I.base.frzs, I.base.tbls⟩, ⟨m, hn.sameBut hs (Ne.symm (cne x c hc)), fun j y v' e1 e2 e3 => ?_⟩, fun y c' e => ?_, I.free, I.freeC, fun p hp => ?_, tracked ⟨oc, hoc, I.freeC x c hc⟩ hs, by simpa using I.len⟩ ⟨c, hs, .inr hc⟩
    · exact (hs.2 b (Nat.ne_of_lt (Nat.lt_of_lt_of_le (Heap.lt_size e) (I.ok.cab x c hfn hc)))).trans (I.base.keep b o e n hb hx)
    · obtain ⟨sl, e1⟩ := I.base.slot b o e n hb hx
      exact ⟨sl, (hs.2 b (Nat.ne_of_lt (Nat.lt_of_lt_of_le (Heap.lt_size e) (I.ok.cab x c hfn hc)))).trans e1⟩
    · obtain ⟨o', e1⟩ := I.base.there b o e hx
      exact ⟨o', (hs.2 b (Nat.ne_of_lt (Nat.lt_of_lt_of_le (Heap.lt_size e) (I.ok.cab x c hfn hc)))).trans e1⟩
    · by_cases hj : j = i
      · subst hj
        rw [hi] at e1; cases e1
        rw [List.getElem?_set_self hiσ] at e2
        cases e2
        exact ⟨u, r, .inr ⟨.inl hk, c, hc, hc'⟩⟩
      · rw [List.getElem?_set_ne (Ne.symm hj)] at e2
        obtain ⟨u', r', q⟩ := hl j y v' e1 e2 e3
        refine ⟨u', r', ?_⟩
        rcases q with q | ⟨k, c', e, z'⟩
        · exact .inl q
        · refine .inr ⟨k, c', e, z'.sameBut hs ?_⟩
          rintro rfl
          exact hj (nodup_ix hN e1 (I.ok.inj _ _ _ e hc ▸ hi))
    · by_cases hcc : c' = c
      · subst hcc; exact ⟨_, hc'⟩
      · obtain ⟨w2, z2⟩ := I.cell y c' e
        exact ⟨w2, z2.sameBut hs hcc⟩
    · obtain ⟨e, n, ne, nf, d⟩ := I.pin p hp
      refine ⟨(hs.2 p.1 ?_).trans e, n, ne, nf, d⟩
      intro q
      rw [q, hoc] at e
      have q' : oc = p.2 := Option.some.inj e
      exact d w' (by rw [← q']; exact hocd)
theorem store_ok {M : Model} {A : Around} {E : Value → Shared → Prop} {i : Nat} {x : Str} {v : V} {u : Value} {Q : Unit → Shared → Prop} (I : Inv X pins σ H s) (hN : X.N.Nodup) (hi : X.N[i]? = some x) (hx : Loc X.env.scope x) (r : RelV v u)
    (h : ∀ s', Inv X pins (σ.set i (some v)) H s' → Q () s') (hf : X.fn x = true ∨ X.env.scope.names.lookup x = some .local := by first | exact .inl rfl | exact .inr rfl | assumption) : wpAny M A (storeName X.env x u) Q E s :=
  store_ok2 I hN hi hx r (fun s' I' _ => h s' I') hf
/-- behind a call or a block, the state as it is -/
theorem Inv.call' {s' : Shared} {ch : List Addr} (I : Inv X pins σ H s) (ho : s'.os = s.os) (u : Un (frs X.stack) ch H H' s.heap s'.heap) (hok : HOk X.prog X.w H' s'.heap) (hg : AllBare s'.gens)
    (hch : ∀ b ∈ ch, (b ∈ X.ex ∨ X.s₀.heap.objs.size ≤ b) ∧ b ≠ X.env.locals ∧ (∀ x c, X.env.cells.lookup x = some c → c ≠ b) ∧ ∀ p ∈ X.pn ++ pins, p.1 ≠ b) : Inv X pins σ H' s' := by
  obtain ⟨h', g', d', t', o'⟩ := s'
  have e : o' = s.os := ho
  subst e
  exact I.call (g' := g') (t' := t') (d' := d') u hok hg hch
end

/-! ### the judgements -/
/-- an exception: its class, its own dict's address (where it has one), the abstract heap behind it -/
abbrev XK := Value → Option Addr → Hp → Prop
abbrev St := List (Option V)
abbrev VK := V → Hp → Prop
/-- an expression's reading; a test's; an argument list's -/
abbrev TE := St → Hp → VK → Prop
abbrev TT := St → Hp → (Bool → Hp → Prop) → Prop
abbrev TA := St → Hp → (List V → Hp → Prop) → Prop
/-- what is wanted behind a statement -/
structure Ends where
  nx : St → Hp → Prop
  rt : VK
  bk : St → Hp → Prop := fun _ _ => False
  ct : St → Hp → Prop := fun _ _ => False
abbrev TS := Ends → St → Hp → Prop

def EP (X : Cx) (pins : List (Addr × Obj)) (σ : St) (Q : VK) (u : Value) (s' : Shared) : Prop := ∃ v H', Inv X pins σ H' s' ∧ RelV v u ∧ Q v H'
def TP (X : Cx) (pins : List (Addr × Obj)) (σ : St) (Q : Bool → Hp → Prop) (b : Bool) (s' : Shared) : Prop := ∃ H', Inv X pins σ H' s' ∧ Q b H'
def AP (X : Cx) (pins : List (Addr × Obj)) (σ : St) (Q : List V → Hp → Prop) (us : List Value) (s' : Shared) : Prop := ∃ vs H', Inv X pins σ H' s' ∧ Vals vs us ∧ Q vs H'
def SP (X : Cx) (pins : List (Addr × Obj)) (D : Ends) (f : Flow) (s' : Shared) : Prop :=
  match f with
  | .next => ∃ σ' H', Inv X pins σ' H' s' ∧ D.nx σ' H'
  | .brk => ∃ σ' H', Inv X pins σ' H' s' ∧ D.bk σ' H'
  | .cont => ∃ σ' H', Inv X pins σ' H' s' ∧ D.ct σ' H'
  | .ret u => ∃ v σ' H', Inv X pins σ' H' s' ∧ RelV v u ∧ D.rt v H'

def PE (X : Cx) (e : Expr) (t : TE) : Prop :=
  ∀ (pins : List (Addr × Obj)) (s : Shared) (σ : St) (H : Hp) (Q : VK), Inv X pins σ H s → t σ H Q → wpAny (model X.prog X.w) X.A (eval e X.env) (EP X pins σ Q) X.xe s
def PT (X : Cx) (e : Expr) (t : TT) : Prop :=
  ∀ (pins : List (Addr × Obj)) (s : Shared) (σ : St) (H : Hp) (Q : Bool → Hp → Prop), Inv X pins σ H s → t σ H Q → wpAny (model X.prog X.w) X.A (isTrue e X.env (eval e X.env)) (TP X pins σ Q) X.xe s
/-- a test whatever its 'whole' is (and, or) -/
def PW (X : Cx) (e : Expr) (t : TT) : Prop :=
  ∀ (whole : Sem Value) (pins : List (Addr × Obj)) (s : Shared) (σ : St) (H : Hp) (Q : Bool → Hp → Prop), Inv X pins σ H s → t σ H Q → wpAny (model X.prog X.w) X.A (isTrue e X.env whole) (TP X pins σ Q) X.xe s
theorem PW.pt {X : Cx} {e : Expr} {t : TT} (h : PW X e t) : PT X e t := h _
/-- an argument list (no star), from the left -/
def PA (X : Cx) (es : List Expr) (t : TA) : Prop :=
  ∀ (pos : Pos) (pins : List (Addr × Obj)) (s : Shared) (σ : St) (H : Hp) (Q : List V → Hp → Prop), Inv X pins σ H s → t σ H Q → wpAny (model X.prog X.w) X.A (spliced (backTo pos (starEach es X.env))) (AP X pins σ Q) X.xe s
def PS (X : Cx) (st : Stmt) (t : TS) : Prop :=
  ∀ (pins : List (Addr × Obj)) (s : Shared) (σ : St) (H : Hp) (D : Ends), Inv X pins σ H s → t D σ H → wpAny (model X.prog X.w) X.A (exec st X.env) (SP X pins D) X.xe s
def PSs (X : Cx) (st : List Stmt) (t : TS) : Prop :=
  ∀ (pins : List (Addr × Obj)) (s : Shared) (σ : St) (H : Hp) (D : Ends), Inv X pins σ H s → t D σ H → wpAny (model X.prog X.w) X.A (execs st X.env) (SP X pins D) X.xe s
/-- weaken the end -/
theorem thn {α : Type} {t : Sem α} {Q Q' : α → Shared → Prop} {M : Model} {A : Around} {E : Value → Shared → Prop} {s : Shared} (h : wpAny M A t Q E s) (hQ : ∀ a s, Q a s → Q' a s) : wpAny M A t Q' E s := wpAny_mono h hQ fun _ _ x => x
end L2

namespace L2
open PySem PySem.Spec PyProof.Rows
section
variable {X : Cx}

/-- two expressions in a row -/
theorem bin {a b : Expr} {ta tb : TE} (ha : PE X a ta) (hb : PE X b tb) {pins : List (Addr × Obj)} {s : Shared} {σ : St} {H : Hp} {R : V → V → Hp → Prop} (I : Inv X pins σ H s) (h : ta σ H fun x H1 => tb σ H1 fun y H2 => R x y H2)
    {α : Type} {Q : α → Shared → Prop} {f : Value → Value → Sem α}
    (hf : ∀ v u s2 x y H2, Inv X pins σ H2 s2 → RelV x v → RelV y u → R x y H2 → wpAny (model X.prog X.w) X.A (f v u) Q X.xe s2) :
    wpAny (model X.prog X.w) X.A (eval a X.env) (fun v s₁ => wpAny (model X.prog X.w) X.A (eval b X.env) (fun u s₂ => wpAny (model X.prog X.w) X.A (f v u) Q X.xe s₂) X.xe s₁) X.xe s := by
  refine thn (ha pins s σ H _ I h) fun v s1 ⟨x, H1, I1, r1, q1⟩ => ?_
  refine thn (hb pins s1 σ H1 _ I1 q1) fun u s2 ⟨y, H2, I2, r2, q2⟩ => ?_
  exact hf v u s2 x y H2 I2 r1 r2 q2

/-! ### names and constants -/
def tVar (i : Nat) : TE := fun σ H Q => ∃ v, σ[i]? = some (some v) ∧ Q v H
def tC (v : V) : TE := fun _ H Q => Q v H
theorem pe_var {i : Nat} {x : Str} {pos : Pos} (hN : X.N[i]? = some x) (hv : Vis X.env.scope x) (hd : (x == ("__debug__" : Str)) = false := by decide) (hcd : (x == ("__classdict__" : Str)) = false := by decide) : PE X (.Name x pos) (tVar i) := by
  intro pins s σ H Q I h
  obtain ⟨v, e, h⟩ := h
  obtain ⟨m, hn, hl⟩ := I.loc
  obtain ⟨u, r, l⟩ := hl i x v hN e hv
  have fin : EP X pins σ Q u s := ⟨v, H, I, r, h⟩
  rcases l with ⟨hk, hm⟩ | ⟨hk, c, hc, hcell⟩
  · exact wpAny_Name (wpAny_loadName_local I.ok.kind hk hn hm fin) hd
  · rcases hk with hk | hk
    · exact wpAny_Name (wpAny_loadName_cell I.ok.kind hk hc hcell fin) hd
    · exact wpAny_Name (wpAny_loadName_free I.ok.kind hk hc hcell fin hcd) hd
theorem pe_int {i j pos} : PE X (.Constant (.int i) j pos) (tC (.int i)) := fun _ _ _ H _ I h => wpAny_Constant_int ⟨.int i, H, I.tok _, ⟨_, rfl⟩, h⟩
theorem pe_bl {b j pos} : PE X (.Constant (.bool b) j pos) (tC (.bl b)) := fun _ _ _ H _ I h => Constant_bool ⟨.bl b, H, I, rfl, h⟩
theorem pe_non {j pos} : PE X (.Constant .none j pos) (tC .non) := fun _ _ _ H _ I h => Constant_none ⟨.non, H, I, rfl, h⟩
theorem pe_str {x j pos} : PE X (.Constant (.str x) j pos) (tC (.str x)) := fun _ _ _ H _ I h => Calls.Constant_str ⟨.str x, H, I.tok _, ⟨_, rfl⟩, h⟩

/-- a global name of the def -/
def Gl (X : Cx) (x : Str) : Prop := X.env.kindOf x = some .globalImplicit
theorem ld_glob {E : Value → Shared → Prop} {pins : List (Addr × Obj)} {s : Shared} {σ : St} {H : Hp} {x : Str} {u : Value} {pos : Pos} {Q : Value → Shared → Prop} (I : Inv X pins σ H s) (hg : Gl X x) (hm : X.mg x = some u) (h : Q u s)
    (hd : (x == ("__debug__" : Str)) = false := by decide) : wpAny (model X.prog X.w) X.A (eval (.Name x pos) X.env) Q E s :=
  Calls.Name_function_global I.ok.kind hg (Calls.loadGlobal_global (by rw [I.ok.glob]; exact I.mod.glob.keeps I.bk) hm h) hd
theorem ld_blt {E : Value → Shared → Prop} {pins : List (Addr × Obj)} {s : Shared} {σ : St} {H : Hp} {x : Str} {u : Value} {pos : Pos} {Q : Value → Shared → Prop} (I : Inv X pins σ H s) (hg : Gl X x) (hm : X.mg x = none) (hv : bootBuiltins x = some u) (h : Q u s)
    (hn : x ≠ "__name__" := by decide) (hd : (x == ("__debug__" : Str)) = false := by decide) : wpAny (model X.prog X.w) X.A (eval (.Name x pos) X.env) Q E s := by
  obtain ⟨mb, h1, h2⟩ := I.mod.blt
  exact Calls.Name_function_global I.ok.kind hg (Calls.loadGlobal_builtin (by rw [I.ok.glob]; exact I.mod.glob.keeps I.bk) hm (by rw [I.ok.blt]; exact h1.keeps I.bk) ((h2 x hn).trans hv) h) hd
/-- a module's constant, a class, a function, as a value -/
theorem pe_glob {x : Str} {v : V} {u : Value} {pos : Pos} (hg : Gl X x) (hm : X.mg x = some u) (r : RelV v u) (hd : (x == ("__debug__" : Str)) = false := by decide) : PE X (.Name x pos) (tC v) :=
  fun _ _ _ H _ I h => ld_glob I hg hm ⟨v, H, I, r, h⟩ hd
theorem pe_bltn {x : Str} {v : V} {u : Value} {pos : Pos} (hg : Gl X x) (hm : X.mg x = none) (hv : bootBuiltins x = some u) (r : RelV v u) (hn : x ≠ "__name__" := by decide) (hd : (x == ("__debug__" : Str)) = false := by decide) : PE X (.Name x pos) (tC v) :=
  fun _ _ _ H _ I h => ld_blt I hg hm hv ⟨v, H, I, r, h⟩ hn hd

/-! ### arithmetic -/
/-- two ints -/
def t2I (ta tb : TE) (k : Int → Int → Hp → Prop) : St → Hp → Prop := fun σ H => ta σ H fun x H1 => tb σ H1 fun y H2 => ∃ i j, x = .int i ∧ y = .int j ∧ k i j H2
def tAdd (ta tb : TE) : TE := fun σ H Q => t2I ta tb (fun i j H2 => Q (.int (i + j)) H2) σ H
def tSub (ta tb : TE) : TE := fun σ H Q => t2I ta tb (fun i j H2 => Q (.int (i - j)) H2) σ H
/-- the left factor below 2^64 -/
def tMul (ta tb : TE) : TE := fun σ H Q => t2I ta tb (fun i j H2 => (-(2 ^ 64) < i ∧ i < 2 ^ 64) ∧ Q (.int (i * j)) H2) σ H
variable {a b : Expr} {ta tb : TE} {pos : Pos}
theorem pe_add (ha : PE X a ta) (hb : PE X b tb) : PE X (.BinOp a .Add b pos) (tAdd ta tb) := by
  intro pins s σ H Q I h
  refine wpAny_BinOp (bin ha hb I h fun v u s2 x y H2 I2 rx ry q => ?_)
  obtain ⟨i, j, rfl, rfl, q⟩ := q
  obtain ⟨t, rfl⟩ := rx
  obtain ⟨t', rfl⟩ := ry
  exact add_int ⟨.int _, H2, I2.tok _, ⟨_, rfl⟩, q⟩
theorem pe_sub (ha : PE X a ta) (hb : PE X b tb) : PE X (.BinOp a .Sub b pos) (tSub ta tb) := by
  intro pins s σ H Q I h
  refine wpAny_BinOp (bin ha hb I h fun v u s2 x y H2 I2 rx ry q => ?_)
  obtain ⟨i, j, rfl, rfl, q⟩ := q
  obtain ⟨t, rfl⟩ := rx
  obtain ⟨t', rfl⟩ := ry
  exact sub_int ⟨.int _, H2, I2.tok _, ⟨_, rfl⟩, q⟩
theorem pe_mul (ha : PE X a ta) (hb : PE X b tb) : PE X (.BinOp a .Mult b pos) (tMul ta tb) := by
  intro pins s σ H Q I h
  refine wpAny_BinOp (bin ha hb I h fun v u s2 x y H2 I2 rx ry q => ?_)
  obtain ⟨i, j, rfl, rfl, ⟨q1, q2⟩, q⟩ := q
  obtain ⟨t, rfl⟩ := rx
  obtain ⟨t', rfl⟩ := ry
  exact mul_int ⟨.int _, H2, I2.tok _, ⟨_, rfl⟩, q⟩ (.of_left (intBits_le_64 q1 q2))

/-! ### comparisons -/
def PC (X : Cx) (op : CmpOp) (a b : Expr) (t : TE) : Prop :=
  ∀ (pins : List (Addr × Obj)) (s : Shared) (σ : St) (H : Hp) (Q : VK), Inv X pins σ H s → t σ H Q →
    wpAny (model X.prog X.w) X.A (eval a X.env) (fun v s₁ => wpAny (model X.prog X.w) X.A (eval b X.env) (fun u s₂ => wpAny (model X.prog X.w) X.A (compareOp op v u) (EP X pins σ Q) X.xe s₂) X.xe s₁) X.xe s
theorem nobehind (b : Expr) {op : CmpOp} (h : op ≠ .In) (h2 : op ≠ .NotIn) : behindInMarks op b = false := by
  have e1 : (op == CmpOp.In) = false := by cases op <;> first | rfl | exact absurd rfl h
  have e2 : (op == CmpOp.NotIn) = false := by cases op <;> first | rfl | exact absurd rfl h2
  cases b <;> simp [behindInMarks, e1, e2]
def tCmp (p : Int → Int → Bool) (ta tb : TE) : TE := fun σ H Q => t2I ta tb (fun i j H2 => Q (.bl (p i j)) H2) σ H
abbrev tLt : TE → TE → TE := tCmp fun i j => decide (i < j)
abbrev tLe : TE → TE → TE := tCmp fun i j => decide (i ≤ j)
abbrev tGt : TE → TE → TE := tCmp fun i j => decide (j < i)
abbrev tGe : TE → TE → TE := tCmp fun i j => decide (j ≤ i)
abbrev tEqI : TE → TE → TE := tCmp fun i j => decide (i = j)
abbrev tNeI : TE → TE → TE := tCmp fun i j => !decide (i = j)
/-- a comparison of two ints, by its rule -/
theorem pc_int {op : CmpOp} {p : Int → Int → Bool} (ha : PE X a ta) (hb : PE X b tb)
    (rule : ∀ (i j : Int) (t u : Tok) (Q : Value → Shared → Prop) (s : Shared), Q (.bool (p i j)) s → wpAny (model X.prog X.w) X.A (compareOp op (.int i t) (.int j u)) Q X.xe s) : PC X op a b (tCmp p ta tb) := by
  intro pins s σ H Q I h
  refine bin ha hb I h fun v u s2 x y H2 I2 rx ry q => ?_
  obtain ⟨i, j, rfl, rfl, q⟩ := q
  obtain ⟨t, rfl⟩ := rx
  obtain ⟨t', rfl⟩ := ry
  exact rule i j t t' _ s2 ⟨.bl _, H2, I2, rfl, q⟩
theorem pc_lt (ha : PE X a ta) (hb : PE X b tb) : PC X .Lt a b (tLt ta tb) := pc_int ha hb fun _ _ _ _ _ _ h => lt_int h
theorem pc_le (ha : PE X a ta) (hb : PE X b tb) : PC X .LtE a b (tLe ta tb) := pc_int ha hb fun _ _ _ _ _ _ h => le_int h
theorem pc_gt (ha : PE X a ta) (hb : PE X b tb) : PC X .Gt a b (tGt ta tb) := pc_int ha hb fun _ _ _ _ _ _ h => gt_int h
theorem pc_ge (ha : PE X a ta) (hb : PE X b tb) : PC X .GtE a b (tGe ta tb) := pc_int ha hb fun _ _ _ _ _ _ h => ge_int h
theorem pc_eqI (ha : PE X a ta) (hb : PE X b tb) : PC X .Eq a b (tEqI ta tb) := pc_int ha hb fun _ _ _ _ _ _ h => eq_int (by rw [Bool.beq_eq_decide_eq]; exact h)
theorem pc_neI (ha : PE X a ta) (hb : PE X b tb) : PC X .NotEq a b (tNeI ta tb) := pc_int ha hb fun _ _ _ _ _ _ h => ne_int (by rw [bne, Bool.beq_eq_decide_eq]; exact h)
/-- is None -/
def tIsN (ta : TE) : TE := fun σ H Q => ta σ H fun x H1 => Q (.bl (decide (x = .non))) H1
def tNotN (ta : TE) : TE := fun σ H Q => ta σ H fun x H1 => Q (.bl (!decide (x = .non))) H1
theorem RelV.none_iff {x : V} {v : Value} (r : RelV x v) : (v == Value.none) = decide (x = .non) := by
  cases x with
  | non => cases r; rfl
  | bl _ => cases r; rfl
  | int _ => obtain ⟨t, rfl⟩ := r; rfl
  | str _ => obtain ⟨t, rfl⟩ := r; rfl
  | byt _ => obtain ⟨t, rfl⟩ := r; rfl
  | flt _ => obtain ⟨t, rfl⟩ := r; rfl
  | ref _ => cases r; rfl
  | ty _ => cases r; rfl
theorem pc_isN {j pos'} (ha : PE X a ta) : PC X .Is a (.Constant .none j pos') (tIsN ta) := by
  intro pins s σ H Q I h
  refine thn (ha pins s σ H _ I h) fun v s1 ⟨x, H1, I1, r1, q1⟩ => ?_
  exact Constant_none (is_none_gen ⟨.bl _, H1, I1, by rw [r1.none_iff]; rfl, q1⟩)
theorem pc_notN {j pos'} (ha : PE X a ta) : PC X .IsNot a (.Constant .none j pos') (tNotN ta) := by
  intro pins s σ H Q I h
  refine thn (ha pins s σ H _ I h) fun v s1 ⟨x, H1, I1, r1, q1⟩ => ?_
  exact Constant_none (isnot_none_gen ⟨.bl _, H1, I1, by rw [r1.none_iff]; rfl, q1⟩)
/-- a comparison as a value, as a test -/
def tB (t : TE) : TT := fun σ H Q => t σ H fun x H1 => ∃ c, x = .bl c ∧ Q c H1
theorem pe_cmp {op : CmpOp} {t : TE} (h : PC X op a b t) (h1 : behindInMarks op b = false := by first | exact nobehind _ (by decide) (by decide) | rfl) : PE X (.Compare a [op] [b] pos) t := fun pins s σ H Q I hw => wpAny_Compare1 (h pins s σ H Q I hw) h1
theorem pt_cmp {op : CmpOp} {t : TE} (h : PC X op a b t) (h1 : behindInMarks op b = false := by first | exact nobehind _ (by decide) (by decide) | rfl) : PT X (.Compare a [op] [b] pos) (tB t) := by
  intro pins s σ H Q I hw
  refine wpAny_isTrue_Compare1 (thn (h pins s σ H _ I hw) fun v s1 h1 => thn h1 fun u s2 h2 => thn h2 fun c s3 ⟨x, H1, I1, r1, q1⟩ => ?_) h1
  obtain ⟨d, rfl, q⟩ := q1
  cases r1
  exact wpAny_truthy_bool ⟨H1, I1, q⟩
/-- an expression whose value is a bool, as a test -/
theorem pt_val {e : Expr} {t : TE} (h : PE X e t) (he : ∀ whole, isTrue e X.env whole = (do let v ← whole; standAt e.pos; holding [v] (truthy v)) := by intro _; rfl) : PT X e (tB t) := by
  intro pins s σ H Q I hw
  refine isTrue_plain (thn (h pins s σ H _ I hw) fun v s1 ⟨x, H1, I1, r1, q1⟩ => ?_) (he _)
  obtain ⟨d, rfl, q⟩ := q1
  cases r1
  exact wpAny_truthy_bool ⟨H1, I1, q⟩

/-! ### and, or, not -/
variable {tA tB' : TT} {rest : List Expr}
def tAnd (t u : TT) : TT := fun σ H Q => t σ H fun c H1 => if c = true then u σ H1 Q else Q false H1
def tOr (t u : TT) : TT := fun σ H Q => t σ H fun c H1 => if c = true then Q true H1 else u σ H1 Q
def tNot (t : TT) : TT := fun σ H Q => t σ H fun c H1 => Q (!c) H1
theorem pw_and1 (ha : PT X a tA) : PW X (.BoolOp .And [a] pos) tA := by
  intro wh pins s σ H Q I h
  refine isTrue_and (thn (ha pins s σ H Q I h) fun c s1 e => ?_)
  cases c with
  | true => exact isTrue_and_nil e
  | false => exact e
theorem pw_or1 (ha : PT X a tA) : PW X (.BoolOp .Or [a] pos) tA := by
  intro wh pins s σ H Q I h
  refine isTrue_or (thn (ha pins s σ H Q I h) fun c s1 e => ?_)
  cases c with
  | false => exact isTrue_or_nil e
  | true => exact e
theorem pw_and (ha : PT X a tA) (hb : PW X (.BoolOp .And (b :: rest) pos) tB') : PW X (.BoolOp .And (a :: b :: rest) pos) (tAnd tA tB') := by
  intro wh pins s σ H Q I h
  refine isTrue_and (thn (ha pins s σ H _ I h) fun c s1 ⟨H1, I1, q1⟩ => ?_)
  cases c with
  | true => exact hb wh pins s1 σ H1 Q I1 q1
  | false => exact ⟨H1, I1, q1⟩
theorem pw_or (ha : PT X a tA) (hb : PW X (.BoolOp .Or (b :: rest) pos) tB') : PW X (.BoolOp .Or (a :: b :: rest) pos) (tOr tA tB') := by
  intro wh pins s σ H Q I h
  refine isTrue_or (thn (ha pins s σ H _ I h) fun c s1 ⟨H1, I1, q1⟩ => ?_)
  cases c with
  | true => exact ⟨H1, I1, q1⟩
  | false => exact hb wh pins s1 σ H1 Q I1 q1
theorem pt_not (ha : PT X a tA) : PT X (.UnaryOp .Not a pos) (tNot tA) := by
  intro pins s σ H Q I h
  exact isTrue_not (ha pins s σ H (fun c H1 => Q (!c) H1) I h)
/-- .. as values (bools) -/
def tAndV (ta tb : TE) : TE := fun σ H Q => ta σ H fun x H1 => ∃ c, x = .bl c ∧ if c = true then tb σ H1 Q else Q (.bl false) H1
def tOrV (ta tb : TE) : TE := fun σ H Q => ta σ H fun x H1 => ∃ c, x = .bl c ∧ if c = true then Q (.bl true) H1 else tb σ H1 Q
def tNotV (ta : TE) : TE := fun σ H Q => ta σ H fun x H1 => ∃ c, x = .bl c ∧ Q (.bl (!c)) H1
theorem pe_one {op} {t : TE} (h : PE X a t) : PE X (.BoolOp op [a] pos) t := fun pins s σ H Q I hw => BoolOp_one (h pins s σ H Q I hw)
theorem pe_and (ha : PE X a ta) (hb : PE X (.BoolOp .And (b :: rest) pos) tb) : PE X (.BoolOp .And (a :: b :: rest) pos) (tAndV ta tb) := by
  intro pins s σ H Q I h
  refine BoolOp_and (thn (ha pins s σ H _ I h) fun v s1 ⟨x, H1, I1, r1, q1⟩ => ?_)
  obtain ⟨c, rfl, q1⟩ := q1
  cases r1
  refine wpAny_truthy_bool ?_
  cases c with
  | true => exact hb pins s1 σ H1 Q I1 q1
  | false => exact ⟨.bl false, H1, I1, rfl, q1⟩
theorem pe_or (ha : PE X a ta) (hb : PE X (.BoolOp .Or (b :: rest) pos) tb) : PE X (.BoolOp .Or (a :: b :: rest) pos) (tOrV ta tb) := by
  intro pins s σ H Q I h
  refine BoolOp_or (thn (ha pins s σ H _ I h) fun v s1 ⟨x, H1, I1, r1, q1⟩ => ?_)
  obtain ⟨c, rfl, q1⟩ := q1
  cases r1
  refine wpAny_truthy_bool ?_
  cases c with
  | false => exact hb pins s1 σ H1 Q I1 q1
  | true => exact ⟨.bl true, H1, I1, rfl, q1⟩
theorem pe_not (ha : PE X a ta) : PE X (.UnaryOp .Not a pos) (tNotV ta) := by
  intro pins s σ H Q I h
  refine UnaryOp_ (thn (ha pins s σ H _ I h) fun v s1 ⟨x, H1, I1, r1, q1⟩ => ?_)
  obtain ⟨c, rfl, q1⟩ := q1
  cases r1
  exact not_of (wpAny_truthy_bool ⟨.bl (!c), H1, I1, rfl, q1⟩)
/-- a if t else b -/
def tIf (t : TT) (ta tb : TE) : TE := fun σ H Q => t σ H fun c H1 => if c = true then ta σ H1 Q else tb σ H1 Q
theorem pe_ifExp {c : Expr} (hc : PT X c tA) (ha : PE X a ta) (hb : PE X b tb) : PE X (.IfExp c a b pos) (tIf tA ta tb) := by
  intro pins s σ H Q I h
  refine wpAny_IfExp (thn (hc pins s σ H _ I h) fun d s1 ⟨H1, I1, q1⟩ => ?_)
  cases d with
  | true => exact ha pins s1 σ H1 Q I1 q1
  | false => exact hb pins s1 σ H1 Q I1 q1
end
end L2

namespace L2
open PySem PySem.Spec PyProof.Rows

/-! ### a list, a tuple that is read: tracked, frozen, or an object of the module -/
def SqL (K : PySem.W.Frag) (H : Hp) (a : Addr) (xs : List V) : Prop :=
  Rd H a (.lst xs) ∨
    ∃ (o : Obj) (its : Array Value) (n : Nat), K.lookup a = some o ∧ o.cls = .type "list" ∧ o.dict = none ∧ o.data = .seq its n ∧ its.size ≤ sizeLine ∧ Vals xs its.toList
def SqT (K : PySem.W.Frag) (H : Hp) (a : Addr) (xs : List V) : Prop :=
  Rd H a (.tup xs) ∨
    ∃ (o : Obj) (its : Array Value) (n : Nat), K.lookup a = some o ∧ o.cls = .type "tuple" ∧ o.data = .seq its n ∧ its.size ≤ sizeLine ∧ Vals xs its.toList
def absV : Value → Option V
  | .none => some .non
  | .bool b => some (.bl b)
  | .int i _ => some (.int i)
  | .str x _ => some (.str x)
  | .bytes b _ => some (.byt b)
  | .float b _ => some (.flt b)
  | .ref a => some (.ref a)
  | .type n => some (.ty n)
  | _ => none
theorem RelV.abs {x : V} {u : Value} (r : RelV x u) : absV u = some x := by
  cases x with
  | non => cases r; rfl
  | bl _ => cases r; rfl
  | int _ => obtain ⟨t, rfl⟩ := r; rfl
  | str _ => obtain ⟨t, rfl⟩ := r; rfl
  | byt _ => obtain ⟨t, rfl⟩ := r; rfl
  | flt _ => obtain ⟨t, rfl⟩ := r; rfl
  | ref _ => cases r; rfl
  | ty _ => cases r; rfl
theorem RelV.inj {x y : V} {u : Value} (r : RelV x u) (q : RelV y u) : x = y := Option.some.inj (r.abs.symm.trans q.abs)
theorem Vals.inj : ∀ {xs ys : List V} {us : List Value}, Vals xs us → Vals ys us → xs = ys
  | _, _, _, .nil, .nil => rfl
  | _, _, _, .cons r t, .cons r' t' => by rw [r.inj r', Vals.inj t t']
section
variable {X : Cx} {pins : List (Addr × Obj)} {σ : St} {H : Hp} {s : Shared} {a : Addr} {xs ys : List V}
theorem SqL.of {K : PySem.W.Frag} (h : H a = some (.lst xs)) : SqL K H a xs := .inl (.inl h)
theorem SqT.of {K : PySem.W.Frag} (h : H a = some (.tup xs)) : SqT K H a xs := .inl (.inl h)
theorem Inv.list (I : Inv X pins σ H s) (h : SqL X.K H a xs) : ∃ its : List Value, Vals xs its ∧ PlainL s.heap a its.toArray ∧ xs.length ≤ sizeLine := by
  rcases h with h | ⟨o, its, n, hk, hc, hd, hs, hz, r⟩
  · obtain ⟨z, its, n, r, e⟩ := h.ok I.hok
    exact ⟨its, r, ⟨_, n, e, rfl, rfl, rfl⟩, z⟩
  · refine ⟨its.toList, r, ⟨o, n, I.kIn a o hk, hc, hd, by simpa using hs⟩, ?_⟩
    have e := r.length
    simp only [Array.length_toList] at e
    omega
theorem Inv.tuple (I : Inv X pins σ H s) (h : SqT X.K H a xs) : ∃ its : List Value, Vals xs its ∧ IsTup s.heap a its.toArray ∧ xs.length ≤ sizeLine := by
  rcases h with h | ⟨o, its, n, hk, hc, hs, hz, r⟩
  · obtain ⟨z, its, r, p⟩ := h.ok I.hok
    exact ⟨its, r, p, z⟩
  · refine ⟨its.toList, r, ⟨o, I.kIn a o hk, hc, n, by simpa using hs⟩, ?_⟩
    have e := r.length
    simp only [Array.length_toList] at e
    omega
theorem Inv.list_inj (I : Inv X pins σ H s) (h : SqL X.K H a xs) (h' : SqL X.K H a ys) : xs = ys := by
  obtain ⟨its, r, ⟨o, n, e, _, _, d⟩, _⟩ := I.list h
  obtain ⟨its', r', ⟨o', n', e', _, _, d'⟩, _⟩ := I.list h'
  rw [e] at e'; cases e'
  rw [d] at d'
  injection d' with d1 _
  have : its = its' := by simpa using congrArg Array.toList d1
  subst this
  exact r.inj r'
theorem Inv.tuple_inj (I : Inv X pins σ H s) (h : SqT X.K H a xs) (h' : SqT X.K H a ys) : xs = ys := by
  obtain ⟨its, r, ⟨o, e, _, n, d⟩, _⟩ := I.tuple h
  obtain ⟨its', r', ⟨o', e', _, n', d'⟩, _⟩ := I.tuple h'
  rw [e] at e'; cases e'
  rw [d] at d'
  injection d' with d1 _
  have : its = its' := by simpa using congrArg Array.toList d1
  subst this
  exact r.inj r'
end

/-! ### another wish about exceptions -/
abbrev Cx.wish (X : Cx) (E : Value → Shared → Prop) : Cx := { X with xe := E }
/-- no exception leaves -/
abbrev Cx.nox (X : Cx) : Cx := X.wish fun _ _ => False
theorem Cx.Ok.wish {X : Cx} (ok : X.Ok) (E : Value → Shared → Prop) : (X.wish E).Ok :=
  ⟨ok.mod, ok.kind, ok.glob, ok.blt, ok.above, ok.inj, ok.has, ok.cab, ok.hd, ok.frames, ok.stk, ok.exf, ok.bs, ok.bsz, ok.noex, ok.exfs, ok.funs, ok.frf⟩
theorem Cx.Ok.unwish {X : Cx} {E : Value → Shared → Prop} (ok : (X.wish E).Ok) : X.Ok :=
  ⟨ok.mod, ok.kind, ok.glob, ok.blt, ok.above, ok.inj, ok.has, ok.cab, ok.hd, ok.frames, ok.stk, ok.exf, ok.bs, ok.bsz, ok.noex, ok.exfs, ok.funs, ok.frf⟩
section
variable {X : Cx} {pins : List (Addr × Obj)} {σ : St} {H : Hp} {s : Shared} {E : Value → Shared → Prop}
theorem Inv.wish (I : Inv X pins σ H s) (E : Value → Shared → Prop) : Inv (X.wish E) pins σ H s := ⟨I.ok.wish E, I.os, I.bare, I.base, I.loc, I.cell, I.free, I.freeC, I.pin, I.hok, I.len⟩
theorem Inv.unwish (I : Inv (X.wish E) pins σ H s) : Inv X pins σ H s := ⟨I.ok.unwish, I.os, I.bare, I.base, I.loc, I.cell, I.free, I.freeC, I.pin, I.hok, I.len⟩
theorem SP.unwish {D : Ends} {f : Flow} {s' : Shared} (h : SP (X.wish E) pins D f s') : SP X pins D f s' := by
  cases f with
  | next => obtain ⟨σ', H', I, q⟩ := h; exact ⟨σ', H', I.unwish, q⟩
  | brk => obtain ⟨σ', H', I, q⟩ := h; exact ⟨σ', H', I.unwish, q⟩
  | cont => obtain ⟨σ', H', I, q⟩ := h; exact ⟨σ', H', I.unwish, q⟩
  | ret u => obtain ⟨v, σ', H', I, r, q⟩ := h; exact ⟨v, σ', H', I.unwish, r, q⟩
theorem PE.nox {e : Expr} {t : TE} (h : PE X.nox e t) : PE X e t := fun pins s σ H Q I hw =>
  wpAny_mono (h pins s σ H Q (I.wish _) hw) (fun _ _ ⟨v, H', I', r, q⟩ => ⟨v, H', I'.unwish, r, q⟩) fun _ _ z => False.elim z
theorem PT.nox {e : Expr} {t : TT} (h : PT X.nox e t) : PT X e t := fun pins s σ H Q I hw =>
  wpAny_mono (h pins s σ H Q (I.wish _) hw) (fun _ _ ⟨H', I', q⟩ => ⟨H', I'.unwish, q⟩) fun _ _ z => False.elim z
theorem PSs.nox {st : List Stmt} {t : TS} (h : PSs X.nox st t) : PSs X st t := fun pins s σ H D I hw =>
  wpAny_mono (h pins s σ H D (I.wish _) hw) (fun _ _ q => q.unwish) fun _ _ z => False.elim z
end

/-! ### blocks and small statements -/
section
variable {X : Cx} {st : Stmt} {rest : List Stmt} {t u : TS} {e : Expr} {te : TE} {pos : Pos}
def tNext : TS := fun D σ H => D.nx σ H
def tSeq (t u : TS) : TS := fun D σ H => t { D with nx := u D } σ H
theorem pss_nil : PSs X [] tNext := fun _ _ σ H _ I h => wpAny_execs_nil ⟨σ, H, I, h⟩
theorem pss_cons (h1 : PS X st t) (h2 : PSs X rest u) : PSs X (st :: rest) (tSeq t u) := by
  intro pins s σ H D I h
  refine wpAny_execs_cons (thn (h1 pins s σ H { D with nx := u D } I h) fun f s1 q => ?_)
  cases f with
  | next =>
    obtain ⟨σ', H', I', q⟩ := q
    exact h2 pins s1 σ' H' D I' q
  | ret v => exact q
  | brk => exact q
  | cont => exact q
theorem pss_one (h1 : PS X st t) : PSs X [st] t := by
  intro pins s σ H D I h
  refine wpAny_execs_cons (thn (h1 pins s σ H D I h) fun f s1 q => ?_)
  cases f with
  | next => exact wpAny_execs_nil q
  | ret v => exact q
  | brk => exact q
  | cont => exact q
def tBreak : TS := fun D σ H => D.bk σ H
def tCont : TS := fun D σ H => D.ct σ H
theorem ps_pass : PS X (.Pass pos) tNext := fun _ _ σ H _ I h => wpAny_Pass ⟨σ, H, I, h⟩
theorem ps_break : PS X (.Break pos) tBreak := fun _ _ σ H _ I h => wpAny_Break ⟨σ, H, I, h⟩
theorem ps_continue : PS X (.Continue pos) tCont := fun _ _ σ H _ I h => wpAny_Continue ⟨σ, H, I, h⟩
/-- in a def's body nothing is shown -/
theorem Inv.quiet {pins : List (Addr × Obj)} {σ : St} {H : Hp} {s : Shared} (I : Inv X pins σ H s) : interactive X.env = false := by simp [interactive, I.ok.kind]
/-- a docstring -/
theorem ps_doc {x j pos pos'} : PS X (.Expr (.Constant (.str x) j pos) pos') tNext := fun _ s σ H _ I h => wpAny_Expr (Calls.Constant_str (show SP X _ _ .next { s with toks := s.toks + 1 } from ⟨σ, H, I.tok _, h⟩)) I.quiet
/-- an expression whose value is dropped -/
def tDrop (te : TE) : TS := fun D σ H => te σ H fun _ H1 => D.nx σ H1
theorem ps_expr (he : PE X e te) (hs : swapsWith e none pos.line X.env = pure false := by rfl) : PS X (.Expr e pos) (tDrop te) := by
  intro pins s σ H D I h
  exact wpAny_Expr_any (thn (he pins s σ H _ I h) fun v s1 ⟨x, H1, I1, r1, q1⟩ => ⟨σ, H1, I1, q1⟩) I.quiet hs
def tRet (te : TE) : TS := fun D σ H => te σ H D.rt
theorem ps_ret (he : PE X e te) : PS X (.Return (some e) pos) (tRet te) := by
  intro pins s σ H D I h
  exact wpAny_Return_some (thn (he pins s σ H _ I h) fun v s1 ⟨x, H1, I1, r1, q1⟩ => ⟨x, σ, H1, I1, r1, q1⟩)
def tRetN : TS := fun D _ H => D.rt .non H
theorem ps_retN : PS X (.Return none pos) tRetN := fun _ _ σ H _ I h => wpAny_Return_none ⟨.non, σ, H, I, rfl, h⟩
def tIfS (c : TT) (t u : TS) : TS := fun D σ H => c σ H fun b H1 => if b = true then t D σ H1 else u D σ H1
theorem ps_if {c : Expr} {a b : List Stmt} {tc : TT} (hc : PT X c tc) (ha : PSs X a t) (hb : PSs X b u) : PS X (.If c a b pos) (tIfS tc t u) := by
  intro pins s σ H D I h
  refine wpAny_If (thn (hc pins s σ H _ I h) fun d s1 ⟨H1, I1, q1⟩ => ?_)
  cases d with
  | true => exact ha pins s1 σ H1 D I1 q1
  | false => exact hb pins s1 σ H1 D I1 q1
/-- code that the proof never comes to -/
def tNever : TS := fun _ _ _ => False
theorem ps_never : PS X st tNever := fun _ _ _ _ _ _ h => h.elim
theorem pss_never {sts : List Stmt} : PSs X sts tNever := fun _ _ _ _ _ _ h => h.elim
end

/-! ### targets -/
abbrev TG := V → St → Hp → (St → Hp → Prop) → Prop
abbrev TGs := List V → St → Hp → (St → Hp → Prop) → Prop
def PG (X : Cx) (target : Expr) (t : TG) : Prop :=
  ∀ (pins : List (Addr × Obj)) (s : Shared) (σ : St) (H : Hp) (v : V) (u : Value) (Q : St → Hp → Prop), Inv X pins σ H s → RelV v u → t v σ H Q →
    wpAny (model X.prog X.w) X.A (assign target X.env u) (fun _ s' => ∃ σ' H', Inv X pins σ' H' s' ∧ Q σ' H') X.xe s
/-- several targets, one after another -/
def PGs (X : Cx) (ts : List Expr) (t : TGs) : Prop :=
  ∀ (pins : List (Addr × Obj)) (s : Shared) (σ : St) (H : Hp) (vs : List V) (us : List Value) (Q : St → Hp → Prop), Inv X pins σ H s → Vals vs us → t vs σ H Q →
    wpAny (model X.prog X.w) X.A (assignInOrder ((assignEach ts X.env).map (·.2)) us) (fun _ s' => ∃ σ' H', Inv X pins σ' H' s' ∧ Q σ' H') X.xe s
/-- o[i] = v, by values -/
abbrev TSet := V → V → V → Hp → (Hp → Prop) → Prop
def PSet (X : Cx) (t : TSet) : Prop :=
  ∀ (pins : List (Addr × Obj)) (s : Shared) (σ : St) (H : Hp) (o i v : V) (ov iv u : Value) (Q : Hp → Prop), Inv X pins σ H s → RelV o ov → RelV i iv → RelV v u → t o i v H Q →
    wpAny (model X.prog X.w) X.A (setItem ov iv u) (fun _ s' => ∃ H', Inv X pins σ H' s' ∧ Q H') X.xe s
/-- a op= b, by values -/
abbrev TIp := V → V → Hp → VK → Prop
def PIp (X : Cx) (op : Operator) (t : TIp) : Prop :=
  ∀ (pins : List (Addr × Obj)) (s : Shared) (σ : St) (H : Hp) (x y : V) (v u : Value) (Q : VK), Inv X pins σ H s → RelV x v → RelV y u → t x y H Q →
    wpAny (model X.prog X.w) X.A (inplaceOp op v u) (EP X pins σ Q) X.xe s
section
variable {X : Cx} {pos : Pos}
def gName (i : Nat) : TG := fun v σ H Q => Q (σ.set i (some v)) H
theorem pg_name {i : Nat} {x : Str} (hN : X.N.Nodup) (hi : X.N[i]? = some x) (hx : Loc X.env.scope x) (hf : X.fn x = true ∨ X.env.scope.names.lookup x = some .local := by first | exact .inl rfl | exact .inr rfl | assumption) : PG X (.Name x pos) (gName i) := by
  intro pins s σ H v u Q I r h
  exact wpAny_assign_Name (store_ok I hN hi hx r (fun s' I' => ⟨_, H, I', h⟩) hf)
def gNil : TGs := fun vs σ H Q => vs = [] ∧ Q σ H
def gCons (t : TG) (u : TGs) : TGs := fun vs σ H Q => ∃ v r, vs = v :: r ∧ t v σ H fun σ' H' => u r σ' H' Q
theorem pgs_nil : PGs X [] gNil := by
  intro pins s σ H vs us Q I r h
  obtain ⟨e, h⟩ := h
  subst e
  cases r
  exact assignInOrder_nil ⟨σ, H, I, h⟩
theorem pgs_cons {e : Expr} {es : List Expr} {t : TG} {u : TGs} (h1 : PG X e t) (h2 : PGs X es u)
    (hs : (assignEach (e :: es) X.env).map (·.2) = assign e X.env :: (assignEach es X.env).map (·.2) := by rfl) : PGs X (e :: es) (gCons t u) := by
  intro pins s σ H vs us Q I r h
  obtain ⟨v, vr, e1, h⟩ := h
  subst e1
  cases r with
  | cons r rr =>
    rw [hs]
    refine assignInOrder_cons (thn (h1 pins s σ H _ _ _ I r h) fun _ s1 ⟨σ1, H1, I1, q1⟩ => ?_)
    exact h2 pins s1 σ1 H1 _ _ Q I1 rr q1
/-- (a, b, ..) = a tuple of that length -/
def gTup (K : PySem.W.Frag) (n : Nat) (t : TGs) : TG := fun v σ H Q => ∃ a xs, v = .ref a ∧ SqT K H a xs ∧ xs.length = n ∧ t xs σ H Q
theorem pg_tup {es : List Expr} {k : Nat} {t : TGs} {n : Nat} (hc : X.calm = true) (h : PGs X es t)
    (hn : (assignEach es X.env).length = n := by rfl) (hst : (assignEach es X.env).findIdx? (·.1) = none := by rfl) : PG X (.Tuple es k pos) (gTup X.K n t) := by
  intro pins s σ H v u Q I r hw
  obtain ⟨a, xs, e1, hq, hl, hw⟩ := hw
  subst e1
  cases r
  obtain ⟨its, rv, ht, hz⟩ := I.tuple hq
  refine assign_Tuple_tuple (I.ok.hd hc) ht (by simp [hn, ← hl, rv.length]) hst fun h' hx => ?_
  have I1 : Inv X pins σ H { s with heap := h' } := I.kept (t' := s.toks) fun b o e => hx b o (Nat.ne_of_lt (Heap.lt_size e)) e
  exact h pins _ σ H xs _ Q I1 (by simpa using rv) hw
/-- o[i] = .. -/
def gSub (to ti : TE) (t : TSet) : TG := fun v σ H Q => to σ H fun o H1 => ti σ H1 fun i H2 => t o i v H2 fun H3 => Q σ H3
theorem pg_sub {o i : Expr} {to ti : TE} {t : TSet} (ho : PE X o to) (hi : PE X i ti) (hs : PSet X t)
    (ha : ∀ v, assign (.Subscript o i pos) X.env v = (do
      let ov ← holding [v] (eval o X.env)
      let iv ← holding [v, ov] (eval i X.env)
      standAt pos
      holding [v, ov, iv] (setItem ov iv v)
      release [v, ov, iv] []) := by intro _; rfl) : PG X (.Subscript o i pos) (gSub to ti t) := by
  intro pins s σ H v u Q I r h
  rw [ha]
  refine wpAny_bind (wpAny_holding (thn (ho pins s σ H _ I h) fun ov s1 ⟨x, H1, I1, r1, q1⟩ => ?_))
  refine wpAny_bind (wpAny_holding (thn (hi pins s1 σ H1 _ I1 q1) fun iv s2 ⟨y, H2, I2, r2, q2⟩ => ?_))
  refine wpAny_bind (wpAny_standAt (wpAny_bind (wpAny_holding (thn (hs pins s2 σ H2 x y v ov iv u _ I2 r1 r2 r q2) fun _ s3 ⟨H3, I3, q3⟩ => ?_))))
  exact wpAny_release ⟨σ, H3, I3, q3⟩
/-- target = value -/
def tAsg (te : TE) (g : TG) : TS := fun D σ H => te σ H fun x H1 => g x σ H1 D.nx
theorem ps_asg {tg e : Expr} {te : TE} {g : TG} (he : PE X e te) (hg : PG X tg g) (hs : swapsWithSole [tg] e pos.line X.env = pure false := by rfl) (hw : swappedStores [tg] e X.env = pure none := by rfl)
    (h1 : (assignEach [tg] X.env).map (·.2) = [assign tg X.env] := by rfl) : PS X (.Assign [tg] e pos) (tAsg te g) := by
  intro pins s σ H D I h
  refine wpAny_Assign_stores (thn (he pins s σ H _ I h) fun v s1 ⟨x, H1, I1, r1, q1⟩ => ?_) hs hw
  rw [h1]
  exact thn (hg pins s1 σ H1 x v _ I1 r1 q1) fun _ s2 q => q
/-- name = value -/
theorem ps_set {i : Nat} {x : Str} {e : Expr} {te : TE} {pos' : Pos} (hN : X.N.Nodup) (hi : X.N[i]? = some x) (hx : Loc X.env.scope x) (he : PE X e te) (hs : swapsWith e (some (.Name x pos')) pos.line X.env = pure false := by rfl) (hf : X.fn x = true ∨ X.env.scope.names.lookup x = some .local := by first | exact .inl rfl | exact .inr rfl | assumption) :
    PS X (.Assign [.Name x pos'] e pos) (tAsg te (gName i)) := by
  intro pins s σ H D I h
  refine wpAny_Assign_Name (thn (he pins s σ H _ I h) fun v s1 ⟨y, H1, I1, r1, q1⟩ => ?_) hs
  exact store_ok I1 hN hi hx r1 (fun s2 I2 => ⟨_, H1, I2, q1⟩) hf
/-- a, b = x, y with plain local names: stored from the right; the pair itself is not tracked (the opening rows as in PyProof/Rows/TupAssign.lean:23) -/
def tPar (i j : Nat) (ta : TA) : TS := fun D σ H => ta σ H fun vs H1 => ∃ v w, vs = [v, w] ∧ D.nx ((σ.set i (some v)).set j (some w)) H1
theorem ps_par {i j : Nat} {x y : Str} {a b : Expr} {ta : TA} {px py pt : Pos} {kt k2 pt2} (hc : X.calm = true) (hN : X.N.Nodup) (hi : X.N[i]? = some x) (hj : X.N[j]? = some y) (hij : i ≠ j)
    (hx : X.env.scope.names.lookup x = some .local) (hy : X.env.scope.names.lookup y = some .local) (ha : PA X [a, b] ta)
    (hw : swappedStores [.Tuple [.Name x px, .Name y py] kt pt] (.Tuple [a, b] k2 pt2) X.env = pure (some [x, y]))
    (hs : swapsWithSole [.Tuple [.Name x px, .Name y py] kt pt] (.Tuple [a, b] k2 pt2) pos.line X.env = pure false := by rfl) :
    PS X (.Assign [.Tuple [.Name x px, .Name y py] kt pt] (.Tuple [a, b] k2 pt2) pos) (tPar i j ta) := by
  intro pins s σ H D I h
  rw [exec_Assign_arm]
  refine wpAny_bind (wpAny_standAt ?_)
  rw [hs]
  refine wpAny_bind (wpAny_pure ?_)
  rw [if_neg (by decide)]
  refine wpAny_bind (Tuple_ (thn (ha _ pins s σ H _ I h) fun us s1 ⟨vs, H1, I1, r1, q1⟩ => ?_))
  obtain ⟨v, w, e1, q1⟩ := q1
  subst e1
  obtain ⟨u1, u2, rfl, rv, rw'⟩ : ∃ u1 u2, us = [u1, u2] ∧ RelV v u1 ∧ RelV w u2 := by
    cases r1 with
    | cons p q =>
      cases q with
      | cons p' q' =>
        cases q'
        exact ⟨_, _, rfl, p, p'⟩
  refine wpAny_newObj_type ?_ (by show 2 ≤ sizeLine; decide)
  have I2 : Inv X pins σ H1 { s1 with heap := s1.heap.push { cls := .type "tuple", data := .seq [u1, u2].toArray } } := I1.kept (t' := s1.toks) fun b o e => Heap.get?_push_of_some _ e
  rw [hw]
  refine wpAny_bind (wpAny_pure ?_)
  show wpAny (model X.prog X.w) X.A (do rule "assign.swapped-stores"; let items ← unpackItems (.ref s1.heap.objs.size) 2 none; assignInOrder [fun v => bindName X.env y v, fun v => bindName X.env x v] items.reverse; pure Flow.next) _ _ _
  refine wpAny_bind (wpAny_rule (wpAny_bind (unpackItems_tuple (items := #[u1, u2]) (I.ok.hd hc) (IsTup.new s1.heap _) fun h' hx' => ?_)))
  have I3 := I2.kept (h' := h') (t' := s1.toks) fun b o e => hx' b o (Nat.ne_of_lt (Heap.lt_size e)) e
  show wpAny _ _ (assignInOrder [fun v => bindName X.env y v, fun v => bindName X.env x v] [u2, u1] >>= fun _ => pure Flow.next) _ _ _
  refine wpAny_bind (assignInOrder_cons (wpAny_bindName (store_ok I3 hN hj (.inl hy) rw' (fun s2 I4 => ?_) (.inr hy))))
  refine assignInOrder_cons (wpAny_bindName (store_ok I4 hN hi (.inl hx) rv (fun s3 I5 => assignInOrder_nil (wpAny_pure ?_)) (.inr hx)))
  rw [List.set_comm _ _ (Ne.symm hij)] at I5
  exact ⟨_, H1, I5, q1⟩
/-- name op= e -/
def tAug (i : Nat) (te : TE) (ti : TIp) : TS := fun D σ H => ∃ x, σ[i]? = some (some x) ∧ te σ H fun y H1 => ti x y H1 fun z H2 => D.nx (σ.set i (some z)) H2
theorem ps_aug {i : Nat} {x : Str} {e : Expr} {te : TE} {op : Operator} {ti : TIp} {pos' : Pos} (hN : X.N.Nodup) (hi : X.N[i]? = some x) (hx : Loc X.env.scope x) (he : PE X e te) (ho : PIp X op ti) (hf : X.fn x = true ∨ X.env.scope.names.lookup x = some .local := by first | exact .inl rfl | exact .inr rfl | assumption) :
    PS X (.AugAssign (.Name x pos') op e pos) (tAug i te ti) := by
  intro pins s σ H D I h
  obtain ⟨v, e1, h⟩ := h
  obtain ⟨m, hn, hl⟩ := I.loc
  have vis : Vis X.env.scope x := by rcases hx with k | k; exact .inl k; exact .inr (.inl k)
  obtain ⟨u, r, l⟩ := hl i x v hi e1 vis
  refine wpAny_AugAssign_Name ?_
  have go : wpAny (model X.prog X.w) X.A (eval e X.env) (fun w s₂ => wpAny (model X.prog X.w) X.A (inplaceOp op u w) (fun r s₃ => wpAny (model X.prog X.w) X.A (storeName X.env x r) (fun _ => SP X pins D .next) X.xe s₃) X.xe s₂) X.xe s := by
    refine thn (he pins s σ H _ I h) fun w s1 ⟨y, H1, I1, r1, q1⟩ => ?_
    refine thn (ho pins s1 σ H1 v y u w _ I1 r r1 q1) fun z s2 ⟨zv, H2, I2, r2, q2⟩ => ?_
    exact store_ok I2 hN hi hx r2 (fun s3 I3 => ⟨_, H2, I3, q2⟩) hf
  rcases l with ⟨hk, hm⟩ | ⟨hk, c, hc, hcell⟩
  · exact wpAny_loadName_local I.ok.kind hk hn hm go
  · rcases hk with hk | hk
    · exact wpAny_loadName_cell I.ok.kind hk hc hcell go
    · rcases hx with k | k
      · have : X.env.scope.names.lookup x = some .free := hk
        rw [k] at this; cases this
      · have : X.env.scope.names.lookup x = some .free := hk
        rw [k] at this; cases this
/-- o[i] op= e -/
def tAugS (to ti te : TE) (tget : V → V → Hp → VK → Prop) (tip : TIp) (tset : TSet) : TS := fun D σ H => to σ H fun o H1 => ti σ H1 fun i H2 => tget o i H2 fun x H3 => te σ H3 fun y H4 => tip x y H4 fun z H5 => tset o i z H5 fun H6 => D.nx σ H6
/-- o[i], by values -/
def PGet (X : Cx) (t : V → V → Hp → VK → Prop) : Prop :=
  ∀ (pins : List (Addr × Obj)) (s : Shared) (σ : St) (H : Hp) (o i : V) (ov iv : Value) (Q : VK), Inv X pins σ H s → RelV o ov → RelV i iv → t o i H Q →
    wpAny (model X.prog X.w) X.A (getItem ov iv) (EP X pins σ Q) X.xe s
theorem ps_augS {o i e : Expr} {to ti te : TE} {tget : V → V → Hp → VK → Prop} {tip : TIp} {tset : TSet} {op : Operator} {tpos : Pos} (ho : PE X o to) (hi : PE X i ti) (hg : PGet X tget) (he : PE X e te) (hp : PIp X op tip) (hs : PSet X tset)
    (ha : ∀ ov iv new, augStore i ov iv new = (do holding [new, ov, iv] (setItem ov iv new); release [new, ov, iv] []; pure .next) := by intros; rfl) : PS X (.AugAssign (.Subscript o i tpos) op e pos) (tAugS to ti te tget tip tset) := by
  intro pins s σ H D I h
  refine wpAny_AugAssign_SubscriptAny (thn (ho pins s σ H _ I h) fun ov s1 ⟨x1, H1, I1, r1, q1⟩ => ?_) ha
  refine thn (hi pins s1 σ H1 _ I1 q1) fun iv s2 ⟨x2, H2, I2, r2, q2⟩ => ?_
  refine thn (hg pins s2 σ H2 x1 x2 ov iv _ I2 r1 r2 q2) fun old s3 ⟨x3, H3, I3, r3, q3⟩ => ?_
  refine thn (he pins s3 σ H3 _ I3 q3) fun v s4 ⟨x4, H4, I4, r4, q4⟩ => ?_
  refine thn (hp pins s4 σ H4 x3 x4 old v _ I4 r3 r4 q4) fun new s5 ⟨x5, H5, I5, r5, q5⟩ => ?_
  exact thn (hs pins s5 σ H5 x1 x2 x5 ov iv new _ I5 r1 r2 r5 q5) fun _ s6 ⟨H6, I6, q6⟩ => ⟨σ, H6, I6, q6⟩
/-- ints -/
def ipI (f : Int → Int → Int) : TIp := fun x y H Q => ∃ i j, x = .int i ∧ y = .int j ∧ Q (.int (f i j)) H
theorem ip_add : PIp X .Add (ipI fun i j => i + j) := by
  intro pins s σ H x y v u Q I r1 r2 h
  obtain ⟨i, j, e1, e2, q⟩ := h
  subst e1; subst e2
  obtain ⟨t, rfl⟩ := r1
  obtain ⟨t', rfl⟩ := r2
  exact iadd_int ⟨.int _, H, I.tok _, ⟨_, rfl⟩, q⟩
theorem ip_sub : PIp X .Sub (ipI fun i j => i - j) := by
  intro pins s σ H x y v u Q I r1 r2 h
  obtain ⟨i, j, e1, e2, q⟩ := h
  subst e1; subst e2
  obtain ⟨t, rfl⟩ := r1
  obtain ⟨t', rfl⟩ := r2
  exact isub_int ⟨.int _, H, I.tok _, ⟨_, rfl⟩, q⟩
end

/-! ### while -/
section
variable {X : Cx} {pos : Pos}
/-- the invariant W with its measure -/
def tWhile (c : TT) (tb : TS) : TS := fun D σ H => ∃ W : Nat → St → Hp → Prop, (∃ m, W m σ H) ∧ ∀ m σ H, W m σ H →
  c σ H fun b H1 => if b = true then ∃ N : St → Hp → Prop, (∀ σ' H', N σ' H' → ∃ m', m' < m ∧ W m' σ' H') ∧ tb { D with nx := N, ct := N, bk := D.nx } σ H1 else D.nx σ H1
theorem ps_while {c : Expr} {body : List Stmt} {tc : TT} {tb : TS} (hp : PassesOwn (model X.prog X.w) X.A X.env X.xe) (hc : PT X c tc) (hb : PSs X body tb) : PS X (.While c body [] pos) (tWhile tc tb) := by
  intro pins s σ H D I h
  obtain ⟨W, ⟨m0, w0⟩, turn⟩ := h
  refine wpAny_While (codeAny_whileLoop (fun n s' => ∃ σ' H', Inv X pins σ' H' s' ∧ W n σ' H') ?_ m0 ⟨σ, H, I, w0⟩)
  rintro n s1 ⟨σ1, H1, I1, w1⟩
  refine wpAny_passesOwn hp (thn (hc pins s1 σ1 H1 _ I1 (turn n σ1 H1 w1)) fun b s2 ⟨H2, I2, q2⟩ => ?_)
  cases b with
  | true =>
    obtain ⟨N, hN, q2⟩ := q2
    rw [if_pos rfl]
    refine wpAny_passesOwn hp (thn (hb pins s2 σ1 H2 _ I2 q2) fun f s3 q3 => ?_)
    cases f with
    | next =>
      obtain ⟨σ3, H3, I3, n3⟩ := q3
      obtain ⟨m', hm, w3⟩ := hN σ3 H3 n3
      exact ⟨m', hm, σ3, H3, I3, w3⟩
    | cont =>
      obtain ⟨σ3, H3, I3, n3⟩ := q3
      obtain ⟨m', hm, w3⟩ := hN σ3 H3 n3
      exact ⟨m', hm, σ3, H3, I3, w3⟩
    | brk => exact q3
    | ret v => exact q3
  | false =>
    rw [if_neg Bool.false_ne_true]
    exact wpAny_execs_nil ⟨σ1, H2, I2, q2⟩
end

/-! ### what a loop or a comprehension walks -/
/-- at turn i: it yields x (the heap may grow), or it stops -/
structure It where
  go : Nat → Hp → Prop
  yld : Nat → Hp → V → Hp → Prop
  stop : Nat → Hp → Prop
/-- the iterator's own objects may turn: they are not the frame's, not pinned, younger than the entry (or a comprehension's own) -/
def FpOk (X : Cx) (pins : List (Addr × Obj)) (H : Hp) (b : Addr) : Prop :=
  H b = none ∧ b ≠ X.env.locals ∧ b ∉ X.fs ∧ (b ∈ X.ex ∨ X.s₀.heap.objs.size ≤ b) ∧ (∀ x c, X.env.cells.lookup x = some c → c ≠ b) ∧ ∀ p ∈ X.pn ++ pins, p.1 ≠ b
theorem Inv.fpOk {X : Cx} {pins : List (Addr × Obj)} {σ : St} {H H' : Hp} {s : Shared} {b : Addr} (I : Inv X pins σ H s) (hb : s.heap.objs.size ≤ b) (hn : H' b = none) : FpOk X pins H' b := by
  refine ⟨hn, Nat.ne_of_gt (Nat.lt_of_lt_of_le I.lt hb), I.nofs hb, .inr (Nat.le_trans I.sz hb), fun x c e z => ?_, fun p hp z => ?_⟩
  · obtain ⟨v, q⟩ := I.cell x c e
    exact absurd (Nat.lt_of_lt_of_le q.lt (by rw [z]; exact hb)) (Nat.lt_irrefl _)
  · exact absurd (Nat.lt_of_lt_of_le (Heap.lt_size (I.pin p hp).1) (by rw [z]; exact hb)) (Nat.lt_irrefl _)
structure Turn (P : Program) (w : World) (K : PySem.W.Frag) (tg : Expr) (J : It) (fp : List Addr) (it : Addr) (tn : Nat → Heap → Prop) : Prop where
  mem : it ∈ fp
  obj : ∀ i h, tn i h → ∀ b ∈ fp, ∃ o, h.get? b = some o ∧ ∀ v, o.data ≠ .cell v
  keep : ∀ i h h', tn i h → (∀ b ∈ fp, ∀ o, h.get? b = some o → h'.get? b = some o) → tn i h'
  item : ∀ (X : Cx), X.prog = P → X.w = w → X.K = K → X.calm = true → ∀ (i : Nat) (pins : List (Addr × Obj)) (s : Shared) (σ : St) (H : Hp) (E : Value → Shared → Prop), Inv X pins σ H s → (∀ b ∈ fp, FpOk X pins H b) → tn i s.heap → J.go i H →
    wpAny (model P w) X.A (pyNext (.ref it)) (fun r s1 => ∃ u, r = some u ∧
      wpAny (model P w) X.A (letOwnedTupleGo tg (.ref it) u) (fun _ s2 => ∃ x H', Inv X pins σ H' s2 ∧ RelV x u ∧ J.yld i H x H' ∧ tn (i + 1) s2.heap ∧ ∀ b ∈ fp, H' b = none) E s1) E s
  done : ∀ (X : Cx), X.prog = P → X.w = w → X.K = K → X.calm = true → ∀ (i : Nat) (pins : List (Addr × Obj)) (s : Shared) (σ : St) (H : Hp) (E : Value → Shared → Prop), Inv X pins σ H s → (∀ b ∈ fp, FpOk X pins H b) → tn i s.heap → J.stop i H →
    wpAny (model P w) X.A (pyNext (.ref it)) (fun r s1 => r = none ∧ Inv X pins σ H s1) E s
  self : ∀ (A : Around) (i : Nat) (s : Shared) (Q : Value → Shared → Prop) (E : Value → Shared → Prop), tn i s.heap → Q (.ref it) s → wpAny (model P w) A (pyIter (.ref it)) Q E s
abbrev TI := St → Hp → (It → Hp → Prop) → Prop
/-- an iterator has come -/
def PIE (X : Cx) (pins : List (Addr × Obj)) (σ : St) (tg : Expr) (R : It → Hp → Prop) (itv : Value) (s2 : Shared) : Prop :=
  ∃ (it : Addr) (fp : List Addr) (tn : Nat → Heap → Prop) (J : It) (H' : Hp), itv = .ref it ∧ Inv X pins σ H' s2 ∧ Turn X.prog X.w X.K tg J fp it tn ∧ tn 0 s2.heap ∧ (∀ b ∈ fp, FpOk X pins H' b) ∧ R J H'
def PI (X : Cx) (tg iter : Expr) (wi : TI) : Prop :=
  ∀ (pins : List (Addr × Obj)) (s : Shared) (σ : St) (H : Hp) (R : It → Hp → Prop), Inv X pins σ H s → wi σ H R →
    wpAny (model X.prog X.w) X.A (eval iter X.env) (fun v s1 => wpAny (model X.prog X.w) X.A (pyIter v) (PIE X pins σ tg R) X.xe s1) X.xe s

/-- the step ahead of the store is nothing for an iterator that keeps no tuple -/
theorem go_of {M : Model} {A : Around} {E : Value → Shared → Prop} {s : Shared} {tg : Expr} {it : Addr} {u : Value} {o : Obj} {n : String} {vs : Array Value} {Q : Unit → Shared → Prop} (ho : s.heap.get? it = some o) (hc : o.cls = .type n) (hd : o.data = .fields vs)
    (hn : ["enumerate", "zip", "dict_itemiterator", "dict_reverseitemiterator", "odict_iterator", "itertools.zip_longest", "itertools.pairwise"].contains n = false) (hQ : Q () s) : wpAny M A (letOwnedTupleGo tg (.ref it) u) Q E s := by
  unfold letOwnedTupleGo
  cases tg <;> first
    | exact wpAny_pure hQ
    | (cases u <;> first
        | exact wpAny_pure hQ
        | (refine wpAny_bind (wpAny_load ho ?_)
           rw [hc, hd]
           show wpAny M A (if (["enumerate", "zip", "dict_itemiterator", "dict_reverseitemiterator", "odict_iterator", "itertools.zip_longest", "itertools.pairwise"].contains n && vs[0]? == some (rawInt _)) = true then _ else _) Q E s
           rw [if_neg (by intro h; rw [hn, Bool.false_and] at h; cases h)]
           exact wpAny_pure hQ))

/-- the list at a, as it stands at each turn (a loop may append to it) -/
def Itl (K : PySem.W.Frag) (a : Addr) : It :=
  ⟨fun i H => ∃ xs x, SqL K H a xs ∧ xs[i]? = some x, fun i H x H' => H' = H ∧ ∀ xs, SqL K H a xs → xs[i]? = some x, fun i H => ∃ xs, SqL K H a xs ∧ xs.length ≤ i⟩
def Itt (K : PySem.W.Frag) (a : Addr) : It :=
  ⟨fun i H => ∃ xs x, SqT K H a xs ∧ xs[i]? = some x, fun i H x H' => H' = H ∧ ∀ xs, SqT K H a xs → xs[i]? = some x, fun i H => ∃ xs, SqT K H a xs ∧ xs.length ≤ i⟩
/-- lo, lo + 1, .. (n of them) -/
def Itr (lo : Int) (n : Nat) : It := ⟨fun i _ => i < n, fun i H x H' => H' = H ∧ x = .int (lo + i), fun i _ => n ≤ i⟩
theorem turn_list {P : Program} {w : World} {K : PySem.W.Frag} {tg : Expr} (a it : Addr) : Turn P w K tg (Itl K a) [it] it (fun i h => h.IsListIter it a i) where
  mem := by simp
  obj := fun i h st b hb => by
    have e : b = it := by simpa using hb
    subst e
    obtain ⟨o, e, c, d⟩ := st
    exact ⟨o, e, fun v z => by rw [d] at z; cases z⟩
  keep := fun i h h' st k => st.at fun o e => k it (by simp) o e
  item := by
    intro X hP hw hK hc i pins s σ H E I hf st hg
    subst hP hw hK
    obtain ⟨xs, x, hq, hx⟩ := hg
    obtain ⟨its, rv, p, hz⟩ := I.list hq
    obtain ⟨u, hu, ru⟩ := rv.get hx
    obtain ⟨f0, f1, f2, f3, f4, f5⟩ := hf it (by simp)
    refine wpAny_pyNext_list_item st p.isList (x := u) (by simpa using hu) fun h' st' sb => ?_
    have I1 : Inv X pins σ H { s with heap := h' } := I.turned (t' := s.toks) (fun b o hb e => (sb.2 b hb).trans e) f0 f1 f3 f4 f5
    obtain ⟨o, e, c, d⟩ := id st'
    exact ⟨u, rfl, go_of (s := { s with heap := h' }) e c d (by decide) ⟨x, H, I1, ru, ⟨rfl, fun ys hy => by rw [I.list_inj hy hq]; exact hx⟩, st', fun b hb => (hf b hb).1⟩⟩
  done := by
    intro X hP hw hK hc i pins s σ H E I hf st hg
    subst hP hw hK
    obtain ⟨xs, hq, hx⟩ := hg
    obtain ⟨its, rv, p, hz⟩ := I.list hq
    obtain ⟨f0, f1, f2, f3, f4, f5⟩ := hf it (by simp)
    have hl := rv.length
    exact wpAny_pyNext_list_end (I.ok.hd hc) st p.isList (by simp; omega) fun h' eb => ⟨rfl, I.turned (t' := s.toks) (fun b o hb e => eb b o hb e) f0 f1 f3 f4 f5⟩
  self := fun _ _ _ _ _ st h => wpAny_pyIter_listiter st h
theorem turn_tuple {P : Program} {w : World} {K : PySem.W.Frag} {tg : Expr} (a it : Addr) : Turn P w K tg (Itt K a) [it] it (fun i h => h.IsTupleIter it a i) where
  mem := by simp
  obj := fun i h st b hb => by
    have e : b = it := by simpa using hb
    subst e
    obtain ⟨o, e, c, d⟩ := st
    exact ⟨o, e, fun v z => by rw [d] at z; cases z⟩
  keep := fun i h h' st k => st.at fun o e => k it (by simp) o e
  item := by
    intro X hP hw hK hc i pins s σ H E I hf st hg
    subst hP hw hK
    obtain ⟨xs, x, hq, hx⟩ := hg
    obtain ⟨its, rv, p, hz⟩ := I.tuple hq
    obtain ⟨u, hu, ru⟩ := rv.get hx
    obtain ⟨f0, f1, f2, f3, f4, f5⟩ := hf it (by simp)
    refine wpAny_pyNext_tuple_item st (show s.heap.IsTuple a its.toArray from p) (x := u) (by simpa using hu) fun h' st' sb => ?_
    have I1 : Inv X pins σ H { s with heap := h' } := I.turned (t' := s.toks) (fun b o hb e => (sb.2 b hb).trans e) f0 f1 f3 f4 f5
    obtain ⟨o, e, c, d⟩ := id st'
    exact ⟨u, rfl, go_of (s := { s with heap := h' }) e c d (by decide) ⟨x, H, I1, ru, ⟨rfl, fun ys hy => by rw [I.tuple_inj hy hq]; exact hx⟩, st', fun b hb => (hf b hb).1⟩⟩
  done := by
    intro X hP hw hK hc i pins s σ H E I hf st hg
    subst hP hw hK
    obtain ⟨xs, hq, hx⟩ := hg
    obtain ⟨its, rv, p, hz⟩ := I.tuple hq
    obtain ⟨f0, f1, f2, f3, f4, f5⟩ := hf it (by simp)
    have hl := rv.length
    exact wpAny_pyNext_tuple_end (I.ok.hd hc) st (show s.heap.IsTuple a its.toArray from p) (by simp; omega) fun h' eb => ⟨rfl, I.turned (t' := s.toks) (fun b o hb e => eb b o hb e) f0 f1 f3 f4 f5⟩
  self := fun _ _ _ _ _ st h => wpAny_pyIter_tupleiter st h
theorem turn_range {P : Program} {w : World} {K : PySem.W.Frag} {tg : Expr} (it : Addr) (lo : Int) (n : Nat) : Turn P w K tg (Itr lo n) [it] it (fun i h => IsRangeIter h it (lo + (i : Nat) * 1) ((n : Int) - (i : Nat)) 1) where
  mem := by simp
  obj := fun i h st b hb => by
    have e : b = it := by simpa using hb
    subst e
    exact ⟨_, st, fun v z => by
      have z' : Data.fields _ = Data.cell v := z
      cases z'⟩
  keep := fun i h h' st k => k it (by simp) _ st
  item := by
    intro X hP hw hK hc i pins s σ H E I hf st hg
    subst hP hw hK
    obtain ⟨f0, f1, f2, f3, f4, f5⟩ := hf it (by simp)
    have W := Walks.range (prog := X.prog) (w := X.w) (I.ok.hd hc) it lo 1 n
    refine W.item i s _ _ hg st fun v h' tk hv st' kk => ?_
    obtain ⟨t, rfl⟩ := hv
    have I1 : Inv X pins σ H { s with heap := h', toks := tk } := I.turned (fun b o hb e => kk b o (by simpa using hb) e) f0 f1 f3 f4 f5
    refine ⟨_, rfl, go_of (s := { s with heap := h', toks := tk }) (n := "range_iterator") st' rfl rfl (by decide) ⟨.int (lo + i), H, I1, ⟨t, ?_⟩, ⟨rfl, rfl⟩, st', fun b hb => (hf b hb).1⟩⟩
    rw [Int.mul_one]
  done := by
    intro X hP hw hK hc i pins s σ H E I hf st hg
    subst hP hw hK
    obtain ⟨f0, f1, f2, f3, f4, f5⟩ := hf it (by simp)
    exact wpAny_pyNext_range_end (I.ok.hd hc) st (by have : n ≤ i := hg; omega) fun h' eb => ⟨rfl, I.turned (t' := s.toks) (fun b o hb e => eb b o hb e) f0 f1 f3 f4 f5⟩
  self := fun _ _ _ _ _ st h => wpAny_pyIter_rangeiter st h
end L2

namespace L2
open PySem PySem.Spec PyProof.Rows
section
variable {X : Cx} {tg : Expr}
def iList (K : PySem.W.Frag) (tl : TE) : TI := fun σ H R => tl σ H fun x H1 => ∃ a, x = .ref a ∧ (∃ xs, SqL K H1 a xs) ∧ R (Itl K a) H1
def iTup (K : PySem.W.Frag) (tl : TE) : TI := fun σ H R => tl σ H fun x H1 => ∃ a, x = .ref a ∧ (∃ xs, SqT K H1 a xs) ∧ R (Itt K a) H1
theorem pi_list {l : Expr} {tl : TE} (hl : PE X l tl) : PI X tg l (iList X.K tl) := by
  intro pins s σ H R I h
  refine thn (hl pins s σ H _ I h) fun v s1 ⟨x, H1, I1, r1, q1⟩ => ?_
  obtain ⟨a, e, ⟨xs, hq⟩, q⟩ := q1
  subst e
  cases r1
  obtain ⟨its, rv, p, hz⟩ := I1.list hq
  refine wpAny_pyIter_list p.isList ?_
  refine ⟨s1.heap.objs.size, [s1.heap.objs.size], _, _, H1, rfl, I1.kept (t' := s1.toks) fun b o e => Heap.get?_push_of_some _ e, turn_list a _, ⟨_, Heap.get?_push_size _ rfl, rfl, rfl⟩, fun b hb => ?_, q⟩
  have e : b = s1.heap.objs.size := by simpa using hb
  subst e
  exact I1.fpOk (Nat.le_refl _) (I1.hok.fresh (Nat.le_refl _))
theorem pi_tup {l : Expr} {tl : TE} (hl : PE X l tl) : PI X tg l (iTup X.K tl) := by
  intro pins s σ H R I h
  refine thn (hl pins s σ H _ I h) fun v s1 ⟨x, H1, I1, r1, q1⟩ => ?_
  obtain ⟨a, e, ⟨xs, hq⟩, q⟩ := q1
  subst e
  cases r1
  obtain ⟨its, rv, p, hz⟩ := I1.tuple hq
  refine wpAny_pyIter_tuple (show s1.heap.IsTuple a its.toArray from p) ?_
  refine ⟨s1.heap.objs.size, [s1.heap.objs.size], _, _, H1, rfl, I1.kept (t' := s1.toks) fun b o e => Heap.get?_push_of_some _ e, turn_tuple a _, ⟨_, Heap.get?_push_size _ rfl, rfl, rfl⟩, fun b hb => ?_, q⟩
  have e : b = s1.heap.objs.size := by simpa using hb
  subst e
  exact I1.fpOk (Nat.le_refl _) (I1.hok.fresh (Nat.le_refl _))
/-- a range object just made, walked -/
theorem range_it {pins : List (Addr × Obj)} {σ : St} {H : Hp} {s : Shared} {R : It → Hp → Prop} {E : Value → Shared → Prop} {lo hi : Int} {t u v : Tok} {tk : Nat} (I : Inv X pins σ H s) (h1 : -(2 ^ 62) ≤ lo) (h2 : lo < 2 ^ 62) (h3 : -(2 ^ 62) ≤ hi) (h4 : hi < 2 ^ 62)
    (q : R (Itr lo (hi - lo).toNat) H) : wpAny (model X.prog X.w) X.A (pyIter (.ref s.heap.objs.size)) (PIE X pins σ tg R) E { s with heap := s.heap.push { cls := .type "range", data := .fields #[.int lo t, .int hi u, .int 1 v] }, toks := tk } := by
  refine wpAny_pyIter_range (IsRange.new ..) (small_one h1 h2 h3 h4) ?_
  have I1 : Inv X pins σ H { s with heap := s.heap.push { cls := .type "range", data := .fields #[.int lo t, .int hi u, .int 1 v] }, toks := tk } := I.kept fun b o e => Heap.get?_push_of_some _ e
  refine ⟨(s.heap.push { cls := .type "range", data := .fields #[.int lo t, .int hi u, .int 1 v] }).objs.size, [(s.heap.push { cls := .type "range", data := .fields #[.int lo t, .int hi u, .int 1 v] }).objs.size], _, _, H, rfl,
    I1.kept (t' := tk) fun b o e => Heap.get?_push_of_some _ e, turn_range _ lo (hi - lo).toNat, ?_, fun b hb => ?_, q⟩
  · have e1 : lo + ((0 : Nat) : Int) * 1 = lo := by simp
    have e2 : (((hi - lo).toNat : Nat) : Int) - ((0 : Nat) : Int) = Builtin.Range.rangeSize lo hi 1 := by rw [rangeSize_one]; split <;> omega
    show IsRangeIter _ _ (lo + ((0 : Nat) : Int) * 1) ((((hi - lo).toNat : Nat) : Int) - ((0 : Nat) : Int)) 1
    rw [e1, e2]
    exact Heap.get?_push_size _ rfl
  · have e : b = (s.heap.push { cls := .type "range", data := .fields #[.int lo t, .int hi u, .int 1 v] }).objs.size := by simpa using hb
    subst e
    exact I1.fpOk (Nat.le_refl _) (I1.hok.fresh (Nat.le_refl _))
def iRng1 (ta : TA) : TI := fun σ H R => ta σ H fun vs H1 => ∃ j : Int, vs = [.int j] ∧ -(2 ^ 62) ≤ j ∧ j < 2 ^ 62 ∧ R (Itr 0 j.toNat) H1
def iRng2 (ta : TA) : TI := fun σ H R => ta σ H fun vs H1 => ∃ i j : Int, vs = [.int i, .int j] ∧ (-(2 ^ 62) ≤ i ∧ i < 2 ^ 62 ∧ -(2 ^ 62) ≤ j ∧ j < 2 ^ 62) ∧ R (Itr i (j - i).toNat) H1
theorem pi_range1 {a : Expr} {ta : TA} {p pos : Pos} (hg : Gl X "range") (hm : X.mg "range" = none) (ha : PA X [a] ta) (hs : starEach [a] X.env = [(false, eval a X.env)] := by rfl) : PI X tg (.Call (.Name "range" p) [a] [] pos) (iRng1 ta) := by
  intro pins s σ H R I h
  refine Call_ (ld_blt I hg hm boot_range (PyProof.Rows.callWith_type1 (thn (ha pos pins s σ H _ I h) fun us s1 ⟨vs, H1, I1, r1, q1⟩ => ?_) hs rfl))
  obtain ⟨j, e, q1, q2, q⟩ := q1
  subst e
  cases r1 with
  | cons r rr =>
    cases rr
    obtain ⟨t, rfl⟩ := r
    exact call_range_1 (range_it I1 (by omega) (by omega) q1 q2 (by simpa using q))
theorem pi_range2 {a b : Expr} {ta : TA} {p pos : Pos} (hg : Gl X "range") (hm : X.mg "range" = none) (ha : PA X [a, b] ta) (hs : starEach [a, b] X.env = [(false, eval a X.env), (false, eval b X.env)] := by rfl) (hs2 : starEach [b] X.env = [(false, eval b X.env)] := by rfl) :
    PI X tg (.Call (.Name "range" p) [a, b] [] pos) (iRng2 ta) := by
  intro pins s σ H R I h
  refine Call_ (ld_blt I hg hm boot_range (PyProof.Rows.callWith_type1 (thn (ha pos pins s σ H _ I h) fun us s1 ⟨vs, H1, I1, r1, q1⟩ => ?_) (by rw [hs, hs2]) (by rw [hs2]; rfl)))
  obtain ⟨i, j, e, ⟨q1, q2, q3, q4⟩, q⟩ := q1
  subst e
  cases r1 with
  | cons r rr =>
    cases rr with
    | cons r' rr =>
      cases rr
      obtain ⟨t, rfl⟩ := r
      obtain ⟨t', rfl⟩ := r'
      exact call_range_2 (range_it I1 q1 q2 q3 q4 q)

/-! ### for -/
/-- W: the invariant by the turn and a measure; N: what the body is to reach -/
def tFor (wi : TI) (g : TG) (tb : TS) : TS := fun D σ H => wi σ H fun J H1 => ∃ W : Nat → Nat → St → Hp → Prop, (∃ m, W 0 m σ H1) ∧ ∀ i m σ H, W i m σ H →
  (J.stop i H ∧ D.nx σ H) ∨ (J.go i H ∧ ∃ N : St → Hp → Prop, (∀ σ' H', N σ' H' → ∃ m', m' < m ∧ W (i + 1) m' σ' H') ∧ ∀ x H', J.yld i H x H' → g x σ H' fun σ2 H2 => tb { D with nx := N, ct := N, bk := D.nx } σ2 H2)
/-- the records at fp as they stand -/
def pinsAt (fp : List Addr) (h : Heap) : List (Addr × Obj) := fp.filterMap fun b => (h.get? b).map fun o => (b, o)
theorem mem_pinsAt {fp : List Addr} {h : Heap} {b : Addr} {o : Obj} (hb : b ∈ fp) (e : h.get? b = some o) : (b, o) ∈ pinsAt fp h := List.mem_filterMap.mpr ⟨b, hb, by rw [e]; rfl⟩
theorem of_pinsAt {fp : List Addr} {h : Heap} {p : Addr × Obj} (hp : p ∈ pinsAt fp h) : p.1 ∈ fp ∧ h.get? p.1 = some p.2 := by
  obtain ⟨b, hb, e⟩ := List.mem_filterMap.mp hp
  cases q : h.get? b with
  | none => rw [q] at e; cases e
  | some o =>
    rw [q] at e
    have e' : (b, o) = p := Option.some.inj e
    subst e'
    exact ⟨hb, q⟩
theorem Inv.pinned {pins : List (Addr × Obj)} {σ : St} {H : Hp} {s : Shared} {fp : List Addr} (I : Inv X pins σ H s) (hf : ∀ b ∈ fp, FpOk X pins H b) (ho : ∀ b ∈ fp, ∃ o, s.heap.get? b = some o ∧ ∀ v, o.data ≠ .cell v) : Inv X (pins ++ pinsAt fp s.heap) σ H s :=
  I.pins_of fun p hp => (List.mem_append.mp hp).elim (fun z => I.pin p (List.mem_append_right _ z)) fun z => by
    obtain ⟨hb, e⟩ := of_pinsAt z
    obtain ⟨f0, f1, f2, _⟩ := hf p.1 hb
    obtain ⟨o, e', d⟩ := ho p.1 hb
    rw [e] at e'; cases e'
    exact ⟨e, f0, f1, f2, d⟩
theorem Inv.unpinned {pins pl : List (Addr × Obj)} {σ : St} {H : Hp} {s : Shared} (I : Inv X (pins ++ pl) σ H s) : Inv X pins σ H s := I.pins_of fun p hp => I.pin p (List.mem_append_right _ (List.mem_append_left _ hp))
theorem ps_for {iter : Expr} {body : List Stmt} {wi : TI} {g : TG} {tb : TS} {pos : Pos} (hp : PassesOwn (model X.prog X.w) X.A X.env X.xe) (hc : X.calm = true) (hi : PI X tg iter wi) (hg : PG X tg g) (hb : PSs X body tb)
    (hs : ∀ x, foldedSetIterable iter X.env x = pure x := by intro _; rfl) : PS X (.For tg iter body [] pos) (tFor wi g tb) := by
  intro pins s σ H D I h
  refine wpAny_For (thn (hi pins s σ H _ I h) fun v s1 h1 => thn h1 fun itv s2 h2 => ?_) hs
  obtain ⟨it, fp, tn, J, H2, e, I2, T, st2, f2, W, ⟨m0, w0⟩, turn⟩ := h2
  subst e
  -- what stays true of the iterator's objects through the loop
  have stat : ∀ {H' : Hp}, (∀ b ∈ fp, H' b = none) → ∀ b ∈ fp, FpOk X pins H' b := fun hn b hb => ⟨hn b hb, (f2 b hb).2⟩
  refine codeAny_forLoop_any (fun n s' => ∃ i σ' H', Inv X pins σ' H' s' ∧ tn i s'.heap ∧ (∀ b ∈ fp, H' b = none) ∧ W i n σ' H') ?_ m0 ⟨0, σ, H2, I2, st2, fun b hb => (f2 b hb).1, w0⟩
  rintro n s3 ⟨i, σ3, H3, I3, st3, fr3, w3⟩
  rcases turn i n σ3 H3 w3 with ⟨stop, qn⟩ | ⟨go, N, hN, step⟩
  · refine wpAny_passesOwn hp (thn (T.done X rfl rfl rfl hc i pins s3 σ3 H3 X.xe I3 (stat fr3) st3 stop) fun r s4 ⟨hr, I4⟩ => ?_)
    subst hr
    exact wpAny_execs_nil ⟨σ3, H3, I4, qn⟩
  · refine wpAny_passesOwn hp (thn (T.item X rfl rfl rfl hc i pins s3 σ3 H3 X.xe I3 (stat fr3) st3 go) fun r s4 ⟨u, hr, h4⟩ => ?_)
    subst hr
    refine wpAny_passesOwn hp (thn h4 fun _ s5 ⟨x, H5, I5, r5, y5, st5, fr5⟩ => ?_)
    have I5' := I5.pinned (stat fr5) (T.obj _ _ st5)
    refine wpAny_passesOwn hp (thn (hg _ s5 σ3 H5 x u _ I5' r5 (step x H5 y5)) fun _ s6 ⟨σ6, H6, I6, q6⟩ => ?_)
    refine wpAny_passesOwn hp (thn (hb _ s6 σ6 H6 _ I6 q6) fun f s7 q7 => ?_)
    have again : ∀ {σ7 : St} {H7 : Hp}, Inv X (pins ++ pinsAt fp s5.heap) σ7 H7 s7 → N σ7 H7 → ∃ m, m < n ∧ ∃ i σ' H', Inv X pins σ' H' s7 ∧ tn i s7.heap ∧ (∀ b ∈ fp, H' b = none) ∧ W i m σ' H' := fun {σ7 H7} I7 n7 => by
      obtain ⟨m', hm, w7⟩ := hN σ7 H7 n7
      refine ⟨m', hm, i + 1, σ7, H7, I7.unpinned, T.keep _ _ _ st5 fun b hb o e => (I7.pin (b, o) (List.mem_append_right _ (List.mem_append_right _ (mem_pinsAt hb e)))).1, fun b hb => ?_, w7⟩
      obtain ⟨o, e, d⟩ := T.obj _ _ st5 b hb
      exact (I7.pin (b, o) (List.mem_append_right _ (List.mem_append_right _ (mem_pinsAt hb e)))).2.1
    cases f with
    | next => obtain ⟨σ7, H7, I7, n7⟩ := q7; exact again I7 n7
    | cont => obtain ⟨σ7, H7, I7, n7⟩ := q7; exact again I7 n7
    | brk => obtain ⟨σ7, H7, I7, q7⟩ := q7; exact ⟨σ7, H7, I7.unpinned, q7⟩
    | ret v => obtain ⟨x7, σ7, H7, I7, r7, q7⟩ := q7; exact ⟨x7, σ7, H7, I7.unpinned, r7, q7⟩
end

/-! ### the forms one uses -/
/-- over a list that the body leaves as it is -/
theorem for_list {K : PySem.W.Frag} {a : Addr} {xs : List V} {g : TG} {tb : TS} {D : Ends} {σ : St} {H : Hp} (Pv : Nat → St → Hp → Prop) (h0 : Pv 0 σ H) (hl : ∀ i σ H, i ≤ xs.length → Pv i σ H → SqL K H a xs)
    (hs : ∀ i x σ H, xs[i]? = some x → Pv i σ H → g x σ H fun σ2 H2 => tb { D with nx := Pv (i + 1), ct := Pv (i + 1), bk := D.nx } σ2 H2) (hd : ∀ σ H, Pv xs.length σ H → D.nx σ H) :
    ∃ W : Nat → Nat → St → Hp → Prop, (∃ m, W 0 m σ H) ∧ ∀ i m σ H, W i m σ H →
      ((Itl K a).stop i H ∧ D.nx σ H) ∨ ((Itl K a).go i H ∧ ∃ N : St → Hp → Prop, (∀ σ' H', N σ' H' → ∃ m', m' < m ∧ W (i + 1) m' σ' H') ∧ ∀ x H', (Itl K a).yld i H x H' → g x σ H' fun σ2 H2 => tb { D with nx := N, ct := N, bk := D.nx } σ2 H2) := by
  refine ⟨fun i m σ H => m = xs.length - i ∧ i ≤ xs.length ∧ Pv i σ H, ⟨xs.length, by simp, Nat.zero_le _, h0⟩, ?_⟩
  rintro i m σ H ⟨rfl, hi, p⟩
  have q := hl i σ H hi p
  by_cases hlt : i < xs.length
  · refine .inr ⟨⟨xs, xs[i], q, by simp [hlt]⟩, Pv (i + 1), fun σ' H' p' => ⟨xs.length - (i + 1), by omega, rfl, hlt, p'⟩, fun x H' y => ?_⟩
    obtain ⟨e, y⟩ := y
    subst e
    exact hs i x σ _ (y xs q) p
  · have e : i = xs.length := by omega
    subst e
    exact .inl ⟨⟨xs, q, Nat.le_refl _⟩, hd σ H p⟩
theorem for_tup {K : PySem.W.Frag} {a : Addr} {xs : List V} {g : TG} {tb : TS} {D : Ends} {σ : St} {H : Hp} (Pv : Nat → St → Hp → Prop) (h0 : Pv 0 σ H) (hl : ∀ i σ H, i ≤ xs.length → Pv i σ H → SqT K H a xs)
    (hs : ∀ i x σ H, xs[i]? = some x → Pv i σ H → g x σ H fun σ2 H2 => tb { D with nx := Pv (i + 1), ct := Pv (i + 1), bk := D.nx } σ2 H2) (hd : ∀ σ H, Pv xs.length σ H → D.nx σ H) :
    ∃ W : Nat → Nat → St → Hp → Prop, (∃ m, W 0 m σ H) ∧ ∀ i m σ H, W i m σ H →
      ((Itt K a).stop i H ∧ D.nx σ H) ∨ ((Itt K a).go i H ∧ ∃ N : St → Hp → Prop, (∀ σ' H', N σ' H' → ∃ m', m' < m ∧ W (i + 1) m' σ' H') ∧ ∀ x H', (Itt K a).yld i H x H' → g x σ H' fun σ2 H2 => tb { D with nx := N, ct := N, bk := D.nx } σ2 H2) := by
  refine ⟨fun i m σ H => m = xs.length - i ∧ i ≤ xs.length ∧ Pv i σ H, ⟨xs.length, by simp, Nat.zero_le _, h0⟩, ?_⟩
  rintro i m σ H ⟨rfl, hi, p⟩
  have q := hl i σ H hi p
  by_cases hlt : i < xs.length
  · refine .inr ⟨⟨xs, xs[i], q, by simp [hlt]⟩, Pv (i + 1), fun σ' H' p' => ⟨xs.length - (i + 1), by omega, rfl, hlt, p'⟩, fun x H' y => ?_⟩
    obtain ⟨e, y⟩ := y
    subst e
    exact hs i x σ _ (y xs q) p
  · have e : i = xs.length := by omega
    subst e
    exact .inl ⟨⟨xs, q, Nat.le_refl _⟩, hd σ H p⟩
theorem for_range {lo : Int} {n : Nat} {g : TG} {tb : TS} {D : Ends} {σ : St} {H : Hp} (Pv : Nat → St → Hp → Prop) (h0 : Pv 0 σ H)
    (hs : ∀ i σ H, i < n → Pv i σ H → g (.int (lo + i)) σ H fun σ2 H2 => tb { D with nx := Pv (i + 1), ct := Pv (i + 1), bk := D.nx } σ2 H2) (hd : ∀ σ H, Pv n σ H → D.nx σ H) :
    ∃ W : Nat → Nat → St → Hp → Prop, (∃ m, W 0 m σ H) ∧ ∀ i m σ H, W i m σ H →
      ((Itr lo n).stop i H ∧ D.nx σ H) ∨ ((Itr lo n).go i H ∧ ∃ N : St → Hp → Prop, (∀ σ' H', N σ' H' → ∃ m', m' < m ∧ W (i + 1) m' σ' H') ∧ ∀ x H', (Itr lo n).yld i H x H' → g x σ H' fun σ2 H2 => tb { D with nx := N, ct := N, bk := D.nx } σ2 H2) := by
  refine ⟨fun i m σ H => m = n - i ∧ i ≤ n ∧ Pv i σ H, ⟨n, by simp, Nat.zero_le _, h0⟩, ?_⟩
  rintro i m σ H ⟨rfl, hi, p⟩
  by_cases hlt : i < n
  · refine .inr ⟨hlt, Pv (i + 1), fun σ' H' p' => ⟨n - (i + 1), by omega, rfl, hlt, p'⟩, fun x H' y => ?_⟩
    obtain ⟨e, y⟩ := y
    subst e y
    exact hs i σ _ hlt p
  · have e : i = n := by omega
    subst e
    exact .inl ⟨Nat.le_refl _, hd σ H p⟩
/-- while, by a word and a measure of the state -/
theorem while_by {c : TT} {tb : TS} {D : Ends} {σ : St} {H : Hp} (Pv : St → Hp → Prop) (μ : St → Hp → Nat) (h0 : Pv σ H)
    (hs : ∀ σ H, Pv σ H → c σ H fun b H1 => if b = true then tb { D with nx := fun σ' H' => Pv σ' H' ∧ μ σ' H' < μ σ H, ct := fun σ' H' => Pv σ' H' ∧ μ σ' H' < μ σ H, bk := D.nx } σ H1 else D.nx σ H1)
    (mono : ∀ σ H Q Q', (∀ b H1, Q b H1 → Q' b H1) → c σ H Q → c σ H Q') : tWhile c tb D σ H := by
  refine ⟨fun m σ H => m = μ σ H ∧ Pv σ H, ⟨_, rfl, h0⟩, ?_⟩
  rintro m σ H ⟨rfl, p⟩
  refine mono σ H _ _ (fun b H1 q => ?_) (hs σ H p)
  cases b with
  | true => exact ⟨_, fun σ' H' ⟨p', l⟩ => ⟨_, l, rfl, p'⟩, q⟩
  | false => exact q
end L2

namespace L2
open PySem PySem.Spec PyProof.Rows

abbrev R2 := V → V → Hp → VK → Prop
/-- a two-place operation on values: f is binaryOp op, inplaceOp op or compareOp op -/
def OpR (X : Cx) (f : Value → Value → Sem Value) (r : R2) : Prop :=
  ∀ (pins : List (Addr × Obj)) (s : Shared) (σ : St) (H : Hp) (x y : V) (v u : Value) (Q : VK), Inv X pins σ H s → RelV x v → RelV y u → r x y H Q →
    wpAny (model X.prog X.w) X.A (f v u) (EP X pins σ Q) X.xe s
/-- a one-place operation -/
def UnR (X : Cx) (f : Value → Sem Value) (r : V → Hp → VK → Prop) : Prop :=
  ∀ (pins : List (Addr × Obj)) (s : Shared) (σ : St) (H : Hp) (x : V) (v : Value) (Q : VK), Inv X pins σ H s → RelV x v → r x H Q →
    wpAny (model X.prog X.w) X.A (f v) (EP X pins σ Q) X.xe s
/-- a call of a value that is known (a builtin, a type) with values -/
def CallR (X : Cx) (f : Value) (r : List V → Hp → VK → Prop) : Prop :=
  ∀ (pins : List (Addr × Obj)) (s : Shared) (σ : St) (H : Hp) (xs : List V) (us : List Value) (Q : VK), Inv X pins σ H s → Vals xs us → r xs H Q →
    wpAny (model X.prog X.w) X.A (call f us) (EP X pins σ Q) X.xe s
/-- a value's truth -/
def TruR (X : Cx) (r : V → Hp → (Bool → Hp → Prop) → Prop) : Prop :=
  ∀ (pins : List (Addr × Obj)) (s : Shared) (σ : St) (H : Hp) (x : V) (v : Value) (Q : Bool → Hp → Prop), Inv X pins σ H s → RelV x v → r x H Q →
    wpAny (model X.prog X.w) X.A (truthy v) (TP X pins σ Q) X.xe s

def tOp (r : R2) (ta tb : TE) : TE := fun σ H Q => ta σ H fun x H1 => tb σ H1 fun y H2 => r x y H2 Q
def tUn (r : V → Hp → VK → Prop) (ta : TE) : TE := fun σ H Q => ta σ H fun x H1 => r x H1 Q
/-- ints in, under C, and a value out -/
def rI (C : Int → Int → Prop) (g : Int → Int → V) : R2 := fun x y H Q => ∃ i j, x = .int i ∧ y = .int j ∧ C i j ∧ Q (g i j) H
def rI0 (g : Int → Int → V) : R2 := fun x y H Q => ∃ i j, x = .int i ∧ y = .int j ∧ Q (g i j) H
def rU (g : Int → V) : V → Hp → VK → Prop := fun x H Q => ∃ i, x = .int i ∧ Q (g i) H

section
variable {X : Cx} {a b c : Expr} {ta tb tc : TE} {pos : Pos}

theorem binT (ha : PE X a ta) (hb : PE X b tb) {pins : List (Addr × Obj)} {s : Shared} {σ : St} {H : Hp} {R : V → V → Hp → Prop} (I : Inv X pins σ H s)
    (h : ta σ H fun x H1 => tb σ H1 fun y H2 => R x y H2) {Q : Value → Shared → Prop} {f : Value → Value → Sem Value}
    (hf : ∀ v u s2 x y H2, Inv X pins σ H2 s2 → RelV x v → RelV y u → R x y H2 → wpAny (model X.prog X.w) X.A (f v u) Q X.xe s2) :
    wpAny (model X.prog X.w) X.A (eval a X.env) (fun v s₁ => wpAny (model X.prog X.w) X.A (eval b X.env) (fun u s₂ => wpAny (model X.prog X.w) X.A (f v u) Q X.xe s₂) X.xe s₁) X.xe s := by
  refine thn (ha pins s σ H _ I h) fun v s1 ⟨x, H1, I1, r1, q1⟩ => ?_
  refine thn (hb pins s1 σ H1 _ I1 q1) fun u s2 ⟨y, H2, I2, r2, q2⟩ => ?_
  exact hf v u s2 x y H2 I2 r1 r2 q2

theorem pe_op {op : Operator} {r : R2} (ho : OpR X (binaryOp op) r) (ha : PE X a ta) (hb : PE X b tb) : PE X (.BinOp a op b pos) (tOp r ta tb) := by
  intro pins s σ H Q I h
  exact wpAny_BinOp (binT ha hb I h fun v u s2 x y H2 I2 rx ry q => ho pins s2 σ H2 x y v u Q I2 rx ry q)
theorem pe_un {op : UnaryOp} {r : V → Hp → VK → Prop} (ho : UnR X (unaryOp op) r) (ha : PE X a ta) : PE X (.UnaryOp op a pos) (tUn r ta) := by
  intro pins s σ H Q I h
  exact UnaryOp_ (thn (ha pins s σ H _ I h) fun v s1 ⟨x, H1, I1, r1, q1⟩ => ho pins s1 σ H1 x v Q I1 r1 q1)
/-- a op= e at a name: the name's slot i -/
theorem augR {op : Operator} {r : R2} (ho : OpR X (inplaceOp op) r) {pins : List (Addr × Obj)} {s : Shared} {σ : St} {H : Hp} {x y : V} {v u : Value} {Q : VK} (I : Inv X pins σ H s)
    (rx : RelV x v) (ry : RelV y u) (q : r x y H Q) : wpAny (model X.prog X.w) X.A (inplaceOp op v u) (EP X pins σ Q) X.xe s := ho pins s σ H x y v u Q I rx ry q

/-! ### ints -/
theorem opI {f : Value → Value → Sem Value} {C : Int → Int → Prop} {g : Int → Int → Int}
    (rule : ∀ (i j : Int) (t u : Tok) (s : Shared) (Q : Value → Shared → Prop) (E : Value → Shared → Prop), C i j → Q (.int (g i j) s.toks) { s with toks := s.toks + 1 } → wpAny (model X.prog X.w) X.A (f (.int i t) (.int j u)) Q E s) :
    OpR X f (rI C fun i j => .int (g i j)) := by
  intro pins s σ H x y v u Q I rx ry h
  obtain ⟨i, j, rfl, rfl, hc, q⟩ := h
  obtain ⟨t, rfl⟩ := rx
  obtain ⟨t', rfl⟩ := ry
  exact rule i j t t' s _ _ hc ⟨.int (g i j), H, I.tok _, ⟨_, rfl⟩, q⟩
theorem opI0 {f : Value → Value → Sem Value} {g : Int → Int → Int}
    (rule : ∀ (i j : Int) (t u : Tok) (s : Shared) (Q : Value → Shared → Prop) (E : Value → Shared → Prop), Q (.int (g i j) s.toks) { s with toks := s.toks + 1 } → wpAny (model X.prog X.w) X.A (f (.int i t) (.int j u)) Q E s) :
    OpR X f (rI0 fun i j => .int (g i j)) := by
  intro pins s σ H x y v u Q I rx ry h
  obtain ⟨i, j, rfl, rfl, q⟩ := h
  obtain ⟨t, rfl⟩ := rx
  obtain ⟨t', rfl⟩ := ry
  exact rule i j t t' s _ _ ⟨.int (g i j), H, I.tok _, ⟨_, rfl⟩, q⟩
theorem opB0 {f : Value → Value → Sem Value} {g : Int → Int → Bool}
    (rule : ∀ (i j : Int) (t u : Tok) (s : Shared) (Q : Value → Shared → Prop) (E : Value → Shared → Prop), Q (.bool (g i j)) s → wpAny (model X.prog X.w) X.A (f (.int i t) (.int j u)) Q E s) :
    OpR X f (rI0 fun i j => .bl (g i j)) := by
  intro pins s σ H x y v u Q I rx ry h
  obtain ⟨i, j, rfl, rfl, q⟩ := h
  obtain ⟨t, rfl⟩ := rx
  obtain ⟨t', rfl⟩ := ry
  exact rule i j t t' s _ _ ⟨.bl (g i j), H, I, rfl, q⟩

def CDiv (i j : Int) : Prop := 0 < j ∧ j < 1073741824
def CDivN (i j : Int) : Prop := j ≠ 0 ∧ j.natAbs < 1073741824
def CPow (i j : Int) : Prop := 0 ≤ j ∧ j ≤ 1000000 ∧ i.natAbs < 2 ^ 64
def CMul (i j : Int) : Prop := (-(2 ^ 64) < i ∧ i < 2 ^ 64) ∨ (-(2 ^ 64) < j ∧ j < 2 ^ 64)
theorem CMul.ok {i j : Int} (h : CMul i j) : IntMulOk i j := by
  rcases h with ⟨h1, h2⟩ | ⟨h1, h2⟩
  · exact .of_left (intBits_le_64 h1 h2)
  · exact .of_right (intBits_le_64 h1 h2)
theorem two_pow_nn (k : Nat) : (0 : Int) ≤ 2 ^ k := by
  rw [two_pow_cast]
  exact Int.natCast_nonneg _

theorem op_add : OpR X (binaryOp .Add) (rI0 fun i j => .int (i + j)) := opI0 fun _ _ _ _ _ _ _ q => add_int q
theorem op_sub : OpR X (binaryOp .Sub) (rI0 fun i j => .int (i - j)) := opI0 fun _ _ _ _ _ _ _ q => sub_int q
theorem op_mul : OpR X (binaryOp .Mult) (rI CMul fun i j => .int (i * j)) := opI fun _ _ _ _ _ _ _ hc q => mul_int q hc.ok
/-- // by a positive divisor -/
theorem op_fdiv : OpR X (binaryOp .FloorDiv) (rI CDiv fun i j => .int (i / j)) := opI fun i j _ _ _ _ _ hc q => by
  have h1 : (0 : Int) < j := hc.1
  have h2 : j < 1073741824 := hc.2
  exact floordiv_int (by omega) (by rw [Int.fdiv_eq_ediv_of_nonneg i (by omega)]; exact q) (.inl (PyProof.noPylong_small (by omega)))
theorem op_fdivN : OpR X (binaryOp .FloorDiv) (rI CDivN fun i j => .int (i.fdiv j)) := opI fun _ _ _ _ _ _ _ hc q => floordiv_int hc.1 q (.inl (PyProof.noPylong_small hc.2))
/-- % by a positive divisor of any size -/
theorem op_mod : OpR X (binaryOp .Mod) (rI (fun _ j => 0 < j) fun i j => .int (i % j)) := opI fun i j _ _ _ _ _ hc q => by
  have h1 : (0 : Int) < j := hc
  exact mod_int' (by omega) (by rw [Int.fmod_eq_emod_of_nonneg i (by omega)]; exact q)
theorem op_modN : OpR X (binaryOp .Mod) (rI (fun _ j => j ≠ 0) fun i j => .int (i.fmod j)) := opI fun _ _ _ _ _ _ _ hc q => mod_int' hc q
theorem op_pow : OpR X (binaryOp .Pow) (rI CPow fun i j => .int (i ^ j.toNat)) := opI fun _ _ _ _ _ _ _ hc q => pow_int_small hc.1 hc.2.1 hc.2.2 q
theorem op_shl : OpR X (binaryOp .LShift) (rI CPow fun i j => .int (i * 2 ^ j.toNat)) := opI fun _ _ _ _ _ _ _ hc q => lshift_int_small hc.1 hc.2.1 hc.2.2 q
theorem op_shr : OpR X (binaryOp .RShift) (rI (fun _ j => 0 ≤ j) fun i j => .int (i / 2 ^ j.toNat)) := opI fun i j _ _ _ _ _ hc q =>
  rshift_int hc (by rw [Int.fdiv_eq_ediv_of_nonneg i (two_pow_nn _)]; exact q)
theorem op_and : OpR X (binaryOp .BitAnd) (rI0 fun i j => .int (Builtin.bitAnd i j)) := opI0 fun _ _ _ _ _ _ _ q => and_int q
theorem op_or : OpR X (binaryOp .BitOr) (rI0 fun i j => .int (Builtin.bitOr i j)) := opI0 fun _ _ _ _ _ _ _ q => or_int q
theorem op_xor : OpR X (binaryOp .BitXor) (rI0 fun i j => .int (Builtin.bitXor i j)) := opI0 fun _ _ _ _ _ _ _ q => xor_int q

theorem iop_add : OpR X (inplaceOp .Add) (rI0 fun i j => .int (i + j)) := opI0 fun _ _ _ _ _ _ _ q => iadd_int q
theorem iop_sub : OpR X (inplaceOp .Sub) (rI0 fun i j => .int (i - j)) := opI0 fun _ _ _ _ _ _ _ q => isub_int q
theorem iop_mul : OpR X (inplaceOp .Mult) (rI CMul fun i j => .int (i * j)) := opI fun _ _ _ _ _ _ _ hc q => imul_int q hc.ok
theorem iop_fdiv : OpR X (inplaceOp .FloorDiv) (rI CDiv fun i j => .int (i / j)) := opI fun i j _ _ _ _ _ hc q => by
  have h1 : (0 : Int) < j := hc.1
  have h2 : j < 1073741824 := hc.2
  exact ifloordiv_int (by omega) (by rw [Int.fdiv_eq_ediv_of_nonneg i (by omega)]; exact q) (.inl (PyProof.noPylong_small (by omega)))
theorem iop_mod : OpR X (inplaceOp .Mod) (rI (fun _ j => 0 < j) fun i j => .int (i % j)) := opI fun i j _ _ _ _ _ hc q => by
  have h1 : (0 : Int) < j := hc
  exact imod_int (by omega) (by rw [Int.fmod_eq_emod_of_nonneg i (by omega)]; exact q)
theorem iop_shl : OpR X (inplaceOp .LShift) (rI CPow fun i j => .int (i * 2 ^ j.toNat)) := opI fun _ _ _ _ _ _ _ hc q => ilshift_int_small hc.1 hc.2.1 hc.2.2 q
theorem iop_shr : OpR X (inplaceOp .RShift) (rI (fun _ j => 0 ≤ j) fun i j => .int (i / 2 ^ j.toNat)) := opI fun i j _ _ _ _ _ hc q =>
  irshift_int hc (by rw [Int.fdiv_eq_ediv_of_nonneg i (two_pow_nn _)]; exact q)
theorem iop_and : OpR X (inplaceOp .BitAnd) (rI0 fun i j => .int (Builtin.bitAnd i j)) := opI0 fun _ _ _ _ _ _ _ q => iand_int q
theorem iop_or : OpR X (inplaceOp .BitOr) (rI0 fun i j => .int (Builtin.bitOr i j)) := opI0 fun _ _ _ _ _ _ _ q => ior_int q
theorem iop_xor : OpR X (inplaceOp .BitXor) (rI0 fun i j => .int (Builtin.bitXor i j)) := opI0 fun _ _ _ _ _ _ _ q => ixor_int q

theorem unI {f : Value → Sem Value} {g : Int → Int}
    (rule : ∀ (i : Int) (t : Tok) (s : Shared) (Q : Value → Shared → Prop) (E : Value → Shared → Prop), Q (.int (g i) s.toks) { s with toks := s.toks + 1 } → wpAny (model X.prog X.w) X.A (f (.int i t)) Q E s) :
    UnR X f (rU fun i => .int (g i)) := by
  intro pins s σ H x v Q I rx h
  obtain ⟨i, rfl, q⟩ := h
  obtain ⟨t, rfl⟩ := rx
  exact rule i t s _ _ ⟨.int (g i), H, I.tok _, ⟨_, rfl⟩, q⟩
theorem un_neg : UnR X (unaryOp .USub) (rU fun i => .int (-i)) := unI fun _ _ _ _ _ q => neg_int q
theorem un_inv : UnR X (unaryOp .Invert) (rU fun i => .int (Builtin.bitNot i)) := unI fun _ _ _ _ _ q => invert_int q

/-! ### bools among ints: n += (a < b) -/
theorem op_add_ib : OpR X (binaryOp .Add) (fun x y H Q => ∃ i k, x = .int i ∧ y = .bl k ∧ Q (.int (i + b2i k)) H) := by
  intro pins s σ H x y v u Q I rx ry h
  obtain ⟨i, k, rfl, rfl, q⟩ := h
  obtain ⟨t, rfl⟩ := rx
  cases ry
  exact add_int_bool ⟨.int (i + b2i k), H, I.tok _, ⟨_, rfl⟩, q⟩
end

/-! ### comparisons -/
/-- the scalars that == tells apart as data does -/
def scal : V → V → Bool
  | .non, .non => true | .non, .int _ => true | .int _, .non => true | .non, .bl _ => true | .bl _, .non => true | .non, .str _ => true | .str _, .non => true
  | .int _, .int _ => true | .bl _, .bl _ => true | .str _, .str _ => true | .byt _, .byt _ => true
  | .int _, .str _ => true | .str _, .int _ => true | .bl _, .str _ => true | .str _, .bl _ => true
  | _, _ => false
def rEq : R2 := fun x y H Q => scal x y = true ∧ Q (.bl (decide (x = y))) H
def rNe : R2 := fun x y H Q => scal x y = true ∧ Q (.bl (!decide (x = y))) H

theorem dec_int {i j : Int} : decide (V.int i = V.int j) = (i == j) := by
  rw [Bool.eq_iff_iff]
  simp
theorem dec_bl {i j : Bool} : decide (V.bl i = V.bl j) = (i == j) := by
  rw [Bool.eq_iff_iff]
  simp
theorem dec_str {i j : Str} : decide (V.str i = V.str j) = (i == j) := by
  rw [Bool.eq_iff_iff]
  simp
theorem dec_byt {i j : Array UInt8} : decide (V.byt i = V.byt j) = (i.toList == j.toList) := by
  rw [Bool.eq_iff_iff]
  cases i
  cases j
  simp

section
variable {X : Cx} {a b c : Expr} {ta tb tc : TE} {pos : Pos}
theorem fin_bl {pins : List (Addr × Obj)} {σ : St} {H : Hp} {s : Shared} {Q : VK} {k k' : Bool} (I : Inv X pins σ H s) (q : Q (.bl k) H) (e : k = k') : EP X pins σ Q (.bool k') s := by
  subst e
  exact ⟨.bl k, H, I, rfl, q⟩
theorem op_eq : OpR X (compareOp .Eq) rEq := by
  intro pins s σ H x y v u Q I rx ry h
  obtain ⟨hs, q⟩ := h
  cases x with
  | non =>
    cases rx
    cases y with
    | non => cases ry; exact PySem.EqNone.eq_none_none (fin_bl I q (by simp))
    | bl j => cases ry; exact PySem.EqNone.eq_none_bool (fin_bl I q (by simp))
    | int j => obtain ⟨t', rfl⟩ := ry; exact PySem.EqNone.eq_none_int (fin_bl I q (by simp))
    | str j => obtain ⟨t', rfl⟩ := ry; exact PySem.EqNone.eq_none_str (fin_bl I q (by simp))
    | _ => exact absurd (show false = true from hs) Bool.false_ne_true
  | bl i =>
    cases rx
    cases y with
    | non => cases ry; exact PySem.EqNone.eq_bool_none (fin_bl I q (by simp))
    | bl j => cases ry; exact eq_bool (fin_bl I q dec_bl)
    | str j => obtain ⟨t', rfl⟩ := ry; exact PySem.EqMixed.eq_bool_str (fin_bl I q (by simp))
    | _ => exact absurd (show false = true from hs) Bool.false_ne_true
  | int i =>
    obtain ⟨t, rfl⟩ := rx
    cases y with
    | non => cases ry; exact PySem.EqNone.eq_int_none (fin_bl I q (by simp))
    | int j => obtain ⟨t', rfl⟩ := ry; exact eq_int (fin_bl I q dec_int)
    | str j => obtain ⟨t', rfl⟩ := ry; exact PySem.EqMixed.eq_int_str (fin_bl I q (by simp))
    | _ => exact absurd (show false = true from hs) Bool.false_ne_true
  | str i =>
    obtain ⟨t, rfl⟩ := rx
    cases y with
    | non => cases ry; exact PySem.EqNone.eq_str_none (fin_bl I q (by simp))
    | bl j => cases ry; exact PySem.EqMixed.eq_str_bool (fin_bl I q (by simp))
    | int j => obtain ⟨t', rfl⟩ := ry; exact PySem.EqMixed.eq_str_int (fin_bl I q (by simp))
    | str j => obtain ⟨t', rfl⟩ := ry; exact eq_str (fin_bl I q dec_str)
    | _ => exact absurd (show false = true from hs) Bool.false_ne_true
  | byt i =>
    obtain ⟨t, rfl⟩ := rx
    cases y with
    | byt j => obtain ⟨t', rfl⟩ := ry; exact PySem.W.eq_bytes (fin_bl I q dec_byt)
    | _ => exact absurd (show false = true from hs) Bool.false_ne_true
  | _ => cases y <;> exact absurd (show false = true from hs) Bool.false_ne_true
theorem op_ne : OpR X (compareOp .NotEq) rNe := by
  intro pins s σ H x y v u Q I rx ry h
  obtain ⟨hs, q⟩ := h
  cases x with
  | non =>
    cases rx
    cases y with
    | non => cases ry; exact PySem.EqNone.ne_none_none (fin_bl I q (by simp))
    | bl j => cases ry; exact PySem.EqNone.ne_none_bool (fin_bl I q (by simp))
    | int j => obtain ⟨t', rfl⟩ := ry; exact PySem.EqNone.ne_none_int (fin_bl I q (by simp))
    | str j => obtain ⟨t', rfl⟩ := ry; exact PySem.EqNone.ne_none_str (fin_bl I q (by simp))
    | _ => exact absurd (show false = true from hs) Bool.false_ne_true
  | bl i =>
    cases rx
    cases y with
    | non => cases ry; exact PySem.EqNone.ne_bool_none (fin_bl I q (by simp))
    | bl j => cases ry; exact ne_bool (fin_bl I q (congrArg not dec_bl))
    | str j => obtain ⟨t', rfl⟩ := ry; exact PySem.EqMixed.ne_bool_str (fin_bl I q (by simp))
    | _ => exact absurd (show false = true from hs) Bool.false_ne_true
  | int i =>
    obtain ⟨t, rfl⟩ := rx
    cases y with
    | non => cases ry; exact PySem.EqNone.ne_int_none (fin_bl I q (by simp))
    | int j => obtain ⟨t', rfl⟩ := ry; exact ne_int (fin_bl I q (congrArg not dec_int))
    | str j => obtain ⟨t', rfl⟩ := ry; exact PySem.EqMixed.ne_int_str (fin_bl I q (by simp))
    | _ => exact absurd (show false = true from hs) Bool.false_ne_true
  | str i =>
    obtain ⟨t, rfl⟩ := rx
    cases y with
    | non => cases ry; exact PySem.EqNone.ne_str_none (fin_bl I q (by simp))
    | bl j => cases ry; exact PySem.EqMixed.ne_str_bool (fin_bl I q (by simp))
    | int j => obtain ⟨t', rfl⟩ := ry; exact PySem.EqMixed.ne_str_int (fin_bl I q (by simp))
    | str j => obtain ⟨t', rfl⟩ := ry; exact ne_str (fin_bl I q (congrArg not dec_str))
    | _ => exact absurd (show false = true from hs) Bool.false_ne_true
  | byt i =>
    obtain ⟨t, rfl⟩ := rx
    cases y with
    | byt j => obtain ⟨t', rfl⟩ := ry; exact PySem.W.ne_bytes (fin_bl I q (congrArg not dec_byt))
    | _ => exact absurd (show false = true from hs) Bool.false_ne_true
  | _ => cases y <;> exact absurd (show false = true from hs) Bool.false_ne_true

theorem op_lt : OpR X (compareOp .Lt) (rI0 fun i j => .bl (decide (i < j))) := opB0 fun _ _ _ _ _ _ _ q => lt_int q
theorem op_le : OpR X (compareOp .LtE) (rI0 fun i j => .bl (decide (i ≤ j))) := opB0 fun _ _ _ _ _ _ _ q => le_int q
theorem op_gt : OpR X (compareOp .Gt) (rI0 fun i j => .bl (decide (j < i))) := opB0 fun _ _ _ _ _ _ _ q => gt_int q
theorem op_ge : OpR X (compareOp .GtE) (rI0 fun i j => .bl (decide (j ≤ i))) := opB0 fun _ _ _ _ _ _ _ q => ge_int q
theorem op_lt_str : OpR X (compareOp .Lt) (fun x y H Q => ∃ i j, x = .str i ∧ y = .str j ∧ Q (.bl (decide (i.cps.toList < j.cps.toList))) H) := by
  intro pins s σ H x y v u Q I rx ry h
  obtain ⟨i, j, rfl, rfl, q⟩ := h
  obtain ⟨t, rfl⟩ := rx
  obtain ⟨t', rfl⟩ := ry
  exact lt_str (fin_bl I q rfl)
/-- the one string within the other -/
theorem op_in_str : OpR X (compareOp .In) (fun x y H Q => ∃ i j, x = .str i ∧ y = .str j ∧ Q (.bl (!(Builtin.Str.occurrences j i 0 j.length 1).isEmpty)) H) := by
  intro pins s σ H x y v u Q I rx ry h
  obtain ⟨i, j, rfl, rfl, q⟩ := h
  obtain ⟨t, rfl⟩ := rx
  obtain ⟨t', rfl⟩ := ry
  exact in_str (fin_bl I q rfl)

/-- is None, is not None: the right side a value none -/
theorem op_isN : OpR X (compareOp .Is) (fun x y H Q => y = .non ∧ Q (.bl (decide (x = .non))) H) := by
  intro pins s σ H x y v u Q I rx ry h
  obtain ⟨rfl, q⟩ := h
  cases ry
  refine is_none_gen (fin_bl I q ?_)
  cases x <;> first
    | (cases rx; rfl)
    | (obtain ⟨t, rfl⟩ := rx; rfl)
theorem op_notN : OpR X (compareOp .IsNot) (fun x y H Q => y = .non ∧ Q (.bl (!decide (x = .non))) H) := by
  intro pins s σ H x y v u Q I rx ry h
  obtain ⟨rfl, q⟩ := h
  cases ry
  refine isnot_none_gen (fin_bl I q ?_)
  cases x <;> first
    | (cases rx; rfl)
    | (obtain ⟨t, rfl⟩ := rx; rfl)

theorem op_notin_str : OpR X (compareOp .NotIn) (fun x y H Q => ∃ i j, x = .str i ∧ y = .str j ∧ Q (.bl (!(!(Builtin.Str.occurrences j i 0 j.length 1).isEmpty))) H) := by
  intro pins s σ H x y v u Q I rx ry h
  obtain ⟨i, j, rfl, rfl, q⟩ := h
  obtain ⟨t, rfl⟩ := rx
  obtain ⟨t', rfl⟩ := ry
  exact notIn_str (fin_bl I q rfl)
/-- is, is not of two objects that are tracked lists or instances -/
def isObj : HO → Bool
  | .lst _ => true
  | .ins _ _ _ => true
  | _ => false
theorem obj_there {pins : List (Addr × Obj)} {s : Shared} {σ : St} {H : Hp} {a : Addr} {o : HO} (I : Inv X pins σ H s) (h : H a = some o) (p : isObj o = true) : ∃ ob, s.heap.get? a = some ob ∧ ob.cls ≠ .type "tuple" := by
  cases o with
  | lst xs =>
    obtain ⟨_, its, n, _, e⟩ : xs.length ≤ sizeLine ∧ ∃ (its : List Value) (n : Nat), Vals xs its ∧ s.heap.get? a = some { cls := .type "list", data := .seq its.toArray n } := I.hok a _ h
    exact ⟨_, e, (by show Value.type "list" ≠ .type "tuple"; decide +kernel)⟩
  | ins C dx fs =>
    have x := I.hok a _ h
    obtain ⟨_, _, _, e, _⟩ := x
    exact ⟨_, e, (by show Value.ref C ≠ .type "tuple"; exact fun z => by cases z)⟩
  | _ => exact absurd (show false = true from p) Bool.false_ne_true
theorem op_is_ref : OpR X (compareOp .Is) (fun x y H Q => ∃ a b oa ob, x = .ref a ∧ y = .ref b ∧ H a = some oa ∧ isObj oa = true ∧ H b = some ob ∧ isObj ob = true ∧ Q (.bl (decide (a = b))) H) := by
  intro pins s σ H x y v u Q I rx ry h
  obtain ⟨a, b, oa, ob, rfl, rfl, ha, pa, hb, pb, q⟩ := h
  cases rx
  cases ry
  obtain ⟨o1, e1, n1⟩ := obj_there I ha pa
  obtain ⟨o2, e2, _⟩ := obj_there I hb pb
  by_cases z : a = b
  · subst z
    exact wpAny_is_ref_self (fin_bl I q (by simp))
  · exact wpAny_is_ref_other z e1 e2 n1 (fin_bl I q (by simp [z]))
theorem op_isnot_ref : OpR X (compareOp .IsNot) (fun x y H Q => ∃ a b oa ob, x = .ref a ∧ y = .ref b ∧ H a = some oa ∧ isObj oa = true ∧ H b = some ob ∧ isObj ob = true ∧ Q (.bl (!decide (a = b))) H) := by
  intro pins s σ H x y v u Q I rx ry h
  obtain ⟨a, b, oa, ob, rfl, rfl, ha, pa, hb, pb, q⟩ := h
  cases rx
  cases ry
  obtain ⟨o1, e1, n1⟩ := obj_there I ha pa
  obtain ⟨o2, e2, _⟩ := obj_there I hb pb
  by_cases z : a = b
  · subst z
    exact wpAny_isNot_ref_self (fin_bl I q (by simp))
  · exact wpAny_isNot_ref_other z e1 e2 n1 (fin_bl I q (by simp [z]))

/-- two rules for one operation: by cases -/
theorem OpR.or {f : Value → Value → Sem Value} {r r' : R2} (h : OpR X f r) (h' : OpR X f r') : OpR X f (fun x y H Q => r x y H Q ∨ r' x y H Q) := by
  intro pins s σ H x y v u Q I rx ry q
  rcases q with q | q
  · exact h pins s σ H x y v u Q I rx ry q
  · exact h' pins s σ H x y v u Q I rx ry q

theorem nomark (b : Expr) {op : CmpOp} (h : op ≠ .In := by decide) (h2 : op ≠ .NotIn := by decide) : behindInMarks op b = false := by
  have e1 : (op == CmpOp.In) = false := by cases op <;> first | rfl | exact absurd rfl h
  have e2 : (op == CmpOp.NotIn) = false := by cases op <;> first | rfl | exact absurd rfl h2
  cases b <;> simp [behindInMarks, e1, e2]
/-- a comparison as a value; hm: nomark b, or (for in, not in) by with_unfolding_all rfl -/
theorem pe_cmpR {op : CmpOp} {r : R2} (ho : OpR X (compareOp op) r) (ha : PE X a ta) (hb : PE X b tb) (hm : behindInMarks op b = false) : PE X (.Compare a [op] [b] pos) (tOp r ta tb) := by
  intro pins s σ H Q I h
  exact wpAny_Compare1 (binT ha hb I h fun v u s2 x y H2 I2 rx ry q => ho pins s2 σ H2 x y v u Q I2 rx ry q) hm
/-- a reading of a value as a test -/
def tTest (t : TE) : TT := fun σ H Q => t σ H fun x H' => ∃ k, x = .bl k ∧ Q k H'
theorem pt_cmpR {op : CmpOp} {r : R2} (ho : OpR X (compareOp op) r) (ha : PE X a ta) (hb : PE X b tb) (hm : behindInMarks op b = false) : PT X (.Compare a [op] [b] pos) (tTest (tOp r ta tb)) := by
  intro pins s σ H Q I h
  refine wpAny_isTrue_Compare1 (thn (ha pins s σ H _ I h) fun v s1 ⟨x, H1, I1, r1, q1⟩ => thn (hb pins s1 σ H1 _ I1 q1) fun u s2 ⟨y, H2, I2, r2, q2⟩ =>
    thn (ho pins s2 σ H2 x y v u _ I2 r1 r2 q2) fun c s3 ⟨z, H3, I3, r3, k, e, q3⟩ => ?_) hm
  subst e
  cases r3
  exact wpAny_truthy_bool ⟨H3, I3, q3⟩
/-- a op1 b op2 c -/
def tChain (r r' : R2) (ta tb tc : TE) : TE := fun σ H Q => ta σ H fun x H1 => tb σ H1 fun y H2 => r x y H2 fun z H3 => ∃ k, z = .bl k ∧
  (if k = true then tc σ H3 fun w' H4 => r' y w' H4 Q else Q (.bl false) H3)
theorem pe_chain {op op' : CmpOp} {r r' : R2} (ho : OpR X (compareOp op) r) (ho' : OpR X (compareOp op') r') (ha : PE X a ta) (hb : PE X b tb) (hc : PE X c tc)
    (hm : lastMarks [op, op'] [b, c] = false := by with_unfolding_all rfl) : PE X (.Compare a [op, op'] [b, c] pos) (tChain r r' ta tb tc) := by
  intro pins s σ H Q I h
  refine Compare_chain (thn (ha pins s σ H _ I h) fun v s1 ⟨x, H1, I1, r1, q1⟩ => chain_link (thn (hb pins s1 σ H1 _ I1 q1) fun u s2 ⟨y, H2, I2, r2, q2⟩ =>
    thn (ho pins s2 σ H2 x y v u _ I2 r1 r2 q2) fun d s3 ⟨z, H3, I3, r3, k, e, q3⟩ => ?_)) hm
  subst e
  cases r3
  refine wpAny_truthy_bool ?_
  cases k with
  | false => exact ite_ff ⟨.bl false, H3, I3, rfl, q3⟩
  | true => exact ite_tt (chain_last (thn (hc pins s3 σ H3 _ I3 q3) fun w' s4 ⟨z', H4, I4, r4, q4⟩ => ho' pins s4 σ H4 y z' u w' Q I4 r2 r4 q4))
theorem pt_chain {op op' : CmpOp} {r r' : R2} (ho : OpR X (compareOp op) r) (ho' : OpR X (compareOp op') r') (ha : PE X a ta) (hb : PE X b tb) (hc : PE X c tc)
    (hm : lastMarks [op, op'] [b, c] = false := by with_unfolding_all rfl) : PT X (.Compare a [op, op'] [b, c] pos) (tTest (tChain r r' ta tb tc)) := by
  intro pins s σ H Q I h
  refine isTrue_chain (thn (ha pins s σ H _ I h) fun v s1 ⟨x, H1, I1, r1, q1⟩ => test_link (thn (hb pins s1 σ H1 _ I1 q1) fun u s2 ⟨y, H2, I2, r2, q2⟩ =>
    thn (ho pins s2 σ H2 x y v u _ I2 r1 r2 q2) fun d s3 ⟨z, H3, I3, r3, k, e, q3⟩ => ?_)) hm
  subst e
  cases r3
  refine wpAny_truthy_bool ?_
  cases k with
  | false =>
    obtain ⟨k', e', q'⟩ := q3
    cases e'
    exact ite_ff ⟨H3, I3, q'⟩
  | true =>
    refine ite_tt (test_last (thn (hc pins s3 σ H3 _ I3 q3) fun w' s4 ⟨z', H4, I4, r4, q4⟩ => thn (ho' pins s4 σ H4 y z' u w' _ I4 r2 r4 q4) fun d' s5 ⟨z2, H5, I5, r5, k2, e2, q5⟩ => ?_))
    subst e2
    cases r5
    exact wpAny_truthy_bool ⟨H5, I5, q5⟩

/-! ### truth -/
/-- a value's truth by the abstract heap -/
def TruV (K : PySem.W.Frag) (x : V) (H : Hp) (k : Bool) : Prop :=
  match x with
  | .non => k = false
  | .bl b => k = b
  | .int i => k = (i != 0)
  | .str y => y.length ≤ sizeLine ∧ k = ((y.length : Int) != 0)
  | .byt y => y.size ≤ sizeLine ∧ k = ((y.size : Int) != 0)
  | .ref p => (∃ xs, SqL K H p xs ∧ k = !xs.isEmpty) ∨ (∃ xs, SqT K H p xs ∧ k = !xs.isEmpty) ∨ ∃ kvs, H p = some (.dK kvs) ∧ k = !kvs.isEmpty
  | _ => False
theorem isEmpty_kv {κ : Type} {kvs : List (κ × V)} {vs : List (κ × Value)} (r : KV kvs vs) : (!vs.isEmpty) = !kvs.isEmpty := by
  cases r <;> rfl
theorem isEmpty_of {xs : List V} {its : List Value} (r : Vals xs its) : (!its.toArray.isEmpty) = !xs.isEmpty := by
  cases r <;> simp
theorem line63 : (sizeLine : Nat) < 2 ^ 63 := by rw [sizeLine_eq]; decide
theorem tru_ok : TruR X (fun x H Q => ∃ k, TruV X.K x H k ∧ Q k H) := by
  intro pins s σ H x v Q I rx h
  obtain ⟨k, e, q⟩ := h
  have hl := line63
  have hs : sizeLine = 16777216 := sizeLine_eq
  cases x with
  | non =>
    cases rx
    have e' : k = false := e
    subst e'
    exact truthy_none ⟨H, I, q⟩
  | bl b =>
    cases rx
    have e' : k = b := e
    subst e'
    exact wpAny_truthy_bool ⟨H, I, q⟩
  | int i =>
    obtain ⟨t, rfl⟩ := rx
    have e' : k = (i != 0) := e
    subst e'
    exact PySem.P.truthy_int ⟨H, I, q⟩
  | str y =>
    obtain ⟨t, rfl⟩ := rx
    obtain ⟨hy, e'⟩ : y.length ≤ sizeLine ∧ k = ((y.length : Int) != 0) := e
    subst e'
    exact PySem.P.truthy_str (by omega) ⟨H, I.tok _, q⟩
  | byt y =>
    obtain ⟨t, rfl⟩ := rx
    obtain ⟨hy, e'⟩ : y.size ≤ sizeLine ∧ k = ((y.size : Int) != 0) := e
    subst e'
    exact PySem.W.truthy_bytes (by omega) ⟨H, I.tok _, q⟩
  | ref p =>
    cases rx
    have e' : (∃ xs, SqL X.K H p xs ∧ k = !xs.isEmpty) ∨ (∃ xs, SqT X.K H p xs ∧ k = !xs.isEmpty) ∨ ∃ kvs, H p = some (.dK kvs) ∧ k = !kvs.isEmpty := e
    rcases e' with ⟨xs, hx, e'⟩ | ⟨xs, hx, e'⟩ | ⟨kvs, hx, e'⟩
    · subst e'
      obtain ⟨its, r, pl, hz⟩ := I.list hx
      have hlen := r.length
      exact wpAny_truthy_list pl.isList (by simp only [List.size_toArray]; omega) ⟨H, I.tok _, by rw [isEmpty_of r]; exact q⟩
    · subst e'
      obtain ⟨its, r, pl, hz⟩ := I.tuple hx
      have hlen := r.length
      exact truthy_tuple pl (by simp only [List.size_toArray]; omega) ⟨H, I.tok _, by rw [isEmpty_of r]; exact q⟩
    · subst e'
      obtain ⟨hz, hS, vs, r, m⟩ : kvs.length ≤ sizeLine ∧ (p == sysModules) = false ∧ ∃ vs, KV kvs vs ∧ s.heap.DictOf (mixKind X.prog X.w) p vs := I.hok p _ hx
      have hlen : kvs.length = vs.length := Paired.length r
      exact wpAny_truthy_dict hS m (by omega) ⟨H, I.tok _, by rw [isEmpty_kv r]; exact q⟩
  | _ => exact (show False from e).elim
/-- any expression whose test is its value's truth (a name, a call, a subscript, a field ..: he by fun _ => rfl) -/
theorem pt_truth (ha : PE X a ta) (he : ∀ whole, isTrue a X.env whole = (do let v ← whole; standAt a.pos; holding [v] (truthy v))) :
    PT X a (fun σ H Q => ta σ H fun x H' => ∃ k, TruV X.K x H' k ∧ Q k H') := by
  intro pins s σ H Q I h
  exact isTrue_plain (thn (ha pins s σ H _ I h) fun v s1 ⟨x, H1, I1, r1, q1⟩ => tru_ok pins s1 σ H1 x v Q I1 r1 q1) (he _)

/-! ### strs and bytes -/
theorem pe_byt {x : List UInt8} {k : Nat} : PE X (.Constant (.bytes x) k pos) (fun _ H Q => Q (.byt x.toArray) H) := fun _ _ _ H _ I h => PySem.W.Constant_bytes ⟨.byt x.toArray, H, I.tok _, ⟨_, rfl⟩, h⟩
theorem op_add_str : OpR X (binaryOp .Add) (fun x y H Q => ∃ i j, x = .str i ∧ y = .str j ∧ i.length + j.length ≤ sizeLine ∧ Q (.str (i ++ j)) H) := by
  intro pins s σ H x y v u Q I rx ry h
  obtain ⟨i, j, rfl, rfl, hz, q⟩ := h
  obtain ⟨t, rfl⟩ := rx
  obtain ⟨t', rfl⟩ := ry
  exact add_str (fun t' tk => ⟨.str (i ++ j), H, I.tok _, ⟨_, rfl⟩, q⟩) hz
theorem iop_add_str : OpR X (inplaceOp .Add) (fun x y H Q => ∃ i j, x = .str i ∧ y = .str j ∧ i.length + j.length ≤ sizeLine ∧ Q (.str (i ++ j)) H) := by
  intro pins s σ H x y v u Q I rx ry h
  obtain ⟨i, j, rfl, rfl, hz, q⟩ := h
  obtain ⟨t, rfl⟩ := rx
  obtain ⟨t', rfl⟩ := ry
  exact iadd_str (fun t' tk => ⟨.str (i ++ j), H, I.tok _, ⟨_, rfl⟩, q⟩) hz
theorem op_add_byt : OpR X (binaryOp .Add) (fun x y H Q => ∃ i j, x = .byt i ∧ y = .byt j ∧ i.size + j.size ≤ 16777216 ∧ Q (.byt (i ++ j)) H) := by
  intro pins s σ H x y v u Q I rx ry h
  obtain ⟨i, j, rfl, rfl, hz, q⟩ := h
  obtain ⟨t, rfl⟩ := rx
  obtain ⟨t', rfl⟩ := ry
  exact PySem.W.KBy.add_bytes hz (fun t' tk => ⟨.byt (i ++ j), H, I.tok _, ⟨_, rfl⟩, q⟩)

def PlainIxT (b : Expr) : Prop := ∀ o i, subscripted b false o i = operate [o, i] (getItem o i)
/-- s[i], 0 ≤ i < len -/
theorem pe_item_str (ha : PE X a ta) (hb : PE X b tb) (hs : PlainIxT b) :
    PE X (.Subscript a b pos) (tOp (fun x y H Q => ∃ z i c, x = .str z ∧ y = .int i ∧ 0 ≤ i ∧ i < 2 ^ 63 ∧ i < z.length ∧ z.cps[i.toNat]? = some c ∧ Q (.str ⟨#[c]⟩) H) ta tb) := by
  intro pins s σ H Q I h
  refine Subscript_ (binT ha hb I h fun v u s2 x y H2 I2 rx ry q => ?_)
  obtain ⟨z, i, c, rfl, rfl, h0, h63, h1, hc, q⟩ := q
  obtain ⟨t, rfl⟩ := rx
  obtain ⟨t', rfl⟩ := ry
  have e : seqIndex? i z.length = some i.toNat := PySem.StrLaws.seqIndex_nonneg h0 h1
  exact tail_any (typeIs_str s2 z t) slot_str_getitem.lookup (getItem_str (c := c) (by
    have e1 : decide (i < -(2 ^ 63 : Int)) = false := decide_eq_false (by omega)
    have e2 : decide (i ≥ 2 ^ 63) = false := decide_eq_false (by omega)
    rw [e1, e2] <;> rfl) (by rw [e]; exact hc) ⟨.str ⟨#[c]⟩, H2, I2.tok _, ⟨_, rfl⟩, q⟩) (hs _ _)
/-- b[i], 0 ≤ i < len -/
theorem pe_item_byt (ha : PE X a ta) (hb : PE X b tb) (hs : PlainIxT b) :
    PE X (.Subscript a b pos) (tOp (fun x y H Q => ∃ (z : List UInt8) (i : Int), x = .byt z.toArray ∧ y = .int i ∧ z.length ≤ sizeLine ∧ 0 ≤ i ∧ i < z.length ∧ Q (.int ((z.getD i.toNat 0).toNat : Nat)) H) ta tb) := by
  intro pins s σ H Q I h
  refine Subscript_ (binT ha hb I h fun v u s2 x y H2 I2 rx ry q => ?_)
  obtain ⟨z, i, rfl, rfl, hz, h0, h1, q⟩ := q
  obtain ⟨t, rfl⟩ := rx
  obtain ⟨t', rfl⟩ := ry
  have hl : sizeLine = 16777216 := sizeLine_eq
  exact tail_any (PySem.W.typeIs_bytes s2 z.toArray t) PySem.W.FB.slot_bytes_getitem.lookup (PySem.W.getItem_bytes (by omega) h0 h1 ⟨.int ((z.getD i.toNat 0).toNat : Nat), H2, I2.tok _, ⟨_, rfl⟩, q⟩) (hs _ _)

/-! ### scalar builtins, by CallR -/
theorem vals1 {x : V} {us : List Value} (r : Vals [x] us) : ∃ u, us = [u] ∧ RelV x u := by
  cases r with
  | cons r1 r2 => cases r2; exact ⟨_, rfl, r1⟩
theorem vals2 {x y : V} {us : List Value} (r : Vals [x, y] us) : ∃ u w', us = [u, w'] ∧ RelV x u ∧ RelV y w' := by
  cases r with
  | cons r1 r2 =>
    cases r2 with
    | cons r3 r4 => cases r4; exact ⟨_, _, rfl, r1, r3⟩
theorem call_abs : CallR X (.builtin "abs") (fun xs H Q => ∃ i, xs = [.int i] ∧ Q (.int (if i < 0 then -i else i)) H) := by
  intro pins s σ H xs us Q I r h
  obtain ⟨i, rfl, q⟩ := h
  obtain ⟨u, rfl, t, rfl⟩ := vals1 r
  exact call_abs_int fun u tk => ⟨.int (if i < 0 then -i else i), H, I.tok _, ⟨_, rfl⟩, q⟩
theorem call_max2 (hc : X.calm = true) : CallR X (.builtin "max") (fun xs H Q => ∃ i j, xs = [.int i, .int j] ∧ Q (.int (if j > i then j else i)) H) := by
  intro pins s σ H xs us Q I r h
  obtain ⟨i, j, rfl, q⟩ := h
  obtain ⟨u, w', rfl, ⟨t, rfl⟩, ⟨t', rfl⟩⟩ := vals2 r
  refine max_two_ints (I.ok.hd hc) fun h' tk k => ⟨_, H, I.kept k, ?_, q⟩
  by_cases hj : j > i
  · rw [if_pos hj, if_pos hj]; exact ⟨_, rfl⟩
  · rw [if_neg hj, if_neg hj]; exact ⟨_, rfl⟩
theorem call_min2 (hc : X.calm = true) : CallR X (.builtin "min") (fun xs H Q => ∃ i j, xs = [.int i, .int j] ∧ Q (.int (if j < i then j else i)) H) := by
  intro pins s σ H xs us Q I r h
  obtain ⟨i, j, rfl, q⟩ := h
  obtain ⟨u, w', rfl, ⟨t, rfl⟩, ⟨t', rfl⟩⟩ := vals2 r
  refine min_two_ints (I.ok.hd hc) fun h' tk k => ⟨_, H, I.kept k, ?_, q⟩
  by_cases hj : j < i
  · rw [if_pos hj, if_pos hj]; exact ⟨_, rfl⟩
  · rw [if_neg hj, if_neg hj]; exact ⟨_, rfl⟩
theorem call_int1 : CallR X (.type "int") (fun xs H Q => (∃ i, xs = [.int i] ∧ Q (.int i) H) ∨ ∃ k, xs = [.bl k] ∧ Q (.int (if k then 1 else 0)) H) := by
  intro pins s σ H xs us Q I r h
  rcases h with ⟨i, rfl, q⟩ | ⟨k, rfl, q⟩
  · obtain ⟨u, rfl, t, rfl⟩ := vals1 r
    exact call_int_int ⟨.int i, H, I, ⟨_, rfl⟩, q⟩
  · obtain ⟨u, rfl, r1⟩ := vals1 r
    cases r1
    exact call_int_bool ⟨.int (if k then 1 else 0), H, I.tok _, ⟨_, rfl⟩, q⟩
theorem call_bool1 : CallR X (.type "bool") (fun xs H Q => (∃ i, xs = [.int i] ∧ Q (.bl (i != 0)) H) ∨ ∃ k, xs = [.bl k] ∧ Q (.bl k) H) := by
  intro pins s σ H xs us Q I r h
  rcases h with ⟨i, rfl, q⟩ | ⟨k, rfl, q⟩
  · obtain ⟨u, rfl, t, rfl⟩ := vals1 r
    exact call_bool_int ⟨.bl (i != 0), H, I, rfl, q⟩
  · obtain ⟨u, rfl, r1⟩ := vals1 r
    cases r1
    exact call_bool_bool ⟨.bl k, H, I, rfl, q⟩
theorem call_str_int : CallR X (.type "str") (fun xs H Q => ∃ i, xs = [.int i] ∧ i.natAbs.log2 < 1920 ∧ Q (.str (toString i)) H) := by
  intro pins s σ H xs us Q I r h
  obtain ⟨i, rfl, hz, q⟩ := h
  obtain ⟨u, rfl, t, rfl⟩ := vals1 r
  exact PySem.P.str_of_int hz ⟨.str _, H, I.tok _, ⟨_, rfl⟩, q⟩
theorem call_ord : CallR X (.builtin "ord") (fun xs H Q => ∃ x, xs = [.str x] ∧ x.length = 1 ∧ Q (.int (x.cps.getD 0 0 : Nat)) H) := by
  intro pins s σ H xs us Q I r h
  obtain ⟨x, rfl, hz, q⟩ := h
  obtain ⟨u, rfl, t, rfl⟩ := vals1 r
  exact ord_of_one hz ⟨.int _, H, I.tok _, ⟨_, rfl⟩, q⟩
theorem call_chr : CallR X (.builtin "chr") (fun xs H Q => ∃ i, xs = [.int i] ∧ 0 ≤ i ∧ i ≤ 1114111 ∧ Q (.str ⟨#[i.toNat]⟩) H) := by
  intro pins s σ H xs us Q I r h
  obtain ⟨i, rfl, h0, h1, q⟩ := h
  obtain ⟨u, rfl, t, rfl⟩ := vals1 r
  exact chr_of_range h0 h1 ⟨.str _, H, I.tok _, ⟨_, rfl⟩, q⟩
/-- len of a str, a bytes, a list, a tuple -/
def LenV (K : PySem.W.Frag) (x : V) (H : Hp) (n : Nat) : Prop :=
  match x with
  | .str y => y.length ≤ sizeLine ∧ n = y.length
  | .byt y => y.size ≤ sizeLine ∧ n = y.size
  | .ref p => (∃ xs, SqL K H p xs ∧ n = xs.length) ∨ ∃ xs, SqT K H p xs ∧ n = xs.length
  | _ => False
theorem call_len : CallR X (.builtin "len") (fun xs H Q => ∃ x n, xs = [x] ∧ LenV X.K x H n ∧ Q (.int n) H) := by
  intro pins s σ H xs us Q I r h
  obtain ⟨x, n, rfl, e, q⟩ := h
  obtain ⟨u, rfl, rx⟩ := vals1 r
  have hl := line63
  have hs : sizeLine = 16777216 := sizeLine_eq
  cases x with
  | str y =>
    obtain ⟨t, rfl⟩ := rx
    obtain ⟨hy, e'⟩ : y.length ≤ sizeLine ∧ n = y.length := e
    subst e'
    exact len_str (by omega) ⟨.int _, H, I.tok _, ⟨_, rfl⟩, q⟩
  | byt y =>
    obtain ⟨t, rfl⟩ := rx
    obtain ⟨hy, e'⟩ : y.size ≤ sizeLine ∧ n = y.size := e
    subst e'
    exact PySem.W.len_bytes (by omega) ⟨.int _, H, I.tok _, ⟨_, rfl⟩, q⟩
  | ref p =>
    cases rx
    have e' : (∃ xs, SqL X.K H p xs ∧ n = xs.length) ∨ ∃ xs, SqT X.K H p xs ∧ n = xs.length := e
    rcases e' with ⟨xs, hx, e'⟩ | ⟨xs, hx, e'⟩
    · subst e'
      obtain ⟨its, r', pl, hz⟩ := I.list hx
      have hlen := r'.length
      exact Calls.call_len_list pl.isList (by simp only [List.size_toArray]; omega) ⟨.int xs.length, H, I.tok _, ⟨_, by simp only [List.size_toArray]; rw [hlen]⟩, q⟩
    · subst e'
      obtain ⟨its, r', pl, hz⟩ := I.tuple hx
      have hlen := r'.length
      exact len_tuple pl (by simp only [List.size_toArray]; omega) ⟨.int xs.length, H, I.tok _, ⟨_, by simp only [List.size_toArray]; rw [hlen]⟩, q⟩
  | _ => exact (show False from e).elim
/-- divmod: a new tuple -/
theorem call_divmod : CallR X (.builtin "divmod") (fun xs H Q => ∃ i j, xs = [.int i, .int j] ∧ CDiv i j ∧ ∀ p, H p = none → Q (.ref p) (upd H p (.tup [.int (i / j), .int (i % j)]))) := by
  intro pins s σ H xs us Q I r h
  obtain ⟨i, j, rfl, ⟨h1, h2⟩, q⟩ := h
  obtain ⟨u, w', rfl, ⟨t, rfl⟩, ⟨t', rfl⟩⟩ := vals2 r
  refine divmod_int (by omega) ?_ (.inl (PyProof.noPylong_small (by omega)))
  rw [Int.fdiv_eq_ediv_of_nonneg i (by omega), Int.fmod_eq_emod_of_nonneg i (by omega)]
  have hn : H s.heap.objs.size = none := I.hok.fresh (Nat.le_refl _)
  refine ⟨.ref s.heap.objs.size, _, ?_, rfl, q _ hn⟩
  refine I.laid (fun b o e => Heap.get?_push_of_some _ e) (Nat.le_refl _) ⟨by simp only [List.length_cons, List.length_nil]; rw [sizeLine_eq]; decide, [.int (i / j) s.toks, .int (i % j) (s.toks + 1)], .cons ⟨_, rfl⟩ (.cons ⟨_, rfl⟩ .nil), ?_⟩
  exact ⟨_, Heap.get?_push_size s.heap rfl, rfl, 0, rfl⟩
end
end L2

namespace L2
open PySem PySem.Spec PyProof.Rows

/-! ### an instance, its attributes a map -/
structure ObjM (h : Heap) (x dx C : Addr) (mA : Str → Option Value) : Prop where
  obj : h.get? x = some (PySem.W.instObj C dx)
  ns : h.Ns1 dx mA
  ne : dx ≠ x

theorem lookIn_ns {h : Heap} {dx : Addr} {mA : Str → Option Value} (n : h.Ns1 dx mA) : ∃ od, h.get? dx = some od ∧ ∀ name, PySem.W.lookIn name od = some (mA name) := by
  obtain ⟨o, es, ep, ho, hd, hk, _, hm⟩ := n
  refine ⟨o, ho, fun name => ?_⟩
  have e := hm name
  unfold nsFind findBy at e
  rw [← Array.find?_toList] at e
  unfold PySem.W.lookIn
  rw [hd]
  dsimp only
  split
  · rename_i y q
    rw [q] at e
    exact congrArg some e
  · rename_i q
    rw [q] at e
    have a : es.toList.any (·.refKey) = false := by
      rw [List.any_eq_false]
      intro y hy
      obtain ⟨z, t, hkey⟩ := hk y (Array.mem_toList_iff.mp hy)
      simp [DictEntry.refKey, hkey]
    have a' : ¬ es.toList.any (·.refKey) = true := by rw [a]; exact Bool.false_ne_true
    rw [if_neg a']
    exact congrArg some e

theorem ObjM.look {h : Heap} {x dx C : Addr} {mA : Str → Option Value} (I : ObjM h x dx C mA) : ∃ od, PySem.W.InstAt h x (PySem.W.instObj C dx) C (some od) ∧ ∀ name, PySem.W.lookIn name od = some (mA name) :=
  let ⟨od, ho, hl⟩ := lookIn_ns I.ns
  ⟨od, ⟨I.obj, rfl, rfl, ho⟩, hl⟩

section
variable {prog : Program} {w : World} {A : Around} {E : Value → Shared → Prop} {s : Shared} {K : PySem.W.Frag} {x dx C f : Addr} {mA : Str → Option Value} {name : Str} {v : Value}

theorem get_map {expr : Bool} {Q : Value → Shared → Prop} (X : K.In s.heap) (I : ObjM s.heap x dx C mA) (hg : PySem.W.plainGet K C name = true) (hh : PySem.W.hasDictIn K C = true)
    (ha : PySem.W.findIn K (.ref C) name = some none) (hv : mA name = some v) (hv' : PySem.W.handedIn v = true) (h : Q v { s with toks := s.toks + 1 }) :
    wpAny (model prog w) A (getAttr (.ref x) name expr) Q E s := by
  obtain ⟨od, J, hl⟩ := I.look
  exact PySem.W.get_value X J (PySem.W.plainGet_of hg).1 (PySem.W.findObj_own hh ha rfl (by rw [hl, hv])) hv' h

theorem get_const {expr : Bool} {a : Value} {Q : Value → Shared → Prop} (X : K.In s.heap) (I : ObjM s.heap x dx C mA) (hg : PySem.W.plainGet K C name = true) (hh : PySem.W.hasDictIn K C = true)
    (ha : PySem.W.findIn K (.ref C) name = some (some a)) (hn : PySem.W.specialIn K a "__get__" = some none) (hc : PySem.W.copiedNames.contains name = false) (hv : mA name = none) (hv' : PySem.W.handedIn a = true)
    (h : Q a { s with toks := s.toks + 1 }) : wpAny (model prog w) A (getAttr (.ref x) name expr) Q E s := by
  obtain ⟨od, J, hl⟩ := I.look
  exact PySem.W.get_value X J (PySem.W.plainGet_of hg).1 (PySem.W.findObj_cls hh ha hn hv' hc (by rw [hl, hv])) hv' h

theorem get_meth {pl : Sem Bool} {Q : Value × List Value → Shared → Prop} (X : K.In s.heap) (I : ObjM s.heap x dx C mA) (hg : PySem.W.plainGet K C name = true)
    (hf : PySem.W.findIn K (.ref C) name = some (some (.ref f))) (ht : PySem.W.isFn K (.ref f) = true) (hv : mA name = none) (h : Q (.ref f, [.ref x]) s) :
    wpAny (model prog w) A (getMethod (.ref x) name pl) Q E s := by
  obtain ⟨od, J, hl⟩ := I.look
  exact PySem.W.method_fn X J (PySem.W.plainGet_of hg).1 (PySem.W.plainGet_of hg).2 hf (beq_iff_eq.mp ht) (by show (PySem.W.lookIn name od).map (·.isSome) = some false; rw [hl, hv]; rfl) h

theorem set_map {ns : List Str} {Q : Unit → Shared → Prop} (X : K.In s.heap) (I : ObjM s.heap x dx C mA)
    (hs : PySem.W.findIn K (.ref C) "__setattr__" = some (some (.builtin "object.__setattr__"))) (hp : PySem.W.plainOver K C = true) (ht : PySem.W.takerIn K C name = some none) (hh : PySem.W.hasDictIn K C = true)
    (hw : PySem.Within mA ns) (hsz : ns.length ≤ sizeLine)
    (h : ∀ h', ObjM h' x dx C (fun y => if y = name then some v else mA y) → Heap.SameBut dx s.heap h' → Q () { s with heap := h', toks := s.toks + 2 }) :
    wpAny (model prog w) A (setAttr (.ref x) name v) Q E s := by
  obtain ⟨od, J, hl⟩ := I.look
  refine PySem.W.set_plain X J hs (PySem.W.osa_open (s := { s with toks := s.toks + 1 }) (r := none) X J hp ht fun b => ?_)
  obtain ⟨cd, hc, hd'⟩ := PySem.W.any_some hh
  have hx : s.heap.get? x = some ⟨.ref C, some dx, .plain, #[]⟩ := I.obj
  refine wpAny_bind (wpAny_pure (wpAny_bind (wpAny_bind (wpAny_loadPart hx (wpAny_bind (PySem.W.Looks.here (s := { s with toks := s.toks + 1 }) (PySem.W.looks_clsIn X hc) ?_))))))
  rw [hd']
  refine wpAny_pure (a := some dx) (wpAny_bind (wpAny_pure (wpAny_bind ?_)))
  refine wpAny_nsSet1 (s := { s with toks := s.toks + 1 }) I.ns fun h' hn2 hs2 => ?_
  obtain ⟨oD, esD, epD, hoD, hdD, hcD⟩ := hn2.count (PySem.Within.cons name v hw)
  refine wpAny_bind (wpAny_lookBehind hoD (by rw [hdD]; exact pastItsLine_dict (Nat.le_trans hcD (by rw [List.length_cons]; omega))) ?_)
  exact wpAny_pure (h _ ⟨(hs2.2 _ (Ne.symm I.ne)).trans I.obj, hn2, I.ne⟩ hs2)

/-- C(..): the dict at the heap's end, the instance behind it; then its __init__ -/
theorem make_map {R : Result → Shared → Prop} {vs : List Value} {kw : List (Str × Value)} (X : K.In s.heap) (hm : PySem.W.makesIn K C = true)
    (hi : PySem.W.findIn K (.ref C) "__init__" = some (some (.ref f))) (hf : PySem.W.typeIn K (.ref f) = some (.type "function"))
    (h : codeAny (model prog w) (A.under (.builtin "type.__call__" ⟨.ref C :: vs, kw⟩)) (.call (.ref f) ⟨.ref (s.heap.objs.size + 1) :: vs, kw⟩) (PySem.W.InitBack (s.heap.objs.size + 1) R)
      { s with heap := (s.heap.push PySem.W.emptyDict).push (PySem.W.instObj C s.heap.objs.size) }) :
    codeAny (model prog w) A (.call (.ref C) ⟨vs, kw⟩) R s := by
  obtain ⟨hh, g, d, t, os⟩ := s
  exact PySem.W.make_core (PySem.W.makes_of X hm) (PySem.W.looks_findIn X hi) (fun self => PySem.W.bind_fn X self hf) (.inl rfl) h
/-- C() where there is no __init__ but object's -/
theorem make_map0 {R : Result → Shared → Prop} (X : K.In s.heap) (hm : PySem.W.makesIn K C = true)
    (hi : PySem.W.findIn K (.ref C) "__init__" = some (some (.builtin "object.__init__")))
    (hb : ∀ self, PySem.W.Looks (model prog w) s.heap (bindSpecial (.builtin "object.__init__") self) (.builtin "object.__init__", [self]))
    (h : codeAny (model prog w) (A.under (.builtin "type.__call__" ⟨[.ref C], []⟩)) (.call (.builtin "object.__init__") ⟨[.ref (s.heap.objs.size + 1)], []⟩) (PySem.W.InitBack (s.heap.objs.size + 1) R)
      { s with heap := (s.heap.push PySem.W.emptyDict).push (PySem.W.instObj C s.heap.objs.size) }) :
    codeAny (model prog w) A (.call (.ref C) ⟨[], []⟩) R s := by
  obtain ⟨hh, g, d, t, os⟩ := s
  exact PySem.W.make_core (PySem.W.makes_of X hm) (PySem.W.looks_findIn X hi) hb (.inr ⟨rfl, rfl⟩) h
end

/-! ### the attributes as a list of pairs -/
def putF (f : Str) (v : V) : List (Str × V) → List (Str × V)
  | [] => [(f, v)]
  | (g, x) :: r => if g = f then (g, v) :: r else (g, x) :: putF f v r
theorem lookup_putF (f g : Str) (v : V) : ∀ fs : List (Str × V), (putF f v fs).lookup g = if g = f then some v else fs.lookup g
  | [] => by
    show List.lookup g [(f, v)] = _
    by_cases h : g = f
    · have hb : (g == f) = true := beq_iff_eq.mpr h
      simp only [List.lookup, hb, if_pos h]
    · have hb : (g == f) = false := beq_eq_false_iff_ne.mpr h
      simp only [List.lookup, hb, if_neg h]
  | (k, x) :: r => by
    have ih := lookup_putF f g v r
    rw [show putF f v ((k, x) :: r) = (if k = f then (k, v) :: r else (k, x) :: putF f v r) from rfl]
    by_cases hk : k = f
    · rw [if_pos hk]
      by_cases h : g = k
      · have hb : (g == k) = true := beq_iff_eq.mpr h
        simp only [List.lookup, hb, if_pos (h.trans hk)]
      · have hb : (g == k) = false := beq_eq_false_iff_ne.mpr h
        simp only [List.lookup, hb, if_neg (fun e : g = f => h (e.trans hk.symm))]
    · rw [if_neg hk]
      by_cases h : g = k
      · have hb : (g == k) = true := beq_iff_eq.mpr h
        simp only [List.lookup, hb, if_neg (fun e : g = f => hk (h.symm.trans e))]
      · have hb : (g == k) = false := beq_eq_false_iff_ne.mpr h
        simp only [List.lookup, hb]
        exact ih
theorem keys_putF (f : Str) (v : V) : ∀ fs : List (Str × V), f ∈ (putF f v fs).map (·.1) ∧ ∀ g, g ∈ fs.map (·.1) → g ∈ (putF f v fs).map (·.1)
  | [] => ⟨by simp [putF], fun g h => by simp at h⟩
  | (k, x) :: r => by
    obtain ⟨i1, i2⟩ := keys_putF f v r
    rw [show putF f v ((k, x) :: r) = (if k = f then (k, v) :: r else (k, x) :: putF f v r) from rfl]
    by_cases hk : k = f
    · rw [if_pos hk]
      subst hk
      exact ⟨by simp, fun g h => by simpa using h⟩
    · rw [if_neg hk]
      refine ⟨?_, fun g h => ?_⟩
      · rw [List.map_cons]
        exact List.mem_cons_of_mem _ i1
      · rw [List.map_cons] at h ⊢
        rcases List.mem_cons.mp h with e | e
        · exact List.mem_cons.mpr (.inl e)
        · exact List.mem_cons_of_mem _ (i2 g e)
theorem length_putF (f : Str) (v : V) : ∀ fs : List (Str × V), (putF f v fs).length ≤ fs.length + 1
  | [] => by simp [putF]
  | (k, x) :: r => by
    have ih := length_putF f v r
    rw [show putF f v ((k, x) :: r) = (if k = f then (k, v) :: r else (k, x) :: putF f v r) from rfl]
    by_cases hk : k = f
    · rw [if_pos hk, List.length_cons, List.length_cons]; omega
    · rw [if_neg hk, List.length_cons, List.length_cons]; omega

theorem RelO.some_of {v : V} {o : Option Value} (r : RelO (some v) o) : ∃ u, o = some u ∧ RelV v u := by
  cases o with
  | none => exact (show False from r).elim
  | some u => exact ⟨u, rfl, r⟩
theorem RelO.none_of {o : Option Value} (r : RelO none o) : o = none := by
  cases o with
  | none => rfl
  | some u => exact (show False from r).elim
theorem handed_of {v : V} {u : Value} (r : RelV v u) : PySem.W.handedIn u = true := by
  cases v with
  | non => cases (show u = Value.none from r); rfl
  | bl b => cases (show u = Value.bool b from r); rfl
  | int i => obtain ⟨t, e⟩ := (show ∃ t, u = Value.int i t from r); cases e; rfl
  | str x => obtain ⟨t, e⟩ := (show ∃ t, u = Value.str x t from r); cases e; rfl
  | byt b => obtain ⟨t, e⟩ := (show ∃ t, u = Value.bytes b t from r); cases e; rfl
  | flt b => obtain ⟨t, e⟩ := (show ∃ t, u = Value.float b t from r); cases e; rfl
  | ref a => cases (show u = Value.ref a from r); rfl
  | ty n => cases (show u = Value.type n from r); rfl

section
variable {P : Program} {w : World} {H H' : Hp} {h h' : Heap} {a C dx : Addr} {fs fs' : List (Str × V)}
theorem ins_get (hok : HOk P w H h) (e : H a = some (.ins C dx fs)) : ∃ mA, ObjM h a dx C mA ∧ (∀ f, RelO (fs.lookup f) (mA f)) ∧ PySem.Within mA (fs.map (·.1)) ∧ fs.length ≤ 1000 ∧ H dx = some (.own a) := by
  obtain ⟨d, z, ne, ob, mA, n, r, q⟩ := (show ObjOk P w H h a (.ins C dx fs) from hok a _ e)
  exact ⟨mA, ⟨ob, n, ne⟩, r, q, z, d⟩
end

/-! ### what of the text a class must have -/
structure Cls (K : PySem.W.Frag) (C : Addr) : Prop where
  pg : PySem.W.plainGet K C Str.empty = true
  hd : PySem.W.hasDictIn K C = true
  po : PySem.W.plainOver K C = true
  sa : PySem.W.findIn K (.ref C) "__setattr__" = some (some (.builtin "object.__setattr__"))
theorem Cls.get {K : PySem.W.Frag} {C : Addr} (c : Cls K C) (f : Str) : PySem.W.plainGet K C f = true := c.pg
/-- no class of it has the name -/
def NoAttr (K : PySem.W.Frag) (C : Addr) (f : Str) : Prop := PySem.W.findIn K (.ref C) f = some none
theorem NoAttr.taker {K : PySem.W.Frag} {C : Addr} {f : Str} (n : NoAttr K C f) : PySem.W.takerIn K C f = some none := by
  unfold PySem.W.takerIn
  rw [show PySem.W.findIn K (.ref C) f = some none from n]
  rfl
/-- a constant of the class -/
structure Con (K : PySem.W.Frag) (C : Addr) (f : Str) (v : V) (u : Value) : Prop where
  at_ : PySem.W.findIn K (.ref C) f = some (some u)
  rel : RelV v u
  get : PySem.W.specialIn K u "__get__" = some none
  cp : PySem.W.copiedNames.contains f = false
/-- a method: a plain def of the class or of one above it -/
structure Meth (K : PySem.W.Frag) (C : Addr) (m : Str) (f : Addr) : Prop where
  at_ : PySem.W.findIn K (.ref C) m = some (some (.ref f))
  fn : PySem.W.isFn K (.ref f) = true
  kp : PySem.W.keepIn K (.ref f) = true

section
variable {X : Cx} {pins : List (Addr × Obj)} {σ : St} {H : Hp} {s : Shared} {a C dx : Addr} {fs : List (Str × V)} {f : Str} {v : V} {A : Around} {E : Value → Shared → Prop}

theorem getattr_ok {b : Bool} {Q : Value → Shared → Prop} (I : Inv X pins σ H s) (e : H a = some (.ins C dx fs)) (c : Cls X.K C) (n : NoAttr X.K C f) (l : fs.lookup f = some v)
    (h : ∀ u s', Inv X pins σ H s' → RelV v u → Q u s') : wpAny (model X.prog X.w) A (getAttr (.ref a) f b) Q E s := by
  obtain ⟨mA, O, r, _, _, _⟩ := ins_get I.hok e
  obtain ⟨u, hu, ru⟩ := RelO.some_of (v := v) (o := mA f) (by rw [← l]; exact r f)
  exact get_map I.kIn O (c.get f) c.hd n hu (handed_of ru) (h u _ (I.tok _) ru)

theorem getcon_ok {b : Bool} {u : Value} {Q : Value → Shared → Prop} (I : Inv X pins σ H s) (e : H a = some (.ins C dx fs)) (c : Cls X.K C) (k : Con X.K C f v u) (l : fs.lookup f = none)
    (h : ∀ s', Inv X pins σ H s' → Q u s') : wpAny (model X.prog X.w) A (getAttr (.ref a) f b) Q E s := by
  obtain ⟨mA, O, r, _, _, _⟩ := ins_get I.hok e
  have hn : mA f = none := RelO.none_of (by rw [← l]; exact r f)
  exact get_const I.kIn O (c.get f) c.hd k.at_ k.get k.cp hn (handed_of k.rel) (h _ (I.tok _))

theorem getmeth_ok {m : Str} {g : Addr} {pl : Sem Bool} {Q : Value × List Value → Shared → Prop} (I : Inv X pins σ H s) (e : H a = some (.ins C dx fs)) (c : Cls X.K C) (k : Meth X.K C m g) (l : fs.lookup m = none)
    (h : Q (.ref g, [.ref a]) s) : wpAny (model X.prog X.w) A (getMethod (.ref a) m pl) Q E s := by
  obtain ⟨mA, O, r, _, _, _⟩ := ins_get I.hok e
  have hn : mA m = none := RelO.none_of (by rw [← l]; exact r m)
  exact get_meth I.kIn O (c.get m) k.at_ k.fn hn h

theorem setattr_ok {y : V} {u : Value} {Q : Unit → Shared → Prop} (I : Inv X pins σ H s) (e : H a = some (.ins C dx fs)) (c : Cls X.K C) (n : NoAttr X.K C f) (hl : fs.length < 1000) (ry : RelV y u)
    (h : ∀ s', Inv X pins σ (upd H a (.ins C dx (putF f y fs))) s' → Q () s') : wpAny (model X.prog X.w) A (setAttr (.ref a) f u) Q E s := by
  obtain ⟨mA, O, r, wi, _, ho⟩ := ins_get I.hok e
  have hz : (fs.map (·.1)).length ≤ sizeLine := by rw [List.length_map, sizeLine_eq]; omega
  refine set_map I.kIn O c.sa c.po n.taker c.hd wi hz fun h' O' sb => h _ ?_
  have hd : ∃ o, h'.get? dx = some o := let ⟨o, _, _, e', _⟩ := O'.ns; ⟨o, e'⟩
  refine I.write (x := a) (e := dx) (by rw [e]; exact True.intro) (.inr ho) (fun b q hb z => (sb.2 b hb).trans z) hd ?_
  refine ⟨by rw [upd_ne O.ne]; exact ho, ?_, O.ne, O'.obj, _, O'.ns, fun g => ?_, fun g hg => ?_⟩
  · have := length_putF f y fs; omega
  · show RelO ((putF f y fs).lookup g) (if g = f then some u else mA g)
    rw [lookup_putF]
    by_cases q : g = f
    · rw [if_pos q, if_pos q]; exact ry
    · rw [if_neg q, if_neg q]; exact r g
  · by_cases q : g = f
    · rw [q]; exact (keys_putF f y fs).1
    · refine (keys_putF f y fs).2 g (wi g fun z => hg ?_)
      show (if g = f then some u else mA g) = none
      rw [if_neg q]; exact z

/-- a new instance, tracked, without attributes -/
theorem Inv.made (I : Inv X pins σ H s) : Inv X pins σ (upd (upd H s.heap.objs.size (.own (s.heap.objs.size + 1))) (s.heap.objs.size + 1) (.ins C s.heap.objs.size []))
    { s with heap := (s.heap.push PySem.W.emptyDict).push (PySem.W.instObj C s.heap.objs.size) } := by
  have e1 : (s.heap.push PySem.W.emptyDict).get? s.heap.objs.size = some PySem.W.emptyDict := Heap.get?_push_size s.heap rfl
  have e2 : ((s.heap.push PySem.W.emptyDict).push (PySem.W.instObj C s.heap.objs.size)).get? (s.heap.objs.size + 1) = some (PySem.W.instObj C s.heap.objs.size) := by
    have := Heap.get?_push_size (s.heap.push PySem.W.emptyDict) (o := PySem.W.instObj C s.heap.objs.size) rfl
    rwa [Heap.size_push] at this
  have e3 : (s.heap.push PySem.W.emptyDict).Ns s.heap.objs.size (fun _ => none) := ⟨PySem.W.emptyDict, #[], _, e1, rfl, (fun e he => absurd he (by simp)), fun _ => rfl⟩
  have I1 := I.laid (a := s.heap.objs.size) (o := .own (s.heap.objs.size + 1)) (h' := s.heap.push PySem.W.emptyDict) (t' := s.toks) (fun b u q => Heap.get?_push_of_some _ q) (Nat.le_refl _) ⟨_, e1⟩
  refine I1.laid (a := s.heap.objs.size + 1) (o := .ins C s.heap.objs.size []) (t' := s.toks) (fun b u q => Heap.get?_push_of_some _ q) (Nat.le_of_eq (Heap.size_push _ _)) ?_
  have ne : s.heap.objs.size ≠ s.heap.objs.size + 1 := Nat.ne_of_lt (Nat.lt_succ_self _)
  refine ⟨by rw [upd_ne ne, upd_same], Nat.zero_le _, ne, e2, fun _ => none, (Heap.Ns1.of_empty e3).at fun o q => Heap.get?_push_of_some _ q, fun _ => True.intro, fun y hy => absurd rfl hy⟩

/-- e.f where nothing but the object is asked: through attributeBase (super) and the last hold -/
theorem attr_of {prog : Program} {w : World} {env : Env} {e : Expr} {f : Str} {pos : Pos} {s : Shared} {Q : Value → Shared → Prop} (hb : attributeBase e f env (eval e env) = eval e env)
    (h : wpAny (model prog w) A (eval e env) (fun o s₁ => wpAny (model prog w) A (getAttr o f true) Q E s₁) E s) : wpAny (model prog w) A (eval (.Attribute e f pos) env) Q E s :=
  Attribute_any_ h (by rw [arm_eval_Attribute, hb])
end

/-! ### readings and rules -/
/-- e.f, an attribute of the instance -/
def tFld (K : PySem.W.Frag) (ta : TE) (f : Str) : TE := fun σ H Q => ta σ H fun x H1 => ∃ a C dx fs v, x = .ref a ∧ H1 a = some (.ins C dx fs) ∧ Cls K C ∧ NoAttr K C f ∧ fs.lookup f = some v ∧ Q v H1
/-- e.f, a constant of the class -/
def tCon (K : PySem.W.Frag) (ta : TE) (f : Str) : TE := fun σ H Q => ta σ H fun x H1 => ∃ a C dx fs v u, x = .ref a ∧ H1 a = some (.ins C dx fs) ∧ Cls K C ∧ Con K C f v u ∧ fs.lookup f = none ∧ Q v H1
/-- e.f = value -/
def sFld (K : PySem.W.Frag) (ta tv : TE) (f : Str) : TS := fun D σ H => tv σ H fun y H1 => ta σ H1 fun x H2 => ∃ a C dx fs, x = .ref a ∧ H2 a = some (.ins C dx fs) ∧ Cls K C ∧ NoAttr K C f ∧ fs.length < 1000 ∧
  D.nx σ (upd H2 a (.ins C dx (putF f y fs)))
/-- an augmented operator on two values -/
def InOp (X : Cx) (op : Operator) (rd : V → V → Hp → VK → Prop) : Prop :=
  ∀ (pins : List (Addr × Obj)) (s : Shared) (σ : St) (H : Hp) (x y : V) (u v : Value) (Q : VK), Inv X pins σ H s → RelV x u → RelV y v → rd x y H Q → wpAny (model X.prog X.w) X.A (inplaceOp op u v) (EP X pins σ Q) X.xe s
/-- e.f op= value -/
def sFldAug (K : PySem.W.Frag) (ta tv : TE) (rd : V → V → Hp → VK → Prop) (f : Str) : TS := fun D σ H => ta σ H fun x H1 => ∃ a C dx fs v, x = .ref a ∧ H1 a = some (.ins C dx fs) ∧ Cls K C ∧ NoAttr K C f ∧ fs.lookup f = some v ∧
  tv σ H1 fun y H2 => rd v y H2 fun z H3 => ∃ dx' fs', H3 a = some (.ins C dx' fs') ∧ fs'.length < 1000 ∧ D.nx σ (upd H3 a (.ins C dx' (putF f z fs')))

section
variable {X : Cx} {o e value : Expr} {f : Str} {pos pos' tpos : Pos} {ta tv : TE}
theorem pe_fld (he : PE X e ta) (hb : attributeBase e f X.env (eval e X.env) = eval e X.env) : PE X (.Attribute e f pos) (tFld X.K ta f) := by
  intro pins s σ H Q I h
  refine attr_of hb (thn (he pins s σ H _ I h) fun u s1 ⟨x, H1, I1, rx, a, C, dx, fs, v, ex, ea, c, n, l, q⟩ => ?_)
  subst ex
  obtain rfl : u = Value.ref a := rx
  exact getattr_ok I1 ea c n l fun u' s2 I2 ru => ⟨v, H1, I2, ru, q⟩
theorem pe_con (he : PE X e ta) (hb : attributeBase e f X.env (eval e X.env) = eval e X.env) : PE X (.Attribute e f pos) (tCon X.K ta f) := by
  intro pins s σ H Q I h
  refine attr_of hb (thn (he pins s σ H _ I h) fun u s1 ⟨x, H1, I1, rx, a, C, dx, fs, v, u0, ex, ea, c, k, l, q⟩ => ?_)
  subst ex
  obtain rfl : u = Value.ref a := rx
  exact getcon_ok I1 ea c k l fun s2 I2 => ⟨v, H1, I2, k.rel, q⟩
theorem ps_fld (ha : PE X o ta) (hv : PE X value tv) (hs : swapsWith value (some (.Attribute o f pos')) pos.line X.env = pure false) : PS X (.Assign [.Attribute o f pos'] value pos) (sFld X.K ta tv f) := by
  intro pins s σ H D I h
  refine plainObj_wpAny_Assign_Attribute (thn (hv pins s σ H _ I h) fun u s1 ⟨y, H1, I1, ry, q⟩ => thn (ha pins s1 σ H1 _ I1 q) fun ov s2 ⟨x, H2, I2, rx, a, C, dx, fs, ex, ea, c, n, l, q2⟩ => ?_) hs
  subst ex
  obtain rfl : ov = Value.ref a := rx
  exact setattr_ok I2 ea c n l ry fun s3 I3 => ⟨σ, _, I3, q2⟩
theorem ps_fldaug {op : Operator} {rd : V → V → Hp → VK → Prop} (ha : PE X o ta) (hv : PE X value tv) (hop : InOp X op rd) : PS X (.AugAssign (.Attribute o f tpos) op value pos) (sFldAug X.K ta tv rd f) := by
  intro pins s σ H D I h
  refine wpAny_AugAssign_AttributeAny (thn (ha pins s σ H _ I h) fun ov s1 ⟨x, H1, I1, rx, a, C, dx, fs, v, ex, ea, c, n, l, q⟩ => ?_)
  subst ex
  obtain rfl : ov = Value.ref a := rx
  refine getattr_ok I1 ea c n l fun u s2 I2 ru => thn (hv pins s2 σ H1 _ I2 q) fun w3 s3 ⟨y, H2, I3, ry, q3⟩ => thn (hop pins s3 σ H2 v y u w3 _ I3 ru ry q3) fun w4 s4 ⟨z, H3, I4, rz, dx', fs', ea', l', q4⟩ => ?_
  exact setattr_ok I4 ea' c n l' rz fun s5 I5 => ⟨σ, _, I5, q4⟩
def rAdd : V → V → Hp → VK → Prop := fun x y H Q => ∃ i j, x = .int i ∧ y = .int j ∧ Q (.int (i + j)) H
def rSub : V → V → Hp → VK → Prop := fun x y H Q => ∃ i j, x = .int i ∧ y = .int j ∧ Q (.int (i - j)) H
theorem in_add : InOp X .Add rAdd := by
  rintro pins s σ H x y u v Q I rx ry ⟨i, j, rfl, rfl, q⟩
  obtain ⟨t, rfl⟩ := (show ∃ t, u = Value.int i t from rx)
  obtain ⟨t', rfl⟩ := (show ∃ t', v = Value.int j t' from ry)
  exact PyProof.Rows.iadd_int ⟨.int (i + j), H, I.tok _, ⟨_, rfl⟩, q⟩
theorem in_sub : InOp X .Sub rSub := by
  rintro pins s σ H x y u v Q I rx ry ⟨i, j, rfl, rfl, q⟩
  obtain ⟨t, rfl⟩ := (show ∃ t, u = Value.int i t from rx)
  obtain ⟨t', rfl⟩ := (show ∃ t', v = Value.int j t' from ry)
  exact PyProof.Rows.isub_int ⟨.int (i - j), H, I.tok _, ⟨_, rfl⟩, q⟩

/-- what is between an instance and its method: the tree of a method call -/
theorem methcall_of {pl : Sem Bool} {m : Str} {apos : Pos} {args : List Expr} {pins : List (Addr × Obj)} {s : Shared} {σ : St} {H : Hp} {Q : Value → Shared → Prop} {te : TE} (he : PE X e te) (I : Inv X pins σ H s)
    (h : te σ H fun x H1 => ∃ a C dx fs g, x = .ref a ∧ H1 a = some (.ins C dx fs) ∧ Cls X.K C ∧ Meth X.K C m g ∧ fs.lookup m = none ∧
      ∀ s1, Inv X pins σ H1 s1 → wpAny (model X.prog X.w) X.A (callWith pos (.ref g) [.ref a] (backTo pos (starEach args X.env)) (backToKw pos (keywordEach [] X.env))) Q X.xe s1)
    (ht : eval (.Call (.Attribute e m apos) args [] pos) X.env = (do
      let ov ← eval e X.env
      standAt apos.atName
      let (f, first) ← holding [ov] (getMethod ov m pl)
      callWith pos f first (backTo pos (starEach args X.env)) (backToKw pos (keywordEach [] X.env)))) :
    wpAny (model X.prog X.w) X.A (eval (.Call (.Attribute e m apos) args [] pos) X.env) Q X.xe s := by
  refine PySem.W.methodCall_KW (pl := pl) (thn (he pins s σ H _ I h) fun u s1 ⟨x, H1, I1, rx, a, C, dx, fs, g, ex, ea, c, k, l, q⟩ => ?_) ht
  subst ex
  obtain rfl : u = Value.ref a := rx
  exact getmeth_ok I1 ea c k l (q s1 I1)
end

/-! ### isinstance -/
section
variable {X : Cx} {pins : List (Addr × Obj)} {σ : St} {H : Hp} {s : Shared} {A : Around} {E : Value → Shared → Prop} {Q : Value → Shared → Prop} {c : Value} {b : Bool}
/-- the type of a value, as the fragment's deciders take it; for an instance its class -/
inductive TyOf (K : PySem.W.Frag) (H : Hp) : V → Value → Prop where
  | non : TyOf K H .non (.type "NoneType")
  | bl (x : Bool) : TyOf K H (.bl x) (.type "bool")
  | int (i : Int) : TyOf K H (.int i) (.type "int")
  | str (x : Str) : TyOf K H (.str x) (.type "str")
  | flt (x : UInt64) : TyOf K H (.flt x) (.type "float")
  | lst {a : Addr} {xs : List V} (e : H a = some (.lst xs)) : TyOf K H (.ref a) (.type "list")
  | frz {a : Addr} {o : Obj} {xs : List V} (e : H a = some (.frz o (.lst xs))) : TyOf K H (.ref a) (.type "list")
  | tup {a : Addr} {xs : List V} (e : H a = some (.tup xs)) : TyOf K H (.ref a) (.type "tuple")
  | dK {a : Addr} {kvs : List (Key × V)} (e : H a = some (.dK kvs)) : TyOf K H (.ref a) (.type "dict")
  | dT {a : Addr} {kvs : List (List Key × V)} (e : H a = some (.dT kvs)) : TyOf K H (.ref a) (.type "dict")
  | ins {a C dx : Addr} {fs : List (Str × V)} (e : H a = some (.ins C dx fs)) (cl : Cls K C) (ha : PySem.W.findIn K (.ref C) "__class__" = some (some (.builtin "object.__class__")))
      (hn : PySem.W.specialIn K (.builtin "object.__class__") "__get__" = some (some (.builtin "getset_descriptor.__get__"))) (htk : PySem.W.takesIn K (.builtin "object.__class__") = some true)
      (hm : PySem.W.mroIn K C (.type "object") = some true) : TyOf K H (.ref a) (.ref C)
/-- isinstance(x, c) for one class c, a built-in or an own one: kitOne's answer -/
theorem isinst_ok {x : V} {u t : Value} (I : Inv X pins σ H s) (rx : RelV x u) (ty : TyOf X.K H x t) (e : PySem.W.kitOne X.K t c = some b) (h : ∀ tk, Q (.bool b) { s with toks := tk }) :
    wpAny (model X.prog X.w) A (call (.builtin "isinstance") [u, c]) Q E s := by
  cases ty with
  | non => cases (show u = Value.none from rx); exact PySem.W.kia_one PySem.W.kitx_none I.kIn True.intro e (fun z => nomatch z) h
  | bl y => cases (show u = Value.bool y from rx); exact PySem.W.kia_one PySem.W.kitx_bool I.kIn True.intro e (fun z => nomatch z) h
  | int i => obtain ⟨t, q⟩ := (show ∃ t, u = Value.int i t from rx); cases q; exact PySem.W.kia_one PySem.W.kitx_int I.kIn True.intro e (fun z => nomatch z) h
  | str y => obtain ⟨t, q⟩ := (show ∃ t, u = Value.str y t from rx); cases q; exact PySem.W.kia_one PySem.W.kitx_str I.kIn True.intro e (fun z => nomatch z) h
  | flt y => obtain ⟨t, q⟩ := (show ∃ t, u = Value.float y t from rx); cases q; exact PySem.W.kia_one PySem.W.kitx_float I.kIn True.intro e (fun z => nomatch z) h
  | @lst a xs ea =>
    cases (show u = Value.ref a from rx)
    obtain ⟨_, _, n, _, h1⟩ := (show ObjOk X.prog X.w H s.heap a (.lst xs) from I.hok a _ ea)
    exact PySem.W.kia_one PySem.W.kitx_list I.kIn ⟨_, h1, rfl⟩ e (fun z => nomatch z) h
  | @frz a ob xs ea =>
    cases (show u = Value.ref a from rx)
    obtain ⟨_, _, _, n, _, h1⟩ := (show ObjOk X.prog X.w H s.heap a (.frz ob (.lst xs)) from I.hok a _ ea)
    exact PySem.W.kia_one PySem.W.kitx_list I.kIn ⟨_, h1, rfl⟩ e (fun z => nomatch z) h
  | @tup a xs ea =>
    cases (show u = Value.ref a from rx)
    obtain ⟨_, _, _, p⟩ := (show ObjOk X.prog X.w H s.heap a (.tup xs) from I.hok a _ ea)
    obtain ⟨o, h1, h2, _⟩ := p
    exact PySem.W.kia_one PySem.W.kitx_tuple I.kIn ⟨o, h1, h2⟩ e (fun z => nomatch z) h
  | @dK a kvs ea =>
    cases (show u = Value.ref a from rx)
    obtain ⟨_, _, vs, _, p⟩ := (show ObjOk X.prog X.w H s.heap a (.dK kvs) from I.hok a _ ea)
    obtain ⟨o, es, ep, h1, h2, _⟩ := p
    exact PySem.W.kia_one PySem.W.kitx_dict I.kIn ⟨o, h1, h2.1⟩ e (fun z => nomatch z) h
  | @dT a kvs ea =>
    cases (show u = Value.ref a from rx)
    obtain ⟨_, _, xs, _, o, es, ep, h1, h2, _⟩ := (show ObjOk X.prog X.w H s.heap a (.dT kvs) from I.hok a _ ea)
    exact PySem.W.kia_one PySem.W.kitx_dict I.kIn ⟨o, h1, h2.1⟩ e (fun z => nomatch z) h
  | @ins a C dx fs ea cl ha hn htk hm =>
    cases (show u = Value.ref a from rx)
    obtain ⟨mA, O, _⟩ := ins_get I.hok ea
    obtain ⟨od, J, _⟩ := O.look
    exact PySem.W.kia_one (PySem.W.kitx_own (cl.get _) cl.hd ha hn htk hm) I.kIn J e (fun z => nomatch z) h
end
end L2

namespace L2
open PySem PySem.Spec PyProof.Rows

/-! ### room -/
structure Room (k : Nat) (A : Around) : Prop where
  hd : A.handled = none
  dp : A.depth + 3 * k + 5 < recursionLimit
  un : A.units + 16 * k + 200 < cLine
theorem Room.mono {j k : Nat} {A : Around} (r : Room k A) (h : j ≤ k) : Room j A := ⟨r.hd, by have := r.dp; omega, by have := r.un; omega⟩
theorem Room.deeper {k : Nat} {A : Around} (r : Room (k + 1) A) (env : Env) : Room k (A.deeper env) :=
  ⟨r.hd, by have := r.dp; show A.depth + 1 + 3 * k + 5 < _; omega, by have := r.un; show A.units + 3 + 16 * k + 200 < _; omega⟩
theorem Room.in1 {k : Nat} {A : Around} (r : Room (k + 1) A) : Room k A.in1 :=
  ⟨r.hd, by have := r.dp; show A.depth + 3 * k + 5 < _; omega, by have := r.un; show A.units + 1 + 16 * k + 200 < _; omega⟩
theorem make_depth {A : Around} {C : Addr} {us : List Value} {kw : List (Str × Value)} : (A.under (.builtin "type.__call__" ⟨.ref C :: us, kw⟩)).depth = A.depth + 1 := by
  first | rfl | simp [Around.under, Code.weight, Code.isCreation, Code.isGuard, Code.isCaller, Code.frames, Code.isFrame, guardIds]
theorem make_units {A : Around} {C : Addr} {us : List Value} {kw : List (Str × Value)} : (A.under (.builtin "type.__call__" ⟨.ref C :: us, kw⟩)).units = A.units + 1 := by
  first | rfl | simp [Around.under, Code.cUnits, Code.frames, Code.isFrame]
theorem Room.make {k : Nat} {A : Around} (r : Room (k + 1) A) (C : Addr) (us : List Value) (kw : List (Str × Value)) : Room k (A.under (.builtin "type.__call__" ⟨.ref C :: us, kw⟩)) :=
  ⟨r.hd, by have := r.dp; rw [make_depth]; omega, by have := r.un; rw [make_units]; omega⟩
theorem Room.depth {k : Nat} {A : Around} (r : Room k A) : A.depth < recursionLimit := by have := r.dp; omega
theorem Room.units {k : Nat} {A : Around} (r : Room k A) : A.units + 64 < cLine := by have := r.un; omega
theorem Room.units0 {k : Nat} {A : Around} (r : Room k A) : A.units < cLine := by have := r.un; omega

/-! ### argument lists and displays -/
def tNil : TA := fun _ H Q => Q [] H
def tCons (ta : TE) (tr : TA) : TA := fun σ H Q => ta σ H fun x H1 => tr σ H1 fun xs H2 => Q (x :: xs) H2
section
variable {X : Cx} {e : Expr} {es : List Expr} {te : TE} {t : TA} {pos : Pos}
theorem pa_nil : PA X [] tNil := fun _ _ _ _ H Q I h => Calls.spliced_nil ⟨[], H, I, .nil, h⟩
theorem pa_cons (ha : PE X e te) (hr : PA X es t) (hs : starEach (e :: es) X.env = (false, eval e X.env) :: starEach es X.env := by rfl) : PA X (e :: es) (tCons te t) := by
  intro pos pins s σ H Q I h
  rw [hs]
  show wpAny _ _ (spliced ((false, eval e X.env) :: backTo pos (starEach es X.env))) _ _ s
  refine Calls.spliced_cons (thn (ha pins s σ H _ I h) fun u s1 ⟨x, H1, I1, r1, q1⟩ => ?_)
  exact thn (hr pos pins s1 σ H1 _ I1 q1) fun us s2 ⟨xs, H2, I2, r2, q2⟩ => ⟨x :: xs, H2, I2, .cons r1 r2, q2⟩

/-- a tuple, a list of written items -/
def tTup (t : TA) : TE := fun σ H Q => t σ H fun xs H1 => xs.length ≤ sizeLine ∧ ∀ p, H1 p = none → Q (.ref p) (upd H1 p (.tup xs))
def tLst (t : TA) : TE := fun σ H Q => t σ H fun xs H1 => xs.length ≤ sizeLine ∧ ∀ p, H1 p = none → Q (.ref p) (upd H1 p (.lst xs))
theorem pe_tup {x1} (h : PA X es t) : PE X (.Tuple es x1 pos) (tTup t) := by
  intro pins s σ H Q I hq
  refine wpAny_Tuple_spliced (thn (h pos pins s σ H _ I hq) fun us s1 ⟨xs, H1, I1, r, z, q⟩ => ⟨by rw [← r.length]; exact z, ?_⟩)
  have hf : H1 s1.heap.objs.size = none := I1.hok.fresh (Nat.le_refl _)
  refine ⟨.ref s1.heap.objs.size, upd H1 s1.heap.objs.size (.tup xs), I1.laid (t' := s1.toks) (fun b u e => Heap.get?_push_of_some _ e) (Nat.le_refl _) ?_, rfl, q _ hf⟩
  exact ⟨z, us, r, ⟨_, Heap.get?_push_size _ rfl, rfl, _, rfl⟩⟩
theorem pe_lst (h : PA X es t) : PE X (.List es pos) (tLst t) := by
  intro pins s σ H Q I hq
  refine wpAny_List_spliced (thn (h pos pins s σ H _ I hq) fun us s1 ⟨xs, H1, I1, r, z, q⟩ => ⟨by rw [← r.length]; exact z, ?_⟩)
  have hf : H1 s1.heap.objs.size = none := I1.hok.fresh (Nat.le_refl _)
  refine ⟨.ref s1.heap.objs.size, upd H1 s1.heap.objs.size (.lst xs), I1.laid (t' := s1.toks) (fun b u e => Heap.get?_push_of_some _ e) (Nat.le_refl _) ?_, rfl, q _ hf⟩
  exact ⟨z, us, 0, r, Heap.get?_push_size _ rfl⟩
end

/-! ### what a def promises -/
/-- a def's promise: the bound arguments in the parameters' order, the heap, the wanted end, the wanted exception -/
abbrev Sp := List V → Hp → VK → XK → Prop
/-- how an exception lies behind a call (file 08 gives it): the callers' frames, abstract heap and state ahead of the call, the wish, the exception, the state -/
abbrev CXT := List Env → Hp → Shared → XK → Value → Shared → Prop

/-- the state at a call -/
structure Env0 (P : Program) (w : World) (K : PySem.W.Frag) (mg : Str → Option Value) (base : Heap) (A : Around) (outer : List Env) (s : Shared) (H : Hp) : Prop where
  frames : A.frames = some outer
  mod : Mod K mg base
  bs : ∀ b o, base.get? b = some o → s.heap.get? b = some o ∧ H b = none
  bsz : base.objs.size ≤ s.heap.objs.size
  funs : s.heap.FunFrames base outer
  frf : ∀ b ∈ frs outer, H b = none
  hok : HOk P w H s.heap
  bare : AllBare s.gens
/-- a call's end -/
def CE (outer : List Env) (P : Program) (w : World) (H : Hp) (s : Shared) (Q : VK) (u : Value) (s' : Shared) : Prop :=
  ∃ v H', s'.os = s.os ∧ AllBare s'.gens ∧ Un (frs outer) [] H H' s.heap s'.heap ∧ HOk P w H' s'.heap ∧ RelV v u ∧ Q v H'
def CR (CX : CXT) (outer : List Env) (P : Program) (w : World) (H : Hp) (s : Shared) (Q : VK) (E : XK) (r : Result) (s' : Shared) : Prop :=
  match r with
  | .ok (.ret u) => CE outer P w H s Q u s'
  | .ok _ => False
  | .error e => CX outer H s E e s'
structure FnOk (P : Program) (w : World) (K : PySem.W.Frag) (mg : Str → Option Value) (base : Heap) (CX : CXT) (k : Nat) (f : Addr) (fd : FuncData) (ps : List Str) (sp : Sp) : Prop where
  len : ∀ vs H Q E, sp vs H Q E → vs.length = ps.length
  run : ∀ (A : Around) (outer : List Env) (s : Shared) (H : Hp) (args : Args) (us : List Value) (vs : List V) (Q : VK) (E : XK), Room k A → Env0 P w K mg base A outer s H → BindsTo s fd args (ps.zip us) → Vals vs us → sp vs H Q E →
    codeAny (model P w) A (.call (.ref f) args) (CR CX outer P w H s Q E) s
theorem FnOk.mono {P : Program} {w : World} {K : PySem.W.Frag} {mg : Str → Option Value} {base : Heap} {CX : CXT} {j k : Nat} {f : Addr} {fd : FuncData} {ps : List Str} {sp : Sp} (F : FnOk P w K mg base CX j f fd ps sp) (h : j ≤ k) :
    FnOk P w K mg base CX k f fd ps sp := ⟨F.len, fun A outer s H args us vs Q E hr => F.run A outer s H args us vs Q E (hr.mono h)⟩
/-- a weaker promise -/
theorem FnOk.imp {P : Program} {w : World} {K : PySem.W.Frag} {mg : Str → Option Value} {base : Heap} {CX : CXT} {k : Nat} {f : Addr} {fd : FuncData} {ps : List Str} {sp sp' : Sp} (F : FnOk P w K mg base CX k f fd ps sp)
    (h : ∀ vs H Q E, sp' vs H Q E → sp vs H Q E) : FnOk P w K mg base CX k f fd ps sp' :=
  ⟨fun vs H Q E q => F.len vs H Q E (h _ _ _ _ q), fun A outer s H args us vs Q E hr he hb hv hs => F.run A outer s H args us vs Q E hr he hb hv (h _ _ _ _ hs)⟩

theorem Env0.make {P : Program} {w : World} {K : PySem.W.Frag} {mg : Str → Option Value} {base : Heap} {A : Around} {outer : List Env} {s : Shared} {H : Hp} (e : Env0 P w K mg base A outer s H) (C : Addr) (us : List Value) (kw : List (Str × Value)) :
    Env0 P w K mg base (A.under (.builtin "type.__call__" ⟨.ref C :: us, kw⟩)) outer s H := ⟨by first | exact e.frames | (simpa [Around.under, Code.envs, Code.isFrame, pushEnvs] using e.frames), e.mod, e.bs, e.bsz, e.funs, e.frf, e.hok, e.bare⟩
theorem Env0.in1 {P : Program} {w : World} {K : PySem.W.Frag} {mg : Str → Option Value} {base : Heap} {A : Around} {outer : List Env} {s : Shared} {H : Hp} (e : Env0 P w K mg base A outer s H) :
    Env0 P w K mg base A.in1 outer s H := ⟨e.frames, e.mod, e.bs, e.bsz, e.funs, e.frf, e.hok, e.bare⟩

section
variable {X : Cx} {pins : List (Addr × Obj)} {σ : St} {H : Hp} {s s' : Shared}
/-- from a body: what a callee wants -/
theorem Inv.env0 (I : Inv X pins σ H s) : Env0 X.prog X.w X.K X.mg X.base X.A X.stack s H :=
  ⟨I.ok.frames, I.ok.mod, I.bs, Nat.le_trans I.ok.bsz I.sz, I.stack, I.stkFree, I.hok, I.bare⟩
/-- behind a call -/
theorem Inv.after {Q : VK} {u : Value} (I : Inv X pins σ H s) (h : CE X.stack X.prog X.w H s Q u s') : EP X pins σ Q u s' := by
  obtain ⟨v, H', os, bare, un, hok, r, q⟩ := h
  obtain ⟨hh, g, d, t, os'⟩ := s'
  obtain rfl : os' = s.os := os
  exact ⟨v, H', I.call (h' := hh) (g' := g) (d' := d) (t' := t) (ch := []) un hok bare (fun b z => absurd z (by simp)), r, q⟩
end

/-! ### calls -/
/-- f(..): the written arguments, then the defaults dvs; E: what is wanted of an exception -/
def tCall (sp : Sp) (dvs : List V) (E : XK) (t : TA) : TE := fun σ H Q => t σ H fun vs H1 => sp (vs ++ dvs) H1 Q E
/-- o.m(..) of an instance of the class at C -/
def tMeth (C : Addr) (m : Str) (sp : Sp) (dvs : List V) (E : XK) (ta : TE) (t : TA) : TE := fun σ H Q => ta σ H fun x H1 => ∃ a dx fs, x = .ref a ∧ H1 a = some (.ins C dx fs) ∧ fs.lookup m = none ∧
  t σ H1 fun vs H2 => sp (x :: (vs ++ dvs)) H2 Q E
/-- C(..): a new instance and its dict, then __init__ -/
def tMake (C : Addr) (sp : Sp) (dvs : List V) (E : XK) (t : TA) : TE := fun σ H Q => t σ H fun vs H1 => ∀ x dx, H1 x = none → H1 dx = none → dx ≠ x →
  sp (.ref x :: (vs ++ dvs)) (upd (upd H1 dx (.own x)) x (.ins C dx [])) (fun v H2 => v = .non ∧ Q (.ref x) H2) E

/-- how the parameters are bound: us the positional arguments, kw the keywords' values by name, ds the defaults that fill up -/
def Binds (K : PySem.W.Frag) (fd : FuncData) (ps : List Str) (ds : List Value) : Prop :=
  ∀ (s : Shared) (us : List Value), K.In s.heap → (us ++ ds).length = ps.length → BindsTo s fd ⟨us, []⟩ (ps.zip (us ++ ds))
/-- every parameter is given -/
theorem Binds.all {K : PySem.W.Frag} {fd : FuncData} {ps : List Str} (h : ∀ us : List Value, us.length = ps.length → bindArgs fd ⟨us, []⟩ = pure (ps.zip us)) : Binds K fd ps [] := fun s us _ hl => by
  rw [List.append_nil] at hl ⊢
  exact .of_eq (h us hl)

/-- an exception of a callee reaches what this body wants of exceptions -/
def Passes (CX : CXT) (X : Cx) (E : XK) : Prop := ∀ (pins : List (Addr × Obj)) (σ : St) (H : Hp) (s : Shared) (e : Value) (s' : Shared), Inv X pins σ H s → CX X.stack H s E e s' → X.xe e s'

section
variable {X : Cx} {CX : CXT} {k : Nat} {f C : Addr} {fd : FuncData} {ps : List Str} {sp : Sp} {dvs : List V} {ds : List Value} {E : XK} {x m : Str} {p pos apos : Pos} {e o : Expr} {es : List Expr} {ta : TE} {t : TA}

/-- the callee runs -/
theorem run_fn {pins : List (Addr × Obj)} {σ : St} {H : Hp} {s : Shared} {Q : VK} {us : List Value} {vs : List V} (F : FnOk X.prog X.w X.K X.mg X.base CX k f fd ps sp) (hr : Room k X.A) (hb : Binds X.K fd ps ds) (hd : Vals dvs ds) (hx : Passes CX X E)
    (I : Inv X pins σ H s) (r : Vals vs us) (h : sp (vs ++ dvs) H Q E) : wpAny (model X.prog X.w) X.A (call (.ref f) us) (EP X pins σ Q) X.xe s := by
  have r2 : Vals (vs ++ dvs) (us ++ ds) := r.append hd
  have hl : (us ++ ds).length = ps.length := by rw [← r2.length]; exact F.len _ _ _ _ h
  refine wpAny_call (codeAny_mono (F.run X.A X.stack s H ⟨us, []⟩ (us ++ ds) (vs ++ dvs) Q E hr I.env0 (hb s us I.kIn hl) r2 h) fun r s' hq => ?_)
  cases r with
  | error e => exact hx pins σ H s e s' I hq
  | ok fl =>
    cases fl with
    | ret u => exact I.after hq
    | next => exact False.elim hq
    | brk => exact False.elim hq
    | cont => exact False.elim hq

theorem pe_call (F : FnOk X.prog X.w X.K X.mg X.base CX k f fd ps sp) (hr : Room k X.A) (hg : Gl X x) (hm : X.mg x = some (.ref f)) (hk : PySem.W.keepIn X.K (.ref f) = true) (hb : Binds X.K fd ps ds) (hd : Vals dvs ds) (hx : Passes CX X E)
    (ha : PA X (e :: es) t) (hdb : (x == ("__debug__" : Str)) = false := by decide) (he : starEach (e :: es) X.env = (false, eval e X.env) :: starEach es X.env := by rfl) (hpl : (backTo pos (starEach es X.env)).any (·.1) = false := by rfl) :
    PE X (.Call (.Name x p) (e :: es) [] pos) (tCall sp dvs E t) := by
  intro pins s σ H Q I h
  refine wpAny_Call_Name_kw (ld_glob I hg hm ?_ hdb)
  refine PySem.W.callWith_K (h₀ := X.base) I.ok.mod.kin hk (thn (ha pos pins s σ H _ I h) fun us s1 ⟨vs, H1, I1, r, q⟩ => ⟨I1.kIn, ?_⟩) he hpl
  exact run_fn F hr hb hd hx I1 r q
theorem pe_call0 (F : FnOk X.prog X.w X.K X.mg X.base CX k f fd ps sp) (hr : Room k X.A) (hg : Gl X x) (hm : X.mg x = some (.ref f)) (hk : PySem.W.keepIn X.K (.ref f) = true) (hb : Binds X.K fd ps ds) (hd : Vals dvs ds) (hx : Passes CX X E)
    (hdb : (x == ("__debug__" : Str)) = false := by decide) : PE X (.Call (.Name x p) [] [] pos) (tCall sp dvs E tNil) := by
  intro pins s σ H Q I h
  refine wpAny_Call_Name_kw (ld_glob I hg hm ?_ hdb)
  exact PySem.W.callWith_K0 I.kIn hk (run_fn (us := []) F hr hb hd hx I .nil h)

/-- o.m(e, ..) -/
theorem pe_meth {pl : Sem Bool} (he : PE X o ta) (c : Cls X.K C) (hm : Meth X.K C m f) (F : FnOk X.prog X.w X.K X.mg X.base CX k f fd ps sp) (hr : Room k X.A) (hb : Binds X.K fd ps ds) (hd : Vals dvs ds) (hx : Passes CX X E) (ha : PA X (e :: es) t)
    (hst : starEach (e :: es) X.env = (false, eval e X.env) :: starEach es X.env := by rfl) (hpl : (backTo pos (starEach es X.env)).any (·.1) = false := by rfl)
    (ht : eval (.Call (.Attribute o m apos) (e :: es) [] pos) X.env = (do
      let ov ← eval o X.env
      standAt apos.atName
      let (f, first) ← holding [ov] (getMethod ov m pl)
      callWith pos f first (backTo pos (starEach (e :: es) X.env)) (backToKw pos (keywordEach [] X.env))) := by rfl) :
    PE X (.Call (.Attribute o m apos) (e :: es) [] pos) (tMeth C m sp dvs E ta t) := by
  intro pins s σ H Q I h
  refine PySem.W.methodCall_KW (pl := pl) (thn (he pins s σ H _ I h) fun u s1 ⟨x, H1, I1, rx, a, dx, fs, ex, ea, l, q⟩ => ?_) ht
  subst ex
  obtain rfl : u = Value.ref a := rx
  refine getmeth_ok I1 ea c hm l ?_
  refine PySem.W.callWith_K (first := [.ref a]) (h₀ := X.base) I.ok.mod.kin hm.kp (thn (ha pos pins s1 σ H1 _ I1 q) fun us s2 ⟨vs, H2, I2, r, q2⟩ => ⟨I2.kIn, ?_⟩) hst hpl
  exact run_fn (us := .ref a :: us) (vs := .ref a :: vs) F hr hb hd hx I2 (.cons rfl r) q2
/-- o.m() -/
theorem pe_meth0 {pl : Sem Bool} (he : PE X o ta) (c : Cls X.K C) (hm : Meth X.K C m f) (F : FnOk X.prog X.w X.K X.mg X.base CX k f fd ps sp) (hr : Room k X.A) (hb : Binds X.K fd ps ds) (hd : Vals dvs ds) (hx : Passes CX X E)
    (ht : eval (.Call (.Attribute o m apos) [] [] pos) X.env = (do
      let ov ← eval o X.env
      standAt apos.atName
      let (f, first) ← holding [ov] (getMethod ov m pl)
      callWith pos f first (backTo pos (starEach [] X.env)) (backToKw pos (keywordEach [] X.env))) := by rfl) :
    PE X (.Call (.Attribute o m apos) [] [] pos) (tMeth C m sp dvs E ta tNil) := by
  intro pins s σ H Q I h
  refine PySem.W.methodCall_KW (pl := pl) (thn (he pins s σ H _ I h) fun u s1 ⟨x, H1, I1, rx, a, dx, fs, ex, ea, l, q⟩ => ?_) ht
  subst ex
  obtain rfl : u = Value.ref a := rx
  refine getmeth_ok I1 ea c hm l ?_
  exact PySem.W.callWith_K0 (first := [.ref a]) I1.kIn hm.kp (run_fn (us := [.ref a]) (vs := [.ref a]) F hr hb hd hx I1 (.cons rfl .nil) q)

/-- what a class must have to be made -/
structure Mk (K : PySem.W.Frag) (C f : Addr) : Prop where
  makes : PySem.W.makesIn K C = true
  init : PySem.W.findIn K (.ref C) "__init__" = some (some (.ref f))
  fn : PySem.W.isFn K (.ref f) = true
  kp : PySem.W.keepIn K (.ref C) = true

theorem run_make {pins : List (Addr × Obj)} {σ : St} {H : Hp} {s : Shared} {Q : VK} {us : List Value} {vs : List V} (M : Mk X.K C f) (F : FnOk X.prog X.w X.K X.mg X.base CX k f fd ps sp) (hr : Room (k + 1) X.A) (hb : Binds X.K fd ps ds) (hd : Vals dvs ds)
    (hx : Passes CX X E) (I : Inv X pins σ H s) (r : Vals vs us)
    (h : ∀ x dx, H x = none → H dx = none → dx ≠ x → sp (.ref x :: (vs ++ dvs)) (upd (upd H dx (.own x)) x (.ins C dx [])) (fun v H2 => v = .non ∧ Q (.ref x) H2) E) :
    wpAny (model X.prog X.w) X.A (call (.ref C) us) (EP X pins σ Q) X.xe s := by
  have hq := h (s.heap.objs.size + 1) s.heap.objs.size (I.hok.fresh (Nat.le_succ _)) (I.hok.fresh (Nat.le_refl _)) (Nat.ne_of_lt (Nat.lt_succ_self _))
  have I2 := Inv.made (C := C) I
  have r2 : Vals (V.ref (s.heap.objs.size + 1) :: (vs ++ dvs)) (Value.ref (s.heap.objs.size + 1) :: (us ++ ds)) := .cons rfl (r.append hd)
  have hl : (Value.ref (s.heap.objs.size + 1) :: us ++ ds).length = ps.length := by
    have e := r2.length
    rw [F.len _ _ _ _ hq] at e
    exact e.symm
  refine wpAny_call (make_map (f := f) I.kIn M.makes M.init (beq_iff_eq.mp M.fn) (codeAny_mono (F.run _ X.stack _ _ ⟨Value.ref (s.heap.objs.size + 1) :: us, []⟩ (Value.ref (s.heap.objs.size + 1) :: (us ++ ds)) _ _ E (hr.make C us [])
    (I2.env0.make C us []) (hb _ (Value.ref (s.heap.objs.size + 1) :: us) I2.kIn hl) r2 hq) fun r s' hq' => ?_))
  cases r with
  | error e => exact hx pins σ _ _ e s' I2 hq'
  | ok fl =>
    cases fl with
    | ret u =>
      obtain ⟨v, H', I3, rv, ev, q3⟩ := I2.after hq'
      subst ev
      exact ⟨rv, ⟨V.ref (s.heap.objs.size + 1), H', I3, rfl, q3⟩⟩
    | next => exact False.elim hq'
    | brk => exact False.elim hq'
    | cont => exact False.elim hq'
theorem pe_make (M : Mk X.K C f) (F : FnOk X.prog X.w X.K X.mg X.base CX k f fd ps sp) (hr : Room (k + 1) X.A) (hg : Gl X x) (hm : X.mg x = some (.ref C)) (hb : Binds X.K fd ps ds) (hd : Vals dvs ds) (hx : Passes CX X E)
    (ha : PA X (e :: es) t) (hdb : (x == ("__debug__" : Str)) = false := by decide) (he : starEach (e :: es) X.env = (false, eval e X.env) :: starEach es X.env := by rfl) (hpl : (backTo pos (starEach es X.env)).any (·.1) = false := by rfl) :
    PE X (.Call (.Name x p) (e :: es) [] pos) (tMake C sp dvs E t) := by
  intro pins s σ H Q I h
  refine wpAny_Call_Name_kw (ld_glob I hg hm ?_ hdb)
  refine PySem.W.callWith_K (h₀ := X.base) I.ok.mod.kin M.kp (thn (ha pos pins s σ H _ I h) fun us s1 ⟨vs, H1, I1, r, q⟩ => ⟨I1.kIn, ?_⟩) he hpl
  exact run_make M F hr hb hd hx I1 r q
theorem pe_make0 (M : Mk X.K C f) (F : FnOk X.prog X.w X.K X.mg X.base CX k f fd ps sp) (hr : Room (k + 1) X.A) (hg : Gl X x) (hm : X.mg x = some (.ref C)) (hb : Binds X.K fd ps ds) (hd : Vals dvs ds) (hx : Passes CX X E)
    (hdb : (x == ("__debug__" : Str)) = false := by decide) : PE X (.Call (.Name x p) [] [] pos) (tMake C sp dvs E tNil) := by
  intro pins s σ H Q I h
  refine wpAny_Call_Name_kw (ld_glob I hg hm ?_ hdb)
  exact PySem.W.callWith_K0 I.kIn M.kp (run_make (us := []) M F hr hb hd hx I .nil h)
end

/-! ### keywords -/
/-- the values of the keywords, from the left -/
def PK (X : Cx) (kws : List Keyword) (t : TA) : Prop :=
  ∀ (pos : Pos) (pins : List (Addr × Obj)) (s : Shared) (σ : St) (H : Hp) (Q : List V → Hp → Prop), Inv X pins σ H s → t σ H Q → wpAny (model X.prog X.w) X.A (evalAll ((backToKw pos (keywordEach kws X.env)).map (·.2))) (AP X pins σ Q) X.xe s
section
variable {X : Cx} {CX : CXT} {k : Nat} {f C : Addr} {fd : FuncData} {ps ks : List Str} {sp : Sp} {E : XK} {x m : Str} {p pos apos kpos : Pos} {e o : Expr} {es : List Expr} {kws : List Keyword} {te ta : TE} {t tk : TA} {nm : Option Str}
theorem pk_nil : PK X [] tNil := fun _ _ _ _ H Q I h => wpAny_evalAll_nil ⟨[], H, I, .nil, h⟩
theorem pk_cons (ha : PE X e te) (hr : PK X kws t) : PK X (⟨nm, e, kpos⟩ :: kws) (tCons te t) := by
  intro pos pins s σ H Q I h
  show wpAny _ _ (evalAll ((do let v ← eval e X.env; standAt pos; pure v) :: (backToKw pos (keywordEach kws X.env)).map (·.2))) _ _ s
  refine wpAny_evalAll_cons (wpAny_bind (thn (ha pins s σ H _ I h) fun u s1 ⟨x, H1, I1, r1, q1⟩ => wpAny_bind (wpAny_standAt (wpAny_pure ?_))))
  exact thn (hr pos pins s1 σ H1 _ I1 q1) fun us s2 ⟨xs, H2, I2, r2, q2⟩ => ⟨x :: xs, H2, I2, .cons r1 r2, q2⟩

/-- how a call with keywords binds: g puts the positional values us and the keywords' values ws (names ks) in the parameters' order, defaults among them -/
structure KBinds (K : PySem.W.Frag) (fd : FuncData) (ps ks : List Str) (g : List Value → List Value → List Value) (gV : List V → List V → List V) : Prop where
  to : ∀ (s : Shared) (us ws : List Value), K.In s.heap → (g us ws).length = ps.length → BindsTo s fd ⟨us, ks.zip ws⟩ (ps.zip (g us ws))
  rel : ∀ {vs : List V} {us : List Value} {zs : List V} {ws : List Value}, Vals vs us → Vals zs ws → Vals (gV vs zs) (g us ws)
def tCallK (sp : Sp) (gV : List V → List V → List V) (E : XK) (t tk : TA) : TE := fun σ H Q => t σ H fun vs H1 => tk σ H1 fun zs H2 => sp (gV vs zs) H2 Q E
variable {g : List Value → List Value → List Value} {gV : List V → List V → List V}
theorem run_fnk {pins : List (Addr × Obj)} {σ : St} {H : Hp} {s : Shared} {Q : VK} {us ws : List Value} {vs zs : List V} (F : FnOk X.prog X.w X.K X.mg X.base CX k f fd ps sp) (hr : Room k X.A) (hb : KBinds X.K fd ps ks g gV) (hx : Passes CX X E)
    (I : Inv X pins σ H s) (r : Vals vs us) (rz : Vals zs ws) (h : sp (gV vs zs) H Q E) : wpAny (model X.prog X.w) X.A (call (.ref f) us (ks.zip ws)) (EP X pins σ Q) X.xe s := by
  have r2 := hb.rel r rz
  have hl : (g us ws).length = ps.length := by rw [← r2.length]; exact F.len _ _ _ _ h
  refine wpAny_call (codeAny_mono (F.run X.A X.stack s H ⟨us, ks.zip ws⟩ (g us ws) (gV vs zs) Q E hr I.env0 (hb.to s us ws I.kIn hl) r2 h) fun r s' hq => ?_)
  cases r with
  | error e => exact hx pins σ H s e s' I hq
  | ok fl =>
    cases fl with
    | ret u => exact I.after hq
    | next => exact False.elim hq
    | brk => exact False.elim hq
    | cont => exact False.elim hq
/-- f(e, .., k = v, ..) -/
theorem pe_callK (F : FnOk X.prog X.w X.K X.mg X.base CX k f fd ps sp) (hr : Room k X.A) (hg : Gl X x) (hm : X.mg x = some (.ref f)) (hk : PySem.W.keepIn X.K (.ref f) = true) (hb : KBinds X.K fd ps ks g gV) (hx : Passes CX X E)
    (ha : PA X (e :: es) t) (hkw : PK X kws tk) (hall : (backToKw pos (keywordEach kws X.env)).all (·.1.isSome) = true := by rfl) (hks : (backToKw pos (keywordEach kws X.env)).filterMap (·.1) = ks := by rfl)
    (hdb : (x == ("__debug__" : Str)) = false := by decide) (he : starEach (e :: es) X.env = (false, eval e X.env) :: starEach es X.env := by rfl)
    (hpl : ((backTo pos (starEach (e :: es) X.env)).any (·.1) || (backToKw pos (keywordEach kws X.env)).any (·.1.isNone)) = false := by rfl) :
    PE X (.Call (.Name x p) (e :: es) kws pos) (tCallK sp gV E t tk) := by
  intro pins s σ H Q I h
  refine wpAny_Call_Name_kw (ld_glob I hg hm ?_ hdb)
  refine PySem.W.callWith_KW (h₀ := X.base) I.ok.mod.kin hk hall (thn (ha pos pins s σ H _ I h) fun us s1 ⟨vs, H1, I1, r, q⟩ => ?_) hpl he
  refine thn (hkw pos pins s1 σ H1 _ I1 q) fun ws s2 ⟨zs, H2, I2, rz, q2⟩ => ⟨I2.kIn, ?_⟩
  rw [hks]
  exact run_fnk F hr hb hx I2 r rz q2
end

/-! ### a def's body keeps its promise -/
/-- names: the parameters first -/
structure FnScope (N P : List Str) (sc : Scope) : Prop where
  kind : sc.kind = .function
  co : sc.isCoroutine = false
  gen : sc.isGenerator = false
  nd : N.Nodup
  pre : N.take P.length = P
  par : ∀ x ∈ P, sc.names.lookup x = some .local ∨ sc.names.lookup x = some .cell
  nofree : ∀ y ∈ sc.names, y.2 ≠ .free

theorem bindL_out {kindOf : Str → Option NameKind} {x : Str} : ∀ {binds : List (Str × Value)} {m : Str → Option Value}, (∀ v, (x, v) ∉ binds) → bindL kindOf binds m x = m x
  | [], _, _ => rfl
  | (n, v) :: r, m, h => by
    unfold bindL
    rw [bindL_out fun w hw => h w (List.mem_cons_of_mem _ hw)]
    split
    · have : x ≠ n := by rintro rfl; exact h v List.mem_cons_self
      simp [this]
    · rfl
theorem bindC_out {kindOf : Str → Option NameKind} {x : Str} : ∀ {binds : List (Str × Value)} {m : Str → Option Value}, (∀ v, (x, v) ∉ binds) → bindC kindOf binds m x = m x
  | [], _, _ => rfl
  | (n, v) :: r, m, h => by
    unfold bindC
    rw [bindC_out fun w hw => h w (List.mem_cons_of_mem _ hw)]
    split
    · rfl
    · have : x ≠ n := by rintro rfl; exact h v List.mem_cons_self
      simp [this]
theorem bindL_get {kindOf : Str → Option NameKind} {x : Str} {v : Value} : ∀ {P : List Str} {vs : List Value} {i : Nat} {m : Str → Option Value}, P.Nodup → P[i]? = some x → vs[i]? = some v → kindOf x = some .local →
    bindL kindOf (P.zip vs) m x = some v
  | [], _, _, _, _, h, _, _ => by simp at h
  | _ :: _, [], _, _, _, _, h, _ => by simp at h
  | p :: P, w :: vs, 0, m, nd, h1, h2, hk => by
    simp at h1 h2; subst h1; subst h2
    show bindL kindOf ((p, w) :: P.zip vs) m p = _
    unfold bindL
    rw [bindL_out fun v hv => (List.nodup_cons.mp nd).1 (List.of_mem_zip hv).1, if_pos hk]
    simp
  | p :: P, w :: vs, i + 1, m, nd, h1, h2, hk => by
    show bindL kindOf ((p, w) :: P.zip vs) m x = _
    unfold bindL
    exact bindL_get (i := i) (List.nodup_cons.mp nd).2 (by simpa using h1) (by simpa using h2) hk
theorem bindC_get {kindOf : Str → Option NameKind} {x : Str} {v : Value} : ∀ {P : List Str} {vs : List Value} {i : Nat} {m : Str → Option Value}, P.Nodup → P[i]? = some x → vs[i]? = some v → kindOf x ≠ some .local →
    bindC kindOf (P.zip vs) m x = some v
  | [], _, _, _, _, h, _, _ => by simp at h
  | _ :: _, [], _, _, _, _, h, _ => by simp at h
  | p :: P, w :: vs, 0, m, nd, h1, h2, hk => by
    simp at h1 h2; subst h1; subst h2
    show bindC kindOf ((p, w) :: P.zip vs) m p = _
    unfold bindC
    rw [bindC_out fun v hv => (List.nodup_cons.mp nd).1 (List.of_mem_zip hv).1, if_neg hk]
    simp
  | p :: P, w :: vs, i + 1, m, nd, h1, h2, hk => by
    show bindC kindOf ((p, w) :: P.zip vs) m x = _
    unfold bindC
    exact bindC_get (i := i) (List.nodup_cons.mp nd).2 (by simpa using h1) (by simpa using h2) hk

/-- the names' values at the entry -/
def start (N : List Str) (vs : List V) : St := vs.map some ++ List.replicate (N.length - vs.length) none

/-- the context of a def's body, at its entry; an exception leaves the frame, then lies as CX says -/
def cxOf (CX : CXT) (P : Program) (w : World) (K : PySem.W.Frag) (mg : Str → Option Value) (base : Heap) (N : List Str) (qual : Str) (scope : Scope) (f : Addr) (cd : Value) (A : Around) (outer : List Env) (s : Shared) (H : Hp) (E : XK) : Cx where
  prog := P
  w := w
  K := K
  mg := mg
  base := base
  A := A.deeper (envOfC qual scope s.heap.objs.size f cd)
  N := N
  s₀ := s
  H₀ := H
  env := envOfC qual scope s.heap.objs.size f cd
  outer := outer
  stack := envOfC qual scope s.heap.objs.size f cd :: outer
  ex := []
  calm := true
  fn := fun _ => true
  pn := []
  xe := fun e s' => wpAny (model P w) (A.deeper (envOfC qual scope s.heap.objs.size f cd)) (leaving (envOfC qual scope s.heap.objs.size f cd) e) (fun _ s'' => CX outer H s E e s'') (fun e' s'' => CX outer H s E e' s'') s'

theorem cell_has {sc : Scope} {n : Nat} {x : Str} (h : sc.names.lookup x = some .cell) : ∃ c, (cellsFrom n sc.names []).lookup x = some c := by
  have q := PySem.W.cellsFrom_some sc.names n [] (.inl h)
  exact Option.isSome_iff_exists.mp q

theorem inv_start {CX : CXT} {P : Program} {w : World} {K : PySem.W.Frag} {mg : Str → Option Value} {base : Heap} {N ps : List Str} {qual : Str} {scope : Scope} {f : Addr} {cd : Value} {A : Around} {outer : List Env} {s s1 : Shared} {H : Hp} {E : XK} {us : List Value} {vs : List V}
    (S : FnScope N ps scope) (hd : A.handled = none) (e0 : Env0 P w K mg base A outer s H) (hl : vs.length = ps.length) (r : Vals vs us)
    (x : InCallC s s.heap.objs.size (bindL (envOfC qual scope s.heap.objs.size f cd).kindOf (ps.zip us) fun _ => none) (cellsFrom (s.heap.objs.size + 1) scope.names []) (bindC (envOfC qual scope s.heap.objs.size f cd).kindOf (ps.zip us) fun _ => none) s1) :
    Inv (cxOf CX P w K mg base N qual scope f cd A outer s H E) [] (start N vs) H s1 := by
  have hpl : ps.length ≤ N.length := by have := congrArg List.length S.pre; rw [List.length_take] at this; omega
  obtain ⟨h1, tk, rfl, hk⟩ := x.done
  have noA : ∀ b : Addr, b ∉ (cxOf CX P w K mg base N qual scope f cd A outer s H E).ex := fun b z => absurd (show b ∈ ([] : List Addr) from z) (by simp)
  refine ⟨⟨e0.mod, S.kind, rfl, rfl, Nat.le_refl _, fun y z c h1 h2 => ?_, fun y hy => ?_, fun y c _ h => ?_, fun _ => hd, Around.frames_deeper e0.frames, .inr ⟨rfl, rfl⟩, fun b z => absurd z (noA b), e0.bs, e0.bsz, fun b _ _ => noA b, fun b z => absurd z (noA b), e0.funs, e0.frf⟩,
    rfl, e0.bare, Un.kept hk, ⟨_, x.toInCall.ns, fun i y v h1 h2 h3 => ?_⟩, fun y c h => ⟨_, x.cell y c h⟩, e0.hok.fresh (Nat.le_refl _), fun y c h => ?_, fun p hp => absurd (show p ∈ ([] : List (Addr × Obj)) from hp) (by simp), e0.hok.kept hk, ?_⟩
  · exact name_of_addr x.apart (PySem.mem_of_lookup h1) (PySem.mem_of_lookup h2)
  · have hy : scope.names.lookup y = some .cell ∨ scope.names.lookup y = some .free := hy
    rcases hy with hy | hy
    · exact cell_has hy
    · exact absurd rfl (S.nofree _ (PySem.mem_of_lookup hy))
  · exact Nat.le_of_lt (x.above y c (PySem.mem_of_lookup h))
  · have hi : i < vs.length := by
      unfold start at h2
      by_cases hi : i < vs.length
      · exact hi
      · rw [List.getElem?_append_right (by simpa using hi)] at h2
        rw [List.getElem?_replicate] at h2
        split at h2 <;> cases h2
    have ha : vs[i]? = some v := by
      unfold start at h2
      rw [List.getElem?_append_left (by simpa using hi), List.getElem?_map] at h2
      cases e : vs[i]? with
      | none => rw [e] at h2; cases h2
      | some a => rw [e] at h2; cases h2; rfl
    obtain ⟨u, hu, rv⟩ := r.get ha
    have hp : ps[i]? = some y := by
      rw [← S.pre, List.getElem?_take_of_lt (by omega)]; exact h1
    have ndP : ps.Nodup := by rw [← S.pre]; exact S.nd.sublist (List.take_sublist _ _)
    refine ⟨u, rv, ?_⟩
    rcases S.par y (List.mem_of_getElem? hp) with k | k
    · exact .inl ⟨k, bindL_get ndP hp hu k⟩
    · obtain ⟨c, e⟩ := cell_has (n := s.heap.objs.size + 1) k
      refine .inr ⟨.inl k, c, e, ?_⟩
      have q := x.cell y c e
      rw [bindC_get ndP hp hu (by show scope.names.lookup y ≠ _; rw [k]; decide)] at q
      exact q
  · exact e0.hok.fresh (Nat.le_of_lt (x.above y c (PySem.mem_of_lookup h)))
  · unfold start
    show _ = N.length
    rw [List.length_append, List.length_map, List.length_replicate]
    omega

/-- THE RULE: a def (or a method) of the text, by its body. The body's reading t is chosen for each entry; it is run at the parameters' values -/
theorem fn_of {CX : CXT} {P : Program} {w : World} {K : PySem.W.Frag} {mg : Str → Option Value} {base : Heap} {k : Nat} {f : Addr} {name qual : Str} {params : Arguments} {body : List Stmt} {scope : Scope} {dV kV doc pm cdv ct oc : Value} {an od : Option Addr}
    {osl : Array (Option Value)} {N ps : List Str} {sp : Sp} (lk : K.lookup f = some ⟨oc, od, .func (PySem.W.fnOf name qual params body scope dV kV doc pm an cdv ct), osl⟩) (hcd : PySem.W.codeIn K cdv qual = true) (S : FnScope N ps scope)
    (len : ∀ vs H Q E, sp vs H Q E → vs.length = ps.length)
    (hbody : ∀ (A : Around) (outer : List Env) (s : Shared) (H : Hp) (vs : List V) (Q : VK) (E : XK), Room k (A.deeper (envOfC qual scope s.heap.objs.size f cdv)) → sp vs H Q E →
      ∃ t, PSs (cxOf CX P w K mg base N qual scope f cdv A outer s H E) body t ∧ t { nx := fun _ H' => Q .non H', rt := Q } (start N vs) H) :
    FnOk P w K mg base CX (k + 1) f (PySem.W.fnOf name qual params body scope dV kV doc pm an cdv ct) ps sp := by
  refine ⟨len, fun A outer s H args us vs Q E hr e0 hb r hsp => ?_⟩
  have hl := len _ _ _ _ hsp
  have KX : K.In s.heap := e0.mod.kin.keeps fun b o e => (e0.bs b o e).1
  have lim : s.heap.NoLimit := e0.mod.nolimit.keeps fun b o e => (e0.bs b o e).1
  have hkind : ∀ y ∈ ps.zip us, scope.names.lookup y.1 = some .local ∨ (scope.names.lookup y.1 = some .cell ∧ ((cellsFrom (s.heap.objs.size + 1) scope.names []).lookup y.1).isSome = true) := fun ⟨n, v⟩ hy => by
    rcases S.par n (List.of_mem_zip hy).1 with q | q
    · exact .inl q
    · exact .inr ⟨q, PySem.W.cellsFrom_some _ _ _ (.inl q)⟩
  refine codeAny_call_function hr.depth (KX _ _ lk) rfl S.co S.gen rfl (PySem.W.codeRec_of KX hcd) (hb _ _ _ _ ?_)
  refine wpAny_newFunctionEnv_cells S.kind hkind fun env he s1 x => ?_
  subst he
  refine ⟨lim.keeps x.toInCall.keep, codeAny_func ?_⟩
  obtain ⟨t, ht, hq⟩ := hbody A outer s H vs Q E (hr.deeper _) hsp
  have I : Inv (cxOf CX P w K mg base N qual scope f cdv A outer s H E) [] (start N vs) H s1 := inv_start S hr.hd e0 hl r x
  refine wpAny_mono (ht [] s1 (start N vs) H _ I hq) (fun fl s' hs => ?_) fun e s' hs => hs
  have fin : ∀ {σ' : St} {H' : Hp} {v : V} {u : Value}, Inv (cxOf CX P w K mg base N qual scope f cdv A outer s H E) [] σ' H' s' → RelV v u → Q v H' → CE outer P w H s Q u s' :=
    fun {σ' H' v u} J rv q => ⟨v, H', J.os, J.bare, J.base, J.hok, rv, q⟩
  cases fl with
  | ret u =>
    obtain ⟨v, σ', H', J, rv, q⟩ := hs
    exact fin J rv q
  | next =>
    obtain ⟨σ', H', J, q⟩ := hs
    exact fin (v := V.non) (u := Value.none) J rfl q
  | brk =>
    obtain ⟨_, _, _, q⟩ := hs
    exact False.elim q
  | cont =>
    obtain ⟨_, _, _, q⟩ := hs
    exact False.elim q
end L2

namespace L2
open PySem PySem.Spec PyProof.Rows
section
variable {X : Cx} {x : Str} {p pos : Pos} {e : Expr} {es : List Expr} {t : TA} {id T : String} {r : List V → Hp → VK → Prop}

def tCB (r : List V → Hp → VK → Prop) (t : TA) : TE := fun σ H Q => t σ H fun vs H1 => r vs H1 Q
/-- f(e, ..), f a built-in function -/
theorem pe_callB (hc : CallR X (.builtin id) r) (hg : Gl X x) (hm : X.mg x = none) (hv : bootBuiltins x = some (.builtin id)) (ha : PA X (e :: es) t) (hn : x ≠ "__name__" := by decide) (hdb : (x == ("__debug__" : Str)) = false := by decide)
    (he : starEach (e :: es) X.env = (false, eval e X.env) :: starEach es X.env := by rfl) (hpl : (backTo pos (starEach es X.env)).any (·.1) = false := by rfl) : PE X (.Call (.Name x p) (e :: es) [] pos) (tCB r t) := by
  intro pins s σ H Q I h
  refine wpAny_Call_Name_kw (ld_blt I hg hm hv ?_ hn hdb)
  exact PyProof.Rows.callWith_builtin1 (thn (ha pos pins s σ H _ I h) fun us s1 ⟨vs, H1, I1, r1, q1⟩ => hc pins s1 σ H1 vs us Q I1 r1 q1) he hpl
/-- T(e, ..), T a built-in type -/
theorem pe_callTy (hc : CallR X (.type T) r) (hg : Gl X x) (hm : X.mg x = none) (hv : bootBuiltins x = some (.type T)) (ha : PA X (e :: es) t) (hn : x ≠ "__name__" := by decide) (hdb : (x == ("__debug__" : Str)) = false := by decide)
    (he : starEach (e :: es) X.env = (false, eval e X.env) :: starEach es X.env := by rfl) (hpl : (backTo pos (starEach es X.env)).any (·.1) = false := by rfl) : PE X (.Call (.Name x p) (e :: es) [] pos) (tCB r t) := by
  intro pins s σ H Q I h
  refine wpAny_Call_Name_kw (ld_blt I hg hm hv ?_ hn hdb)
  exact PyProof.Rows.callWith_type1 (thn (ha pos pins s σ H _ I h) fun us s1 ⟨vs, H1, I1, r1, q1⟩ => hc pins s1 σ H1 vs us Q I1 r1 q1) he hpl
/-- T() -/
theorem pe_callTy0 (hc : CallR X (.type T) r) (hg : Gl X x) (hm : X.mg x = none) (hv : bootBuiltins x = some (.type T)) (hn : x ≠ "__name__" := by decide) (hdb : (x == ("__debug__" : Str)) = false := by decide) :
    PE X (.Call (.Name x p) [] [] pos) (tCB r tNil) := by
  intro pins s σ H Q I h
  refine wpAny_Call_Name_kw (ld_blt I hg hm hv ?_ hn hdb)
  exact PyProof.Rows.callWith_type0 (hc pins s σ H [] [] Q I .nil h)
end
end L2

namespace HT
open PySem PyProof.Rows

/-- t < u of tuples of ints -/
def lexLt : List Int → List Int → Bool
  | [], [] => false
  | [], _ :: _ => true
  | _ :: _, [] => false
  | x :: xs, y :: ys => if x = y then lexLt xs ys else decide (x < y)
theorem lexLt_cons (x y : Int) (xs ys : List Int) : lexLt (x :: xs) (y :: ys) = if x = y then lexLt xs ys else decide (x < y) := rfl
theorem lexLt_nil_nil : lexLt [] [] = false := rfl
theorem lexLt_nil_cons (y : Int) (ys : List Int) : lexLt [] (y :: ys) = true := rfl
theorem lexLt_cons_nil (x : Int) (xs : List Int) : lexLt (x :: xs) [] = false := rfl

theorem eqAt_int (A : Around) (s : Shared) (a : Int) (t : Tok) (c : Int) (u : Tok) : ∃ e, SeqAt.EqAt A s (.int a t) (.int c u) e ∧ (e = true ↔ a = c) :=
  ⟨(a == c), SeqAt.EqAt.int_int a t c u, by simp⟩
theorem rcLt_int (A : Around) (s : Shared) (a : Int) (t : Tok) (c : Int) (u : Tok) (prog : Program) (w : World) (E : Value → Shared → Prop) (Q : Value → Shared → Prop) (h : Q (.bool (decide (a < c))) s) :
    wpAny (model prog w) A (richCompare .Lt (.int a t) (.int c u)) Q E s :=
  (PyProof.Rows.lt_int h : wpAny (model prog w) A (compareOp .Lt (.int a t) (.int c u)) Q E s)

section
open PySem.SeqAt
open PySem.AutoSeq1 (wpAny_loadPart')
open PySem.MeetsSeq PySem.MeetsSeq2 PySem.MeetsSeq3

theorem tuple_lt_ints (l b : Addr) (items items2 : Array Value) (n n2 : Nat) (dd dd2 : Option Addr) (sl sl2 : Array (Option Value)) (ns ms : List Int) (hi : IntsAre items.toList ns) (hj : IntsAre items2.toList ms) :
    Meets (Builtin.«tuple.__lt__» ⟨[.ref l, .ref b], []⟩)
      (fun _ R s => s.heap.get? l = some { cls := .type "tuple", dict := dd, data := .seq items n, slots := sl } ∧ s.heap.get? b = some { cls := .type "tuple", dict := dd2, data := .seq items2 n2, slots := sl2 } ∧
        R (.ok (.ret (.bool (lexLt ns ms)))) s) :=
  .of_wp fun prog w A R s h => by
    obtain ⟨hp, g, d, tk, os⟩ := s; obtain ⟨hl, hb, h⟩ := h
    have f2 := AutoSeq1.sub_tuple_tuple
    have z1 : items.size = ns.length := by rw [← hi.length]; simp
    have z2 : items2.size = ms.length := by rw [← hj.length]; simp
    wp_walk using wpAny_loadPart' hl, wpAny_loadPart' hb, wpAny_forIn_list _ (fun rest b s' => b.1 = none ∧ s' = ⟨hp, g, d, tk, os⟩ ∧ ∃ (vs ws : List Value) (ns' ms' : List Int), rest = vs.zip ws ∧
      IntsAre vs ns' ∧ IntsAre ws ms' ∧ ns'.length + items2.size = ms'.length + items.size ∧ R (.ok (.ret (.bool (lexLt ns' ms')))) ⟨hp, g, d, tk, os⟩) _
    case turn =>
      rintro ⟨y, x⟩ rest b s' ⟨hb', rfl, vs, ws, ns', ms', hz, hvi, hwi, hlen, hR⟩
      cases hvi with
      | nil => rw [List.zip_nil_left] at hz; cases hz
      | cons a t hvi' =>
        cases hwi with
        | nil => rw [List.zip_nil_right] at hz; cases hz
        | cons c u hwi' =>
          rw [List.zip_cons_cons] at hz
          injection hz with hyx hrest
          injection hyx with hy hx
          subst hy hx
          rw [lexLt_cons] at hR
          simp only [List.length_cons] at hlen
          obtain ⟨e, he, hiff⟩ := eqAt_int A.in1 ⟨hp, g, d, tk, os⟩ a t c u
          refine wpAny_bind (he prog w _ _ ?_)
          cases e with
          | true =>
            rw [if_pos (hiff.mp rfl)] at hR
            wp_walk
            exact ⟨rfl, rfl, _, _, _, _, hrest, hvi', hwi', by omega, hR⟩
          | false =>
            rw [if_neg (fun q => absurd (hiff.mpr q) Bool.false_ne_true)] at hR
            have hri := rcLt_int A.in1 ⟨hp, g, d, tk, os⟩ a t c u prog w
            wp_walk using hri
            exact ⟨_, rfl, by simpa using hR⟩
    case fin =>
      rintro ⟨b1, b2⟩ s' ⟨hb', rfl, vs, ws, ns', ms', hz, hvi, hwi, hlen, hR⟩
      simp only at hb'
      subst hb'
      have hv : lexLt ns' ms' = decide (items.size < items2.size) := by
        cases hvi with
        | nil =>
          cases hwi with
          | nil =>
            simp only [List.length_nil] at hlen
            rw [lexLt_nil_nil]
            exact (decide_eq_false (by omega)).symm
          | cons c u hw =>
            simp only [List.length_nil, List.length_cons] at hlen
            rw [lexLt_nil_cons]
            exact (decide_eq_true (by omega)).symm
        | cons a t hv =>
          cases hwi with
          | nil =>
            simp only [List.length_nil, List.length_cons] at hlen
            rw [lexLt_cons_nil]
            exact (decide_eq_false (by omega)).symm
          | cons c u hw =>
            rw [List.zip_cons_cons] at hz
            cases hz
      rw [hv] at hR
      wp_walk
      exact ⟨_, rfl, by simpa [Builtin.Tuple.tupleCompareSizes] using hR⟩
    case h =>
      exact ⟨rfl, rfl, items.toList, items2.toList, ns, ms, rfl, hi, hj, by omega, h⟩
end

section
variable {prog : Program} {w : World} {A : Around} {E : Value → Shared → Prop} {s : Shared}

theorem lt_tupInts {l b : Addr} {items items2 : Array Value} {ns ms : List Int} {Q : Value → Shared → Prop} (hl : IsTup s.heap l items) (hb : IsTup s.heap b items2) (hi : IntsAre items.toList ns) (hj : IntsAre items2.toList ms)
    (hu : A.units < cLine) (h : Q (.bool (lexLt ns ms)) s) : wpAny (model prog w) A (compareOp .Lt (.ref l) (.ref b)) Q E s := by
  obtain ⟨⟨cls, dd, data, sl⟩, ho, hc, n, hd⟩ := id hl
  obtain ⟨⟨cls2, dd2, data2, sl2⟩, ho2, hc2, n2, hd2⟩ := id hb
  simp only at hc hd hc2 hd2
  subst hc hd hc2 hd2
  exact richCompare_meets_room (op := .Lt) ⟨_, ho, rfl⟩ ⟨_, ho2, rfl⟩ PySem.F.slot_tuple_lt PySem.F.entry_tuple_lt (PySem.F.args_tuple_lt_2 _ _) (tuple_lt_ints l b items items2 n n2 dd dd2 sl sl2 ns ms hi hj)
    ⟨ho, ho2, show Value.bool (lexLt ns ms) ≠ Value.notImplemented ∧ Q (.bool (lexLt ns ms)) s from ⟨(fun x => nomatch x), h⟩⟩ hu

/-- t + u, t not empty -/
theorem cat_tup {t b : Addr} {vs ws : List Value} {Q : Value → Shared → Prop} (ht : IsTup s.heap t vs.toArray) (hb : IsTup s.heap b ws.toArray) (hv : vs ≠ [])
    (h1 : ws = [] → Q (.ref t) s) (h2 : ws ≠ [] → Q (.ref s.heap.objs.size) { s with heap := s.heap.push { cls := .type "tuple", data := .seq (vs ++ ws).toArray } })
    (hsz : vs.length + ws.length ≤ sizeLine) : wpAny (model prog w) A (binaryOp .Add (.ref t) (.ref b)) Q E s := by
  obtain ⟨⟨cls, dd, data, sl⟩, ho, hc, n, hd⟩ := id ht
  obtain ⟨⟨cls2, dd2, data2, sl2⟩, ho2, hc2, n2, hd2⟩ := id hb
  simp only at hc hd hc2 hd2
  subst hc hd hc2 hd2
  have e : vs.toArray ++ ws.toArray = (vs ++ ws).toArray := by simp
  by_cases hw : ws = []
  · exact concat_meets ⟨_, ho, rfl⟩ ⟨_, ho2, rfl⟩ noFill_tuple_add seq_tuple_add PySem.F.slot_tuple_add PySem.F.entry_tuple_add (PySem.F.args_tuple_add_2 _ _)
      (tuple_addW1 t b vs.toArray ws.toArray n n2 dd dd2 sl sl2 (by simpa using hv) (by simp [hw])) ⟨ho, ho2, h1 hw⟩
  · refine concat_meets ⟨_, ho, rfl⟩ ⟨_, ho2, rfl⟩ noFill_tuple_add seq_tuple_add PySem.F.slot_tuple_add PySem.F.entry_tuple_add (PySem.F.args_tuple_add_2 _ _)
      (tuple_addW2 t b vs.toArray ws.toArray n n2 dd dd2 sl sl2 (by simpa using hv) (by simpa using hw) (by rw [List.size_toArray, List.size_toArray]; exact hsz)) ⟨ho, ho2, ?_⟩
    rw [e]
    exact h2 hw

/-! ### t[a:b], not the whole -/
/-- a slice's bound as a place among n (d where it is left out) -/
def sIx (n d : Nat) : Option Int → Nat
  | none => d
  | some v => if v < 0 then (v + (n : Int)).toNat else min v.toNat n
theorem sIx_none (n d : Nat) : sIx n d none = d := rfl
theorem sIx_nat (n d k : Nat) : sIx n d (some (k : Int)) = min k n := by
  show (if (k : Int) < 0 then ((k : Int) + (n : Int)).toNat else min (k : Int).toNat n) = min k n
  rw [if_neg (by omega), Int.toNat_natCast]
theorem sIx_le (n d : Nat) (hd : d ≤ n) (o : Option Int) : sIx n d o ≤ n := by
  cases o with
  | none => exact hd
  | some v =>
    show (if v < 0 then (v + (n : Int)).toNat else min v.toNat n) ≤ n
    by_cases hv : v < 0
    · rw [if_pos hv]; omega
    · rw [if_neg hv]; exact Nat.min_le_right _ _
theorem clip_eq (v : Int) (n d : Nat) : (if v < 0 then max (v + (n : Int)) 0 else min v (n : Int)) = ((sIx n d (some v) : Nat) : Int) := by
  show (if v < 0 then max (v + (n : Int)) 0 else min v (n : Int)) = (((if v < 0 then (v + (n : Int)).toNat else min v.toNat n) : Nat) : Int)
  by_cases hv : v < 0
  · simp only [if_pos hv]; omega
  · simp only [if_neg hv]; omega
theorem adjust_gen (lo hi : Option Int) (n : Nat) : Builtin.Slice.sliceAdjust lo hi 1 (n : Int) = (((sIx n 0 lo : Nat) : Int), ((sIx n n hi : Nat) : Int)) := by
  have h1 : ¬ ((1 : Int) < 0) := by omega
  unfold Builtin.Slice.sliceAdjust
  simp only [h1, if_false]
  refine Prod.ext ?_ ?_
  · cases lo with
    | none => rfl
    | some v => exact clip_eq v n 0
  · cases hi with
    | none => rfl
    | some v => exact clip_eq v n n
theorem places_gen (i j : Nat) : Builtin.Slice.slicePlaces (i : Int) (j : Int) 1 = j - i := by
  unfold Builtin.Slice.slicePlaces
  have h1 : (1 : Int) > 0 := by omega
  simp only [h1, if_true, Int.ediv_one]
  split <;> omega
theorem slicePart_ {v : Value} {o : Option Int} {Q : Option Int → Shared → Prop} (p : IsPart v o) (h : Q o s) : wpAny (model prog w) A (Builtin.Slice.slicePartIndex v) Q E s := by
  cases p with
  | none => exact slicePart_none h
  | int i t => exact slicePart_int h
theorem sliceApplied_gen {sl : Addr} {vl vu : Value} {lo hi : Option Int} {n : Nat} {Q : Int × Int × Nat → Shared → Prop} (hs : s.heap.IsSliceOf sl vl vu .none) (pl : IsPart vl lo) (pu : IsPart vu hi)
    (h : Q (((sIx n 0 lo : Nat) : Int), 1, sIx n n hi - sIx n 0 lo) s) : wpAny (model prog w) A (Builtin.Slice.sliceApplied (.ref sl) (pure (n : Int))) Q E s := by
  obtain ⟨os, hos, hcs, hds⟩ := id hs
  unfold Builtin.Slice.sliceApplied Builtin.Slice.sliceFields
  refine wpAny_bind (wpAny_bind (wpAny_field hos hds (x := vl) rfl (wpAny_bind (wpAny_field hos hds (x := vu) rfl (wpAny_bind (wpAny_field hos hds (x := .none) rfl (wpAny_pure ?_)))))))
  refine wpAny_bind (slicePart_none ?_)
  show wpAny _ _ (if ((1 : Int) == 0) = true then _ else _) _ _ s
  rw [if_neg (by decide)]
  refine wpAny_bind (slicePart_ pl (wpAny_bind (slicePart_ pu (wpAny_bind (wpAny_pure ?_)))))
  show wpAny _ _ (match Builtin.Slice.sliceAdjust lo hi 1 (n : Int) with | (lo, hi) => pure (lo, (1 : Int), Builtin.Slice.slicePlaces lo hi 1)) _ _ s
  rw [adjust_gen lo hi n]
  show wpAny _ _ (pure (((sIx n 0 lo : Nat) : Int), (1 : Int), Builtin.Slice.slicePlaces ((sIx n 0 lo : Nat) : Int) ((sIx n n hi : Nat) : Int) 1)) _ _ s
  rw [places_gen]
  exact wpAny_pure h
theorem pick_gen (xs : Array Value) (i k : Nat) : ((List.range k).filterMap fun (m : Nat) => xs[((i : Int) + (m : Int) * 1).toNat]?).toArray = ((xs.toList.drop i).take k).toArray := by
  have e : (fun (m : Nat) => xs[((i : Int) + (m : Int) * 1).toNat]?) = fun m => xs[i + m]? := by
    funext m
    have : ((i : Int) + (m : Int) * 1).toNat = i + m := by omega
    rw [this]
  rw [e]
  have := pick_run xs i k
  rw [List.filterMap_map] at this
  have e2 : ((fun x => xs[x]?) ∘ fun x => i + x) = fun m => xs[i + m]? := rfl
  rw [e2] at this
  rw [this]

theorem getItem_tuple_cut {t sl : Addr} {items : Array Value} {vl vu : Value} {lo hi : Option Int} {Q : Value → Shared → Prop} (ht : IsTup s.heap t items) (hs : s.heap.IsSliceOf sl vl vu .none) (pl : IsPart vl lo) (pu : IsPart vu hi)
    (hw : ¬ (sIx items.size 0 lo = 0 ∧ sIx items.size items.size hi = items.size))
    (h : Q (.ref s.heap.objs.size) { s with heap := s.heap.push { cls := .type "tuple", data := .seq ((items.toList.drop (sIx items.size 0 lo)).take (sIx items.size items.size hi - sIx items.size 0 lo)).toArray } })
    (hsz : items.size ≤ sizeLine) : wpAny (model prog w) A (getItem (.ref t) (.ref sl)) Q E s := by
  have htake : sizeOk (.seq ((items.toList.drop (sIx items.size 0 lo)).take (sIx items.size items.size hi - sIx items.size 0 lo)).toArray) := by
    show ((items.toList.drop (sIx items.size 0 lo)).take (sIx items.size items.size hi - sIx items.size 0 lo)).toArray.size ≤ sizeLine
    rw [List.size_toArray, List.length_take, List.length_drop, Array.length_toList]
    omega
  have hj : sIx items.size items.size hi ≤ items.size := sIx_le _ _ (Nat.le_refl _) hi
  obtain ⟨os, hos, hcs, hds⟩ := id hs
  have hTs : s.TypeIs (.ref sl) "slice" := ⟨os, hos, hcs⟩
  unfold getItem
  try with_reducible refine wpAny_holding ?_
  first | refine wpAny_bind (wpAny_pure ?_) | skip
  refine wpAny_bind (wpAny_sequenceKey ht.typeIs (by decide) ?_)
  refine wpAny_bind (wpAny_callSpecial?_slot (name := Str.ofString "__getitem__") ht.typeIs PyProof.Rows.slot_tuple_getitem
    (wpAny_call_entry PyProof.Rows.slot_tuple_getitem ht.typeIs entry_tuple_getitem ?_ (args_tuple_getitem _ _)))
  show wpAny _ _ (Builtin.Tuple.tupleItemsOf (.ref t) >>= _) _ _ s
  refine wpAny_bind (tupleItemsOf_ ht ?_)
  refine wpAny_bind (wpAny_typeOf hTs ?_)
  rw [if_pos (by decide)]
  refine wpAny_bind (sliceApplied_gen hs pl pu ?_)
  have hno : ¬ ((((sIx items.size 0 lo : Nat) : Int) == 0 && (1 : Int) == 1 && (sIx items.size items.size hi - sIx items.size 0 lo) == items.size) = true) := by
    intro q
    rw [Bool.and_eq_true, Bool.and_eq_true] at q
    have q1 : ((sIx items.size 0 lo : Nat) : Int) = 0 := eq_of_beq q.1.1
    have q2 : sIx items.size items.size hi - sIx items.size 0 lo = items.size := eq_of_beq q.2
    exact hw ⟨by omega, by omega⟩
  show wpAny _ _ (if (((sIx items.size 0 lo : Nat) : Int) == 0 && (1 : Int) == 1 && (sIx items.size items.size hi - sIx items.size 0 lo) == items.size) = true then _ else _) _ _ s
  rw [if_neg hno, pick_gen]
  first
    | exact wpAny_bind (m := Builtin.Tuple.tupleExact _) (wpAny_newObj_type (wpAny_pure ⟨_, rfl, wpAny_pure h⟩) htake)
    | exact wpAny_bind (m := Builtin.Tuple.tupleExact _) (wpAny_newObj_type (wpAny_bind (wpAny_pure (wpAny_pure ⟨_, rfl, wpAny_pure h⟩))) htake)
    | exact wpAny_bind (wpAny_bind (m := Builtin.Tuple.tupleExact _) (wpAny_newObj_type (wpAny_pure (wpAny_pure ⟨_, rfl, wpAny_pure h⟩)) htake))
    | exact wpAny_bind (wpAny_bind (m := Builtin.Tuple.tupleExact _) (wpAny_newObj_type (wpAny_pure ⟨_, rfl, wpAny_pure h⟩) htake))
end
end HT

namespace L2
open PySem PySem.Spec PyProof.Rows

/-! ### the parts of a slice -/
abbrev TO := St → Hp → (Option Int → Hp → Prop) → Prop
/-- a slice's part (left out, or an int) -/
def PO (X : Cx) (e : Option Expr) (t : TO) : Prop :=
  ∀ (pins : List (Addr × Obj)) (s : Shared) (σ : St) (H : Hp) (Q : Option Int → Hp → Prop), Inv X pins σ H s → t σ H Q →
    wpAny (model X.prog X.w) X.A (evalPart e X.env) (fun u s' => ∃ o H', Inv X pins σ H' s' ∧ IsPart u o ∧ Q o H') X.xe s
def tNoPart : TO := fun _ H Q => Q none H
def tPart (t : TE) : TO := fun σ H Q => t σ H fun x H1 => ∃ i, x = .int i ∧ Q (some i) H1

theorem intsAre_of {ns : List Int} : ∀ {us : List Value}, Vals (ns.map V.int) us → IntsAre us ns := by
  induction ns with
  | nil => intro us r; rw [List.map_nil] at r; cases r; exact .nil
  | cons n ns ih =>
    intro us r
    rw [List.map_cons] at r
    cases r with
    | cons r1 r2 =>
      obtain ⟨t, e⟩ := r1
      subst e
      exact .cons n t (ih r2)

section
variable {X : Cx} {e : Expr} {te : TE} {lo hi : Option Expr} {tl th : TO} {pos p2 : Pos}

theorem po_none : PO X none tNoPart := by
  intro pins s σ H Q I h
  rw [evalPart_none]
  exact wpAny_pure ⟨none, H, I, .none, h⟩
theorem po_some (h : PE X e te) : PO X (some e) (tPart te) := by
  intro pins s σ H Q I hw
  rw [evalPart_some]
  refine thn (h pins s σ H _ I hw) fun u s1 ⟨x, H1, I1, r1, q1⟩ => ?_
  obtain ⟨i, rfl, q⟩ := q1
  obtain ⟨t, rfl⟩ := r1
  exact ⟨some i, H1, I1, .int i t, q⟩

/-- what a slice of a value is, by values: the slice object stands at sl -/
def SlR (X : Cx) (r : V → Option Int → Option Int → Hp → VK → Prop) : Prop :=
  ∀ (pins : List (Addr × Obj)) (s : Shared) (σ : St) (H : Hp) (x : V) (v vl vu : Value) (lo hi : Option Int) (sl : Addr) (Q : VK), Inv X pins σ H s → RelV x v → s.heap.IsSliceOf sl vl vu .none → IsPart vl lo → IsPart vu hi → r x lo hi H Q →
    ∃ T id, typeLookup (.type T) "__getitem__" = pure (some (.builtin id)) ∧ s.TypeIs v T ∧ wpAny (model X.prog X.w) X.A (getItem v (.ref sl)) (EP X pins σ Q) X.xe s
theorem SlR.or {r r' : V → Option Int → Option Int → Hp → VK → Prop} (h : SlR X r) (h' : SlR X r') : SlR X (fun x lo hi H Q => r x lo hi H Q ∨ r' x lo hi H Q) := by
  intro pins s σ H x v vl vu lo hi sl Q I rx hs pl pu q
  rcases q with q | q
  · exact h pins s σ H x v vl vu lo hi sl Q I rx hs pl pu q
  · exact h' pins s σ H x v vl vu lo hi sl Q I rx hs pl pu q
def tSl (r : V → Option Int → Option Int → Hp → VK → Prop) (te : TE) (tl th : TO) : TE := fun σ H Q => te σ H fun x H1 => tl σ H1 fun l H2 => th σ H2 fun u H3 => r x l u H3 Q
/-- a[lo:hi], any a -/
theorem pe_slice {r : V → Option Int → Option Int → Hp → VK → Prop} (hr : SlR X r) (he : PE X e te) (hl : PO X lo tl) (hu : PO X hi th) : PE X (.Subscript e (.Slice lo hi none p2) pos) (tSl r te tl th) := by
  intro pins s σ H Q I h
  refine Subscript_ (thn (he pins s σ H _ I h) fun v s1 ⟨x, H1, I1, r1, q1⟩ => ?_)
  refine wpAny_Slice (thn (hl pins s1 σ H1 _ I1 q1) fun vl s2 ⟨l, H2, I2, pl, q2⟩ => thn (hu pins s2 σ H2 _ I2 q2) fun vu s3 ⟨u, H3, I3, pu, q3⟩ => ?_)
  rw [evalPart_none]
  refine wpAny_pure ?_
  have I4 : Inv X pins σ H3 { s3 with heap := s3.heap.push { cls := .type "slice", data := .fields #[vl, vu, .none] } } := I3.kept (t' := s3.toks) fun b ob q => Heap.get?_push_of_some _ q
  obtain ⟨T, id, hT, ht, hg⟩ := hr pins { s3 with heap := s3.heap.push { cls := .type "slice", data := .fields #[vl, vu, .none] } } σ H3 x v vl vu l u s3.heap.objs.size Q I4 r1 (Heap.IsSliceOf.new ..) pl pu q3
  show wpAny (model X.prog X.w) X.A (subscriptTail e (.Slice lo hi none p2) v (.ref s3.heap.objs.size)) (EP X pins σ Q) X.xe { s3 with heap := s3.heap.push { cls := .type "slice", data := .fields #[vl, vu, .none] } }
  exact tail_any (ops := [.ref s3.heap.objs.size, v]) ht hT hg (by with_unfolding_all rfl)

/-- the items of xs[lo:hi] -/
def cutV (xs : List V) (lo hi : Option Int) : List V := (xs.drop (HT.sIx xs.length 0 lo)).take (HT.sIx xs.length xs.length hi - HT.sIx xs.length 0 lo)
theorem cutV_length (xs : List V) (lo hi : Option Int) : (cutV xs lo hi).length ≤ xs.length := by
  unfold cutV
  rw [List.length_take, List.length_drop]
  omega
/-- t[lo:hi], not the whole of it (the whole would be t itself) -/
def rSlT (K : PySem.W.Frag) : V → Option Int → Option Int → Hp → VK → Prop := fun x lo hi H Q => ∃ a xs, x = .ref a ∧ SqT K H a xs ∧
  ¬ (HT.sIx xs.length 0 lo = 0 ∧ HT.sIx xs.length xs.length hi = xs.length) ∧ ∀ p, H p = none → Q (.ref p) (upd H p (.tup (cutV xs lo hi)))
theorem sl_tup : SlR X (rSlT X.K) := by
  intro pins s σ H x v vl vu lo hi sl Q I rx hs pl pu h
  obtain ⟨a, xs, rfl, hx, hw, q⟩ := h
  cases rx
  obtain ⟨its, r, ht, hz⟩ := I.tuple hx
  have hlen : its.toArray.size = xs.length := by rw [List.size_toArray]; exact r.length.symm
  refine ⟨"tuple", _, PyProof.Rows.slot_tuple_getitem.lookup, ht.typeIs, ?_⟩
  refine HT.getItem_tuple_cut ht hs pl pu (by rw [hlen]; exact hw) ?_ (by rw [hlen]; exact hz)
  rw [hlen]
  refine ⟨.ref s.heap.objs.size, _, I.laid (t' := s.toks) (o := .tup (cutV xs lo hi)) (fun b ob q => Heap.get?_push_of_some _ q) (Nat.le_refl _) ?_, rfl, q _ (I.hok.fresh (Nat.le_refl _))⟩
  exact ⟨Nat.le_trans (cutV_length xs lo hi) hz, _, (r.drop (HT.sIx xs.length 0 lo)).take (HT.sIx xs.length xs.length hi - HT.sIx xs.length 0 lo), IsTup.new _ _⟩

/-! ### t < u, t + u -/
def rLtT (K : PySem.W.Frag) : R2 := fun x y H Q => ∃ a b ns ms, x = .ref a ∧ y = .ref b ∧ SqT K H a (ns.map V.int) ∧ SqT K H b (ms.map V.int) ∧ Q (.bl (HT.lexLt ns ms)) H
theorem op_ltT (hu : X.A.units < cLine) : OpR X (compareOp .Lt) (rLtT X.K) := by
  intro pins s σ H x y v u Q I rx ry h
  obtain ⟨a, b, ns, ms, rfl, rfl, ha, hb, q⟩ := h
  cases rx
  cases ry
  obtain ⟨its, r1, p1, _⟩ := I.tuple ha
  obtain ⟨its2, r2, p2, _⟩ := I.tuple hb
  have i1 : IntsAre its.toArray.toList ns := intsAre_of r1
  have i2 : IntsAre its2.toArray.toList ms := intsAre_of r2
  exact HT.lt_tupInts p1 p2 i1 i2 hu ⟨.bl (HT.lexLt ns ms), H, I, rfl, q⟩
/-- t + u, t not empty: u empty gives t itself -/
def rCatT (K : PySem.W.Frag) : R2 := fun x y H Q => ∃ a b xs ys, x = .ref a ∧ y = .ref b ∧ SqT K H a xs ∧ SqT K H b ys ∧ xs ≠ [] ∧ xs.length + ys.length ≤ sizeLine ∧
  (ys = [] → Q (.ref a) H) ∧ (ys ≠ [] → ∀ p, H p = none → Q (.ref p) (upd H p (.tup (xs ++ ys))))
theorem Vals.nil_iff {xs : List V} {us : List Value} (r : Vals xs us) : us = [] ↔ xs = [] := by
  cases r with
  | nil => simp
  | cons _ _ => simp
theorem op_catT : OpR X (binaryOp .Add) (rCatT X.K) := by
  intro pins s σ H x y v u Q I rx ry h
  obtain ⟨a, b, xs, ys, rfl, rfl, ha, hb, hx, hz, q1, q2⟩ := h
  cases rx
  cases ry
  obtain ⟨its, r1, p1, _⟩ := I.tuple ha
  obtain ⟨its2, r2, p2, _⟩ := I.tuple hb
  refine HT.cat_tup p1 p2 (fun z => hx (r1.nil_iff.mp z)) (fun z => ⟨.ref a, H, I, rfl, q1 (r2.nil_iff.mp z)⟩) (fun z => ?_) (by rw [← r1.length, ← r2.length]; exact hz)
  refine ⟨.ref s.heap.objs.size, _, I.laid (t' := s.toks) (o := .tup (xs ++ ys)) (fun b ob q => Heap.get?_push_of_some _ q) (Nat.le_refl _) ?_, rfl, q2 (fun w => z (r2.nil_iff.mpr w)) _ (I.hok.fresh (Nat.le_refl _))⟩
  exact ⟨by rw [List.length_append]; exact hz, _, r1.append r2, IsTup.new _ _⟩
/-- tuple(t) -/
theorem call_tupleT : CallR X (.type "tuple") (fun xs H Q => ∃ a ys, xs = [.ref a] ∧ SqT X.K H a ys ∧ Q (.ref a) H) := by
  intro pins s σ H xs us Q I r h
  obtain ⟨a, ys, rfl, ha, q⟩ := h
  obtain ⟨u, rfl, ru⟩ := vals1 r
  cases ru
  obtain ⟨its, _, p1, _⟩ := I.tuple ha
  exact call_tuple_same (items := its.toArray) p1 ⟨.ref a, H, I, rfl, q⟩
end
end L2

namespace L2
open PySem PySem.Spec PyProof.Rows

/-! ### places -/
/-- the place that an index of any sign means -/
def ixN (n : Nat) (i : Int) : Option Nat := if 0 ≤ i then (if i < n then some i.toNat else none) else if -(n : Int) ≤ i then some (i + n).toNat else none
def atI {α : Type} (xs : List α) (i : Int) : Option α := (ixN xs.length i).bind fun j => xs[j]?
theorem ixN_seq {n : Nat} {i : Int} {j : Nat} (h : ixN n i = some j) : seqIndex? i n = some j ∧ j < n ∧ -(n : Int) ≤ i ∧ i < n := by
  unfold ixN at h
  by_cases h0 : 0 ≤ i
  · rw [if_pos h0] at h
    by_cases h1 : i < n
    · rw [if_pos h1] at h
      have e : i.toNat = j := Option.some.inj h
      exact ⟨by rw [seqIndex_of h0 h1, e], by omega, by omega, h1⟩
    · rw [if_neg h1] at h; cases h
  · rw [if_neg h0] at h
    by_cases h1 : -(n : Int) ≤ i
    · rw [if_pos h1] at h
      have e : (i + n).toNat = j := Option.some.inj h
      exact ⟨by rw [seqIndex_neg (by omega) h1, e], by omega, h1, by omega⟩
    · rw [if_neg h1] at h; cases h
theorem atI_get {α : Type} {xs : List α} {i : Int} {v : α} (h : atI xs i = some v) : ∃ j, seqIndex? i xs.length = some j ∧ xs[j]? = some v ∧ j < xs.length ∧ -(xs.length : Int) ≤ i ∧ i < xs.length := by
  unfold atI at h
  cases e : ixN xs.length i with
  | none => rw [e] at h; cases h
  | some j =>
    rw [e] at h
    obtain ⟨h1, h2, h3, h4⟩ := ixN_seq e
    exact ⟨j, h1, h, h2, h3, h4⟩
theorem atI_nat {α : Type} {xs : List α} {j : Nat} {v : α} (h : xs[j]? = some v) : atI xs (j : Int) = some v := by
  have hj : j < xs.length := (List.getElem?_eq_some_iff.mp h).1
  have e : ixN xs.length (j : Int) = some j := by
    unfold ixN
    rw [if_pos (by omega), if_pos (by omega)]; simp
  unfold atI; rw [e]; exact h
theorem atI_last {α : Type} (xs : List α) (v : α) : atI (xs ++ [v]) (-1) = some v := by
  have hl : (xs ++ [v]).length = xs.length + 1 := by simp
  have e : ixN (xs ++ [v]).length (-1) = some xs.length := by
    unfold ixN
    rw [hl, if_neg (by decide), if_pos (by omega)]
    congr 1
    omega
  unfold atI
  rw [e]
  show (xs ++ [v])[xs.length]? = some v
  simp

/-! ### what may be subscripted -/
/-- what stands as an index of a plain subscript -/
def PlainIx (b : Expr) : Prop := ∀ o i, subscripted b false o i = operate [o, i] (getItem o i)
/-- a subscript by values -/
def IxR (X : Cx) (r : R2) : Prop :=
  ∀ (value slice : Expr) (pins : List (Addr × Obj)) (s : Shared) (σ : St) (H : Hp) (x y : V) (v u : Value) (Q : VK), Inv X pins σ H s → RelV x v → RelV y u → r x y H Q →
    subscripted slice false v u = operate [v, u] (getItem v u) → wpAny (model X.prog X.w) X.A (subscriptTail value slice v u) (EP X pins σ Q) X.xe s
/-- a call of a builtin's method by values: the receiver, the arguments -/
def MtR (X : Cx) (id : String) (r : V → List V → Hp → VK → Prop) : Prop :=
  ∀ (pins : List (Addr × Obj)) (s : Shared) (σ : St) (H : Hp) (x : V) (xs : List V) (v : Value) (us : List Value) (Q : VK), Inv X pins σ H s → RelV x v → Vals xs us → r x xs H Q →
    wpAny (model X.prog X.w) X.A (call (.builtin id) (v :: us)) (EP X pins σ Q) X.xe s
section
variable {X : Cx} {a b : Expr} {ta tb : TE} {pos : Pos}
theorem IxR.or {r r' : R2} (h : IxR X r) (h' : IxR X r') : IxR X (fun x y H Q => r x y H Q ∨ r' x y H Q) := by
  intro value slice pins s σ H x y v u Q I rx ry q hs
  rcases q with q | q
  · exact h value slice pins s σ H x y v u Q I rx ry q hs
  · exact h' value slice pins s σ H x y v u Q I rx ry q hs
theorem MtR.or {id : String} {r r' : V → List V → Hp → VK → Prop} (h : MtR X id r) (h' : MtR X id r') : MtR X id (fun x xs H Q => r x xs H Q ∨ r' x xs H Q) := by
  intro pins s σ H x xs v us Q I rx rs q
  rcases q with q | q
  · exact h pins s σ H x xs v us Q I rx rs q
  · exact h' pins s σ H x xs v us Q I rx rs q
/-- a[b] -/
theorem pe_ix {r : R2} (hr : IxR X r) (ha : PE X a ta) (hb : PE X b tb) (hs : PlainIx b) : PE X (.Subscript a b pos) (tOp r ta tb) := by
  intro pins s σ H Q I h
  exact Subscript_ (binT ha hb I h fun v u s2 x y H2 I2 rx ry q => hr a b pins s2 σ H2 x y v u Q I2 rx ry q (hs _ _))

def rIxL (K : PySem.W.Frag) : R2 := fun x y H Q => ∃ p xs i v, x = .ref p ∧ y = .int i ∧ SqL K H p xs ∧ atI xs i = some v ∧ Q v H
def rIxT (K : PySem.W.Frag) : R2 := fun x y H Q => ∃ p xs i v, x = .ref p ∧ y = .int i ∧ SqT K H p xs ∧ atI xs i = some v ∧ Q v H
def rIxS : R2 := fun x y H Q => ∃ z i c, x = .str z ∧ y = .int i ∧ z.length ≤ sizeLine ∧ atI z.cps.toList i = some c ∧ Q (.str ⟨#[c]⟩) H
theorem ix_list : IxR X (rIxL X.K) := by
  intro value slice pins s σ H x y v u Q I rx ry h hs
  obtain ⟨p, xs, i, z, rfl, rfl, hq, he, q⟩ := h
  cases rx
  obtain ⟨t, rfl⟩ := ry
  obtain ⟨its, r, pl, hz⟩ := I.list hq
  obtain ⟨j, h1, h2, h3, h4, h5⟩ := atI_get he
  obtain ⟨w, ew, rw'⟩ := r.get h2
  have hl := r.length
  have hn := line63
  have fin : EP X pins σ Q w s := ⟨z, H, I, rw', q⟩
  by_cases h0 : 0 ≤ i
  · have hj : i.toNat = j := by
      rw [seqIndex_of h0 h5] at h1
      exact Option.some.inj h1
    exact item_listR pl.isList h0 (by omega) (by rw [hj]; simpa using ew) fin hs
  · have hj : (i + (its.toArray.size : Int)).toNat = j := by
      rw [seqIndex_neg (by omega) h4] at h1
      rw [List.size_toArray, ← hl]
      exact Option.some.inj h1
    exact subscriptTail_builtinR (x := w) pl.isList.typeIs slot_list_getitem.lookup
      (wpAny_getItem_list_neg (Q := fun r s' => r = w ∧ EP X pins σ Q r s') pl.isList (by omega) (by rw [List.size_toArray] <;> omega) (by omega) (by rw [hj]; simpa using ew) ⟨rfl, fin⟩) hs
theorem ix_tup : IxR X (rIxT X.K) := by
  intro value slice pins s σ H x y v u Q I rx ry h hs
  obtain ⟨p, xs, i, z, rfl, rfl, hq, he, q⟩ := h
  cases rx
  obtain ⟨t, rfl⟩ := ry
  obtain ⟨its, r, pl, hz⟩ := I.tuple hq
  obtain ⟨j, h1, h2, h3, h4, h5⟩ := atI_get he
  obtain ⟨w, ew, rw'⟩ := r.get h2
  have hl := r.length
  have hn := line63
  have fin : EP X pins σ Q w s := ⟨z, H, I, rw', q⟩
  exact subscriptTail_builtinR (x := w) pl.typeIs slot_tuple_getitem.lookup
    (getItem_tuple (j := j) (Q := fun r s' => r = w ∧ EP X pins σ Q r s') pl (by omega) (by omega) (by rw [List.size_toArray, ← hl]; exact h1) (by simpa using ew) ⟨rfl, fin⟩) hs
theorem ix_str : IxR X rIxS := by
  intro value slice pins s σ H x y v u Q I rx ry h hs
  obtain ⟨z, i, c, rfl, rfl, hz, he, q⟩ := h
  obtain ⟨t, rfl⟩ := rx
  obtain ⟨t', rfl⟩ := ry
  obtain ⟨j, h1, h2, h3, h4, h5⟩ := atI_get he
  have hl : z.cps.toList.length = z.length := by simp [Str.length]
  rw [hl] at h1 h4 h5
  have hn := line63
  exact tail_any (typeIs_str s z t) slot_str_getitem.lookup (getItem_str (c := c) (by
    have e1 : decide (i < -(2 ^ 63 : Int)) = false := decide_eq_false (by omega)
    have e2 : decide (i ≥ 2 ^ 63) = false := decide_eq_false (by omega)
    rw [e1, e2, Bool.or_false]) (by rw [h1]; simpa using h2) ⟨.str ⟨#[c]⟩, H, I.tok _, ⟨_, rfl⟩, q⟩) hs
/-- list, tuple or str -/
def rIx (K : PySem.W.Frag) : R2 := fun x y H Q => rIxL K x y H Q ∨ rIxT K x y H Q ∨ rIxS x y H Q
theorem ix_seq : IxR X (rIx X.K) := ix_list.or (ix_tup.or ix_str)

/-! ### xs[i] = v, any sign -/
/-- the list's object behind a store -/
theorem mapSeq_set (its : List Value) (n j : Nat) (u : Value) : Obj.mapSeq (·.setIfInBounds j u) { cls := .type "list", data := .seq its.toArray n } = { cls := .type "list", data := .seq (its.set j u).toArray n } := by
  simp [Obj.mapSeq]
theorem Inv.lst {pins : List (Addr × Obj)} {σ : St} {H : Hp} {s : Shared} {p : Addr} {xs : List V} (I : Inv X pins σ H s) (h : H p = some (.lst xs)) :
    ∃ (its : List Value) (n : Nat), Vals xs its ∧ s.heap.get? p = some { cls := .type "list", data := .seq its.toArray n } ∧ xs.length ≤ sizeLine := by
  obtain ⟨z, its, n, r, e⟩ := I.hok p _ h
  exact ⟨its, n, r, e, z⟩
/-- the list at p is written by an update of its object -/
theorem Inv.lstUpd {pins : List (Addr × Obj)} {σ : St} {H : Hp} {s : Shared} {p : Addr} {xs ys : List V} {its its' : List Value} {n n' : Nat} {f : Obj → Obj} (I : Inv X pins σ H s) (h : H p = some (.lst xs))
    (ho : s.heap.get? p = some { cls := .type "list", data := .seq its.toArray n }) (hf : f { cls := .type "list", data := .seq its.toArray n } = { cls := .type "list", data := .seq its'.toArray n' }) (r : Vals ys its') (hz : ys.length ≤ sizeLine) (t : Nat) :
    Inv X pins σ (upd H p (.lst ys)) { s with heap := s.heap.update p f, toks := t } := by
  have e : (s.heap.update p f).get? p = some { cls := .type "list", data := .seq its'.toArray n' } := by
    rw [Heap.get?_update_self f ho (by rw [hf] <;> rfl), hf]
  refine I.write (x := p) (e := p) (by rw [h]; trivial) (.inl rfl) (fun b u hb q => (Heap.get?_update_other _ _ (Ne.symm hb)).trans q) ⟨_, e⟩ ?_
  exact ⟨hz, its', n', r, e⟩
def rSetL : V → V → V → Hp → (Hp → Prop) → Prop := fun o i v H Q => ∃ p xs k j, o = .ref p ∧ i = .int k ∧ H p = some (.lst xs) ∧ ixN xs.length k = some j ∧ Q (upd H p (.lst (xs.set j v)))
theorem set_list : PSet X rSetL := by
  intro pins s σ H o i v ov iv u Q I ro ri rv h
  obtain ⟨p, xs, k, j, rfl, rfl, hp, hj, q⟩ := h
  cases ro
  obtain ⟨t, rfl⟩ := ri
  obtain ⟨its, n, r, ho, hz⟩ := I.lst hp
  obtain ⟨h1, h2, h3, h4⟩ := ixN_seq hj
  have hl := r.length
  have hn := line63
  have I' : Inv X pins σ (upd H p (.lst (xs.set j v))) { s with heap := s.heap.update p (Obj.mapSeq (·.setIfInBounds j u)) } :=
    I.lstUpd hp ho (mapSeq_set its n j u) (r.set rv j) (by rw [List.length_set]; exact hz) s.toks
  by_cases h0 : 0 ≤ k
  · have hk : k.toNat = j := by
      rw [seqIndex_of h0 h4] at h1
      exact Option.some.inj h1
    exact PySem.W.ki_setAt ho h0 (by omega) (by rw [List.size_toArray, ← hl]; exact h4) (by rw [hk]; exact ⟨_, I', q⟩)
  · have hk : (k + (its.toArray.size : Int)).toNat = j := by
      rw [seqIndex_neg (by omega) h3] at h1
      rw [List.size_toArray, ← hl]
      exact Option.some.inj h1
    exact PySem.W.ki_setBack ho (by omega) (by rw [List.size_toArray, ← hl]; exact h3) (by omega) (by rw [hk]; exact ⟨_, I', q⟩)

/-! ### slices -/
theorem slice_bounds (lo hi : Option Int) (n : Nat) : (sliceBounds lo hi none n).1 = ((HT.sIx n 0 lo : Nat) : Int) ∧ (sliceBounds lo hi none n).2.1 = ((HT.sIx n n hi : Nat) : Int) ∧ (sliceBounds lo hi none n).2.2 = 1 := by
  refine ⟨?_, ?_, rfl⟩
  · cases lo with
    | none => simp [sliceBounds, HT.sIx]
    | some i =>
      simp only [sliceBounds, HT.sIx, Option.getD_none, show (1 : Int) > 0 by decide, if_true]
      by_cases h : i < 0
      · simp only [h, if_true] <;> omega
      · simp only [h, if_false] <;> omega
  · cases hi with
    | none => simp [sliceBounds, HT.sIx]
    | some i =>
      simp only [sliceBounds, HT.sIx, Option.getD_none, show (1 : Int) > 0 by decide, if_true]
      by_cases h : i < 0
      · simp only [h, if_true] <;> omega
      · simp only [h, if_false] <;> omega
theorem slicePick_cut (its : List Value) (lo hi : Option Int) : slicePick its.toArray lo hi none = ((its.drop (HT.sIx its.length 0 lo)).take (HT.sIx its.length its.length hi - HT.sIx its.length 0 lo)).toArray := by
  obtain ⟨h1, h2, h3⟩ := slice_bounds lo hi its.toArray.size
  unfold slicePick
  rw [h1, h2, h3]
  simp only [sliceRange_one, pick_run, List.size_toArray] <;> rfl
/-- xs[lo:hi] of a list: a new list -/
def rSlL (K : PySem.W.Frag) : V → Option Int → Option Int → Hp → VK → Prop := fun x lo hi H Q => ∃ a xs, x = .ref a ∧ SqL K H a xs ∧ ∀ p, H p = none → Q (.ref p) (upd H p (.lst (cutV xs lo hi)))
theorem sl_list : SlR X (rSlL X.K) := by
  intro pins s σ H x v vl vu lo hi sl Q I rx hs pl pu h
  obtain ⟨a, xs, rfl, hx, q⟩ := h
  cases rx
  obtain ⟨its, r, ht, hz⟩ := I.list hx
  have hlen := r.length
  refine ⟨"list", _, slot_list_getitem.lookup, ht.isList.typeIs, ?_⟩
  refine wpAny_getItem_list_slice ht.isList hs pl pu .none (by simp) ?_ (by rw [List.size_toArray] <;> omega)
  rw [slicePick_cut, ← hlen]
  refine ⟨.ref s.heap.objs.size, _, I.laid (t' := s.toks) (o := .lst (cutV xs lo hi)) (fun b ob q => Heap.get?_push_of_some _ q) (Nat.le_refl _) ?_, rfl, q _ (I.hok.fresh (Nat.le_refl _))⟩
  exact ⟨Nat.le_trans (cutV_length xs lo hi) hz, _, 0, (r.drop (HT.sIx xs.length 0 lo)).take (HT.sIx xs.length xs.length hi - HT.sIx xs.length 0 lo), Heap.get?_push_size _ rfl⟩

/-! ### in, not in: flat items -/
def flatV : V → Bool
  | .non => true
  | .bl _ => true
  | .int _ => true
  | .str _ => true
  | _ => false
/-- == of flat values -/
def eqV : V → V → Bool
  | .non, .non => true
  | .bl a, .bl b => a == b
  | .bl a, .int b => (if a then 1 else 0) == b
  | .int a, .bl b => a == (if b then 1 else 0)
  | .int a, .int b => a == b
  | .str a, .str b => a == b
  | _, _ => false
theorem eqAt_V {A : Around} {s : Shared} {y x : V} {u v : Value} (ry : RelV y u) (rx : RelV x v) (fy : flatV y = true) (fx : flatV x = true) : SeqAt.EqAt A s u v (eqV y x) := by
  cases y with
  | non =>
    cases ry
    cases x with
    | non => cases rx; exact SeqAt.EqAt.same _
    | bl b => cases rx; exact SeqAt.EqAt.none_bool b
    | int b => obtain ⟨t, rfl⟩ := rx; exact SeqAt.EqAt.none_int b t
    | str b => obtain ⟨t, rfl⟩ := rx; exact SeqAt.EqAt.none_str b t
    | _ => exact absurd (show false = true from fx) Bool.false_ne_true
  | bl a =>
    cases ry
    cases x with
    | non => cases rx; exact SeqAt.EqAt.bool_none a
    | bl b => cases rx; exact SeqAt.EqAt.bool_bool a b
    | int b => obtain ⟨t, rfl⟩ := rx; exact SeqAt.EqAt.bool_int a b t
    | str b => obtain ⟨t, rfl⟩ := rx; exact SeqAt.EqAt.bool_str a b t
    | _ => exact absurd (show false = true from fx) Bool.false_ne_true
  | int a =>
    obtain ⟨t', rfl⟩ := ry
    cases x with
    | non => cases rx; exact SeqAt.EqAt.int_none a t'
    | bl b => cases rx; exact SeqAt.EqAt.int_bool a t' b
    | int b => obtain ⟨t, rfl⟩ := rx; exact SeqAt.EqAt.int_int a t' b t
    | str b => obtain ⟨t, rfl⟩ := rx; exact SeqAt.EqAt.int_str a t' b t
    | _ => exact absurd (show false = true from fx) Bool.false_ne_true
  | str a =>
    obtain ⟨t', rfl⟩ := ry
    cases x with
    | non => cases rx; exact SeqAt.EqAt.str_none a t'
    | bl b => cases rx; exact SeqAt.EqAt.str_bool a t' b
    | int b => obtain ⟨t, rfl⟩ := rx; exact SeqAt.EqAt.str_int a t' b t
    | str b => obtain ⟨t, rfl⟩ := rx; exact SeqAt.EqAt.str_str a t' b t
    | _ => exact absurd (show false = true from fx) Bool.false_ne_true
  | _ => exact absurd (show false = true from fy) Bool.false_ne_true
/-- the items' answers, read off the values (a value's own answer does not lean on its token) -/
def eqU (x : V) (u : Value) : Bool := match u with
  | .none => eqV .non x
  | .bool b => eqV (.bl b) x
  | .int i _ => eqV (.int i) x
  | .str z _ => eqV (.str z) x
  | _ => false
theorem eqU_of {x y : V} {u : Value} (r : RelV y u) (f : flatV y = true) : eqU x u = eqV y x := by
  cases y with
  | non => cases r; rfl
  | bl b => cases r; rfl
  | int i => obtain ⟨t, rfl⟩ := r; rfl
  | str z => obtain ⟨t, rfl⟩ := r; rfl
  | _ => exact absurd (show false = true from f) Bool.false_ne_true
theorem any_eqU {x : V} : ∀ {xs : List V} {us : List Value}, Vals xs us → xs.all flatV = true → us.any (eqU x) = xs.any fun y => eqV y x
  | _, _, .nil, _ => rfl
  | y :: xs, u :: us, .cons r t, f => by
    rw [List.all_cons, Bool.and_eq_true] at f
    rw [List.any_cons, List.any_cons, eqU_of r f.1, any_eqU t f.2]
theorem mem_eqAt {A : Around} {s : Shared} {x : V} {v : Value} (rx : RelV x v) (fx : flatV x = true) : ∀ {xs : List V} {us : List Value}, Vals xs us → xs.all flatV = true → ∀ u ∈ us, SeqAt.EqAt A s u v (eqU x u)
  | _, _, .nil, _ => fun u hu => by cases hu
  | y :: xs, u :: us, .cons r t, f => fun u' hu => by
    rw [List.all_cons, Bool.and_eq_true] at f
    rcases List.mem_cons.mp hu with rfl | hu
    · rw [eqU_of r f.1]; exact eqAt_V r rx f.1 fx
    · exact mem_eqAt rx fx t f.2 u' hu
def inV (x : V) (xs : List V) : Bool := xs.any fun y => eqV y x
/-- x in a list or tuple of flat items -/
def rIn (K : PySem.W.Frag) (neg : Bool) : R2 := fun x y H Q => ∃ p xs, y = .ref p ∧ (SqL K H p xs ∨ SqT K H p xs) ∧ flatV x = true ∧ xs.all flatV = true ∧ Q (.bl (if neg then !inV x xs else inV x xs)) H
theorem op_in_seq : OpR X (compareOp .In) (rIn X.K false) := by
  intro pins s σ H x y v u Q I rx ry h
  obtain ⟨p, xs, rfl, hq, fx, fs, q⟩ := h
  cases ry
  rcases hq with hq | hq
  · obtain ⟨its, r, pl, hz⟩ := I.list hq
    refine SeqAt.in_listAt (eqU x) pl.isList (fun w hw => mem_eqAt rx fx r fs w (by simpa using hw)) ⟨.bl _, H, I, rfl, ?_⟩
    rw [show its.toArray.any (eqU x) = its.any (eqU x) by simp, any_eqU r fs]
    exact q
  · obtain ⟨its, r, pl, hz⟩ := I.tuple hq
    refine SeqAt.in_tupleAt (eqU x) pl (fun w hw => mem_eqAt rx fx r fs w (by simpa using hw)) ⟨.bl _, H, I, rfl, ?_⟩
    rw [show its.toArray.any (eqU x) = its.any (eqU x) by simp, any_eqU r fs]
    exact q
theorem op_notIn_seq : OpR X (compareOp .NotIn) (rIn X.K true) := by
  intro pins s σ H x y v u Q I rx ry h
  obtain ⟨p, xs, rfl, hq, fx, fs, q⟩ := h
  cases ry
  rcases hq with hq | hq
  · obtain ⟨its, r, pl, hz⟩ := I.list hq
    refine SeqAt.notIn_listAt (eqU x) pl.isList (fun w hw => mem_eqAt rx fx r fs w (by simpa using hw)) ⟨.bl _, H, I, rfl, ?_⟩
    rw [show its.toArray.any (eqU x) = its.any (eqU x) by simp, any_eqU r fs]
    exact q
  · obtain ⟨its, r, pl, hz⟩ := I.tuple hq
    refine SeqAt.notIn_tupleAt (eqU x) pl (fun w hw => mem_eqAt rx fx r fs w (by simpa using hw)) ⟨.bl _, H, I, rfl, ?_⟩
    rw [show its.toArray.any (eqU x) = its.any (eqU x) by simp, any_eqU r fs]
    exact q
theorem op_notIn_str : OpR X (compareOp .NotIn) (fun x y H Q => ∃ i j, x = .str i ∧ y = .str j ∧ Q (.bl (!(!(Builtin.Str.occurrences j i 0 j.length 1).isEmpty))) H) := by
  intro pins s σ H x y v u Q I rx ry h
  obtain ⟨i, j, rfl, rfl, q⟩ := h
  obtain ⟨t, rfl⟩ := rx
  obtain ⟨t', rfl⟩ := ry
  exact notIn_str ⟨.bl _, H, I, rfl, q⟩

/-! ### len, list(x), tuple(x) of any list or tuple that is read -/
theorem call_len_seq : CallR X (.builtin "len") (fun xs H Q => ∃ p ys, xs = [.ref p] ∧ (SqL X.K H p ys ∨ SqT X.K H p ys) ∧ Q (.int ys.length) H) := by
  intro pins s σ H xs us Q I r h
  obtain ⟨p, ys, rfl, hq, q⟩ := h
  obtain ⟨u, rfl, rx⟩ := vals1 r
  cases rx
  have hn := line63
  rcases hq with hq | hq
  · obtain ⟨its, r', pl, hz⟩ := I.list hq
    have hlen := r'.length
    exact Calls.call_len_list pl.isList (by simp only [List.size_toArray] <;> omega) ⟨.int ys.length, H, I.tok _, ⟨s.toks + 1, by rw [List.size_toArray, hlen]⟩, q⟩
  · obtain ⟨its, r', pl, hz⟩ := I.tuple hq
    have hlen := r'.length
    exact len_tuple pl (by simp only [List.size_toArray] <;> omega) ⟨.int ys.length, H, I.tok _, ⟨s.toks + 1, by rw [List.size_toArray, hlen]⟩, q⟩
theorem call_len_str : CallR X (.builtin "len") (fun xs H Q => ∃ z, xs = [.str z] ∧ z.length ≤ sizeLine ∧ Q (.int z.length) H) := by
  intro pins s σ H xs us Q I r h
  obtain ⟨z, rfl, hz, q⟩ := h
  obtain ⟨u, rfl, t, rfl⟩ := vals1 r
  have hn := line63
  exact len_str (by omega) ⟨.int z.length, H, I.tok _, ⟨_, rfl⟩, q⟩
theorem CallR.or {f : Value} {r r' : List V → Hp → VK → Prop} (h : CallR X f r) (h' : CallR X f r') : CallR X f (fun xs H Q => r xs H Q ∨ r' xs H Q) := by
  intro pins s σ H xs us Q I rs q
  rcases q with q | q
  · exact h pins s σ H xs us Q I rs q
  · exact h' pins s σ H xs us Q I rs q
theorem call_list_of : CallR X (.type "list") (fun xs H Q => ∃ p ys, xs = [.ref p] ∧ (SqL X.K H p ys ∨ SqT X.K H p ys) ∧ ∀ l, H l = none → Q (.ref l) (upd H l (.lst ys))) := by
  intro pins s σ H xs us Q I r h
  obtain ⟨p, ys, rfl, hq, q⟩ := h
  obtain ⟨u, rfl, rx⟩ := vals1 r
  cases rx
  have fin : ∀ (its : List Value), Vals ys its → ys.length ≤ sizeLine → ∀ (h' : Heap) (c' : Nat), (∀ b o', s.heap.get? b = some o' → h'.get? b = some o') →
      h'.get? s.heap.objs.size = some { cls := .type "list", dict := none, data := .seq its.toArray c', slots := #[] } → EP X pins σ Q (.ref s.heap.objs.size) { s with heap := h' } := fun its r' hz h' c' kp e =>
    ⟨.ref s.heap.objs.size, _, I.laid (t' := s.toks) kp (Nat.le_refl _) (show ObjOk X.prog X.w _ h' _ (.lst ys) from ⟨hz, its, c', r', e⟩), rfl, q _ (I.hok.fresh (Nat.le_refl _))⟩
  rcases hq with hq | hq
  · obtain ⟨its, r', pl, hz⟩ := I.list hq
    have hlen := r'.length
    obtain ⟨o, ho, hc, n, hd⟩ := pl.isList
    exact call_list_seq p (.inl rfl) ho hc hd (fun h' c' kp e => fin its r' hz h' c' kp e) (by simp only [List.size_toArray] <;> omega)
  · obtain ⟨its, r', pl, hz⟩ := I.tuple hq
    have hlen := r'.length
    obtain ⟨o, ho, hc, n, hd⟩ := pl
    exact call_list_seq p (.inr rfl) ho hc hd (fun h' c' kp e => fin its r' hz h' c' kp e) (by simp only [List.size_toArray] <;> omega)
theorem call_tuple_of : CallR X (.type "tuple") (fun xs H Q => ∃ p ys, xs = [.ref p] ∧ ((SqL X.K H p ys ∧ ∀ l, H l = none → Q (.ref l) (upd H l (.tup ys))) ∨ (SqT X.K H p ys ∧ Q (.ref p) H))) := by
  intro pins s σ H xs us Q I r h
  obtain ⟨p, ys, rfl, h⟩ := h
  obtain ⟨u, rfl, rx⟩ := vals1 r
  cases rx
  rcases h with ⟨hq, q⟩ | ⟨hq, q⟩
  · obtain ⟨its, r', pl, hz⟩ := I.list hq
    have hlen := r'.length
    refine call_tuple_list pl.isList (fun h' kp => ?_) (by simp only [List.size_toArray] <;> omega)
    have I1 : Inv X pins σ H { s with heap := h' } := I.kept (t' := s.toks) kp
    have I2 : Inv X pins σ (upd H h'.objs.size (.tup ys)) { s with heap := h'.push { cls := .type "tuple", data := .seq its.toArray } } :=
      I1.laid (t' := s.toks) (fun b o e => Heap.get?_push_of_some _ e) (Nat.le_refl _) (show ObjOk X.prog X.w _ _ _ (.tup ys) from ⟨hz, its, r', IsTup.new _ _⟩)
    exact ⟨.ref h'.objs.size, _, I2, rfl, q _ (I1.hok.fresh (Nat.le_refl _))⟩
  · obtain ⟨its, r', pl, hz⟩ := I.tuple hq
    exact call_tuple_same pl ⟨.ref p, H, I, rfl, q⟩

/-! ### the call of a builtin's method: o.m(..) -/
/-- the value is of that builtin type -/
def tyV (K : PySem.W.Frag) (T : String) (x : V) (H : Hp) : Prop := match x with
  | .str _ => T = "str"
  | .int _ => T = "int"
  | .ref p => (T = "list" ∧ ∃ xs, SqL K H p xs) ∨ (T = "tuple" ∧ ∃ o, K.lookup p = some o ∧ o.cls = .type "tuple" ∧ o.dict = none) ∨
      (T = "dict" ∧ ((∃ kvs, H p = some (.dK kvs)) ∨ ∃ kvs, H p = some (.dT kvs))) ∨ (T = "set" ∧ ∃ S n, H p = some (.set S n))
  | _ => False
theorem tyV_is {pins : List (Addr × Obj)} {σ : St} {H : Hp} {s : Shared} {T : String} {x : V} {v : Value} (I : Inv X pins σ H s) (r : RelV x v) (ty : tyV X.K T x H) :
    s.TypeIs v T ∧ ∀ a, v = .ref a → ∃ ob, s.heap.get? a = some ob ∧ ob.dict = none := by
  cases x with
  | str z =>
    obtain ⟨t, rfl⟩ := r
    cases (show T = "str" from ty)
    exact ⟨typeIs_str s z t, fun _ e => nomatch e⟩
  | int i =>
    obtain ⟨t, rfl⟩ := r
    cases (show T = "int" from ty)
    exact ⟨typeIs_int s i t, fun _ e => nomatch e⟩
  | ref p =>
    cases r
    rcases ty with ⟨rfl, xs, hq⟩ | ⟨rfl, o, hk, hc, hd⟩ | ⟨rfl, hk⟩ | ⟨rfl, S, n, hk⟩
    · obtain ⟨its, _, pl, _⟩ := I.list hq
      refine ⟨pl.isList.typeIs, fun a e => ?_⟩
      cases e
      obtain ⟨o, n, e, c, hd, _⟩ := pl
      exact ⟨o, e, hd⟩
    · refine ⟨⟨o, I.kIn p o hk, hc⟩, fun a e => ?_⟩
      cases e
      exact ⟨o, I.kIn _ o hk, hd⟩
    · have z : ∃ o, s.heap.get? p = some o ∧ o.ExactDict := by
        rcases hk with ⟨kvs, hk⟩ | ⟨kvs, hk⟩
        · obtain ⟨_, _, _, _, o, _, _, e, ex, _⟩ := I.hok p _ hk
          exact ⟨o, e, ex⟩
        · obtain ⟨_, _, _, _, o, _, _, e, ex, _⟩ := I.hok p _ hk
          exact ⟨o, e, ex⟩
      obtain ⟨o, e, ex⟩ := z
      refine ⟨⟨o, e, ex.1⟩, fun a e2 => ?_⟩
      cases e2
      exact ⟨o, e, ex.2.1⟩
    · obtain ⟨o, _, _, _, e, ex, _⟩ := I.hok p _ hk
      refine ⟨⟨o, e, ex.1⟩, fun a e2 => ?_⟩
      cases e2
      exact ⟨o, e, ex.2.1⟩
  | _ => exact False.elim ty
def tBM0 (K : PySem.W.Frag) (T : String) (r : V → List V → Hp → VK → Prop) (to : TE) : TE := fun σ H Q => to σ H fun x H1 => tyV K T x H1 ∧ r x [] H1 Q
def tBM (K : PySem.W.Frag) (T : String) (r : V → List V → Hp → VK → Prop) (to : TE) (t : TA) : TE := fun σ H Q => to σ H fun x H1 => tyV K T x H1 ∧ t σ H1 fun xs H2 => r x xs H2 Q
variable {o e : Expr} {es : List Expr} {to : TE} {t : TA} {name : Str} {apos cpos : Pos} {T id : String} {r : V → List V → Hp → VK → Prop}
theorem pe_bm0 (pa : PlainAttrs T) (slot : Slot T name id) (hty : typeOf (.builtin id) = pure (.type "method_descriptor")) (hm : MtR X id r) (ho : PE X o to)
    (hbase : attributeBase o name X.env (eval o X.env) = eval o X.env := by rfl) (hline : (apos.endLine == cpos.line) = true := by rfl) : PE X (.Call (.Attribute o name apos) [] [] cpos) (tBM0 X.K T r to) := by
  intro pins s σ H Q I h
  refine wpAny_Call_method0_late hbase hline (thn (ho pins s σ H _ I h) fun v s1 ⟨x, H1, I1, r1, ty, q1⟩ => ?_)
  obtain ⟨h1, h2⟩ := tyV_is I1 r1 ty
  exact ⟨T, id, pa, slot, hty, h1, h2, Calls.callWith_builtin rfl (PySem.evalArgs_none (hm pins s1 σ H1 x [] v [] Q I1 r1 .nil q1))⟩
theorem pe_bm (pa : PlainAttrs T) (slot : Slot T name id) (hty : typeOf (.builtin id) = pure (.type "method_descriptor")) (hm : MtR X id r) (ho : PE X o to) (ha : PA X (e :: es) t)
    (hbase : attributeBase o name X.env (eval o X.env) = eval o X.env := by rfl)
    (hfew : ((backTo cpos (starEach (e :: es) X.env)).all (fun x => !x.1) && (backToKw cpos (keywordEach [] X.env)).all (fun x => x.1.isSome)
      && decide ((e :: es).length + ([] : List Keyword).length + (if ([] : List Keyword).isEmpty then 0 else 1) < 30)) = true := by rfl)
    (hline : (apos.endLine == cpos.line) = true := by rfl) (hs : starEach (e :: es) X.env = (false, eval e X.env) :: starEach es X.env := by rfl) (hplain : (backTo cpos (starEach es X.env)).any (·.1) = false := by rfl) :
    PE X (.Call (.Attribute o name apos) (e :: es) [] cpos) (tBM X.K T r to t) := by
  intro pins s σ H Q I h
  refine wpAny_Call_method_late hbase hfew hline rfl (thn (ho pins s σ H _ I h) fun v s1 ⟨x, H1, I1, r1, ty, q1⟩ => ?_)
  obtain ⟨h1, h2⟩ := tyV_is I1 r1 ty
  refine ⟨T, id, pa, slot, hty, h1, h2, ?_⟩
  have hA := ha cpos pins s1 σ H1 _ I1 q1
  rw [hs] at hA ⊢
  refine Calls.callWith_builtin (by show (false || (backTo cpos (starEach es X.env)).any (·.1)) = false; rw [hplain] <;> rfl) (Calls.evalArgs_plain ?_)
  exact thn hA fun us s2 ⟨vs, H2, I2, r2, q2⟩ => hm pins s2 σ H2 x vs v us Q I2 r1 r2 q2
/- xs.append(e), list.index on a module's tuple .. are MtR facts of 06m -/
end
end L2

namespace L2
open PySem PySem.Spec PyProof.Rows

def MtM (X : Cx) (id : String) (r : V → List V → Hp → VK → Prop) : Prop :=
  ∀ (pins : List (Addr × Obj)) (s : Shared) (σ : St) (H : Hp) (x : V) (xs : List V) (v : Value) (us : List Value) (Q : VK), Inv X pins σ H s → RelV x v → Vals xs us → r x xs H Q →
    wpAny (model X.prog X.w) X.A (call (.builtin id) (v :: us)) (EP X pins σ Q) X.xe s

/-! ### lists of values -/
theorem Vals.one : ∀ {x : V} {us : List Value}, Vals [x] us → ∃ u, us = [u] ∧ RelV x u
  | _, _, .cons r .nil => ⟨_, rfl, r⟩
theorem Vals.two : ∀ {x y : V} {us : List Value}, Vals [x, y] us → ∃ u v, us = [u, v] ∧ RelV x u ∧ RelV y v
  | _, _, _, .cons r (.cons q .nil) => ⟨_, _, rfl, r, q⟩
theorem Vals.zero : ∀ {us : List Value}, Vals [] us → us = []
  | _, .nil => rfl
theorem Vals.dropLast {xs : List V} {us : List Value} (h : Vals xs us) : Vals xs.dropLast us.dropLast := by
  induction h with
  | nil => exact .nil
  | cons r t ih =>
    cases t with
    | nil => exact .nil
    | cons q t' => exact .cons r ih
theorem Vals.eraseIdx : ∀ {xs : List V} {us : List Value} (i : Nat), Vals xs us → Vals (xs.eraseIdx i) (us.eraseIdx i)
  | _, _, _, .nil => .nil
  | _, _, 0, .cons _ t => t
  | _, _, i + 1, .cons r t => .cons r (Vals.eraseIdx i t)
theorem Vals.reverse {xs : List V} {us : List Value} (h : Vals xs us) : Vals xs.reverse us.reverse := by
  induction h with
  | nil => exact .nil
  | cons r t ih => rw [List.reverse_cons, List.reverse_cons]; exact Vals.append ih (.cons r .nil)
theorem Vals.rep {xs : List V} {us : List Value} (h : Vals xs us) : ∀ k : Nat, Vals (List.replicate k xs).flatten (List.replicate k us).flatten
  | 0 => .nil
  | k + 1 => by
    rw [List.replicate_succ, List.replicate_succ, List.flatten_cons, List.flatten_cons]
    exact Vals.append h (Vals.rep h k)
theorem erase_last {α : Type} (l : List α) : l.eraseIdx (l.length - 1) = l.dropLast := by
  induction l with
  | nil => rfl
  | cons a r ih =>
    cases r with
    | nil => rfl
    | cons b r =>
      have e : (a :: b :: r).length - 1 = ((b :: r).length - 1) + 1 := by
        have h1 : (a :: b :: r).length = r.length + 2 := rfl
        have h2 : (b :: r).length = r.length + 1 := rfl
        omega
      rw [e, List.eraseIdx_cons_succ, ih]
      all_goals rfl
theorem len_erase {α : Type} : ∀ (l : List α) (i : Nat), (l.eraseIdx i).length ≤ l.length
  | [], _ => Nat.le_refl _
  | _ :: _, 0 => Nat.le_succ _
  | _ :: r, i + 1 => Nat.succ_le_succ (len_erase r i)
theorem foldl_rep (its : List Value) : ∀ (k : Nat) (acc : List Value),
    List.foldl (fun x1 x2 => x1 ++ x2) acc.toArray (List.replicate k its.toArray) = (acc ++ (List.replicate k its).flatten).toArray
  | 0, acc => by simp
  | k + 1, acc => by
    have e : acc.toArray ++ its.toArray = (acc ++ its).toArray := by simp
    have e2 : (acc ++ its) ++ (List.replicate k its).flatten = acc ++ (List.replicate (k + 1) its).flatten := by
      rw [List.replicate_succ, List.flatten_cons, List.append_assoc]
    rw [← e2, ← foldl_rep its k (acc ++ its), ← e, List.replicate_succ, List.foldl_cons]

section
variable {X : Cx} {pins : List (Addr × Obj)} {σ : St} {H : Hp} {s : Shared} {l b : Addr} {xs ys zs : List V}

/-! ### the two steps: a tracked list is rewritten, a new list is laid -/
theorem Inv.lset {its its' : List Value} {n : Nat} {f : Array Value → Array Value} {t' : Nat} (I : Inv X pins σ H s) (hH : H l = some (.lst xs))
    (e : s.heap.get? l = some { cls := .type "list", data := .seq its.toArray n }) (hf : f its.toArray = its'.toArray) (hv : Vals ys its') (hz : ys.length ≤ sizeLine) :
    Inv X pins σ (upd H l (.lst ys)) { s with heap := s.heap.update l (Obj.mapSeq f), toks := t' } := by
  have q := PySem.IsL.update e f
  rw [hf] at q
  refine I.write (x := l) (e := l) (by rw [hH]; exact trivial) (.inl rfl) (fun b' u hb hu => (Heap.get?_update_other s.heap (Obj.mapSeq f) (Ne.symm hb)).trans hu) ⟨_, q⟩ ?_
  exact ⟨hz, its', _, hv, q⟩
theorem Inv.lnew {its : List Value} {t' : Nat} (I : Inv X pins σ H s) (hv : Vals ys its) (hz : ys.length ≤ sizeLine) :
    Inv X pins σ (upd H s.heap.objs.size (.lst ys)) { s with heap := s.heap.push { cls := .type "list", data := .seq its.toArray }, toks := t' } :=
  I.laid (fun _ _ q => Heap.get?_push_of_some _ q) (Nat.le_refl _) ⟨hz, its, 0, hv, Heap.get?_push_size _ rfl⟩
theorem Inv.fresh (I : Inv X pins σ H s) : H s.heap.objs.size = none := I.hok.fresh (Nat.le_refl _)
theorem Inv.lstM (I : Inv X pins σ H s) (hH : H l = some (.lst xs)) : xs.length ≤ sizeLine ∧ ∃ (its : List Value) (n : Nat), Vals xs its ∧ xs.length = its.length ∧ s.heap.get? l = some { cls := .type "list", data := .seq its.toArray n } := by
  obtain ⟨z, its, n, r, e⟩ := I.hok l _ hH
  exact ⟨z, its, n, r, r.length, e⟩

theorem notLongL {n : Nat} (h : n ≤ sizeLine) : Builtin.List.listTooLong n = false := by
  unfold Builtin.List.listTooLong
  exact decide_eq_false (by omega)
end

section
variable {X : Cx}

/-! ### methods -/
def rAppend : V → List V → Hp → VK → Prop := fun x vs H Q => ∃ l xs y, x = .ref l ∧ vs = [y] ∧ H l = some (.lst xs) ∧ xs.length < sizeLine ∧ Q .non (upd H l (.lst (xs ++ [y])))
theorem mt_append : MtM X "list.append" rAppend := by
  intro pins s σ H x vs v us Q I rx rv h
  obtain ⟨l, xs, y, rfl, rfl, hH, hz, q⟩ := h
  cases rx
  obtain ⟨u, rfl, ru⟩ := rv.one
  obtain ⟨z, its, n, r, hl, e⟩ := I.lstM hH
  refine call_meets F.slot_list_append ⟨_, e, rfl⟩ F.entry_list_append (F.args_list_append_2 _ _) (PySem.list_append l its.toArray n u (by rw [List.size_toArray]; omega)) ⟨e, ?_⟩
  refine ⟨.non, _, I.lset (its' := its ++ [u]) hH e (by simp) (r.append (.cons ru .nil)) ?_, rfl, q⟩
  rw [List.length_append, List.length_singleton]
  omega

def rExtend : V → List V → Hp → VK → Prop := fun x vs H Q => ∃ l b xs zs, x = .ref l ∧ vs = [.ref b] ∧ H l = some (.lst xs) ∧ H b = some (.lst zs) ∧ xs.length + zs.length ≤ sizeLine ∧ Q .non (upd H l (.lst (xs ++ zs)))
theorem mt_extend : MtM X "list.extend" rExtend := by
  intro pins s σ H x vs v us Q I rx rv h
  obtain ⟨l, b, xs, zs, rfl, rfl, hH, hB, hz, q⟩ := h
  cases rx
  obtain ⟨u, rfl, ru⟩ := rv.one
  cases ru
  obtain ⟨z, its, n, r, hl, e⟩ := I.lstM hH
  obtain ⟨z2, its2, n2, r2, hl2, e2⟩ := I.lstM hB
  have hsz : its.toArray.size + its2.toArray.size ≤ sizeLine := by rw [List.size_toArray, List.size_toArray]; omega
  have hlong : ¬ (!its.toArray.isEmpty && Builtin.List.listTooLong (its.toArray.size + its2.toArray.size)) = true := by
    rw [notLongL hsz, Bool.and_false]
    exact Bool.false_ne_true
  refine call_meets F.slot_list_extend ⟨_, e, rfl⟩ F.entry_list_extend (F.args_list_extend_2 _ _)
    (AutoSeq1.list_extend_list_list_0 l its.toArray n b its2.toArray n2 hlong (by rw [List.size_toArray]; omega) (by omega)) ⟨e, e2, ?_⟩
  refine ⟨.non, _, I.lset (its' := its ++ its2) hH e (by simp) (r.append r2) ?_, rfl, q⟩
  rw [List.length_append]
  omega

def rPop : V → List V → Hp → VK → Prop := fun x vs H Q => ∃ l xs y, x = .ref l ∧ vs = [] ∧ H l = some (.lst xs) ∧ xs[xs.length - 1]? = some y ∧ Q y (upd H l (.lst xs.dropLast))
theorem mt_pop : MtM X "list.pop" rPop := by
  intro pins s σ H x vs v us Q I rx rv h
  obtain ⟨l, xs, y, rfl, rfl, hH, hy, q⟩ := h
  cases rx
  have hus := rv.zero
  subst hus
  obtain ⟨z, its, n, r, hl, e⟩ := I.lstM hH
  obtain ⟨u, hu, ru⟩ := r.get hy
  have hy' : its.toArray[its.toArray.size - 1]? = some u := by
    show its.toArray[its.length - 1]? = some u
    rw [← Array.getElem?_toList, ← hl]
    exact hu
  refine call_meets F.slot_list_pop ⟨_, e, rfl⟩ F.entry_list_pop (F.args_list_pop_1 _) (MeetsSeq.list_pop_last l its.toArray n u hy' (by rw [List.size_toArray]; omega)) ⟨e, ?_⟩
  refine ⟨y, _, I.lset (its' := its.dropLast) hH e ?_ r.dropLast ?_, ru, q⟩
  · show its.toArray.eraseIdxIfInBounds (its.toArray.size - 1) = its.dropLast.toArray
    rw [List.size_toArray, List.eraseIdxIfInBounds_toArray, erase_last]
  · rw [List.length_dropLast]
    omega

def rPopAt : V → List V → Hp → VK → Prop := fun x vs H Q => ∃ l xs i k y, x = .ref l ∧ vs = [.int i] ∧ H l = some (.lst xs) ∧ -(2 ^ 63) ≤ i ∧ i < 2 ^ 63 ∧ seqIndex? i xs.length = some k ∧ xs[k]? = some y ∧ Q y (upd H l (.lst (xs.eraseIdx k)))
theorem mt_popAt : MtM X "list.pop" rPopAt := by
  intro pins s σ H x vs v us Q I rx rv h
  obtain ⟨l, xs, i, k, y, rfl, rfl, hH, h1, h2, hk, hy, q⟩ := h
  cases rx
  obtain ⟨u, rfl, ru⟩ := rv.one
  obtain ⟨t, rfl⟩ := ru
  obtain ⟨z, its, n, r, hl, e⟩ := I.lstM hH
  obtain ⟨w, hw, rw'⟩ := r.get hy
  refine call_meets F.slot_list_pop ⟨_, e, rfl⟩ F.entry_list_pop (F.args_list_pop_2 _ _)
    (MeetsSeq.list_pop_at l its.toArray n i t k w (fitsIndex_both h1 h2) (by rw [List.size_toArray, ← hl]; exact hk) (by rw [← Array.getElem?_toList]; exact hw) (by rw [List.size_toArray]; omega)) ⟨e, ?_⟩
  refine ⟨y, _, I.lset (its' := its.eraseIdx k) hH e ?_ (r.eraseIdx k) ?_, rw', q⟩
  · show its.toArray.eraseIdxIfInBounds k = (its.eraseIdx k).toArray
    rw [List.eraseIdxIfInBounds_toArray]
  · have := len_erase xs k
    omega

def rReverse : V → List V → Hp → VK → Prop := fun x vs H Q => ∃ l xs, x = .ref l ∧ vs = [] ∧ H l = some (.lst xs) ∧ Q .non (upd H l (.lst xs.reverse))
theorem mt_reverse : MtM X "list.reverse" rReverse := by
  intro pins s σ H x vs v us Q I rx rv h
  obtain ⟨l, xs, rfl, rfl, hH, q⟩ := h
  cases rx
  have hus := rv.zero
  subst hus
  obtain ⟨z, its, n, r, hl, e⟩ := I.lstM hH
  refine call_meets F.slot_list_reverse ⟨_, e, rfl⟩ F.entry_list_reverse (F.args_list_reverse_1 _) (AutoSeq1.list_reverse_list_0 l its.toArray n (by rw [List.size_toArray]; omega)) ⟨e, ?_⟩
  refine ⟨.non, _, I.lset (its' := its.reverse) hH e (by simp) r.reverse ?_, rfl, q⟩
  rw [List.length_reverse]
  omega

def rClear : V → List V → Hp → VK → Prop := fun x vs H Q => ∃ l xs, x = .ref l ∧ vs = [] ∧ H l = some (.lst xs) ∧ Q .non (upd H l (.lst []))
theorem mt_clear : MtM X "list.clear" rClear := by
  intro pins s σ H x vs v us Q I rx rv h
  obtain ⟨l, xs, rfl, rfl, hH, q⟩ := h
  cases rx
  have hus := rv.zero
  subst hus
  obtain ⟨z, its, n, r, hl, e⟩ := I.lstM hH
  refine call_meets F.slot_list_clear ⟨_, e, rfl⟩ F.entry_list_clear (F.args_list_clear_1 _) (AutoSeq1.list_clear_list_0 l its.toArray n (by rw [List.size_toArray]; omega)) ⟨e, ?_⟩
  exact ⟨.non, _, I.lset (its' := []) (ys := []) hH e rfl .nil (Nat.zero_le _), rfl, q⟩

/-! ### list + list, list += list, list * int -/
def rCat : R2 := fun x y H Q => ∃ l b xs zs, x = .ref l ∧ y = .ref b ∧ H l = some (.lst xs) ∧ H b = some (.lst zs) ∧ xs.length + zs.length ≤ sizeLine ∧ ∀ p, H p = none → Q (.ref p) (upd H p (.lst (xs ++ zs)))
theorem op_cat : OpR X (binaryOp .Add) rCat := by
  intro pins s σ H x y v u Q I rx ry h
  obtain ⟨l, b, xs, zs, rfl, rfl, hH, hB, hz, q⟩ := h
  cases rx
  cases ry
  obtain ⟨z, its, n, r, hl, e⟩ := I.lstM hH
  obtain ⟨z2, its2, n2, r2, hl2, e2⟩ := I.lstM hB
  refine PySem.P.add_list e e2 ?_ (by rw [List.size_toArray, List.size_toArray]; omega)
  have ea : its.toArray ++ its2.toArray = (its ++ its2).toArray := by simp
  rw [ea]
  exact ⟨.ref _, _, I.lnew (t' := s.toks) (r.append r2) (by rw [List.length_append]; omega), rfl, q _ I.fresh⟩
/-- a list times an int (a negative one is nothing) -/
def rRep : R2 := fun x y H Q => ∃ l k xs, x = .ref l ∧ y = .int k ∧ H l = some (.lst xs) ∧ -(2 ^ 63) ≤ k ∧ k < 2 ^ 63 ∧ xs.length * k.toNat ≤ sizeLine ∧
  ∀ p, H p = none → Q (.ref p) (upd H p (.lst (List.replicate k.toNat xs).flatten))
theorem len_rep {α : Type} (xs : List α) (k : Nat) : (List.replicate k xs).flatten.length = k * xs.length := by
  induction k with
  | zero => simp
  | succ k ih => rw [List.replicate_succ, List.flatten_cons, List.length_append, ih, Nat.succ_mul, Nat.add_comm]
theorem op_rep : OpR X (binaryOp .Mult) rRep := by
  intro pins s σ H x y v u Q I rx ry h
  obtain ⟨l, k, xs, rfl, rfl, hH, h1, h2, hz, q⟩ := h
  cases rx
  obtain ⟨t, rfl⟩ := ry
  obtain ⟨z, its, n, r, hl, e⟩ := I.lstM hH
  have hlen : its.toArray.size * k.toNat ≤ sizeLine := by rw [List.size_toArray, ← hl]; exact hz
  have hcap : ¬ its.toArray.size * k.toNat > (2 ^ 63 - 1) / 8 := by
    have : (sizeLine : Nat) ≤ (2 ^ 63 - 1) / 8 := by decide
    omega
  have hfit : ¬ (!Builtin.List.listFitsIndex k) = true := by
    rw [fitsIndex_both h1 h2]
    exact Bool.false_ne_true
  have hlong : ¬ Builtin.List.listTooLong (its.toArray.size * k.toNat) = true := by
    rw [notLongL hlen]
    exact Bool.false_ne_true
  have hnew : List.foldl (fun x1 x2 => x1 ++ x2) #[] (List.replicate (if its.toArray.isEmpty = true then 0 else k.toNat) its.toArray) = (List.replicate k.toNat its).flatten.toArray := by
    have f0 : ∀ m : Nat, List.foldl (fun x1 x2 => x1 ++ x2) #[] (List.replicate m its.toArray) = (List.replicate m its).flatten.toArray := fun m => by
      have := foldl_rep its m []
      rw [List.nil_append] at this
      exact this
    rw [f0]
    cases its with
    | nil => simp
    | cons a r' => rw [if_neg (by simp)]
  refine wpAny_binaryOp_repeat_ref (T := "list") (U := "int") (by decide) ⟨_, e, rfl⟩ (fun s' => typeIs_int s' k t) noFill_list_mul F.fills_int_mul F.slot_int_rmul repeat_list F.slot_int_index.lookup
    (call_meets F.slot_int_rmul (typeIs_int s k t) F.entry_int_rmul (F.args_int_rmul_2 _ _) (int___rmul___int_list k t l its.toArray n)
      ⟨e, rfl, ⟨_, e, rfl⟩, call_meets F.slot_list_mul ⟨_, e, rfl⟩ F.entry_list_mul (F.args_list_mul_2 _ _) (AutoListH.list___mul___list_int_3 l its.toArray n k t hfit hcap hlong) ⟨e, ?_⟩⟩)
  rw [hnew]
  exact ⟨.ref _, _, I.lnew (t' := s.toks) (r.rep k.toNat) (by rw [len_rep, Nat.mul_comm]; exact hz), rfl, q _ I.fresh⟩

/-! ### del xs[i] -/
theorem del_list {pins : List (Addr × Obj)} {s : Shared} {σ : St} {H : Hp} {l : Addr} {xs : List V} {i : Int} {t : Tok} {k : Nat} {Q : Unit → Shared → Prop} (I : Inv X pins σ H s) (hH : H l = some (.lst xs))
    (h1 : -(2 ^ 63) ≤ i) (h2 : i < 2 ^ 63) (hk : seqIndex? i xs.length = some k) (h : ∀ s', Inv X pins σ (upd H l (.lst (xs.eraseIdx k))) s' → Q () s') :
    wpAny (model X.prog X.w) X.A (delItem (.ref l) (.int i t)) Q X.xe s := by
  obtain ⟨z, its, n, r, hl, e⟩ := I.lstM hH
  refine PySem.P.delItem_list (k := k) e (fitsIndex_both h1 h2) (by rw [List.size_toArray, ← hl]; exact hk) (h _ ?_) (by rw [List.size_toArray]; omega)
  refine I.lset (its' := its.eraseIdx k) (t' := s.toks) hH e ?_ (r.eraseIdx k) ?_
  · show its.toArray.eraseIdxIfInBounds k = (its.eraseIdx k).toArray
    rw [List.eraseIdxIfInBounds_toArray]
  · have := len_erase xs k
    omega
end

/-! ### xs[a:b] = ys -/
section
variable {prog : Program} {w : World} {A : Around} {E : Value → Shared → Prop} {s : Shared}
theorem splice_eq (its its2 : List Value) (a c : Nat) : its.toArray.extract 0 a ++ its2.toArray ++ its.toArray.extract c its.toArray.size = (its.take a ++ its2 ++ its.drop c).toArray := by
  apply Array.toList_inj.mp
  first
    | (simp
       exact List.take_of_length_le (by simp))
    | simp [List.take_of_length_le]
    | simp
theorem bounds_run {a c n : Nat} (hac : a ≤ c) (hc : c ≤ n) : sliceBounds (some (a : Int)) (some (c : Int)) none n = ((a : Int), (c : Int), 1) := by
  simp only [sliceBounds, Option.getD_none]
  have h1 : ¬ ((a : Int) < 0) := by omega
  have h2 : ¬ ((c : Int) < 0) := by omega
  simp only [h1, h2, if_false, show (1 : Int) > 0 by decide, if_true]
  congr 1
  · omega
  · congr 1; omega
set_option maxRecDepth 100000 in
/-- list.__setitem__ with a slice of step one and another list -/
theorem setItem_slice {l b sl : Addr} {items new : Array Value} {n n2 : Nat} {vl vu : Value} {a c : Nat} {Q : Unit → Shared → Prop}
    (e : s.heap.get? l = some { cls := .type "list", data := .seq items n }) (e2 : s.heap.get? b = some { cls := .type "list", data := .seq new n2 }) (hne : l ≠ b)
    (hs : s.heap.IsSliceOf sl vl vu .none) (pl : IsPart vl (some (a : Int))) (pu : IsPart vu (some (c : Int))) (hac : a ≤ c) (hc : c ≤ items.size)
    (hsz : items.size + new.size ≤ sizeLine) (h : Q () { s with heap := s.heap.update l (Obj.mapSeq fun xs => xs.extract 0 a ++ new ++ xs.extract c xs.size) }) :
    wpAny (model prog w) A (setItem (.ref l) (.ref sl) (.ref b)) Q E s := by
  have hl : s.heap.IsList l items := PySem.IsL.isList e
  have hb : s.heap.IsList b new := PySem.IsL.isList e2
  obtain ⟨os, hos, hcs, hds⟩ := id hs
  have hTs : s.TypeIs (.ref sl) "slice" := ⟨os, hos, hcs⟩
  have hstep : ¬ ((rawPart none == rawInt 0) = true) := Bool.false_ne_true
  have hsame : Builtin.List.listSameRef (.ref l) (.ref b) = false := by
    unfold Builtin.List.listSameRef
    exact beq_eq_false_iff_ne.mpr hne
  have hmax : (max (a : Int) (c : Int)).toNat = c := by omega
  have hz' : ((fun xs : Array Value => xs.extract 0 a ++ new ++ xs.extract c xs.size) items).size ≤ sizeLine + 1 := by
    simp only [Array.size_append, Array.size_extract]
    omega
  unfold setItem
  try with_reducible refine wpAny_holding ?_
  first | refine wpAny_bind (wpAny_pure ?_) | skip
  refine wpAny_bind (wpAny_sequenceKey hl.typeIs (by decide) ?_)
  refine wpAny_bind (wpAny_callSpecial?_slot (name := Str.ofString "__setitem__") hl.typeIs slot_list_setitem
    (wpAny_call_entry slot_list_setitem hl.typeIs entry_list_setitem ?_ (args_list_setitem _ _ _)))
  show wpAny _ _ (Builtin.List.listSubscript? (.ref sl) >>= _) _ _ s
  refine wpAny_bind ?_
  unfold Builtin.List.listSubscript?
  refine wpAny_bind (wpAny_specialOf hTs slice_no_index ?_)
  simp only [Option.isNone_none, if_true]
  refine wpAny_pure ?_
  show wpAny _ _ (typeOf (.ref sl) >>= _) _ _ s
  refine wpAny_bind (wpAny_typeOf hTs ?_)
  first
    | rw [if_neg (by decide)]
    | refine PySem.W.KFB.if_not (by decide) ?_
  rw [listSliceParts_eq]
  refine wpAny_bind (wpAny_bind (wpAny_field hos hds (x := .none) rfl (wpAny_bind (wpAny_listPart .none ?_))))
  rw [if_neg hstep]
  refine wpAny_bind (wpAny_field hos hds (x := vl) rfl (wpAny_bind (wpAny_listPart pl ?_)))
  refine wpAny_bind (wpAny_field hos hds (x := vu) rfl (wpAny_bind (wpAny_listPart pu (wpAny_pure ?_))))
  first
    | simp only [hsame, Bool.false_eq_true, if_false]
    | refine PySem.W.KFB.if_not hsame ?_
    | (dsimp only
       rw [if_neg (by rw [hsame]; exact Bool.false_ne_true)])
  refine wpAny_bind (m := Builtin.List.listAllItems (.ref b) "must assign iterable to extended slice") ?_
  unfold Builtin.List.listAllItems
  refine wpAny_bind (wpAny_typeOf hb.typeIs ?_)
  first
    | refine PySem.W.KFB.if_so (by decide) ?_
    | rw [if_pos (by decide)]
    | simp only [beq_self_eq_true, Bool.true_or, if_true]
  unfold Builtin.List.listItems
  refine wpAny_bind (wpAny_seqItems e2 rfl (wpAny_pure ?_))
  refine wpAny_bind (wpAny_bind (wpAny_seqItems e rfl (wpAny_pure ?_)))
  refine wpAny_bind (wpAny_of_eq ((sliceIndices_raw (some (a : Int)) (some (c : Int)) none items.size (by simp)).trans (congrArg (pure : Int × Int × Int → Sem (Int × Int × Int)) (bounds_run hac hc))) ?_)
  show wpAny _ _ (if ((1 : Int) == 1) = true then _ else _) _ _ s
  rw [if_pos (by decide)]
  refine wpAny_bind (wpAny_rule ?_)
  first
    | simp only [notLongL hsz, Bool.false_eq_true, if_false]
    | refine PySem.W.KFB.if_not (notLongL hsz) ?_
  first | refine wpAny_bind (wpAny_pure ?_) | skip
  show wpAny _ _ (updateSeq l (fun xs => xs.extract 0 ((a : Int)).toNat ++ new ++ xs.extract (max (a : Int) (c : Int)).toNat xs.size) >>= _) _ _ s
  rw [hmax, Int.toNat_natCast]
  refine wpAny_bind (wpAny_updateSeq (hz := Nat.le_trans (Nat.le_add_right _ _) hsz) (_hz' := hz') e rfl ?_)
  refine wpAny_bind (wpAny_letGo ?_)
  first
    | exact wpAny_bind (wpAny_pure (wpAny_pure ⟨.none, rfl, wpAny_pure h⟩))
    | exact wpAny_pure ⟨.none, rfl, wpAny_pure h⟩
end

section
variable {X : Cx}
/-- xs[a:c] = ys of another list, at the value level: sl is the slice object that was just made -/
theorem set_slice {pins : List (Addr × Obj)} {s : Shared} {σ : St} {H : Hp} {l b sl : Addr} {xs ys : List V} {a c : Int} {vl vu : Value} {Q : Unit → Shared → Prop} (I : Inv X pins σ H s)
    (hH : H l = some (.lst xs)) (hB : H b = some (.lst ys)) (hne : l ≠ b) (hs : s.heap.IsSliceOf sl vl vu .none) (ra : RelV (.int a) vl) (rc : RelV (.int c) vu) (h0 : 0 ≤ a) (hac : a ≤ c) (hc : c ≤ xs.length)
    (hz : xs.length + ys.length ≤ sizeLine) (h : ∀ s', Inv X pins σ (upd H l (.lst (xs.take a.toNat ++ ys ++ xs.drop c.toNat))) s' → Q () s') :
    wpAny (model X.prog X.w) X.A (setItem (.ref l) (.ref sl) (.ref b)) Q X.xe s := by
  obtain ⟨ta, rfl⟩ := ra
  obtain ⟨tc, rfl⟩ := rc
  obtain ⟨z, its, n, r, hl, e⟩ := I.lstM hH
  obtain ⟨z2, its2, n2, r2, hl2, e2⟩ := I.lstM hB
  obtain ⟨a', rfl⟩ := Int.eq_ofNat_of_zero_le h0
  obtain ⟨c', rfl⟩ := Int.eq_ofNat_of_zero_le (Int.le_trans h0 hac)
  simp only [Int.toNat_natCast] at h
  refine setItem_slice (a := a') (c := c') e e2 hne hs (.int _ _) (.int _ _) (by omega) (by rw [List.size_toArray]; omega) (by rw [List.size_toArray, List.size_toArray]; omega) (h _ ?_)
  refine I.lset (its' := its.take a' ++ its2 ++ its.drop c') (t' := s.toks) hH e ?_ (Vals.append (Vals.append (r.take _) r2) (r.drop _)) ?_
  · exact splice_eq its its2 a' c'
  · rw [List.length_append, List.length_append, List.length_take, List.length_drop]
    omega
end
end L2

namespace Att
open PySem PySem.W PySem.Calls PyProof.Rows

/-! ### the script -/
theorem ints_of_wellAll {P : Params} {h : Heap} : ∀ (ns : List Int) (vs : List Value), WellAll P h vs (ns.map WData.int) → IntsAre vs ns := by
  intro ns
  induction ns with
  | nil =>
    intro vs w
    rw [List.map_nil] at w
    cases w
    exact .nil
  | cons n ns ih =>
    intro vs w
    rw [List.map_cons] at w
    cases w with
    | cons a b =>
      cases a
      exact .cons _ _ (ih _ b)

theorem script_of {l : OpenLaw} {n : Nat} (hn : l.most = some n) {P : Params} {h : Heap} {args : List WData} {vals : List Value}
    (hpre : l.row.toRowW.claim.pre args = true) (hwl : WellAll P h vals args) :
    ∃ a vs ns, vals = [Value.ref a] ∧ args = [WData.list (ns.map WData.int)] ∧ h.get? a = some { cls := .type "list", data := .seq vs.toArray } ∧ IntsAre vs ns ∧ ns.length ≤ n := by
  have hsh : WShape.hasAll [] args [.list .int] = true := (pre_splitW hpre).1
  have hc : l.pre.holds [] { args := args } = true := (pre_splitW hpre).2
  obtain ⟨d, r, rfl, h1, h2⟩ := hasAllW_cons hsh
  obtain rfl := hasAllW_nil h2
  obtain ⟨xs, rfl, h3⟩ := hasW_list h1
  obtain ⟨ns, rfl⟩ := items_int h3
  have hlen : ns.length ≤ n := by
    unfold OpenLaw.pre at hc
    have h4 : (WTm.not (.lt (.lit (.int (n : Int))) (.len (.arg 0)))).holds [] { args := [.list (ns.map .int)] } = true := by
      have h4 := (holds_andW hc).1
      rw [hn] at h4
      exact h4
    have h5 := condW_of h4 (w_not (w_lt w_lit (w_len_list (w_arg rfl))))
    rw [List.length_map] at h5
    refine Nat.le_of_not_lt fun q => ?_
    have q' : (n : Int) < ((ns.length : Nat) : Int) := by omega
    first
      | (rw [decide_eq_true q'] at h5; exact absurd h5 (by decide))
      | (simp at h5; omega)
  cases hwl with
  | cons w1 w2 =>
    cases w2
    cases w1 with
    | list ho hall => exact ⟨_, _, ns, rfl, rfl, ho, ints_of_wellAll ns _ hall, hlen⟩

theorem post_true (l : OpenLaw) (args : List WData) : l.row.toRowW.claim.post args (.bool true) args = true :=
  postW_of (r := l.row.toRowW) (X := (true == true))
    (show WShape.has [] (.bool true) .bool = true by first | rfl | decide | simp [WShape.has, WShape.arms, WShape.armsAll])
    (show (WTm.eq .res (.lit (.bool true))).value [] { args := args, res := some (.bool true), after := args } = some (.bool (true == true)) from w_eq_bool (w_res rfl) w_lit) rfl

/-! ### the attachment: holds_open's last premise (the goal 'hc' behind k_head) from a wpAny of the law's body -/
theorem attach {l : OpenLaw} {n : Nat} {q : Program} {loose : List Str} {XP : (Str → Option Value) → Heap → Prop} {YP : World → Heap → Prop} {d : DefRec} {x : Str}
    (hn : l.most = some n) (hdf : d.params.defaults = [])
    (hbind : ∀ pm cd doc v : Value, bindArgs (docDef d.name d.params d.body d.scope pm cd doc) ⟨[v], []⟩ = pure [(x, v)])
    (hx : d.scope.names.lookup x = some .local ∨ d.scope.names.lookup x = some .cell)
    (hk : d.scope.kind = .function) (hco : d.scope.isCoroutine = false) (hgen : d.scope.isGenerator = false)
    (body : ∀ (w : World) (s₀ s₁ s : Shared) (mg mb : Str → Option Value) (fa : Addr) (o : Obj) (pm cd doc : Value) (a : Addr) (vs : List Value) (ns : List Int),
      Ground q loose [] XP w s₀ mg mb s₁.heap → YP w s₁.heap →
      s₁.heap.get? fa = some o → o.data = .func (docDef d.name d.params d.body d.scope pm cd doc) → s₁.heap.CodeRec cd d.name → mg d.name = some (.ref fa) →
      s₁.heap.get? a = some { cls := .type "list", data := .seq vs.toArray } → IntsAre vs ns → ns.length ≤ n →
      s.gens = #[] → s.os = s₁.os →
      Fr s₁.heap s₁.heap.objs.size s.heap (bindL (envOfC d.name d.scope s₁.heap.objs.size fa cd).kindOf [(x, .ref a)] fun _ => none) →
      Cl s₁.heap.objs.size (cellsFrom (s₁.heap.objs.size + 1) d.scope.names []) s.heap (bindC (envOfC d.name d.scope s₁.heap.objs.size fa cd).kindOf [(x, .ref a)] fun _ => none) →
      wpAny (model l.prog w) (callerA.deeper (envOfC d.name d.scope s₁.heap.objs.size fa cd)) (execs d.body (envOfC d.name d.scope s₁.heap.objs.size fa cd))
        (fun f s' => f = .ret (.bool true) ∧ OldK s₁.heap s'.heap ∧ s'.os = s₁.os ∧ AllBare s'.gens) (fun _ _ => False) s) :
    WalkO q loose XP YP l.row.toRowW d [] (fun f vs => PySem.call f vs) := by
  intro w s₀ s₁ mg mb G Y fa o pm cd doc dV kV ho hd hcd hD hmg hg args vals as hpre hlay hrd hwl hlo
  obtain rfl : dV = .none := Dflts.none hD hdf
  obtain rfl : kV = .none := Dflts.noKw hD
  obtain ⟨a, vs, ns, rfl, rfl, hobj, hints, hlen⟩ := script_of hn hpre hwl
  refine enter_call ?_
  refine call_cells_ret (o := o) (by rw [depth_caller]; decide) ho (fd_plain hd) G.T.nolimit hcd (hbind pm cd doc (.ref a)) (fun y hy => ?_) (fun h₁ tk F X => ?_) hco hgen hk
  · obtain rfl : y = (x, Value.ref a) := List.mem_singleton.mp hy
    rcases hx with e | e
    · exact .inl e
    · exact .inr ⟨e, cellsFrom_some _ _ _ (.inl e)⟩
  · refine wpAny_mono (body w s₀ s₁ { s₁ with heap := h₁, toks := tk } mg mb fa o pm cd doc a vs ns G Y ho (fd_plain hd) hcd hmg hobj hints hlen hg rfl F X) (fun f s' hq => ?_) (fun _ _ hq => hq)
    obtain ⟨rfl, h2, h3, h4⟩ := hq
    exact ⟨.inl ⟨.bool true, .bool true, [], rfl, fun _ => rfl, .bool true, post_true l _, fun _ => ⟨List.Pairwise.nil, fun _ hm => (nomatch hm)⟩⟩, h2, h3, h4⟩

/-- the same from a codeAny of the CALL (for a layer whose function contracts speak of calls) -/
theorem attach_call {l : OpenLaw} {n : Nat} {q : Program} {loose : List Str} {XP : (Str → Option Value) → Heap → Prop} {YP : World → Heap → Prop} {d : DefRec}
    (hn : l.most = some n) (hdf : d.params.defaults = [])
    (call : ∀ (w : World) (s₀ s₁ : Shared) (mg mb : Str → Option Value) (fa : Addr) (o : Obj) (pm cd doc : Value) (a : Addr) (vs : List Value) (ns : List Int),
      Ground q loose [] XP w s₀ mg mb s₁.heap → YP w s₁.heap →
      s₁.heap.get? fa = some o → o.data = .func (docDef d.name d.params d.body d.scope pm cd doc) → s₁.heap.CodeRec cd d.name → mg d.name = some (.ref fa) →
      s₁.heap.get? a = some { cls := .type "list", data := .seq vs.toArray } → IntsAre vs ns → ns.length ≤ n → s₁.gens = #[] →
      codeAny (model l.prog w) callerA (.call (.ref fa) ⟨[.ref a], []⟩) (fun r s' => r = .ok (.ret (.bool true)) ∧ OldK s₁.heap s'.heap ∧ s'.os = s₁.os ∧ AllBare s'.gens) s₁) :
    WalkO q loose XP YP l.row.toRowW d [] (fun f vs => PySem.call f vs) := by
  intro w s₀ s₁ mg mb G Y fa o pm cd doc dV kV ho hd hcd hD hmg hg args vals as hpre hlay hrd hwl hlo
  obtain rfl : dV = .none := Dflts.none hD hdf
  obtain rfl : kV = .none := Dflts.noKw hD
  obtain ⟨a, vs, ns, rfl, rfl, hobj, hints, hlen⟩ := script_of hn hpre hwl
  refine enter_call (codeAny_mono (call w s₀ s₁ mg mb fa o pm cd doc a vs ns G Y ho (fd_plain hd) hcd hmg hobj hints hlen hg) fun r s' hq => ?_)
  obtain ⟨rfl, h2, h3, h4⟩ := hq
  exact ⟨.inl ⟨.bool true, .bool true, [], rfl, fun _ => rfl, .bool true, post_true l _, fun _ => ⟨List.Pairwise.nil, fun _ hm => (nomatch hm)⟩⟩, h2, h3, h4⟩

/-- the same where the top left finished generators (o_head chose holds_openN): nothing may have changed at all and no generator may be left -/
theorem attachN {l : OpenLaw} {n : Nat} {q : Program} {loose : List Str} {XP : (Str → Option Value) → Heap → Prop} {YP : World → Heap → Prop} {d : DefRec} {x : Str}
    (hn : l.most = some n) (hdf : d.params.defaults = [])
    (hbind : ∀ pm cd doc v : Value, bindArgs (docDef d.name d.params d.body d.scope pm cd doc) ⟨[v], []⟩ = pure [(x, v)])
    (hx : d.scope.names.lookup x = some .local ∨ d.scope.names.lookup x = some .cell)
    (hk : d.scope.kind = .function) (hco : d.scope.isCoroutine = false) (hgen : d.scope.isGenerator = false)
    (body : ∀ (w : World) (s₀ s₁ s : Shared) (mg mb : Str → Option Value) (fa : Addr) (o : Obj) (pm cd doc : Value) (a : Addr) (vs : List Value) (ns : List Int),
      Ground q loose [] XP w s₀ mg mb s₁.heap → YP w s₁.heap →
      s₁.heap.get? fa = some o → o.data = .func (docDef d.name d.params d.body d.scope pm cd doc) → s₁.heap.CodeRec cd d.name → mg d.name = some (.ref fa) →
      s₁.heap.get? a = some { cls := .type "list", data := .seq vs.toArray } → IntsAre vs ns → ns.length ≤ n →
      s.gens = #[] → s.os = s₁.os →
      Fr s₁.heap s₁.heap.objs.size s.heap (bindL (envOfC d.name d.scope s₁.heap.objs.size fa cd).kindOf [(x, .ref a)] fun _ => none) →
      Cl s₁.heap.objs.size (cellsFrom (s₁.heap.objs.size + 1) d.scope.names []) s.heap (bindC (envOfC d.name d.scope s₁.heap.objs.size fa cd).kindOf [(x, .ref a)] fun _ => none) →
      wpAny (model l.prog w) (callerA.deeper (envOfC d.name d.scope s₁.heap.objs.size fa cd)) (execs d.body (envOfC d.name d.scope s₁.heap.objs.size fa cd))
        (fun f s' => f = .ret (.bool true) ∧ (∀ b o, s₁.heap.get? b = some o → s'.heap.get? b = some o) ∧ s'.os = s₁.os ∧ s'.gens = #[]) (fun _ _ => False) s) :
    WalkN q loose XP YP l.row.toRowW d [] (fun f vs => PySem.call f vs) := by
  intro w s₀ s₁ mg mb G Y fa o pm cd doc dV kV ho hd hcd hD hmg hg args vals as hpre hlay hrd hwl hlo
  obtain rfl : dV = .none := Dflts.none hD hdf
  obtain rfl : kV = .none := Dflts.noKw hD
  obtain ⟨a, vs, ns, rfl, rfl, hobj, hints, hlen⟩ := script_of hn hpre hwl
  refine enter_callW ?_
  refine call_cells_ret (o := o) (by rw [depth_caller]; decide) ho (fd_plain hd) G.T.nolimit hcd (hbind pm cd doc (.ref a)) (fun y hy => ?_) (fun h₁ tk F X => ?_) hco hgen hk
  · obtain rfl : y = (x, Value.ref a) := List.mem_singleton.mp hy
    rcases hx with e | e
    · exact .inl e
    · exact .inr ⟨e, cellsFrom_some _ _ _ (.inl e)⟩
  · refine wpAny_mono (body w s₀ s₁ { s₁ with heap := h₁, toks := tk } mg mb fa o pm cd doc a vs ns G Y ho (fd_plain hd) hcd hmg hobj hints hlen hg rfl F X) (fun f s' hq => ?_) (fun _ _ hq => hq)
    obtain ⟨rfl, h2, h3, h4⟩ := hq
    exact ⟨.inl ⟨.bool true, .bool true, [], rfl, fun _ => rfl, .bool true, post_true l _, fun _ => ⟨List.Pairwise.nil, fun _ hm => (nomatch hm)⟩⟩, h2, h3, h4⟩

/-! ### rules over ANY heap (no ledger) from facts about the written part K: the library's own take a ledger (News) for what they write -/
section
variable {prog : Program} {w : World} {A : Around} {E : Value → Shared → Prop} {s : Shared} {K : Frag}

/-- a def of the module, or a method (qual 'C.m'), entered: the frame is the next address; cells behind it -/
theorem call_fn {R : Result → Shared → Prop} {name qual : Str} {params : Arguments} {body : List Stmt} {scope : Scope} {dV kV doc pm cdv ct oc : Value} {an od : Option Addr} {osl : Array (Option Value)} {f : Addr} {args : Args} {binds : List (Str × Value)}
    (X : K.In s.heap) (hlim : s.heap.NoLimit) (ho : K.lookup f = some ⟨oc, od, .func (fnOf name qual params body scope dV kV doc pm an cdv ct), osl⟩) (hcd : codeIn K cdv qual = true) (hroom : A.depth < recursionLimit)
    (hbind : BindsTo s (fnOf name qual params body scope dV kV doc pm an cdv ct) args binds)
    (hkind : (binds.all fun y => scope.names.lookup y.1 == some .local || scope.names.lookup y.1 == some .cell) = true)
    (h : ∀ s₁, InCallC s s.heap.objs.size (bindL (envOfC qual scope s.heap.objs.size f cdv).kindOf binds fun _ => none) (cellsFrom (s.heap.objs.size + 1) scope.names [])
        (bindC (envOfC qual scope s.heap.objs.size f cdv).kindOf binds fun _ => none) s₁ →
      wpAny (model prog w) (A.deeper (envOfC qual scope s.heap.objs.size f cdv)) (execs body (envOfC qual scope s.heap.objs.size f cdv))
        (fun fl s' => R (.ok (.ret (match fl with | .ret v => v | _ => .none))) s')
        (fun e s' => wpAny (model prog w) (A.deeper (envOfC qual scope s.heap.objs.size f cdv)) (leaving (envOfC qual scope s.heap.objs.size f cdv) e) (fun _ s'' => R (.error e) s'') (fun e' s'' => R (.error e') s'') s') s₁)
    (hco : scope.isCoroutine = false) (hgen : scope.isGenerator = false) (hk : scope.kind = .function) : codeAny (model prog w) A (.call (.ref f) args) R s := by
  refine codeAny_call_function hroom (X _ _ ho) rfl hco hgen rfl (codeRec_of X hcd) (hbind _ _ _ _ ?_)
  refine wpAny_newFunctionEnv_cells hk (kindsX hkind _) fun env he s₁ x => ?_
  subst he
  exact ⟨hlim.keeps x.toInCall.keep, codeAny_func (h s₁ x)⟩

/-- C(..): dict at size, instance at size + 1, then __init__ -/
theorem make_obj {R : Result → Shared → Prop} {C fI : Addr} {rest : List Value} {kw : List (Str × Value)}
    (X : K.In s.heap) (hm : makesIn K C = true) (hi : findIn K (.ref C) "__init__" = some (some (.ref fI))) (hf : isFn K (.ref fI) = true)
    (h : codeAny (model prog w) (A.under (.builtin "type.__call__" ⟨.ref C :: rest, kw⟩)) (.call (.ref fI) ⟨.ref (s.heap.objs.size + 1) :: rest, kw⟩) (InitBack (s.heap.objs.size + 1) R)
      { s with heap := (s.heap.push emptyDict).push (instObj C s.heap.objs.size) }) : codeAny (model prog w) A (.call (.ref C) ⟨rest, kw⟩) R s := by
  obtain ⟨hh, g, d, t, os⟩ := s
  exact make_core (makes_of X hm) (looks_findIn X hi) (fun self => bind_fn X self (beq_iff_eq.mp hf)) (.inl rfl) h

/-- x.name where the instance's dict holds the name and the class does not -/
theorem get_field {x C : Addr} {ox : Obj} {es : List DictEntry} {n : Nat} {name : Str} {expr : Bool} {v : Value} {Q : Value → Shared → Prop}
    (X : K.In s.heap) (I : PySem.W.InstAt s.heap x ox C (some (dictOf es n))) (hg : plainGet K C name = true) (hh : hasDictIn K C = true) (ha : findIn K (.ref C) name = some none)
    (hl : getL name es = some (some v)) (hv : handedIn v = true) (h : Q v { s with toks := s.toks + 1 }) : wpAny (model prog w) A (getAttr (.ref x) name expr) Q E s :=
  get_value X I (plainGet_of hg).1 (findObj_own hh ha rfl hl) hv h

/-- x.m(..): the method found in the class -/
theorem get_method {x C f : Addr} {ox : Obj} {es : List DictEntry} {n : Nat} {name : Str} {pl : Sem Bool} {Q : Value × List Value → Shared → Prop}
    (X : K.In s.heap) (I : PySem.W.InstAt s.heap x ox C (some (dictOf es n))) (hg : plainGet K C name = true) (hf : findIn K (.ref C) name = some (some (.ref f))) (ht : isFn K (.ref f) = true)
    (hl : getL name es = some none) (h : Q (.ref f, [.ref x]) s) : wpAny (model prog w) A (getMethod (.ref x) name pl) Q E s :=
  method_fn X I (plainGet_of hg).1 (plainGet_of hg).2 hf (beq_iff_eq.mp ht) (by show (lookIn name (dictOf es n)).map _ = _; rw [lookIn_dict, hl]; rfl) h

/-! the whole heap as the ledger: makes every rule that writes through a ledger a rule over any heap -/
def noObjs (h : Heap) : Heap := { h with objs := #[] }
theorem noObjs_get (h : Heap) (b : Addr) : (noObjs h).get? b = none := by
  cases e : (noObjs h).get? b with
  | none => rfl
  | some o => exact absurd (Heap.lt_size e) (Nat.not_lt_zero _)
def ledger (h : Heap) (L d : Addr) : List (Addr × Obj) := (List.range h.objs.size).filterMap fun a => if a = L ∨ a = d then none else (h.get? a).map fun o => (a, o)
theorem mem_ledger {h : Heap} {L d a : Addr} {o : Obj} : (a, o) ∈ ledger h L d ↔ a ≠ L ∧ a ≠ d ∧ h.get? a = some o := by
  unfold ledger
  rw [List.mem_filterMap]
  constructor
  · rintro ⟨b, _, e⟩
    split at e
    · cases e
    · rename_i hb
      obtain ⟨o', ho, e'⟩ := Option.map_eq_some_iff.mp e
      cases e'
      exact ⟨fun q => hb (.inl q), fun q => hb (.inr q), ho⟩
  · rintro ⟨n1, n2, ho⟩
    refine ⟨a, List.mem_range.mpr (Heap.lt_size ho), ?_⟩
    rw [if_neg (show ¬ (a = L ∨ a = d) from fun q => q.elim n1 n2), ho] <;> rfl
theorem news_ledger {h : Heap} {L d : Addr} {od : Obj} (hne : d ≠ L) (ho : h.get? d = some od) : News (noObjs h) L h ([] ++ (d, od) :: ledger h L d) := by
  rintro ⟨a, o⟩ hp
  rcases List.mem_cons.mp hp with e | hp
  · cases e
    exact ⟨ho, hne, noObjs_get _ _⟩
  · obtain ⟨n1, n2, e⟩ := mem_ledger.mp hp
    exact ⟨e, n1, noObjs_get _ _⟩
theorem fr_all {h : Heap} {L : Addr} {m : Str → Option Value} (n : h.Ns L m) : Fr (noObjs h) L h m :=
  ⟨n, fun b o e => (by rw [noObjs_get] at e; cases e), Nat.zero_le _⟩
/-- Upd of the head entry (for append_K, setItem_K ..) -/
theorem upd_ledger {h : Heap} {L d : Addr} {o o' : Obj} : Upd d o o' ((d, o) :: ledger h L d) ((d, o') :: ledger h L d) :=
  .head fun ⟨_, _⟩ hp => (mem_ledger.mp hp).2.1

/-- x.name = v over any heap: L is any namespace of the heap (the frame's, say): its map stays, its object is not told; all else but the dict stays -/
theorem set_field {x C dx L : Addr} {ox : Obj} {m : Str → Option Value} {es es' : List DictEntry} {n n' : Nat} {name : Str} {v : Value} {Q : Unit → Shared → Prop}
    (X : K.In s.heap) (I : PySem.W.InstAt s.heap x ox C (some (dictOf es n))) (hd : ox.dict = some dx) (hL : s.heap.Ns L m) (hne : dx ≠ L)
    (hs : findIn K (.ref C) "__setattr__" = some (some (.builtin "object.__setattr__"))) (hp : plainOver K C = true) (ht : takerIn K C name = some none) (hh : hasDictIn K C = true) (hl : (getL name es).isSome = true)
    (e : (putL name (PyData.keyHash w.params name) (.str name (s.toks + 1)) v es, putN name es n) = (es', n')) (hz : es'.length ≤ 1000)
    (h : ∀ h' : Heap, h'.Ns L m → h'.get? dx = some (dictOf es' n') → (∀ b o, b ≠ dx → b ≠ L → s.heap.get? b = some o → h'.get? b = some o) → Q () { s with heap := h', toks := s.toks + 2 }) :
    wpAny (model prog w) A (setAttr (.ref x) name v) Q E s := by
  obtain ⟨e1, e2⟩ := Prod.mk.inj e
  have hdx : s.heap.get? dx = some (dictOf es n) := by
    have := I.dict
    rw [hd] at this
    exact this
  refine set_plain X I hs (osa_dict (s := { s with toks := s.toks + 1 }) (h₀ := noObjs s.heap) (L := L) (m := m) (od := dictOf es n) (od' := dictOf es' n') (es := es') (n := n') (pre := []) (post := ledger s.heap L dx)
    (fr_all hL) (news_ledger hne hdx) X I hd hp ht hh hl (fun _ q => nomatch q) (fun ⟨_, _⟩ q => (mem_ledger.mp q).2.1) (by rw [putName_dict, e1, e2]) rfl hz fun h' F' N' => ?_)
  exact h h' F'.ns (N'.get (List.Mem.head _)) fun b o n1 n2 ho => N'.get (List.Mem.tail _ (mem_ledger.mpr ⟨n2, n1, ho⟩))
end
end Att

namespace L2
open PySem PySem.Spec PyProof.Rows

theorem vals_ints : ∀ {vs : List Value} {ns : List Int}, IntsAre vs ns → Vals (ns.map V.int) vs
  | _, _, .nil => .nil
  | _, _, .cons n t h => .cons ⟨t, rfl⟩ (vals_ints h)

/-- nothing is tracked but the script, known to the object (or it is an object of the module) -/
def Only (H : Hp) : Prop := ∀ b, H b = none ∨ ∃ o xs, H b = some (.frz o (.lst xs))

/-- THE HEAD: the law's promise, at the heap behind the top. F, the promise of the law's def, may use that base is part of the heap (so K.In base, base.Ns mainGlobals mg stand in Mod) -/
theorem law_call {P : Program} {w : World} {K : PySem.W.Frag} {mg mb : Str → Option Value} {CX : CXT} {k : Nat} {fa a : Addr} {fd : FuncData} {x : Str} {sp : Sp} {s₁ : Shared} {vs : List Value} {ns : List Int}
    (KX : K.In s₁.heap) (hns : s₁.heap.Ns mainGlobals mg) (hb : s₁.heap.Ns builtinsNs mb) (hbb : ∀ x : Str, x ≠ "__name__" → mb x = bootBuiltins x) (hlim : s₁.heap.NoLimit) (hg : s₁.gens = #[])
    (ha : s₁.heap.get? a = some { cls := .type "list", data := .seq vs.toArray }) (hi : IntsAre vs ns) (hl : ns.length ≤ sizeLine) (hr : Room k callerA)
    (F : ∀ base : Heap, K.In base → base.Ns mainGlobals mg → FnOk P w K mg base CX k fa fd [x] sp) (hbind : ∀ (s : Shared) (u : Value), BindsTo s fd ⟨[u], []⟩ [(x, u)])
    (hsp : ∀ H : Hp, Only H → SqL K H a (ns.map V.int) → sp [.ref a] H (fun v _ => v = .bl true) fun _ _ _ => False)
    (hCX : ∀ H e s', CX [] H s₁ (fun _ _ _ => False) e s' → False) :
    codeAny (model P w) callerA (.call (.ref fa) ⟨[.ref a], []⟩) (fun r s' => r = .ok (.ret (.bool true)) ∧ OldK s₁.heap s'.heap ∧ s'.os = s₁.os ∧ AllBare s'.gens) s₁ := by
  have rv := vals_ints hi
  have lenV := hi.length
  -- from an abstract heap in which nothing but the script may be tracked
  have core : ∀ H : Hp, Only H → SqL K H a (ns.map V.int) → HOk P w H s₁.heap → (∀ b, H b ≠ none → b = a) → (H a ≠ none → K.lookup a = none) →
      codeAny (model P w) callerA (.call (.ref fa) ⟨[.ref a], []⟩) (fun r s' => r = .ok (.ret (.bool true)) ∧ OldK s₁.heap s'.heap ∧ s'.os = s₁.os ∧ AllBare s'.gens) s₁ := by
    intro H hO hS hok hA hK
    have base_of : ∀ {b : Addr} {o : Obj}, s₁.heap.get? b = some o → H b = none → (hidT s₁.heap H).get? b = some o := fun e n => hidT_get e n
    have noA : ∀ {b : Addr} {o : Obj} {es : Array DictEntry} {ep : Nat}, s₁.heap.get? b = some o → o.data = .dict es ep → H b = none := fun {b o es ep} e d => by
      cases q : H b with
      | none => rfl
      | some u =>
        have e' : b = a := hA b (by rw [q]; simp)
        subst e'
        rw [ha] at e; cases e
        have d' : Data.seq vs.toArray _ = Data.dict es ep := d
        cases d'
    have nsK : ∀ {b : Addr} {m : Str → Option Value}, s₁.heap.Ns b m → (hidT s₁.heap H).Ns b m := fun {b m} ⟨o, es, ep, e, d, r⟩ => ⟨o, es, ep, base_of e (noA e d), d, r⟩
    have hKb : K.In (hidT s₁.heap H) := fun b o e => base_of (KX b o e) (by
      cases q : H b with
      | none => rfl
      | some u =>
        have e' : b = a := hA b (by rw [q]; simp)
        subst e'
        rw [hK (by rw [q]; simp)] at e; cases e)
    have hM : Mod K mg (hidT s₁.heap H) := ⟨hKb, nsK hns, ⟨mb, nsK hb, hbb⟩, let ⟨mc, h1, h2⟩ := hlim; ⟨mc, nsK h1, h2⟩⟩
    have e0 : Env0 P w K mg (hidT s₁.heap H) callerA [] s₁ H := ⟨rfl, hM, fun b o e => of_hidT e, Nat.le_of_eq (hidT_size _ _), trivial, fun b hb => absurd (show b ∈ ([] : List Addr) from hb) (by simp), hok, .of_eq hg⟩
    refine codeAny_mono ((F _ hKb (nsK hns)).run callerA [] s₁ H ⟨[.ref a], []⟩ [.ref a] [.ref a] _ _ hr e0 (hbind s₁ (.ref a)) (.cons rfl .nil) (hsp H hO hS)) fun r s' h => ?_
    cases r with
    | error e => exact (hCX H e s' h).elim
    | ok fl =>
      cases fl with
      | next => exact False.elim h
      | brk => exact False.elim h
      | cont => exact False.elim h
      | ret u =>
        obtain ⟨v, H', os, bare, un, hok', r', q⟩ := h
        have q' : v = .bl true := q
        subst q'
        obtain rfl : u = Value.bool true := r'
        refine ⟨rfl, OldK.of_keep fun b o e => ?_, os, bare⟩
        cases q : H b with
        | none => exact un.keep b o e q (by intro z; exact absurd (show b ∈ ([] : List Addr) from z) (by simp)) (by simp)
        | some u =>
          rcases hO b with z | ⟨ob, xs, z⟩
          · rw [q] at z; cases z
          · have z2 := un.frzs b ob _ z
            obtain ⟨e1, _⟩ := hok b _ z
            obtain ⟨e2, _⟩ := hok' b _ z2
            rw [e] at e1; cases e1
            exact e2
  cases hk : K.lookup a with
  | some o =>
    -- the script is one of the module's own objects
    have e := KX a o hk
    rw [ha] at e
    cases e
    refine core (fun _ => none) (fun _ => .inl rfl) (.inr ⟨_, vs.toArray, _, hk, rfl, rfl, rfl, by rw [List.size_toArray, lenV]; exact hl, by simpa using rv⟩) (fun b u z => by have z' : (none : Option HO) = some u := z; cases z') (fun b z => absurd rfl z) fun z => absurd rfl z
  | none =>
    refine core (fun b => if b = a then some (.frz { cls := .type "list", data := .seq vs.toArray } (.lst (ns.map V.int))) else none) (fun b => ?_) (.inl (.inr ⟨{ cls := .type "list", data := .seq vs.toArray }, if_pos rfl⟩)) (fun b u z => ?_) (fun b z => ?_) fun _ => hk
    · by_cases hb : b = a
      · exact .inr ⟨_, _, if_pos hb⟩
      · exact .inl (if_neg hb)
    · by_cases hb : b = a
      · have z' := (if_pos hb).symm.trans z
        cases z'
        subst hb
        exact ⟨ha, by rw [List.length_map]; exact hl, vs, _, rv, ha⟩
      · have z' := (if_neg hb).symm.trans z
        cases z'
    · by_cases hb : b = a
      · exact hb
      · exact absurd (if_neg hb) z
end L2

namespace L2
open PySem PySem.Spec PyProof.Rows

abbrev KOf {K : PySem.W.Frag} {h : Heap} (_ : K.In h) : PySem.W.Frag := K

/-- the goal that k_head leaves (case hc), from the law's promise. F gives the function object fd (K's own) once, then the promise over every base -/
theorem walk_of {l : PySem.W.OpenLaw} {n k : Nat} {q : Program} {loose : List Str} {XP : (Str → Option Value) → Heap → Prop} {YP : World → Heap → Prop} {d : DefRec} {K : Params → PySem.W.Frag} {CX : World → CXT} {sp : World → Sp} {x : Str}
    (hn : l.most = some n) (hn2 : n ≤ sizeLine) (hdf : d.params.defaults = []) (hr : Room k callerA)
    (hY : ∀ (w : World) (h : Heap), YP w h → (K w.params).In h)
    (F : ∀ (w : World) (mg : Str → Option Value) (fa : Addr) (h : Heap), (K w.params).In h → h.Ns mainGlobals mg → mg d.name = some (.ref fa) →
      ∃ fd : FuncData, (∀ (s : Shared) (u : Value), BindsTo s fd ⟨[u], []⟩ [(x, u)]) ∧
        ∀ base : Heap, (K w.params).In base → base.Ns mainGlobals mg → FnOk l.prog w (K w.params) mg base (CX w) k fa fd [x] (sp w))
    (hsp : ∀ (w : World) (H : Hp) (a : Addr) (ns : List Int), ns.length ≤ n → Only H → SqL (K w.params) H a (ns.map V.int) → sp w [.ref a] H (fun v _ => v = .bl true) fun _ _ _ => False)
    (hCX : ∀ (w : World) (H : Hp) (s : Shared) (e : Value) (s' : Shared), CX w [] H s (fun _ _ _ => False) e s' → False) :
    PySem.W.WalkO q loose XP YP l.row.toRowW d [] (fun f vs => PySem.call f vs) := by
  refine Att.attach_call hn hdf fun w s₀ s₁ mg mb fa o pm cd doc a vs ns G Y ho hd hcd hmg hobj hints hlen hg => ?_
  have KX := hY w _ Y
  obtain ⟨fd, hb, hF⟩ := F w mg fa _ KX G.T.g hmg
  exact law_call KX G.T.g G.T.b G.T.builtins G.T.nolimit hg hobj hints (Nat.le_trans hlen hn2) hr hF hb (fun H hO hS => hsp w H a ns hlen hO hS) fun H e s' => hCX w H s₁ e s'
/-- the same where the promise hangs on the written part alone: (sp := My.sp_law), no hole under a binder -/
theorem walk_ofK {l : PySem.W.OpenLaw} {n k : Nat} {q : Program} {loose : List Str} {XP : (Str → Option Value) → Heap → Prop} {YP : World → Heap → Prop} {d : DefRec} {K : Params → PySem.W.Frag} {CX : CXT} {sp : PySem.W.Frag → Sp} {x : Str}
    (hn : l.most = some n) (hn2 : n ≤ sizeLine) (hdf : d.params.defaults = []) (hr : Room k callerA)
    (hY : ∀ (w : World) (h : Heap), YP w h → (K w.params).In h)
    (F : ∀ (w : World) (mg : Str → Option Value) (fa : Addr) (h : Heap), (K w.params).In h → h.Ns mainGlobals mg → mg d.name = some (.ref fa) →
      ∃ fd : FuncData, (∀ (s : Shared) (u : Value), BindsTo s fd ⟨[u], []⟩ [(x, u)]) ∧
        ∀ base : Heap, (K w.params).In base → base.Ns mainGlobals mg → FnOk l.prog w (K w.params) mg base CX k fa fd [x] (sp (K w.params)))
    (hsp : ∀ (K : PySem.W.Frag) (H : Hp) (a : Addr) (ns : List Int), ns.length ≤ n → Only H → SqL K H a (ns.map V.int) → sp K [.ref a] H (fun v _ => v = .bl true) fun _ _ _ => False)
    (hCX : ∀ (H : Hp) (s : Shared) (e : Value) (s' : Shared), CX [] H s (fun _ _ _ => False) e s' → False) :
    PySem.W.WalkO q loose XP YP l.row.toRowW d [] (fun f vs => PySem.call f vs) :=
  walk_of (K := K) (CX := fun _ => CX) (sp := fun w => sp (K w.params)) hn hn2 hdf hr hY F (fun w H a ns h1 h2 h3 => hsp (K w.params) H a ns h1 h2 h3) fun _ H s e s' => hCX H s e s'
end L2

/- THE LAST THEOREM (shape; LID, My.* are yours):
   My.Adr: a structure of the addresses that your layer names (classes, functions); My.Txt K t: a structure (Prop) of the equations over K;
   My.txt_mk : {K} {implicit addresses ..} (e1 : nsIn K mainGlobals "law" = some (some (.ref f))) (e2 : K.lookup f = some ⟨oc, od, .func (fnOf "law" "law" params body scope dV kV doc pm an cdv ct), sl⟩) (e3 : codeIn K cdv "law" = true) .. : ∃ t, My.Txt K t

set_option maxRecDepth 100000 in
set_option maxHeartbeats 0 in
theorem PySem.Challenge.cw_LID_holds : PySem.Challenge.rw_LID.Holds := by
  w_on; o_law; k_head; (case hw => w_witness2)
  k_fill
  refine L2.walk_of (l := PySem.Challenge.rw_LID) (n := 63) (k := 40) (x := "script") (CX := fun w => ..) (sp := fun _ => My.sp_law) rfl (by decide) rfl ⟨rfl, by decide, by decide⟩ (fun w h Y => PySem.W.kIn_of Y) ?F ?S ?C
  case F =>
    intro w mg fa h KX G hmg
    have T : ∃ t, My.Txt (L2.KOf KX) t := by
      dsimp only [L2.KOf]                          -- K must stand as «<heap const> w.params» for k_is
      refine' My.txt_mk ?e1 ?e2 ?e3 ..
      (case e1 => PySem.W.k_is)                    -- in the order: a name -> its address -> its object -> its parts
      (case e2 => PySem.W.k_is)
      ..
    obtain ⟨t, T⟩ := T
    have e0 := hmg.symm.trans (PySem.W.mg_of KX G T.law)
    cases e0                                       -- fa is the law's own address
    exact ⟨_, fun s u => .of_eq rfl, fun base kb nb => My.law_fn T kb nb⟩     -- if «.of_eq rfl» comes too early: refine' ⟨_, ?b, fun base kb nb => My.law_fn T kb nb⟩; exact fun s u => .of_eq rfl
  case S => exact fun w H a ns hl hO hS => ..
  case C => exact ..
(the tactic k_is has no namespace: write k_is) -/

/-! SHORT WORDS over the layer: a def of the text, its body, what a loop and a test want. -/
namespace L2
open PySem PySem.Spec PyProof.Rows

/-! ### the text by places -/
/-- the j-th statement of a class's body -/
def inClass (s : Stmt) (j : Nat) : Stmt := match s with
  | .ClassDef _ _ _ body _ _ _ _ _ _ _ => body.getD j (.Pass ⟨0, 0, 0, 0⟩)
  | _ => .Pass ⟨0, 0, 0, 0⟩
def defArgs (s : Stmt) : Arguments := match s with
  | .FunctionDef _ a _ _ _ _ _ _ _ _ => a
  | _ => { posonlyargs := [], args := [], vararg := none, kwonlyargs := [], kw_defaults := [], kwarg := none, defaults := [] }
def defBody (s : Stmt) : List Stmt := match s with
  | .FunctionDef _ _ b _ _ _ _ _ _ _ => b
  | _ => []
def defScope (s : Stmt) : Scope := match s with
  | .FunctionDef _ _ _ _ _ _ sc _ _ _ => sc
  | _ => { kind := .function, names := [], isGenerator := false, isCoroutine := false }

/-! ### no exception leaves a def -/
abbrev CX0 : CXT := fun _ _ _ _ _ _ => False
abbrev E0 : XK := fun _ _ _ => False
theorem pass0 {X : Cx} : Passes CX0 X E0 := fun _ _ _ _ _ _ _ h => h.elim

/-! ### a def (or method) of the text as it stands behind the top -/
structure Fun (K : PySem.W.Frag) (x qual : Str) (st : Stmt) (f : Addr) (fd : FuncData) : Prop where
  ex : ∃ (oc : Value) (od : Option Addr) (kV doc pm : Value) (an : Option Addr) (cdv ct : Value) (osl : Array (Option Value)),
    fd = PySem.W.fnOf x qual (defArgs st) (defBody st) (defScope st) .none kV doc pm an cdv ct ∧ K.lookup f = some ⟨oc, od, .func fd, osl⟩ ∧ PySem.W.codeIn K cdv qual = true
  kp : PySem.W.keepIn K (.ref f) = true
section
variable {P : Program} {w : World} {K : PySem.W.Frag} {mg : Str → Option Value} {base : Heap}
/-- THE RULE for a def: its body as a term of rules, and the reading of that term -/
theorem Fun.ok {x qual : Str} {st : Stmt} {f : Addr} {fd : FuncData} {N ps : List Str} {k : Nat} {sp : Sp} (F : Fun K x qual st f fd) (S : FnScope N ps (defScope st)) (len : ∀ vs H Q E, sp vs H Q E → vs.length = ps.length)
    (hbody : ∀ (cdv : Value) (A : Around) (outer : List Env) (s : Shared) (H : Hp) (vs : List V) (Q : VK) (E : XK), Room k (A.deeper (envOfC qual (defScope st) s.heap.objs.size f cdv)) → sp vs H Q E →
      ∃ t, PSs (cxOf CX0 P w K mg base N qual (defScope st) f cdv A outer s H E).nox (defBody st) t ∧ t { nx := fun _ H' => Q .non H', rt := Q } (start N vs) H) : FnOk P w K mg base CX0 (k + 1) f fd ps sp := by
  obtain ⟨oc, od, kV, doc, pm, an, cdv, ct, osl, rfl, lk, hcd⟩ := F.ex
  refine fn_of lk hcd S len fun A outer s H vs Q E hr hsp => ?_
  obtain ⟨t, h, q⟩ := hbody cdv A outer s H vs Q E hr hsp
  exact ⟨t, h.nox, q⟩
/-- how its arguments bind (no defaults): h is «fun _ _ _ _ _ _ us hl => match us, hl with | [_, _], _ => rfl», one _ a parameter -/
theorem Fun.binds {x qual : Str} {st : Stmt} {f : Addr} {fd : FuncData} {ps : List Str} (F : Fun K x qual st f fd)
    (h : ∀ (kV doc pm : Value) (an : Option Addr) (cdv ct : Value) (us : List Value), us.length = ps.length → bindArgs (PySem.W.fnOf x qual (defArgs st) (defBody st) (defScope st) .none kV doc pm an cdv ct) ⟨us, []⟩ = pure (ps.zip us)) : Binds K fd ps [] := by
  obtain ⟨oc, od, kV, doc, pm, an, cdv, ct, osl, rfl, lk, hcd⟩ := F.ex
  exact .all (h kV doc pm an cdv ct)
theorem fun_mk {x qual : Str} {st : Stmt} {f : Addr} {oc : Value} {od an : Option Addr} {osl : Array (Option Value)} {kV doc pm cdv ct : Value} (l : K.lookup f = some ⟨oc, od, .func (PySem.W.fnOf x qual (defArgs st) (defBody st) (defScope st) .none kV doc pm an cdv ct), osl⟩)
    (c : PySem.W.codeIn K cdv qual = true) (k : PySem.W.keepIn K (.ref f) = true) : Fun K x qual st f (PySem.W.fnOf x qual (defArgs st) (defBody st) (defScope st) .none kV doc pm an cdv ct) := ⟨⟨oc, od, kV, doc, pm, an, cdv, ct, osl, rfl, l, c⟩, k⟩
end
theorem hu_of {A : Around} {k : Nat} (hr : Room k A) : A.units + 1 < cLine := Nat.lt_of_le_of_lt (Nat.add_le_add_left (by decide : 1 ≤ 64) _) hr.units
theorem small1000 {n : Nat} (h : n ≤ 1000) : n < sizeLine := Nat.lt_of_le_of_lt h (by decide)

/-! ### expressions in short: the name that stands in the i-th slot -/
section
variable {X : Cx}
theorem pv (i : Nat) {x : Str} {pos : Pos} (hN : X.N[i]? = some x := by rfl) (hv : Vis X.env.scope x := by first | exact Or.inl rfl | exact Or.inr (Or.inl rfl) | exact Or.inr (Or.inr rfl)) (hd : (x == ("__debug__" : Str)) = false := by decide)
    (hcd : (x == ("__classdict__" : Str)) = false := by decide) : PE X (.Name x pos) (tVar i) := pe_var hN hv hd hcd
end

/-! ### tests -/
theorem iteF {A B : Prop} (h : B) : if false = true then A else B := by
  rw [if_neg Bool.false_ne_true]
  exact h
theorem iteT {A B : Prop} (h : A) : if true = true then A else B := by
  rw [if_pos rfl]
  exact h
theorem ite2 {c A B : Prop} [Decidable c] (h1 : c → A) (h2 : ¬ c → B) : if c then A else B := by
  by_cases h : c
  · rw [if_pos h]
    exact h1 h
  · rw [if_neg h]
    exact h2 h
theorem iteNS {c A B : Prop} [Decidable c] (hc : c) (h : B) : if (!decide c) = true then A else B := by
  rw [decide_eq_true hc]
  exact iteF h

/-! ### heaps -/
/-- all that was tracked is as it was -/
def Same (H H' : Hp) : Prop := ∀ b o, H b = some o → H' b = some o
theorem Same.refl (H : Hp) : Same H H := fun _ _ h => h
theorem Same.trans {H H1 H2 : Hp} (a : Same H H1) (b : Same H1 H2) : Same H H2 := fun c o h => b c o (a c o h)
theorem Same.free {H H' : Hp} (e : Same H H') {l : Addr} (h : H' l = Option.none) : H l = Option.none := by
  cases q : H l with
  | none => rfl
  | some o =>
    rw [e l o q] at h
    cases h
theorem Same.seq {K : PySem.W.Frag} {H H' : Hp} {a : Addr} {xs : List V} (e : Same H H') (h : SqL K H a xs) : SqL K H' a xs := by
  rcases h with (h | ⟨o, h⟩) | h
  · exact .inl (.inl (e _ _ h))
  · exact .inl (.inr ⟨o, e _ _ h⟩)
  · exact .inr h

end L2

set_option Elab.async false
set_option linter.all false
set_option maxRecDepth 100000
set_option maxHeartbeats 4000000
namespace L2
open PySem PySem.Spec PyProof.Rows

/-! ### a comprehension's closure -/
def clOf (cells : List (Str × Addr)) : List (Str × NameKind) → List (Str × Addr) → List (Str × Addr)
  | [], cs => cs
  | x :: r, cs => clOf cells r (if x.2 = .free then ((cells.lookup x.1).map fun c => (x.1, c)).toList ++ cs else cs)

theorem closureFor_ok {scope : Scope} {env : Env} (h : ∀ x ∈ scope.names, x.2 = .free → ∃ c, env.cells.lookup x.1 = some c) :
    closureFor scope env = pure (clOf env.cells scope.names []) := by
  have key : ∀ (l : List (Str × NameKind)) (cs : List (Str × Addr)) (f : Str × NameKind → List (Str × Addr) → Sem (ForInStep (List (Str × Addr)))),
      (∀ x ∈ l, x.2 = .free → ∃ c, env.cells.lookup x.1 = some c) →
      (∀ x cs, f x cs = if (x.2 == NameKind.free) = true then (cellOf env x.1 >>= fun a => pure (ForInStep.yield ((x.1, a) :: cs))) else pure (ForInStep.yield cs)) →
      forIn l cs f = pure (clOf env.cells l cs) := by
    intro l
    induction l with
    | nil => intro cs f _ _; rfl
    | cons x r ih =>
      intro cs f hx hf
      rw [List.forIn_cons, hf]
      by_cases hk : x.2 = .free
      · obtain ⟨c, hc⟩ := hx x List.mem_cons_self hk
        rw [if_pos (by simp [hk])]
        have e : cellOf env x.1 = pure c := by unfold cellOf; rw [hc]
        rw [e]
        simp only [pure_bind]
        rw [ih _ f (fun y hy => hx y (List.mem_cons_of_mem _ hy)) hf]
        show _ = pure (clOf env.cells r (if x.2 = .free then ((env.cells.lookup x.1).map fun c => (x.1, c)).toList ++ cs else cs))
        rw [if_pos hk, hc]
        rfl
      · rw [if_neg (by simp [hk])]
        simp only [pure_bind]
        rw [ih _ f (fun y hy => hx y (List.mem_cons_of_mem _ hy)) hf]
        show _ = pure (clOf env.cells r (if x.2 = .free then ((env.cells.lookup x.1).map fun c => (x.1, c)).toList ++ cs else cs))
        rw [if_neg hk]
  simp only [closureFor]
  rw [key scope.names [] _ h (fun x cs => by obtain ⟨n, k⟩ := x; rfl)]
  first | rfl | simp only [pure_bind]

theorem clOf_in {cells : List (Str × Addr)} : ∀ (l : List (Str × NameKind)) (cs : List (Str × Addr)) {x : Str} {c : Addr}, (clOf cells l cs).lookup x = some c → cs.lookup x = some c ∨ cells.lookup x = some c
  | [], _, _, _, h => .inl h
  | y :: r, cs, x, c, h => by
    have h' : (clOf cells r (if y.2 = .free then ((cells.lookup y.1).map fun c => (y.1, c)).toList ++ cs else cs)).lookup x = some c := h
    rcases clOf_in r _ h' with q | q
    · by_cases hk : y.2 = .free
      · rw [if_pos hk] at q
        cases hl : cells.lookup y.1 with
        | none => rw [hl] at q; exact .inl q
        | some d =>
          rw [hl] at q
          have q' : (((y.1, d) :: cs).lookup x) = some c := q
          rw [List.lookup_cons] at q'
          cases hb : x == y.1 with
          | true =>
            rw [hb] at q'
            have e := eq_of_beq hb
            subst e
            right
            rw [hl]
            exact q'
          | false => rw [hb] at q'; exact .inl q'
      · rw [if_neg hk] at q
        exact .inl q
    · exact .inr q

theorem clOf_has {cells : List (Str × Addr)} : ∀ (l : List (Str × NameKind)) (cs : List (Str × Addr)) (x : Str), ((x, NameKind.free) ∈ l ∧ ∃ c, cells.lookup x = some c) ∨ (∃ c, cs.lookup x = some c) → ∃ c, (clOf cells l cs).lookup x = some c
  | [], cs, x, h => by
    rcases h with ⟨q, _⟩ | q
    · cases q
    · exact q
  | y :: r, cs, x, h => by
    show ∃ c, (clOf cells r (if y.2 = .free then ((cells.lookup y.1).map fun c => (y.1, c)).toList ++ cs else cs)).lookup x = some c
    apply clOf_has r
    rcases h with ⟨q, c, hc⟩ | ⟨c, hc⟩
    · rcases List.mem_cons.mp q with q | q
      · right
        subst q
        rw [if_pos rfl, hc]
        refine ⟨c, ?_⟩
        show ((x, c) :: cs).lookup x = some c
        rw [List.lookup_cons]
        simp
      · exact .inl ⟨q, c, hc⟩
    · right
      by_cases hk : y.2 = .free
      · rw [if_pos hk]
        cases hl : cells.lookup y.1 with
        | none => exact ⟨c, hc⟩
        | some d =>
          show ∃ c, ((y.1, d) :: cs).lookup x = some c
          rw [List.lookup_cons]
          cases hb : x == y.1 with
          | true => exact ⟨d, rfl⟩
          | false => exact ⟨c, hc⟩
      · rw [if_neg hk]; exact ⟨c, hc⟩

/-- a name of the relabelled scope comes of one of the scope -/
theorem relabel_of {env : Env} : ∀ {names : List (Str × NameKind)} {x : Str} {k' : NameKind},
    (names.map fun (n, k) => if (k == NameKind.free && env.scope.kind == .function && env.kindOf n == some .cell) then (n, NameKind.cell) else (n, k)).lookup x = some k' →
    ∃ k, (x, k) ∈ names ∧ (k = k' ∨ (k = .free ∧ k' = .cell))
  | [], _, _, h => by simp at h
  | (n, k) :: r, x, k', h => by
    have ih := @relabel_of env r x k'
    have h' : List.lookup x ((if (k == NameKind.free && env.scope.kind == .function && env.kindOf n == some .cell) = true then (n, NameKind.cell) else (n, k)) :: _) = some k' := h
    by_cases hc : (k == NameKind.free && env.scope.kind == .function && env.kindOf n == some .cell) = true
    · rw [if_pos hc, List.lookup_cons] at h'
      cases hb : x == n with
      | true =>
        rw [hb] at h'
        have e := eq_of_beq hb
        subst e
        cases h'
        refine ⟨k, List.mem_cons_self, .inr ⟨?_, rfl⟩⟩
        simp only [Bool.and_eq_true] at hc
        exact eq_of_beq hc.1.1
      | false =>
        rw [hb] at h'
        obtain ⟨k2, q, z⟩ := ih h'
        exact ⟨k2, List.mem_cons_of_mem _ q, z⟩
    · rw [if_neg hc, List.lookup_cons] at h'
      cases hb : x == n with
      | true =>
        rw [hb] at h'
        have e := eq_of_beq hb
        subst e
        cases h'
        exact ⟨k, List.mem_cons_self, .inl rfl⟩
      | false =>
        rw [hb] at h'
        obtain ⟨k2, q, z⟩ := ih h'
        exact ⟨k2, List.mem_cons_of_mem _ q, z⟩

theorem relabel_free {env : Env} : ∀ {names : List (Str × NameKind)} {x : Str}, names.lookup x = some .free →
    (names.map fun (n, k) => if (k == NameKind.free && env.scope.kind == .function && env.kindOf n == some .cell) then (n, NameKind.cell) else (n, k)).lookup x = some .cell ∨
    (names.map fun (n, k) => if (k == NameKind.free && env.scope.kind == .function && env.kindOf n == some .cell) then (n, NameKind.cell) else (n, k)).lookup x = some .free
  | [], _, h => by simp at h
  | (n, k) :: r, x, h => by
    have ih := @relabel_free env r x
    show List.lookup x ((if (k == NameKind.free && env.scope.kind == .function && env.kindOf n == some .cell) = true then (n, NameKind.cell) else (n, k)) :: _) = some .cell ∨
      List.lookup x ((if (k == NameKind.free && env.scope.kind == .function && env.kindOf n == some .cell) = true then (n, NameKind.cell) else (n, k)) :: _) = some .free
    rw [List.lookup_cons] at h
    by_cases hc : (k == NameKind.free && env.scope.kind == .function && env.kindOf n == some .cell) = true
    · rw [if_pos hc]
      simp only [List.lookup_cons]
      cases hb : x == n with
      | true => exact .inl rfl
      | false => rw [hb] at h; exact ih h
    · rw [if_neg hc]
      simp only [List.lookup_cons]
      cases hb : x == n with
      | true => rw [hb] at h; exact .inr h
      | false => rw [hb] at h; exact ih h

/-! ### the context of a comprehension's block -/
def Cx.comp (X : Cx) (N : List Str) (scope : Scope) (cl : List (Str × Addr)) (C : Addr) (fp : List Addr) (s : Shared) (H : Hp) : Cx :=
  { prog := X.prog, w := X.w, K := X.K, mg := X.mg, base := X.base, A := X.A, N := N, s₀ := s, H₀ := H, env := compEnvC scope cl C X.env, outer := X.stack, stack := X.stack, ex := fp, fn := fun _ => false,
    calm := X.calm, pn := [], xe := fun _ _ => False }

def inner (js : List (Option Nat)) (σ : St) : St := js.map fun o => match o with
  | none => none
  | some j => (σ[j]?).getD none

def jsOk (N : List Str) (scope : Scope) : List Str → List (Option Nat) → Bool
  | [], [] => true
  | x :: r, o :: q => (match o with | none => true | some j => N[j]? == some x && scope.names.lookup x == some .free) && jsOk N scope r q
  | _, _ => false

theorem jsOk_len {N : List Str} {scope : Scope} : ∀ {N' : List Str} {js : List (Option Nat)}, jsOk N scope N' js = true → js.length = N'.length
  | [], [], _ => rfl
  | _ :: r, _ :: q, h => by
    have h' := (Bool.and_eq_true_iff.mp h).2
    rw [List.length_cons, List.length_cons, jsOk_len h']
theorem jsOk_at {N : List Str} {scope : Scope} : ∀ {N' : List Str} {js : List (Option Nat)} {i : Nat} {x : Str} {j : Nat}, jsOk N scope N' js = true → N'[i]? = some x → js[i]? = some (some j) → N[j]? = some x ∧ scope.names.lookup x = some .free
  | [], [], _, _, _, _, h, _ => by simp at h
  | y :: r, o :: q, 0, x, j, h, h1, h2 => by
    have h' := (Bool.and_eq_true_iff.mp h).1
    simp at h1 h2
    subst h1 h2
    have h'' := Bool.and_eq_true_iff.mp h'
    exact ⟨eq_of_beq h''.1, eq_of_beq h''.2⟩
  | y :: r, o :: q, i + 1, x, j, h, h1, h2 => by
    have h' := (Bool.and_eq_true_iff.mp h).2
    exact jsOk_at (i := i) h' (by simpa using h1) (by simpa using h2)

theorem inner_at {js : List (Option Nat)} {σ : St} {i : Nat} {v : V} (h : (inner js σ)[i]? = some (some v)) : ∃ j, js[i]? = some (some j) ∧ σ[j]? = some (some v) := by
  unfold inner at h
  rw [List.getElem?_map] at h
  cases e : js[i]? with
  | none => rw [e] at h; cases h
  | some o =>
    rw [e] at h
    cases o with
    | none => cases h
    | some j =>
      refine ⟨j, rfl, ?_⟩
      have h' : (σ[j]?).getD none = some v := by simpa using h
      cases q : σ[j]? with
      | none => rw [q] at h'; cases h'
      | some z => rw [q] at h'; simp at h'; rw [h']

/-- the slots that were filled are filled alike -/
structure Fills (σ σ' : St) : Prop where
  len : σ.length = σ'.length
  at_ : ∀ (i : Nat) v, σ[i]? = some (some v) → σ'[i]? = some (some v)
theorem Fills.refl (σ : St) : Fills σ σ := ⟨rfl, fun _ _ h => h⟩
theorem Fills.set {σ σ' : St} (f : Fills σ σ') {i : Nat} (x : V) (h : σ[i]? = some none) : Fills σ (σ'.set i (some x)) := by
  refine ⟨by rw [List.length_set]; exact f.len, fun j v q => ?_⟩
  by_cases e : i = j
  · subst e; rw [h] at q; cases q
  · rw [List.getElem?_set_ne e]; exact f.at_ j v q

section
variable {X : Cx} {pins : List (Addr × Obj)} {σ : St} {H : Hp} {s : Shared}

theorem comp_inv {N' : List Str} {js : List (Option Nat)} {scope : Scope} {fp : List Addr} {m : Str → Option Value} {h1 : Heap} {tk : Nat} (I : Inv X pins σ H s)
    (hk : scope.kind = .function) (hcell : ∀ y ∈ scope.names, y.2 ≠ .cell) (hfree : ∀ y ∈ scope.names, y.2 = .free → X.env.kindOf y.1 = some .cell ∨ X.env.kindOf y.1 = some .free) (hjs : jsOk X.N scope N' js = true)
    (fpok : ∀ b ∈ fp, FpOk X pins H b) (fpl : ∀ b ∈ fp, b < s.heap.objs.size) (hns : h1.Ns s.heap.objs.size m) (hsb : ∀ b o, s.heap.get? b = some o → h1.get? b = some o) :
    Inv (X.comp N' scope (clOf X.env.cells scope.names []) s.heap.objs.size fp s H) [] (inner js σ) H { s with heap := h1, toks := tk } := by
  have incl : ∀ {x c}, (clOf X.env.cells scope.names []).lookup x = some c → X.env.cells.lookup x = some c := fun {x c} q => by
    rcases clOf_in _ _ q with z | z
    · simp at z
    · exact z
  have inn : ∀ {x : Str}, (x, NameKind.free) ∈ scope.names → ∃ c, (clOf X.env.cells scope.names []).lookup x = some c := fun {x} q => clOf_has _ _ _ (.inl ⟨q, I.ok.has x (hfree _ q rfl)⟩)
  have fnot : ∀ b ∈ fp, b ∉ frs X.stack := fun b hb z => (List.mem_cons.mp (I.stkSub b z)).elim (fpok b hb).2.1 (fpok b hb).2.2.1
  refine ⟨⟨I.ok.mod, ?_, I.ok.glob, I.ok.blt, Nat.le_refl _, ?_, ?_, ?_, I.ok.hd, I.ok.frames, .inl rfl, ?_, I.bs, Nat.le_trans I.ok.bsz I.sz, ?_, fnot, I.stack, I.stkFree⟩, rfl, I.bare, Un.kept hsb, ⟨m, hns, ?_⟩, ?_, I.fresh, ?_, ?_, I.hok.kept hsb, ?_⟩
  · exact hk
  · intro x y c e1 e2
    exact I.ok.inj x y c (incl e1) (incl e2)
  · intro x h
    have q : ∃ k, (x, k) ∈ scope.names ∧ k = .free := by
      rcases h with h | h
      · obtain ⟨k, q1, q2⟩ := relabel_of (env := X.env) h
        rcases q2 with rfl | ⟨q2, _⟩
        · exact absurd rfl (hcell _ q1)
        · exact ⟨k, q1, q2⟩
      · obtain ⟨k, q1, q2⟩ := relabel_of (env := X.env) h
        rcases q2 with rfl | ⟨_, q2⟩
        · exact ⟨_, q1, rfl⟩
        · cases q2
    obtain ⟨k, q1, rfl⟩ := q
    exact inn q1
  · intro x c h _
    cases h
  · intro b hb
    exact ⟨Nat.ne_of_lt (fpl b hb), fun x c e => (fpok b hb).2.2.2.2.1 x c (incl e)⟩
  · intro b o e hb
    rcases (fpok b hb).2.2.2.1 with z | z
    · exact I.ok.noex b o e z
    · exact absurd (Nat.lt_of_lt_of_le (Heap.lt_size e) (Nat.le_trans I.ok.bsz z)) (Nat.lt_irrefl _)
  · intro i x v e1 e2 _
    obtain ⟨j, q1, q2⟩ := inner_at e2
    obtain ⟨q3, q4⟩ := jsOk_at hjs e1 q1
    have q5 : (x, NameKind.free) ∈ scope.names := by
      have : ∀ {l : List (Str × NameKind)}, l.lookup x = some .free → (x, NameKind.free) ∈ l := by
        intro l
        induction l with
        | nil => intro z; simp at z
        | cons y r ih =>
          intro z
          obtain ⟨n, k⟩ := y
          rw [List.lookup_cons] at z
          cases hb : x == n with
          | true => rw [hb] at z; have e := eq_of_beq hb; subst e; cases z; exact List.mem_cons_self
          | false => rw [hb] at z; exact List.mem_cons_of_mem _ (ih z)
      exact this q4
    have kf := hfree _ q5 rfl
    obtain ⟨m0, hn0, hl0⟩ := id I.loc
    obtain ⟨u, r, lk⟩ := hl0 j x v q3 q2 (kf.elim (fun z => .inr (.inl z)) fun z => .inr (.inr z))
    refine ⟨u, r, ?_⟩
    rcases lk with ⟨z, _⟩ | ⟨_, c, hc, o, ho, hd⟩
    · rcases kf with k | k
      · rw [k] at z; cases z
      · rw [k] at z; cases z
    · obtain ⟨c', hc'⟩ := inn q5
      have e := incl hc'
      rw [hc] at e; cases e
      exact .inr ⟨relabel_free q4, c, hc', o, hsb _ _ ho, hd⟩
  · intro x c e
    obtain ⟨v, o, ho, hd⟩ := I.cell x c (incl e)
    exact ⟨v, o, hsb _ _ ho, hd⟩
  · intro x c e
    exact I.freeC x c (incl e)
  · intro p hp
    cases hp
  · show (inner js σ).length = N'.length
    unfold inner
    rw [List.length_map]
    exact jsOk_len hjs

/-- the tests of a comprehension -/
def PF (X : Cx) (ifs : List Expr) (t : TT) : Prop :=
  ∀ (pins : List (Addr × Obj)) (s : Shared) (σ : St) (H : Hp) (Q : Bool → Hp → Prop), Inv X pins σ H s → t σ H Q →
    wpAny (model X.prog X.w) X.A (forIn ifs true fun c r => if r = true then do let ok ← isTrue c X.env (eval c X.env); pure (ForInStep.yield ok) else pure (ForInStep.yield r)) (TP X pins σ Q) X.xe s
def tTrue : TT := fun _ H Q => Q true H
theorem pf_nil : PF X [] tTrue := fun _ _ _ H _ I h => wpAny_tests_nil ⟨H, I, h⟩
theorem pf_one {c : Expr} {t : TT} (h : PT X c t) : PF X [c] t := fun pins s σ H Q I hw => wpAny_tests_one (h pins s σ H Q I hw)
end

section
variable {prog : Program} {w : World} {A : Around} {E : Value → Shared → Prop} {R : Result → Shared → Prop} {s : Shared}
theorem compLoop_go {elt target iter : Expr} {ifs : List Expr} {scope : Scope} {pos : Pos} {it acc : Value} {env : Env} (I : Nat → Shared → Prop)
    (turn : ∀ n s, I n s → wpAny (model prog w) A (pyNext it) (fun r s₁ => match r with
      | none => R (.ok .next) s₁
      | some v => wpAny (model prog w) A (letOwnedTupleGo target it v) (fun _ s₀ => wpAny (model prog w) A (assign target env v) (fun _ s₂ =>
          wpAny (model prog w) A (forIn ifs true fun c r => if r = true then do let ok ← isTrue c env (eval c env); pure (ForInStep.yield ok) else pure (ForInStep.yield r)) (fun ok s₃ =>
            if ok = true then wpAny (model prog w) A (eval elt env) (fun x s₄ =>
              wpAny (model prog w) A (call (.builtin "list.append") [acc, x]) (fun _ s₅ => ∃ m, m < n ∧ I m s₅) (fun _ _ => False) s₄) (fun _ _ => False) s₃
            else ∃ m, m < n ∧ I m s₃) (fun _ _ => False) s₂) (fun _ _ => False) s₀) (fun _ _ => False) s₁) (fun _ _ => False) s)
    (n : Nat) (h : I n s) :
    codeAny (model prog w) A (.compLoop (.ListComp elt [⟨target, iter, ifs, 0⟩] scope pos) 0 it acc env) R s := by
  refine codeAny_loop rfl I (fun n s hI => ?_) n h
  show wpAny _ A ((compTurn (.ListComp elt [⟨target, iter, ifs, 0⟩] scope pos) 0 it acc env).onRaise (fun x => do noteFrame x env; theTreesLotGoes x)) _ _ s
  refine wpAny_noted ?_
  rw [compTurn_list]
  refine wpAny_bind (wpAny_standAt (wpAny_bind (wpAny_mono (turn n s hI) (fun r s₁ h₁ => ?_) fun _ _ h' => h'.elim)))
  cases r with
  | none => exact wpAny_pure h₁
  | some v =>
    refine wpAny_bind (wpAny_mono h₁ (fun _ s₀ h₀ => ?_) fun _ _ h' => h'.elim)
    refine wpAny_bind (wpAny_mono h₀ (fun _ s₂ h₂ => wpAny_bind (wpAny_mono h₂ (fun ok s₃ h₃ => ?_) fun _ _ h' => h'.elim)) fun _ _ h' => h'.elim)
    cases ok with
    | false => exact wpAny_pure ⟨rfl, h₃⟩
    | true =>
      exact wpAny_bind (wpAny_bind (wpAny_mono h₃ (fun x s₄ h₄ => wpAny_bind (wpAny_mono h₄ (fun _ s₅ h₅ => wpAny_pure (wpAny_pure ⟨rfl, h₅⟩)) fun _ _ h' => h'.elim)) fun _ _ h' => h'.elim))
end

section
variable {X : Cx}
/-- [elt for target in iter if ..]: W by the turn, a measure, what is told so far; D: the new list -/
def tComp (js : List (Option Nat)) (wi : TI) (g : TG) (tc : TT) (te : TE) : TE := fun σ H Q => wi σ H fun J H1 => ∀ D, H1 D = none → ∃ W : Nat → Nat → List V → Hp → Prop, (∃ m, W 0 m [] (upd H1 D (.lst []))) ∧
  ∀ i m ys H, W i m ys H → (J.stop i H ∧ Q (.ref D) H) ∨ (J.go i H ∧ ∃ N : List V → Hp → Prop, (∀ ys' H', N ys' H' → ∃ m', m' < m ∧ W (i + 1) m' ys' H') ∧ ∀ x H', J.yld i H x H' → g x (inner js σ) H' fun σ2 H2 => Fills (inner js σ) σ2 ∧ tc σ2 H2 fun b H3 =>
    if b = true then te σ2 H3 fun y H4 => H4 D = some (.lst ys) ∧ ys.length < sizeLine ∧ N (ys ++ [y]) (upd H4 D (.lst (ys ++ [y]))) else N ys H3)

theorem comp_block {N' : List Str} {js : List (Option Nat)} {scope : Scope} {target iter elt : Expr} {ifs : List Expr} {pos : Pos} {g : TG} {tc : TT} {te : TE} {pins : List (Addr × Obj)} {σ : St} {H : Hp} {s : Shared} {Q : VK} {E : Value → Shared → Prop}
    {RR : Value → Addr → Result → Shared → Prop} {it : Addr} {fp : List Addr} {tn : Nat → Heap → Prop} {J : It} (I : Inv X pins σ H s) (T : Turn X.prog X.w X.K target J fp it tn) (st : tn 0 s.heap) (f : ∀ b ∈ fp, FpOk X pins H b) (hc : X.calm = true)
    (q : ∀ D, H D = none → ∃ W : Nat → Nat → List V → Hp → Prop, (∃ m, W 0 m [] (upd H D (.lst []))) ∧
      ∀ i m ys H, W i m ys H → (J.stop i H ∧ Q (.ref D) H) ∨ (J.go i H ∧ ∃ N : List V → Hp → Prop, (∀ ys' H', N ys' H' → ∃ m', m' < m ∧ W (i + 1) m' ys' H') ∧ ∀ x H', J.yld i H x H' → g x (inner js σ) H' fun σ2 H2 => Fills (inner js σ) σ2 ∧ tc σ2 H2 fun b H3 =>
    if b = true then te σ2 H3 fun y H4 => H4 D = some (.lst ys) ∧ ys.length < sizeLine ∧ N (ys ++ [y]) (upd H4 D (.lst (ys ++ [y]))) else N ys H3))
    (hg : ∀ cl C fp s H, PG (X.comp N' scope cl C fp s H) target g) (hf : ∀ cl C fp s H, PF (X.comp N' scope cl C fp s H) ifs tc) (he : ∀ cl C fp s H, PE (X.comp N' scope cl C fp s H) elt te)
    (hk : scope.kind = .function) (hcell : ∀ y ∈ scope.names, y.2 ≠ .cell) (hfree : ∀ y ∈ scope.names, y.2 = .free → X.env.kindOf y.1 = some .cell ∨ X.env.kindOf y.1 = some .free) (hjs : jsOk X.N scope N' js = true)
    (hRR : ∀ D C H' s', Inv X pins σ H' s' → Q (.ref D) H' → (∃ m, s'.heap.Ns C m) → H' C = none → C ≠ X.env.locals → X.s₀.heap.objs.size ≤ C → C ∉ X.fs → (∀ x c, X.env.cells.lookup x = some c → c ≠ C) → (∀ p ∈ X.pn ++ pins, p.1 ≠ C) →
      RR (.ref D) C (.ok .next) s') :
    wpAny (model X.prog X.w) X.A (newList []) (fun acc s₃ => wpAny (model X.prog X.w) X.A (newFunctionEnv scope X.env.globals (clOf X.env.cells scope.names []) [] X.env.qual none .none (some X.env)) (fun cenv s₄ =>
      codeAny (model X.prog X.w) X.A (.compStart (.ListComp elt [⟨target, iter, ifs, 0⟩] scope pos) 0 (.ref it) acc { cenv with scope := relabel scope X.env }) (RR acc cenv.locals) s₄) E s₃) E s := by
  refine wpAny_newObj_type (wpAny_newFunctionEnv hcell (by intro y hy; simp at hy) (fun h₁ hns₁ hsb₁ => ?_) hk)
  dsimp only at hns₁ hsb₁ ⊢
  have I3 : Inv X pins σ (upd H s.heap.objs.size (.lst [])) { s with heap := s.heap.push { cls := .type "list", dict := none, data := .seq ([] : List Value).toArray } } := I.lnew (its := []) (ys := []) (t' := s.toks) .nil (Nat.zero_le _)
  obtain ⟨W, ⟨m0, w0⟩, turn⟩ := q s.heap.objs.size I.fresh
  generalize hD : s.heap.objs.size = D at I3 turn w0 ⊢
  have hsz : (s.heap.push { cls := .type "list", dict := none, data := .seq ([] : List Value).toArray }).objs.size = D + 1 := by rw [Heap.size_push, hD]
  have fpl : ∀ b ∈ fp, b < D := fun b hb => by
    obtain ⟨o, e, _⟩ := T.obj _ _ st b hb
    rw [← hD]; exact Heap.lt_size e
  generalize hs3 : ({ s with heap := s.heap.push { cls := .type "list", dict := none, data := .seq ([] : List Value).toArray } } : Shared) = s3 at I3
  have eh : s.heap.push { cls := .type "list", dict := none, data := .seq ([] : List Value).toArray } = s3.heap := by rw [← hs3]
  rw [eh] at hns₁ hsb₁ hsz ⊢
  have f3 : ∀ b ∈ fp, FpOk X pins (upd H D (.lst [])) b := fun b hb => ⟨by rw [upd_ne (Nat.ne_of_lt (fpl b hb))]; exact (f b hb).1, (f b hb).2⟩
  have keep1 : ∀ b o, s3.heap.get? b = some o → h₁.get? b = some o := fun b o e => hsb₁.extBut b o (Nat.ne_of_lt (Heap.lt_size e)) (Heap.get?_push_of_some _ e)
  have I4 := comp_inv (N' := N') (js := js) (tk := s.toks + ([] : List (Str × Value)).length) I3 hk hcell hfree hjs f3 (fun b hb => by rw [hsz]; exact Nat.lt_succ_of_lt (fpl b hb)) hns₁ keep1
  have es : ({ s with heap := h₁, toks := s.toks + ([] : List (Str × Value)).length } : Shared) = { s3 with heap := h₁, toks := s.toks + ([] : List (Str × Value)).length } := by rw [← hs3]
  rw [show ({ s with heap := h₁, toks := s.toks + ([] : List (Str × Value)).length } : Shared) = { s3 with heap := h₁, toks := s.toks + ([] : List (Str × Value)).length } from es]
  have st4 : tn 0 h₁ := T.keep _ _ _ st fun b hb o e => keep1 b o (eh ▸ Heap.get?_push_of_some _ e)
  have hCne : s3.heap.objs.size ≠ X.env.locals := Nat.ne_of_gt I3.lt
  have loop : ∀ s4 : Shared, tn 0 s4.heap → Inv (X.comp N' scope (clOf X.env.cells scope.names []) s3.heap.objs.size fp s3 (upd H D (.lst []))) [] (inner js σ) (upd H D (.lst [])) s4 →
      codeAny (model X.prog X.w) X.A (.compLoop (.ListComp elt [⟨target, iter, ifs, 0⟩] scope pos) 0 (.ref it) (.ref D) (compEnvC scope (clOf X.env.cells scope.names []) s3.heap.objs.size X.env)) (RR (.ref D) s3.heap.objs.size) s4 := by
    intro s4 st4 I4
    generalize hX : X.comp N' scope (clOf X.env.cells scope.names []) s3.heap.objs.size fp s3 (upd H D (.lst [])) = X' at I4
    have xprog : X'.prog = X.prog := by rw [← hX]; rfl
    have stat : ∀ {H' : Hp}, (∀ b ∈ fp, H' b = none) → ∀ b ∈ fp, FpOk X' [] H' b := fun hn b hb => by
      rw [← hX]
      refine ⟨hn b hb, ?_, ?_, .inl hb, ?_, fun p hp => nomatch hp⟩
      · exact Nat.ne_of_lt (by show b < s3.heap.objs.size; rw [hsz]; exact Nat.lt_succ_of_lt (fpl b hb))
      · exact fun z => (List.mem_cons.mp (I3.stkSub b z)).elim (f3 b hb).2.1 (f3 b hb).2.2.1
      · intro x c e
        rcases clOf_in _ _ e with z | z
        · simp at z
        · exact (f3 b hb).2.2.2.2.1 x c z
    have hg' := hg (clOf X.env.cells scope.names []) s3.heap.objs.size fp s3 (upd H D (.lst []))
    have hf' := hf (clOf X.env.cells scope.names []) s3.heap.objs.size fp s3 (upd H D (.lst []))
    have he' := he (clOf X.env.cells scope.names []) s3.heap.objs.size fp s3 (upd H D (.lst []))
    rw [hX] at hg' hf' he'
    have xA : X'.A = X.A := by rw [← hX]; rfl
    have xw : X'.w = X.w := by rw [← hX]; rfl
    have xK : X'.K = X.K := by rw [← hX]; rfl
    have xc : X'.calm = true := by rw [← hX]; exact hc
    have xe : X'.env = compEnvC scope (clOf X.env.cells scope.names []) s3.heap.objs.size X.env := by rw [← hX]; rfl
    have xx : X'.xe = fun _ _ => False := by rw [← hX]; rfl
    have T' : Turn X'.prog X'.w X'.K target J fp it tn := by rw [xprog, xw, xK]; exact T
    rw [← xA, ← xw, ← xprog, ← xe]
    refine compLoop_go (fun n s' => ∃ i ys H', Inv X' [] (inner js σ) H' s' ∧ tn i s'.heap ∧ (∀ b ∈ fp, H' b = none) ∧ W i n ys H') ?_ m0 ⟨0, [], _, I4, st4, fun b hb => (f3 b hb).1, w0⟩
    rintro n s5 ⟨i, ys, H5, I5, st5, fr5, w5⟩
    rcases turn i n ys H5 w5 with ⟨stop, q⟩ | ⟨go, N, hN, step⟩
    · refine thn (T'.done X' rfl rfl rfl xc i [] s5 _ H5 _ I5 (stat fr5) st5 stop) fun r s6 ⟨hr, I6⟩ => ?_
      subst hr
      subst hX
      have I7 : Inv X pins σ H5 s6 := I3.call' (s' := s6) I6.os I6.base I6.hok I6.bare fun b hb => ⟨(f3 b hb).2.2.2.1, (f3 b hb).2.1, (f3 b hb).2.2.2.2.1, (f3 b hb).2.2.2.2.2⟩
      obtain ⟨m6, hn6, _⟩ := I6.loc
      refine hRR D s3.heap.objs.size H5 s6 I7 q ⟨m6, hn6⟩ I6.free hCne I3.sz (I3.nofs (Nat.le_refl _)) (fun x c e z => ?_) (fun p hp z => ?_)
      · obtain ⟨v, y⟩ := I3.cell x c e
        exact absurd (Nat.lt_of_lt_of_le y.lt (by rw [z]; exact Nat.le_refl _)) (Nat.lt_irrefl _)
      · exact absurd (Nat.lt_of_lt_of_le (Heap.lt_size (I3.pin p hp).1) (by rw [z]; exact Nat.le_refl _)) (Nat.lt_irrefl _)
    · refine thn (T'.item X' rfl rfl rfl xc i [] s5 _ H5 _ I5 (stat fr5) st5 go) fun r s6 ⟨u, hr, h6⟩ => ?_
      subst hr
      refine thn h6 fun _ s7 ⟨x, H7, I7, r7, y7, st7, fr7⟩ => ?_
      have I7' := I7.pinned (stat fr7) (T.obj _ _ st7)
      refine wpAny_mono (hg' _ s7 _ H7 x u _ I7' r7 (step x H7 y7)) (fun _ s8 ⟨σ8, H8, I8, fill8, q8⟩ => ?_) (fun _ _ z => by rw [xx] at z; exact z)
      refine wpAny_mono (hf' _ s8 σ8 H8 _ I8 q8) (fun b s9 ⟨H9, I9, q9⟩ => ?_) (fun _ _ z => by rw [xx] at z; exact z)
      have again : ∀ {H' : Hp} {s' : Shared} {ys' : List V}, Inv X' ([] ++ pinsAt fp s7.heap) σ8 H' s' → N ys' H' → ∃ m, m < n ∧ ∃ i ys H', Inv X' [] (inner js σ) H' s' ∧ tn i s'.heap ∧ (∀ b ∈ fp, H' b = none) ∧ W i m ys H' := fun {H' s' ys'} I' n' => by
        obtain ⟨m', hm, w'⟩ := hN ys' H' n'
        refine ⟨m', hm, i + 1, ys', H', I'.unpinned.weak fill8.len fill8.at_, T.keep _ _ _ st7 fun b hb o e => (I'.pin (b, o) (List.mem_append_right _ (List.mem_append_right _ (mem_pinsAt hb e)))).1, fun b hb => ?_, w'⟩
        obtain ⟨o, e, d⟩ := T.obj _ _ st7 b hb
        exact (I'.pin (b, o) (List.mem_append_right _ (List.mem_append_right _ (mem_pinsAt hb e)))).2.1
      cases b with
      | false => exact again I9 q9
      | true =>
        refine wpAny_mono (he' _ s9 σ8 H9 _ I9 q9) (fun yv s10 ⟨y, H10, I10, ry, hD10, hz, q10⟩ => ?_) (fun _ _ z => by rw [xx] at z; exact z)
        refine wpAny_mono (mt_append (X := X') _ s10 σ8 H10 (.ref D) [y] (.ref D) [yv] (fun _ H' => H' = upd H10 D (.lst (ys ++ [y]))) I10 rfl (.cons ry .nil) ⟨D, ys, y, rfl, rfl, hD10, hz, rfl⟩) (fun _ s11 ⟨_, H11, I11, _, e11⟩ => ?_) (fun _ _ z => by rw [xx] at z; exact z)
        subst e11
        exact again I11 q10
  have l4 := loop { s3 with heap := h₁, toks := s.toks + ([] : List (Str × Value)).length } st4 I4
  exact codeAny_compStart_list l4 (T.self _ 0 _ _ _ st4 l4)

theorem pe_comp {N' : List Str} {js : List (Option Nat)} {scope : Scope} {target iter elt : Expr} {ifs : List Expr} {pos : Pos} {wi : TI} {g : TG} {tc : TT} {te : TE} (hc : X.calm = true) (hi : PI X target iter wi)
    (hg : ∀ cl C fp s H, PG (X.comp N' scope cl C fp s H) target g) (hf : ∀ cl C fp s H, PF (X.comp N' scope cl C fp s H) ifs tc) (he : ∀ cl C fp s H, PE (X.comp N' scope cl C fp s H) elt te)
    (hk : scope.kind = .function := by rfl) (hcell : (scope.names.all fun y => y.2 != .cell) = true := by rfl) (hfree : (scope.names.all fun y => y.2 != .free || (X.env.kindOf y.1 == some .cell || X.env.kindOf y.1 == some .free)) = true := by rfl)
    (hnames : (scope.names.all fun y => y.2 != .local || scope.names.lookup y.1 == some .local) = true := by rfl) (hjs : jsOk X.N scope N' js = true := by rfl) (hs : ∀ x, foldedSetIterable iter X.env x = pure x := by intro _; rfl) :
    PE X (.ListComp elt [⟨target, iter, ifs, 0⟩] scope pos) (tComp js wi g tc te) := by
  have hcell' : ∀ y ∈ scope.names, y.2 ≠ .cell := fun y hy z => by have := List.all_eq_true.mp hcell y hy; simp [z] at this
  have hfree' : ∀ y ∈ scope.names, y.2 = .free → X.env.kindOf y.1 = some .cell ∨ X.env.kindOf y.1 = some .free := fun y hy z => by have := List.all_eq_true.mp hfree y hy; simpa [z] using this
  have hnames' : ∀ y ∈ scope.names, y.2 = .local → scope.names.lookup y.1 = some .local := fun y hy z => by have := List.all_eq_true.mp hnames y hy; simpa [z] using this
  intro pins s σ H Q I h
  rw [eval_ListComp]
  refine wpAny_comprehension_free (use := none) rfl hs (closureFor_ok fun x hx z => I.ok.has x.1 (hfree' x hx z)) hk hnames' ?_
  refine thn (hi pins s σ H _ I h) fun v s1 h1 => thn h1 fun itv s2 h2 => ?_
  obtain ⟨it, fp, tn, J, H2, e, I2, T, st2, f2, q2⟩ := h2
  subst e
  refine comp_block (RR := fun acc C => compPost (model X.prog X.w) X.A X.xe none (EP X pins σ Q) acc C) I2 T st2 f2 hc q2 hg hf he hk hcell' hfree' hjs ?_
  intro D C H' s' I' q ⟨m, hn⟩ c0 c1 c2 c3 c4 c5
  exact ⟨m, hn, fun h' hs' => ⟨.ref D, H', I'.turned (t' := s'.toks) (fun b o hb e => (hs'.2 b hb).trans e) c0 c1 (.inr c2) c4 c5, rfl, q⟩⟩

/-- name = [..] -/
theorem ps_setComp {N' : List Str} {js : List (Option Nat)} {scope : Scope} {target iter elt : Expr} {ifs : List Expr} {pos pos' spos : Pos} {x : Str} {i : Nat} {wi : TI} {g : TG} {tc : TT} {te : TE} (hN : X.N.Nodup) (hi' : X.N[i]? = some x) (hx : Loc X.env.scope x) (hc : X.calm = true) (hi : PI X target iter wi)
    (hg : ∀ cl C fp s H, PG (X.comp N' scope cl C fp s H) target g) (hf : ∀ cl C fp s H, PF (X.comp N' scope cl C fp s H) ifs tc) (he : ∀ cl C fp s H, PE (X.comp N' scope cl C fp s H) elt te)
    (hsw : swapsWith (.ListComp elt [⟨target, iter, ifs, 0⟩] scope pos) (some (.Name x pos')) spos.line X.env = pure true := by rfl)
    (hk : scope.kind = .function := by rfl) (hcell : (scope.names.all fun y => y.2 != .cell) = true := by rfl) (hfree : (scope.names.all fun y => y.2 != .free || (X.env.kindOf y.1 == some .cell || X.env.kindOf y.1 == some .free)) = true := by rfl)
    (hnames : (scope.names.all fun y => y.2 != .local || scope.names.lookup y.1 == some .local) = true := by rfl) (hjs : jsOk X.N scope N' js = true := by rfl) (hs : ∀ x, foldedSetIterable iter X.env x = pure x := by intro _; rfl)
    (hfn : X.fn x = true ∨ X.env.scope.names.lookup x = some .local := by first | exact .inl rfl | exact .inr rfl | assumption) :
    PS X (.Assign [.Name x pos'] (.ListComp elt [⟨target, iter, ifs, 0⟩] scope pos) spos) (tAsg (tComp js wi g tc te) (gName i)) := by
  have hcell' : ∀ y ∈ scope.names, y.2 ≠ .cell := fun y hy z => by have := List.all_eq_true.mp hcell y hy; simp [z] at this
  have hfree' : ∀ y ∈ scope.names, y.2 = .free → X.env.kindOf y.1 = some .cell ∨ X.env.kindOf y.1 = some .free := fun y hy z => by have := List.all_eq_true.mp hfree y hy; simpa [z] using this
  have hnames' : ∀ y ∈ scope.names, y.2 = .local → scope.names.lookup y.1 = some .local := fun y hy z => by have := List.all_eq_true.mp hnames y hy; simpa [z] using this
  intro pins s σ H D I h
  rw [exec_Assign_Name_used _ _ _ _ hsw]
  refine wpAny_bind (wpAny_standAt (wpAny_bind ?_))
  show wpAny _ X.A (do let _ ← comprehension (.ListComp elt [⟨target, iter, ifs, 0⟩] scope pos) scope X.env _ (newList []) false (eval iter X.env) (some (assign (.Name x pos') X.env))) _ _ s
  refine wpAny_bind (wpAny_mono (wpAny_comprehension_free (use := some (assign (.Name x pos') X.env)) (Q := fun _ s' => SP X pins D .next s') rfl hs (closureFor_ok fun x hx z => I.ok.has x.1 (hfree' x hx z)) hk hnames' ?_) (fun _ s' hq => wpAny_pure (wpAny_pure hq)) fun _ _ e => e)
  refine thn (hi pins s σ H _ I h) fun v s1 h1 => thn h1 fun itv s2 h2 => ?_
  obtain ⟨it, fp, tn, J, H2, e, I2, T, st2, f2, q2⟩ := h2
  subst e
  refine comp_block (Q := fun x H1 => gName i x σ H1 D.nx) (RR := fun acc C => compPost (model X.prog X.w) X.A X.xe (some (assign (.Name x pos') X.env)) (fun _ s' => SP X pins D .next s') acc C) I2 T st2 f2 hc q2 hg hf he hk hcell' hfree' hjs ?_
  intro D' C H' s' I' q ⟨m, hn⟩ c0 c1 c2 c3 c4 c5
  obtain ⟨oC, es, ep, hoC, hdC, rC⟩ := id hn
  have I'' : Inv X (pins ++ [(C, oC)]) σ H' s' := I'.pins_of fun p hp => (List.mem_append.mp hp).elim (fun z => I'.pin p (List.mem_append_right _ z)) fun z => by
    have e := List.mem_singleton.mp z
    subst e
    exact ⟨hoC, c0, c1, c3, fun v z => by rw [hdC] at z; cases z⟩
  show wpAny _ X.A (assign (.Name x pos') X.env (.ref D')) _ _ _
  refine wpAny_assign_Name (store_ok I'' hN hi' hx (v := .ref D') rfl (fun s3 I3 => ?_) hfn)
  have hC3 := I3.pin (C, oC) (List.mem_append_right _ (List.mem_append_right _ (List.mem_singleton.mpr rfl)))
  refine ⟨m, ⟨oC, es, ep, hC3.1, hdC, rC⟩, fun h' hs' => ?_⟩
  exact ⟨_, H', I3.unpinned.turned (t' := s3.toks) (fun b o hb e => (hs'.2 b hb).trans e) c0 c1 (.inr c2) c4 c5, q⟩
end

/-! ### forms that one uses -/
theorem comp_by {J : It} {js : List (Option Nat)} {σ : St} {H1 : Hp} {R : Hp → Prop} {D : Addr} {g : TG} {tc : TT} {te : TE} (n : Nat) (Pv : Nat → List V → Hp → Prop) (h0 : Pv 0 [] (upd H1 D (.lst [])))
    (hs : ∀ i ys H, i < n → Pv i ys H → J.go i H ∧ ∀ x H', J.yld i H x H' → g x (inner js σ) H' fun σ2 H2 => Fills (inner js σ) σ2 ∧ tc σ2 H2 fun b H3 =>
      if b = true then te σ2 H3 fun y H4 => H4 D = some (.lst ys) ∧ ys.length < sizeLine ∧ Pv (i + 1) (ys ++ [y]) (upd H4 D (.lst (ys ++ [y]))) else Pv (i + 1) ys H3)
    (hd : ∀ ys H, Pv n ys H → J.stop n H ∧ R H) :
    ∃ W : Nat → Nat → List V → Hp → Prop, (∃ m, W 0 m [] (upd H1 D (.lst []))) ∧
      ∀ i m ys H, W i m ys H → (J.stop i H ∧ R H) ∨ (J.go i H ∧ ∃ N : List V → Hp → Prop, (∀ ys' H', N ys' H' → ∃ m', m' < m ∧ W (i + 1) m' ys' H') ∧ ∀ x H', J.yld i H x H' → g x (inner js σ) H' fun σ2 H2 => Fills (inner js σ) σ2 ∧ tc σ2 H2 fun b H3 =>
        if b = true then te σ2 H3 fun y H4 => H4 D = some (.lst ys) ∧ ys.length < sizeLine ∧ N (ys ++ [y]) (upd H4 D (.lst (ys ++ [y]))) else N ys H3) := by
  refine ⟨fun i m ys H => m = n - i ∧ i ≤ n ∧ Pv i ys H, ⟨n, by simp, Nat.zero_le _, h0⟩, ?_⟩
  rintro i m ys H ⟨rfl, hi, p⟩
  by_cases hlt : i < n
  · obtain ⟨go, step⟩ := hs i ys H hlt p
    exact .inr ⟨go, Pv (i + 1), fun ys' H' p' => ⟨n - (i + 1), by omega, rfl, hlt, p'⟩, step⟩
  · have e : i = n := by omega
    subst e
    exact .inl (hd ys H p)
/-- without a test -/
theorem comp_map {J : It} {js : List (Option Nat)} {σ : St} {H1 : Hp} {R : Hp → Prop} {D : Addr} {g : TG} {te : TE} (n : Nat) (Pv : Nat → List V → Hp → Prop) (h0 : Pv 0 [] (upd H1 D (.lst [])))
    (hs : ∀ i ys H, i < n → Pv i ys H → J.go i H ∧ ∀ x H', J.yld i H x H' → g x (inner js σ) H' fun σ2 H2 => Fills (inner js σ) σ2 ∧ te σ2 H2 fun y H4 => H4 D = some (.lst ys) ∧ ys.length < sizeLine ∧ Pv (i + 1) (ys ++ [y]) (upd H4 D (.lst (ys ++ [y]))))
    (hd : ∀ ys H, Pv n ys H → J.stop n H ∧ R H) :
    ∃ W : Nat → Nat → List V → Hp → Prop, (∃ m, W 0 m [] (upd H1 D (.lst []))) ∧
      ∀ i m ys H, W i m ys H → (J.stop i H ∧ R H) ∨ (J.go i H ∧ ∃ N : List V → Hp → Prop, (∀ ys' H', N ys' H' → ∃ m', m' < m ∧ W (i + 1) m' ys' H') ∧ ∀ x H', J.yld i H x H' → g x (inner js σ) H' fun σ2 H2 => Fills (inner js σ) σ2 ∧ tTrue σ2 H2 fun b H3 =>
        if b = true then te σ2 H3 fun y H4 => H4 D = some (.lst ys) ∧ ys.length < sizeLine ∧ N (ys ++ [y]) (upd H4 D (.lst (ys ++ [y]))) else N ys H3) := by
  refine comp_by n Pv h0 ?_ hd
  simp only [tTrue, if_true]
  exact hs
end L2

set_option Elab.async false
set_option linter.all false
set_option maxRecDepth 100000
set_option maxHeartbeats 4000000
namespace L2
open PySem PySem.Spec PyProof.Rows

/-! ### range(a, b, c) -/
def Itr3 (lo c : Int) (n : Nat) : It := ⟨fun i _ => i < n, fun i H x H' => H' = H ∧ x = .int (lo + i * c), fun i _ => n ≤ i⟩
theorem turn_range3 {P : Program} {w : World} {K : PySem.W.Frag} {tg : Expr} (it : Addr) (lo c : Int) (n : Nat) : Turn P w K tg (Itr3 lo c n) [it] it (fun i h => IsRangeIter h it (lo + (i : Nat) * c) ((n : Int) - (i : Nat)) c) where
  mem := by simp
  obj := fun i h st b hb => by
    have e : b = it := by simpa using hb
    subst e
    exact ⟨_, st, fun v z => by
      have z' : Data.fields _ = Data.cell v := z
      cases z'⟩
  keep := fun i h h' st k => k it (by simp) _ st
  item := by
    intro X hP hw hK hc i pins s σ H E I hf st hg
    subst hP hw hK
    obtain ⟨f0, f1, f2, f3, f4, f5⟩ := hf it (by simp)
    have W := Walks.range (prog := X.prog) (w := X.w) (I.ok.hd hc) it lo c n
    refine W.item i s _ _ hg st fun v h' tk hv st' kk => ?_
    obtain ⟨t, rfl⟩ := hv
    have I1 : Inv X pins σ H { s with heap := h', toks := tk } := I.turned (fun b o hb e => kk b o (by simpa using hb) e) f0 f1 f3 f4 f5
    exact ⟨_, rfl, go_of (s := { s with heap := h', toks := tk }) (n := "range_iterator") st' rfl rfl (by decide) ⟨.int (lo + i * c), H, I1, ⟨t, rfl⟩, ⟨rfl, rfl⟩, st', fun b hb => (hf b hb).1⟩⟩
  done := by
    intro X hP hw hK hc i pins s σ H E I hf st hg
    subst hP hw hK
    obtain ⟨f0, f1, f2, f3, f4, f5⟩ := hf it (by simp)
    exact wpAny_pyNext_range_end (I.ok.hd hc) st (by have : n ≤ i := hg; omega) fun h' eb => ⟨rfl, I.turned (t' := s.toks) (fun b o hb e => eb b o hb e) f0 f1 f3 f4 f5⟩
  self := fun _ _ _ _ _ st h => wpAny_pyIter_rangeiter st h

section
variable {X : Cx} {tg : Expr}
/-- steps of 2, from 0 on -/
def iRng3 (ta : TA) : TI := fun σ H R => ta σ H fun vs H1 => ∃ n : Nat, vs = [.int 0, .int (2 * n), .int 2] ∧ n < 1000000 ∧ R (Itr3 0 2 n) H1
theorem pi_range3 {a b c : Expr} {ta : TA} {p pos : Pos} (hg : Gl X "range") (hm : X.mg "range" = none) (ha : PA X [a, b, c] ta) (hs : starEach [a, b, c] X.env = [(false, eval a X.env), (false, eval b X.env), (false, eval c X.env)] := by rfl)
    (hs2 : starEach [b, c] X.env = [(false, eval b X.env), (false, eval c X.env)] := by rfl) : PI X tg (.Call (.Name "range" p) [a, b, c] [] pos) (iRng3 ta) := by
  intro pins s σ H R I h
  refine Call_ (ld_blt I hg hm boot_range (PyProof.Rows.callWith_type1 (thn (ha pos pins s σ H _ I h) fun us s1 ⟨vs, H1, I1, r1, q1⟩ => ?_) (by rw [hs, hs2]) (by rw [hs2]; rfl)))
  obtain ⟨n, e, hn, q⟩ := q1
  subst e
  cases r1 with
  | cons r rr =>
    cases rr with
    | cons r' rr =>
      cases rr with
      | cons r'' rr =>
        cases rr
        obtain ⟨t, rfl⟩ := r
        obtain ⟨t', rfl⟩ := r'
        obtain ⟨t'', rfl⟩ := r''
        refine call_range_3 (by decide) ?_ (.inl (PyProof.noPylong_small (by omega)))
        have hsz : Builtin.Range.rangeSize 0 (2 * n) 2 = n := by
          unfold Builtin.Range.rangeSize
          simp only [show (2 : Int) > 0 by decide, if_true]
          split <;> omega
        have hsmall : Builtin.Range.small 0 (2 * n) 2 = true := by
          unfold Builtin.Range.small
          rw [hsz]
          have fits : ∀ i : Int, -(2 ^ 62) ≤ i → i < 2 ^ 62 → Builtin.Range.rangeFitsLong i = true := fun i h1 h2 => by
            unfold Builtin.Range.rangeFitsLong
            rw [Bool.and_eq_true, decide_eq_true_eq, decide_eq_true_eq]
            omega
          simp only [fits 0 (by omega) (by omega), fits (2 * n) (by omega) (by omega), fits 2 (by omega) (by omega), fits n (by omega) (by omega), Bool.true_and, Bool.and_true]
          rw [if_pos (by decide), fits (2 * n + (2 - 1)) (by omega) (by omega), Bool.or_true]
        refine wpAny_pyIter_range (IsRange.new ..) hsmall ?_
        have I2 : Inv X pins σ H1 { s1 with heap := s1.heap.push { cls := .type "range", data := .fields #[.int 0 t, .int (2 * n) t', .int 2 t''] }, toks := s1.toks } := I1.kept fun b o e => Heap.get?_push_of_some _ e
        refine ⟨(s1.heap.push { cls := .type "range", data := .fields #[.int 0 t, .int (2 * n) t', .int 2 t''] }).objs.size, [(s1.heap.push { cls := .type "range", data := .fields #[.int 0 t, .int (2 * n) t', .int 2 t''] }).objs.size], _, _, H1, rfl,
          I2.kept (t' := s1.toks) fun b o e => Heap.get?_push_of_some _ e, turn_range3 _ 0 2 n, ?_, fun b hb => ?_, q⟩
        · show IsRangeIter _ _ (0 + ((0 : Nat) : Int) * 2) ((n : Int) - ((0 : Nat) : Int)) 2
          have e1 : (0 : Int) + ((0 : Nat) : Int) * 2 = 0 := by simp
          have e2 : (n : Int) - ((0 : Nat) : Int) = Builtin.Range.rangeSize 0 (2 * n) 2 := by rw [hsz]; simp
          rw [e1, e2]
          exact Heap.get?_push_size _ rfl
        · have e : b = (s1.heap.push { cls := .type "range", data := .fields #[.int 0 t, .int (2 * n) t', .int 2 t''] }).objs.size := by simpa using hb
          subst e
          exact I2.fpOk (Nat.le_refl _) (I2.hok.fresh (Nat.le_refl _))
end

/-! ### records that turned, and a new thing laid -/
section
variable {X : Cx} {pins : List (Addr × Obj)} {σ : St} {H : Hp} {s : Shared} {h' : Heap}
theorem Inv.turnedNew {t' : Nat} {ch : List Addr} {T : Addr} {o : HO} (I : Inv X pins σ H s) (k : ∀ b u, b ∉ ch → s.heap.get? b = some u → h'.get? b = some u) (there : ∀ b u, s.heap.get? b = some u → ∃ u', h'.get? b = some u') (hT : s.heap.objs.size ≤ T)
    (hf : ∀ b ∈ ch, FpOk X pins H b) (new : ObjOk X.prog X.w (upd H T o) h' T o) : Inv X pins σ (upd H T o) { s with heap := h', toks := t' } := by
  have hn := I.hok.fresh hT
  have nit : ∀ b u, H b = some u → b ∉ ch := fun b u e z => by rw [(hf b z).1] at e; cases e
  refine I.step (g' := s.gens) (d' := s.drawn) (ch := ch) (fun b hb => ?_) (fun b o _ _ hc e _ => k b o hc e) (fun b o _ _ hc e _ => ⟨o.slots, k b o hc e⟩) (fun b u hc e n => ?_) (fun b u hc e => there b u e)
    (fun b xs e => ?_) (fun b ob u e => ?_) (fun b ps e => ⟨#[], ?_⟩) (fun m hm => ?_) (fun b u e => ?_) I.bare
  · exact ⟨(hf b hb).2.2.2.1, (hf b hb).2.1, (hf b hb).2.2.2.2.1, (hf b hb).2.2.2.2.2⟩
  · rw [upd_ne (Nat.ne_of_lt (Nat.lt_of_lt_of_le (Heap.lt_size e) hT))]; exact n
  · rw [upd_ne (ne_of_none e hn)]; exact e
  · rw [upd_ne (ne_of_none e hn)]; exact e
  · rw [upd_ne (ne_of_none e hn), e]; simp
  · obtain ⟨ob, es, ep, ho, r⟩ := hm
    exact ⟨ob, es, ep, k _ ob (fun z => (hf _ z).2.1 rfl) ho, r⟩
  · by_cases hb : b = T
    · subst hb; rw [upd_same] at e; cases e; exact new
    · rw [upd_ne hb] at e
      refine (I.hok b u e).stay (fun c v hc q => k c v ?_ q) (fun c q => by rw [upd_ne (ne_of_none q hn)]; exact q) fun c xs q => by rw [upd_ne (ne_of_none q hn)]; exact q
      rcases hc with z | z
      · rw [z]; exact nit b u e
      · exact nit c _ z
end

/-! ### enumerate(list) -/
def Ite (K : PySem.W.Frag) (a : Addr) : It :=
  ⟨fun i H => ∃ xs x, SqL K H a xs ∧ xs[i]? = some x, fun i H v H' => ∃ T x, v = .ref T ∧ H T = none ∧ H' = upd H T (.tup [.int i, x]) ∧ ∀ xs, SqL K H a xs → xs[i]? = some x, fun i H => ∃ xs, SqL K H a xs ∧ xs.length ≤ i⟩
theorem turn_enum {P : Program} {w : World} {K : PySem.W.Frag} {elts : List Expr} {k : Nat} {pos : Pos} (a e it : Addr) (hei : e ≠ it) : Turn P w K (.Tuple elts k pos) (Ite K a) [e, it] e (fun i h => (∃ old, IsEnum h e it i old) ∧ h.IsListIter it a i) where
  mem := by simp
  obj := fun i h st b hb => by
    obtain ⟨⟨old, he⟩, o, ho, hc, hd⟩ := st
    rcases List.mem_cons.mp hb with rfl | hb
    · exact ⟨_, he, fun v z => by
        have z' : Data.fields _ = Data.cell v := z
        cases z'⟩
    · have e' := List.mem_singleton.mp hb
      subst e'
      exact ⟨o, ho, fun v z => by rw [hd] at z; cases z⟩
  keep := fun i h h' st k => by
    obtain ⟨⟨old, he⟩, hit⟩ := st
    exact ⟨⟨old, k e (by simp) _ he⟩, hit.at fun o x => k it (by simp) o x⟩
  item := by
    intro X hP hw hK hc i pins s σ H E I hf st hg
    subst hP hw hK
    obtain ⟨⟨old, he⟩, hit⟩ := st
    obtain ⟨xs, x, hq, hx⟩ := hg
    obtain ⟨its, rv, pl, hz⟩ := I.list hq
    obtain ⟨u, hu, ru⟩ := rv.get hx
    have hux : its.toArray[i]? = some u := by simpa using hu
    refine wpAny_pyNext_enum_item he hit pl.isList hux hei fun h' ho hit' hT hsz hk => ?_
    refine ⟨_, rfl, ?_⟩
    have kk : ∀ b v, b ∉ [e, it] → s.heap.get? b = some v → h'.get? b = some v := fun b v hb q => hk b v (fun z => hb (by simp [z])) (fun z => hb (by simp [z])) q
    have th : ∀ b v, s.heap.get? b = some v → ∃ v', h'.get? b = some v' := fun b v q => by
      by_cases h1 : b = e
      · subst h1; exact ⟨_, ho⟩
      · by_cases h2 : b = it
        · subst h2; obtain ⟨o, q1, _⟩ := hit'; exact ⟨_, q1⟩
        · exact ⟨v, hk b v h1 h2 q⟩
    have I1 : Inv X pins σ (upd H s.heap.objs.size (.tup [.int i, x])) { s with heap := h', toks := s.toks + 1 } :=
      I.turnedNew (ch := [e, it]) kk th (Nat.le_refl _) hf ⟨by show 2 ≤ sizeLine; decide, [.int i s.toks, u], .cons ⟨_, rfl⟩ (.cons ru .nil), ⟨_, hT, rfl, _, rfl⟩⟩
    refine wpAny_letOwnedTupleGo_enum ho fun h2 he2 hs2 => ?_
    have fe := hf e (by simp)
    have fi := hf it (by simp)
    have hTe : e ≠ s.heap.objs.size := Nat.ne_of_lt (Heap.lt_size he)
    have hTi : it ≠ s.heap.objs.size := by obtain ⟨o, q1, _⟩ := hit; exact Nat.ne_of_lt (Heap.lt_size q1)
    have I2 : Inv X pins σ (upd H s.heap.objs.size (.tup [.int i, x])) { s with heap := h2, toks := s.toks + 1 } :=
      Inv.turned (s := { s with heap := h', toks := s.toks + 1 }) (h' := h2) (t' := s.toks + 1) (it := e) I1 (fun b o hb q => (hs2.2 b hb).trans q) (by rw [upd_ne hTe]; exact fe.1) fe.2.1 fe.2.2.2.1 fe.2.2.2.2.1 fe.2.2.2.2.2
    refine ⟨.ref s.heap.objs.size, _, I2, rfl, ⟨s.heap.objs.size, x, rfl, I.fresh, rfl, fun ys hys => by rw [I.list_inj hys hq]; exact hx⟩, ⟨⟨_, by simpa using he2⟩, hit'.at fun o q => (hs2.2 it hei.symm).trans q⟩, fun b hb => ?_⟩
    rcases List.mem_cons.mp hb with rfl | hb
    · rw [upd_ne hTe]; exact fe.1
    · have e' := List.mem_singleton.mp hb
      subst e'
      rw [upd_ne hTi]; exact fi.1
  done := by
    intro X hP hw hK hc i pins s σ H E I hf st hg
    subst hP hw hK
    obtain ⟨⟨old, he⟩, hit⟩ := st
    obtain ⟨xs, hq, hl⟩ := hg
    obtain ⟨its, rv, pl, hz⟩ := I.list hq
    have hlen := rv.length
    obtain ⟨f0, f1, f2, f3, f4, f5⟩ := hf it (by simp)
    refine wpAny_pyNext_enum_end (I.ok.hd hc) he hit pl.isList (by simp; omega) fun h' eb => ⟨rfl, ?_⟩
    exact I.turned (t' := s.toks) (fun b o hb q => eb b o hb q) f0 f1 f3 f4 f5
  self := fun _ _ _ _ _ st h => by
    obtain ⟨⟨old, he⟩, _⟩ := st
    exact wpAny_pyIter_enum he h

section
variable {X : Cx}
def iEnum (K : PySem.W.Frag) (ta : TA) : TI := fun σ H R => ta σ H fun vs H1 => ∃ a, vs = [.ref a] ∧ (∃ xs, SqL K H1 a xs) ∧ R (Ite K a) H1
theorem pi_enum {a : Expr} {ta : TA} {p pos : Pos} {elts : List Expr} {k : Nat} {tpos : Pos} (hg : Gl X "enumerate") (hm : X.mg "enumerate" = none) (ha : PA X [a] ta) (hs : starEach [a] X.env = [(false, eval a X.env)] := by rfl) :
    PI X (.Tuple elts k tpos) (.Call (.Name "enumerate" p) [a] [] pos) (iEnum X.K ta) := by
  intro pins s σ H R I h
  refine Call_ (ld_blt I hg hm (show bootBuiltins "enumerate" = some (.type "enumerate") by decide +kernel) (PyProof.Rows.callWith_type1 (thn (ha pos pins s σ H _ I h) fun us s1 ⟨vs, H1, I1, r1, q1⟩ => ?_) hs rfl))
  obtain ⟨l, e, ⟨xs, hq⟩, q⟩ := q1
  subst e
  cases r1 with
  | cons r rr =>
    cases rr
    cases r
    obtain ⟨its, rv, pl, hz⟩ := I1.list hq
    refine call_enumerate_list pl.isList fun h' he hit hsz hk => ?_
    refine wpAny_pyIter_enum he ?_
    have I2 : Inv X pins σ H1 { s1 with heap := h' } := I1.kept (t' := s1.toks) hk
    refine ⟨s1.heap.objs.size + 1, [s1.heap.objs.size + 1, s1.heap.objs.size], _, _, H1, rfl, I2, turn_enum l _ _ (Nat.succ_ne_self _), ⟨⟨_, by simpa using he⟩, hit⟩, fun b hb => ?_, q⟩
    rcases List.mem_cons.mp hb with rfl | hb
    · exact I1.fpOk (Nat.le_succ _) (I1.hok.fresh (Nat.le_succ _))
    · have e' := List.mem_singleton.mp hb
      subst e'
      exact I1.fpOk (Nat.le_refl _) (I1.hok.fresh (Nat.le_refl _))
end

/-! ### data, and == of data -/
mutual
inductive Bd (K : PySem.W.Frag) (H : Hp) : V → PyData → Prop
  | int (i : Int) : Bd K H (.int i) (.int i)
  | non : Bd K H .non .none
  | bl (b : Bool) : Bd K H (.bl b) (.bool b)
  | lst {a : Addr} {xs : List V} {ds : List PyData} : SqL K H a xs → Bds K H xs ds → Bd K H (.ref a) (.list ds)
  | tup {a : Addr} {xs : List V} {ds : List PyData} : SqT K H a xs → Bds K H xs ds → Bd K H (.ref a) (.tuple ds)
inductive Bds (K : PySem.W.Frag) (H : Hp) : List V → List PyData → Prop
  | nil : Bds K H [] []
  | cons {x : V} {xs : List V} {d : PyData} {ds : List PyData} : Bd K H x d → Bds K H xs ds → Bds K H (x :: xs) (d :: ds)
end
theorem Bds.ints {K : PySem.W.Frag} {H : Hp} : ∀ ns : List Int, Bds K H (ns.map V.int) (ns.map PyData.int)
  | [] => .nil
  | n :: ns => .cons (.int n) (Bds.ints ns)
section
variable {X : Cx} {pins : List (Addr × Obj)} {σ : St} {H : Hp} {s : Shared}
mutual
theorem Bd.reads (I : Inv X pins σ H s) : ∀ {x : V} {d : PyData} {u : Value}, Bd X.K H x d → RelV x u → ∃ as, Reads s.heap u d as
  | _, _, u, .int i, r => by obtain ⟨t, rfl⟩ := r; exact ⟨_, .int i t⟩
  | _, _, u, .non, r => by cases r; exact ⟨_, .none⟩
  | _, _, u, .bl b, r => by cases r; exact ⟨_, .bool b⟩
  | _, _, u, .lst hq b, r => by
    cases r
    obtain ⟨its, rv, ⟨o, n, e, hc, _, hd⟩, hz⟩ := I.list hq
    obtain ⟨as, h⟩ := Bds.reads I b rv
    exact ⟨_, .list e hc hd (by simpa using h)⟩
  | _, _, u, .tup hq b, r => by
    cases r
    obtain ⟨its, rv, ⟨o, e, hc, n, hd⟩, hz⟩ := I.tuple hq
    obtain ⟨as, h⟩ := Bds.reads I b rv
    exact ⟨_, .tuple e hc hd (by simpa using h)⟩
theorem Bds.reads (I : Inv X pins σ H s) : ∀ {xs : List V} {ds : List PyData} {us : List Value}, Bds X.K H xs ds → Vals xs us → ∃ as, ReadsAll s.heap us ds as
  | _, _, _, .nil, r => by cases r; exact ⟨_, .nil⟩
  | _, _, _, .cons b bs, r => by
    cases r with
    | cons r rr =>
      obtain ⟨as, h⟩ := Bd.reads I b r
      obtain ⟨bs', h'⟩ := Bds.reads I bs rr
      exact ⟨_, .cons h h'⟩
end
end
section
variable {X : Cx}
def rEqD (K : PySem.W.Frag) (neg : Bool) : R2 := fun x y H Q => ∃ dx dy, Bd K H x dx ∧ Bd K H y dy ∧ SeqAt.shaped dx = true ∧ SeqAt.shaped dy = true ∧ Q (.bl (PyData.eqv dx dy ^^ neg)) H
theorem op_eqD (hu : X.A.units + 64 < cLine) : OpR X (compareOp .Eq) (rEqD X.K false) := by
  intro pins s σ H x y v u Q I rx ry h
  obtain ⟨dx, dy, bx, b_y, sx, sy, q⟩ := h
  obtain ⟨as, r1⟩ := bx.reads I rx
  obtain ⟨bs, r2⟩ := b_y.reads I ry
  exact eq_dataH r1 r2 sx sy hu ⟨.bl _, H, I, rfl, by simpa using q⟩
theorem op_neD (hu : X.A.units + 64 < cLine) : OpR X (compareOp .NotEq) (rEqD X.K true) := by
  intro pins s σ H x y v u Q I rx ry h
  obtain ⟨dx, dy, bx, b_y, sx, sy, q⟩ := h
  obtain ⟨as, r1⟩ := bx.reads I rx
  obtain ⟨bs, r2⟩ := b_y.reads I ry
  exact ne_dataH r1 r2 sx sy hu ⟨.bl _, H, I, rfl, by simpa using q⟩
end

/-! ### isinstance -/
section
variable {X : Cx}
/-- of what kind a value is -/
def kindV (H : Hp) : V → String → Prop
  | .non, T => T = "NoneType"
  | .bl _, T => T = "bool"
  | .int _, T => T = "int"
  | .ref a, T => (T = "list" ∧ ∃ xs, H a = some (.lst xs)) ∨ (T = "tuple" ∧ ∃ xs, H a = some (.tup xs))
  | _, _ => False
theorem kindV.ty {K : PySem.W.Frag} {H : Hp} {x : V} {T : String} (h : kindV H x T) : TyOf K H x (.type T) := by
  cases x with
  | non => cases (show T = "NoneType" from h); exact .non
  | bl b => cases (show T = "bool" from h); exact .bl b
  | int i => cases (show T = "int" from h); exact .int i
  | ref a =>
    rcases h with ⟨rfl, xs, e⟩ | ⟨rfl, xs, e⟩
    · exact .lst e
    · exact .tup e
  | _ => exact False.elim h
/-- the answer for one built-in class -/
def isT (T c : String) : Bool := T == c || (T == "bool" && c == "int")
theorem kind_in {H : Hp} {x : V} {T : String} (h : kindV H x T) : T = "NoneType" ∨ T = "bool" ∨ T = "int" ∨ T = "list" ∨ T = "tuple" := by
  cases x with
  | non => exact .inl h
  | bl b => exact .inr (.inl h)
  | int i => exact .inr (.inr (.inl h))
  | ref a =>
    rcases h with ⟨rfl, xs, e⟩ | ⟨rfl, xs, e⟩
    · exact .inr (.inr (.inr (.inl rfl)))
    · exact .inr (.inr (.inr (.inr rfl)))
  | _ => exact False.elim h
theorem kit_T {K : PySem.W.Frag} {T n : String} (hT : T = "NoneType" ∨ T = "bool" ∨ T = "int" ∨ T = "list" ∨ T = "tuple") (hn : n = "list" ∨ n = "tuple" ∨ n = "int" ∨ n = "bool") : PySem.W.kitOne K (.type T) (.type n) = some (isT T n) := by
  rcases hT with rfl | rfl | rfl | rfl | rfl <;> rcases hn with rfl | rfl | rfl | rfl <;> first | rfl | decide
def rIsi (H0 : Unit) : List V → Hp → VK → Prop := fun xs H Q => ∃ x T n, xs = [x, .ty n] ∧ kindV H x T ∧ (n = "list" ∨ n = "tuple" ∨ n = "int" ∨ n = "bool") ∧ Q (.bl (isT T n)) H
theorem call_isi : CallR X (.builtin "isinstance") (rIsi ()) := by
  intro pins s σ H xs us Q I r h
  obtain ⟨x, T, n, rfl, k, hn, q⟩ := h
  obtain ⟨u, v, rfl, ru, rv⟩ := vals2 r
  cases (show v = Value.type n from rv)
  exact isinst_ok I ru k.ty (kit_T (kind_in k) hn) fun tk => ⟨.bl _, H, I.tok tk, rfl, q⟩
def rIsi2 : List V → Hp → VK → Prop := fun xs H Q => ∃ x T p, xs = [x, .ref p] ∧ kindV H x T ∧ H p = some (.tup [.ty "list", .ty "tuple"]) ∧ Q (.bl (isT T "list" || isT T "tuple")) H
theorem call_isi2 : CallR X (.builtin "isinstance") rIsi2 := by
  intro pins s σ H xs us Q I r h
  obtain ⟨x, T, p, rfl, k, hp, q⟩ := h
  obtain ⟨u, v, rfl, rx, rv⟩ := vals2 r
  cases (show v = Value.ref p from rv)
  obtain ⟨_, its, r', o, ho, hc, n, hd⟩ := (show ObjOk X.prog X.w H s.heap p (.tup [.ty "list", .ty "tuple"]) from I.hok p _ hp)
  obtain ⟨u1, u2, rfl, r1, r2⟩ := vals2 r'
  cases (show u1 = Value.type "list" from r1)
  cases (show u2 = Value.type "tuple" from r2)
  obtain ⟨c, dd, dt, sl⟩ := o
  cases (show c = .type "tuple" from hc)
  cases (show dt = .seq #[Value.type "list", Value.type "tuple"] n from hd)
  have kin := kind_in k
  have e : PySem.W.kitAny X.K (.type T) [.type "list", .type "tuple"] = some (isT T "list" || isT T "tuple") := by
    unfold PySem.W.kitAny
    rw [kit_T kin (.inl rfl)]
    cases isT T "list" with
    | true => rfl
    | false =>
      unfold PySem.W.kitAny
      dsimp only
      rw [kit_T kin (.inr (.inl rfl))]
      cases isT T "tuple" <;> rfl
  have fin : ∀ tk, EP X pins σ Q (.bool (isT T "list" || isT T "tuple")) { s with toks := tk } := fun tk => ⟨.bl _, H, I.tok tk, rfl, q⟩
  cases x with
  | non => cases (show u = Value.none from rx); cases (show T = "NoneType" from k); exact PySem.W.kia_tup PySem.W.kitx_none I.kIn True.intro ho e (fun z => nomatch z) fin
  | bl b => cases (show u = Value.bool b from rx); cases (show T = "bool" from k); exact PySem.W.kia_tup PySem.W.kitx_bool I.kIn True.intro ho e (fun z => nomatch z) fin
  | int i => obtain ⟨tt, q'⟩ := (show ∃ t, u = Value.int i t from rx); cases q'; cases (show T = "int" from k); exact PySem.W.kia_tup PySem.W.kitx_int I.kIn True.intro ho e (fun z => nomatch z) fin
  | ref a =>
    cases (show u = Value.ref a from rx)
    rcases k with ⟨rfl, ys, ea⟩ | ⟨rfl, ys, ea⟩
    · obtain ⟨_, _, n', _, h1⟩ := (show ObjOk X.prog X.w H s.heap a (.lst ys) from I.hok a _ ea)
      exact PySem.W.kia_tup PySem.W.kitx_list I.kIn ⟨_, h1, rfl⟩ ho e (fun z => nomatch z) fin
    · obtain ⟨_, _, _, o', h1, h2, _⟩ := (show ObjOk X.prog X.w H s.heap a (.tup ys) from I.hok a _ ea)
      exact PySem.W.kia_tup PySem.W.kitx_tuple I.kIn ⟨o', h1, h2⟩ ho e (fun z => nomatch z) fin
  | _ => exact False.elim k
end
end L2
namespace L2
open PySem PySem.Spec PyProof.Rows
theorem PI.or {X : Cx} {tg it : Expr} {wi wi' : TI} (h : PI X tg it wi) (h' : PI X tg it wi') : PI X tg it (fun σ H R => wi σ H R ∨ wi' σ H R) := by
  intro pins s σ H R I q
  rcases q with q | q
  · exact h pins s σ H R I q
  · exact h' pins s σ H R I q
theorem pi_seq {X : Cx} {tg l : Expr} {tl : TE} (hl : PE X l tl) : PI X tg l (fun σ H R => iList X.K tl σ H R ∨ iTup X.K tl σ H R) := PI.or (pi_list hl) (pi_tup hl)
theorem iteFb {c : Bool} {A B : Prop} (hc : c = false) (h : B) : if c = true then A else B := by subst hc; exact iteF h
theorem iteTb {c : Bool} {A B : Prop} (hc : c = true) (h : A) : if c = true then A else B := by subst hc; exact iteT h
theorem same_new {H : Hp} {p : Addr} (h : H p = none) (o : HO) : Same H (upd H p o) := fun b u q => by rw [upd_ne (ne_of_none q h)]; exact q
theorem Same.tup {K : PySem.W.Frag} {H H' : Hp} {a : Addr} {xs : List V} (e : Same H H') (h : SqT K H a xs) : SqT K H' a xs := by
  rcases h with (h | ⟨o, h⟩) | h
  · exact .inl (.inl (e _ _ h))
  · exact .inl (.inr ⟨o, e _ _ h⟩)
  · exact .inr h
/-- all that was tracked is as it was, but at r -/
def SameBut1 (r : Addr) (H H' : Hp) : Prop := ∀ b o, b ≠ r → H b = some o → H' b = some o
end L2
namespace L2
open PySem PySem.Spec PyProof.Rows
theorem for_range3 {n : Nat} {g : TG} {tb : TS} {D : Ends} {σ : St} {H : Hp} (Pv : Nat → St → Hp → Prop) (h0 : Pv 0 σ H)
    (hs : ∀ i σ H, i < n → Pv i σ H → g (.int (0 + i * 2)) σ H fun σ2 H2 => tb { D with nx := Pv (i + 1), ct := Pv (i + 1), bk := D.nx } σ2 H2) (hd : ∀ σ H, Pv n σ H → D.nx σ H) :
    ∃ W : Nat → Nat → St → Hp → Prop, (∃ m, W 0 m σ H) ∧ ∀ i m σ H, W i m σ H →
      ((Itr3 0 2 n).stop i H ∧ D.nx σ H) ∨ ((Itr3 0 2 n).go i H ∧ ∃ N : St → Hp → Prop, (∀ σ' H', N σ' H' → ∃ m', m' < m ∧ W (i + 1) m' σ' H') ∧ ∀ x H', (Itr3 0 2 n).yld i H x H' → g x σ H' fun σ2 H2 => tb { D with nx := N, ct := N, bk := D.nx } σ2 H2) := by
  refine ⟨fun i m σ H => m = n - i ∧ i ≤ n ∧ Pv i σ H, ⟨n, by simp, Nat.zero_le _, h0⟩, ?_⟩
  rintro i m σ H ⟨rfl, hi, p⟩
  by_cases hlt : i < n
  · refine .inr ⟨hlt, Pv (i + 1), fun σ' H' p' => ⟨n - (i + 1), by omega, rfl, hlt, p'⟩, fun x H' y => ?_⟩
    obtain ⟨e, y⟩ := y
    subst e y
    exact hs i σ _ hlt p
  · have e : i = n := by omega
    subst e
    exact .inl ⟨Nat.le_refl _, hd σ H p⟩
end L2
namespace L2
open PySem PySem.Spec PyProof.Rows
section
variable {X : Cx} {K : PySem.W.Frag}
/-! ### the same rules with the written part as a letter (within a comprehension) -/
theorem kix_list (h : X.K = K) : IxR X (rIxL K) := by subst h; exact ix_list
theorem kix_tup (h : X.K = K) : IxR X (rIxT K) := by subst h; exact ix_tup
theorem kix_seq (h : X.K = K) : IxR X (rIx K) := by subst h; exact ix_seq
theorem kcall_len (h : X.K = K) : CallR X (.builtin "len") (fun xs H Q => ∃ p ys, xs = [.ref p] ∧ (SqL K H p ys ∨ SqT K H p ys) ∧ Q (.int ys.length) H) := by subst h; exact call_len_seq
theorem kcall_list (h : X.K = K) : CallR X (.type "list") (fun xs H Q => ∃ p ys, xs = [.ref p] ∧ (SqL K H p ys ∨ SqT K H p ys) ∧ ∀ l, H l = none → Q (.ref l) (upd H l (.lst ys))) := by subst h; exact call_list_of
theorem kop_in (h : X.K = K) : OpR X (compareOp .In) (rIn K false) := by subst h; exact op_in_seq
theorem kop_notIn (h : X.K = K) : OpR X (compareOp .NotIn) (rIn K true) := by subst h; exact op_notIn_seq
theorem kpg_tup {es : List Expr} {k : Nat} {t : TGs} {n : Nat} {pos : Pos} (e : X.K = K) (hc : X.calm = true) (h : PGs X es t)
    (hn : (assignEach es X.env).length = n := by rfl) (hst : (assignEach es X.env).findIdx? (·.1) = none := by rfl) : PG X (.Tuple es k pos) (gTup K n t) := by subst e; exact pg_tup hc h hn hst
end
end L2

namespace MM
/-! ### ends -/
def oth (e : Nat) : Nat := if e % 2 = 0 then e + 1 else e - 1
theorem oth_lt {n e : Nat} (h : e < 2 * n) : oth e < 2 * n := by unfold oth; split <;> omega
theorem oth_oth (e : Nat) : oth (oth e) = e := by unfold oth; split <;> split <;> omega
theorem oth_inj {a b : Nat} (h : oth a = oth b) : a = b := by rw [← oth_oth a, ← oth_oth b, h]
theorem oth_half (e : Nat) : oth e / 2 = e / 2 := by unfold oth; split <;> omega
theorem oth_mod (e : Nat) : oth e % 2 = 1 - e % 2 := by unfold oth; split <;> omega

/-! ### an injective map of 0 .. N - 1 to itself -/
theorem nodup_bound : ∀ (N : Nat) (l : List Nat), l.Nodup → (∀ x ∈ l, x < N) → l.length ≤ N
  | 0, [], _, _ => Nat.le_refl _
  | 0, x :: _, _, h => absurd (h x List.mem_cons_self) (Nat.not_lt_zero _)
  | N + 1, l, nd, h => by
    have ih := nodup_bound N (l.erase N) (nd.erase N) (fun x hx => by
      have h1 := (nd.mem_erase_iff).mp hx
      have h2 := h x h1.2
      omega)
    have hl := List.length_erase (a := N) (l := l)
    split at hl <;> omega

def iter (f : Nat → Nat) : Nat → Nat → Nat
  | 0, e => e
  | n + 1, e => f (iter f n e)
structure Maps (f : Nat → Nat) (N : Nat) : Prop where
  lt : ∀ e, e < N → f e < N
  inj : ∀ a b, a < N → b < N → f a = f b → a = b
theorem iter_lt {f : Nat → Nat} {N : Nat} (m : Maps f N) {e : Nat} (h : e < N) : ∀ k, iter f k e < N
  | 0 => h
  | k + 1 => m.lt _ (iter_lt m h k)
theorem iter_add (f : Nat → Nat) (e : Nat) (i : Nat) : ∀ k, iter f (i + k) e = iter f k (iter f i e)
  | 0 => rfl
  | k + 1 => by show f (iter f (i + k) e) = f (iter f k (iter f i e)); rw [iter_add f e i k]
theorem iter_inj {f : Nat → Nat} {N : Nat} (m : Maps f N) {a b : Nat} (ha : a < N) (hb : b < N) : ∀ k, iter f k a = iter f k b → a = b
  | 0, h => h
  | k + 1, h => iter_inj m ha hb k (m.inj _ _ (iter_lt m ha k) (iter_lt m hb k) h)
/-- the way gone from e so far: k steps, all unlike -/
def path (f : Nat → Nat) (e k : Nat) : List Nat := (List.range k).map fun i => iter f i e
theorem path_len (f : Nat → Nat) (e k : Nat) : (path f e k).length = k := by unfold path; simp
theorem path_succ (f : Nat → Nat) (e k : Nat) : path f e (k + 1) = path f e k ++ [iter f k e] := by unfold path; rw [List.range_succ, List.map_append]; rfl
theorem mem_path {f : Nat → Nat} {e k x : Nat} : x ∈ path f e k ↔ ∃ i, i < k ∧ iter f i e = x := by
  unfold path
  simp [List.mem_map, List.mem_range]
theorem path_nodup {f : Nat → Nat} {N : Nat} (m : Maps f N) {e : Nat} (he : e < N) : ∀ k, (∀ j, 0 < j → j < k → iter f j e ≠ e) → (path f e k).Nodup
  | 0, _ => List.nodup_nil
  | k + 1, h => by
    rw [path_succ]
    have ih := path_nodup m he k (fun j h0 h1 => h j h0 (by omega))
    rw [List.nodup_append]
    refine ⟨ih, by simp, ?_⟩
    intro a ha b hb e1
    have hb' : b = iter f k e := by simpa using hb
    obtain ⟨i, hi, rfl⟩ := mem_path.mp ha
    have q : iter f i e = iter f k e := e1.trans hb'
    have hk : k = (k - i) + i := by omega
    have q2 : iter f i e = iter f i (iter f (k - i) e) := by
      rw [← iter_add, Nat.sub_add_cancel (Nat.le_of_lt hi)]; exact q
    have q3 := iter_inj m he (iter_lt m he _) i q2
    exact h (k - i) (by omega) (by omega) q3.symm
theorem path_lt {f : Nat → Nat} {N : Nat} (m : Maps f N) {e : Nat} (he : e < N) (k : Nat) : ∀ x ∈ path f e k, x < N := fun x hx => by
  obtain ⟨i, _, rfl⟩ := mem_path.mp hx
  exact iter_lt m he i
/-- one comes round -/
theorem comes_round {f : Nat → Nat} {N : Nat} (m : Maps f N) {e : Nat} (he : e < N) : ∃ k, 0 < k ∧ k ≤ N ∧ iter f k e = e := by
  refine Classical.byContradiction fun h => ?_
  have no : ∀ j, 0 < j → j < N + 1 → iter f j e ≠ e := fun j h0 h1 q => h ⟨j, h0, by omega, q⟩
  have nd := path_nodup m he (N + 1) no
  have b := nodup_bound N _ nd (path_lt m he _)
  rw [path_len] at b
  omega
/-- the least number of steps -/
def Round (f : Nat → Nat) (e k : Nat) : Prop := 0 < k ∧ iter f k e = e ∧ ∀ j, 0 < j → j < k → iter f j e ≠ e
theorem round_ex {f : Nat → Nat} {N : Nat} (m : Maps f N) {e : Nat} (he : e < N) : ∃ k, Round f e k ∧ k ≤ N := by
  obtain ⟨k, h0, h1, h2⟩ := comes_round m he
  have : ∀ n k, k ≤ n → 0 < k → iter f k e = e → ∃ k', Round f e k' ∧ k' ≤ k := by
    intro n
    induction n with
    | zero => intro k h1 h2; omega
    | succ n ih =>
      intro k h1 h2 h3
      by_cases q : ∃ j, 0 < j ∧ j < k ∧ iter f j e = e
      · obtain ⟨j, j0, j1, j2⟩ := q
        obtain ⟨k', r, l⟩ := ih j (by omega) j0 j2
        exact ⟨k', r, by omega⟩
      · exact ⟨k, ⟨h2, h3, fun j j0 j1 j2 => q ⟨j, j0, j1, j2⟩⟩, Nat.le_refl _⟩
  obtain ⟨k', r, l⟩ := this k k (Nat.le_refl _) h0 h2
  exact ⟨k', r, by omega⟩
theorem round_uniq {f : Nat → Nat} {e k k' : Nat} (a : Round f e k) (b : Round f e k') : k = k' := by
  rcases Nat.lt_trichotomy k k' with h | h | h
  · exact absurd a.2.1 (b.2.2 k a.1 h)
  · exact h
  · exact absurd b.2.1 (a.2.2 k' b.1 h)
/-- one more step of the way: not round yet -/
theorem round_more {f : Nat → Nat} {e k j : Nat} (r : Round f e k) (h0 : 0 < j) (hj : j ≤ k) (h : iter f j e ≠ e) : j < k := by
  rcases Nat.lt_or_ge j k with q | q
  · exact q
  · have : j = k := by omega
    subst this
    exact absurd r.2.1 h
end MM
namespace MM
/-! ### orders -/
abbrev Ties := List (Nat × Nat)
abbrev Ords := List (List Nat)
def place (ts : Ties) (e : Nat) : Nat := if e % 2 = 0 then (ts.getD (e / 2) (0, 0)).1 else (ts.getD (e / 2) (0, 0)).2
def row (os : Ords) (p : Nat) : List Nat := os.getD p []
/-- the ends 0 .. M - 1, each at its place, once -/
structure GoodP (pl : Nat → Nat) (M : Nat) (os : Ords) : Prop where
  ends : ∀ p e, e ∈ row os p → e < M ∧ pl e = p
  has : ∀ e, e < M → pl e < os.length ∧ e ∈ row os (pl e)
  nd : ∀ p, (row os p).Nodup
  full : ∀ p, p < os.length → row os p ≠ []
  four : ∀ p, (row os p).length ≤ 4
structure Good (ts : Ties) (os : Ords) : Prop where
  g : GoodP (place ts) (2 * ts.length) os
  one : 1 ≤ ts.length
theorem GoodP.congr {pl pl' : Nat → Nat} {M : Nat} {os : Ords} (g : GoodP pl M os) (h : ∀ e, e < M → pl' e = pl e) : GoodP pl' M os where
  ends := fun p e he => by
    have q := g.ends p e he
    exact ⟨q.1, (h e q.1).trans q.2⟩
  has := fun e he => by rw [h e he]; exact g.has e he
  nd := g.nd
  full := g.full
  four := g.four
theorem row_set_same {os : Ords} {a : Nat} {l : List Nat} (h : a < os.length) : row (os.set a l) a = l := by
  unfold row
  simp [List.getD, h]
theorem row_set_ne {os : Ords} {a p : Nat} {l : List Nat} (h : p ≠ a) : row (os.set a l) p = row os p := by
  unfold row
  simp [List.getD, List.getElem?_set_ne (Ne.symm h)]
/-- one more end, at the place a -/
theorem GoodP.add {pl : Nat → Nat} {M : Nat} {os : Ords} (g : GoodP pl M os) {a : Nat} (ha : a < os.length) (hp : pl M = a) {l : List Nat} (hm : ∀ x, x ∈ l ↔ x = M ∨ x ∈ row os a) (hn : l.Nodup) (h4 : l.length ≤ 4) : GoodP pl (M + 1) (os.set a l) where
  ends := fun p e he => by
    by_cases hpa : p = a
    · subst hpa
      rw [row_set_same ha] at he
      rcases (hm e).mp he with rfl | he
      · exact ⟨Nat.lt_succ_self _, hp⟩
      · have q := g.ends _ e he
        exact ⟨by omega, q.2⟩
    · rw [row_set_ne hpa] at he
      have q := g.ends p e he
      exact ⟨by omega, q.2⟩
  has := fun e he => by
    rw [List.length_set]
    rcases Nat.lt_or_ge e M with h | h
    · have q := g.has e h
      refine ⟨q.1, ?_⟩
      by_cases hpa : pl e = a
      · rw [hpa, row_set_same ha]
        exact (hm e).mpr (.inr (hpa ▸ q.2))
      · rw [row_set_ne hpa]; exact q.2
    · have e' : e = M := by omega
      subst e'
      rw [hp, row_set_same ha]
      exact ⟨ha, (hm e).mpr (.inl rfl)⟩
  nd := fun p => by
    by_cases hpa : p = a
    · subst hpa; rw [row_set_same ha]; exact hn
    · rw [row_set_ne hpa]; exact g.nd p
  full := fun p hp' => by
    rw [List.length_set] at hp'
    by_cases hpa : p = a
    · subst hpa
      rw [row_set_same ha]
      intro z
      have : M ∈ l := (hm M).mpr (.inl rfl)
      rw [z] at this
      cases this
    · rw [row_set_ne hpa]; exact g.full p hp'
  four := fun p => by
    by_cases hpa : p = a
    · subst hpa; rw [row_set_same ha]; exact h4
    · rw [row_set_ne hpa]; exact g.four p
theorem row_app {os : Ords} {l : List Nat} (p : Nat) : row (os ++ [l]) p = if p = os.length then l else row os p := by
  unfold row
  rcases Nat.lt_trichotomy p os.length with h | h | h
  · rw [if_neg (by omega)]; simp [List.getD, List.getElem?_append_left h]
  · subst h; simp [List.getD]
  · rw [if_neg (by omega)]
    have h1 : (os ++ [l])[p]? = none := List.getElem?_eq_none (by rw [List.length_append]; simp; omega)
    have h2 : os[p]? = none := List.getElem?_eq_none (by omega)
    simp [List.getD, h1, h2]
/-- one more place, with one end -/
theorem GoodP.new {pl : Nat → Nat} {M : Nat} {os : Ords} (g : GoodP pl M os) (hp : pl M = os.length) : GoodP pl (M + 1) (os ++ [[M]]) where
  ends := fun p e he => by
    rw [row_app] at he
    split at he
    · rename_i h
      have e' : e = M := by simpa using he
      subst e'
      exact ⟨Nat.lt_succ_self _, by rw [hp, h]⟩
    · have q := g.ends p e he
      exact ⟨by omega, q.2⟩
  has := fun e he => by
    rw [List.length_append, row_app]
    rcases Nat.lt_or_ge e M with h | h
    · have q := g.has e h
      rw [if_neg (by omega)]
      exact ⟨by simp; omega, q.2⟩
    · have e' : e = M := by omega
      subst e'
      rw [if_pos hp]
      exact ⟨by simp; omega, by simp⟩
  nd := fun p => by
    rw [row_app]
    split
    · simp
    · exact g.nd p
  full := fun p hp' => by
    rw [row_app]
    split
    · simp
    · rw [List.length_append] at hp'
      simp at hp'
      exact g.full p (by omega)
  four := fun p => by
    rw [row_app]
    split
    · simp
    · exact g.four p
/-- an order whose ends are exchanged -/
theorem GoodP.perm {pl : Nat → Nat} {M : Nat} {os : Ords} (g : GoodP pl M os) {a : Nat} (ha : a < os.length) {l : List Nat} (hm : ∀ x, x ∈ l ↔ x ∈ row os a) (hn : l.Nodup) (hl : l.length = (row os a).length) : GoodP pl M (os.set a l) where
  ends := fun p e he => by
    by_cases hpa : p = a
    · subst hpa; rw [row_set_same ha] at he; exact g.ends _ e ((hm e).mp he)
    · rw [row_set_ne hpa] at he; exact g.ends p e he
  has := fun e he => by
    have q := g.has e he
    rw [List.length_set]
    refine ⟨q.1, ?_⟩
    by_cases hpa : pl e = a
    · rw [hpa, row_set_same ha]; exact (hm e).mpr (hpa ▸ q.2)
    · rw [row_set_ne hpa]; exact q.2
  nd := fun p => by
    by_cases hpa : p = a
    · subst hpa; rw [row_set_same ha]; exact hn
    · rw [row_set_ne hpa]; exact g.nd p
  full := fun p hp' => by
    rw [List.length_set] at hp'
    by_cases hpa : p = a
    · subst hpa
      rw [row_set_same ha]
      intro z
      rw [z] at hl
      exact g.full _ ha (List.length_eq_zero_iff.mp hl.symm)
    · rw [row_set_ne hpa]; exact g.full p hp'
  four := fun p => by
    by_cases hpa : p = a
    · subst hpa; rw [row_set_same ha, hl]; exact g.four _
    · rw [row_set_ne hpa]; exact g.four p

/-! ### the end behind an end -/
def prevIn (l : List Nat) (x : Nat) : Nat := l.getD ((l.idxOf x + l.length - 1) % l.length) 0
theorem prevIn_mem {l : List Nat} {x : Nat} (h : x ∈ l) : prevIn l x ∈ l := by
  have h1 := List.idxOf_lt_length_of_mem h
  have h2 : (l.idxOf x + l.length - 1) % l.length < l.length := Nat.mod_lt _ (by omega)
  unfold prevIn
  simp only [List.getD, List.getElem?_eq_getElem h2, Option.getD_some]
  exact List.getElem_mem h2
theorem prev_ix {i j n : Nat} (hi : i < n) (hj : j < n) (h : (i + n - 1) % n = (j + n - 1) % n) : i = j := by
  have f : ∀ k, k < n → (k + n - 1) % n = if k = 0 then n - 1 else k - 1 := fun k hk => by
    split
    · rename_i h; subst h; rw [Nat.zero_add]; exact Nat.mod_eq_of_lt (by omega)
    · have : k + n - 1 = (k - 1) + n := by omega
      rw [this, Nat.add_mod_right]; exact Nat.mod_eq_of_lt (by omega)
  rw [f i hi, f j hj] at h
  split at h <;> split at h <;> omega
theorem prevIn_inj {l : List Nat} (nd : l.Nodup) {x y : Nat} (hx : x ∈ l) (hy : y ∈ l) (h : prevIn l x = prevIn l y) : x = y := by
  have h1 := List.idxOf_lt_length_of_mem hx
  have h2 := List.idxOf_lt_length_of_mem hy
  have m1 : (l.idxOf x + l.length - 1) % l.length < l.length := Nat.mod_lt _ (by omega)
  have m2 : (l.idxOf y + l.length - 1) % l.length < l.length := Nat.mod_lt _ (by omega)
  unfold prevIn at h
  simp only [List.getD, List.getElem?_eq_getElem m1, List.getElem?_eq_getElem m2, Option.getD_some] at h
  have e := (List.getElem_inj nd).mp h
  have e' := prev_ix h1 h2 e
  have g1 : l[l.idxOf x] = x := List.getElem_idxOf h1
  have g2 : l[l.idxOf y] = y := List.getElem_idxOf h2
  rw [← g1, ← g2]
  simp only [e']
def behind (ts : Ties) (os : Ords) (e : Nat) : Nat := prevIn (row os (place ts (oth e))) (oth e)
theorem Good.behind {ts : Ties} {os : Ords} (g : Good ts os) {e : Nat} (he : e < 2 * ts.length) : behind ts os e < 2 * ts.length ∧ place ts (behind ts os e) = place ts (oth e) := by
  have h := g.g.has (oth e) (oth_lt he)
  exact g.g.ends _ _ (prevIn_mem h.2)
theorem Good.maps {ts : Ties} {os : Ords} (g : Good ts os) : Maps (MM.behind ts os) (2 * ts.length) where
  lt := fun e he => (g.behind he).1
  inj := fun a b ha hb h => by
    have pa := (g.behind ha).2
    have pb := (g.behind hb).2
    rw [h, pb] at pa
    have ma := (g.g.has (oth a) (oth_lt ha)).2
    have mb := (g.g.has (oth b) (oth_lt hb)).2
    unfold MM.behind at h
    rw [← pa] at h ma
    exact oth_inj (prevIn_inj (g.g.nd _) ma mb h)
end MM
namespace MM
open Classical in
noncomputable def per (f : Nat → Nat) (e : Nat) : Nat := if h : ∃ k, Round f e k then Classical.choose h else 1
noncomputable def landOf (f : Nat → Nat) (e : Nat) : List Nat := path f e (per f e)
theorem per_eq {f : Nat → Nat} {e k : Nat} (r : Round f e k) : per f e = k := by
  unfold per
  rw [dif_pos ⟨k, r⟩]
  exact round_uniq (Classical.choose_spec (⟨k, r⟩ : ∃ k, Round f e k)) r
theorem landOf_eq {f : Nat → Nat} {e k : Nat} (r : Round f e k) : landOf f e = path f e k := by unfold landOf; rw [per_eq r]
theorem per_round {f : Nat → Nat} {N : Nat} (m : Maps f N) {e : Nat} (he : e < N) : Round f e (per f e) ∧ per f e ≤ N := by
  obtain ⟨k, r, l⟩ := round_ex m he
  rw [per_eq r]
  exact ⟨r, l⟩
theorem iter_mul {f : Nat → Nat} {e k : Nat} (h : iter f k e = e) : ∀ n, iter f (k * n) e = e
  | 0 => rfl
  | n + 1 => by rw [Nat.mul_succ, Nat.add_comm, iter_add, h]; exact iter_mul h n
theorem iter_mod {f : Nat → Nat} {e k : Nat} (h : iter f k e = e) (j : Nat) : iter f j e = iter f (j % k) e := by
  have e1 : j = k * (j / k) + j % k := (Nat.div_add_mod j k).symm
  have e2 : iter f j e = iter f (k * (j / k) + j % k) e := congrArg (fun z => iter f z e) e1
  rw [e2, iter_add, iter_mul h]
theorem mem_land {f : Nat → Nat} {N : Nat} (m : Maps f N) {x y : Nat} (hx : x < N) : y ∈ landOf f x ↔ ∃ k, iter f k x = y := by
  obtain ⟨r, _⟩ := per_round m hx
  unfold landOf
  rw [mem_path]
  constructor
  · rintro ⟨i, _, h⟩; exact ⟨i, h⟩
  · rintro ⟨k, h⟩
    exact ⟨k % per f x, Nat.mod_lt _ r.1, by rw [← iter_mod r.2.1]; exact h⟩
theorem self_land {f : Nat → Nat} {N : Nat} (m : Maps f N) {x : Nat} (hx : x < N) : x ∈ landOf f x := (mem_land m hx).mpr ⟨0, rfl⟩
theorem land_lt {f : Nat → Nat} {N : Nat} (m : Maps f N) {x : Nat} (hx : x < N) : ∀ y ∈ landOf f x, y < N := path_lt m hx _
theorem land_nodup {f : Nat → Nat} {N : Nat} (m : Maps f N) {x : Nat} (hx : x < N) : (landOf f x).Nodup := path_nodup m hx _ (per_round m hx).1.2.2
theorem land_len {f : Nat → Nat} {N : Nat} (m : Maps f N) {x : Nat} (hx : x < N) : 0 < (landOf f x).length ∧ (landOf f x).length ≤ N := by
  unfold landOf
  rw [path_len]
  exact ⟨(per_round m hx).1.1, (per_round m hx).2⟩
theorem land_symm {f : Nat → Nat} {N : Nat} (m : Maps f N) {x y : Nat} (hx : x < N) (h : y ∈ landOf f x) : x ∈ landOf f y := by
  have hy := land_lt m hx y h
  obtain ⟨k, rfl⟩ := (mem_land m hx).mp h
  obtain ⟨r, _⟩ := per_round m hx
  refine (mem_land m hy).mpr ⟨per f x * (k + 1) - k, ?_⟩
  have hk : k ≤ per f x * (k + 1) := by
    have := Nat.le_mul_of_pos_left (k + 1) r.1
    omega
  rw [← iter_add, Nat.add_sub_cancel' hk]
  exact iter_mul r.2.1 _
theorem land_trans {f : Nat → Nat} {N : Nat} (m : Maps f N) {x y z : Nat} (hx : x < N) (h1 : y ∈ landOf f x) (h2 : z ∈ landOf f y) : z ∈ landOf f x := by
  have hy := land_lt m hx y h1
  obtain ⟨k, rfl⟩ := (mem_land m hx).mp h1
  obtain ⟨j, rfl⟩ := (mem_land m hy).mp h2
  exact (mem_land m hx).mpr ⟨k + j, iter_add f x k j⟩

/-! ### the lands -/
noncomputable def landsFrom (f : Nat → Nat) : Nat → List Nat → List (List Nat)
  | 0, _ => []
  | _, [] => []
  | n + 1, e :: r => landOf f e :: landsFrom f n ((e :: r).filter fun x => decide (x ∉ landOf f e))
theorem landsFrom_nil (f : Nat → Nat) (n : Nat) : landsFrom f n [] = [] := by cases n <;> rfl
theorem filter_shorter {f : Nat → Nat} {N : Nat} (m : Maps f N) {e : Nat} (he : e < N) (r : List Nat) : ((e :: r).filter fun x => decide (x ∉ landOf f e)).length ≤ r.length := by
  rw [List.filter_cons, if_neg (by simp [self_land m he])]
  exact List.length_filter_le _ _
theorem landsFrom_fuel {f : Nat → Nat} {N : Nat} (m : Maps f N) : ∀ (n : Nat) (k : Nat) (l : List Nat), (∀ x ∈ l, x < N) → l.length ≤ n → l.length ≤ k → landsFrom f n l = landsFrom f k l
  | 0, k, l, _, h, _ => by
    have e : l = [] := List.length_eq_zero_iff.mp (by omega)
    subst e
    rw [landsFrom_nil, landsFrom_nil]
  | n + 1, k, [], _, _, _ => by rw [landsFrom_nil, landsFrom_nil]
  | n + 1, 0, e :: r, _, _, h => by simp at h
  | n + 1, k + 1, e :: r, hl, h1, h2 => by
    have he := hl e List.mem_cons_self
    have s := filter_shorter m he r
    simp only [List.length_cons] at h1 h2
    show landOf f e :: landsFrom f n _ = landOf f e :: landsFrom f k _
    rw [landsFrom_fuel m n k _ (fun x hx => hl x (List.mem_filter.mp hx).1) (by omega) (by omega)]
noncomputable def lf (f : Nat → Nat) (l : List Nat) : List (List Nat) := landsFrom f l.length l
theorem lf_nil (f : Nat → Nat) : lf f [] = [] := rfl
theorem lf_cons {f : Nat → Nat} {N : Nat} (m : Maps f N) {e : Nat} {r : List Nat} (hl : ∀ x ∈ e :: r, x < N) : lf f (e :: r) = landOf f e :: lf f ((e :: r).filter fun x => decide (x ∉ landOf f e)) := by
  unfold lf
  show landOf f e :: landsFrom f r.length _ = _
  rw [landsFrom_fuel m r.length _ _ (fun x hx => hl x (List.mem_filter.mp hx).1) (filter_shorter m (hl e List.mem_cons_self) r) (Nat.le_refl _)]
/-- all lands -/
noncomputable def landsOf (f : Nat → Nat) (N : Nat) : List (List Nat) := lf f (List.range N)
/-- each land is one of an end that is left, and they are few -/
theorem lf_mem {f : Nat → Nat} {N : Nat} (m : Maps f N) : ∀ (n : Nat) (l : List Nat), l.length ≤ n → (∀ x ∈ l, x < N) → ∀ d ∈ lf f l, ∃ e ∈ l, d = landOf f e
  | 0, l, h, _, d, hd => by
    have e : l = [] := List.length_eq_zero_iff.mp (by omega)
    subst e
    cases hd
  | n + 1, [], _, _, d, hd => by cases hd
  | n + 1, e :: r, h, hl, d, hd => by
    rw [lf_cons m hl] at hd
    rcases List.mem_cons.mp hd with rfl | hd
    · exact ⟨e, List.mem_cons_self, rfl⟩
    · have s := filter_shorter m (hl e List.mem_cons_self) r
      simp only [List.length_cons] at h
      obtain ⟨x, hx, q⟩ := lf_mem m n _ (by omega) (fun x hx => hl x (List.mem_filter.mp hx).1) d hd
      exact ⟨x, (List.mem_filter.mp hx).1, q⟩
theorem lf_len {f : Nat → Nat} {N : Nat} (m : Maps f N) : ∀ (n : Nat) (l : List Nat), l.length ≤ n → (∀ x ∈ l, x < N) → (lf f l).length ≤ l.length
  | 0, l, h, _ => by
    have e : l = [] := List.length_eq_zero_iff.mp (by omega)
    subst e
    exact Nat.le_refl _
  | n + 1, [], _, _ => Nat.le_refl _
  | n + 1, e :: r, h, hl => by
    rw [lf_cons m hl]
    have s := filter_shorter m (hl e List.mem_cons_self) r
    simp only [List.length_cons] at h ⊢
    have ih := lf_len m n _ (Nat.le_trans s (by omega)) (fun x hx => hl x (List.mem_filter.mp hx).1)
    omega
/-- an end that is left is in just one of the lands: the k-th -/
theorem lf_one {f : Nat → Nat} {N : Nat} (m : Maps f N) : ∀ (n : Nat) (l : List Nat), l.length ≤ n → (∀ x ∈ l, x < N) → ∀ x ∈ l, ∃ (k : Nat) (d : List Nat), (lf f l)[k]? = some d ∧ x ∈ d ∧ ∀ (j : Nat) (d' : List Nat), (lf f l)[j]? = some d' → x ∈ d' → j = k
  | 0, l, h, _, x, hx => by
    have e : l = [] := List.length_eq_zero_iff.mp (by omega)
    subst e
    cases hx
  | n + 1, [], _, _, x, hx => by cases hx
  | n + 1, e :: r, h, hl, x, hx => by
    have he := hl e List.mem_cons_self
    have hxN := hl x hx
    have s := filter_shorter m he r
    simp only [List.length_cons] at h
    rw [lf_cons m hl]
    by_cases q : x ∈ landOf f e
    · refine ⟨0, _, rfl, q, fun j d' hj hd => ?_⟩
      cases j with
      | zero => rfl
      | succ j =>
        rw [List.getElem?_cons_succ] at hj
        obtain ⟨y, hy, rfl⟩ := lf_mem m _ _ (Nat.le_refl _) (fun z hz => hl z (List.mem_filter.mp hz).1) d' (List.mem_of_getElem? hj)
        obtain ⟨hy1, hy2⟩ := List.mem_filter.mp hy
        have hy2' : y ∉ landOf f e := by simpa using hy2
        exact absurd (land_trans m he q (land_symm m (hl y hy1) hd)) hy2'
    · have hx' : x ∈ (e :: r).filter fun z => decide (z ∉ landOf f e) := List.mem_filter.mpr ⟨hx, by simpa using q⟩
      obtain ⟨k, d, h1, h2, h3⟩ := lf_one m n _ (by omega) (fun z hz => hl z (List.mem_filter.mp hz).1) x hx'
      refine ⟨k + 1, d, by rw [List.getElem?_cons_succ]; exact h1, h2, fun j d' hj hd => ?_⟩
      cases j with
      | zero =>
        rw [List.getElem?_cons_zero] at hj
        cases hj
        exact absurd hd q
      | succ j =>
        rw [List.getElem?_cons_succ] at hj
        rw [h3 j d' hj hd]
end MM

set_option Elab.async false
set_option linter.all false
set_option maxRecDepth 100000
set_option maxHeartbeats 4000000
namespace L2
open PySem PySem.Spec PyProof.Rows
/-! ### ints of natural numbers -/
abbrev vn (n : Nat) : V := .int (n : Int)
abbrev vns (l : List Nat) : List V := l.map vn
theorem vns_ints (l : List Nat) : vns l = (l.map fun n : Nat => (n : Int)).map V.int := by rw [List.map_map]; rfl
section
variable {X : Cx}
/-! ### xs.index(v), xs.insert(i, v) -/
def rIndex : V → List V → Hp → VK → Prop := fun x vs H Q => ∃ (l : Addr) (ns : List Nat) (v : Nat), x = .ref l ∧ vs = [vn v] ∧ H l = some (.lst (vns ns)) ∧ v ∈ ns ∧ Q (vn (ns.idxOf v)) H
theorem mt_index : MtM X "list.index" rIndex := by
  intro pins s σ H x vs v us Q I rx rv h
  obtain ⟨l, ns, k, rfl, rfl, hH, hm, q⟩ := h
  cases rx
  obtain ⟨u, rfl, t, rfl⟩ := rv.one
  obtain ⟨z, its, n, r, hl, e⟩ := I.lstM hH
  have hlen : its.length = ns.length := by rw [← hl]; simp
  have hj : ns.idxOf k < ns.length := List.idxOf_lt_length_of_mem hm
  have item : ∀ (m : Nat) (hm : m < its.toArray.size), eqU (vn k) its.toArray[m] = (ns[m]'(by simpa [hlen] using hm) == k) := fun m hm' => by
    have hm2 : m < ns.length := by simpa [hlen] using hm'
    have hx : (vns ns)[m]? = some (vn ns[m]) := by rw [List.getElem?_map, List.getElem?_eq_getElem hm2]; rfl
    obtain ⟨u', hu', ru'⟩ := r.get hx
    have e1 : its.toArray[m] = u' := by
      have : its[m]? = some its.toArray[m] := by simp at hm' ⊢
      rw [this] at hu'; exact Option.some.inj hu'
    rw [e1, eqU_of ru' rfl]
    show ((ns[m] : Int) == (k : Int)) = (ns[m] == k)
    rw [Bool.eq_iff_iff]
    simp only [beq_iff_eq]
    omega
  have hsm : ((ns.idxOf k : Nat) : Int) < 2 ^ 63 - 1 := by
    have h1 := line63
    have h2 : (vns ns).length = ns.length := by simp
    omega
  refine call_meets F.slot_list_index ⟨_, e, rfl⟩ F.entry_list_index (F.args_list_index_2 _ _) (SeqAt.list_indexAt l its.toArray n none #[] (.int k t) (eqU (vn k)) (ns.idxOf k) (by simpa [hlen] using hj) hsm ?_ ?_) ⟨e, fun y hy => ?_, ?_⟩
  · rw [item]
    simp
  · intro m hm' hlt
    rw [item]
    have := List.not_of_lt_findIdx (p := (· == k)) (xs := ns) (i := m) hlt
    simpa using this
  · have fl : (vns ns).all flatV = true := by rw [List.all_eq_true]; intro y hy; obtain ⟨n, _, rfl⟩ := List.mem_map.mp hy; rfl
    exact mem_eqAt (x := vn k) ⟨t, rfl⟩ rfl r fl y (by simpa using hy)
  · exact ⟨vn (ns.idxOf k), H, I.tok _, ⟨_, rfl⟩, q⟩
def insAt {α : Type} (l : List α) (i : Nat) (x : α) : List α := l.take i ++ x :: l.drop i
def rInsert : V → List V → Hp → VK → Prop := fun x vs H Q => ∃ (l : Addr) (xs : List V) (i : Nat) (y : V), x = .ref l ∧ vs = [vn i, y] ∧ H l = some (.lst xs) ∧ i ≤ xs.length ∧ xs.length < sizeLine ∧ Q .non (upd H l (.lst (insAt xs i y)))
theorem mt_insert : MtM X "list.insert" rInsert := by
  intro pins s σ H x vs v us Q I rx rv h
  obtain ⟨l, xs, i, y, rfl, rfl, hH, hi, hz, q⟩ := h
  cases rx
  obtain ⟨u1, u2, rfl, ⟨t, rfl⟩, r2⟩ := rv.two
  obtain ⟨z, its, n, r, hl, e⟩ := I.lstM hH
  have hfit : Builtin.List.listFitsIndex (i : Int) = true := by
    unfold Builtin.List.listFitsIndex
    have := line63
    simp only [Bool.and_eq_true, decide_eq_true_eq]
    omega
  have hc0 : ¬(!Builtin.List.listFitsIndex (i : Int)) = true := by rw [hfit]; exact Bool.false_ne_true
  have hz1 : its.toArray.size ≤ sizeLine := by rw [List.size_toArray]; omega
  obtain ⟨w, hw⟩ : ∃ w : Int, w = (i : Int) := ⟨_, rfl⟩
  rw [← hw] at hc0
  have mm := PySem.AutoSeq1.list_insert_list_int_val_1 l its.toArray n w t u2 hc0 hz1
  rw [← hw]
  refine call_meets F.slot_list_insert ⟨_, e, rfl⟩ F.entry_list_insert (F.args_list_insert_3 _ _ _) mm ⟨e, ?_⟩
  refine ⟨.non, _, I.lset (its' := insAt its i u2) (ys := insAt xs i y) (t' := s.toks) hH e ?_ ?_ ?_, rfl, q⟩
  · have hk : (if w < 0 then (w + (its.toArray.size : Int)).toNat else min w.toNat its.toArray.size) = i := by
      rw [if_neg (by omega), List.size_toArray]
      omega
    show (its.toArray.extract 0 (if w < 0 then (w + (its.toArray.size : Int)).toNat else min w.toNat its.toArray.size)).push u2 ++ its.toArray.extract (if w < 0 then (w + (its.toArray.size : Int)).toNat else min w.toNat its.toArray.size) = _
    rw [hk]
    unfold insAt
    simp
    exact List.take_of_length_le (by simp)
  · unfold insAt
    exact Vals.append (r.take _) (.cons r2 (r.drop _))
  · unfold insAt
    rw [List.length_append, List.length_cons, List.length_take, List.length_drop]
    omega
/-! ### range(n) as a thing, list of it -/
theorem vals_by : ∀ {xs : List V} {us : List Value}, xs.length = us.length → (∀ (j : Nat) x u, xs[j]? = some x → us[j]? = some u → RelV x u) → Vals xs us
  | [], [], _, _ => .nil
  | x :: xs, u :: us, hl, h => .cons (h 0 x u rfl rfl) (vals_by (by simpa using hl) fun j y v h1 h2 => h (j + 1) y v (by simpa using h1) (by simpa using h2))
theorem call_range1 : CallR X (.type "range") (fun xs H Q => ∃ j : Int, xs = [.int j] ∧ ∀ p, H p = none → Q (.ref p) (upd H p (.rng 0 j))) := by
  intro pins s σ H xs us Q I r h
  obtain ⟨j, rfl, q⟩ := h
  obtain ⟨u, rfl, t, rfl⟩ := vals1 r
  refine call_range_1 ?_
  refine ⟨.ref s.heap.objs.size, _, I.laid (o := .rng 0 j) (fun b o e => Heap.get?_push_of_some _ e) (Nat.le_refl _) ⟨_, _, _, Heap.get?_push_size _ rfl⟩, rfl, q _ I.fresh⟩
theorem call_list_rng (hc : X.calm = true) : CallR X (.type "list") (fun xs H Q => ∃ (p : Addr) (n : Nat), xs = [.ref p] ∧ H p = some (.rng 0 n) ∧ n ≤ 10000 ∧ ∀ l, H l = none → Q (.ref l) (upd H l (.lst (vns (List.range n))))) := by
  intro pins s σ H xs us Q I r h
  obtain ⟨p, n, rfl, hp, hn, q⟩ := h
  obtain ⟨u, rfl, rx⟩ := vals1 r
  cases rx
  obtain ⟨t, u, v, e⟩ := (show ObjOk X.prog X.w H s.heap p (.rng 0 n) from I.hok p _ hp)
  have hsz : Builtin.Range.rangeSize 0 (n : Int) 1 = n := by rw [rangeSize_one]; split <;> omega
  refine call_list_range (I.ok.hd hc) (show IsRange s.heap p 0 n 1 t u v from e) (small_one (by omega) (by omega) (by omega) (by omega)) hsz (by omega) fun h' tk acc c' k e' it => ?_
  have hv : Vals (vns (List.range n)) acc.toList := by
    refine vals_by (by simp [it.1]) fun j x u hx hu => ?_
    rw [List.getElem?_map] at hx
    obtain ⟨m, hm, rfl⟩ := Option.map_eq_some_iff.mp hx
    obtain ⟨hj, rfl⟩ := List.getElem?_eq_some_iff.mp hm
    obtain ⟨t, rfl⟩ := it.2 j u (by simpa using hu)
    exact ⟨t, by simp⟩
  exact ⟨.ref s.heap.objs.size, _, I.laid (t' := tk) k (Nat.le_refl _) (show ObjOk X.prog X.w _ h' _ (.lst (vns (List.range n))) from ⟨by simp; exact Nat.le_trans hn (by decide), acc.toList, c', hv, by rw [e']⟩), rfl, q _ I.fresh⟩
end
/-! ### a map in the heap -/
def TsAt (H : Hp) (a : Addr) (ts : MM.Ties) : Prop := ∃ tr : List Addr, H a = some (.lst (tr.map V.ref)) ∧ tr.length = ts.length ∧ ∀ (i : Nat) t, ts[i]? = some t → ∃ r, tr[i]? = some r ∧ H r = some (.tup [vn t.1, vn t.2])
def OsAt (H : Hp) (a : Addr) (os : MM.Ords) : Prop := ∃ rr : List Addr, H a = some (.lst (rr.map V.ref)) ∧ rr.length = os.length ∧ ∀ (i : Nat) l, os[i]? = some l → ∃ r, rr[i]? = some r ∧ H r = some (.lst (vns l))
theorem Same.ts {H H' : Hp} (g : Same H H') {a : Addr} {ts : MM.Ties} (h : TsAt H a ts) : TsAt H' a ts := by
  obtain ⟨tr, h1, h2, h3⟩ := h
  exact ⟨tr, g _ _ h1, h2, fun i t ht => by obtain ⟨r, q1, q2⟩ := h3 i t ht; exact ⟨r, q1, g _ _ q2⟩⟩
theorem Same.os {H H' : Hp} (g : Same H H') {a : Addr} {os : MM.Ords} (h : OsAt H a os) : OsAt H' a os := by
  obtain ⟨tr, h1, h2, h3⟩ := h
  exact ⟨tr, g _ _ h1, h2, fun i t ht => by obtain ⟨r, q1, q2⟩ := h3 i t ht; exact ⟨r, q1, g _ _ q2⟩⟩
theorem TsAt.item {H : Hp} {a : Addr} {ts : MM.Ties} (h : TsAt H a ts) {i : Nat} (hi : i < ts.length) : ∃ xs r, H a = some (.lst xs) ∧ xs.length = ts.length ∧ atI xs (i : Int) = some (.ref r) ∧ H r = some (.tup [vn (ts.getD i (0, 0)).1, vn (ts.getD i (0, 0)).2]) := by
  obtain ⟨tr, h1, h2, h3⟩ := h
  obtain ⟨r, q1, q2⟩ := h3 i ts[i] (List.getElem?_eq_getElem hi)
  refine ⟨_, r, h1, by rw [List.length_map]; exact h2, atI_nat (by rw [List.getElem?_map, q1]; rfl), ?_⟩
  simp only [List.getD, List.getElem?_eq_getElem hi, Option.getD_some]
  exact q2
theorem OsAt.item {H : Hp} {a : Addr} {os : MM.Ords} (h : OsAt H a os) {i : Nat} (hi : i < os.length) : ∃ xs r, H a = some (.lst xs) ∧ xs.length = os.length ∧ atI xs (i : Int) = some (.ref r) ∧ H r = some (.lst (vns (MM.row os i))) := by
  obtain ⟨tr, h1, h2, h3⟩ := h
  obtain ⟨r, q1, q2⟩ := h3 i os[i] (List.getElem?_eq_getElem hi)
  refine ⟨_, r, h1, by rw [List.length_map]; exact h2, atI_nat (by rw [List.getElem?_map, q1]; rfl), ?_⟩
  unfold MM.row
  simp only [List.getD, List.getElem?_eq_getElem hi, Option.getD_some]
  exact q2
theorem at_vns {l : List Nat} {j : Nat} (h : j < l.length) {k : Int} (hk : k = (j : Int)) : atI (vns l) k = some (vn (l.getD j 0)) := by
  subst hk
  exact atI_nat (by rw [List.getElem?_map, List.getElem?_eq_getElem h]; simp [List.getD, h])
/-- order[order.index(x) - 1] -/
theorem at_prev {l : List Nat} {x : Nat} (h : x ∈ l) : atI (vns l) ((l.idxOf x : Nat) - 1 : Int) = some (vn (MM.prevIn l x)) := by
  have h1 := List.idxOf_lt_length_of_mem h
  unfold MM.prevIn
  rcases Nat.eq_zero_or_pos (l.idxOf x) with q | q
  · have e : (l.idxOf x + l.length - 1) % l.length = l.length - 1 := by rw [q, Nat.zero_add]; exact Nat.mod_eq_of_lt (by omega)
    rw [e]
    unfold atI ixN
    rw [if_neg (by omega), if_pos (by simp; omega)]
    have e2 : ((l.idxOf x : Nat) - 1 + ((vns l).length : Int)).toNat = l.length - 1 := by simp; omega
    show (vns l)[((l.idxOf x : Nat) - 1 + ((vns l).length : Int)).toNat]? = _
    rw [e2, List.getElem?_map, List.getElem?_eq_getElem (by omega)]
    have : l.length - 1 < l.length := by omega
    simp [List.getD, this]
  · have e : (l.idxOf x + l.length - 1) % l.length = l.idxOf x - 1 := by
      have : l.idxOf x + l.length - 1 = (l.idxOf x - 1) + l.length := by omega
      rw [this, Nat.add_mod_right]; exact Nat.mod_eq_of_lt (by omega)
    rw [e]
    exact at_vns (by omega) (by omega)
end L2

set_option linter.all false
set_option maxRecDepth 100000
set_option maxHeartbeats 4000000

namespace L2
open PySem PySem.Spec PyProof.Rows
/-! ### comprehensions whose items are told by a relation -/
theorem comp_rel {J : It} {js : List (Option Nat)} {σ : St} {H1 : Hp} {R : Hp → Prop} {D : Addr} {g : TG} {te : TE} (n : Nat) (Pe : Nat → V → Prop) (hD : H1 D = none) (hn : n ≤ 100000)
    (go : ∀ i H', i < n → Same H1 H' → J.go i H') (stop : ∀ H', Same H1 H' → J.stop n H')
    (hs : ∀ i H' x H'' (k : V → Hp → Prop), i < n → Same H1 H' → J.yld i H' x H'' → (∀ v H4, Pe i v → Same H' H4 → k v H4) → g x (inner js σ) H'' fun σ2 H2 => Fills (inner js σ) σ2 ∧ te σ2 H2 k)
    (hd : ∀ vs H', vs.length = n → (∀ (i : Nat) v, vs[i]? = some v → Pe i v) → Same H1 H' → H' D = some (.lst vs) → R H') :
    ∃ W : Nat → Nat → List V → Hp → Prop, (∃ m, W 0 m [] (upd H1 D (.lst []))) ∧
      ∀ i m ys H, W i m ys H → (J.stop i H ∧ R H) ∨ (J.go i H ∧ ∃ N : List V → Hp → Prop, (∀ ys' H', N ys' H' → ∃ m', m' < m ∧ W (i + 1) m' ys' H') ∧ ∀ x H', J.yld i H x H' → g x (inner js σ) H' fun σ2 H2 => Fills (inner js σ) σ2 ∧ tTrue σ2 H2 fun b H3 =>
        if b = true then te σ2 H3 fun y H4 => H4 D = some (.lst ys) ∧ ys.length < sizeLine ∧ N (ys ++ [y]) (upd H4 D (.lst (ys ++ [y]))) else N ys H3) := by
  refine comp_map n (fun i ys H' => ys.length = i ∧ (∀ (j : Nat) v, ys[j]? = some v → Pe j v) ∧ Same H1 H' ∧ H' D = some (.lst ys)) ⟨rfl, fun j v h => by simp at h, same_new hD _, upd_same⟩ ?_ ?_
  · rintro i ys H' hi ⟨hl, hp, g1, hD'⟩
    refine ⟨go i H' hi g1, fun x H'' hy => hs i H' x H'' _ hi g1 hy fun v H4 hv g4 => ⟨g4 _ _ hD', ?_, ?_, ?_, ?_, upd_same⟩⟩
    · rw [hl]; exact Nat.lt_of_lt_of_le hi (Nat.le_trans hn (by decide))
    · rw [List.length_append, hl]; rfl
    · intro j v' h
      by_cases hj : j < ys.length
      · rw [List.getElem?_append_left hj] at h; exact hp j v' h
      · rw [List.getElem?_append_right (by omega)] at h
        have hj2 : j - ys.length = 0 := by
          have := (List.getElem?_eq_some_iff.mp h).1
          simp at this; omega
        rw [hj2] at h
        simp at h
        subst h
        have : j = i := by omega
        subst this
        exact hv
    · exact fun b o h => by rw [upd_ne (ne_of_none h hD)]; exact g4 _ _ (g1 _ _ h)
  · rintro ys H' ⟨hl, hp, g1, hD'⟩
    exact ⟨stop H' g1, hd ys H' hl hp g1 hD'⟩
theorem rel_fun {vs : List V} {n : Nat} {fs : Nat → V} (hl : vs.length = n) (h : ∀ (i : Nat) v, vs[i]? = some v → v = fs i) : vs = (List.range n).map fs := by
  apply List.ext_getElem?
  intro i
  by_cases hi : i < n
  · rw [List.getElem?_map, List.getElem?_range hi]
    obtain ⟨v, hv⟩ : ∃ v, vs[i]? = some v := ⟨vs[i], List.getElem?_eq_getElem (by omega)⟩
    rw [hv, h i v hv]; rfl
  · rw [List.getElem?_eq_none (by omega), List.getElem?_eq_none (by simp; omega)]
/-- a function of the turn -/
theorem comp_pure {J : It} {js : List (Option Nat)} {σ : St} {H1 : Hp} {R : Hp → Prop} {D : Addr} {g : TG} {te : TE} (n : Nat) (fs : Nat → V) (hD : H1 D = none) (hn : n ≤ 100000)
    (go : ∀ i H', i < n → Same H1 H' → J.go i H') (stop : ∀ H', Same H1 H' → J.stop n H')
    (hs : ∀ i H' x H'' (k : V → Hp → Prop), i < n → Same H1 H' → J.yld i H' x H'' → (∀ H4, Same H' H4 → k (fs i) H4) → g x (inner js σ) H'' fun σ2 H2 => Fills (inner js σ) σ2 ∧ te σ2 H2 k)
    (hd : ∀ H', Same H1 H' → H' D = some (.lst ((List.range n).map fs)) → R H') :
    ∃ W : Nat → Nat → List V → Hp → Prop, (∃ m, W 0 m [] (upd H1 D (.lst []))) ∧
      ∀ i m ys H, W i m ys H → (J.stop i H ∧ R H) ∨ (J.go i H ∧ ∃ N : List V → Hp → Prop, (∀ ys' H', N ys' H' → ∃ m', m' < m ∧ W (i + 1) m' ys' H') ∧ ∀ x H', J.yld i H x H' → g x (inner js σ) H' fun σ2 H2 => Fills (inner js σ) σ2 ∧ tTrue σ2 H2 fun b H3 =>
        if b = true then te σ2 H3 fun y H4 => H4 D = some (.lst ys) ∧ ys.length < sizeLine ∧ N (ys ++ [y]) (upd H4 D (.lst (ys ++ [y]))) else N ys H3) :=
  comp_rel n (fun i v => v = fs i) hD hn go stop (fun i H' x H'' k hi g1 hy hk => hs i H' x H'' k hi g1 hy fun H4 g4 => hk _ _ rfl g4)
    fun vs H' hl hp g1 e => hd H' g1 (by rw [e, rel_fun hl hp])
/-! ### numbers, numbers or None -/
def at0 (ls : List Int) (j : Nat) : Int := ls.getD j 0
theorem at_get {ls : List Int} {j : Nat} (h : j < ls.length) : (ls.map V.int)[j]? = some (.int (at0 ls j)) := by
  unfold at0
  rw [List.getElem?_map, List.getElem?_eq_getElem h]
  simp [List.getD, h]
theorem at0_mem {ls : List Int} {j : Nat} (h : j < ls.length) : at0 ls j ∈ ls := by
  unfold at0; simp [List.getD, h]
theorem atI_get0 {ls : List Int} {j : Nat} (h : j < ls.length) {k : Int} (hk : k = (j : Int)) : atI (ls.map V.int) k = some (.int (at0 ls j)) := by
  subst hk; exact atI_nat (at_get h)
def vo : Option Int → V
  | none => .non
  | some i => .int i
abbrev vos (l : List (Option Int)) : List V := l.map vo
def ov (l : List (Option Int)) (j : Nat) : Option Int := l.getD j none
theorem at_vo {l : List (Option Int)} {j : Nat} (h : j < l.length) : (vos l)[j]? = some (vo (ov l j)) := by
  unfold ov vos
  rw [List.getElem?_map, List.getElem?_eq_getElem h]
  simp [List.getD, h]
theorem atI_vo {l : List (Option Int)} {j : Nat} (h : j < l.length) {k : Int} (hk : k = (j : Int)) : atI (vos l) k = some (vo (ov l j)) := by
  subst hk; exact atI_nat (at_vo h)
theorem ov_mem {l : List (Option Int)} {j : Nat} (h : j < l.length) : ov l j ∈ l := by
  unfold ov; simp [List.getD, h]
theorem vos_set (l : List (Option Int)) (j : Nat) (o : Option Int) : (vos l).set j (vo o) = vos (l.set j o) := by unfold vos; rw [List.map_set]
theorem vos_app (l : List (Option Int)) (o : Option Int) : vos l ++ [vo o] = vos (l ++ [o]) := by unfold vos; rw [List.map_append]; rfl
theorem ixN_ok {n j : Nat} {k : Int} (h : j < n) (hk : k = (j : Int)) : ixN n k = some j := by
  subst hk
  unfold ixN
  rw [if_pos (by omega), if_pos (by omega)]
  simp
def dvo : Option Int → PyData
  | none => .none
  | some i => .int i
theorem Bds.vos {K : PySem.W.Frag} {H : Hp} : ∀ l : List (Option Int), Bds K H (vos l) (l.map dvo)
  | [] => .nil
  | none :: ns => .cons .non (Bds.vos ns)
  | some n :: ns => .cons (.int n) (Bds.vos ns)
theorem bd_ints {K : PySem.W.Frag} {H : Hp} {a : Addr} {ns : List Int} (h : H a = some (.lst (ns.map V.int))) : Bd K H (.ref a) (.list (ns.map PyData.int)) := .lst (SqL.of h) (Bds.ints ns)
theorem bd_vos {K : PySem.W.Frag} {H : Hp} {a : Addr} {ns : List (Option Int)} (h : H a = some (.lst (vos ns))) : Bd K H (.ref a) (.list (ns.map dvo)) := .lst (SqL.of h) (Bds.vos ns)
theorem lay_all {ds : List PyData} (n : Nat) (h : ∀ d ∈ ds, d.canLay0 = true ∧ d.depth ≤ n) : PyData.canLayAll0 ds = true ∧ PyData.depthAll ds ≤ n := by
  induction ds with
  | nil => exact ⟨rfl, Nat.zero_le _⟩
  | cons d ds ih =>
    have h1 := h d List.mem_cons_self
    have h2 := ih fun x hx => h x (List.mem_cons_of_mem _ hx)
    refine ⟨by rw [PyData.canLayAll0, h1.1, h2.1]; rfl, ?_⟩
    rw [PyData.depthAll]
    exact Nat.max_le.mpr ⟨h1.2, h2.2⟩
theorem lay_ints (ns : List Int) : PyData.canLayAll0 (ns.map PyData.int) = true ∧ PyData.depthAll (ns.map PyData.int) ≤ 2 := lay_all 2 fun d hd => by
  obtain ⟨n, _, rfl⟩ := List.mem_map.mp hd
  exact ⟨rfl, by simp [PyData.depth]⟩
theorem lay_vos (ns : List (Option Int)) : PyData.canLayAll0 (ns.map dvo) = true ∧ PyData.depthAll (ns.map dvo) ≤ 2 := lay_all 2 fun d hd => by
  obtain ⟨n, _, rfl⟩ := List.mem_map.mp hd
  cases n with
  | none => exact ⟨rfl, by simp [dvo, PyData.depth]⟩
  | some i => exact ⟨rfl, by simp [dvo, PyData.depth]⟩
/-- an `if` ahead of a long rest -/
theorem via {tt r : TS} {D : Ends} {σ : St} {H : Hp} (I : St → Hp → Prop) (ht : (∀ σ' H', I σ' H' → r D σ' H') → tt { D with nx := r D } σ H) (hr : ∀ σ' H', I σ' H' → r D σ' H') : tSeq tt r D σ H := ht hr
theorem rel_ints {vs : List V} (h : ∀ (i : Nat) v, vs[i]? = some v → ∃ z : Int, v = .int z) : ∃ cs : List Int, vs = cs.map V.int ∧ cs.length = vs.length := by
  induction vs with
  | nil => exact ⟨[], rfl, rfl⟩
  | cons v vs ih =>
    obtain ⟨z, rfl⟩ := h 0 v rfl
    obtain ⟨cs, h1, h2⟩ := ih fun i v hv => h (i + 1) v (by simpa using hv)
    exact ⟨z :: cs, by rw [h1]; rfl, by simp [h2]⟩
theorem shaped_ints (ns : List Int) : SeqAt.shaped (.list (ns.map PyData.int)) = true := by
  have h := lay_ints ns
  unfold SeqAt.shaped
  rw [Bool.and_eq_true]
  refine ⟨h.1, decide_eq_true ?_⟩
  rw [PyData.depth]
  omega
theorem for_enum {K : PySem.W.Frag} {a : Addr} {xs : List V} {g : TG} {tb : TS} {D : Ends} {σ : St} {H : Hp} (Pv : Nat → St → Hp → Prop) (h0 : Pv 0 σ H) (hl : ∀ i σ H, i ≤ xs.length → Pv i σ H → SqL K H a xs)
    (hs : ∀ (i : Nat) x σ H T, xs[i]? = some x → Pv i σ H → H T = none → g (.ref T) σ (upd H T (.tup [vn i, x])) fun σ2 H2 => tb { D with nx := Pv (i + 1), ct := Pv (i + 1), bk := D.nx } σ2 H2) (hd : ∀ σ H, Pv xs.length σ H → D.nx σ H) :
    ∃ W : Nat → Nat → St → Hp → Prop, (∃ m, W 0 m σ H) ∧ ∀ i m σ H, W i m σ H →
      ((Ite K a).stop i H ∧ D.nx σ H) ∨ ((Ite K a).go i H ∧ ∃ N : St → Hp → Prop, (∀ σ' H', N σ' H' → ∃ m', m' < m ∧ W (i + 1) m' σ' H') ∧ ∀ x H', (Ite K a).yld i H x H' → g x σ H' fun σ2 H2 => tb { D with nx := N, ct := N, bk := D.nx } σ2 H2) := by
  refine ⟨fun i m σ H => m = xs.length - i ∧ i ≤ xs.length ∧ Pv i σ H, ⟨xs.length, by simp, Nat.zero_le _, h0⟩, ?_⟩
  rintro i m σ H ⟨rfl, hi, p⟩
  have q := hl i σ H hi p
  by_cases hlt : i < xs.length
  · refine .inr ⟨⟨xs, xs[i], q, by simp [hlt]⟩, Pv (i + 1), fun σ' H' p' => ⟨xs.length - (i + 1), by omega, rfl, hlt, p'⟩, fun x H' y => ?_⟩
    obtain ⟨T, x', rfl, hT, rfl, y⟩ := y
    exact hs i x' σ _ T (y xs q) p hT
  · have e : i = xs.length := by omega
    subst e
    exact .inl ⟨⟨xs, q, Nat.le_refl _⟩, hd σ H p⟩
end L2

namespace L2
open PySem PySem.Spec PyProof.Rows
theorem preSum_at0 (ns : List Int) : ∀ k, k ≤ ns.length → PySem.preSum (at0 ns) k = (ns.take k).sum
  | 0, _ => by simp [PySem.preSum]
  | k + 1, h => by
    rw [PySem.preSum, preSum_at0 ns k (by omega), List.take_succ, List.sum_append]
    have hk : k < ns.length := by omega
    unfold at0
    simp [List.getD, hk]
section
variable {X : Cx} {pins : List (Addr × Obj)} {σ : St} {H : Hp} {s : Shared}
theorem listIter_st {p : Addr} {its : List Value} (pl : PlainL s.heap p its.toArray) :
    (s.heap.push { cls := .type "list_iterator", data := .fields #[.ref p, .int 0 0] }).IsListIter s.heap.objs.size p 0 ∧ (s.heap.push { cls := .type "list_iterator", data := .fields #[.ref p, .int 0 0] }).IsList p its.toArray := by
  obtain ⟨o, n, e, hc, hd, hs⟩ := pl
  exact ⟨⟨_, Heap.get?_push_size _ rfl, rfl, rfl⟩, o, Heap.get?_push_of_some _ e, hc, n, hs⟩
theorem plain_ne {p : Addr} {its : List Value} (pl : PlainL s.heap p its.toArray) : p < s.heap.objs.size := by
  obtain ⟨o, n, e, _⟩ := pl
  exact Heap.lt_size e
theorem call_sumI (hc : X.calm = true) : CallR X (.builtin "sum") (fun xs H Q => ∃ (p : Addr) (ns : List Int), xs = [.ref p] ∧ SqL X.K H p (ns.map V.int) ∧ Q (.int ns.sum) H) := by
  intro pins s σ H xs us Q I r h
  obtain ⟨p, ns, rfl, hq, q⟩ := h
  obtain ⟨u, rfl, rx⟩ := vals1 r
  cases rx
  obtain ⟨its, rv, pl, hz⟩ := I.list hq
  have hl := rv.length
  rw [List.length_map] at hl
  have hp := plain_ne pl
  refine call_sum_walkG (wpAny_pyIter_list pl.isList ?_)
  refine ⟨s.heap.objs.size, [s.heap.objs.size, p], [s.heap.objs.size], its.toArray.size, _, _, at0 ns, rfl, Walks.list (show X.A.in1.handled = none from I.ok.hd hc) _ p (Nat.ne_of_lt hp) its.toArray, listIter_st pl, fun b hb => ?_, fun i v hv => ?_, fun h' tk t' hk => ?_⟩
  · have := Heap.lt_size (Heap.get?_push_size s.heap (o := { cls := .type "list_iterator", data := .fields #[.ref p, .int 0 0] }) rfl)
    simp only [List.mem_cons, List.not_mem_nil, or_false] at hb
    rcases hb with rfl | rfl
    · exact this
    · exact Nat.lt_trans hp this
  · have hi : its[i]? = some v := by simpa using hv
    have hi2 : i < ns.length := by rw [hl]; exact (List.getElem?_eq_some_iff.mp hi).1
    obtain ⟨u', hu, ru⟩ := rv.get (at_get hi2)
    rw [hi] at hu
    cases hu
    exact ru
  · refine ⟨.int ns.sum, H, I.kept (h' := h') (t' := tk) fun b o e => ?_, ⟨t', ?_⟩, q⟩
    · refine hk b o ?_ (Heap.get?_push_of_some _ e)
      simp only [List.mem_cons, List.not_mem_nil, or_false]
      exact Nat.ne_of_lt (Heap.lt_size e)
    · rw [List.size_toArray, ← hl, preSum_at0 ns _ (Nat.le_refl _), List.take_length]
end
end L2
namespace L2
open PySem PySem.Spec PyProof.Rows
theorem all_range (bs : List Bool) : (List.range bs.length).all (fun i => bs.getD i true) = bs.all id := by
  rw [Bool.eq_iff_iff, List.all_eq_true, List.all_eq_true]
  constructor
  · intro h b hb
    obtain ⟨i, hi, rfl⟩ := List.getElem_of_mem hb
    have := h i (by simpa using hi)
    simpa [List.getD, hi] using this
  · intro h i hi
    have hi' : i < bs.length := by simpa using hi
    have := h bs[i] (List.getElem_mem hi')
    simpa [List.getD, hi'] using this
theorem any_range (ns : List Int) : (List.range ns.length).any (fun i => at0 ns i != 0) = ns.any (· != 0) := by
  rw [Bool.eq_iff_iff, List.any_eq_true, List.any_eq_true]
  constructor
  · rintro ⟨i, hi, h⟩
    have hi' : i < ns.length := by simpa using hi
    exact ⟨_, at0_mem hi', h⟩
  · rintro ⟨x, hx, h⟩
    obtain ⟨i, hi, rfl⟩ := List.getElem_of_mem hx
    exact ⟨i, by simpa using hi, by simpa [at0, List.getD, hi] using h⟩
section
variable {X : Cx}
theorem call_allB (hc : X.calm = true) : CallR X (.builtin "all") (fun xs H Q => ∃ (p : Addr) (bs : List Bool), xs = [.ref p] ∧ SqL X.K H p (bs.map V.bl) ∧ Q (.bl (bs.all id)) H) := by
  intro pins s σ H xs us Q I r h
  obtain ⟨p, bs, rfl, hq, q⟩ := h
  obtain ⟨u, rfl, rx⟩ := vals1 r
  cases rx
  obtain ⟨its, rv, pl, hz⟩ := I.list hq
  have hl := rv.length
  rw [List.length_map] at hl
  have hp := plain_ne pl
  refine call_all_walk (wpAny_pyIter_list pl.isList ?_)
  refine ⟨s.heap.objs.size, [s.heap.objs.size, p], [s.heap.objs.size], its.toArray.size, _, _, fun i => bs.getD i true, rfl, Walks.list (show X.A.in1.handled = none from I.ok.hd hc) _ p (Nat.ne_of_lt hp) its.toArray, listIter_st pl, fun i v s' Q' E' hv hQ => ?_, fun h' tk hk => ?_⟩
  · have hi : its[i]? = some v := by simpa using hv
    have hi2 : i < bs.length := by rw [hl]; exact (List.getElem?_eq_some_iff.mp hi).1
    obtain ⟨u', hu, ru⟩ := rv.get (show (bs.map V.bl)[i]? = some (.bl (bs.getD i true)) by rw [List.getElem?_map, List.getElem?_eq_getElem hi2]; simp [List.getD, hi2])
    rw [hi] at hu
    cases hu
    cases ru
    exact wpAny_truthy_bool hQ
  · refine ⟨.bl (bs.all id), H, I.kept (h' := h') (t' := tk) fun b o e => ?_, ?_, q⟩
    · refine hk b o ?_ (Heap.get?_push_of_some _ e)
      simp only [List.mem_cons, List.not_mem_nil, or_false]
      exact Nat.ne_of_lt (Heap.lt_size e)
    · show Value.bool _ = Value.bool _
      rw [List.size_toArray, ← hl, all_range]
theorem call_anyI (hc : X.calm = true) : CallR X (.builtin "any") (fun xs H Q => ∃ (p : Addr) (ns : List Int), xs = [.ref p] ∧ SqL X.K H p (ns.map V.int) ∧ Q (.bl (ns.any (· != 0))) H) := by
  intro pins s σ H xs us Q I r h
  obtain ⟨p, ns, rfl, hq, q⟩ := h
  obtain ⟨u, rfl, rx⟩ := vals1 r
  cases rx
  obtain ⟨its, rv, pl, hz⟩ := I.list hq
  have hl := rv.length
  rw [List.length_map] at hl
  have hp := plain_ne pl
  refine call_any_walk (wpAny_pyIter_list pl.isList ?_)
  refine ⟨s.heap.objs.size, [s.heap.objs.size, p], [s.heap.objs.size], its.toArray.size, _, _, fun i => at0 ns i != 0, rfl, Walks.list (show X.A.in1.handled = none from I.ok.hd hc) _ p (Nat.ne_of_lt hp) its.toArray, listIter_st pl, fun i v s' Q' E' hv hQ => ?_, fun h' tk hk => ?_⟩
  · have hi : its[i]? = some v := by simpa using hv
    have hi2 : i < ns.length := by rw [hl]; exact (List.getElem?_eq_some_iff.mp hi).1
    obtain ⟨u', hu, ru⟩ := rv.get (at_get hi2)
    rw [hi] at hu
    cases hu
    obtain ⟨t, rfl⟩ := ru
    exact PySem.P.truthy_int hQ
  · refine ⟨.bl (ns.any (· != 0)), H, I.kept (h' := h') (t' := tk) fun b o e => ?_, ?_, q⟩
    · refine hk b o ?_ (Heap.get?_push_of_some _ e)
      simp only [List.mem_cons, List.not_mem_nil, or_false]
      exact Nat.ne_of_lt (Heap.lt_size e)
    · show Value.bool _ = Value.bool _
      rw [List.size_toArray, ← hl, any_range]
end
end L2

namespace L2
open PySem PySem.Spec PyProof.Rows
section
variable {X : Cx} {pins : List (Addr × Obj)} {σ : St} {H : Hp} {s : Shared} {h' : Heap}
theorem Inv.turnedCh {t' : Nat} {ch : List Addr} (I : Inv X pins σ H s) (k : ∀ b u, b ∉ ch → s.heap.get? b = some u → h'.get? b = some u) (hf : ∀ b ∈ ch, FpOk X pins H b) : Inv X pins σ H { s with heap := h', toks := t' } := by
  have nit : ∀ b u, H b = some u → b ∉ ch := fun b u e z => by rw [(hf b z).1] at e; cases e
  refine I.step (g' := s.gens) (d' := s.drawn) (ch := ch) (fun b hb => ?_) (fun b o _ _ hc e _ => k b o hc e) (fun b o _ _ hc e _ => ⟨o.slots, k b o hc e⟩) (fun b u hc e n => n) (fun b u hc e => ⟨u, k b u hc e⟩)
    (fun b xs e => e) (fun b ob u e => e) (fun b ps e => ⟨#[], by rw [e]; simp⟩) (fun m hm => ?_) (fun b u e => ?_) I.bare
  · exact ⟨(hf b hb).2.2.2.1, (hf b hb).2.1, (hf b hb).2.2.2.2.1, (hf b hb).2.2.2.2.2⟩
  · obtain ⟨ob, es, ep, ho, r⟩ := hm
    exact ⟨ob, es, ep, k _ ob (fun z => (hf _ z).2.1 rfl) ho, r⟩
  · refine (I.hok b u e).stay (fun c v hc q => k c v ?_ q) (fun c q => q) fun c xs q => q
    rcases hc with z | z
    · rw [z]; exact nit b u e
    · exact nit c _ z
end
def tTruth (K : PySem.W.Frag) (ta : TE) : TT := fun σ H Q => ta σ H fun x H' => ∃ k, TruV K x H' k ∧ Q k H'
theorem kpt_truth {X : Cx} {K : PySem.W.Frag} {a : Expr} {ta : TE} (e : X.K = K) (ha : PE X a ta) (he : ∀ whole, isTrue a X.env whole = (do let v ← whole; standAt a.pos; holding [v] (truthy v))) :
    PT X a (tTruth K ta) := by subst e; exact pt_truth ha he
/-! ### zip of two lists -/
def Itz (a b : Addr) : It :=
  ⟨fun i H => ∃ xs ys x y, H a = some (.lst xs) ∧ H b = some (.lst ys) ∧ xs[i]? = some x ∧ ys[i]? = some y,
   fun i H v H' => ∃ T x y, v = .ref T ∧ H T = none ∧ H' = upd H T (.tup [x, y]) ∧ (∀ xs, H a = some (.lst xs) → xs[i]? = some x) ∧ ∀ ys, H b = some (.lst ys) → ys[i]? = some y,
   fun i H => ∃ xs ys, H a = some (.lst xs) ∧ H b = some (.lst ys) ∧ (xs.length ≤ i ∨ ys.length ≤ i)⟩
theorem turn_zip {P : Program} {w : World} {K : PySem.W.Frag} {elts : List Expr} {k : Nat} {pos : Pos} (a b z TI TO i1 i2 : Addr) (d : [z, TI, TO, i1, i2].Nodup) :
    Turn P w K (.Tuple elts k pos) (Itz a b) [z, TI, TO, i1, i2] z (fun i h => IsZip h z TI TO .none ∧ IsPair h TI (.ref i1) (.ref i2) ∧ (∃ u v, IsPair h TO u v) ∧ h.IsListIter i1 a i ∧ h.IsListIter i2 b i) := by
  simp only [List.nodup_cons, List.mem_cons, List.not_mem_nil, or_false, not_or] at d
  obtain ⟨⟨d1, d2, d3, d4⟩, ⟨d5, d6, d7⟩, ⟨d8, d9⟩, d10, _⟩ := d
  have apart : ∀ {H : Hp} {l l' : Addr} {xs ys : List V}, H l = some (.lst xs) → H l' = some (.lst ys) → (∀ c ∈ [z, TI, TO, i1, i2], H c = none) → ZipApart z TI TO i1 i2 l l' := fun {H l l' xs ys} h h' hn =>
    ⟨Ne.symm d1, Ne.symm d2, Ne.symm d3, Ne.symm d4, d5, d6, d7, d8, d9, d10, ne_of_none h (hn z (by simp)), ne_of_none h (hn TO (by simp)), ne_of_none h (hn i1 (by simp)), ne_of_none h (hn i2 (by simp)),
      ne_of_none h' (hn z (by simp)), ne_of_none h' (hn TO (by simp)), ne_of_none h' (hn i1 (by simp)), ne_of_none h' (hn i2 (by simp))⟩
  refine ⟨by simp, ?_, ?_, ?_, ?_, ?_⟩
  · rintro i h ⟨hz, hTI, ⟨u, v, hTO⟩, ⟨o1, h1, c1, e1⟩, ⟨o2, h2, c2, e2⟩⟩ b' hb
    simp only [List.mem_cons, List.not_mem_nil, or_false] at hb
    rcases hb with rfl | rfl | rfl | rfl | rfl
    · exact ⟨_, hz, fun v q => by have q' : Data.fields _ = Data.cell v := q; cases q'⟩
    · exact ⟨_, hTI, fun v q => by have q' : Data.seq _ _ = Data.cell v := q; cases q'⟩
    · exact ⟨_, hTO, fun v q => by have q' : Data.seq _ _ = Data.cell v := q; cases q'⟩
    · exact ⟨_, h1, fun v q => by rw [e1] at q; cases q⟩
    · exact ⟨_, h2, fun v q => by rw [e2] at q; cases q⟩
  · rintro i h h' ⟨hz, hTI, ⟨u, v, hTO⟩, h1, h2⟩ kk
    exact ⟨kk z (by simp) _ hz, kk TI (by simp) _ hTI, ⟨u, v, kk TO (by simp) _ hTO⟩, h1.at fun o e => kk i1 (by simp) o e, h2.at fun o e => kk i2 (by simp) o e⟩
  · intro X hP hw hK hc i pins s σ H E I hf st hg
    subst hP hw hK
    obtain ⟨hz, hTI, ⟨u, v, hTO⟩, h1, h2⟩ := st
    obtain ⟨xs, ys, x, y, ha, hb, hx, hy⟩ := hg
    have D := apart ha hb fun c hc => (hf c hc).1
    obtain ⟨_, its, n, rv, hl, e⟩ := I.lstM ha
    obtain ⟨_, its2, n2, rv2, hl2, e2⟩ := I.lstM hb
    obtain ⟨u1, hu1, ru1⟩ := rv.get hx
    obtain ⟨u2, hu2, ru2⟩ := rv2.get hy
    have hux : its.toArray[i]? = some u1 := by simpa using hu1
    have huy : its2.toArray[i]? = some u2 := by simpa using hu2
    refine wpAny_pyNext_zip_item D hz hTI hTO h1 h2 ⟨_, e, rfl, n, rfl⟩ ⟨_, e2, rfl, n2, rfl⟩ hux huy fun h' a1 a2 a3 a4 a5 a6 hk => ?_
    refine ⟨_, rfl, ?_⟩
    have kk : ∀ c o, c ∉ [z, TO, i1, i2] → s.heap.get? c = some o → h'.get? c = some o := fun c o hc q => hk c o (fun x => hc (by simp [x])) (fun x => hc (by simp [x])) (fun x => hc (by simp [x])) (fun x => hc (by simp [x])) q
    have th : ∀ c o, s.heap.get? c = some o → ∃ o', h'.get? c = some o' := fun c o q => by
      by_cases c1 : c = z
      · subst c1; exact ⟨_, a1⟩
      · by_cases c2 : c = TO
        · subst c2; exact ⟨_, a2⟩
        · by_cases c3 : c = i1
          · subst c3; obtain ⟨o', q1, _⟩ := a3; exact ⟨_, q1⟩
          · by_cases c4 : c = i2
            · subst c4; obtain ⟨o', q1, _⟩ := a4; exact ⟨_, q1⟩
            · exact ⟨o, hk c o c1 c2 c3 c4 q⟩
    have sub : ∀ c ∈ [z, TO, i1, i2], c ∈ [z, TI, TO, i1, i2] := fun c hc => by simp at hc ⊢; rcases hc with rfl | rfl | rfl | rfl <;> simp
    have I1 : Inv X pins σ (upd H s.heap.objs.size (.tup [x, y])) { s with heap := h', toks := s.toks } :=
      I.turnedNew (ch := [z, TO, i1, i2]) kk th (Nat.le_refl _) (fun c hc => hf c (sub c hc)) ⟨by show 2 ≤ sizeLine; decide, [u1, u2], .cons ru1 (.cons ru2 .nil), ⟨_, a5, rfl, _, rfl⟩⟩
    have fz := hf z (by simp)
    have neT : ∀ c ∈ [z, TI, TO, i1, i2], c ≠ s.heap.objs.size := fun c hc => by
      simp only [List.mem_cons, List.not_mem_nil, or_false] at hc
      rcases hc with rfl | rfl | rfl | rfl | rfl
      · exact Nat.ne_of_lt (Heap.lt_size hz)
      · exact Nat.ne_of_lt (Heap.lt_size hTI)
      · exact Nat.ne_of_lt (Heap.lt_size hTO)
      · obtain ⟨_, q, _⟩ := h1; exact Nat.ne_of_lt (Heap.lt_size q)
      · obtain ⟨_, q, _⟩ := h2; exact Nat.ne_of_lt (Heap.lt_size q)
    refine wpAny_letOwnedTupleGo_zip a1 fun h2' hz2 hs2 => ?_
    have I2 : Inv X pins σ (upd H s.heap.objs.size (.tup [x, y])) { s with heap := h2', toks := s.toks } :=
      Inv.turned (s := { s with heap := h', toks := s.toks }) (h' := h2') (t' := s.toks) (it := z) I1 (fun c o hc q => (hs2.2 c hc).trans q) (by rw [upd_ne (neT z (by simp))]; exact fz.1) fz.2.1 fz.2.2.2.1 fz.2.2.2.2.1 fz.2.2.2.2.2
    refine ⟨.ref s.heap.objs.size, _, I2, rfl, ⟨s.heap.objs.size, x, y, rfl, I.fresh, rfl, fun zs hzs => by rw [ha] at hzs; cases hzs; exact hx, fun zs hzs => by rw [hb] at hzs; cases hzs; exact hy⟩,
      ⟨hz2, (hs2.2 TI (Ne.symm d1)).trans (hk TI _ (Ne.symm d1) d5 d6 d7 hTI), ⟨_, _, (hs2.2 TO (Ne.symm d2)).trans a2⟩, a3.at fun o q => (hs2.2 i1 (Ne.symm d3)).trans q, a4.at fun o q => (hs2.2 i2 (Ne.symm d4)).trans q⟩, fun c hc => ?_⟩
    rw [upd_ne (neT c hc)]
    exact (hf c hc).1
  · intro X hP hw hK hc i pins s σ H E I hf st hg
    subst hP hw hK
    obtain ⟨hz, hTI, ⟨u, v, hTO⟩, h1, h2⟩ := st
    obtain ⟨xs, ys, ha, hb, hx⟩ := hg
    have D := apart ha hb fun c hc => (hf c hc).1
    obtain ⟨_, its, n, rv, hl, e⟩ := I.lstM ha
    obtain ⟨_, its2, n2, rv2, hl2, e2⟩ := I.lstM hb
    have sub : ∀ c ∈ [z, TO, i1, i2], c ∈ [z, TI, TO, i1, i2] := fun c hc => by simp at hc ⊢; rcases hc with rfl | rfl | rfl | rfl <;> simp
    refine wpAny_pyNext_zip_end (I.ok.hd hc) D hz hTI hTO h1 h2 ⟨_, e, rfl, n, rfl⟩ ⟨_, e2, rfl, n2, rfl⟩ ?_ fun h' hk => ⟨rfl, ?_⟩
    · rcases hx with q | q
      · left; simp; omega
      · right; simp; omega
    · exact I.turnedCh (t' := s.toks) (ch := [z, TO, i1, i2]) (fun c o hc q => hk c o (fun x => hc (by simp [x])) (fun x => hc (by simp [x])) (fun x => hc (by simp [x])) (fun x => hc (by simp [x])) q) fun c hc => hf c (sub c hc)
  · intro A i s Q E st h
    exact wpAny_pyIter_zip st.1 h
section
variable {X : Cx}
def iZip (ta : TA) : TI := fun σ H R => ta σ H fun vs H1 => ∃ a b xs ys, vs = [.ref a, .ref b] ∧ H1 a = some (.lst xs) ∧ H1 b = some (.lst ys) ∧ R (Itz a b) H1
theorem pi_zip {a b : Expr} {ta : TA} {p pos : Pos} {elts : List Expr} {k : Nat} {tpos : Pos} (hg : Gl X "zip") (hm : X.mg "zip" = none) (ha : PA X [a, b] ta) (hs : starEach [a, b] X.env = [(false, eval a X.env), (false, eval b X.env)] := by rfl) (hs2 : starEach [b] X.env = [(false, eval b X.env)] := by rfl) :
    PI X (.Tuple elts k tpos) (.Call (.Name "zip" p) [a, b] [] pos) (iZip ta) := by
  intro pins s σ H R I h
  refine Call_ (ld_blt I hg hm boot_zip (PyProof.Rows.callWith_type1 (thn (ha pos pins s σ H _ I h) fun us s1 ⟨vs, H1, I1, r1, q1⟩ => ?_) (by rw [hs, hs2]) (by rw [hs2]; rfl)))
  obtain ⟨l, l2, xs, ys, e, hx, hy, q⟩ := q1
  subst e
  cases r1 with
  | cons r rr =>
    cases rr with
    | cons r' rr =>
      cases rr
      cases r
      cases r'
      obtain ⟨_, its, n, rv, hl, e⟩ := I1.lstM hx
      obtain ⟨_, its2, n2, rv2, hl2, e2⟩ := I1.lstM hy
      refine call_zip_2 ⟨_, e, rfl, n, rfl⟩ ⟨_, e2, rfl, n2, rfl⟩ fun h' z1 z2 z3 z4 z5 hsz hk => ?_
      refine wpAny_pyIter_zip z1 ?_
      have I2 : Inv X pins σ H1 { s1 with heap := h' } := I1.kept (t' := s1.toks) hk
      refine ⟨s1.heap.objs.size + 4, [s1.heap.objs.size + 4, s1.heap.objs.size + 2, s1.heap.objs.size + 3, s1.heap.objs.size, s1.heap.objs.size + 1], _, _, H1, rfl, I2, turn_zip l l2 _ _ _ _ _ (by simp), ⟨z1, z2, ⟨_, _, z3⟩, z4, z5⟩, fun c hc => ?_, q⟩
      have hc' : s1.heap.objs.size ≤ c := by
        simp only [List.mem_cons, List.not_mem_nil, or_false] at hc
        rcases hc with rfl | rfl | rfl | rfl | rfl <;> omega
      exact I1.fpOk hc' (I1.hok.fresh hc')
end
theorem for_zip {a b : Addr} {xs ys : List V} {g : TG} {tb : TS} {D : Ends} {σ : St} {H : Hp} (Pv : Nat → St → Hp → Prop) (hlen : xs.length = ys.length) (h0 : Pv 0 σ H) (hl : ∀ i σ H, i ≤ xs.length → Pv i σ H → H a = some (.lst xs) ∧ H b = some (.lst ys))
    (hs : ∀ (i : Nat) x y σ H T, xs[i]? = some x → ys[i]? = some y → Pv i σ H → H T = none → g (.ref T) σ (upd H T (.tup [x, y])) fun σ2 H2 => tb { D with nx := Pv (i + 1), ct := Pv (i + 1), bk := D.nx } σ2 H2) (hd : ∀ σ H, Pv xs.length σ H → D.nx σ H) :
    ∃ W : Nat → Nat → St → Hp → Prop, (∃ m, W 0 m σ H) ∧ ∀ i m σ H, W i m σ H →
      ((Itz a b).stop i H ∧ D.nx σ H) ∨ ((Itz a b).go i H ∧ ∃ N : St → Hp → Prop, (∀ σ' H', N σ' H' → ∃ m', m' < m ∧ W (i + 1) m' σ' H') ∧ ∀ x H', (Itz a b).yld i H x H' → g x σ H' fun σ2 H2 => tb { D with nx := N, ct := N, bk := D.nx } σ2 H2) := by
  refine ⟨fun i m σ H => m = xs.length - i ∧ i ≤ xs.length ∧ Pv i σ H, ⟨xs.length, by simp, Nat.zero_le _, h0⟩, ?_⟩
  rintro i m σ H ⟨rfl, hi, p⟩
  obtain ⟨q1, q2⟩ := hl i σ H hi p
  by_cases hlt : i < xs.length
  · refine .inr ⟨⟨xs, ys, xs[i], ys[i]'(by omega), q1, q2, by simp [hlt], by rw [List.getElem?_eq_getElem (by omega)]⟩, Pv (i + 1), fun σ' H' p' => ⟨xs.length - (i + 1), by omega, rfl, hlt, p'⟩, fun x H' y => ?_⟩
    obtain ⟨T, x', y', rfl, hT, rfl, y1, y2⟩ := y
    exact hs i x' y' σ _ T (y1 xs q1) (y2 ys q2) p hT
  · have e : i = xs.length := by omega
    subst e
    exact .inl ⟨⟨xs, ys, q1, q2, .inl (Nat.le_refl _)⟩, hd σ H p⟩
end L2

namespace L2
open PySem PySem.Spec PyProof.Rows
/-! ### lists of pairs as tables -/
section
variable {κ : Type} [DecidableEq κ]
def valV (kvs : List (κ × V)) (k : κ) : Option V := (kvs.find? fun kv => decide (kv.1 = k)).map (·.2)
/-- in its place, or at the end -/
def putK (kvs : List (κ × V)) (k : κ) (v : V) : List (κ × V) :=
  if (kvs.any fun kv => decide (kv.1 = k)) = true then kvs.map (fun kv => if kv.1 = k then (kv.1, v) else kv) else kvs ++ [(k, v)]
def dropK (kvs : List (κ × V)) (k : κ) : List (κ × V) := kvs.filter fun kv => decide (kv.1 ≠ k)

theorem valV_nil {k : κ} : valV ([] : List (κ × V)) k = none := rfl
theorem valV_pos {p : κ × V} {r : List (κ × V)} {k : κ} (e : p.1 = k) : valV (p :: r) k = some p.2 := by simp [valV, List.find?_cons, e]
theorem valV_neg {p : κ × V} {r : List (κ × V)} {k : κ} (e : ¬ p.1 = k) : valV (p :: r) k = valV r k := by simp [valV, List.find?_cons, e]
theorem valV_any (k : κ) : ∀ kvs : List (κ × V), (kvs.any fun kv => decide (kv.1 = k)) = (valV kvs k).isSome
  | [] => rfl
  | p :: r => by
    rw [List.any_cons]
    by_cases e : p.1 = k
    · simp only [valV_pos e, decide_eq_true e, Bool.true_or, Option.isSome_some]
    · rw [valV_neg e, decide_eq_false e, Bool.false_or]; exact valV_any k r
theorem valV_map (k j : κ) (y : V) : ∀ kvs : List (κ × V), valV (kvs.map fun kv => if kv.1 = k then (kv.1, y) else kv) j = (valV kvs j).map fun x => if j = k then y else x
  | [] => rfl
  | p :: r => by
    have ih := valV_map k j y r
    rw [List.map_cons]
    by_cases h : p.1 = k
    · rw [if_pos h]
      by_cases e : p.1 = j
      · rw [valV_pos (p := (p.1, y)) e, valV_pos e, Option.map_some, if_pos (e.symm.trans h)]
      · rw [valV_neg (p := (p.1, y)) e, valV_neg e, ih]
    · rw [if_neg h]
      by_cases e : p.1 = j
      · rw [valV_pos (p := p) e, valV_pos e, Option.map_some, if_neg (fun z => h (e.trans z))]
      · rw [valV_neg (p := p) e, valV_neg e, ih]
theorem valV_snoc (k j : κ) (y : V) : ∀ kvs : List (κ × V), valV kvs k = none → valV (kvs ++ [(k, y)]) j = if j = k then some y else valV kvs j
  | [], _ => by
    by_cases e : k = j
    · rw [if_pos e.symm]; exact valV_pos (p := (k, y)) e
    · rw [if_neg (fun z => e z.symm)]; exact valV_neg (p := (k, y)) e
  | p :: r, hn => by
    rw [List.cons_append]
    have hk : ¬ p.1 = k := fun z => by rw [valV_pos z] at hn; cases hn
    rw [valV_neg hk] at hn
    have ih := valV_snoc k j y r hn
    by_cases e : p.1 = j
    · rw [valV_pos e, valV_pos e, if_neg (fun z => hk (e.trans z))]
    · rw [valV_neg e, valV_neg e, ih]
theorem valV_put (kvs : List (κ × V)) (k j : κ) (y : V) : valV (putK kvs k y) j = if j = k then some y else valV kvs j := by
  unfold putK
  by_cases a : (kvs.any fun kv => decide (kv.1 = k)) = true
  · rw [if_pos a, valV_map]
    rw [valV_any] at a
    by_cases e : j = k
    · obtain ⟨x, hx⟩ := Option.isSome_iff_exists.mp a
      rw [if_pos e, e, hx, Option.map_some, if_pos rfl]
    · rw [if_neg e]
      cases valV kvs j with
      | none => rfl
      | some x => rw [Option.map_some, if_neg e]
  · rw [if_neg a]
    refine valV_snoc k j y kvs ?_
    rw [valV_any] at a
    cases q : valV kvs k with
    | none => rfl
    | some x => rw [q] at a; exact (a rfl).elim
theorem length_putK (kvs : List (κ × V)) (k : κ) (v : V) : (putK kvs k v).length ≤ kvs.length + 1 := by
  unfold putK
  split
  · rw [List.length_map]; omega
  · rw [List.length_append, List.length_cons, List.length_nil]; omega
theorem putK_new {kvs : List (κ × V)} {k : κ} (v : V) (h : valV kvs k = none) : putK kvs k v = kvs ++ [(k, v)] := by
  unfold putK
  rw [valV_any, h]
  exact if_neg (by decide)

theorem RelO.isSome_eq {o : Option V} {u : Option Value} (r : RelO o u) : o.isSome = u.isSome := by
  cases o with
  | none => cases u with
    | none => rfl
    | some _ => exact (show False from r).elim
  | some _ => cases u with
    | none => exact (show False from r).elim
    | some _ => rfl
theorem RelO.getD {o : Option V} {u : Option Value} {d : V} {d' : Value} (r : RelO o u) (rd : RelV d d') : RelV (o.getD d) (u.getD d') := by
  cases o with
  | none => cases u with
    | none => exact rd
    | some _ => exact (show False from r).elim
  | some _ => cases u with
    | none => exact (show False from r).elim
    | some _ => exact r

/-- raw tables of the same keys -/
theorem KV.val {kvs : List (κ × V)} {vs : List (κ × Value)} (r : KV kvs vs) (k : κ) : RelO (valV kvs k) (valueAt vs k) := by
  unfold KV at r
  induction r with
  | nil => exact True.intro
  | @cons p q ps qs h t ih =>
    obtain ⟨h1, h2⟩ := h
    by_cases e : p.1 = k
    · have e' : q.1 = k := h1.symm.trans e
      have b : valueAt (q :: qs) k = some q.2 := by simp [valueAt, List.find?_cons, e']
      rw [valV_pos e, b]; exact h2
    · have e' : ¬ q.1 = k := fun z => e (h1.trans z)
      have b : valueAt (q :: qs) k = valueAt qs k := by simp [valueAt, List.find?_cons, e']
      rw [valV_neg e, b]; exact ih
theorem KV.any {kvs : List (κ × V)} {vs : List (κ × Value)} (r : KV kvs vs) (k : κ) : (kvs.any fun kv => decide (kv.1 = k)) = vs.any fun kv => decide (kv.1 = k) := by
  unfold KV at r
  induction r with
  | nil => rfl
  | cons h t ih => rw [List.any_cons, List.any_cons, ih, h.1]
theorem KV.repl {kvs : List (κ × V)} {vs : List (κ × Value)} (r : KV kvs vs) (k : κ) {y : V} {u : Value} (ry : RelV y u) :
    KV (kvs.map fun kv => if kv.1 = k then (kv.1, y) else kv) (vs.map fun kv => if kv.1 = k then (kv.1, u) else kv) := by
  unfold KV at r ⊢
  induction r with
  | nil => exact .nil
  | @cons p q ps qs h t ih =>
    rw [List.map_cons, List.map_cons]
    refine .cons ?_ ih
    obtain ⟨h1, h2⟩ := h
    by_cases e : p.1 = k
    · rw [if_pos e, if_pos (h1.symm.trans e)]; exact ⟨h1, ry⟩
    · rw [if_neg e, if_neg (fun z => e (h1.trans z))]; exact ⟨h1, h2⟩
theorem KV.put {kvs : List (κ × V)} {vs : List (κ × Value)} (r : KV kvs vs) (k : κ) {y : V} {u : Value} (ry : RelV y u) : KV (putK kvs k y) (stored vs k u) := by
  unfold putK stored
  rw [r.any k]
  by_cases e : (vs.any fun kv => decide (kv.1 = k)) = true
  · rw [if_pos e, if_pos e]; exact r.repl k ry
  · rw [if_neg e, if_neg e]; exact Paired.snoc r ⟨rfl, ry⟩
theorem KV.drop {kvs : List (κ × V)} {vs : List (κ × Value)} (r : KV kvs vs) (k : κ) : KV (dropK kvs k) (without vs k) := by
  unfold KV at r ⊢
  unfold dropK without
  induction r with
  | nil => exact .nil
  | @cons p q ps qs h t ih =>
    obtain ⟨h1, h2⟩ := h
    rw [List.filter_cons, List.filter_cons]
    by_cases e : p.1 = k
    · have a : ¬ decide (p.1 ≠ k) = true := by simp [e]
      have b : ¬ decide (q.1 ≠ k) = true := by simp [h1.symm.trans e]
      rw [if_neg a, if_neg b]; exact ih
    · have e' : ¬ q.1 = k := fun z => e (h1.trans z)
      have a : decide (p.1 ≠ k) = true := by simp [e]
      have b : decide (q.1 ≠ k) = true := by simp [e']
      rw [if_pos a, if_pos b]; exact .cons ⟨h1, h2⟩ ih
theorem KV.keys {kvs : List (κ × V)} {vs : List (κ × Value)} (r : KV kvs vs) : kvs.map (·.1) = vs.map (·.1) := by
  unfold KV at r
  induction r with
  | nil => rfl
  | cons h t ih => rw [List.map_cons, List.map_cons, ih, h.1]
theorem KV.length {kvs : List (κ × V)} {vs : List (κ × Value)} (r : KV kvs vs) : kvs.length = vs.length := Paired.length r
theorem dropK_le (kvs : List (κ × V)) (k : κ) : (dropK kvs k).length ≤ kvs.length := List.length_filter_le _ _
end


/-! ### a tracked dict, its keys ints and texts or tuples of these -/
theorem kV_is {P : Program} {w : World} {k : Key} {u : Value} (r : RelV (kV k) u) : (mixKind P w).is k u = true := by
  cases k with
  | inl i => obtain ⟨t, e⟩ := (show ∃ t, u = Value.int i t from r); subst e; exact mixKind_int P w i t
  | inr x => obtain ⟨t, e⟩ := (show ∃ t, u = Value.str x t from r); subst e; exact mixKind_str P w x t
theorem kV_inj {a b : Key} (e : kV a = kV b) : a = b := by
  cases a with
  | inl i => cases b with
    | inl j => have e' : V.int i = V.int j := e; injection e' with e'; rw [e']
    | inr y => exact nomatch (show V.int i = V.str y from e)
  | inr x => cases b with
    | inl j => exact nomatch (show V.str x = V.int j from e)
    | inr y => have e' : V.str x = V.str y := e; injection e' with e'; rw [e']
theorem kVs_inj : ∀ {a b : List Key}, a.map kV = b.map kV → a = b
  | [], [], _ => rfl
  | [], _ :: _, e => by simp at e
  | _ :: _, [], e => by simp at e
  | x :: xs, y :: ys, e => by
    rw [List.map_cons, List.map_cons] at e
    injection e with e1 e2
    rw [kV_inj e1, kVs_inj e2]
theorem items_are {P : Program} {w : World} : ∀ {ks : List Key} {us : List Value}, Vals (ks.map kV) us → ItemsAre (mixKind P w) ks us
  | [], _, r => by rw [List.map_nil] at r; cases r; exact .nil
  | k :: ks, _, r => by
    rw [List.map_cons] at r
    cases r with
    | cons h t => exact .cons (kV_is h) (items_are t)

/-- raw entries of a dict with tuple keys -/
abbrev KT (H : Hp) : List (List Key × V) → List (List Key × Addr × Value) → Prop := Paired fun p q => p.1 = q.1 ∧ H q.2.1 = some (.tup (p.1.map kV)) ∧ RelV p.2 q.2.2
theorem KT.val {H : Hp} {kvs : List (List Key × V)} {xs : List (List Key × Addr × Value)} (r : KT H kvs xs) (k : List Key) : RelO (valV kvs k) ((atKey xs k).map (·.2)) := by
  induction r with
  | nil => exact True.intro
  | @cons p q ps qs h t ih =>
    obtain ⟨h1, _, h2⟩ := h
    by_cases e : p.1 = k
    · have e' : q.1 = k := h1.symm.trans e
      have b : atKey (q :: qs) k = some q.2 := by simp [atKey, List.find?_cons, e']
      rw [valV_pos e, b]; exact h2
    · have e' : ¬ q.1 = k := fun z => e (h1.trans z)
      have b : atKey (q :: qs) k = atKey qs k := by simp [atKey, List.find?_cons, e']
      rw [valV_neg e, b]; exact ih
theorem KT.repl {H : Hp} {kvs : List (List Key × V)} {xs : List (List Key × Addr × Value)} (r : KT H kvs xs) (k : List Key) {y : V} {u : Value} (ry : RelV y u) :
    KT H (kvs.map fun kv => if kv.1 = k then (kv.1, y) else kv) (xs.map (putAt k u)) := by
  induction r with
  | nil => exact .nil
  | @cons p q ps qs h t ih =>
    rw [List.map_cons, List.map_cons]
    refine .cons ?_ ih
    obtain ⟨h1, h2, h3⟩ := h
    unfold putAt
    by_cases e : p.1 = k
    · rw [if_pos e, if_pos (h1.symm.trans e)]; exact ⟨h1, h2, ry⟩
    · rw [if_neg e, if_neg (fun z => e (h1.trans z))]; exact ⟨h1, h2, h3⟩
theorem KT.put {H : Hp} {kvs : List (List Key × V)} {xs : List (List Key × Addr × Value)} (r : KT H kvs xs) (k : List Key) {b : Addr} {y : V} {u : Value} (hb : H b = some (.tup (k.map kV))) (ry : RelV y u) :
    KT H (putK kvs k y) (storedH xs k b u) := by
  have e : (kvs.any fun kv => decide (kv.1 = k)) = (atKey xs k).isSome := by
    rw [valV_any, (r.val k).isSome_eq, Option.isSome_map]
  unfold putK storedH
  rw [e]
  by_cases q : (atKey xs k).isSome = true
  · rw [if_pos q, if_pos q]; exact r.repl k ry
  · rw [if_neg q, if_neg q]; exact Paired.snoc r ⟨rfl, hb, ry⟩
theorem KT.keeps {H H' : Hp} {kvs : List (List Key × V)} {xs : List (List Key × Addr × Value)} (r : KT H kvs xs) (ht : ∀ b ys, H b = some (.tup ys) → H' b = some (.tup ys)) : KT H' kvs xs :=
  Paired.mapP r fun _ _ z => ⟨z.1, ht _ _ z.2.1, z.2.2⟩

section
variable {P : Program} {w : World} {H : Hp} {h : Heap} {a : Addr}
theorem rd_of {u : HO} (ok : HOk P w H h) (e : Rd H a u) : ObjOk P w H h a u := e.ok ok
theorem dk_rd {kvs : List (Key × V)} (ok : HOk P w H h) (e : Rd H a (.dK kvs)) : kvs.length ≤ sizeLine ∧ (a == sysModules) = false ∧ ∃ vs, KV kvs vs ∧ h.DictOf (mixKind P w) a vs :=
  show ObjOk P w H h a (.dK kvs) from rd_of ok e
theorem dk_of {kvs : List (Key × V)} (ok : HOk P w H h) (e : H a = some (.dK kvs)) : kvs.length ≤ sizeLine ∧ (a == sysModules) = false ∧ ∃ vs, KV kvs vs ∧ h.DictOf (mixKind P w) a vs := dk_rd ok (.inl e)
/-- a tracked tuple of ints and texts is a key -/
theorem key_of {ks : List Key} (ok : HOk P w H h) (e : H a = some (.tup (ks.map kV))) : (tupleKind (mixKind P w)).is h ks a := by
  obtain ⟨_, its, r, o, h1, h2, n, h3⟩ := (show ObjOk P w H h a (.tup (ks.map kV)) from ok a _ e)
  exact ⟨o, its.toArray, n, h1, h2, h3, by simpa using items_are r⟩
theorem dt_rd {kvs : List (List Key × V)} (ok : HOk P w H h) (e : Rd H a (.dT kvs)) : kvs.length ≤ sizeLine ∧ (a == sysModules) = false ∧
    ∃ xs, KT H kvs xs ∧ h.DictOfH (tupleKind (mixKind P w)) a xs := by
  obtain ⟨z, y, xs, r, o, es, ep, h1, h2, h3, h4, h5⟩ := (show ObjOk P w H h a (.dT kvs) from rd_of ok e)
  refine ⟨z, y, xs, r, o, es, ep, h1, h2, h3, h4, fun x hx => ?_, h5⟩
  have all : ∀ {l : List (List Key × V)} {m : List (List Key × Addr × Value)}, KT H l m → ∀ x ∈ m, (tupleKind (mixKind P w)).is h x.1 x.2.1 := by
    intro l m q
    induction q with
    | nil => intro x hx; exact nomatch hx
    | @cons p q ps qs hq t ih =>
      intro x hx
      rcases List.mem_cons.mp hx with e | hx
      · subst e
        exact key_of ok (by rw [← hq.1]; exact hq.2.1)
      · exact ih x hx
  exact all r x hx
theorem dt_of {kvs : List (List Key × V)} (ok : HOk P w H h) (e : H a = some (.dT kvs)) : kvs.length ≤ sizeLine ∧ (a == sysModules) = false ∧
    ∃ xs, KT H kvs xs ∧ h.DictOfH (tupleKind (mixKind P w)) a xs := dt_rd ok (.inl e)
end

/-- what the dict at a holds at the key y -/
def DGet (H : Hp) (a : Addr) (y : V) (r : Option V) : Prop :=
  (∃ kvs k, Rd H a (.dK kvs) ∧ y = kV k ∧ r = valV kvs k) ∨ ∃ kvs k b, Rd H a (.dT kvs) ∧ y = .ref b ∧ H b = some (.tup (k.map kV)) ∧ r = valV kvs k
/-- the heap behind a[y] = v -/
def DPut (H : Hp) (a : Addr) (y v : V) (H' : Hp) : Prop :=
  (∃ kvs k, H a = some (.dK kvs) ∧ y = kV k ∧ kvs.length < sizeLine ∧ H' = upd H a (.dK (putK kvs k v))) ∨
  ∃ kvs k b, H a = some (.dT kvs) ∧ y = .ref b ∧ H b = some (.tup (k.map kV)) ∧ kvs.length < sizeLine ∧ H' = upd H a (.dT (putK kvs k v))
theorem DGet.k {H : Hp} {a : Addr} {kvs : List (Key × V)} {k : Key} (e : H a = some (.dK kvs)) : DGet H a (kV k) (valV kvs k) := .inl ⟨kvs, k, .inl e, rfl, rfl⟩
theorem DGet.t {H : Hp} {a b : Addr} {kvs : List (List Key × V)} {k : List Key} (e : H a = some (.dT kvs)) (eb : H b = some (.tup (k.map kV))) : DGet H a (.ref b) (valV kvs k) := .inr ⟨kvs, k, b, .inl e, rfl, eb, rfl⟩
theorem DPut.k {H : Hp} {a : Addr} {kvs : List (Key × V)} {k : Key} {v : V} (e : H a = some (.dK kvs)) (hl : kvs.length < sizeLine) : DPut H a (kV k) v (upd H a (.dK (putK kvs k v))) := .inl ⟨kvs, k, e, rfl, hl, rfl⟩
theorem DPut.t {H : Hp} {a b : Addr} {kvs : List (List Key × V)} {k : List Key} {v : V} (e : H a = some (.dT kvs)) (eb : H b = some (.tup (k.map kV))) (hl : kvs.length < sizeLine) :
    DPut H a (.ref b) v (upd H a (.dT (putK kvs k v))) := .inr ⟨kvs, k, b, e, rfl, eb, hl, rfl⟩


section
variable {X : Cx} {pins : List (Addr × Obj)} {σ : St} {H : Hp} {s : Shared} {a : Addr} {y v : V} {u r : Value} {o : Option V} {A : Around} {E : Value → Shared → Prop}

theorem Inv.big (I : Inv X pins σ H s) : sysModules < s.heap.objs.size := by
  have h : mainGlobals < s.heap.objs.size := (I.mod.glob.keeps I.bk).lt
  exact Nat.lt_trans (by decide) h

/-- d[y], there -/
theorem d_getItem {Q : Value → Shared → Prop} (hu : A.units + 1 < cLine) (I : Inv X pins σ H s) (g : DGet H a y (some v)) (ry : RelV y u) (h : ∀ w' s', Inv X pins σ H s' → RelV v w' → Q w' s') :
    wpAny (model X.prog X.w) A (getItem (.ref a) u) Q E s := by
  rcases g with ⟨kvs, k, e, ey, l⟩ | ⟨kvs, k, b, e, ey, eb, l⟩
  · subst ey
    obtain ⟨z, hd, vs, rel, dd⟩ := dk_rd I.hok e
    obtain ⟨w', hw, rw'⟩ := RelO.some_of (v := v) (o := valueAt vs k) (by rw [l]; exact rel.val k)
    exact wpAny_getItem_of (kV_is ry) dd.mapOf hw (h w' _ (I.tok _) rw')
  · subst ey
    cases (show u = Value.ref b from ry)
    obtain ⟨z, hd, xs, rel, dd⟩ := dt_rd I.hok e
    obtain ⟨w', hw, rw'⟩ := RelO.some_of (v := v) (o := (atKey xs k).map (·.2)) (by rw [l]; exact rel.val k)
    obtain ⟨p, hp, hp2⟩ := Option.map_eq_some_iff.mp hw
    refine wpAny_getItem_heap (tupleKind_room_in1 hu) (key_of I.hok eb) dd hp ?_
    rw [hp2]
    exact h w' _ (I.tok _) rw'
/-- y in d -/
theorem d_in {Q : Value → Shared → Prop} (hu : A.units + 1 < cLine) (I : Inv X pins σ H s) (g : DGet H a y o) (ry : RelV y u) (h : ∀ s', Inv X pins σ H s' → Q (.bool o.isSome) s') :
    wpAny (model X.prog X.w) A (compareOp .In u (.ref a)) Q E s := by
  rcases g with ⟨kvs, k, e, ey, l⟩ | ⟨kvs, k, b, e, ey, eb, l⟩
  · subst ey
    obtain ⟨z, hd, vs, rel, dd⟩ := dk_rd I.hok e
    refine wpAny_in_of (kV_is ry) hd dd.mapOf ?_
    rw [← (rel.val k).isSome_eq, ← l]
    exact h _ (I.tok _)
  · subst ey
    cases (show u = Value.ref b from ry)
    obtain ⟨z, hd, xs, rel, dd⟩ := dt_rd I.hok e
    refine wpAny_in_heap (tupleKind_room_in1 hu) (key_of I.hok eb) hd dd ?_
    have q := (rel.val k).isSome_eq
    rw [Option.isSome_map] at q
    rw [← q, ← l]
    exact h _ (I.tok _)
theorem d_notIn {Q : Value → Shared → Prop} (hu : A.units + 1 < cLine) (I : Inv X pins σ H s) (g : DGet H a y o) (ry : RelV y u) (h : ∀ s', Inv X pins σ H s' → Q (.bool (!o.isSome)) s') :
    wpAny (model X.prog X.w) A (compareOp .NotIn u (.ref a)) Q E s := by
  rcases g with ⟨kvs, k, e, ey, l⟩ | ⟨kvs, k, b, e, ey, eb, l⟩
  · subst ey
    obtain ⟨z, hd, vs, rel, dd⟩ := dk_rd I.hok e
    refine wpAny_notIn_of (kV_is ry) hd dd.mapOf ?_
    rw [← (rel.val k).isSome_eq, ← l]
    exact h _ (I.tok _)
  · subst ey
    cases (show u = Value.ref b from ry)
    obtain ⟨z, hd, xs, rel, dd⟩ := dt_rd I.hok e
    refine wpAny_notIn_heap (tupleKind_room_in1 hu) (key_of I.hok eb) hd dd ?_
    have q := (rel.val k).isSome_eq
    rw [Option.isSome_map] at q
    rw [← q, ← l]
    exact h _ (I.tok _)
/-- a dict's object is replaced -/
theorem d_write {h' : Heap} {t' : Nat} {ob : HO} (I : Inv X pins σ H s) (mu : Mut (H a)) (hs : Heap.SameBut a s.heap h') (he : ∃ q, h'.get? a = some q) (new : ObjOk X.prog X.w (upd H a ob) h' a ob) :
    Inv X pins σ (upd H a ob) { s with heap := h', toks := t' } :=
  I.write (x := a) (e := a) mu (.inl rfl) (fun b q hb z => (hs.2 b hb).trans z) he new
theorem dk_new {P : Program} {w : World} {H' : Hp} {h' : Heap} {kvs : List (Key × V)} {vs : List (Key × Value)} (z : kvs.length ≤ sizeLine) (hd : (a == sysModules) = false) (rel : KV kvs vs) (dd : h'.DictOf (mixKind P w) a vs) :
    ObjOk P w H' h' a (.dK kvs) := ⟨z, hd, vs, rel, dd⟩
/-- d[y] = v -/
theorem d_setItem {H' : Hp} {Q : Unit → Shared → Prop} (hu : A.units + 1 < cLine) (I : Inv X pins σ H s) (g : DPut H a y v H') (ry : RelV y u) (rv : RelV v r) (h : ∀ s', Inv X pins σ H' s' → Q () s') :
    wpAny (model X.prog X.w) A (setItem (.ref a) u r) Q E s := by
  rcases g with ⟨kvs, k, e, ey, l, eH⟩ | ⟨kvs, k, b, e, ey, eb, l, eH⟩
  · subst ey eH
    obtain ⟨z, hd, vs, rel, dd⟩ := dk_of I.hok e
    have hz : vs.length ≤ sizeLine := by rw [← rel.length]; exact z
    have hl : (putK kvs k v).length ≤ sizeLine := by have := length_putK kvs k v; omega
    refine wpAny_setItem_pairs (hsz := hz) (kV_is ry) dd fun h' dd' hs => h _ ?_
    have he : ∃ q, h'.get? a = some q := let ⟨q, _, _, hq, _⟩ := dd'; ⟨q, hq⟩
    exact d_write I (by rw [e]; exact True.intro) hs he (dk_new hl hd (rel.put k rv) dd')
  · subst ey eH
    cases (show u = Value.ref b from ry)
    obtain ⟨z, hd, xs, rel, dd⟩ := dt_of I.hok e
    have hz : xs.length ≤ sizeLine := by rw [← Paired.length rel]; exact z
    have hl : (putK kvs k v).length ≤ sizeLine := by have := length_putK kvs k v; omega
    refine wpAny_setItem_heap (hsz := hz) (tupleKind_room_in1 hu) (key_of I.hok eb) dd fun h' dd' hs => h _ ?_
    obtain ⟨q, es, ep, hq, h2, h3, h4, _, h5⟩ := dd'
    refine d_write I (by rw [e]; exact True.intro) hs ⟨q, hq⟩ ⟨hl, hd, _, (rel.put k eb rv).keeps fun c ys ec => ?_, q, es, ep, hq, h2, h3, h4, h5⟩
    rw [upd_ne (ne_of ec e (fun z => nomatch z))]
    exact ec
end

section
variable {X : Cx} {pins : List (Addr × Obj)} {σ : St} {H : Hp} {s : Shared} {a : Addr} {kvs : List (Key × V)} {k : Key} {u : Value} {A : Around} {E : Value → Shared → Prop}
/-- del d[k] -/
theorem d_delItem {Q : Unit → Shared → Prop} (I : Inv X pins σ H s) (e : H a = some (.dK kvs)) (ry : RelV (kV k) u) (l : (valV kvs k).isSome = true) (h : ∀ s', Inv X pins σ (upd H a (.dK (dropK kvs k))) s' → Q () s') :
    wpAny (model X.prog X.w) A (delItem (.ref a) u) Q E s := by
  obtain ⟨z, hd, vs, rel, dd⟩ := dk_of I.hok e
  refine wpAny_delItem_slot dd.typeIs (by decide) PySem.F.slot_dict_delitem
    (call_meetsIn PySem.F.slot_dict_delitem dd.typeIs PySem.F.entry_dict_delitem (PySem.F.args_dict_delitem_2 _ _) (meets_dict_delitem_pairs (mixKind X.prog X.w) a (kV_is ry)) ⟨vs, dd, by rw [← rel.length]; exact z, by rw [← (rel.val k).isSome_eq]; exact l, fun h' dd' hs => h _ ?_⟩)
  have he : ∃ q, h'.get? a = some q := let ⟨q, _, _, hq, _⟩ := dd'; ⟨q, hq⟩
  exact d_write I (by rw [e]; exact True.intro) hs he (dk_new (Nat.le_trans (dropK_le kvs k) z) hd (rel.drop k) dd')
/-- d.pop(k[, x]), there -/
theorem d_pop {v : V} {more : List Value} {Q : Value → Shared → Prop} (I : Inv X pins σ H s) (e : H a = some (.dK kvs)) (ry : RelV (kV k) u) (l : valV kvs k = some v) (hm : more = [] ∨ ∃ x, more = [x])
    (h : ∀ w' s', Inv X pins σ (upd H a (.dK (dropK kvs k))) s' → RelV v w' → Q w' s') : wpAny (model X.prog X.w) A (call (.builtin "dict.pop") (.ref a :: u :: more)) Q E s := by
  obtain ⟨z, hd, vs, rel, dd⟩ := dk_of I.hok e
  obtain ⟨w', hw, rw'⟩ := RelO.some_of (v := v) (o := valueAt vs k) (by rw [← l]; exact rel.val k)
  have hp : (keyPart u).isSome = true := by
    cases k with
    | inl i => obtain ⟨t, q⟩ := (show ∃ t, u = Value.int i t from ry); subst q; rfl
    | inr x => obtain ⟨t, q⟩ := (show ∃ t, u = Value.str x t from ry); subst q; rfl
  have ha : argsOk "dict.pop" ⟨.ref a :: u :: more, []⟩ := by
    rcases hm with q | ⟨x, q⟩
    · subst q; exact PySem.F.args_dict_pop_2 _ _
    · subst q; exact PySem.F.args_dict_pop_3 _ _ _
  refine call_meetsIn PySem.F.slot_dict_pop dd.typeIs PySem.F.entry_dict_pop ha (meets_dict_pop_there (mixKind X.prog X.w) a (kV_is ry) more hm hp)
    ⟨vs, w', dd, by rw [← rel.length]; exact z, hw, fun h' dd' hs => h w' _ ?_ rw'⟩
  have he : ∃ q, h'.get? a = some q := let ⟨q, _, _, hq, _⟩ := dd'; ⟨q, hq⟩
  exact d_write I (by rw [e]; exact True.intro) hs he (dk_new (Nat.le_trans (dropK_le kvs k) z) hd (rel.drop k) dd')
/-- d.pop(k, x), not there -/
theorem d_popD {r : Value} {Q : Value → Shared → Prop} (I : Inv X pins σ H s) (e : H a = some (.dK kvs)) (ry : RelV (kV k) u) (l : valV kvs k = none) (h : ∀ s', Inv X pins σ H s' → Q r s') :
    wpAny (model X.prog X.w) A (call (.builtin "dict.pop") [.ref a, u, r]) Q E s := by
  obtain ⟨z, hd, vs, rel, dd⟩ := dk_of I.hok e
  have hn : valueAt vs k = none := RelO.none_of (by rw [← l]; exact rel.val k)
  have hp : (keyPart u).isSome = true := by
    cases k with
    | inl i => obtain ⟨t, q⟩ := (show ∃ t, u = Value.int i t from ry); subst q; rfl
    | inr x => obtain ⟨t, q⟩ := (show ∃ t, u = Value.str x t from ry); subst q; rfl
  exact call_meetsIn PySem.F.slot_dict_pop dd.typeIs PySem.F.entry_dict_pop (PySem.F.args_dict_pop_3 _ _ _) (meets_dict_pop_default (mixKind X.prog X.w) a (kV_is ry) hd hp r) ⟨vs, dd, hn, h _ (I.tok _)⟩
/-- d.clear() -/
theorem d_clear {Q : Value → Shared → Prop} (I : Inv X pins σ H s) (e : H a = some (.dK kvs)) (h : ∀ s', Inv X pins σ (upd H a (.dK [])) s' → Q .none s') : wpAny (model X.prog X.w) A (call (.builtin "dict.clear") [.ref a]) Q E s := by
  obtain ⟨z, hd, vs, rel, dd⟩ := dk_of I.hok e
  refine call_meetsIn PySem.F.slot_dict_clear dd.typeIs PySem.F.entry_dict_clear (PySem.F.args_dict_clear_1 _) (meets_dict_clear (mixKind X.prog X.w) a) ⟨vs, dd, by rw [← rel.length]; exact z, fun h' dd' hs => h _ ?_⟩
  have he : ∃ q, h'.get? a = some q := let ⟨q, _, _, hq, _⟩ := dd'; ⟨q, hq⟩
  exact d_write (t' := s.toks) I (by rw [e]; exact True.intro) hs he (dk_new (Nat.zero_le _) hd .nil dd')
/-- len(d) -/
theorem d_len {Q : Value → Shared → Prop} (I : Inv X pins σ H s) (e : Rd H a (.dK kvs)) (h : ∀ t s', Inv X pins σ H s' → Q (.int kvs.length t) s') : wpAny (model X.prog X.w) A (call (.builtin "len") [.ref a]) Q E s := by
  obtain ⟨z, hd, vs, rel, dd⟩ := dk_rd I.hok e
  refine call_len_dict hd dd (by rw [← rel.length]; rw [sizeLine_eq] at z; omega) ?_
  rw [← rel.length]
  exact h _ _ (I.tok _)
/-- if d -/
theorem d_truth {Q : Bool → Shared → Prop} (I : Inv X pins σ H s) (e : Rd H a (.dK kvs)) (h : ∀ s', Inv X pins σ H s' → Q (!kvs.isEmpty) s') : wpAny (model X.prog X.w) A (truthy (.ref a)) Q E s := by
  obtain ⟨z, hd, vs, rel, dd⟩ := dk_rd I.hok e
  refine wpAny_truthy_dict hd dd (by rw [← rel.length]; rw [sizeLine_eq] at z; omega) ?_
  have q : kvs.isEmpty = vs.isEmpty := by cases rel <;> rfl
  rw [← q]
  exact h _ (I.tok _)
end


/-! ### readings and rules -/
/-- the element of a subscription, not a slice -/
def NoSl (i : Expr) : Prop := ∀ ov iv, subscripted i false ov iv = operate [ov, iv] (getItem ov iv)
theorem subD_of {prog : Program} {w : World} {A : Around} {E : Value → Shared → Prop} {s : Shared} {env : Env} {value slice : Expr} {pos : Pos} {T id : String} {Q : Value → Shared → Prop}
    (hl : typeLookup (.type T) "__getitem__" = pure (some (.builtin id))) (hs : NoSl slice)
    (h : wpAny (model prog w) A (eval value env) (fun o s₁ => wpAny (model prog w) A (eval slice env) (fun i s₂ => s₂.TypeIs o T ∧ wpAny (model prog w) A (getItem o i) Q E s₂) E s₁) E s) :
    wpAny (model prog w) A (eval (.Subscript value slice pos) env) Q E s := by
  refine Subscript_ (wpAny_mono h (fun o s₁ h₁ => wpAny_mono h₁ (fun i s₂ h₂ => ?_) fun _ _ x => x) fun _ _ x => x)
  obtain ⟨hT, h₂⟩ := h₂
  unfold subscriptTail
  refine wpAny_bind ?_
  rw [getitemInPython_of_ne hT.not_modules]
  refine wpAny_bind (wpAny_specialOf hT hl ?_)
  have fin : wpAny (model prog w) A (subscripted slice false o i) (fun r s₃ => wpAny (model prog w) A (letTemporaryGo value o r >>= fun _ => pure r) Q E s₃) E s₂ := by
    rw [hs o i]
    exact wpAny_operating (wpAny_mono h₂ (fun r s₃ h₃ => wpAny_bind (wpAny_letTemporaryGo (wpAny_pure h₃))) fun _ _ x => x)
  first
    | exact wpAny_pure (wpAny_bind fin)
    | exact wpAny_bind (wpAny_pure (wpAny_bind fin))
    | exact wpAny_bind fin

theorem dict_typeIs {X : Cx} {pins : List (Addr × Obj)} {σ : St} {H : Hp} {s : Shared} {a : Addr} {y : V} {o : Option V} (I : Inv X pins σ H s) (g : DGet H a y o) : s.TypeIs (.ref a) "dict" := by
  rcases g with ⟨kvs, k, e, _, _⟩ | ⟨kvs, k, b, e, _, _, _⟩
  · obtain ⟨_, _, vs, _, dd⟩ := dk_rd I.hok e
    exact dd.typeIs
  · obtain ⟨_, _, xs, _, dd⟩ := dt_rd I.hok e
    exact dd.typeIs
theorem dict_noDict {X : Cx} {pins : List (Addr × Obj)} {σ : St} {H : Hp} {s : Shared} {a : Addr} {y : V} {o : Option V} (I : Inv X pins σ H s) (g : DGet H a y o) :
    ∀ b, Value.ref a = .ref b → ∃ ob, s.heap.get? b = some ob ∧ ob.dict = none := fun b q => by
  cases q
  rcases g with ⟨kvs, k, e, _, _⟩ | ⟨kvs, k, b, e, _, _, _⟩
  · obtain ⟨_, _, vs, _, ob, _, _, h1, h2, _⟩ := dk_rd I.hok e
    exact ⟨ob, h1, h2.2.1⟩
  · obtain ⟨_, _, xs, _, ob, _, _, h1, h2, _⟩ := dt_rd I.hok e
    exact ⟨ob, h1, h2.2.1⟩

/-- d[y] -/
def tDGet (td ty : TE) : TE := fun σ H Q => td σ H fun x H1 => ty σ H1 fun y H2 => ∃ a v, x = .ref a ∧ DGet H2 a y (some v) ∧ Q v H2
/-- y in d, y not in d -/
def tDIn (ty td : TE) : TE := fun σ H Q => ty σ H fun y H1 => td σ H1 fun x H2 => ∃ a o, x = .ref a ∧ DGet H2 a y o ∧ Q (.bl o.isSome) H2
def tDNotIn (ty td : TE) : TE := fun σ H Q => ty σ H fun y H1 => td σ H1 fun x H2 => ∃ a o, x = .ref a ∧ DGet H2 a y o ∧ Q (.bl (!o.isSome)) H2
/-- d[y] = v -/
def sDPut (td ty tv : TE) : TS := fun D σ H => tv σ H fun v H1 => td σ H1 fun x H2 => ty σ H2 fun y H3 => ∃ a H4, x = .ref a ∧ DPut H3 a y v H4 ∧ D.nx σ H4
/-- d[y] op= v -/
def sDAug (td ty tv : TE) (rd : V → V → Hp → VK → Prop) : TS := fun D σ H => td σ H fun x H1 => ty σ H1 fun y H2 => ∃ a v, x = .ref a ∧ DGet H2 a y (some v) ∧
  tv σ H2 fun y2 H3 => rd v y2 H3 fun z H4 => ∃ H5, DPut H4 a y z H5 ∧ D.nx σ H5
/-- del d[y] -/
def sDDel (td ty : TE) : TS := fun D σ H => td σ H fun x H1 => ty σ H1 fun y H2 => ∃ a kvs k, x = .ref a ∧ H2 a = some (.dK kvs) ∧ y = kV k ∧ (valV kvs k).isSome = true ∧ D.nx σ (upd H2 a (.dK (dropK kvs k)))

section
variable {X : Cx} {o i e value : Expr} {pos pos' tpos : Pos} {td ty tv : TE}
theorem pe_dget (hu : X.A.units + 1 < cLine) (ho : PE X o td) (hi : PE X i ty) (hs : NoSl i) : PE X (.Subscript o i pos) (tDGet td ty) := by
  intro pins s σ H Q I h
  refine subD_of PySem.F.slot_dict_getitem.lookup hs (thn (ho pins s σ H _ I h) fun u s1 ⟨x, H1, I1, rx, q1⟩ => thn (hi pins s1 σ H1 _ I1 q1) fun iv s2 ⟨y, H2, I2, ry, a, v, ex, g, q2⟩ => ?_)
  subst ex
  obtain rfl : u = Value.ref a := rx
  exact ⟨dict_typeIs I2 g, d_getItem hu I2 g ry fun w' s3 I3 rw' => ⟨v, H2, I3, rw', q2⟩⟩
theorem pc_din (hu : X.A.units + 1 < cLine) (hi : PE X i ty) (ho : PE X o td) : PC X .In i o (tDIn ty td) := by
  intro pins s σ H Q I h
  refine thn (hi pins s σ H _ I h) fun iv s1 ⟨y, H1, I1, ry, q1⟩ => thn (ho pins s1 σ H1 _ I1 q1) fun u s2 ⟨x, H2, I2, rx, a, ov, ex, g, q2⟩ => ?_
  subst ex
  obtain rfl : u = Value.ref a := rx
  exact d_in hu I2 g ry fun s3 I3 => ⟨.bl ov.isSome, H2, I3, rfl, q2⟩
theorem pc_dnotin (hu : X.A.units + 1 < cLine) (hi : PE X i ty) (ho : PE X o td) : PC X .NotIn i o (tDNotIn ty td) := by
  intro pins s σ H Q I h
  refine thn (hi pins s σ H _ I h) fun iv s1 ⟨y, H1, I1, ry, q1⟩ => thn (ho pins s1 σ H1 _ I1 q1) fun u s2 ⟨x, H2, I2, rx, a, ov, ex, g, q2⟩ => ?_
  subst ex
  obtain rfl : u = Value.ref a := rx
  exact d_notIn hu I2 g ry fun s3 I3 => ⟨.bl (!ov.isSome), H2, I3, rfl, q2⟩
theorem ps_dput (hu : X.A.units + 1 < cLine) (ho : PE X o td) (hi : PE X i ty) (hv : PE X value tv) (hs : swapsWith value (some (.Subscript o i pos')) pos.line X.env = pure false) :
    PS X (.Assign [.Subscript o i pos'] value pos) (sDPut td ty tv) := by
  intro pins s σ H D I h
  refine wpAny_Assign_Subscript (thn (hv pins s σ H _ I h) fun r s1 ⟨v, H1, I1, rv, q1⟩ => thn (ho pins s1 σ H1 _ I1 q1) fun u s2 ⟨x, H2, I2, rx, q2⟩ => thn (hi pins s2 σ H2 _ I2 q2) fun iv s3 ⟨y, H3, I3, ry, a, H4, ex, g, q3⟩ => ?_) hs
  subst ex
  obtain rfl : u = Value.ref a := rx
  exact d_setItem hu I3 g ry rv fun s4 I4 => ⟨σ, H4, I4, q3⟩
theorem ps_daug {op : Operator} {rd : V → V → Hp → VK → Prop} (hu : X.A.units + 1 < cLine) (ho : PE X o td) (hi : PE X i ty) (hv : PE X value tv) (hop : InOp X op rd)
    (ha : ∀ ov iv new, augStore i ov iv new = (do holding [new, ov, iv] (setItem ov iv new); release [new, ov, iv] []; pure .next)) : PS X (.AugAssign (.Subscript o i tpos) op value pos) (sDAug td ty tv rd) := by
  intro pins s σ H D I h
  refine wpAny_AugAssign_SubscriptAny (thn (ho pins s σ H _ I h) fun u s1 ⟨x, H1, I1, rx, q1⟩ => thn (hi pins s1 σ H1 _ I1 q1) fun iv s2 ⟨y, H2, I2, ry, a, v, ex, g, q2⟩ => ?_) ha
  subst ex
  obtain rfl : u = Value.ref a := rx
  refine d_getItem hu I2 g ry fun w' s3 I3 rw' => thn (hv pins s3 σ H2 _ I3 q2) fun w2 s4 ⟨y2, H3, I4, ry2, q3⟩ => thn (hop pins s4 σ H3 v y2 w' w2 _ I4 rw' ry2 q3) fun w3 s5 ⟨z, H4, I5, rz, H5, g5, q4⟩ => ?_
  exact d_setItem hu I5 g5 ry rz fun s6 I6 => ⟨σ, H5, I6, q4⟩
theorem ps_ddel (ho : PE X o td) (hi : PE X i ty) : PS X (.Delete [.Subscript o i tpos] pos) (sDDel td ty) := by
  intro pins s σ H D I h
  refine wpAny_Delete (wpAny_deleteEach_cons (wpAny_delete_Subscript (thn (ho pins s σ H _ I h) fun u s1 ⟨x, H1, I1, rx, q1⟩ => thn (hi pins s1 σ H1 _ I1 q1) fun iv s2 ⟨y, H2, I2, ry, a, kvs, k, ex, e, ey, l, q2⟩ => ?_)))
  subst ex ey
  obtain rfl : u = Value.ref a := rx
  exact d_delItem I2 e ry l fun s3 I3 => wpAny_deleteEach_nil ⟨σ, _, I3, q2⟩
end


/-! ### displays -/
theorem dk_empty {P : Program} {w : World} {H : Hp} (h : Heap) (hb : sysModules < h.objs.size) : ObjOk P w H (h.push { cls := .type "dict", data := .dict #[] }) h.objs.size (.dK []) :=
  ⟨Nat.zero_le _, beq_eq_false_iff_ne.mpr (Ne.symm (Nat.ne_of_lt hb)), [], .nil, Heap.DictOf.new h⟩
theorem dt_empty {P : Program} {w : World} {H : Hp} (h : Heap) (hb : sysModules < h.objs.size) : ObjOk P w H (h.push { cls := .type "dict", data := .dict #[] }) h.objs.size (.dT []) :=
  ⟨Nat.zero_le _, beq_eq_false_iff_ne.mpr (Ne.symm (Nat.ne_of_lt hb)), [], .nil, _, #[], 0, Heap.get?_push_size _ rfl, ⟨rfl, rfl, rfl⟩, rfl, rfl, List.nodup_nil⟩
/-- {}, to be a dict of the kind that is wanted -/
def tDNewK : TE := fun _ H Q => ∀ p, H p = none → Q (.ref p) (upd H p (.dK []))
def tDNewT : TE := fun _ H Q => ∀ p, H p = none → Q (.ref p) (upd H p (.dT []))
section
variable {X : Cx} {pos : Pos}
theorem pe_dnewK : PE X (.Dict [] [] pos) tDNewK := fun pins s σ H Q I h =>
  wpAny_Dict_empty ⟨.ref s.heap.objs.size, _, I.laid (a := s.heap.objs.size) (o := .dK []) (t' := s.toks) (fun _ _ q => Heap.get?_push_of_some _ q) (Nat.le_refl _) (dk_empty s.heap I.big), rfl, h _ (I.hok.fresh (Nat.le_refl _))⟩
theorem pe_dnewT : PE X (.Dict [] [] pos) tDNewT := fun pins s σ H Q I h =>
  wpAny_Dict_empty ⟨.ref s.heap.objs.size, _, I.laid (a := s.heap.objs.size) (o := .dT []) (t' := s.toks) (fun _ _ q => Heap.get?_push_of_some _ q) (Nat.le_refl _) (dt_empty s.heap I.big), rfl, h _ (I.hok.fresh (Nat.le_refl _))⟩
end

end L2

namespace K22
open PySem L2
def top (i : Nat) : Stmt := PySem.Challenge.pw_fewbends_k22_nets_of_maps.main.body.getD i (.Pass ⟨0, 0, 0, 0⟩)
abbrev s_other_end : Stmt := top 2
theorem sc_other_end : FnScope ["end"] ["end"] (defScope s_other_end) := ⟨rfl, rfl, rfl, by decide +kernel, rfl, by decide +kernel, by decide +kernel⟩
abbrev s_place_of : Stmt := top 3
theorem sc_place_of : FnScope ["web", "end"] ["web", "end"] (defScope s_place_of) := ⟨rfl, rfl, rfl, by decide +kernel, rfl, by decide +kernel, by decide +kernel⟩
abbrev s_goes_to : Stmt := top 4
theorem sc_goes_to : FnScope ["web", "end"] ["web", "end"] (defScope s_goes_to) := ⟨rfl, rfl, rfl, by decide +kernel, rfl, by decide +kernel, by decide +kernel⟩
abbrev s_behind : Stmt := top 5
theorem sc_behind : FnScope ["web", "end", "order"] ["web", "end"] (defScope s_behind) := ⟨rfl, rfl, rfl, by decide +kernel, rfl, by decide +kernel, by decide +kernel⟩
abbrev s_lands : Stmt := top 6
theorem sc_lands : FnScope ["web", "told", "seen", "first", "land", "end"] ["web"] (defScope s_lands) := ⟨rfl, rfl, rfl, by decide +kernel, rfl, by decide +kernel, by decide +kernel⟩
abbrev s_land_from : Stmt := top 7
theorem sc_land_from : FnScope ["web", "first", "land", "end"] ["web", "first"] (defScope s_land_from) := ⟨rfl, rfl, rfl, by decide +kernel, rfl, by decide +kernel, by decide +kernel⟩
abbrev s_land_numbers : Stmt := top 8
theorem sc_land_numbers : FnScope ["web", "numbers", "number", "land", "end"] ["web"] (defScope s_land_numbers) := ⟨rfl, rfl, rfl, by decide +kernel, rfl, by decide +kernel, by decide +kernel⟩
abbrev s_wanted_sum : Stmt := top 10
theorem sc_wanted_sum : FnScope ["number", "outer"] ["number", "outer"] (defScope s_wanted_sum) := ⟨rfl, rfl, rfl, by decide +kernel, rfl, by decide +kernel, by decide +kernel⟩
abbrev s_net_of : Stmt := top 12
theorem sc_net_of : FnScope ["web", "outer", "wishes", "needs", "number", "land"] ["web", "outer", "wishes"] (defScope s_net_of) := ⟨rfl, rfl, rfl, by decide +kernel, rfl, by decide +kernel, by decide +kernel⟩
abbrev s_corner_ways : Stmt := top 13
theorem sc_corner_ways : FnScope ["web", "sets", "ways", "end", "number", "low", "high"] ["web", "sets"] (defScope s_corner_ways) := ⟨rfl, rfl, rfl, by decide +kernel, rfl, by decide +kernel, by decide +kernel⟩
abbrev s_left_ways : Stmt := top 14
theorem sc_left_ways : FnScope ["web", "wishes", "weights", "bars", "numbers", "ways", "end", "number", "beyond"] ["web", "wishes"] (defScope s_left_ways) := ⟨rfl, rfl, rfl, by decide +kernel, rfl, by decide +kernel, by decide +kernel⟩
abbrev s_l_cell_at : Stmt := top 16
theorem sc_l_cell_at : FnScope ["_law_script", "_law_k"] ["_law_script", "_law_k"] (defScope s_l_cell_at) := ⟨rfl, rfl, rfl, by decide +kernel, rfl, by decide +kernel, by decide +kernel⟩
abbrev s_l_mix : Stmt := top 17
theorem sc_l_mix : FnScope ["_law_cell", "_law_k", "_law_turn", "_law_number"] ["_law_cell", "_law_k"] (defScope s_l_mix) := ⟨rfl, rfl, rfl, by decide +kernel, rfl, by decide +kernel, by decide +kernel⟩
abbrev s_l_digit : Stmt := top 18
theorem sc_l_digit : FnScope ["_law_number", "_law_by", "_law_k", "_law_turn"] ["_law_number", "_law_by", "_law_k"] (defScope s_l_digit) := ⟨rfl, rfl, rfl, by decide +kernel, rfl, by decide +kernel, by decide +kernel⟩
abbrev s_l_turned : Stmt := top 19
theorem sc_l_turned : FnScope ["_law_number", "_law_many", "_law_told", "_law_k"] ["_law_number", "_law_many"] (defScope s_l_turned) := ⟨rfl, rfl, rfl, by decide +kernel, rfl, by decide +kernel, by decide +kernel⟩
abbrev s_l_other : Stmt := top 20
theorem sc_l_other : FnScope ["_law_end"] ["_law_end"] (defScope s_l_other) := ⟨rfl, rfl, rfl, by decide +kernel, rfl, by decide +kernel, by decide +kernel⟩
abbrev s_l_place : Stmt := top 21
theorem sc_l_place : FnScope ["_law_ties", "_law_end"] ["_law_ties", "_law_end"] (defScope s_l_place) := ⟨rfl, rfl, rfl, by decide +kernel, rfl, by decide +kernel, by decide +kernel⟩
abbrev s_l_behind : Stmt := top 22
theorem sc_l_behind : FnScope ["_law_ties", "_law_orders", "_law_end", "_law_order"] ["_law_ties", "_law_orders", "_law_end"] (defScope s_l_behind) := ⟨rfl, rfl, rfl, by decide +kernel, rfl, by decide +kernel, by decide +kernel⟩
abbrev s_l_lands : Stmt := top 23
theorem sc_l_lands : FnScope ["_law_ties", "_law_orders", "_law_told", "_law_left", "_law_land", "_law_here"] ["_law_ties", "_law_orders"] (defScope s_l_lands) := ⟨rfl, rfl, rfl, by decide +kernel, rfl, by decide +kernel, by decide +kernel⟩
abbrev s_l_step : Stmt := top 24
theorem sc_l_step : FnScope ["_law_ties", "_law_orders", "_law_pick", "_law_most", "_law_some", "_law_land", "_law_one", "_law_other_here", "_law_a", "_law_b", "_law_end"] ["_law_ties", "_law_orders", "_law_pick", "_law_most"] (defScope s_l_step) := ⟨rfl, rfl, rfl, by decide +kernel, rfl, by decide +kernel, by decide +kernel⟩
abbrev s_l_renamed : Stmt := top 25
theorem sc_l_renamed : FnScope ["_law_ties", "_law_orders", "_law_cell", "_law_places", "_law_numbers", "_law_names", "_law_told", "_law_k", "_law_a", "_law_b", "_law_flip", "_law_rows", "_law_place_here", "_law_order", "_law_at"] ["_law_ties", "_law_orders", "_law_cell"] (defScope s_l_renamed) := ⟨rfl, rfl, rfl, by decide +kernel, rfl, by decide +kernel, by decide +kernel⟩
abbrev s_l_map : Stmt := top 26
theorem sc_l_map : FnScope ["_law_script", "_law_steps", "_law_most", "_law_cell", "_law_ties", "_law_orders", "_law_k"] ["_law_script", "_law_steps", "_law_most"] (defScope s_l_map) := ⟨rfl, rfl, rfl, by decide +kernel, rfl, by decide +kernel, by decide +kernel⟩
abbrev s_l_wishes : Stmt := top 27
theorem sc_l_wishes : FnScope ["_law_ties", "_law_cell", "_law_barred", "_law_weights", "_law_bars", "_law_sets", "_law_tie", "_law_pick", "_law_side"] ["_law_ties", "_law_cell", "_law_barred"] (defScope s_l_wishes) := ⟨rfl, rfl, rfl, by decide +kernel, rfl, by decide +kernel, by decide +kernel⟩
abbrev s_l_net_of : Stmt := top 28
theorem sc_l_net_of : FnScope ["_law_web", "_law_outer", "_law_wishes_here", "_law_many", "_law_ties", "_law_orders", "_law_some", "_law_by", "_law_number", "_law_land", "_law_end", "_law_needs", "_law_ways", "_law_corner", "_law_low", "_law_high"] ["_law_web", "_law_outer", "_law_wishes_here"] (defScope s_l_net_of) := ⟨rfl, rfl, rfl, by decide +kernel, rfl, by decide +kernel, by decide +kernel⟩
abbrev s_l_copied : Stmt := top 29
theorem sc_l_copied : FnScope ["_law_web"] ["_law_web"] (defScope s_l_copied) := ⟨rfl, rfl, rfl, by decide +kernel, rfl, by decide +kernel, by decide +kernel⟩
abbrev s_law : Stmt := top 30
theorem sc_law : FnScope ["_law_script", "_law_web", "_law_wishes_here", "_law_outer", "_law_handed", "_law_turn", "_law_found"] ["_law_script"] (defScope s_law) := ⟨rfl, rfl, rfl, by decide +kernel, rfl, by decide +kernel, by decide +kernel⟩
structure Adr where
  q_tok : Tok
  a_other_end : Addr
  d_other_end : FuncData
  a_place_of : Addr
  d_place_of : FuncData
  a_goes_to : Addr
  d_goes_to : FuncData
  a_behind : Addr
  d_behind : FuncData
  a_lands : Addr
  d_lands : FuncData
  a_land_from : Addr
  d_land_from : FuncData
  a_land_numbers : Addr
  d_land_numbers : FuncData
  a_wanted_sum : Addr
  d_wanted_sum : FuncData
  a_net_of : Addr
  d_net_of : FuncData
  a_corner_ways : Addr
  d_corner_ways : FuncData
  a_left_ways : Addr
  d_left_ways : FuncData
  a_l_cell_at : Addr
  d_l_cell_at : FuncData
  a_l_mix : Addr
  d_l_mix : FuncData
  a_l_digit : Addr
  d_l_digit : FuncData
  a_l_turned : Addr
  d_l_turned : FuncData
  a_l_other : Addr
  d_l_other : FuncData
  a_l_place : Addr
  d_l_place : FuncData
  a_l_behind : Addr
  d_l_behind : FuncData
  a_l_lands : Addr
  d_l_lands : FuncData
  a_l_step : Addr
  d_l_step : FuncData
  a_l_renamed : Addr
  d_l_renamed : FuncData
  a_l_map : Addr
  d_l_map : FuncData
  a_l_wishes : Addr
  d_l_wishes : FuncData
  a_l_net_of : Addr
  d_l_net_of : FuncData
  a_l_copied : Addr
  d_l_copied : FuncData
  a_law : Addr
  d_law : FuncData
structure Txt (K : PySem.W.Frag) (mg : Str → Option Value) (t : Adr) : Prop where
  F_other_end : Fun K "other_end" "other_end" s_other_end t.a_other_end t.d_other_end
  m_other_end : mg "other_end" = some (.ref t.a_other_end)
  k_other_end : PySem.W.keepIn K (.ref t.a_other_end) = true
  b_other_end : Binds K t.d_other_end ["end"] []
  F_place_of : Fun K "place_of" "place_of" s_place_of t.a_place_of t.d_place_of
  m_place_of : mg "place_of" = some (.ref t.a_place_of)
  k_place_of : PySem.W.keepIn K (.ref t.a_place_of) = true
  b_place_of : Binds K t.d_place_of ["web", "end"] []
  F_goes_to : Fun K "goes_to" "goes_to" s_goes_to t.a_goes_to t.d_goes_to
  m_goes_to : mg "goes_to" = some (.ref t.a_goes_to)
  k_goes_to : PySem.W.keepIn K (.ref t.a_goes_to) = true
  b_goes_to : Binds K t.d_goes_to ["web", "end"] []
  F_behind : Fun K "behind" "behind" s_behind t.a_behind t.d_behind
  m_behind : mg "behind" = some (.ref t.a_behind)
  k_behind : PySem.W.keepIn K (.ref t.a_behind) = true
  b_behind : Binds K t.d_behind ["web", "end"] []
  F_lands : Fun K "lands" "lands" s_lands t.a_lands t.d_lands
  m_lands : mg "lands" = some (.ref t.a_lands)
  k_lands : PySem.W.keepIn K (.ref t.a_lands) = true
  b_lands : Binds K t.d_lands ["web"] []
  F_land_from : Fun K "land_from" "land_from" s_land_from t.a_land_from t.d_land_from
  m_land_from : mg "land_from" = some (.ref t.a_land_from)
  k_land_from : PySem.W.keepIn K (.ref t.a_land_from) = true
  b_land_from : Binds K t.d_land_from ["web", "first"] []
  F_land_numbers : Fun K "land_numbers" "land_numbers" s_land_numbers t.a_land_numbers t.d_land_numbers
  m_land_numbers : mg "land_numbers" = some (.ref t.a_land_numbers)
  k_land_numbers : PySem.W.keepIn K (.ref t.a_land_numbers) = true
  b_land_numbers : Binds K t.d_land_numbers ["web"] []
  F_wanted_sum : Fun K "wanted_sum" "wanted_sum" s_wanted_sum t.a_wanted_sum t.d_wanted_sum
  m_wanted_sum : mg "wanted_sum" = some (.ref t.a_wanted_sum)
  k_wanted_sum : PySem.W.keepIn K (.ref t.a_wanted_sum) = true
  b_wanted_sum : Binds K t.d_wanted_sum ["number", "outer"] []
  F_net_of : Fun K "net_of" "net_of" s_net_of t.a_net_of t.d_net_of
  m_net_of : mg "net_of" = some (.ref t.a_net_of)
  k_net_of : PySem.W.keepIn K (.ref t.a_net_of) = true
  b_net_of : Binds K t.d_net_of ["web", "outer", "wishes"] []
  F_corner_ways : Fun K "corner_ways" "corner_ways" s_corner_ways t.a_corner_ways t.d_corner_ways
  m_corner_ways : mg "corner_ways" = some (.ref t.a_corner_ways)
  k_corner_ways : PySem.W.keepIn K (.ref t.a_corner_ways) = true
  b_corner_ways : Binds K t.d_corner_ways ["web", "sets"] []
  F_left_ways : Fun K "left_ways" "left_ways" s_left_ways t.a_left_ways t.d_left_ways
  m_left_ways : mg "left_ways" = some (.ref t.a_left_ways)
  k_left_ways : PySem.W.keepIn K (.ref t.a_left_ways) = true
  b_left_ways : Binds K t.d_left_ways ["web", "wishes"] []
  F_l_cell_at : Fun K "_law_cell_at" "_law_cell_at" s_l_cell_at t.a_l_cell_at t.d_l_cell_at
  m_l_cell_at : mg "_law_cell_at" = some (.ref t.a_l_cell_at)
  k_l_cell_at : PySem.W.keepIn K (.ref t.a_l_cell_at) = true
  b_l_cell_at : Binds K t.d_l_cell_at ["_law_script", "_law_k"] []
  F_l_mix : Fun K "_law_mix" "_law_mix" s_l_mix t.a_l_mix t.d_l_mix
  m_l_mix : mg "_law_mix" = some (.ref t.a_l_mix)
  k_l_mix : PySem.W.keepIn K (.ref t.a_l_mix) = true
  b_l_mix : Binds K t.d_l_mix ["_law_cell", "_law_k"] []
  F_l_digit : Fun K "_law_digit" "_law_digit" s_l_digit t.a_l_digit t.d_l_digit
  m_l_digit : mg "_law_digit" = some (.ref t.a_l_digit)
  k_l_digit : PySem.W.keepIn K (.ref t.a_l_digit) = true
  b_l_digit : Binds K t.d_l_digit ["_law_number", "_law_by", "_law_k"] []
  F_l_turned : Fun K "_law_turned" "_law_turned" s_l_turned t.a_l_turned t.d_l_turned
  m_l_turned : mg "_law_turned" = some (.ref t.a_l_turned)
  k_l_turned : PySem.W.keepIn K (.ref t.a_l_turned) = true
  b_l_turned : Binds K t.d_l_turned ["_law_number", "_law_many"] []
  F_l_other : Fun K "_law_other" "_law_other" s_l_other t.a_l_other t.d_l_other
  m_l_other : mg "_law_other" = some (.ref t.a_l_other)
  k_l_other : PySem.W.keepIn K (.ref t.a_l_other) = true
  b_l_other : Binds K t.d_l_other ["_law_end"] []
  F_l_place : Fun K "_law_place" "_law_place" s_l_place t.a_l_place t.d_l_place
  m_l_place : mg "_law_place" = some (.ref t.a_l_place)
  k_l_place : PySem.W.keepIn K (.ref t.a_l_place) = true
  b_l_place : Binds K t.d_l_place ["_law_ties", "_law_end"] []
  F_l_behind : Fun K "_law_behind" "_law_behind" s_l_behind t.a_l_behind t.d_l_behind
  m_l_behind : mg "_law_behind" = some (.ref t.a_l_behind)
  k_l_behind : PySem.W.keepIn K (.ref t.a_l_behind) = true
  b_l_behind : Binds K t.d_l_behind ["_law_ties", "_law_orders", "_law_end"] []
  F_l_lands : Fun K "_law_lands" "_law_lands" s_l_lands t.a_l_lands t.d_l_lands
  m_l_lands : mg "_law_lands" = some (.ref t.a_l_lands)
  k_l_lands : PySem.W.keepIn K (.ref t.a_l_lands) = true
  b_l_lands : Binds K t.d_l_lands ["_law_ties", "_law_orders"] []
  F_l_step : Fun K "_law_step" "_law_step" s_l_step t.a_l_step t.d_l_step
  m_l_step : mg "_law_step" = some (.ref t.a_l_step)
  k_l_step : PySem.W.keepIn K (.ref t.a_l_step) = true
  b_l_step : Binds K t.d_l_step ["_law_ties", "_law_orders", "_law_pick", "_law_most"] []
  F_l_renamed : Fun K "_law_renamed" "_law_renamed" s_l_renamed t.a_l_renamed t.d_l_renamed
  m_l_renamed : mg "_law_renamed" = some (.ref t.a_l_renamed)
  k_l_renamed : PySem.W.keepIn K (.ref t.a_l_renamed) = true
  b_l_renamed : Binds K t.d_l_renamed ["_law_ties", "_law_orders", "_law_cell"] []
  F_l_map : Fun K "_law_map" "_law_map" s_l_map t.a_l_map t.d_l_map
  m_l_map : mg "_law_map" = some (.ref t.a_l_map)
  k_l_map : PySem.W.keepIn K (.ref t.a_l_map) = true
  b_l_map : Binds K t.d_l_map ["_law_script", "_law_steps", "_law_most"] []
  F_l_wishes : Fun K "_law_wishes" "_law_wishes" s_l_wishes t.a_l_wishes t.d_l_wishes
  m_l_wishes : mg "_law_wishes" = some (.ref t.a_l_wishes)
  k_l_wishes : PySem.W.keepIn K (.ref t.a_l_wishes) = true
  b_l_wishes : Binds K t.d_l_wishes ["_law_ties", "_law_cell", "_law_barred"] []
  F_l_net_of : Fun K "_law_net_of" "_law_net_of" s_l_net_of t.a_l_net_of t.d_l_net_of
  m_l_net_of : mg "_law_net_of" = some (.ref t.a_l_net_of)
  k_l_net_of : PySem.W.keepIn K (.ref t.a_l_net_of) = true
  b_l_net_of : Binds K t.d_l_net_of ["_law_web", "_law_outer", "_law_wishes_here"] []
  F_l_copied : Fun K "_law_copied" "_law_copied" s_l_copied t.a_l_copied t.d_l_copied
  m_l_copied : mg "_law_copied" = some (.ref t.a_l_copied)
  k_l_copied : PySem.W.keepIn K (.ref t.a_l_copied) = true
  b_l_copied : Binds K t.d_l_copied ["_law_web"] []
  F_law : Fun K "law" "law" s_law t.a_law t.d_law
  m_law : mg "law" = some (.ref t.a_law)
  k_law : PySem.W.keepIn K (.ref t.a_law) = true
  b_law : Binds K t.d_law ["_law_script"] []
  z_enumerate : mg "enumerate" = none
  z_int : mg "int" = none
  z_isinstance : mg "isinstance" = none
  z_len : mg "len" = none
  z_list : mg "list" = none
  z_range : mg "range" = none
  z_tuple : mg "tuple" = none
  g_QUARTERS_ROUND : mg "QUARTERS_ROUND" = some (.int 4 t.q_tok)
end K22

abbrev K22.lawK : Nat := 60

namespace K22
open PySem L2 PyProof.Rows
variable {P : Program} {w : World} {K : PySem.W.Frag} {mg : Str → Option Value} {base : Heap} {t : Adr}
def spCell (K : PySem.W.Frag) : Sp := fun vs H Q _ => ∃ (a : Addr) (ns : List Int) (k : Int), vs = [.ref a, .int k] ∧ SqL K H a (ns.map V.int) ∧ 0 ≤ k ∧ ∀ c : Int, Q (.int c) H
theorem at_int {ns : List Int} {k : Int} (h0 : 0 ≤ k) (h : k < (ns.length : Int)) : ∃ v : Int, atI (ns.map V.int) k = some (.int v) := by
  have hk : k.toNat < ns.length := by omega
  have ek : k = ((k.toNat : Nat) : Int) := by omega
  have q : atI (ns.map V.int) ((k.toNat : Nat) : Int) = some (.int ns[k.toNat]) := atI_nat (by rw [List.getElem?_map, List.getElem?_eq_getElem hk] <;> rfl)
  rw [← ek] at q
  exact ⟨_, q⟩
theorem ok_cell (T : Txt K mg t) : FnOk P w K mg base CX0 1 t.a_l_cell_at t.d_l_cell_at ["_law_script", "_law_k"] (spCell K) := by
  refine T.F_l_cell_at.ok sc_l_cell_at (fun vs H Q E h => ?_) (fun cdv A outer s H vs Q E hr h => ?_)
  · obtain ⟨a, ns, k, rfl, _⟩ := h; rfl
  obtain ⟨a, ns, k, rfl, hS, h0, q⟩ := h
  refine ⟨_, (pss_cons (ps_if (pt_cmpR op_lt (pv 1) (pe_callB call_len_seq rfl T.z_len PySem.boot_len (pa_cons (pv 0) pa_nil)) (nomark _)) (pss_one (ps_ret (pe_ix ix_list (pv 0) (pv 1) (fun _ _ => rfl)))) pss_nil)
    (pss_one (ps_ret pe_int))), ?_⟩
  refine ⟨_, rfl, _, rfl, a, _, rfl, .inl hS, _, _, rfl, rfl, _, rfl, ?_⟩
  refine ite2 (fun c => ?_) (fun c => ?_)
  · have c' : k < (((ns.map V.int).length : Nat) : Int) := of_decide_eq_true c
    rw [List.length_map] at c'
    obtain ⟨v, hv⟩ := at_int h0 c'
    exact ⟨_, rfl, _, rfl, a, _, _, _, rfl, rfl, hS, hv, q v⟩
  · exact q 0

def spMix : Sp := fun vs H Q _ => ∃ c k : Int, vs = [.int c, .int k] ∧ 0 ≤ k ∧ k ≤ 1000 ∧ ∀ m : Int, 0 ≤ m → m < 1000000000 → Q (.int m) H
theorem ok_mix (T : Txt K mg t) : FnOk P w K mg base CX0 1 t.a_l_mix t.d_l_mix ["_law_cell", "_law_k"] spMix := by
  refine T.F_l_mix.ok sc_l_mix (fun vs H Q E h => ?_) (fun cdv A outer s H vs Q E hr h => ?_)
  · obtain ⟨a, k, rfl, _⟩ := h; rfl
  obtain ⟨c, k, rfl, h0, h1, q⟩ := h
  have nd := sc_l_mix.nd
  refine ⟨_, (pss_cons (ps_if (pt_cmpR op_ge (pv 0) (pe_op op_pow pe_int pe_int) (nomark _)) (pss_cons (ps_for PassesOwn.never rfl (pi_range1 rfl T.z_range (pa_cons (pv 1) pa_nil)) (pg_name (i := 2) nd rfl (Or.inl rfl)) (pss_one (ps_set (i := 0) nd rfl (Or.inl rfl) (pe_op op_fdiv (pv 0) (pe_op op_pow pe_int pe_int)))))
    (pss_one (ps_ret (pe_op op_mod (pv 0) (pe_op op_pow pe_int pe_int))))) pss_nil)
    (pss_cons (ps_set (i := 3) nd rfl (Or.inl rfl) (pe_op op_mod (pe_op op_mul (pe_op op_add (pe_op op_add (pe_op op_mod (pv 0) pe_int) (pe_op op_mul (pe_op op_mul (pv 1) (pv 1)) pe_int)) (pv 1)) pe_int) pe_int))
    (pss_cons (ps_set (i := 3) nd rfl (Or.inl rfl) (pe_op op_mod (pe_op op_mul (pv 3) (pv 3)) pe_int))
    (pss_one (ps_ret (pe_op op_fdiv (pe_op op_mod (pe_op op_mul (pv 3) (pe_op op_add (pv 3) pe_int)) pe_int) pe_int)))))), ?_⟩
  have p18 : CPow 10 18 := ⟨by decide, by decide, by decide⟩
  have p6 : CPow 10 6 := ⟨by decide, by decide, by decide⟩
  refine ⟨_, rfl, _, _, rfl, rfl, p18, _, _, rfl, rfl, _, rfl, ?_⟩
  refine ite2 (fun _ => ?_) (fun _ => ?_)
  · refine ⟨_, rfl, k, rfl, by omega, by omega, for_range (lo := 0) (n := k.toNat) (fun _ σ H' => H' = H ∧ ∃ (c' : Int) (o : Option V), σ = [some (.int c'), some (.int k), o, none]) ⟨rfl, c, none, rfl⟩ ?_ ?_⟩
    · rintro i σ H' hi ⟨rfl, c', o, rfl⟩
      exact ⟨_, rfl, _, _, rfl, rfl, p6, _, _, rfl, rfl, ⟨by decide, by decide⟩, rfl, _, _, rfl⟩
    · rintro σ H' ⟨rfl, c', o, rfl⟩
      refine ⟨_, rfl, _, _, rfl, rfl, p6, _, _, rfl, rfl, (by show (0 : Int) < 10 ^ 6; decide), q _ (Int.emod_nonneg _ (by decide)) ?_⟩
      exact Int.lt_trans (Int.emod_lt_of_pos _ (by decide)) (by decide)
  · refine ⟨_, rfl, _, _, rfl, rfl, (by show (0 : Int) < 1000003; decide), _, rfl, _, rfl, _, _, rfl, rfl, .inl ⟨by omega, by omega⟩, _, _, rfl, rfl, .inr ⟨by decide, by decide⟩, _, _, rfl, rfl, _, rfl, _, _, rfl, rfl, _, _, rfl, rfl, .inr ⟨by decide, by decide⟩, _, _, rfl, rfl, (by show (0 : Int) < 2147483629; decide), ?_⟩
    have b1 : ∀ x : Int, 0 ≤ x % 2147483629 ∧ x % 2147483629 < 2147483629 := fun x => ⟨Int.emod_nonneg _ (by decide), Int.emod_lt_of_pos _ (by decide)⟩
    have b2 : ∀ x : Int, 0 ≤ x % 2147483587 ∧ x % 2147483587 < 2147483587 := fun x => ⟨Int.emod_nonneg _ (by decide), Int.emod_lt_of_pos _ (by decide)⟩
    have b3 : ∀ x : Int, 0 ≤ x % 2147483579 ∧ x % 2147483579 < 2147483579 := fun x => ⟨Int.emod_nonneg _ (by decide), Int.emod_lt_of_pos _ (by decide)⟩
    generalize hn1 : ((c % 1000003 + k * k * 7919 + k) * 48271 % 2147483629 : Int) = n1
    have r1 := b1 ((c % 1000003 + k * k * 7919 + k) * 48271)
    rw [hn1] at r1
    refine ⟨_, rfl, _, rfl, _, _, rfl, rfl, .inl ⟨by omega, by omega⟩, _, _, rfl, rfl, (by show (0 : Int) < 2147483587; decide), ?_⟩
    have r2 := b2 (n1 * n1)
    generalize n1 * n1 % 2147483587 = n2 at r2 ⊢
    refine ⟨_, rfl, _, rfl, _, _, rfl, rfl, _, _, rfl, rfl, .inl ⟨by omega, by omega⟩, _, _, rfl, rfl, (by show (0 : Int) < 2147483579; decide), _, _, rfl, rfl, ⟨by decide, by decide⟩, ?_⟩
    have r3 := b3 (n2 * (n2 + 2))
    generalize n2 * (n2 + 2) % 2147483579 = n3 at r3 ⊢
    exact q _ (by omega) (by omega)
end K22

namespace K22
open PySem L2 PyProof.Rows
variable {P : Program} {w : World} {K : PySem.W.Frag} {mg : Str → Option Value} {base : Heap} {t : Adr}
/-! ### the law's own ends, places, what is behind -/
def spOth : Sp := fun vs H Q _ => ∃ e : Nat, vs = [vn e] ∧ Q (vn (MM.oth e)) H
theorem ok_lother (T : Txt K mg t) : FnOk P w K mg base CX0 1 t.a_l_other t.d_l_other ["_law_end"] spOth := by
  refine T.F_l_other.ok sc_l_other (fun vs H Q E h => ?_) (fun cdv A outer s H vs Q E hr h => ?_)
  · obtain ⟨e, rfl, _⟩ := h; rfl
  obtain ⟨e, rfl, q⟩ := h
  refine ⟨_, (pss_one (ps_ret (pe_op op_sub (pe_op op_add (pv 0) pe_int) (pe_op op_mul pe_int (pe_op op_mod (pv 0) pe_int))))), ?_⟩
  refine ⟨_, rfl, _, _, rfl, rfl, _, rfl, _, _, rfl, rfl, (by show (0 : Int) < 2; decide), _, _, rfl, rfl, .inl ⟨by decide, by decide⟩, _, _, rfl, rfl, ?_⟩
  have e1 : (e : Int) + 1 - 2 * ((e : Int) % 2) = ((MM.oth e : Nat) : Int) := by unfold MM.oth; split <;> omega
  show Q (.int ((e : Int) + 1 - 2 * ((e : Int) % 2))) H
  rw [e1]
  exact q
def spPlace : Sp := fun vs H Q _ => ∃ (a : Addr) (ts : MM.Ties) (e : Nat), vs = [.ref a, vn e] ∧ TsAt H a ts ∧ e < 2 * ts.length ∧ Q (vn (MM.place ts e)) H
theorem at_pair {x y : Nat} (e : Nat) : atI [vn x, vn y] ((e : Int) % 2) = some (vn (if e % 2 = 0 then x else y)) := by
  rcases Nat.mod_two_eq_zero_or_one e with h | h
  · rw [show (e : Int) % 2 = 0 by omega, if_pos h]; rfl
  · rw [show (e : Int) % 2 = 1 by omega, if_neg (by omega)]; rfl
theorem ok_lplace (T : Txt K mg t) : FnOk P w K mg base CX0 1 t.a_l_place t.d_l_place ["_law_ties", "_law_end"] spPlace := by
  refine T.F_l_place.ok sc_l_place (fun vs H Q E h => ?_) (fun cdv A outer s H vs Q E hr h => ?_)
  · obtain ⟨a, ts, e, rfl, _⟩ := h; rfl
  obtain ⟨a, ts, e, rfl, ht, he, q⟩ := h
  refine ⟨_, (pss_one (ps_ret (pe_ix ix_seq (pe_ix ix_list (pv 0) (pe_op op_fdiv (pv 1) pe_int) (fun _ _ => rfl)) (pe_op op_mod (pv 1) pe_int) (fun _ _ => rfl)))), ?_⟩
  obtain ⟨xs, r, h1, h2, h3, h4⟩ := ht.item (i := e / 2) (by omega)
  refine ⟨_, rfl, _, rfl, _, _, rfl, rfl, ⟨by decide, by decide⟩, a, xs, _, _, rfl, rfl, SqL.of h1, (by show atI xs ((e : Int) / 2) = _; rw [show (e : Int) / 2 = ((e / 2 : Nat) : Int) by omega]; exact h3), ?_⟩
  refine ⟨_, rfl, _, _, rfl, rfl, (by show (0 : Int) < 2; decide), .inr (.inl ⟨r, _, _, _, rfl, rfl, SqT.of h4, at_pair e, ?_⟩)⟩
  unfold MM.place at q
  split
  · rename_i h; rw [if_pos h] at q; exact q
  · rename_i h; rw [if_neg h] at q; exact q
def spBeh : Sp := fun vs H Q _ => ∃ (a o : Addr) (ts : MM.Ties) (os : MM.Ords) (e : Nat), vs = [.ref a, .ref o, vn e] ∧ TsAt H a ts ∧ OsAt H o os ∧ MM.Good ts os ∧ e < 2 * ts.length ∧ Q (vn (MM.behind ts os e)) H
theorem ok_lbehind (T : Txt K mg t) : FnOk P w K mg base CX0 2 t.a_l_behind t.d_l_behind ["_law_ties", "_law_orders", "_law_end"] spBeh := by
  have G_l_other := ok_lother (P := P) (w := w) (base := base) T
  have G_l_place := ok_lplace (P := P) (w := w) (base := base) T
  refine T.F_l_behind.ok sc_l_behind (fun vs H Q E h => ?_) (fun cdv A outer s H vs Q E hr h => ?_)
  · obtain ⟨a, o, ts, os, e, rfl, _⟩ := h; rfl
  obtain ⟨a, o, ts, os, e, rfl, ht, ho, g, he, q⟩ := h
  have nd := sc_l_behind.nd
  refine ⟨_, (pss_cons (ps_set (i := 3) nd rfl (Or.inl rfl) (pe_ix ix_list (pv 1) (pe_call G_l_place (hr.mono (by decide)) rfl T.m_l_place T.k_l_place T.b_l_place .nil pass0 (pa_cons (pv 0) (pa_cons (pe_call G_l_other (hr.mono (by decide)) rfl T.m_l_other T.k_l_other T.b_l_other .nil pass0 (pa_cons (pv 2) pa_nil)) pa_nil))) (fun _ _ => rfl)))
    (pss_one (ps_ret (pe_ix ix_list (pv 3) (pe_op op_sub (pe_bm PySem.F.plainAttrs_list PySem.F.slot_list_index PySem.F.type_list_index mt_index (pv 3) (pa_cons (pe_call G_l_other (hr.mono (by decide)) rfl T.m_l_other T.k_l_other T.b_l_other .nil pass0 (pa_cons (pv 2) pa_nil)) pa_nil)) pe_int) (fun _ _ => rfl))))), ?_⟩
  have hp := g.g.has (MM.oth e) (MM.oth_lt he)
  obtain ⟨xs, r, h1, h2, h3, h4⟩ := ho.item hp.1
  refine ⟨_, rfl, _, rfl, _, rfl, e, rfl, a, ts, MM.oth e, rfl, ht, MM.oth_lt he, o, xs, _, _, rfl, rfl, SqL.of h1, h3, ?_⟩
  refine ⟨_, rfl, _, rfl, .inl ⟨rfl, _, SqL.of h4⟩, _, rfl, e, rfl, r, _, _, rfl, rfl, h4, hp.2, _, _, rfl, rfl, r, _, _, _, rfl, rfl, SqL.of h4, at_prev hp.2, q⟩
end K22

namespace L2
open PySem PyProof.Rows
/-- a new list of new lists -/
structure NewOs (H H' : Hp) (r : Addr) (rr : List Addr) (ls : MM.Ords) : Prop where
  at_ : H' r = some (.lst (rr.map V.ref))
  len : rr.length = ls.length
  row : ∀ (i : Nat) l, ls[i]? = some l → ∃ x, rr[i]? = some x ∧ H' x = some (.lst (vns l))
  nd : rr.Nodup
  nin : r ∉ rr
  new : H r = none
  news : ∀ x ∈ rr, H x = none
theorem NewOs.os {H H' : Hp} {r : Addr} {rr : List Addr} {ls : MM.Ords} (n : NewOs H H' r rr ls) : OsAt H' r ls := ⟨rr, n.at_, n.len, n.row⟩
theorem NewOs.keep {H H' H2 : Hp} {r : Addr} {rr : List Addr} {ls : MM.Ords} (n : NewOs H H' r rr ls) (g : ∀ b o, b = r ∨ b ∈ rr → H' b = some o → H2 b = some o) : NewOs H H2 r rr ls :=
  ⟨g _ _ (.inl rfl) n.at_, n.len, fun i l h => by obtain ⟨x, h1, h2⟩ := n.row i l h; exact ⟨x, h1, g _ _ (.inr (List.mem_of_getElem? h1)) h2⟩, n.nd, n.nin, n.new, n.news⟩
theorem NewOs.ex {H H' : Hp} {r : Addr} {rr : List Addr} {ls : MM.Ords} (n : NewOs H H' r rr ls) {x : Addr} (hx : x ∈ rr) : ∃ l, H' x = some (.lst (vns l)) := by
  obtain ⟨i, hi, rfl⟩ := List.mem_iff_getElem.mp hx
  have hi' : i < ls.length := by rw [← n.len]; exact hi
  obtain ⟨y, h1, h2⟩ := n.row i (ls[i]'hi') (List.getElem?_eq_getElem hi')
  rw [List.getElem?_eq_getElem hi] at h1
  cases h1
  exact ⟨_, h2⟩
/-- one more row -/
theorem NewOs.push {H H' H2 : Hp} {r x : Addr} {rr : List Addr} {ls : MM.Ords} {l : List Nat} (n : NewOs H H' r rr ls) (hx : H x = none) (hxr : x ∉ rr) (hxn : x ≠ r) (at2 : H2 r = some (.lst ((rr ++ [x]).map V.ref))) (ax : H2 x = some (.lst (vns l)))
    (g : ∀ b o, b ∈ rr → H' b = some o → H2 b = some o) : NewOs H H2 r (rr ++ [x]) (ls ++ [l]) where
  at_ := at2
  len := by rw [List.length_append, List.length_append, n.len]; rfl
  row := fun i m h => by
    rcases Nat.lt_or_ge i ls.length with q | q
    · rw [List.getElem?_append_left q] at h
      obtain ⟨y, h1, h2⟩ := n.row i m h
      exact ⟨y, by rw [List.getElem?_append_left (by rw [n.len]; exact q)]; exact h1, g _ _ (List.mem_of_getElem? h1) h2⟩
    · have hi : i = ls.length := by
        obtain ⟨z, _⟩ := List.getElem?_eq_some_iff.mp h
        rw [List.length_append] at z
        simp at z
        omega
      subst hi
      rw [List.getElem?_concat_length] at h
      cases h
      exact ⟨x, by rw [← n.len, List.getElem?_concat_length], ax⟩
  nd := by
    rw [List.nodup_append]
    refine ⟨n.nd, by simp, fun a ha b hb z => ?_⟩
    have e : b = x := by simpa using hb
    subst e
    subst z
    exact hxr ha
  nin := fun z => by
    rcases List.mem_append.mp z with z | z
    · exact n.nin z
    · have e : r = x := by simpa using z
      exact hxn e.symm
  new := n.new
  news := fun y hy => by
    rcases List.mem_append.mp hy with z | z
    · exact n.news y z
    · have e : y = x := by simpa using z
      subst e
      exact hx
theorem vns_app (l m : List Nat) : vns (l ++ m) = vns l ++ vns m := List.map_append
theorem inV_nat (x : Nat) (l : List Nat) : inV (vn x) (vns l) = decide (x ∈ l) := by
  unfold inV
  rw [Bool.eq_iff_iff, List.any_eq_true, decide_eq_true_iff]
  constructor
  · rintro ⟨y, hy, h⟩
    obtain ⟨n, hn, rfl⟩ := List.mem_map.mp hy
    have h' : ((n : Int) == (x : Int)) = true := h
    have : n = x := by have := beq_iff_eq.mp h'; omega
    subst this
    exact hn
  · intro h
    exact ⟨vn x, List.mem_map.mpr ⟨x, h, rfl⟩, by show ((x : Int) == (x : Int)) = true; simp⟩
theorem vns_flat (l : List Nat) : (vns l).all flatV = true := by rw [List.all_eq_true]; intro y hy; obtain ⟨n, _, rfl⟩ := List.mem_map.mp hy; rfl
theorem bds_vns {K : PySem.W.Frag} {H : Hp} : ∀ l : List Nat, Bds K H (vns l) (l.map fun n : Nat => PyData.int (n : Int))
  | [] => .nil
  | n :: l => .cons (.int n) (bds_vns l)
theorem shaped_nats (l : List Nat) : SeqAt.shaped (.list (l.map fun n : Nat => PyData.int (n : Int))) = true := by
  have e : (l.map fun n : Nat => PyData.int (n : Int)) = (l.map fun n : Nat => (n : Int)).map PyData.int := by rw [List.map_map]; rfl
  rw [e]
  generalize (l.map fun n : Nat => (n : Int)) = ns
  simp [SeqAt.shaped, PyData.canLay0, PyData.canLayAll0, PyData.depth, PyData.depthAll, PySem.W.ke_canLayAll0, PySem.W.ke_depthAll]
theorem eqv_nats (l m : List Nat) : PyData.eqv (.list (l.map fun n : Nat => PyData.int (n : Int))) (.list (m.map fun n : Nat => PyData.int (n : Int))) = decide (l = m) := by
  have e : ∀ l : List Nat, (l.map fun n : Nat => PyData.int (n : Int)) = (l.map fun n : Nat => (n : Int)).map PyData.int := fun l => by rw [List.map_map]; rfl
  rw [e, e]
  unfold PyData.eqv
  rw [PySem.W.ked_eqvAll]
  have inj : ∀ l m : List Nat, (l.map fun n : Nat => (n : Int)) = (m.map fun n : Nat => (n : Int)) → l = m := by
    intro l
    induction l with
    | nil => intro m h; cases m with
      | nil => rfl
      | cons _ _ => simp at h
    | cons a l ih => intro m h; cases m with
      | nil => simp at h
      | cons b m =>
        simp only [List.map_cons, List.cons.injEq] at h
        rw [ih m h.2, show a = b by omega]
  by_cases h : l = m
  · subst h; simp
  · rw [decide_eq_false h, decide_eq_false (fun z => h (inj l m z))]
end L2
namespace K22
open PySem L2 PyProof.Rows
variable {P : Program} {w : World} {K : PySem.W.Frag} {mg : Str → Option Value} {base : Heap} {t : Adr}
def spLandsL : Sp := fun vs H Q _ => ∃ (a o : Addr) (ts : MM.Ties) (os : MM.Ords), vs = [.ref a, .ref o] ∧ TsAt H a ts ∧ OsAt H o os ∧ MM.Good ts os ∧ ts.length ≤ 500 ∧
  ∀ (r : Addr) (rr : List Addr) (H' : Hp), Same H H' → NewOs H H' r rr (MM.landsOf (MM.behind ts os) (2 * ts.length)) → Q (.ref r) H'
theorem ok_llands (T : Txt K mg t) : FnOk P w K mg base CX0 3 t.a_l_lands t.d_l_lands ["_law_ties", "_law_orders"] spLandsL := by
  have G_l_behind := ok_lbehind (P := P) (w := w) (base := base) T
  refine T.F_l_lands.ok sc_l_lands (fun vs H Q E h => ?_) (fun cdv A outer s H vs Q E hr h => ?_)
  · obtain ⟨a, o, ts, os, rfl, _⟩ := h; rfl
  obtain ⟨a, o, ts, os, rfl, ht, ho, g, h500, q⟩ := h
  have nd := sc_l_lands.nd
  have nd_l_end_l_land : (["_law_end", "_law_land"] : List Str).Nodup := by decide
  refine ⟨_, (pss_cons (ps_set (i := 2) nd rfl (Or.inl rfl) (pe_lst pa_nil))
    (pss_cons (ps_set (i := 3) nd rfl (Or.inl rfl) (pe_callTy (call_list_rng rfl) rfl T.z_list boot_list (pa_cons (pe_callTy call_range1 rfl T.z_range boot_range (pa_cons (pe_op op_mul pe_int (pe_callB call_len_seq rfl T.z_len PySem.boot_len (pa_cons (pv 0) pa_nil))) pa_nil)) pa_nil)))
    (pss_cons (ps_while PassesOwn.never (pt_cmpR (op_neD hr.units) (pv 3) (pe_lst pa_nil) (nomark _)) (pss_cons (ps_set (i := 4) nd rfl (Or.inr rfl) (pe_lst (pa_cons (pe_ix ix_list (pv 3) pe_int (fun _ _ => rfl)) pa_nil)))
    (pss_cons (ps_set (i := 5) nd rfl (Or.inl rfl) (pe_call G_l_behind (hr.mono (by decide)) rfl T.m_l_behind T.k_l_behind T.b_l_behind .nil pass0 (pa_cons (pv 0) (pa_cons (pv 1) (pa_cons (pe_ix ix_list (pv 3) pe_int (fun _ _ => rfl)) pa_nil)))))
    (pss_cons (ps_while PassesOwn.never (pt_cmpR op_ne (pv 5) (pe_ix ix_list (pv 4) pe_int (fun _ _ => rfl)) (nomark _)) (pss_cons (ps_expr (pe_bm PySem.F.plainAttrs_list PySem.F.slot_list_append PySem.F.type_list_append mt_append (pv 4) (pa_cons (pv 5) pa_nil)))
    (pss_one (ps_set (i := 5) nd rfl (Or.inl rfl) (pe_call G_l_behind (hr.mono (by decide)) rfl T.m_l_behind T.k_l_behind T.b_l_behind .nil pass0 (pa_cons (pv 0) (pa_cons (pv 1) (pa_cons (pv 5) pa_nil))))))))
    (pss_cons (ps_expr (pe_bm PySem.F.plainAttrs_list PySem.F.slot_list_append PySem.F.type_list_append mt_append (pv 2) (pa_cons (pv 4) pa_nil)))
    (pss_one (ps_setComp (i := 3) nd rfl (Or.inl rfl)  (N' := ["_law_end", "_law_land"]) (js := [none, some 4]) rfl (pi_list (pv 3)) (fun _ _ _ _ _ => (pg_name (i := 0) nd_l_end_l_land rfl (Or.inl rfl))) (fun _ _ _ _ _ => (pf_one (pt_cmpR (kop_notIn (K := K) rfl) (pv 0) (pv 1) rfl))) (fun _ _ _ _ _ => (pv 0)))))))))
    (pss_one (ps_ret (pv 2)))))), ?_⟩
  have m := g.maps
  obtain ⟨tr0, hta, htl, _⟩ := id ht
  -- told = []
  refine ⟨(by show 0 ≤ sizeLine; decide), fun tr htr => ?_⟩
  have g1 := same_new htr (.lst [])
  -- left = list(range(..))
  refine ⟨_, rfl, a, _, rfl, .inl (SqL.of (g1 _ _ hta)), _, _, rfl, rfl, .inl ⟨by decide, by decide⟩, _, rfl, fun p hp => ?_⟩
  have e2 : (2 : Int) * ((tr0.map V.ref).length : Nat) = ((2 * ts.length : Nat) : Int) := by rw [List.length_map, htl]; push_cast; rfl
  rw [e2] at *
  have g2 := same_new hp (.rng 0 ((2 * ts.length : Nat) : Int))
  refine ⟨p, 2 * ts.length, rfl, upd_same, by omega, fun lr hlr => ?_⟩
  have g3 := same_new hlr (.lst (vns (List.range (2 * ts.length))))
  have ntl : tr ≠ lr := ne_of_none (g2 _ _ upd_same) hlr
  generalize hf : MM.behind ts os = f at m q
  generalize hN : 2 * ts.length = N at m q hlr g3 g2 hp
  have n0 : NewOs H (upd (upd (upd H tr (.lst [])) p (.rng 0 (N : Int))) lr (.lst (vns (List.range N)))) tr [] [] :=
    ⟨g3 _ _ (g2 _ _ upd_same), rfl, fun i l h => by simp at h, List.nodup_nil, by simp, htr, fun x hx => by cases hx⟩
  refine ⟨fun k σ H1 => ∃ (lr : Addr) (left : List Nat) (rr : List Addr) (done : MM.Ords) (o4 o5 : Option V), k = left.length ∧ σ = [some (.ref a), some (.ref o), some (.ref tr), some (.ref lr), o4, o5] ∧ Same H H1 ∧ H1 lr = some (.lst (vns left)) ∧
    NewOs H H1 tr rr done ∧ lr ≠ tr ∧ done ++ MM.lf f left = MM.landsOf f N ∧ (∀ x ∈ left, x < N) ∧ left.length ≤ N, ⟨_, lr, List.range N, [], [], none, none, rfl, rfl, (g1.trans g2).trans g3, upd_same, n0, Ne.symm ntl, rfl, fun x hx => List.mem_range.mp hx, by simp⟩, ?_⟩
  clear n0 g3 g2 hp hlr ntl lr p g1
  rintro k σ H1 ⟨lr, left, rr, done, o4, o5, rfl, rfl, g1, el, n1, nlt, eq, hlt, hll⟩
  refine ⟨_, rfl, (by show 0 ≤ sizeLine; decide), fun p hp => ?_⟩
  have gp := same_new hp (.lst [])
  refine ⟨_, _, .lst (SqL.of (gp _ _ el)) (bds_vns left), .lst (SqL.of upd_same) (bds_vns []), shaped_nats left, shaped_nats [], _, rfl, ?_⟩
  rw [eqv_nats]
  have n2 : NewOs H (upd H1 p (.lst [])) tr rr done := n1.keep fun b o' _ h => gp _ _ h
  have g2 := g1.trans gp
  have el2 := gp _ _ el
  generalize upd H1 p (.lst []) = H2 at n2 g2 el2 gp
  clear hp
  cases left with
  | nil =>
    refine iteFb rfl ?_
    rw [MM.lf_nil, List.append_nil] at eq
    exact ⟨_, rfl, q tr rr H2 g2 (eq ▸ n2)⟩
  | cons e r =>
    refine iteTb (by simp) ?_
    have heN : e < N := hlt e List.mem_cons_self
    obtain ⟨rd, rdN⟩ := MM.per_round m heN
    have hdl : done.length ≤ N := by
      have h1 := MM.lf_len m _ (List.range N) (Nat.le_refl _) (fun x hx => List.mem_range.mp hx)
      have h2 : (done ++ MM.lf f (e :: r)).length = (MM.landsOf f N).length := by rw [eq]
      rw [List.length_append] at h2
      unfold MM.landsOf at h2
      rw [List.length_range] at h1
      omega
    have p1 : atI (vns (e :: r)) 0 = some (vn e) := at_vns (l := e :: r) (j := 0) (by simp) rfl
    -- land = [left[0]]
    refine ⟨_, fun σ' H' h => h, ?_⟩
    refine ⟨_, rfl, lr, _, _, _, rfl, rfl, SqL.of el2, p1, (by show 1 ≤ sizeLine; decide), fun la hla => ?_⟩
    have g3 := same_new hla (.lst [vn e])
    have nla : la ≠ tr ∧ la ≠ lr ∧ la ∉ rr := by
      refine ⟨(ne_of_none n2.at_ hla).symm, (ne_of_none el2 hla).symm, fun z => ?_⟩
      obtain ⟨l, hl⟩ := n2.ex z
      rw [hla] at hl; cases hl
    refine ⟨_, rfl, _, rfl, _, rfl, lr, _, _, _, rfl, rfl, SqL.of (g3 _ _ el2), p1, a, o, ts, os, e, rfl, (g2.trans g3).ts ht, (g2.trans g3).os ho, g, by rw [hN]; exact heN, ?_⟩
    rw [hf]
    -- the way round
    refine ⟨fun k σ H4 => ∃ j, k = MM.per f e - j ∧ 0 < j ∧ j ≤ MM.per f e ∧ σ = [some (.ref a), some (.ref o), some (.ref tr), some (.ref lr), some (.ref la), some (vn (MM.iter f j e))] ∧ (∀ b o, b ≠ la → H2 b = some o → H4 b = some o) ∧ H4 la = some (.lst (vns (MM.path f e j))),
      ⟨_, 1, rfl, Nat.one_pos, rd.1, rfl, fun b o' hb h => g3 _ _ h, upd_same⟩, ?_⟩
    rintro k σ H4 ⟨j, rfl, hj0, hj, rfl, b4, e4⟩
    have hH : ∀ b o', H b = some o' → H4 b = some o' := fun b o' h => b4 b o' (ne_of_none (g2 _ _ h) hla) (g2 _ _ h)
    have p0 : atI (vns (MM.path f e j)) 0 = some (vn e) := by
      have hl : 0 < (MM.path f e j).length := by rw [MM.path_len]; exact hj0
      refine (at_vns hl (k := 0) rfl).trans ?_
      congr 2
      unfold MM.path
      simp [List.getD, hj0]
      rfl
    refine ⟨_, rfl, _, rfl, la, _, _, _, rfl, rfl, SqL.of e4, p0, rfl, _, rfl, ?_⟩
    by_cases hc : MM.iter f j e = e
    · refine iteFb (by rw [hc]; simp) ?_
      have ej : j = MM.per f e := by
        rcases Nat.lt_or_ge j (MM.per f e) with z | z
        · exact absurd hc (rd.2.2 j hj0 z)
        · omega
      subst ej
      -- told.append(land)
      have n4 : NewOs H H4 tr rr done := n2.keep fun b o' hb h => b4 b o' (by rcases hb with rfl | hb; exact Ne.symm nla.1; rintro rfl; exact nla.2.2 hb) h
      refine ⟨_, rfl, .inl ⟨rfl, _, SqL.of n4.at_⟩, _, rfl, tr, _, _, rfl, rfl, n4.at_, ?_, ?_⟩
      · rw [List.length_map, n4.len]; exact Nat.lt_of_le_of_lt (by omega : done.length ≤ 1000) (by decide)
      have el5 : (upd H4 tr (.lst (rr.map V.ref ++ [.ref la]))) lr = some (.lst (vns (e :: r))) := by rw [upd_ne nlt]; exact b4 _ _ (Ne.symm nla.2.1) el2
      have la5 : (upd H4 tr (.lst (rr.map V.ref ++ [.ref la]))) la = some (.lst (vns (MM.landOf f e))) := by rw [upd_ne nla.1]; exact e4
      have hH5 : Same H (upd H4 tr (.lst (rr.map V.ref ++ [.ref la]))) := fun b o' h => by rw [upd_ne (ne_of_none h htr)]; exact hH b o' h
      have n5 : NewOs H (upd H4 tr (.lst (rr.map V.ref ++ [.ref la]))) tr (rr ++ [la]) (done ++ [MM.landOf f e]) :=
        n4.push (g2.free hla) nla.2.2 nla.1 (by rw [upd_same, List.map_append]; rfl) la5 fun b o' hb h => by rw [upd_ne (show b ≠ tr from fun z => n4.nin (z ▸ hb))]; exact h
      generalize upd H4 tr (.lst (rr.map V.ref ++ [.ref la])) = H5 at el5 la5 hH5 n5
      refine ⟨_, rfl, lr, rfl, ⟨_, SqL.of el5⟩, fun D hD => ?_⟩
      refine comp_by (e :: r).length (fun i ys H' => ys = vns (((e :: r).take i).filter fun x => decide (x ∉ MM.landOf f e)) ∧ H' = upd H5 D (.lst ys)) ⟨by simp, rfl⟩ ?_ ?_
      · rintro i ys H' hi ⟨rfl, rfl⟩
        have gD := same_new hD (.lst (vns (((e :: r).take i).filter fun x => decide (x ∉ MM.landOf f e))))
        have hx : (vns (e :: r))[i]? = some (vn (e :: r)[i]) := by rw [List.getElem?_map, List.getElem?_eq_getElem hi]; rfl
        refine ⟨⟨_, _, SqL.of (gD _ _ el5), hx⟩, ?_⟩
        rintro x' H'' ⟨rfl, hx'⟩
        have e6 := hx' _ (SqL.of (gD _ _ el5))
        rw [hx] at e6
        cases e6
        refine ⟨(Fills.refl _).set _ rfl, ?_⟩
        refine ⟨_, rfl, _, rfl, la, _, rfl, .inl (SqL.of (gD _ _ la5)), rfl, vns_flat _, _, rfl, ?_⟩
        rw [inV_nat]
        have ts1 := take_succ_filter (fun x => decide (x ∉ MM.landOf f e)) (e :: r) i _ (List.getElem?_eq_getElem hi)
        have hfl : ((List.take i (e :: r)).filter fun x => decide (x ∉ MM.landOf f e)).length ≤ 1000 := by
          have h1 := List.length_filter_le (fun x => decide (x ∉ MM.landOf f e)) (List.take i (e :: r))
          have h2 : (List.take i (e :: r)).length ≤ (e :: r).length := List.length_take_le' _ _
          omega
        by_cases hxm : (e :: r)[i] ∈ MM.landOf f e
        · refine iteFb (by simp [hxm]) ?_
          rw [ts1, if_neg (by simp [hxm]), List.append_nil]
          exact ⟨rfl, rfl⟩
        · refine iteTb (by simp [hxm]) ?_
          refine ⟨_, rfl, upd_same, ?_, ?_, ?_⟩
          · rw [List.length_map]; exact Nat.lt_of_le_of_lt hfl (by decide)
          · rw [ts1, if_pos (by simp [hxm]), vns_app]; rfl
          · rw [upd_upd]
      · rintro ys H' ⟨rfl, rfl⟩
        have gD := same_new hD (.lst (vns (((e :: r).take (e :: r).length).filter fun x => decide (x ∉ MM.landOf f e))))
        refine ⟨⟨_, SqL.of (gD _ _ el5), by rw [List.length_map]; exact Nat.le_refl _⟩, ?_⟩
        have sh := MM.filter_shorter m heN r
        refine ⟨_, ?_, D, _, rr ++ [la], done ++ [MM.landOf f e], _, _, rfl, rfl, hH5.trans gD, upd_same, n5.keep fun b o' _ h => gD _ _ h, (ne_of_none n5.at_ hD).symm, ?_, ?_, ?_⟩
        · rw [List.take_length]; simp only [List.length_cons]; omega
        · rw [List.take_length, List.append_assoc]
          rw [MM.lf_cons m hlt] at eq
          exact eq
        · intro x hx
          rw [List.take_length] at hx
          exact hlt x (List.mem_filter.mp hx).1
        · rw [List.take_length]; simp only [List.length_cons] at hll; omega
    · refine iteTb (by simp; omega) ?_
      have hjp := MM.round_more rd hj0 hj hc
      refine ⟨_, fun σ' H' h => h, ?_⟩
      refine ⟨_, rfl, .inl ⟨rfl, _, SqL.of e4⟩, _, rfl, la, _, _, rfl, rfl, e4, ?_, ?_⟩
      · rw [List.length_map, MM.path_len]; exact Nat.lt_of_le_of_lt (by omega : j ≤ 1000) (by decide)
      have e7 : vns (MM.path f e j) ++ [vn (MM.iter f j e)] = vns (MM.path f e (j + 1)) := by rw [MM.path_succ, vns_app]; rfl
      rw [e7]
      have hH5 : Same H (upd H4 la (.lst (vns (MM.path f e (j + 1))))) := fun b o' h => by rw [upd_ne (ne_of_none (g2 _ _ h) hla)]; exact hH b o' h
      refine ⟨_, rfl, _, rfl, _, rfl, a, o, ts, os, MM.iter f j e, rfl, hH5.ts ht, hH5.os ho, g, by rw [hN]; exact MM.iter_lt m heN j, ?_⟩
      rw [hf]
      exact ⟨MM.per f e - (j + 1), by omega, j + 1, rfl, by omega, by omega, rfl, fun b o' hb h => by rw [upd_ne hb]; exact b4 b o' hb h, upd_same⟩
end K22

namespace MM
theorem insAt_mem {l : List Nat} {i x y : Nat} : y ∈ L2.insAt l i x ↔ y = x ∨ y ∈ l := by
  unfold L2.insAt
  rw [List.mem_append, List.mem_cons]
  have h : y ∈ l ↔ y ∈ l.take i ∨ y ∈ l.drop i := by rw [← List.mem_append, List.take_append_drop]
  rw [h]
  constructor
  · rintro (h | h | h)
    · exact .inr (.inl h)
    · exact .inl h
    · exact .inr (.inr h)
  · rintro (h | h | h)
    · exact .inr (.inl h)
    · exact .inl h
    · exact .inr (.inr h)
theorem insAt_nodup {l : List Nat} (nd : l.Nodup) {i x : Nat} (h : x ∉ l) : (L2.insAt l i x).Nodup := by
  unfold L2.insAt
  have p : (l.take i ++ x :: l.drop i).Perm (x :: l) := by
    have q := List.perm_middle (a := x) (l₁ := l.take i) (l₂ := l.drop i)
    rw [List.take_append_drop] at q
    exact q
  exact (p.nodup_iff).mpr (List.nodup_cons.mpr ⟨h, nd⟩)
theorem insAt_len {α : Type} (l : List α) (i : Nat) (x : α) : (L2.insAt l i x).length = l.length + 1 := by
  unfold L2.insAt
  rw [List.length_append, List.length_cons, ← Nat.add_assoc, ← List.length_append, List.take_append_drop]
theorem insAt_vns (l : List Nat) (i x : Nat) : L2.insAt (L2.vns l) i (L2.vn x) = L2.vns (L2.insAt l i x) := by
  unfold L2.insAt L2.vns
  rw [List.map_append, List.map_cons, List.map_take, List.map_drop]
end MM
namespace K22
open PySem L2 PyProof.Rows
variable {P : Program} {w : World} {K : PySem.W.Frag} {mg : Str → Option Value} {base : Heap} {t : Adr}
def spTurned : Sp := fun vs H Q _ => ∃ (num : Int) (n : Nat), vs = [.int num, vn n] ∧ 0 ≤ num ∧ n ≤ 400 ∧ ∀ (r : Addr) (ps : List Nat), H r = none → ps.Nodup → (∀ x ∈ ps, x < n) → ps.length = n → Q (.ref r) (upd H r (.lst (vns ps)))
theorem ok_lturned (T : Txt K mg t) : FnOk P w K mg base CX0 1 t.a_l_turned t.d_l_turned ["_law_number", "_law_many"] spTurned := by
  refine T.F_l_turned.ok sc_l_turned (fun vs H Q E h => ?_) (fun cdv A outer s H vs Q E hr h => ?_)
  · obtain ⟨num, n, rfl, _⟩ := h; rfl
  obtain ⟨num, n, rfl, h0, hn, q⟩ := h
  have nd := sc_l_turned.nd
  refine ⟨_, (pss_cons (ps_set (i := 2) nd rfl (Or.inl rfl) (pe_lst pa_nil))
    (pss_cons (ps_for PassesOwn.never rfl (pi_range1 rfl T.z_range (pa_cons (pv 1) pa_nil)) (pg_name (i := 3) nd rfl (Or.inl rfl)) (pss_cons (ps_expr (pe_bm PySem.F.plainAttrs_list PySem.F.slot_list_insert PySem.F.type_list_insert mt_insert (pv 2) (pa_cons (pe_op op_mod (pv 0) (pe_op op_add (pv 3) pe_int)) (pa_cons (pv 3) pa_nil))))
    (pss_one (ps_set (i := 0) nd rfl (Or.inl rfl) (pe_op op_fdiv (pv 0) (pe_op op_add (pv 3) pe_int))))))
    (pss_one (ps_ret (pv 2))))), ?_⟩
  refine ⟨(by show 0 ≤ sizeLine; decide), fun r hr0 => ?_⟩
  refine ⟨_, rfl, n, rfl, by omega, by omega, for_range (lo := 0) (n := (n : Int).toNat) (fun i σ H' => ∃ (num' : Int) (ps : List Nat) (o : Option V), 0 ≤ num' ∧ σ = [some (.int num'), some (vn n), some (.ref r), o] ∧ H' = upd H r (.lst (vns ps)) ∧ ps.Nodup ∧ (∀ x ∈ ps, x < i) ∧ ps.length = i)
    ⟨num, [], none, h0, rfl, rfl, List.nodup_nil, (fun x hx => by cases hx), rfl⟩ ?_ ?_⟩
  · rintro i σ H' hi ⟨num', ps, o, h0', rfl, rfl, hnd, hlt, hl⟩
    have hi' : i < 400 := by omega
    have e1 : num' % (0 + (i : Int) + 1) = (((num' % (0 + (i : Int) + 1)).toNat : Nat) : Int) := by
      have := Int.emod_nonneg num' (show (0 + (i : Int) + 1) ≠ 0 by omega)
      omega
    have e2 : (num' % (0 + (i : Int) + 1)).toNat ≤ i := by
      have := Int.emod_lt_of_pos num' (show 0 < (0 + (i : Int) + 1) by omega)
      omega
    refine ⟨_, rfl, .inl ⟨rfl, _, SqL.of upd_same⟩, _, rfl, _, rfl, _, _, rfl, rfl, _, _, rfl, rfl, (by show (0 : Int) < 0 + (i : Int) + 1; omega), _, rfl, r, _, (num' % (0 + (i : Int) + 1)).toNat, vn i, rfl, ?_, upd_same, ?_, ?_, ?_⟩
    · show [V.int (num' % (0 + (i : Int) + 1)), V.int (0 + (i : Int))] = [V.int (((num' % (0 + (i : Int) + 1)).toNat : Nat) : Int), V.int (i : Int)]
      rw [← e1, Int.zero_add]
    · rw [List.length_map]; omega
    · rw [List.length_map]; exact Nat.lt_of_le_of_lt (by omega : ps.length ≤ 1000) (by decide)
    refine ⟨_, rfl, _, rfl, _, _, rfl, rfl, _, _, rfl, rfl, ⟨by show (0 : Int) < 0 + (i : Int) + 1; omega, by show 0 + (i : Int) + 1 < 1073741824; omega⟩, ?_⟩
    refine ⟨_, insAt ps (num' % (0 + (i : Int) + 1)).toNat i, _, ?_, rfl, ?_, ?_, ?_, ?_⟩
    · exact Int.ediv_nonneg h0' (by omega)
    · rw [upd_upd, MM.insAt_vns]
    · exact MM.insAt_nodup hnd fun z => Nat.lt_irrefl _ (hlt i z)
    · intro x hx
      rcases MM.insAt_mem.mp hx with rfl | hx
      · omega
      · have := hlt x hx; omega
    · rw [MM.insAt_len, hl]
  · rintro σ H' ⟨num', ps, o, h0', rfl, rfl, hnd, hlt, hl⟩
    exact ⟨_, rfl, q r ps hr0 hnd (fun x hx => by have := hlt x hx; omega) (by omega)⟩
def spDigit : Sp := fun vs H Q _ => ∃ num by_ k : Int, vs = [.int num, .int by_, .int k] ∧ 0 < by_ ∧ by_ < 1000 ∧ 0 ≤ k ∧ k ≤ 1000 ∧ ∀ d : Int, 0 ≤ d → d < by_ → Q (.int d) H
theorem ok_ldigit (T : Txt K mg t) : FnOk P w K mg base CX0 1 t.a_l_digit t.d_l_digit ["_law_number", "_law_by", "_law_k"] spDigit := by
  refine T.F_l_digit.ok sc_l_digit (fun vs H Q E h => ?_) (fun cdv A outer s H vs Q E hr h => ?_)
  · obtain ⟨num, b, k, rfl, _⟩ := h; rfl
  obtain ⟨num, b, k, rfl, hb0, hb, hk0, hk, q⟩ := h
  have nd := sc_l_digit.nd
  refine ⟨_, (pss_cons (ps_for PassesOwn.never rfl (pi_range1 rfl T.z_range (pa_cons (pv 2) pa_nil)) (pg_name (i := 3) nd rfl (Or.inl rfl)) (pss_one (ps_set (i := 0) nd rfl (Or.inl rfl) (pe_op op_fdiv (pv 0) (pv 1)))))
    (pss_one (ps_ret (pe_op op_mod (pv 0) (pv 1))))), ?_⟩
  refine ⟨_, rfl, k, rfl, by omega, by omega, for_range (lo := 0) (n := k.toNat) (fun _ σ H' => H' = H ∧ ∃ (c' : Int) (o : Option V), σ = [some (.int c'), some (.int b), some (.int k), o]) ⟨rfl, num, none, rfl⟩ ?_ ?_⟩
  · rintro i σ H' hi ⟨rfl, c', o, rfl⟩
    exact ⟨_, rfl, _, rfl, _, _, rfl, rfl, ⟨hb0, by omega⟩, rfl, _, _, rfl⟩
  · rintro σ H' ⟨rfl, c', o, rfl⟩
    exact ⟨_, rfl, _, rfl, _, _, rfl, rfl, hb0, q _ (Int.emod_nonneg _ (by omega)) (Int.emod_lt_of_pos _ hb0)⟩
end K22

namespace MM
theorem mod_ix (pick : Int) {n : Nat} (h : 0 < n) : ∃ i : Nat, i < n ∧ pick % (n : Int) = (i : Int) := by
  have h1 := Int.emod_nonneg pick (show (n : Int) ≠ 0 by omega)
  have h2 := Int.emod_lt_of_pos pick (show 0 < (n : Int) by omega)
  exact ⟨(pick % (n : Int)).toNat, by omega, by omega⟩
theorem place_old {ts : Ties} {t : Nat × Nat} {e : Nat} (h : e < 2 * ts.length) : place (ts ++ [t]) e = place ts e := by
  unfold place
  have : e / 2 < ts.length := by omega
  simp only [List.getD, List.getElem?_append_left this]
theorem place_first (ts : Ties) (t : Nat × Nat) : place (ts ++ [t]) (2 * ts.length) = t.1 := by
  unfold place
  rw [if_pos (by omega), show 2 * ts.length / 2 = ts.length by omega]
  simp [List.getD]
theorem place_second (ts : Ties) (t : Nat × Nat) : place (ts ++ [t]) (2 * ts.length + 1) = t.2 := by
  unfold place
  rw [if_neg (by omega), show (2 * ts.length + 1) / 2 = ts.length by omega]
  simp [List.getD]
/-- a new place tied to a corner -/
theorem Good.newPlace {ts : Ties} {os : Ords} (g : Good ts os) {a i : Nat} (ha : a < os.length) (h3 : (row os a).length < 4) :
    Good (ts ++ [(a, os.length)]) ((os.set a (L2.insAt (row os a) i (2 * ts.length))) ++ [[2 * ts.length + 1]]) := by
  have nm : 2 * ts.length ∉ row os a := fun z => by have := (g.g.ends a _ z).1; omega
  have g1 := g.g.congr (pl' := place (ts ++ [(a, os.length)])) fun e he => place_old he
  have g2 := g1.add ha (place_first ts _) (l := L2.insAt (row os a) i (2 * ts.length)) (fun x => insAt_mem) (insAt_nodup (g.g.nd a) nm) (by rw [insAt_len]; omega)
  have g3 := g2.new (by rw [List.length_set]; exact place_second ts _)
  refine ⟨?_, by rw [List.length_append]; simp⟩
  rw [List.length_append]
  exact g3
/-- a new tie between two corners -/
theorem Good.newTie {ts : Ties} {os : Ords} (g : Good ts os) {a b i j : Nat} (ha : a < os.length) (hb : b < os.length) (h1 : (row os a).length < 4) (h2 : (row (os.set a (L2.insAt (row os a) i (2 * ts.length))) b).length < 4) :
    Good (ts ++ [(a, b)]) ((os.set a (L2.insAt (row os a) i (2 * ts.length))).set b (L2.insAt (row (os.set a (L2.insAt (row os a) i (2 * ts.length))) b) j (2 * ts.length + 1))) := by
  have nm : 2 * ts.length ∉ row os a := fun z => by have := (g.g.ends a _ z).1; omega
  have g1 := g.g.congr (pl' := place (ts ++ [(a, b)])) fun e he => place_old he
  have g2 := g1.add ha (place_first ts _) (l := L2.insAt (row os a) i (2 * ts.length)) (fun x => insAt_mem) (insAt_nodup (g.g.nd a) nm) (by rw [insAt_len]; omega)
  have nm2 : 2 * ts.length + 1 ∉ row (os.set a (L2.insAt (row os a) i (2 * ts.length))) b := fun z => by have := (g2.ends b _ z).1; omega
  have g3 := g2.add (a := b) (by rw [List.length_set]; exact hb) (place_second ts _) (l := L2.insAt (row (os.set a (L2.insAt (row os a) i (2 * ts.length))) b) j (2 * ts.length + 1)) (fun x => insAt_mem) (insAt_nodup (g2.nd b) nm2) (by rw [insAt_len]; omega)
  refine ⟨?_, by rw [List.length_append]; simp⟩
  rw [List.length_append]
  exact g3
theorem landsOf_pos {f : Nat → Nat} {N : Nat} (m : Maps f N) (h : 0 < N) : 0 < (landsOf f N).length := by
  unfold landsOf
  cases N with
  | zero => omega
  | succ N =>
    have e : List.range (N + 1) = 0 :: (List.range N).map Nat.succ := List.range_succ_eq_map
    have hl : ∀ x ∈ List.range (N + 1), x < N + 1 := fun x hx => List.mem_range.mp hx
    rw [e] at hl ⊢
    rw [lf_cons m hl]
    simp
theorem landsOf_mem {f : Nat → Nat} {N : Nat} (m : Maps f N) {d : List Nat} (h : d ∈ landsOf f N) : 0 < d.length ∧ ∀ x ∈ d, x < N := by
  obtain ⟨e, he, rfl⟩ := lf_mem m _ _ (Nat.le_refl _) (fun x hx => List.mem_range.mp hx) d h
  have heN := List.mem_range.mp he
  exact ⟨(land_len m heN).1, land_lt m heN⟩
end MM
namespace L2
open PySem PyProof.Rows
theorem TsAt.other {H : Hp} {a x : Addr} {ts : MM.Ties} {zs : List V} (h : TsAt H a ts) (hx : H x = some (.lst zs)) (ne : x ≠ a) (o : HO) : TsAt (upd H x o) a ts := by
  obtain ⟨tr, h1, h2, h3⟩ := h
  refine ⟨tr, by rw [upd_ne (Ne.symm ne)]; exact h1, h2, fun i t ht => ?_⟩
  obtain ⟨r, q1, q2⟩ := h3 i t ht
  exact ⟨r, q1, by rw [upd_ne (ne_of q2 hx (fun z => nomatch z))]; exact q2⟩
theorem TsAt.push {H : Hp} {a r : Addr} {ts : MM.Ties} {xs : List V} {t : Nat × Nat} (h : TsAt H a ts) (hx : H a = some (.lst xs)) (hr : H r = some (.tup [vn t.1, vn t.2])) : TsAt (upd H a (.lst (xs ++ [.ref r]))) a (ts ++ [t]) := by
  obtain ⟨tr, h1, h2, h3⟩ := h
  have ex : xs = tr.map V.ref := by rw [hx] at h1; cases h1; rfl
  subst ex
  refine ⟨tr ++ [r], by rw [upd_same, List.map_append]; rfl, by rw [List.length_append, List.length_append, h2]; rfl, fun i u hu => ?_⟩
  rcases Nat.lt_or_ge i ts.length with q | q
  · rw [List.getElem?_append_left q] at hu
    obtain ⟨y, q1, q2⟩ := h3 i u hu
    exact ⟨y, by rw [List.getElem?_append_left (by rw [h2]; exact q)]; exact q1, by rw [upd_ne (ne_of q2 hx (fun z => nomatch z))]; exact q2⟩
  · have hi : i = ts.length := by
      obtain ⟨z, _⟩ := List.getElem?_eq_some_iff.mp hu
      rw [List.length_append] at z
      simp at z
      omega
    subst hi
    rw [List.getElem?_concat_length] at hu
    cases hu
    exact ⟨r, by rw [← h2, List.getElem?_concat_length], by rw [upd_ne (ne_of hr hx (fun z => nomatch z))]; exact hr⟩
theorem NewOs.set {H0 H : Hp} {o x : Addr} {rr : List Addr} {os : MM.Ords} (n : NewOs H0 H o rr os) {p : Nat} {l : List Nat} (hx : rr[p]? = some x) : NewOs H0 (upd H x (.lst (vns l))) o rr (os.set p l) where
  at_ := by rw [upd_ne (show o ≠ x from fun z => n.nin (z ▸ List.mem_of_getElem? hx))]; exact n.at_
  len := by rw [List.length_set]; exact n.len
  row := fun i m h => by
    by_cases e : p = i
    · subst e
      have hp : p < os.length := by rw [← n.len]; exact (List.getElem?_eq_some_iff.mp hx).1
      rw [List.getElem?_set_self hp] at h
      cases h
      exact ⟨x, hx, upd_same⟩
    · rw [List.getElem?_set_ne e] at h
      obtain ⟨y, h1, h2⟩ := n.row i m h
      refine ⟨y, h1, ?_⟩
      have ne : y ≠ x := by
        rintro rfl
        obtain ⟨a1, b1⟩ := List.getElem?_eq_some_iff.mp h1
        obtain ⟨a2, b2⟩ := List.getElem?_eq_some_iff.mp hx
        exact e ((List.getElem_inj n.nd).mp (b2.trans b1.symm))
      rw [upd_ne ne]; exact h2
  nd := n.nd
  nin := n.nin
  new := n.new
  news := n.news
theorem NewOs.item {H0 H : Hp} {o : Addr} {rr : List Addr} {os : MM.Ords} (n : NewOs H0 H o rr os) {p : Nat} (hp : p < os.length) : ∃ x, rr[p]? = some x ∧ x ∈ rr ∧ H x = some (.lst (vns (MM.row os p))) ∧ atI (rr.map V.ref) (p : Int) = some (.ref x) := by
  obtain ⟨x, h1, h2⟩ := n.row p os[p] (List.getElem?_eq_getElem hp)
  refine ⟨x, h1, List.mem_of_getElem? h1, ?_, atI_nat (by rw [List.getElem?_map, h1]; rfl)⟩
  unfold MM.row
  simp only [List.getD, List.getElem?_eq_getElem hp, Option.getD_some]
  exact h2
/-- a map that may change -/
structure MapM (H0 H : Hp) (a o : Addr) (rr : List Addr) (ts : MM.Ties) (os : MM.Ords) : Prop where
  ts : TsAt H a ts
  os : NewOs H0 H o rr os
  an : H0 a = none
  ao : a ≠ o
  ar : a ∉ rr
theorem MapM.keep {H0 H H' : Hp} {a o : Addr} {rr : List Addr} {ts : MM.Ties} {os : MM.Ords} (m : MapM H0 H a o rr ts os) (g : Same H H') : MapM H0 H' a o rr ts os := ⟨g.ts m.ts, m.os.keep fun b u _ h => g _ _ h, m.an, m.ao, m.ar⟩
end L2

namespace K22
open PySem L2 PyProof.Rows
variable {P : Program} {w : World} {K : PySem.W.Frag} {mg : Str → Option Value} {base : Heap} {t : Adr}
def spStep : Sp := fun vs H Q _ => ∃ (H0 : Hp) (ta oa : Addr) (pick most : Int) (rr : List Addr) (ts : MM.Ties) (os : MM.Ords), vs = [.ref ta, .ref oa, .int pick, .int most] ∧ Same H0 H ∧ MapM H0 H ta oa rr ts os ∧ MM.Good ts os ∧ ts.length ≤ 100 ∧ os.length ≤ 100 ∧ 0 ≤ pick ∧
  ∀ (H' : Hp) (rr' : List Addr) (ts' : MM.Ties) (os' : MM.Ords), Same H0 H' → MapM H0 H' ta oa rr' ts' os' → MM.Good ts' os' → ts'.length ≤ ts.length + 1 → os'.length ≤ os.length + 1 → Q .non H'
theorem ok_lstep (T : Txt K mg t) : FnOk P w K mg base CX0 4 t.a_l_step t.d_l_step ["_law_ties", "_law_orders", "_law_pick", "_law_most"] spStep := by
  have G_l_other := ok_lother (P := P) (w := w) (base := base) T
  have G_l_place := ok_lplace (P := P) (w := w) (base := base) T
  have G_l_lands := ok_llands (P := P) (w := w) (base := base) T
  refine T.F_l_step.ok sc_l_step (fun vs H Q E h => ?_) (fun cdv A outer s H vs Q E hr h => ?_)
  · obtain ⟨H0, ta, oa, pick, most, rr, ts, os, rfl, _⟩ := h; rfl
  obtain ⟨H0, ta, oa, pick, most, rr, ts, os, rfl, g0, hm, g, ht100, ho100, hp0, q⟩ := h
  have nd := sc_l_step.nd
  refine ⟨_, (pss_cons (ps_set (i := 4) nd rfl (Or.inl rfl) (pe_call G_l_lands (hr.mono (by decide)) rfl T.m_l_lands T.k_l_lands T.b_l_lands .nil pass0 (pa_cons (pv 0) (pa_cons (pv 1) pa_nil))))
    (pss_cons (ps_set (i := 5) nd rfl (Or.inl rfl) (pe_ix ix_list (pv 4) (pe_op op_mod (pv 2) (pe_callB call_len_seq rfl T.z_len PySem.boot_len (pa_cons (pv 4) pa_nil))) (fun _ _ => rfl)))
    (pss_cons (ps_set (i := 6) nd rfl (Or.inl rfl) (pe_call G_l_other (hr.mono (by decide)) rfl T.m_l_other T.k_l_other T.b_l_other .nil pass0 (pa_cons (pe_ix ix_list (pv 5) (pe_op op_mod (pe_op op_fdiv (pv 2) pe_int) (pe_callB call_len_seq rfl T.z_len PySem.boot_len (pa_cons (pv 5) pa_nil))) (fun _ _ => rfl)) pa_nil)))
    (pss_cons (ps_set (i := 7) nd rfl (Or.inl rfl) (pe_call G_l_other (hr.mono (by decide)) rfl T.m_l_other T.k_l_other T.b_l_other .nil pass0 (pa_cons (pe_ix ix_list (pv 5) (pe_op op_mod (pe_op op_fdiv (pv 2) pe_int) (pe_callB call_len_seq rfl T.z_len PySem.boot_len (pa_cons (pv 5) pa_nil))) (fun _ _ => rfl)) pa_nil)))
    (pss_cons (ps_set (i := 8) nd rfl (Or.inl rfl) (pe_call G_l_place (hr.mono (by decide)) rfl T.m_l_place T.k_l_place T.b_l_place .nil pass0 (pa_cons (pv 0) (pa_cons (pv 6) pa_nil))))
    (pss_cons (ps_set (i := 9) nd rfl (Or.inl rfl) (pe_call G_l_place (hr.mono (by decide)) rfl T.m_l_place T.k_l_place T.b_l_place .nil pass0 (pa_cons (pv 0) (pa_cons (pv 7) pa_nil))))
    (pss_cons (ps_set (i := 10) nd rfl (Or.inl rfl) (pe_op op_mul pe_int (pe_callB call_len_seq rfl T.z_len PySem.boot_len (pa_cons (pv 0) pa_nil))))
    (pss_one (ps_if (PW.pt (pw_and (pt_cmpR op_eq (pe_op op_mod (pe_op op_fdiv (pv 2) pe_int) pe_int) pe_int (nomark _)) (pw_and (pt_cmpR op_lt (pe_callB call_len_seq rfl T.z_len PySem.boot_len (pa_cons (pv 1) pa_nil)) (pv 3) (nomark _)) (pw_and1 (pt_cmpR op_lt (pe_callB call_len_seq rfl T.z_len PySem.boot_len (pa_cons (pe_ix ix_list (pv 1) (pv 8) (fun _ _ => rfl)) pa_nil)) pe_int (nomark _)))))) (pss_cons (ps_expr (pe_bm PySem.F.plainAttrs_list PySem.F.slot_list_insert PySem.F.type_list_insert mt_insert (pe_ix ix_list (pv 1) (pv 8) (fun _ _ => rfl)) (pa_cons (pe_bm PySem.F.plainAttrs_list PySem.F.slot_list_index PySem.F.type_list_index mt_index (pe_ix ix_list (pv 1) (pv 8) (fun _ _ => rfl)) (pa_cons (pv 6) pa_nil)) (pa_cons (pv 10) pa_nil))))
    (pss_cons (ps_expr (pe_bm PySem.F.plainAttrs_list PySem.F.slot_list_append PySem.F.type_list_append mt_append (pv 0) (pa_cons (pe_tup (pa_cons (pv 8) (pa_cons (pe_callB call_len_seq rfl T.z_len PySem.boot_len (pa_cons (pv 1) pa_nil)) pa_nil))) pa_nil)))
    (pss_one (ps_expr (pe_bm PySem.F.plainAttrs_list PySem.F.slot_list_append PySem.F.type_list_append mt_append (pv 1) (pa_cons (pe_lst (pa_cons (pe_op op_add (pv 10) pe_int) pa_nil)) pa_nil)))))) (pss_one (ps_if (PW.pt (pw_and (pt_cmpR op_lt (pe_callB call_len_seq rfl T.z_len PySem.boot_len (pa_cons (pe_ix ix_list (pv 1) (pv 8) (fun _ _ => rfl)) pa_nil)) (pe_op op_sub pe_int (pe_callTy call_int1 rfl T.z_int boot_int (pa_cons (pe_cmpR op_eq (pv 8) (pv 9) (nomark _)) pa_nil))) (nomark _)) (pw_and1 (pt_cmpR op_lt (pe_callB call_len_seq rfl T.z_len PySem.boot_len (pa_cons (pe_ix ix_list (pv 1) (pv 9) (fun _ _ => rfl)) pa_nil)) (pe_op op_sub pe_int (pe_callTy call_int1 rfl T.z_int boot_int (pa_cons (pe_cmpR op_eq (pv 8) (pv 9) (nomark _)) pa_nil))) (nomark _))))) (pss_cons (ps_expr (pe_bm PySem.F.plainAttrs_list PySem.F.slot_list_insert PySem.F.type_list_insert mt_insert (pe_ix ix_list (pv 1) (pv 8) (fun _ _ => rfl)) (pa_cons (pe_bm PySem.F.plainAttrs_list PySem.F.slot_list_index PySem.F.type_list_index mt_index (pe_ix ix_list (pv 1) (pv 8) (fun _ _ => rfl)) (pa_cons (pv 6) pa_nil)) (pa_cons (pv 10) pa_nil))))
    (pss_cons (ps_expr (pe_bm PySem.F.plainAttrs_list PySem.F.slot_list_insert PySem.F.type_list_insert mt_insert (pe_ix ix_list (pv 1) (pv 9) (fun _ _ => rfl)) (pa_cons (pe_bm PySem.F.plainAttrs_list PySem.F.slot_list_index PySem.F.type_list_index mt_index (pe_ix ix_list (pv 1) (pv 9) (fun _ _ => rfl)) (pa_cons (pv 7) pa_nil)) (pa_cons (pe_op op_add (pv 10) pe_int) pa_nil))))
    (pss_one (ps_expr (pe_bm PySem.F.plainAttrs_list PySem.F.slot_list_append PySem.F.type_list_append mt_append (pv 0) (pa_cons (pe_tup (pa_cons (pv 8) (pa_cons (pv 9) pa_nil))) pa_nil)))))) pss_nil))))))))))), ?_⟩
  have m := g.maps
  refine ⟨_, rfl, _, rfl, ta, oa, ts, os, rfl, hm.ts, hm.os.os, g, by omega, fun r1 rr1 H1 g1 n1 => ?_⟩
  have hm1 := hm.keep g1
  have lpos := MM.landsOf_pos m (by have := g.one; omega)
  -- land
  have rl1 : (rr1.map V.ref).length = (MM.landsOf (MM.behind ts os) (2 * ts.length)).length := by rw [List.length_map]; exact n1.len
  obtain ⟨k1, hk1, ek1⟩ := MM.mod_ix pick (n := (rr1.map V.ref).length) (by omega)
  obtain ⟨x1, x11, x12, x13, x14⟩ := n1.item (p := k1) (by omega)
  obtain ⟨lp, ll⟩ := MM.landsOf_mem m (d := MM.row (MM.landsOf (MM.behind ts os) (2 * ts.length)) k1) (by
    unfold MM.row
    have : k1 < (MM.landsOf (MM.behind ts os) (2 * ts.length)).length := by omega
    simp only [List.getD, List.getElem?_eq_getElem this, Option.getD_some]
    exact List.getElem_mem this)
  generalize MM.row (MM.landsOf (MM.behind ts os) (2 * ts.length)) k1 = land at x13 lp ll
  have ll1 : (vns land).length = land.length := List.length_map _
  refine ⟨_, rfl, _, rfl, _, rfl, r1, _, rfl, .inl (SqL.of n1.at_), _, _, rfl, rfl, (by show (0 : Int) < ((rr1.map V.ref).length : Nat); omega), r1, _, _, _, rfl, rfl, SqL.of n1.at_, (by show atI _ (pick % ((rr1.map V.ref).length : Nat)) = _; rw [ek1]; exact x14), ?_⟩
  -- one, other_here
  obtain ⟨k2, hk2, ek2⟩ := MM.mod_ix (pick / 8) (n := (vns land).length) (by omega)
  obtain ⟨k3, hk3, ek3⟩ := MM.mod_ix (pick / 128) (n := (vns land).length) (by omega)
  have e2 := ll (land.getD k2 0) (by simp only [List.getD, List.getElem?_eq_getElem (show k2 < land.length by omega), Option.getD_some]; exact List.getElem_mem _)
  have e3 := ll (land.getD k3 0) (by simp only [List.getD, List.getElem?_eq_getElem (show k3 < land.length by omega), Option.getD_some]; exact List.getElem_mem _)
  refine ⟨_, rfl, _, rfl, _, _, rfl, rfl, ⟨by decide, by decide⟩, _, rfl, x1, _, rfl, .inl (SqL.of x13), _, _, rfl, rfl, (by show (0 : Int) < ((vns land).length : Nat); omega), x1, _, _, _, rfl, rfl, SqL.of x13, (by show atI _ (pick / 8 % ((vns land).length : Nat)) = _; rw [ek2]; exact at_vns (by omega) rfl), _, rfl, ?_⟩
  refine ⟨_, rfl, _, rfl, _, _, rfl, rfl, ⟨by decide, by decide⟩, _, rfl, x1, _, rfl, .inl (SqL.of x13), _, _, rfl, rfl, (by show (0 : Int) < ((vns land).length : Nat); omega), x1, _, _, _, rfl, rfl, SqL.of x13, (by show atI _ (pick / 128 % ((vns land).length : Nat)) = _; rw [ek3]; exact at_vns (by omega) rfl), _, rfl, ?_⟩
  generalize land.getD k2 0 = u1 at e2
  generalize land.getD k3 0 = u2 at e3
  have o1 := g.g.has (MM.oth u1) (MM.oth_lt e2)
  have o2 := g.g.has (MM.oth u2) (MM.oth_lt e3)
  have lt1 := MM.oth_lt e2
  have lt2 := MM.oth_lt e3
  generalize MM.oth u1 = one at o1 lt1
  generalize MM.oth u2 = two at o2 lt2
  refine ⟨_, rfl, _, rfl, ta, ts, one, rfl, hm1.ts, lt1, ?_⟩
  refine ⟨_, rfl, _, rfl, ta, ts, two, rfl, hm1.ts, lt2, ?_⟩
  obtain ⟨ha0, ha1⟩ := o1
  obtain ⟨hb0, hb1⟩ := o2
  generalize hpa : MM.place ts one = a at ha0 ha1
  generalize hpb : MM.place ts two = b at hb0 hb1
  -- end
  obtain ⟨tr, tr1, tr2, tr3⟩ := id hm1.ts
  refine ⟨_, rfl, ta, _, rfl, .inl (SqL.of tr1), _, _, rfl, rfl, .inl ⟨by decide, by decide⟩, ?_⟩
  have eE : (2 : Int) * ((tr.map V.ref).length : Nat) = ((2 * ts.length : Nat) : Int) := by rw [List.length_map, tr2]; push_cast; rfl
  show gName 10 (V.int ((2 : Int) * ((tr.map V.ref).length : Nat))) _ _ _
  rw [eE]
  have n2 := hm1.os
  have g2 := g0.trans g1
  obtain ⟨xa, xa1, xa2, xa3, xa4⟩ := n2.item ha0
  have hra : ((vns (MM.row os a)).length : Int) = ((MM.row os a).length : Nat) := by rw [List.length_map]
  have hro : ((rr.map V.ref).length : Int) = (os.length : Nat) := by rw [List.length_map, n2.len]
  have nta : ta ≠ xa := fun z => hm1.ar (z ▸ xa2)
  have noa : oa ≠ xa := fun z => n2.nin (z ▸ xa2)
  have ia := List.idxOf_lt_length_of_mem ha1
  -- nothing is put in
  have noneC : Q .non H1 := q H1 rr ts os g2 hm1 g (by omega) (by omega)
  refine ⟨_, rfl, _, _, rfl, rfl, ⟨by decide, by decide⟩, _, _, rfl, rfl, (by show (0 : Int) < 3; decide), rfl, _, rfl, ?_⟩
  refine ite2 (fun c1 => ?_) (fun c1 => ?_)
  · refine ⟨_, rfl, oa, _, rfl, .inl (SqL.of n2.at_), _, rfl, _, _, rfl, rfl, _, rfl, ?_⟩
    refine ite2 (fun c2 => ?_) (fun c2 => ?_)
    · refine ⟨_, rfl, _, rfl, oa, _, _, _, rfl, rfl, SqL.of n2.at_, xa4, xa, _, rfl, .inl (SqL.of xa3), _, _, rfl, rfl, _, rfl, ?_⟩
      refine ite2 (fun c3 => ?_) (fun c3 => ?_)
      · have c3' : ((vns (MM.row os a)).length : Int) < 4 := of_decide_eq_true c3
        rw [hra] at c3'
        have h3 : (MM.row os a).length < 4 := by omega
        refine ⟨_, rfl, _, rfl, oa, _, _, _, rfl, rfl, SqL.of n2.at_, xa4, .inl ⟨rfl, _, SqL.of xa3⟩, _, rfl, _, rfl, oa, _, _, _, rfl, rfl, SqL.of n2.at_, xa4, .inl ⟨rfl, _, SqL.of xa3⟩, _, rfl, xa, _, one, rfl, rfl, xa3, ha1, _, rfl, xa, _, _, _, rfl, rfl, xa3, ?_, ?_, ?_⟩
        · rw [List.length_map]; omega
        · rw [List.length_map]; exact Nat.lt_of_le_of_lt (g.g.four a) (by decide)
        rw [MM.insAt_vns]
        have n3 := n2.set (l := insAt (MM.row os a) ((MM.row os a).idxOf one) (2 * ts.length)) xa1
        have t3 := hm1.ts.other xa3 (Ne.symm nta) (.lst (vns (insAt (MM.row os a) ((MM.row os a).idxOf one) (2 * ts.length))))
        have s3 : Same H0 (upd H1 xa (.lst (vns (insAt (MM.row os a) ((MM.row os a).idxOf one) (2 * ts.length))))) := fun c u h => by rw [upd_ne (ne_of_none h (n2.news _ xa2))]; exact g2 _ _ h
        have gd := g.newPlace (i := (MM.row os a).idxOf one) ha0 h3
        have hol : (os.set a (insAt (MM.row os a) ((MM.row os a).idxOf one) (2 * ts.length))).length = os.length := List.length_set
        generalize upd H1 xa (.lst (vns (insAt (MM.row os a) ((MM.row os a).idxOf one) (2 * ts.length)))) = H3 at n3 t3 s3
        generalize os.set a (insAt (MM.row os a) ((MM.row os a).idxOf one) (2 * ts.length)) = os1 at n3 gd hol
        obtain ⟨tq, tq1, tq2, tq3⟩ := id t3
        refine ⟨_, rfl, .inl ⟨rfl, _, SqL.of tq1⟩, _, rfl, _, rfl, oa, _, rfl, .inl (SqL.of n3.at_), (by show 2 ≤ sizeLine; decide), fun tp htp => ?_⟩
        have e0 : (V.int ((rr.map V.ref).length : Nat)) = vn os.length := by rw [List.length_map, n2.len]
        rw [e0] at *
        have g5 := same_new htp (.tup [vn a, vn os.length])
        refine ⟨ta, _, _, rfl, rfl, g5 _ _ tq1, ?_, ?_⟩
        · rw [List.length_map, tq2]; exact Nat.lt_of_le_of_lt ht100 (by decide)
        have t5 := (g5.ts t3).push (t := (a, os.length)) (g5 _ _ tq1) upd_same
        have n5 : NewOs H0 (upd (upd H3 tp (.tup [vn a, vn os.length])) ta (.lst (tq.map V.ref ++ [.ref tp]))) oa rr os1 := n3.keep fun c u hc h => by
          rw [upd_ne (show c ≠ ta by rcases hc with rfl | hc; exact Ne.symm hm1.ao; rintro rfl; exact hm1.ar hc)]
          exact g5 _ _ h
        have s5 : Same H0 (upd (upd H3 tp (.tup [vn a, vn os.length])) ta (.lst (tq.map V.ref ++ [.ref tp]))) := fun c u h => by rw [upd_ne (ne_of_none h hm1.an)]; exact g5 _ _ (s3 _ _ h)
        generalize upd (upd H3 tp (.tup [vn a, vn os.length])) ta (.lst (tq.map V.ref ++ [.ref tp])) = H5 at t5 n5 s5
        refine ⟨_, rfl, .inl ⟨rfl, _, SqL.of n5.at_⟩, _, rfl, _, _, rfl, rfl, (by show 1 ≤ sizeLine; decide), fun nl hnl => ?_⟩
        have e1 : (fun i j : Int => V.int (i + j)) ((2 * ts.length : Nat) : Int) 1 = vn (2 * ts.length + 1) := rfl
        rw [e1] at *
        have g6 := same_new hnl (.lst [vn (2 * ts.length + 1)])
        refine ⟨oa, _, _, rfl, rfl, g6 _ _ n5.at_, ?_, ?_⟩
        · rw [List.length_map, n5.len, hol]; exact Nat.lt_of_le_of_lt ho100 (by decide)
        have nlr : nl ∉ rr := fun z => by obtain ⟨l, hl⟩ := n5.ex z; rw [hnl] at hl; cases hl
        have nlo : nl ≠ oa := (ne_of_none n5.at_ hnl).symm
        have n6 := n5.push (x := nl) (l := [2 * ts.length + 1]) (H2 := upd (upd H5 nl (.lst [vn (2 * ts.length + 1)])) oa (.lst (rr.map V.ref ++ [.ref nl]))) (s5.free hnl) nlr nlo (by rw [upd_same, List.map_append]; rfl) (by rw [upd_ne nlo]; exact upd_same) (fun c u hc h => by rw [upd_ne (show c ≠ oa from fun z => n5.nin (z ▸ hc))]; exact g6 _ _ h)
        have t6 := (g6.ts t5).other (g6 _ _ n5.at_) (Ne.symm hm1.ao) (.lst (rr.map V.ref ++ [.ref nl]))
        have s6 : Same H0 (upd (upd H5 nl (.lst [vn (2 * ts.length + 1)])) oa (.lst (rr.map V.ref ++ [.ref nl]))) := fun c u h => by rw [upd_ne (ne_of_none h n2.new)]; exact g6 _ _ (s5 _ _ h)
        have tnl : ta ≠ nl := by obtain ⟨tq', z1, _⟩ := id t5; exact ne_of_none z1 hnl
        exact q _ (rr ++ [nl]) _ _ s6 ⟨t6, n6, hm1.an, hm1.ao, fun z => (List.mem_append.mp z).elim hm1.ar fun z => tnl (by simpa using z)⟩ gd (by rw [List.length_append]; exact Nat.le_refl _) (by rw [List.length_append, hol]; exact Nat.le_refl _)
      · obtain ⟨xb, xb1, xb2, xb3, xb4⟩ := n2.item hb0
        refine ⟨_, rfl, _, rfl, oa, _, _, _, rfl, rfl, SqL.of n2.at_, xa4, xa, _, rfl, .inl (SqL.of xa3), _, rfl, _, rfl, rfl, .inr ⟨_, rfl, ?_⟩⟩
        refine ⟨_, _, rfl, rfl, _, _, rfl, rfl, _, rfl, ?_⟩
        refine ite2 (fun d1 => ?_) (fun d1 => iteFb rfl noneC)
        refine ⟨_, rfl, _, rfl, oa, _, _, _, rfl, rfl, SqL.of n2.at_, xb4, xb, _, rfl, .inl (SqL.of xb3), _, rfl, _, rfl, rfl, .inr ⟨_, rfl, ?_⟩⟩
        refine ⟨_, _, rfl, rfl, _, _, rfl, rfl, _, rfl, ?_⟩
        refine ite2 (fun d2 => ?_) (fun d2 => noneC)
        have h12 : (MM.row os a).length < 4 ∧ (MM.row (os.set a (insAt (MM.row os a) ((MM.row os a).idxOf one) (2 * ts.length))) b).length < 4 := by
          have d1' : ((vns (MM.row os a)).length : Int) < 4 - (if decide (vn a = vn b) = true then 1 else 0) := of_decide_eq_true d1
          have d2' : ((vns (MM.row os b)).length : Int) < 4 - (if decide (vn a = vn b) = true then 1 else 0) := of_decide_eq_true d2
          rw [hra] at d1'
          rw [List.length_map] at d2'
          by_cases hab : a = b
          · subst hab
            rw [if_pos (by simp)] at d1'
            rw [MM.row_set_same ha0, MM.insAt_len]
            omega
          · have nab : ¬ (decide (vn a = vn b) = true) := by
              intro z
              have z' := of_decide_eq_true z
              injection z' with z'
              exact hab (by omega)
            rw [if_neg nab] at d1' d2'
            rw [MM.row_set_ne (Ne.symm hab)]
            omega
        refine ⟨_, rfl, _, rfl, oa, _, _, _, rfl, rfl, SqL.of n2.at_, xa4, .inl ⟨rfl, _, SqL.of xa3⟩, _, rfl, _, rfl, oa, _, _, _, rfl, rfl, SqL.of n2.at_, xa4, .inl ⟨rfl, _, SqL.of xa3⟩, _, rfl, xa, _, one, rfl, rfl, xa3, ha1, _, rfl, xa, _, _, _, rfl, rfl, xa3, ?_, ?_, ?_⟩
        · rw [List.length_map]; omega
        · rw [List.length_map]; exact Nat.lt_of_le_of_lt (g.g.four a) (by decide)
        rw [MM.insAt_vns]
        have n3 := n2.set (l := insAt (MM.row os a) ((MM.row os a).idxOf one) (2 * ts.length)) xa1
        have t3 := hm1.ts.other xa3 (Ne.symm nta) (.lst (vns (insAt (MM.row os a) ((MM.row os a).idxOf one) (2 * ts.length))))
        have s3 : Same H0 (upd H1 xa (.lst (vns (insAt (MM.row os a) ((MM.row os a).idxOf one) (2 * ts.length))))) := fun c u h => by rw [upd_ne (ne_of_none h (n2.news _ xa2))]; exact g2 _ _ h
        have hb2 : two ∈ MM.row (os.set a (insAt (MM.row os a) ((MM.row os a).idxOf one) (2 * ts.length))) b := by
          by_cases hab : b = a
          · subst hab; rw [MM.row_set_same ha0]; exact MM.insAt_mem.mpr (.inr hb1)
          · rw [MM.row_set_ne hab]; exact hb1
        have gd := g.newTie (i := (MM.row os a).idxOf one) (j := (MM.row (os.set a (insAt (MM.row os a) ((MM.row os a).idxOf one) (2 * ts.length))) b).idxOf two) ha0 hb0 h12.1 h12.2
        have hol : (os.set a (insAt (MM.row os a) ((MM.row os a).idxOf one) (2 * ts.length))).length = os.length := List.length_set
        generalize upd H1 xa (.lst (vns (insAt (MM.row os a) ((MM.row os a).idxOf one) (2 * ts.length)))) = H3 at n3 t3 s3
        generalize os.set a (insAt (MM.row os a) ((MM.row os a).idxOf one) (2 * ts.length)) = os1 at n3 hb2 gd h12 hol
        obtain ⟨yb, yb1, yb2, yb3, yb4⟩ := n3.item (p := b) (by omega)
        have ib := List.idxOf_lt_length_of_mem hb2
        refine ⟨_, rfl, _, rfl, oa, _, _, _, rfl, rfl, SqL.of n3.at_, yb4, .inl ⟨rfl, _, SqL.of yb3⟩, _, rfl, _, rfl, oa, _, _, _, rfl, rfl, SqL.of n3.at_, yb4, .inl ⟨rfl, _, SqL.of yb3⟩, _, rfl, yb, _, two, rfl, rfl, yb3, hb2, _, rfl, _, _, rfl, rfl, yb, _, _, _, rfl, rfl, yb3, ?_, ?_, ?_⟩
        · rw [List.length_map]; omega
        · rw [List.length_map]; exact Nat.lt_trans h12.2 (by decide)
        have e1 : (fun i j : Int => V.int (i + j)) ((2 * ts.length : Nat) : Int) 1 = vn (2 * ts.length + 1) := rfl
        rw [e1, MM.insAt_vns]
        have n4 := n3.set (l := insAt (MM.row os1 b) ((MM.row os1 b).idxOf two) (2 * ts.length + 1)) yb1
        have t4 := t3.other yb3 (fun z => hm1.ar (z ▸ yb2)) (.lst (vns (insAt (MM.row os1 b) ((MM.row os1 b).idxOf two) (2 * ts.length + 1))))
        have s4 : Same H0 (upd H3 yb (.lst (vns (insAt (MM.row os1 b) ((MM.row os1 b).idxOf two) (2 * ts.length + 1))))) := fun c u h => by rw [upd_ne (ne_of_none h (n2.news _ yb2))]; exact s3 _ _ h
        generalize upd H3 yb (.lst (vns (insAt (MM.row os1 b) ((MM.row os1 b).idxOf two) (2 * ts.length + 1)))) = H4 at n4 t4 s4
        obtain ⟨tq, tq1, tq2, tq3⟩ := id t4
        refine ⟨_, rfl, .inl ⟨rfl, _, SqL.of tq1⟩, _, rfl, _, rfl, (by show 2 ≤ sizeLine; decide), fun tp htp => ?_⟩
        have g5 := same_new htp (.tup [vn a, vn b])
        refine ⟨ta, _, _, rfl, rfl, g5 _ _ tq1, ?_, ?_⟩
        · rw [List.length_map, tq2]; exact Nat.lt_of_le_of_lt ht100 (by decide)
        have t5 := (g5.ts t4).push (t := (a, b)) (g5 _ _ tq1) upd_same
        have n5 : NewOs H0 (upd (upd H4 tp (.tup [vn a, vn b])) ta (.lst (tq.map V.ref ++ [.ref tp]))) oa rr (os1.set b (insAt (MM.row os1 b) ((MM.row os1 b).idxOf two) (2 * ts.length + 1))) := n4.keep fun c u hc h => by
          rw [upd_ne (show c ≠ ta by rcases hc with rfl | hc; exact Ne.symm hm1.ao; rintro rfl; exact hm1.ar hc)]
          exact g5 _ _ h
        have s5 : Same H0 (upd (upd H4 tp (.tup [vn a, vn b])) ta (.lst (tq.map V.ref ++ [.ref tp]))) := fun c u h => by rw [upd_ne (ne_of_none h hm1.an)]; exact g5 _ _ (s4 _ _ h)
        exact q _ rr _ _ s5 ⟨t5, n5, hm1.an, hm1.ao, hm1.ar⟩ gd (by rw [List.length_append]; exact Nat.le_refl _) (by rw [List.length_set]; omega)
    · obtain ⟨xb, xb1, xb2, xb3, xb4⟩ := n2.item hb0
      refine iteFb rfl ?_
      refine ⟨_, rfl, _, rfl, oa, _, _, _, rfl, rfl, SqL.of n2.at_, xa4, xa, _, rfl, .inl (SqL.of xa3), _, rfl, _, rfl, rfl, .inr ⟨_, rfl, ?_⟩⟩
      refine ⟨_, _, rfl, rfl, _, _, rfl, rfl, _, rfl, ?_⟩
      refine ite2 (fun d1 => ?_) (fun d1 => iteFb rfl noneC)
      refine ⟨_, rfl, _, rfl, oa, _, _, _, rfl, rfl, SqL.of n2.at_, xb4, xb, _, rfl, .inl (SqL.of xb3), _, rfl, _, rfl, rfl, .inr ⟨_, rfl, ?_⟩⟩
      refine ⟨_, _, rfl, rfl, _, _, rfl, rfl, _, rfl, ?_⟩
      refine ite2 (fun d2 => ?_) (fun d2 => noneC)
      have h12 : (MM.row os a).length < 4 ∧ (MM.row (os.set a (insAt (MM.row os a) ((MM.row os a).idxOf one) (2 * ts.length))) b).length < 4 := by
        have d1' : ((vns (MM.row os a)).length : Int) < 4 - (if decide (vn a = vn b) = true then 1 else 0) := of_decide_eq_true d1
        have d2' : ((vns (MM.row os b)).length : Int) < 4 - (if decide (vn a = vn b) = true then 1 else 0) := of_decide_eq_true d2
        rw [hra] at d1'
        rw [List.length_map] at d2'
        by_cases hab : a = b
        · subst hab
          rw [if_pos (by simp)] at d1'
          rw [MM.row_set_same ha0, MM.insAt_len]
          omega
        · have nab : ¬ (decide (vn a = vn b) = true) := by
            intro z
            have z' := of_decide_eq_true z
            injection z' with z'
            exact hab (by omega)
          rw [if_neg nab] at d1' d2'
          rw [MM.row_set_ne (Ne.symm hab)]
          omega
      refine ⟨_, rfl, _, rfl, oa, _, _, _, rfl, rfl, SqL.of n2.at_, xa4, .inl ⟨rfl, _, SqL.of xa3⟩, _, rfl, _, rfl, oa, _, _, _, rfl, rfl, SqL.of n2.at_, xa4, .inl ⟨rfl, _, SqL.of xa3⟩, _, rfl, xa, _, one, rfl, rfl, xa3, ha1, _, rfl, xa, _, _, _, rfl, rfl, xa3, ?_, ?_, ?_⟩
      · rw [List.length_map]; omega
      · rw [List.length_map]; exact Nat.lt_of_le_of_lt (g.g.four a) (by decide)
      rw [MM.insAt_vns]
      have n3 := n2.set (l := insAt (MM.row os a) ((MM.row os a).idxOf one) (2 * ts.length)) xa1
      have t3 := hm1.ts.other xa3 (Ne.symm nta) (.lst (vns (insAt (MM.row os a) ((MM.row os a).idxOf one) (2 * ts.length))))
      have s3 : Same H0 (upd H1 xa (.lst (vns (insAt (MM.row os a) ((MM.row os a).idxOf one) (2 * ts.length))))) := fun c u h => by rw [upd_ne (ne_of_none h (n2.news _ xa2))]; exact g2 _ _ h
      have hb2 : two ∈ MM.row (os.set a (insAt (MM.row os a) ((MM.row os a).idxOf one) (2 * ts.length))) b := by
        by_cases hab : b = a
        · subst hab; rw [MM.row_set_same ha0]; exact MM.insAt_mem.mpr (.inr hb1)
        · rw [MM.row_set_ne hab]; exact hb1
      have gd := g.newTie (i := (MM.row os a).idxOf one) (j := (MM.row (os.set a (insAt (MM.row os a) ((MM.row os a).idxOf one) (2 * ts.length))) b).idxOf two) ha0 hb0 h12.1 h12.2
      have hol : (os.set a (insAt (MM.row os a) ((MM.row os a).idxOf one) (2 * ts.length))).length = os.length := List.length_set
      generalize upd H1 xa (.lst (vns (insAt (MM.row os a) ((MM.row os a).idxOf one) (2 * ts.length)))) = H3 at n3 t3 s3
      generalize os.set a (insAt (MM.row os a) ((MM.row os a).idxOf one) (2 * ts.length)) = os1 at n3 hb2 gd h12 hol
      obtain ⟨yb, yb1, yb2, yb3, yb4⟩ := n3.item (p := b) (by omega)
      have ib := List.idxOf_lt_length_of_mem hb2
      refine ⟨_, rfl, _, rfl, oa, _, _, _, rfl, rfl, SqL.of n3.at_, yb4, .inl ⟨rfl, _, SqL.of yb3⟩, _, rfl, _, rfl, oa, _, _, _, rfl, rfl, SqL.of n3.at_, yb4, .inl ⟨rfl, _, SqL.of yb3⟩, _, rfl, yb, _, two, rfl, rfl, yb3, hb2, _, rfl, _, _, rfl, rfl, yb, _, _, _, rfl, rfl, yb3, ?_, ?_, ?_⟩
      · rw [List.length_map]; omega
      · rw [List.length_map]; exact Nat.lt_trans h12.2 (by decide)
      have e1 : (fun i j : Int => V.int (i + j)) ((2 * ts.length : Nat) : Int) 1 = vn (2 * ts.length + 1) := rfl
      rw [e1, MM.insAt_vns]
      have n4 := n3.set (l := insAt (MM.row os1 b) ((MM.row os1 b).idxOf two) (2 * ts.length + 1)) yb1
      have t4 := t3.other yb3 (fun z => hm1.ar (z ▸ yb2)) (.lst (vns (insAt (MM.row os1 b) ((MM.row os1 b).idxOf two) (2 * ts.length + 1))))
      have s4 : Same H0 (upd H3 yb (.lst (vns (insAt (MM.row os1 b) ((MM.row os1 b).idxOf two) (2 * ts.length + 1))))) := fun c u h => by rw [upd_ne (ne_of_none h (n2.news _ yb2))]; exact s3 _ _ h
      generalize upd H3 yb (.lst (vns (insAt (MM.row os1 b) ((MM.row os1 b).idxOf two) (2 * ts.length + 1)))) = H4 at n4 t4 s4
      obtain ⟨tq, tq1, tq2, tq3⟩ := id t4
      refine ⟨_, rfl, .inl ⟨rfl, _, SqL.of tq1⟩, _, rfl, _, rfl, (by show 2 ≤ sizeLine; decide), fun tp htp => ?_⟩
      have g5 := same_new htp (.tup [vn a, vn b])
      refine ⟨ta, _, _, rfl, rfl, g5 _ _ tq1, ?_, ?_⟩
      · rw [List.length_map, tq2]; exact Nat.lt_of_le_of_lt ht100 (by decide)
      have t5 := (g5.ts t4).push (t := (a, b)) (g5 _ _ tq1) upd_same
      have n5 : NewOs H0 (upd (upd H4 tp (.tup [vn a, vn b])) ta (.lst (tq.map V.ref ++ [.ref tp]))) oa rr (os1.set b (insAt (MM.row os1 b) ((MM.row os1 b).idxOf two) (2 * ts.length + 1))) := n4.keep fun c u hc h => by
        rw [upd_ne (show c ≠ ta by rcases hc with rfl | hc; exact Ne.symm hm1.ao; rintro rfl; exact hm1.ar hc)]
        exact g5 _ _ h
      have s5 : Same H0 (upd (upd H4 tp (.tup [vn a, vn b])) ta (.lst (tq.map V.ref ++ [.ref tp]))) := fun c u h => by rw [upd_ne (ne_of_none h hm1.an)]; exact g5 _ _ (s4 _ _ h)
      exact q _ rr _ _ s5 ⟨t5, n5, hm1.an, hm1.ao, hm1.ar⟩ gd (by rw [List.length_append]; exact Nat.le_refl _) (by rw [List.length_set]; omega)
  · obtain ⟨xb, xb1, xb2, xb3, xb4⟩ := n2.item hb0
    refine iteFb rfl ?_
    refine ⟨_, rfl, _, rfl, oa, _, _, _, rfl, rfl, SqL.of n2.at_, xa4, xa, _, rfl, .inl (SqL.of xa3), _, rfl, _, rfl, rfl, .inr ⟨_, rfl, ?_⟩⟩
    refine ⟨_, _, rfl, rfl, _, _, rfl, rfl, _, rfl, ?_⟩
    refine ite2 (fun d1 => ?_) (fun d1 => iteFb rfl noneC)
    refine ⟨_, rfl, _, rfl, oa, _, _, _, rfl, rfl, SqL.of n2.at_, xb4, xb, _, rfl, .inl (SqL.of xb3), _, rfl, _, rfl, rfl, .inr ⟨_, rfl, ?_⟩⟩
    refine ⟨_, _, rfl, rfl, _, _, rfl, rfl, _, rfl, ?_⟩
    refine ite2 (fun d2 => ?_) (fun d2 => noneC)
    have h12 : (MM.row os a).length < 4 ∧ (MM.row (os.set a (insAt (MM.row os a) ((MM.row os a).idxOf one) (2 * ts.length))) b).length < 4 := by
      have d1' : ((vns (MM.row os a)).length : Int) < 4 - (if decide (vn a = vn b) = true then 1 else 0) := of_decide_eq_true d1
      have d2' : ((vns (MM.row os b)).length : Int) < 4 - (if decide (vn a = vn b) = true then 1 else 0) := of_decide_eq_true d2
      rw [hra] at d1'
      rw [List.length_map] at d2'
      by_cases hab : a = b
      · subst hab
        rw [if_pos (by simp)] at d1'
        rw [MM.row_set_same ha0, MM.insAt_len]
        omega
      · have nab : ¬ (decide (vn a = vn b) = true) := by
          intro z
          have z' := of_decide_eq_true z
          injection z' with z'
          exact hab (by omega)
        rw [if_neg nab] at d1' d2'
        rw [MM.row_set_ne (Ne.symm hab)]
        omega
    refine ⟨_, rfl, _, rfl, oa, _, _, _, rfl, rfl, SqL.of n2.at_, xa4, .inl ⟨rfl, _, SqL.of xa3⟩, _, rfl, _, rfl, oa, _, _, _, rfl, rfl, SqL.of n2.at_, xa4, .inl ⟨rfl, _, SqL.of xa3⟩, _, rfl, xa, _, one, rfl, rfl, xa3, ha1, _, rfl, xa, _, _, _, rfl, rfl, xa3, ?_, ?_, ?_⟩
    · rw [List.length_map]; omega
    · rw [List.length_map]; exact Nat.lt_of_le_of_lt (g.g.four a) (by decide)
    rw [MM.insAt_vns]
    have n3 := n2.set (l := insAt (MM.row os a) ((MM.row os a).idxOf one) (2 * ts.length)) xa1
    have t3 := hm1.ts.other xa3 (Ne.symm nta) (.lst (vns (insAt (MM.row os a) ((MM.row os a).idxOf one) (2 * ts.length))))
    have s3 : Same H0 (upd H1 xa (.lst (vns (insAt (MM.row os a) ((MM.row os a).idxOf one) (2 * ts.length))))) := fun c u h => by rw [upd_ne (ne_of_none h (n2.news _ xa2))]; exact g2 _ _ h
    have hb2 : two ∈ MM.row (os.set a (insAt (MM.row os a) ((MM.row os a).idxOf one) (2 * ts.length))) b := by
      by_cases hab : b = a
      · subst hab; rw [MM.row_set_same ha0]; exact MM.insAt_mem.mpr (.inr hb1)
      · rw [MM.row_set_ne hab]; exact hb1
    have gd := g.newTie (i := (MM.row os a).idxOf one) (j := (MM.row (os.set a (insAt (MM.row os a) ((MM.row os a).idxOf one) (2 * ts.length))) b).idxOf two) ha0 hb0 h12.1 h12.2
    have hol : (os.set a (insAt (MM.row os a) ((MM.row os a).idxOf one) (2 * ts.length))).length = os.length := List.length_set
    generalize upd H1 xa (.lst (vns (insAt (MM.row os a) ((MM.row os a).idxOf one) (2 * ts.length)))) = H3 at n3 t3 s3
    generalize os.set a (insAt (MM.row os a) ((MM.row os a).idxOf one) (2 * ts.length)) = os1 at n3 hb2 gd h12 hol
    obtain ⟨yb, yb1, yb2, yb3, yb4⟩ := n3.item (p := b) (by omega)
    have ib := List.idxOf_lt_length_of_mem hb2
    refine ⟨_, rfl, _, rfl, oa, _, _, _, rfl, rfl, SqL.of n3.at_, yb4, .inl ⟨rfl, _, SqL.of yb3⟩, _, rfl, _, rfl, oa, _, _, _, rfl, rfl, SqL.of n3.at_, yb4, .inl ⟨rfl, _, SqL.of yb3⟩, _, rfl, yb, _, two, rfl, rfl, yb3, hb2, _, rfl, _, _, rfl, rfl, yb, _, _, _, rfl, rfl, yb3, ?_, ?_, ?_⟩
    · rw [List.length_map]; omega
    · rw [List.length_map]; exact Nat.lt_trans h12.2 (by decide)
    have e1 : (fun i j : Int => V.int (i + j)) ((2 * ts.length : Nat) : Int) 1 = vn (2 * ts.length + 1) := rfl
    rw [e1, MM.insAt_vns]
    have n4 := n3.set (l := insAt (MM.row os1 b) ((MM.row os1 b).idxOf two) (2 * ts.length + 1)) yb1
    have t4 := t3.other yb3 (fun z => hm1.ar (z ▸ yb2)) (.lst (vns (insAt (MM.row os1 b) ((MM.row os1 b).idxOf two) (2 * ts.length + 1))))
    have s4 : Same H0 (upd H3 yb (.lst (vns (insAt (MM.row os1 b) ((MM.row os1 b).idxOf two) (2 * ts.length + 1))))) := fun c u h => by rw [upd_ne (ne_of_none h (n2.news _ yb2))]; exact s3 _ _ h
    generalize upd H3 yb (.lst (vns (insAt (MM.row os1 b) ((MM.row os1 b).idxOf two) (2 * ts.length + 1)))) = H4 at n4 t4 s4
    obtain ⟨tq, tq1, tq2, tq3⟩ := id t4
    refine ⟨_, rfl, .inl ⟨rfl, _, SqL.of tq1⟩, _, rfl, _, rfl, (by show 2 ≤ sizeLine; decide), fun tp htp => ?_⟩
    have g5 := same_new htp (.tup [vn a, vn b])
    refine ⟨ta, _, _, rfl, rfl, g5 _ _ tq1, ?_, ?_⟩
    · rw [List.length_map, tq2]; exact Nat.lt_of_le_of_lt ht100 (by decide)
    have t5 := (g5.ts t4).push (t := (a, b)) (g5 _ _ tq1) upd_same
    have n5 : NewOs H0 (upd (upd H4 tp (.tup [vn a, vn b])) ta (.lst (tq.map V.ref ++ [.ref tp]))) oa rr (os1.set b (insAt (MM.row os1 b) ((MM.row os1 b).idxOf two) (2 * ts.length + 1))) := n4.keep fun c u hc h => by
      rw [upd_ne (show c ≠ ta by rcases hc with rfl | hc; exact Ne.symm hm1.ao; rintro rfl; exact hm1.ar hc)]
      exact g5 _ _ h
    have s5 : Same H0 (upd (upd H4 tp (.tup [vn a, vn b])) ta (.lst (tq.map V.ref ++ [.ref tp]))) := fun c u h => by rw [upd_ne (ne_of_none h hm1.an)]; exact g5 _ _ (s4 _ _ h)
    exact q _ rr _ _ s5 ⟨t5, n5, hm1.an, hm1.ao, hm1.ar⟩ gd (by rw [List.length_append]; exact Nat.le_refl _) (by rw [List.length_set]; omega)
end K22

namespace MM
theorem surj {f : Nat → Nat} {N : Nat} (m : Maps f N) {y : Nat} (hy : y < N) : ∃ x, x < N ∧ f x = y := by
  obtain ⟨k, h0, _, h⟩ := comes_round m hy
  refine ⟨iter f (k - 1) y, iter_lt m hy _, ?_⟩
  have e : k = (k - 1) + 1 := by omega
  rw [e] at h
  exact h
/-- a list of unlike numbers below its length is a map of them -/
theorem maps_of {l : List Nat} (nd : l.Nodup) (h : ∀ x ∈ l, x < l.length) : Maps (fun i => l.getD i 0) l.length where
  lt := fun e he => h _ (by simp only [List.getD, List.getElem?_eq_getElem he, Option.getD_some]; exact List.getElem_mem he)
  inj := fun a b ha hb q => by
    simp only [List.getD, List.getElem?_eq_getElem ha, List.getElem?_eq_getElem hb, Option.getD_some] at q
    exact (List.getElem_inj nd).mp q
/-- the new names of the ends -/
def nmF (U F : Nat → Nat) (e : Nat) : Nat := 2 * U (e / 2) + (if e % 2 = 0 then F (e / 2) else 1 - F (e / 2))
theorem nmF_half (U F : Nat → Nat) (hF : ∀ k, F k ≤ 1) (e : Nat) : nmF U F e / 2 = U (e / 2) ∧ nmF U F e % 2 = (if e % 2 = 0 then F (e / 2) else 1 - F (e / 2)) := by
  have := hF (e / 2)
  unfold nmF
  split <;> omega
theorem nmF_maps {U F : Nat → Nat} {T : Nat} (hU : Maps U T) (hF : ∀ k, F k ≤ 1) : Maps (nmF U F) (2 * T) where
  lt := fun e he => by
    have h1 := hU.lt (e / 2) (by omega)
    have h2 := hF (e / 2)
    unfold nmF
    split <;> omega
  inj := fun a b ha hb h => by
    have ⟨a1, a2⟩ := nmF_half U F hF a
    have ⟨b1, b2⟩ := nmF_half U F hF b
    rw [h] at a1 a2
    have e := hU.inj (a / 2) (b / 2) (by omega) (by omega) (a1.symm.trans b1)
    rw [b2, e] at a2
    have := hF (b / 2)
    split at a2 <;> split at a2 <;> omega
theorem place_eq (ts : Ties) (e : Nat) : place ts e = if e % 2 = 0 then (ts.getD (e / 2) (0, 0)).1 else (ts.getD (e / 2) (0, 0)).2 := rfl
/-- renamed, it is a map -/
theorem renamed_good {ts told : Ties} {os rows : Ords} (g : Good ts os) {U F Pl : Nat → Nat} (hU : Maps U ts.length) (hF : ∀ k, F k ≤ 1) (hP : Maps Pl os.length) (ht : told.length = ts.length) (hr : rows.length = os.length)
    (hv : ∀ k, k < ts.length → told.getD (U k) (0, 0) = if F k = 0 then (Pl (ts.getD k (0, 0)).1, Pl (ts.getD k (0, 0)).2) else (Pl (ts.getD k (0, 0)).2, Pl (ts.getD k (0, 0)).1))
    (hw : ∀ p, p < os.length → ∃ l : List Nat, row rows (Pl p) = l.map (nmF U F) ∧ l.Perm (row os p)) : Good told rows := by
  have mN := nmF_maps hU hF
  have pl : ∀ e, e < 2 * ts.length → place told (nmF U F e) = Pl (place ts e) := fun e he => by
    have ⟨h1, h2⟩ := nmF_half U F hF e
    have hk := hv (e / 2) (by omega)
    have hf := hF (e / 2)
    rw [place_eq told, place_eq ts, h1, h2, hk]
    by_cases q : e % 2 = 0
    · by_cases z : F (e / 2) = 0
      · simp [q, z]
      · have z1 : F (e / 2) = 1 := by omega
        simp [q, z1]
    · by_cases z : F (e / 2) = 0
      · simp [q, z]
      · have z1 : F (e / 2) = 1 := by omega
        simp [q, z1]
  have out : ∀ p, rows.length ≤ p → row rows p = [] := fun p hp => by
    unfold row
    simp [List.getD, List.getElem?_eq_none hp]
  refine ⟨⟨fun p e he => ?_, fun e he => ?_, fun p => ?_, fun p hp => ?_, fun p => ?_⟩, by rw [ht]; exact g.one⟩
  · rcases Nat.lt_or_ge p rows.length with hp | hp
    · obtain ⟨p0, hp0, rfl⟩ := surj hP (hr ▸ hp)
      obtain ⟨l, h1, h2⟩ := hw p0 hp0
      rw [h1] at he
      obtain ⟨x, hx, rfl⟩ := List.mem_map.mp he
      have q := g.g.ends p0 x (h2.mem_iff.mp hx)
      rw [ht]
      exact ⟨mN.lt x q.1, by rw [pl x q.1, q.2]⟩
    · rw [out p hp] at he; cases he
  · rw [ht] at he
    obtain ⟨x, hx, rfl⟩ := surj mN he
    have q := g.g.has x hx
    rw [pl x hx, hr]
    refine ⟨hP.lt _ q.1, ?_⟩
    obtain ⟨l, h1, h2⟩ := hw _ q.1
    rw [h1]
    exact List.mem_map.mpr ⟨x, h2.mem_iff.mpr q.2, rfl⟩
  · rcases Nat.lt_or_ge p rows.length with hp | hp
    · obtain ⟨p0, hp0, rfl⟩ := surj hP (hr ▸ hp)
      obtain ⟨l, h1, h2⟩ := hw p0 hp0
      rw [h1]
      have ndl : l.Nodup := h2.nodup_iff.mpr (g.g.nd p0)
      have hl : ∀ x ∈ l, x < 2 * ts.length := fun x hx => (g.g.ends p0 x (h2.mem_iff.mp hx)).1
      clear h1 h2
      induction l with
      | nil => exact List.nodup_nil
      | cons a l ih =>
        rw [List.map_cons, List.nodup_cons]
        obtain ⟨n1, n2⟩ := List.nodup_cons.mp ndl
        refine ⟨fun z => ?_, ih n2 fun x hx => hl x (List.mem_cons_of_mem _ hx)⟩
        obtain ⟨y, hy, e⟩ := List.mem_map.mp z
        have := mN.inj y a (hl y (List.mem_cons_of_mem _ hy)) (hl a List.mem_cons_self) e
        subst this
        exact n1 hy
    · rw [out p hp]; exact List.nodup_nil
  · obtain ⟨p0, hp0, rfl⟩ := surj hP (hr ▸ hp)
    obtain ⟨l, h1, h2⟩ := hw p0 hp0
    rw [h1]
    intro z
    have : l = [] := List.map_eq_nil_iff.mp z
    subst this
    exact g.g.full p0 hp0 (h2.symm.eq_nil)
  · rcases Nat.lt_or_ge p rows.length with hp | hp
    · obtain ⟨p0, hp0, rfl⟩ := surj hP (hr ▸ hp)
      obtain ⟨l, h1, h2⟩ := hw p0 hp0
      rw [h1, List.length_map, h2.length_eq]
      exact g.g.four p0
    · rw [out p hp]; simp
end MM

namespace L2
open PySem PyProof.Rows
theorem TsAt.set {H : Hp} {a r : Addr} {ts : MM.Ties} {xs : List V} {t : Nat × Nat} {j : Nat} (h : TsAt H a ts) (hx : H a = some (.lst xs)) (hr : H r = some (.tup [vn t.1, vn t.2])) : TsAt (upd H a (.lst (xs.set j (.ref r)))) a (ts.set j t) := by
  obtain ⟨tr, h1, h2, h3⟩ := h
  have ex : xs = tr.map V.ref := by rw [hx] at h1; cases h1; rfl
  subst ex
  refine ⟨tr.set j r, by rw [upd_same, List.map_set], by rw [List.length_set, List.length_set, h2], fun i u hu => ?_⟩
  by_cases e : j = i
  · subst e
    have hj : j < ts.length := by
      have := (List.getElem?_eq_some_iff.mp hu).1
      rw [List.length_set] at this
      exact this
    rw [List.getElem?_set_self hj] at hu
    cases hu
    exact ⟨r, List.getElem?_set_self (by rw [h2]; exact hj), by rw [upd_ne (ne_of hr hx (fun z => nomatch z))]; exact hr⟩
  · rw [List.getElem?_set_ne e] at hu
    obtain ⟨y, q1, q2⟩ := h3 i u hu
    exact ⟨y, by rw [List.getElem?_set_ne e]; exact q1, by rw [upd_ne (ne_of q2 hx (fun z => nomatch z))]; exact q2⟩
theorem nodup_set {α : Type} {x : α} : ∀ {l : List α}, l.Nodup → x ∉ l → ∀ p, (l.set p x).Nodup
  | [], _, _, _ => by simp
  | a :: l, nd, h, 0 => by
    rw [List.set_cons_zero, List.nodup_cons]
    exact ⟨fun z => h (List.mem_cons_of_mem _ z), (List.nodup_cons.mp nd).2⟩
  | a :: l, nd, h, p + 1 => by
    rw [List.set_cons_succ, List.nodup_cons]
    refine ⟨fun z => ?_, nodup_set (List.nodup_cons.mp nd).2 (fun z => h (List.mem_cons_of_mem _ z)) p⟩
    rcases List.mem_or_eq_of_mem_set z with z | z
    · exact (List.nodup_cons.mp nd).1 z
    · subst z; exact h List.mem_cons_self
theorem NewOs.setRef {H0 H H2 : Hp} {o x : Addr} {rr : List Addr} {os : MM.Ords} {l : List Nat} {p : Nat} (n : NewOs H0 H o rr os) (hx : H0 x = none) (hxr : x ∉ rr) (hxo : x ≠ o) (at2 : H2 o = some (.lst ((rr.set p x).map V.ref))) (ax : H2 x = some (.lst (vns l)))
    (g : ∀ b u, b ∈ rr → H b = some u → H2 b = some u) : NewOs H0 H2 o (rr.set p x) (os.set p l) where
  at_ := at2
  len := by rw [List.length_set, List.length_set]; exact n.len
  row := fun i m h => by
    by_cases e : p = i
    · subst e
      have hp : p < os.length := by
        have := (List.getElem?_eq_some_iff.mp h).1
        rw [List.length_set] at this
        exact this
      rw [List.getElem?_set_self hp] at h
      cases h
      exact ⟨x, List.getElem?_set_self (by rw [n.len]; exact hp), ax⟩
    · rw [List.getElem?_set_ne e] at h
      obtain ⟨y, h1, h2⟩ := n.row i m h
      exact ⟨y, by rw [List.getElem?_set_ne e]; exact h1, g _ _ (List.mem_of_getElem? h1) h2⟩
  nd := nodup_set n.nd hxr p
  nin := fun z => by
    rcases List.mem_or_eq_of_mem_set z with z | z
    · exact n.nin z
    · exact hxo z.symm
  new := n.new
  news := fun y hy => by
    rcases List.mem_or_eq_of_mem_set hy with z | z
    · exact n.news y z
    · subst z; exact hx
theorem cut_from (l : List Nat) {k : Nat} (h : k ≤ l.length) : cutV (vns l) (some (k : Int)) none = vns (l.drop k) := by
  unfold cutV
  have e : (vns l).length = l.length := List.length_map _
  rw [HT.sIx_nat, HT.sIx_none, e, Nat.min_eq_left h]
  have e2 : (vns l).drop k = vns (l.drop k) := by unfold vns; rw [List.map_drop]
  rw [e2]
  exact List.take_of_length_le (by rw [List.length_map, List.length_drop]; exact Nat.le_refl _)
theorem cut_to (l : List Nat) {k : Nat} (h : k ≤ l.length) : cutV (vns l) none (some (k : Int)) = vns (l.take k) := by
  unfold cutV
  have e : (vns l).length = l.length := List.length_map _
  rw [HT.sIx_nat, HT.sIx_none, e, Nat.min_eq_left h, List.drop_zero, Nat.sub_zero]
  unfold vns
  rw [List.map_take]
theorem ixN_nat {n j : Nat} (h : j < n) : ixN n (j : Int) = some j := by
  unfold ixN
  rw [if_pos (by omega), if_pos (by omega)]
  simp
theorem rot_perm (l : List Nat) (k : Nat) : (l.drop k ++ l.take k).Perm l := by
  have h := List.perm_append_comm (l₁ := l.drop k) (l₂ := l.take k)
  rw [List.take_append_drop] at h
  exact h
end L2

namespace MM
theorem getD_set_ne {α : Type} {l : List α} {i j : Nat} {x d : α} (h : i ≠ j) : (l.set i x).getD j d = l.getD j d := by
  rw [List.getD_eq_getElem?_getD, List.getD_eq_getElem?_getD, List.getElem?_set_ne h]
theorem getD_set_same {α : Type} {l : List α} {i : Nat} {x d : α} (h : i < l.length) : (l.set i x).getD i d = x := by
  rw [List.getD_eq_getElem?_getD, List.getElem?_set_self h]
  rfl
theorem Good.tie {ts : Ties} {os : Ords} (g : Good ts os) {i : Nat} (hi : i < ts.length) : (ts.getD i (0, 0)).1 < os.length ∧ (ts.getD i (0, 0)).2 < os.length := by
  have h1 := (g.g.has (2 * i) (by omega)).1
  have h2 := (g.g.has (2 * i + 1) (by omega)).1
  unfold place at h1 h2
  rw [if_pos (by omega), show 2 * i / 2 = i by omega] at h1
  rw [if_neg (by omega), show (2 * i + 1) / 2 = i by omega] at h2
  exact ⟨h1, h2⟩
theorem nm_more (U : Nat → Nat) (fl : List Nat) (f : Nat) : (List.range (2 * (fl.length + 1))).map (fun e => L2.vn (nmF U (fun k => (fl ++ [f]).getD k 0) e)) =
    (List.range (2 * fl.length)).map (fun e => L2.vn (nmF U (fun k => fl.getD k 0) e)) ++ [L2.vn (2 * U fl.length + f), L2.vn (2 * U fl.length + (1 - f))] := by
  have e : 2 * (fl.length + 1) = 2 * fl.length + 1 + 1 := by omega
  rw [e, List.range_succ, List.range_succ, List.map_append, List.map_append, List.append_assoc]
  have h0 : (fl ++ [f]).getD fl.length 0 = f := by simp [List.getD]
  have e1 : nmF U (fun k => (fl ++ [f]).getD k 0) (2 * fl.length) = 2 * U fl.length + f := by
    unfold nmF
    rw [if_pos (by omega), show 2 * fl.length / 2 = fl.length by omega]
    show 2 * U fl.length + (fl ++ [f]).getD fl.length 0 = _
    rw [h0]
  have e2 : nmF U (fun k => (fl ++ [f]).getD k 0) (2 * fl.length + 1) = 2 * U fl.length + (1 - f) := by
    unfold nmF
    rw [if_neg (by omega), show (2 * fl.length + 1) / 2 = fl.length by omega]
    show 2 * U fl.length + (1 - (fl ++ [f]).getD fl.length 0) = _
    rw [h0]
  have e3 : (List.range (2 * fl.length)).map (fun e => L2.vn (nmF U (fun k => (fl ++ [f]).getD k 0) e)) = (List.range (2 * fl.length)).map (fun e => L2.vn (nmF U (fun k => fl.getD k 0) e)) := by
    refine List.map_congr_left fun x hx => ?_
    have hx' := List.mem_range.mp hx
    have q : (fl ++ [f]).getD (x / 2) 0 = fl.getD (x / 2) 0 := by
      have : x / 2 < fl.length := by omega
      simp [List.getD, List.getElem?_append_left this]
    unfold nmF
    show L2.vn (2 * U (x / 2) + (if x % 2 = 0 then (fl ++ [f]).getD (x / 2) 0 else 1 - (fl ++ [f]).getD (x / 2) 0)) = _
    rw [q]
  rw [e3]
  congr 1
  show [L2.vn _, L2.vn _] = _
  rw [e1, e2]
end MM
namespace K22
open PySem L2 PyProof.Rows
variable {P : Program} {w : World} {K : PySem.W.Frag} {mg : Str → Option Value} {base : Heap} {t : Adr}
def spRenamed : Sp := fun vs H Q _ => ∃ (ta oa : Addr) (c : Int) (ts : MM.Ties) (os : MM.Ords), vs = [.ref ta, .ref oa, .int c] ∧ TsAt H ta ts ∧ OsAt H oa os ∧ MM.Good ts os ∧ ts.length ≤ 400 ∧ os.length ≤ 400 ∧
  ∀ (r tA oA : Addr) (rr : List Addr) (ts' : MM.Ties) (os' : MM.Ords) (H' : Hp), Same H H' → H' r = some (.tup [vn os.length, .ref tA, .ref oA]) → MapM H H' tA oA rr ts' os' → MM.Good ts' os' → ts'.length = ts.length → os'.length = os.length → Q (.ref r) H'
theorem ok_lrenamed (T : Txt K mg t) : FnOk P w K mg base CX0 2 t.a_l_renamed t.d_l_renamed ["_law_ties", "_law_orders", "_law_cell"] spRenamed := by
  have G_l_turned := ok_lturned (P := P) (w := w) (base := base) T
  have G_l_mix := ok_mix (P := P) (w := w) (base := base) T
  have G_l_digit := ok_ldigit (P := P) (w := w) (base := base) T
  refine T.F_l_renamed.ok sc_l_renamed (fun vs H Q E h => ?_) (fun cdv A outer s H vs Q E hr h => ?_)
  · obtain ⟨ta, oa, c, ts, os, rfl, _⟩ := h; rfl
  obtain ⟨ta, oa, c, ts, os, rfl, ht, ho, g, ht400, ho400, q⟩ := h
  have nd := sc_l_renamed.nd
  have nd_l_end_l_names : (["_law_end", "_law_names"] : List Str).Nodup := by decide
  have nd_l_order : (["_law_order"] : List Str).Nodup := by decide
  have nd_l_tie : (["_law_tie"] : List Str).Nodup := by decide
  refine ⟨_, (pss_cons (ps_set (i := 3) nd rfl (Or.inl rfl) (pe_call G_l_turned (hr.mono (by decide)) rfl T.m_l_turned T.k_l_turned T.b_l_turned .nil pass0 (pa_cons (pe_call G_l_mix (hr.mono (by decide)) rfl T.m_l_mix T.k_l_mix T.b_l_mix .nil pass0 (pa_cons (pv 2) (pa_cons pe_int pa_nil))) (pa_cons (pe_callB call_len_seq rfl T.z_len PySem.boot_len (pa_cons (pv 1) pa_nil)) pa_nil))))
    (pss_cons (ps_set (i := 4) nd rfl (Or.inl rfl) (pe_call G_l_turned (hr.mono (by decide)) rfl T.m_l_turned T.k_l_turned T.b_l_turned .nil pass0 (pa_cons (pe_call G_l_mix (hr.mono (by decide)) rfl T.m_l_mix T.k_l_mix T.b_l_mix .nil pass0 (pa_cons (pv 2) (pa_cons pe_int pa_nil))) (pa_cons (pe_callB call_len_seq rfl T.z_len PySem.boot_len (pa_cons (pv 0) pa_nil)) pa_nil))))
    (pss_cons (ps_set (i := 5) nd rfl (Or.inr rfl) (pe_lst pa_nil))
    (pss_cons (ps_setComp (i := 6) nd rfl (Or.inl rfl)  (N' := ["_law_tie"]) (js := [none]) rfl (pi_list (pv 0)) (fun _ _ _ _ _ => (pg_name (i := 0) nd_l_tie rfl (Or.inl rfl))) (fun _ _ _ _ _ => pf_nil) (fun _ _ _ _ _ => (pe_tup (pa_cons pe_int (pa_cons pe_int pa_nil)))))
    (pss_cons (ps_for PassesOwn.never rfl (pi_enum rfl T.z_enumerate (pa_cons (pv 0) pa_nil)) (pg_tup rfl (pgs_cons (pg_name (i := 7) nd rfl (Or.inl rfl)) (pgs_cons (pg_tup rfl (pgs_cons (pg_name (i := 8) nd rfl (Or.inl rfl)) (pgs_cons (pg_name (i := 9) nd rfl (Or.inl rfl)) pgs_nil))) pgs_nil))) (pss_cons (ps_set (i := 10) nd rfl (Or.inl rfl) (pe_call G_l_digit (hr.mono (by decide)) rfl T.m_l_digit T.k_l_digit T.b_l_digit .nil pass0 (pa_cons (pe_call G_l_mix (hr.mono (by decide)) rfl T.m_l_mix T.k_l_mix T.b_l_mix .nil pass0 (pa_cons (pv 2) (pa_cons pe_int pa_nil))) (pa_cons pe_int (pa_cons (pv 7) pa_nil)))))
    (pss_cons (ps_asg (pe_ix ix_list (pe_lst (pa_cons (pe_tup (pa_cons (pe_ix ix_list (pv 3) (pv 8) (fun _ _ => rfl)) (pa_cons (pe_ix ix_list (pv 3) (pv 9) (fun _ _ => rfl)) pa_nil))) (pa_cons (pe_tup (pa_cons (pe_ix ix_list (pv 3) (pv 9) (fun _ _ => rfl)) (pa_cons (pe_ix ix_list (pv 3) (pv 8) (fun _ _ => rfl)) pa_nil))) pa_nil))) (pv 10) (fun _ _ => rfl)) (pg_sub (pv 6) (pe_ix ix_list (pv 4) (pv 7) (fun _ _ => rfl)) set_list))
    (pss_one (ps_set (i := 5) nd rfl (Or.inr rfl) (pe_op op_cat (pv 5) (pe_lst (pa_cons (pe_op op_add (pe_op op_mul pe_int (pe_ix ix_list (pv 4) (pv 7) (fun _ _ => rfl))) (pv 10)) (pa_cons (pe_op op_sub (pe_op op_add (pe_op op_mul pe_int (pe_ix ix_list (pv 4) (pv 7) (fun _ _ => rfl))) pe_int) (pv 10)) pa_nil)))))))))
    (pss_cons (ps_setComp (i := 11) nd rfl (Or.inl rfl)  (N' := ["_law_order"]) (js := [none]) rfl (pi_list (pv 1)) (fun _ _ _ _ _ => (pg_name (i := 0) nd_l_order rfl (Or.inl rfl))) (fun _ _ _ _ _ => pf_nil) (fun _ _ _ _ _ => (pe_lst pa_nil)))
    (pss_cons (ps_for PassesOwn.never rfl (pi_enum rfl T.z_enumerate (pa_cons (pv 1) pa_nil)) (pg_tup rfl (pgs_cons (pg_name (i := 12) nd rfl (Or.inl rfl)) (pgs_cons (pg_name (i := 13) nd rfl (Or.inl rfl)) pgs_nil))) (pss_cons (ps_set (i := 14) nd rfl (Or.inl rfl) (pe_op op_mod (pe_call G_l_digit (hr.mono (by decide)) rfl T.m_l_digit T.k_l_digit T.b_l_digit .nil pass0 (pa_cons (pe_call G_l_mix (hr.mono (by decide)) rfl T.m_l_mix T.k_l_mix T.b_l_mix .nil pass0 (pa_cons (pv 2) (pa_cons pe_int pa_nil))) (pa_cons pe_int (pa_cons (pv 12) pa_nil)))) (pe_callB call_len_seq rfl T.z_len PySem.boot_len (pa_cons (pv 13) pa_nil))))
    (pss_one (ps_asg (pe_comp (N' := ["_law_end", "_law_names"]) (js := [none, some 5]) rfl (pi_list (pe_op op_cat (pe_slice sl_list (pv 13) (po_some (pv 14)) po_none) (pe_slice sl_list (pv 13) po_none (po_some (pv 14))))) (fun _ _ _ _ _ => (pg_name (i := 0) nd_l_end_l_names rfl (Or.inl rfl))) (fun _ _ _ _ _ => pf_nil) (fun _ _ _ _ _ => (pe_ix (kix_list (K := K) rfl) (pv 1) (pv 0) (fun _ _ => rfl)))) (pg_sub (pv 11) (pe_ix ix_list (pv 3) (pv 12) (fun _ _ => rfl)) set_list)))))
    (pss_one (ps_ret (pe_tup (pa_cons (pe_callB call_len_seq rfl T.z_len PySem.boot_len (pa_cons (pv 1) pa_nil)) (pa_cons (pv 6) (pa_cons (pv 11) pa_nil))))))))))))), ?_⟩
  obtain ⟨tr, tr1, tr2, tr3⟩ := id ht
  obtain ⟨rr, rr1, rr2, rr3⟩ := id ho
  have trl : (tr.map V.ref).length = ts.length := by rw [List.length_map]; exact tr2
  have rrl : (rr.map V.ref).length = os.length := by rw [List.length_map]; exact rr2
  -- places, numbers
  refine ⟨_, rfl, c, 0, rfl, by decide, by decide, fun m0 hm0 _ => ⟨_, rfl, oa, _, rfl, .inl (SqL.of rr1), m0, (rr.map V.ref).length, rfl, hm0, by omega, fun pr ps hpr hpn hpl hpe => ?_⟩⟩
  have g1 := same_new hpr (.lst (vns ps))
  refine ⟨_, rfl, c, 1, rfl, by decide, by decide, fun m1 hm1 _ => ⟨_, rfl, ta, _, rfl, .inl (SqL.of (g1 _ _ tr1)), m1, (tr.map V.ref).length, rfl, hm1, by omega, fun nr nu hnr hnn hnl hne => ?_⟩⟩
  rw [trl] at hnl hne
  rw [rrl] at hpl hpe
  have g2 := same_new hnr (.lst (vns nu))
  have mP : MM.Maps (fun i => ps.getD i 0) os.length := by have := MM.maps_of hpn (by rw [hpe]; exact hpl); rw [hpe] at this; exact this
  have mU : MM.Maps (fun i => nu.getD i 0) ts.length := by have := MM.maps_of hnn (by rw [hne]; exact hnl); rw [hne] at this; exact this
  -- names
  refine ⟨(by show 0 ≤ sizeLine; decide), fun na0 hna0 => ?_⟩
  have g3 := same_new hna0 (.lst [])
  have k1 : (upd (upd (upd H pr (.lst (vns ps))) nr (.lst (vns nu))) na0 (.lst [])) pr = some (.lst (vns ps)) := g3 _ _ (g2 _ _ upd_same)
  have k2 : (upd (upd (upd H pr (.lst (vns ps))) nr (.lst (vns nu))) na0 (.lst [])) nr = some (.lst (vns nu)) := g3 _ _ upd_same
  have k3 : (upd (upd (upd H pr (.lst (vns ps))) nr (.lst (vns nu))) na0 (.lst [])) na0 = some (.lst []) := upd_same
  have g4 := (g1.trans g2).trans g3
  generalize upd (upd (upd H pr (.lst (vns ps))) nr (.lst (vns nu))) na0 (.lst []) = H4 at k1 k2 k3 g4
  clear g1 g2 g3 hpr hnr hna0
  have atP : ∀ x, x < os.length → atI (vns ps) (x : Int) = some (vn (ps.getD x 0)) := fun x hx => at_vns (by omega) rfl
  have atU : ∀ x, x < ts.length → atI (vns nu) (x : Int) = some (vn (nu.getD x 0)) := fun x hx => at_vns (by omega) rfl
  -- told
  refine ⟨_, rfl, ta, rfl, ⟨_, SqL.of (g4 _ _ tr1)⟩, fun D hD => ?_⟩
  refine comp_map ts.length (fun i ys H' => TsAt H' D (List.replicate i (0, 0)) ∧ H' D = some (.lst ys) ∧ Same H4 H') ⟨⟨[], upd_same, rfl, fun i t h => by simp at h⟩, upd_same, same_new hD _⟩ ?_ ?_
  · rintro i ys H' hi ⟨h1, h2, h3⟩
    have hx : (tr.map V.ref)[i]? = some (.ref (tr[i]'(by omega))) := by rw [List.getElem?_map, List.getElem?_eq_getElem (by omega)]; rfl
    refine ⟨⟨_, _, SqL.of (h3 _ _ (g4 _ _ tr1)), hx⟩, ?_⟩
    rintro x H'' ⟨rfl, hx'⟩
    refine ⟨(Fills.refl _).set _ rfl, ?_⟩
    refine ⟨(by show 2 ≤ sizeLine; decide), fun tp htp => ?_⟩
    have g5 := same_new htp (.tup [vn 0, vn 0])
    have h1' := (g5.ts h1).push (t := (0, 0)) (g5 _ _ h2) upd_same
    obtain ⟨tr', e1, e2, _⟩ := id h1
    have hyl : ys.length = i := by
      rw [h2] at e1; cases e1
      rw [List.length_map, e2, List.length_replicate]
    refine ⟨g5 _ _ h2, by rw [hyl]; exact Nat.lt_of_lt_of_le hi (Nat.le_trans ht400 (by decide)), ?_, upd_same, ?_⟩
    · rw [List.replicate_succ']
      exact h1'
    · exact fun b o h => by rw [upd_ne (ne_of_none h hD)]; exact g5 _ _ (h3 _ _ h)
  rintro ys H5 ⟨t5, d5, g5⟩
  refine ⟨⟨_, SqL.of (g5 _ _ (g4 _ _ tr1)), by rw [trl]; exact Nat.le_refl _⟩, ?_⟩
  have naD : na0 ≠ D := ne_of_none k3 hD
  -- the loop over the ties
  refine ⟨_, rfl, ta, rfl, ⟨_, SqL.of (g5 _ _ (g4 _ _ tr1))⟩, for_enum (xs := tr.map V.ref) (fun i σ H' => ∃ (na : Addr) (fl : List Nat) (td : MM.Ties) (o7 o8 o9 o10 : Option V),
      σ = [some (.ref ta), some (.ref oa), some (.int c), some (.ref pr), some (.ref nr), some (.ref na), some (.ref D), o7, o8, o9, o10, none, none, none, none] ∧ Same H4 H' ∧ fl.length = i ∧ (∀ f ∈ fl, f ≤ 1) ∧ na ≠ D ∧
      H' na = some (.lst ((List.range (2 * i)).map fun e => vn (MM.nmF (fun k => nu.getD k 0) (fun k => fl.getD k 0) e))) ∧ TsAt H' D td ∧ td.length = ts.length ∧
      ∀ k, k < i → td.getD (nu.getD k 0) (0, 0) = if fl.getD k 0 = 0 then (ps.getD (ts.getD k (0, 0)).1 0, ps.getD (ts.getD k (0, 0)).2 0) else (ps.getD (ts.getD k (0, 0)).2 0, ps.getD (ts.getD k (0, 0)).1 0))
    ⟨na0, [], _, none, none, none, none, rfl, g5, rfl, (fun f hf => by cases hf), naD, g5 _ _ k3, t5, by simp, fun k hk => absurd hk (Nat.not_lt_zero _)⟩ (fun i σ H' _ h => by obtain ⟨na, fl, td, o7, o8, o9, o10, _, h1, _⟩ := h; exact SqL.of (h1 _ _ (g4 _ _ tr1))) ?_ ?_⟩
  · rintro i x σ H6 Tt hx ⟨na, fl, td, o7, o8, o9, o10, rfl, s6, hfl, hf1, nD, en, td6, tdl, hv⟩ hTt
    have hi : i < ts.length := by have := (List.getElem?_eq_some_iff.mp hx).1; omega
    obtain ⟨rt, rt1, rt2⟩ := tr3 i _ (List.getElem?_eq_getElem hi)
    have ex : x = .ref rt := by rw [List.getElem?_map, rt1] at hx; cases hx; rfl
    subst ex
    have tab := g.tie hi
    have hget : ts.getD i (0, 0) = ts[i] := by simp only [List.getD, List.getElem?_eq_getElem hi, Option.getD_some]
    rw [← hget] at rt2
    have hUi := mU.lt i hi
    have gT := same_new hTt (.tup [vn i, .ref rt])
    refine ⟨Tt, _, rfl, SqT.of upd_same, rfl, _, _, rfl, _, _, rfl, rt, _, rfl, SqT.of (gT _ _ (s6 _ _ (g4 _ _ rt2))), rfl, _, _, rfl, _, _, rfl, rfl, rfl, ?_⟩
    refine ⟨_, rfl, c, 2, rfl, by decide, by decide, fun m2 hm2 _ => ⟨_, rfl, m2, 2, i, rfl, by decide, by decide, by omega, by omega, fun d hd0 hd1 => ?_⟩⟩
    obtain ⟨f, rfl, hf⟩ : ∃ f : Nat, d = (f : Int) ∧ f ≤ 1 := ⟨d.toNat, by omega, by omega⟩
    have s7 := s6.trans gT
    have td7 := gT.ts td6
    have en7 := gT _ _ en
    generalize upd H6 Tt (.tup [vn i, .ref rt]) = H7 at s7 td7 en7
    refine ⟨_, rfl, _, rfl, pr, _, _, _, rfl, rfl, SqL.of (s7 _ _ k1), atP _ tab.1, _, rfl, _, rfl, pr, _, _, _, rfl, rfl, SqL.of (s7 _ _ k1), atP _ tab.2, (by show 2 ≤ sizeLine; decide), fun p1 hp1 => ?_⟩
    have gp1 := same_new hp1 (.tup [vn (ps.getD (ts.getD i (0, 0)).1 0), vn (ps.getD (ts.getD i (0, 0)).2 0)])
    refine ⟨_, rfl, _, rfl, pr, _, _, _, rfl, rfl, SqL.of (gp1 _ _ (s7 _ _ k1)), atP _ tab.2, _, rfl, _, rfl, pr, _, _, _, rfl, rfl, SqL.of (gp1 _ _ (s7 _ _ k1)), atP _ tab.1, (by show 2 ≤ sizeLine; decide), fun p2 hp2 => ?_⟩
    have gp2 := same_new hp2 (.tup [vn (ps.getD (ts.getD i (0, 0)).2 0), vn (ps.getD (ts.getD i (0, 0)).1 0)])
    refine ⟨(by show 2 ≤ sizeLine; decide), fun pl hpl => ?_⟩
    have gp3 := same_new hpl (.lst [.ref p1, .ref p2])
    have hat : atI [V.ref p1, V.ref p2] (f : Int) = some (.ref (if f = 0 then p1 else p2)) := by
      have : f = 0 ∨ f = 1 := by omega
      rcases this with rfl | rfl <;> rfl
    have s8 := s7.trans ((gp1.trans gp2).trans gp3)
    have td8 := ((gp1.trans gp2).trans gp3).ts td7
    have en8 := gp3 _ _ (gp2 _ _ (gp1 _ _ en7))
    have htu : (upd (upd (upd H7 p1 (.tup [vn (ps.getD (ts.getD i (0, 0)).1 0), vn (ps.getD (ts.getD i (0, 0)).2 0)])) p2 (.tup [vn (ps.getD (ts.getD i (0, 0)).2 0), vn (ps.getD (ts.getD i (0, 0)).1 0)])) pl (.lst [.ref p1, .ref p2])) (if f = 0 then p1 else p2) =
        some (.tup [vn (if f = 0 then (ps.getD (ts.getD i (0, 0)).1 0, ps.getD (ts.getD i (0, 0)).2 0) else (ps.getD (ts.getD i (0, 0)).2 0, ps.getD (ts.getD i (0, 0)).1 0)).1, vn (if f = 0 then (ps.getD (ts.getD i (0, 0)).1 0, ps.getD (ts.getD i (0, 0)).2 0) else (ps.getD (ts.getD i (0, 0)).2 0, ps.getD (ts.getD i (0, 0)).1 0)).2]) := by
      by_cases hz : f = 0
      · rw [if_pos hz, if_pos hz]; exact gp3 _ _ (gp2 _ _ upd_same)
      · rw [if_neg hz, if_neg hz]; exact gp3 _ _ upd_same
    have epl : (upd (upd (upd H7 p1 (.tup [vn (ps.getD (ts.getD i (0, 0)).1 0), vn (ps.getD (ts.getD i (0, 0)).2 0)])) p2 (.tup [vn (ps.getD (ts.getD i (0, 0)).2 0), vn (ps.getD (ts.getD i (0, 0)).1 0)])) pl (.lst [.ref p1, .ref p2])) pl = some (.lst [.ref p1, .ref p2]) := upd_same
    generalize upd (upd (upd H7 p1 (.tup [vn (ps.getD (ts.getD i (0, 0)).1 0), vn (ps.getD (ts.getD i (0, 0)).2 0)])) p2 (.tup [vn (ps.getD (ts.getD i (0, 0)).2 0), vn (ps.getD (ts.getD i (0, 0)).1 0)])) pl (.lst [.ref p1, .ref p2]) = H8 at s8 td8 en8 htu epl
    obtain ⟨tq, tq1, tq2, _⟩ := id td8
    refine ⟨_, rfl, pl, _, _, _, rfl, rfl, SqL.of epl, hat, _, rfl, _, rfl, _, rfl, nr, _, _, _, rfl, rfl, SqL.of (s8 _ _ k2), atU _ hi, D, _, _, nu.getD i 0, rfl, rfl, tq1, ixN_nat (by rw [List.length_map, tq2, tdl]; exact hUi), ?_⟩
    have td9 := td8.set (j := nu.getD i 0) tq1 htu
    have s9 : Same H4 (upd H8 D (.lst ((tq.map V.ref).set (nu.getD i 0) (.ref (if f = 0 then p1 else p2))))) := fun b u h => by rw [upd_ne (ne_of_none h hD)]; exact s8 _ _ h
    have en9 : (upd H8 D (.lst ((tq.map V.ref).set (nu.getD i 0) (.ref (if f = 0 then p1 else p2))))) na = some (.lst ((List.range (2 * i)).map fun e => vn (MM.nmF (fun k => nu.getD k 0) (fun k => fl.getD k 0) e))) := by rw [upd_ne nD]; exact en8
    generalize upd H8 D (.lst ((tq.map V.ref).set (nu.getD i 0) (.ref (if f = 0 then p1 else p2)))) = H9 at td9 s9 en9
    refine ⟨_, rfl, _, rfl, _, rfl, nr, _, _, _, rfl, rfl, SqL.of (s9 _ _ k2), atU _ hi, _, _, rfl, rfl, .inl ⟨by decide, by decide⟩, _, rfl, _, _, rfl, rfl, _, rfl, _, rfl, nr, _, _, _, rfl, rfl, SqL.of (s9 _ _ k2), atU _ hi, _, _, rfl, rfl, .inl ⟨by decide, by decide⟩, _, _, rfl, rfl, _, rfl, _, _, rfl, rfl, (by show 2 ≤ sizeLine; decide), fun nl hnl => ?_⟩
    have v1 : V.int (2 * ((nu.getD i 0 : Nat) : Int) + (f : Int)) = vn (2 * nu.getD i 0 + f) := by show V.int _ = V.int _; congr 1
    have v2 : V.int (2 * ((nu.getD i 0 : Nat) : Int) + 1 - (f : Int)) = vn (2 * nu.getD i 0 + (1 - f)) := by show V.int _ = V.int _; congr 1; omega
    have gn1 := same_new hnl (.lst [V.int (2 * ((nu.getD i 0 : Nat) : Int) + (f : Int)), V.int (2 * ((nu.getD i 0 : Nat) : Int) + 1 - (f : Int))])
    refine ⟨na, nl, _, _, rfl, rfl, gn1 _ _ en9, upd_same, ?_, fun nb hnb => ?_⟩
    · rw [List.length_map, List.length_range]; exact Nat.le_trans (by show 2 * i + 2 ≤ 1000; omega) (by decide)
    have gn2 := same_new hnb (.lst (((List.range (2 * i)).map fun e => vn (MM.nmF (fun k => nu.getD k 0) (fun k => fl.getD k 0) e)) ++ [V.int (2 * ((nu.getD i 0 : Nat) : Int) + (f : Int)), V.int (2 * ((nu.getD i 0 : Nat) : Int) + 1 - (f : Int))]))
    obtain ⟨tq', tq1', _, _⟩ := id td9
    refine ⟨nb, fl ++ [f], _, _, _, _, _, rfl, s9.trans (gn1.trans gn2), by rw [List.length_append, hfl]; rfl, ?_, (ne_of_none (gn1 _ _ tq1') hnb).symm, ?_, (gn1.trans gn2).ts td9, by rw [List.length_set]; exact tdl, ?_⟩
    · intro z hz
      rcases List.mem_append.mp hz with hz | hz
      · exact hf1 z hz
      · have : z = f := by simpa using hz
        omega
    · rw [upd_same]
      show some (HO.lst (((List.range (2 * i)).map fun e => vn (MM.nmF (fun k => nu.getD k 0) (fun k => fl.getD k 0) e)) ++ [V.int (2 * ((nu.getD i 0 : Nat) : Int) + (f : Int)), V.int (2 * ((nu.getD i 0 : Nat) : Int) + 1 - (f : Int))])) = _
      rw [v1, v2]
      subst hfl
      rw [MM.nm_more]
    · intro k hk
      subst hfl
      rcases Nat.lt_or_ge k fl.length with hk' | hk'
      · have ne : nu.getD fl.length 0 ≠ nu.getD k 0 := fun z => by have := mU.inj _ _ hi (by omega) z; omega
        have e1 : (fl ++ [f]).getD k 0 = fl.getD k 0 := by simp [List.getD, List.getElem?_append_left hk']
        have e2 : ∀ z : Nat × Nat, (td.set (nu.getD fl.length 0) z).getD (nu.getD k 0) (0, 0) = td.getD (nu.getD k 0) (0, 0) := fun z => MM.getD_set_ne ne
        rw [e1, e2]
        exact hv k hk'
      · have ek : k = fl.length := by omega
        subst ek
        have e1 : (fl ++ [f]).getD fl.length 0 = f := by simp [List.getD]
        have e2 : ∀ z : Nat × Nat, (td.set (nu.getD fl.length 0) z).getD (nu.getD fl.length 0) (0, 0) = z := fun z => MM.getD_set_same (by rw [tdl]; exact hUi)
        rw [e1, e2]
  · rintro σ H6 ⟨na, fl, td, o7, o8, o9, o10, rfl, s6, hfl, hf1, nD, en, td6, tdl, hv⟩
    rw [trl] at hfl hv en
    have hF : ∀ k, (fun k => fl.getD k 0) k ≤ 1 := fun k => by
      show fl.getD k 0 ≤ 1
      rw [List.getD_eq_getElem?_getD]
      cases hk : fl[k]? with
      | none => simp
      | some z => exact hf1 z (List.mem_of_getElem? hk)
    have hNM := MM.nmF_maps mU hF
    generalize hnm : MM.nmF (fun k => nu.getD k 0) (fun k => fl.getD k 0) = NM at en hNM
    have s0 := g4.trans s6
    -- rows
    refine ⟨_, rfl, oa, rfl, ⟨_, SqL.of (s0 _ _ rr1)⟩, fun D2 hD2 => ?_⟩
    refine comp_map os.length (fun i ys H' => ∃ rr' : List Addr, ys = rr'.map V.ref ∧ NewOs H6 H' D2 rr' (List.replicate i []) ∧ Same H6 H') ⟨[], rfl, ⟨upd_same, rfl, fun i l h => by simp at h, List.nodup_nil, by simp, hD2, fun x hx => by cases hx⟩, same_new hD2 _⟩ ?_ ?_
    · rintro i ys H' hi ⟨rr', rfl, n', g'⟩
      have hx : (rr.map V.ref)[i]? = some (.ref (rr[i]'(by omega))) := by rw [List.getElem?_map, List.getElem?_eq_getElem (by omega)]; rfl
      refine ⟨⟨_, _, SqL.of (g' _ _ (s0 _ _ rr1)), hx⟩, ?_⟩
      rintro x H'' ⟨rfl, hx'⟩
      refine ⟨(Fills.refl _).set _ rfl, ?_⟩
      refine ⟨(by show 0 ≤ sizeLine; decide), fun nl hnl => ?_⟩
      have g5 := same_new hnl (.lst [])
      have nlr : nl ∉ rr' := fun z => by obtain ⟨l, hl⟩ := n'.ex z; rw [hnl] at hl; cases hl
      have nlo : nl ≠ D2 := (ne_of_none n'.at_ hnl).symm
      refine ⟨g5 _ _ n'.at_, ?_, rr' ++ [nl], by rw [List.map_append]; rfl, ?_, ?_⟩
      · rw [List.length_map, n'.len, List.length_replicate]; exact Nat.lt_of_lt_of_le hi (Nat.le_trans ho400 (by decide))
      · rw [List.replicate_succ']
        exact n'.push (x := nl) (l := []) (g'.free hnl) nlr nlo (by rw [upd_same, List.map_append]; rfl) (by rw [upd_ne nlo]; exact upd_same) fun b u hb h => by rw [upd_ne (show b ≠ D2 from fun z => n'.nin (z ▸ hb))]; exact g5 _ _ h
      · exact fun b o h => by rw [upd_ne (ne_of_none h hD2)]; exact g5 _ _ (g' _ _ h)
    rintro ys H7 ⟨rr7, rfl, n7, g7⟩
    refine ⟨⟨_, SqL.of (g7 _ _ (s0 _ _ rr1)), by rw [rrl]; exact Nat.le_refl _⟩, ?_⟩
    -- the loop over the orders
    refine ⟨_, rfl, oa, rfl, ⟨_, SqL.of (g7 _ _ (s0 _ _ rr1))⟩, for_enum (xs := rr.map V.ref) (fun i σ H' => ∃ (rr' : List Addr) (rows : MM.Ords) (o12 o13 o14 : Option V),
        σ = [some (.ref ta), some (.ref oa), some (.int c), some (.ref pr), some (.ref nr), some (.ref na), some (.ref D), o7, o8, o9, o10, some (.ref D2), o12, o13, o14] ∧ Same H6 H' ∧ NewOs H6 H' D2 rr' rows ∧ rows.length = os.length ∧
        ∀ p, p < i → ∃ l : List Nat, MM.row rows (ps.getD p 0) = l.map NM ∧ l.Perm (MM.row os p))
      ⟨rr7, _, none, none, none, rfl, g7, n7, by simp, fun p hp => absurd hp (Nat.not_lt_zero _)⟩ (fun i σ H' _ h => by obtain ⟨rr', rows, o12, o13, o14, _, h1, _⟩ := h; exact SqL.of (h1 _ _ (s0 _ _ rr1))) ?_ ?_⟩
    · rintro i x σ H8 Tt hx ⟨rr', rows, o12, o13, o14, rfl, s8, n8, rl8, hw⟩ hTt
      have hi : i < os.length := by have := (List.getElem?_eq_some_iff.mp hx).1; omega
      obtain ⟨xo, xo1, xo2⟩ := rr3 i _ (List.getElem?_eq_getElem hi)
      have ex : x = .ref xo := by rw [List.getElem?_map, xo1] at hx; cases hx; rfl
      subst ex
      have hrow : MM.row os i = os[i] := by unfold MM.row; rw [List.getD_eq_getElem?_getD, List.getElem?_eq_getElem hi]; rfl
      rw [← hrow] at xo2
      have hfull := g.g.full i hi
      have hfour := g.g.four i
      have hlt : ∀ e ∈ MM.row os i, e < 2 * ts.length := fun e he => (g.g.ends i e he).1
      generalize hord : MM.row os i = ord at xo2 hfull hfour hlt
      have hPi := mP.lt i hi
      have gT := same_new hTt (.tup [vn i, .ref xo])
      have s9 := s8.trans gT
      have n9 : NewOs H6 (upd H8 Tt (.tup [vn i, .ref xo])) D2 rr' rows := n8.keep fun b u _ h => gT _ _ h
      refine ⟨Tt, _, rfl, SqT.of upd_same, rfl, _, _, rfl, _, _, rfl, rfl, ?_⟩
      generalize upd H8 Tt (.tup [vn i, .ref xo]) = H9 at s9 n9
      have exo := s9 _ _ (s0 _ _ xo2)
      have ordl : (vns ord).length = ord.length := List.length_map _
      have ordp : 0 < ord.length := List.length_pos_iff.mpr hfull
      refine ⟨_, rfl, c, 3, rfl, by decide, by decide, fun m3 hm3 _ => ⟨_, rfl, m3, 4, i, rfl, by decide, by decide, by omega, by omega, fun d hd0 hd1 => ⟨_, rfl, xo, _, rfl, .inl (SqL.of exo), _, _, rfl, rfl, (by show (0 : Int) < ((vns ord).length : Nat); omega), ?_⟩⟩⟩
      obtain ⟨k, hk, ek⟩ := MM.mod_ix d (n := (vns ord).length) (by omega)
      show gName 14 (V.int (d % ((vns ord).length : Nat))) _ _ _
      rw [ek]
      refine ⟨_, rfl, _, rfl, _, rfl, xo, _, rfl, SqL.of exo, fun s1 hs1 => ?_⟩
      rw [cut_from ord (by omega)]
      have gs1 := same_new hs1 (.lst (vns (ord.drop k)))
      refine ⟨_, rfl, _, rfl, _, rfl, xo, _, rfl, SqL.of (gs1 _ _ exo), fun s2 hs2 => ?_⟩
      rw [cut_to ord (by omega)]
      have gs2 := same_new hs2 (.lst (vns (ord.take k)))
      refine ⟨s1, s2, _, _, rfl, rfl, gs2 _ _ upd_same, upd_same, ?_, fun rl hrl => ?_⟩
      · rw [List.length_map, List.length_map, List.length_drop, List.length_take]
        exact Nat.le_trans (by omega : _ ≤ 100) (by decide)
      rw [← vns_app]
      have gs3 := same_new hrl (.lst (vns (ord.drop k ++ ord.take k)))
      have hperm := rot_perm ord k
      have s10 := s9.trans ((gs1.trans gs2).trans gs3)
      have n10 : NewOs H6 (upd (upd (upd H9 s1 (.lst (vns (ord.drop k)))) s2 (.lst (vns (ord.take k)))) rl (.lst (vns (ord.drop k ++ ord.take k)))) D2 rr' rows := n9.keep fun b u _ h => gs3 _ _ (gs2 _ _ (gs1 _ _ h))
      have erl : (upd (upd (upd H9 s1 (.lst (vns (ord.drop k)))) s2 (.lst (vns (ord.take k)))) rl (.lst (vns (ord.drop k ++ ord.take k)))) rl = some (.lst (vns (ord.drop k ++ ord.take k))) := upd_same
      generalize upd (upd (upd H9 s1 (.lst (vns (ord.drop k)))) s2 (.lst (vns (ord.take k)))) rl (.lst (vns (ord.drop k ++ ord.take k))) = H10 at s10 n10 erl
      generalize ord.drop k ++ ord.take k = rot at erl hperm
      refine ⟨rl, rfl, ⟨_, SqL.of erl⟩, fun D3 hD3 => ?_⟩
      refine comp_map rot.length (fun i ys H' => ys = vns ((rot.take i).map NM) ∧ H' = upd H10 D3 (.lst ys)) ⟨rfl, rfl⟩ ?_ ?_
      · rintro j ys H' hj ⟨rfl, rfl⟩
        have gD := same_new hD3 (.lst (vns ((rot.take j).map NM)))
        have hx : (vns rot)[j]? = some (vn rot[j]) := by rw [List.getElem?_map, List.getElem?_eq_getElem hj]; rfl
        refine ⟨⟨_, _, SqL.of (gD _ _ erl), hx⟩, ?_⟩
        rintro x' H'' ⟨rfl, hx'⟩
        have e6 := hx' _ (SqL.of (gD _ _ erl))
        rw [hx] at e6
        cases e6
        have hjl := hlt rot[j] (hperm.mem_iff.mp (List.getElem_mem hj))
        have hat : atI ((List.range (2 * ts.length)).map fun e => vn (NM e)) ((rot[j] : Nat) : Int) = some (vn (NM rot[j])) := atI_nat (by rw [List.getElem?_map, List.getElem?_range hjl]; rfl)
        have hrl5 : rot.length ≤ 4 := by rw [hperm.length_eq]; exact hfour
        refine ⟨(Fills.refl _).set _ rfl, ?_⟩
        refine ⟨_, rfl, _, rfl, na, _, _, _, rfl, rfl, SqL.of (gD _ _ (s10 _ _ en)), hat, upd_same, ?_, ?_, ?_⟩
        · rw [List.length_map, List.length_map, List.length_take]; exact Nat.lt_of_le_of_lt (by omega : _ ≤ 4) (by decide)
        · rw [List.take_add_one, List.getElem?_eq_getElem hj, List.map_append, vns_app]; rfl
        · rw [upd_upd]
      · rintro ys H' ⟨rfl, rfl⟩
        rw [List.take_length]
        have gD := same_new hD3 (.lst (vns (rot.map NM)))
        refine ⟨⟨_, SqL.of (gD _ _ erl), by rw [List.length_map]; exact Nat.le_refl _⟩, ?_⟩
        have D3r : D3 ∉ rr' := fun z => by obtain ⟨l, hl⟩ := n10.ex z; rw [hD3] at hl; cases hl
        have D3o : D3 ≠ D2 := (ne_of_none n10.at_ hD3).symm
        refine ⟨_, rfl, _, rfl, _, rfl, pr, _, _, _, rfl, rfl, SqL.of (gD _ _ (s10 _ _ (s6 _ _ k1))), atP i hi, D2, _, _, ps.getD i 0, rfl, rfl, gD _ _ n10.at_, ixN_nat (by rw [List.length_map, n10.len, rl8]; exact hPi), ?_⟩
        have n11 := n10.setRef (x := D3) (l := rot.map NM) (p := ps.getD i 0) (H2 := upd (upd H10 D3 (.lst (vns (rot.map NM)))) D2 (.lst ((rr'.map V.ref).set (ps.getD i 0) (.ref D3)))) (s10.free hD3) D3r D3o (by rw [upd_same, List.map_set]) (by rw [upd_ne D3o]; exact upd_same)
          fun b u hb h => by rw [upd_ne (show b ≠ D2 from fun z => n10.nin (z ▸ hb))]; exact gD _ _ h
        refine ⟨_, _, _, _, _, rfl, ?_, n11, by rw [List.length_set]; exact rl8, fun p hp => ?_⟩
        · exact fun b u h => by rw [upd_ne (ne_of_none h hD2)]; exact gD _ _ (s10 _ _ h)
        · rcases Nat.lt_or_ge p i with hp' | hp'
          · have ne : ps.getD p 0 ≠ ps.getD i 0 := fun z => by have := mP.inj p i (by omega) hi z; omega
            rw [MM.row_set_ne ne]
            exact hw p hp'
          · have ep : p = i := by omega
            subst ep
            rw [MM.row_set_same (by rw [rl8]; exact hPi), hord]
            exact ⟨rot, rfl, hperm⟩
    · rintro σ H8 ⟨rr', rows, o12, o13, o14, rfl, s8, n8, rl8, hw⟩
      rw [rrl] at hw
      refine ⟨_, rfl, oa, _, rfl, .inl (SqL.of (s8 _ _ (s0 _ _ rr1))), _, rfl, _, rfl, (by show 3 ≤ sizeLine; decide), fun r hr' => ?_⟩
      have gr := same_new hr' (.tup [.int ((rr.map V.ref).length : Nat), .ref D, .ref D2])
      obtain ⟨tq, tq1, _, _⟩ := id td6
      have nb : NewOs H (upd H8 r (.tup [.int ((rr.map V.ref).length : Nat), .ref D, .ref D2])) D2 rr' rows :=
        ⟨gr _ _ n8.at_, n8.len, (n8.keep (fun b u _ h => gr _ _ h)).row, n8.nd, n8.nin, s0.free n8.new, fun x hx => s0.free (n8.news x hx)⟩
      refine q r D D2 rr' td rows _ ((s0.trans s8).trans gr) (by rw [upd_same, rrl]) ⟨(s8.trans gr).ts td6, nb, g4.free hD, ne_of_none tq1 hD2, fun z => by have := n8.news D z; rw [tq1] at this; cases this⟩ ?_ tdl rl8
      refine MM.renamed_good g mU hF mP tdl rl8 hv ?_
      rw [hnm]
      exact hw
end K22

namespace MM
theorem good2 : Good [(0, 1)] [[0], [1]] where
  one := Nat.le_refl _
  g := {
    ends := fun p e he => by
      match p, he with
      | 0, he => have h : e = 0 := by simpa [row] using he
                 subst h; exact ⟨by decide, rfl⟩
      | 1, he => have h : e = 1 := by simpa [row] using he
                 subst h; exact ⟨by decide, rfl⟩
      | p + 2, he => simp [row] at he
    has := fun e he => by
      have : e = 0 ∨ e = 1 := by simp at he; omega
      rcases this with rfl | rfl <;> exact ⟨by decide, by decide⟩
    nd := fun p => by
      match p with
      | 0 => decide
      | 1 => decide
      | p + 2 => simp [row]
    full := fun p hp => by
      match p, hp with
      | 0, _ => decide
      | 1, _ => decide
      | p + 2, hp => exact absurd hp (by show ¬ p + 2 < 2; omega)
    four := fun p => by
      match p with
      | 0 => decide
      | 1 => decide
      | p + 2 => simp [row] }
theorem good1 : Good [(0, 0)] [[0, 1]] where
  one := Nat.le_refl _
  g := {
    ends := fun p e he => by
      match p, he with
      | 0, he => have h : e = 0 ∨ e = 1 := by simpa [row] using he
                 rcases h with rfl | rfl <;> exact ⟨by decide, rfl⟩
      | p + 1, he => simp [row] at he
    has := fun e he => by
      have : e = 0 ∨ e = 1 := by simp at he; omega
      rcases this with rfl | rfl <;> exact ⟨by decide, by decide⟩
    nd := fun p => by
      match p with
      | 0 => decide
      | p + 1 => simp [row]
    full := fun p hp => by
      match p, hp with
      | 0, _ => decide
      | p + 1, hp => exact absurd hp (by show ¬ p + 1 < 1; omega)
    four := fun p => by
      match p with
      | 0 => decide
      | p + 1 => simp [row] }
end MM
namespace L2
open PySem PyProof.Rows
theorem MapM.base {H0 H1 H : Hp} {a o : Addr} {rr : List Addr} {ts : MM.Ties} {os : MM.Ords} (m : MapM H1 H a o rr ts os) (g : Same H0 H1) : MapM H0 H a o rr ts os :=
  ⟨m.ts, ⟨m.os.at_, m.os.len, m.os.row, m.os.nd, m.os.nin, g.free m.os.new, fun x hx => g.free (m.os.news x hx)⟩, g.free m.an, m.ao, m.ar⟩
end L2
namespace K22
open PySem L2 PyProof.Rows
variable {P : Program} {w : World} {K : PySem.W.Frag} {mg : Str → Option Value} {base : Heap} {t : Adr}
def spMap (K : PySem.W.Frag) : Sp := fun vs H Q _ => ∃ (sa : Addr) (ns : List Int) (steps most : Int), vs = [.ref sa, .int steps, .int most] ∧ SqL K H sa (ns.map V.int) ∧ 0 ≤ steps ∧ steps ≤ 30 ∧
  ∀ (r tA oA : Addr) (rr : List Addr) (ts : MM.Ties) (os : MM.Ords) (H' : Hp), Same H H' → H' r = some (.tup [vn os.length, .ref tA, .ref oA]) → MapM H H' tA oA rr ts os → MM.Good ts os → ts.length ≤ 40 → os.length ≤ 40 → Q (.ref r) H'
theorem ok_lmap (T : Txt K mg t) : FnOk P w K mg base CX0 5 t.a_l_map t.d_l_map ["_law_script", "_law_steps", "_law_most"] (spMap K) := by
  have G_l_cell_at := ok_cell (P := P) (w := w) (base := base) T
  have G_l_mix := ok_mix (P := P) (w := w) (base := base) T
  have G_l_step := ok_lstep (P := P) (w := w) (base := base) T
  have G_l_renamed := ok_lrenamed (P := P) (w := w) (base := base) T
  refine T.F_l_map.ok sc_l_map (fun vs H Q E h => ?_) (fun cdv A outer s H vs Q E hr h => ?_)
  · obtain ⟨sa, ns, steps, most, rfl, _⟩ := h; rfl
  obtain ⟨sa, ns, steps, most, rfl, hS, hs0, hs1, q⟩ := h
  have nd := sc_l_map.nd
  refine ⟨_, (pss_cons (ps_set (i := 3) nd rfl (Or.inl rfl) (pe_call G_l_cell_at (hr.mono (by decide)) rfl T.m_l_cell_at T.k_l_cell_at T.b_l_cell_at .nil pass0 (pa_cons (pv 0) (pa_cons pe_int pa_nil))))
    (pss_cons (ps_set (i := 4) nd rfl (Or.inl rfl) (pe_lst (pa_cons (pe_tup (pa_cons pe_int (pa_cons pe_int pa_nil))) pa_nil)))
    (pss_cons (ps_set (i := 5) nd rfl (Or.inl rfl) (pe_lst (pa_cons (pe_lst (pa_cons pe_int pa_nil)) (pa_cons (pe_lst (pa_cons pe_int pa_nil)) pa_nil))))
    (pss_cons (ps_if (pt_cmpR op_eq (pe_op op_mod (pe_call G_l_mix (hr.mono (by decide)) rfl T.m_l_mix T.k_l_mix T.b_l_mix .nil pass0 (pa_cons (pv 3) (pa_cons pe_int pa_nil))) pe_int) pe_int (nomark _)) (pss_cons (ps_set (i := 4) nd rfl (Or.inl rfl) (pe_lst (pa_cons (pe_tup (pa_cons pe_int (pa_cons pe_int pa_nil))) pa_nil)))
    (pss_one (ps_set (i := 5) nd rfl (Or.inl rfl) (pe_lst (pa_cons (pe_lst (pa_cons pe_int (pa_cons pe_int pa_nil))) pa_nil))))) pss_nil)
    (pss_cons (ps_for PassesOwn.never rfl (pi_range1 rfl T.z_range (pa_cons (pe_op op_mod (pe_call G_l_mix (hr.mono (by decide)) rfl T.m_l_mix T.k_l_mix T.b_l_mix .nil pass0 (pa_cons (pv 3) (pa_cons pe_int pa_nil))) (pe_op op_add (pv 1) pe_int)) pa_nil)) (pg_name (i := 6) nd rfl (Or.inl rfl)) (pss_one (ps_expr (pe_call G_l_step (hr.mono (by decide)) rfl T.m_l_step T.k_l_step T.b_l_step .nil pass0 (pa_cons (pv 4) (pa_cons (pv 5) (pa_cons (pe_call G_l_mix (hr.mono (by decide)) rfl T.m_l_mix T.k_l_mix T.b_l_mix .nil pass0 (pa_cons (pe_call G_l_cell_at (hr.mono (by decide)) rfl T.m_l_cell_at T.k_l_cell_at T.b_l_cell_at .nil pass0 (pa_cons (pv 0) (pa_cons (pe_op op_add pe_int (pe_op op_mod (pv 6) pe_int)) pa_nil))) (pa_cons (pe_op op_add pe_int (pv 6)) pa_nil))) (pa_cons (pv 2) pa_nil))))))))
    (pss_one (ps_ret (pe_call G_l_renamed (hr.mono (by decide)) rfl T.m_l_renamed T.k_l_renamed T.b_l_renamed .nil pass0 (pa_cons (pv 4) (pa_cons (pv 5) (pa_cons (pe_call G_l_cell_at (hr.mono (by decide)) rfl T.m_l_cell_at T.k_l_cell_at T.b_l_cell_at .nil pass0 (pa_cons (pv 0) (pa_cons pe_int pa_nil))) pa_nil))))))))))), ?_⟩
  refine ⟨_, rfl, sa, ns, 0, rfl, hS, by decide, fun c => ?_⟩
  refine ⟨(by show 2 ≤ sizeLine; decide), fun t0 ht0 => ⟨(by show 1 ≤ sizeLine; decide), fun ta hta => ?_⟩⟩
  have a1 := same_new ht0 (.tup [vn 0, vn 1])
  have a2 := same_new hta (.lst [.ref t0])
  refine ⟨(by show 1 ≤ sizeLine; decide), fun o0 ho0 => ⟨(by show 1 ≤ sizeLine; decide), fun o1 ho1 => ⟨(by show 2 ≤ sizeLine; decide), fun oa hoa => ?_⟩⟩⟩
  have a3 := same_new ho0 (.lst [vn 0])
  have a4 := same_new ho1 (.lst [vn 1])
  have a5 := same_new hoa (.lst [.ref o0, .ref o1])
  have gA := (((a1.trans a2).trans a3).trans a4).trans a5
  have n01 : o0 ≠ o1 := ne_of_none upd_same ho1
  have n0a : oa ≠ o0 := (ne_of_none (a4 _ _ upd_same) hoa).symm
  have n1a : oa ≠ o1 := (ne_of_none upd_same hoa).symm
  have mA : MapM H (upd (upd (upd (upd (upd H t0 (.tup [vn 0, vn 1])) ta (.lst [.ref t0])) o0 (.lst [vn 0])) o1 (.lst [vn 1])) oa (.lst [.ref o0, .ref o1])) ta oa [o0, o1] [(0, 1)] [[0], [1]] := by
    refine ⟨⟨[t0], a5 _ _ (a4 _ _ (a3 _ _ upd_same)), rfl, fun i u hu => ?_⟩, ⟨upd_same, rfl, fun i u hu => ?_, by simp [n01], by simp [n0a, n1a], ?_, fun x hx => ?_⟩, a1.free hta, ne_of_none (a4 _ _ (a3 _ _ upd_same)) hoa, fun z => ?_⟩
    · match i, hu with
      | 0, hu => cases hu; exact ⟨t0, rfl, a5 _ _ (a4 _ _ (a3 _ _ (a2 _ _ upd_same)))⟩
      | i + 1, hu => simp at hu
    · match i, hu with
      | 0, hu => cases hu; exact ⟨o0, rfl, a5 _ _ (a4 _ _ upd_same)⟩
      | 1, hu => cases hu; exact ⟨o1, rfl, a5 _ _ upd_same⟩
      | i + 2, hu => simp at hu
    · exact ((a1.trans a2).trans (a3.trans a4)).free hoa
    · have hx' : x = o0 ∨ x = o1 := by simpa using hx
      rcases hx' with rfl | rfl
      · exact (a1.trans a2).free ho0
      · exact ((a1.trans a2).trans a3).free ho1
    · have hz : ta = o0 ∨ ta = o1 := by simpa using z
      rcases hz with rfl | rfl
      · exact ne_of_none upd_same ho0 rfl
      · exact ne_of_none (a3 _ _ upd_same) ho1 rfl
  have gdA := MM.good2
  generalize upd (upd (upd (upd (upd H t0 (.tup [vn 0, vn 1])) ta (.lst [.ref t0])) o0 (.lst [vn 0])) o1 (.lst [vn 1])) oa (.lst [.ref o0, .ref o1]) = HA at gA mA
  clear a1 a2 a3 a4 a5 n01 n0a n1a ht0 hta ho0 ho1 hoa
  refine ⟨_, rfl, c, 0, rfl, by decide, by decide, fun m0 hm0 _ => ⟨_, _, rfl, rfl, (by show (0 : Int) < 4; decide), rfl, _, rfl, ?_⟩⟩
  refine ite2 (fun cc => ?_) (fun cc => ?_)
  · refine ⟨(by show 2 ≤ sizeLine; decide), fun t1 ht1 => ⟨(by show 1 ≤ sizeLine; decide), fun tb htb => ?_⟩⟩
    have a1 := same_new ht1 (.tup [vn 0, vn 0])
    have a2 := same_new htb (.lst [.ref t1])
    refine ⟨(by show 2 ≤ sizeLine; decide), fun o2 ho2 => ⟨(by show 1 ≤ sizeLine; decide), fun ob hob => ?_⟩⟩
    have a3 := same_new ho2 (.lst [vn 0, vn 1])
    have a4 := same_new hob (.lst [.ref o2])
    have gB := gA.trans (((a1.trans a2).trans a3).trans a4)
    have mB : MapM H (upd (upd (upd (upd HA t1 (.tup [vn 0, vn 0])) tb (.lst [.ref t1])) o2 (.lst [vn 0, vn 1])) ob (.lst [.ref o2])) tb ob [o2] [(0, 0)] [[0, 1]] := by
      refine ⟨⟨[t1], a4 _ _ (a3 _ _ upd_same), rfl, fun i u hu => ?_⟩, ⟨upd_same, rfl, fun i u hu => ?_, by simp, by simp; exact (ne_of_none upd_same hob).symm, ?_, fun x hx => ?_⟩, gA.free (a1.free htb), ne_of_none (a3 _ _ upd_same) hob, fun z => ?_⟩
      · match i, hu with
        | 0, hu => cases hu; exact ⟨t1, rfl, a4 _ _ (a3 _ _ (a2 _ _ upd_same))⟩
        | i + 1, hu => simp at hu
      · match i, hu with
        | 0, hu => cases hu; exact ⟨o2, rfl, a4 _ _ upd_same⟩
        | i + 1, hu => simp at hu
      · exact gA.free ((a1.trans (a2.trans a3)).free hob)
      · have hx' : x = o2 := by simpa using hx
        subst hx'
        exact gA.free ((a1.trans a2).free ho2)
      · have hz : tb = o2 := by simpa using z
        exact ne_of_none upd_same ho2 hz
    have gdB := MM.good1
    generalize upd (upd (upd (upd HA t1 (.tup [vn 0, vn 0])) tb (.lst [.ref t1])) o2 (.lst [vn 0, vn 1])) ob (.lst [.ref o2]) = HB at gB mB
    clear a1 a2 a3 a4 ht1 htb ho2 hob
    refine ⟨_, rfl, c, 1, rfl, by decide, by decide, fun m1 hm1 _ => ⟨_, rfl, _, _, rfl, rfl, _, _, rfl, rfl, (by show (0 : Int) < steps + 1; omega), m1 % (steps + 1), rfl, ?_, ?_, ?_⟩⟩
    · have := Int.emod_nonneg m1 (show steps + 1 ≠ 0 by omega); omega
    · have := Int.emod_lt_of_pos m1 (show 0 < steps + 1 by omega); omega
    have hn : (m1 % (steps + 1)).toNat ≤ 30 := by have := Int.emod_lt_of_pos m1 (show 0 < steps + 1 by omega); omega
    refine for_range (lo := 0) (n := (m1 % (steps + 1)).toNat) (fun i σ H' => ∃ (rr : List Addr) (ts : MM.Ties) (os : MM.Ords) (o6 : Option V), σ = [some (.ref sa), some (.int steps), some (.int most), some (.int c), some (.ref tb), some (.ref ob), o6] ∧ Same H H' ∧ MapM H H' tb ob rr ts os ∧ MM.Good ts os ∧ ts.length ≤ i + 1 ∧ os.length ≤ i + 2)
      ⟨_, _, _, none, rfl, gB, mB, gdB, by simp, by simp⟩ ?_ ?_
    · rintro i σ H1 hi ⟨rr, ts, os, o6, rfl, g1, hm, gd, l1, l2⟩
      refine ⟨_, rfl, _, rfl, _, rfl, _, rfl, _, _, rfl, rfl, (by show (0 : Int) < 6; decide), _, _, rfl, rfl, sa, ns, _, rfl, g1.seq hS, by omega, fun c2 => ⟨_, rfl, _, _, rfl, rfl, _, _, rfl, by omega, by omega, fun m2 hm2 _ => ⟨_, rfl, H, tb, ob, m2, most, rr, ts, os, rfl, g1, hm, gd, by omega, by omega, hm2, ?_⟩⟩⟩
      exact fun H2 rr' ts' os' g' hm' gd' k1 k2 => ⟨rr', ts', os', _, rfl, g', hm', gd', by omega, by omega⟩
    · rintro σ H1 ⟨rr, ts, os, o6, rfl, g1, hm, gd, l1, l2⟩
      refine ⟨_, rfl, _, rfl, _, rfl, sa, ns, 1, rfl, g1.seq hS, by decide, fun c3 => ⟨tb, ob, c3, ts, os, rfl, hm.ts, hm.os.os, gd, by omega, by omega, ?_⟩⟩
      exact fun r tA oA rr' ts' os' H2 g2 er hm2 gd2 k1 k2 => q r tA oA rr' ts' os' H2 (g1.trans g2) (by rw [er, k2]) (hm2.base g1) gd2 (by omega) (by omega)
  · refine ⟨_, rfl, c, 1, rfl, by decide, by decide, fun m1 hm1 _ => ⟨_, rfl, _, _, rfl, rfl, _, _, rfl, rfl, (by show (0 : Int) < steps + 1; omega), m1 % (steps + 1), rfl, ?_, ?_, ?_⟩⟩
    · have := Int.emod_nonneg m1 (show steps + 1 ≠ 0 by omega); omega
    · have := Int.emod_lt_of_pos m1 (show 0 < steps + 1 by omega); omega
    have hn : (m1 % (steps + 1)).toNat ≤ 30 := by have := Int.emod_lt_of_pos m1 (show 0 < steps + 1 by omega); omega
    refine for_range (lo := 0) (n := (m1 % (steps + 1)).toNat) (fun i σ H' => ∃ (rr : List Addr) (ts : MM.Ties) (os : MM.Ords) (o6 : Option V), σ = [some (.ref sa), some (.int steps), some (.int most), some (.int c), some (.ref ta), some (.ref oa), o6] ∧ Same H H' ∧ MapM H H' ta oa rr ts os ∧ MM.Good ts os ∧ ts.length ≤ i + 1 ∧ os.length ≤ i + 2)
      ⟨_, _, _, none, rfl, gA, mA, gdA, by simp, by simp⟩ ?_ ?_
    · rintro i σ H1 hi ⟨rr, ts, os, o6, rfl, g1, hm, gd, l1, l2⟩
      refine ⟨_, rfl, _, rfl, _, rfl, _, rfl, _, _, rfl, rfl, (by show (0 : Int) < 6; decide), _, _, rfl, rfl, sa, ns, _, rfl, g1.seq hS, by omega, fun c2 => ⟨_, rfl, _, _, rfl, rfl, _, _, rfl, by omega, by omega, fun m2 hm2 _ => ⟨_, rfl, H, ta, oa, m2, most, rr, ts, os, rfl, g1, hm, gd, by omega, by omega, hm2, ?_⟩⟩⟩
      exact fun H2 rr' ts' os' g' hm' gd' k1 k2 => ⟨rr', ts', os', _, rfl, g', hm', gd', by omega, by omega⟩
    · rintro σ H1 ⟨rr, ts, os, o6, rfl, g1, hm, gd, l1, l2⟩
      refine ⟨_, rfl, _, rfl, _, rfl, sa, ns, 1, rfl, g1.seq hS, by decide, fun c3 => ⟨ta, oa, c3, ts, os, rfl, hm.ts, hm.os.os, gd, by omega, by omega, ?_⟩⟩
      exact fun r tA oA rr' ts' os' H2 g2 er hm2 gd2 k1 k2 => q r tA oA rr' ts' os' H2 (g1.trans g2) (by rw [er, k2]) (hm2.base g1) gd2 (by omega) (by omega)
end K22

namespace L2
open PySem PyProof.Rows
/-- a map that is handed in -/
def WebAt (H : Hp) (w : Addr) (n : Nat) (ts : MM.Ties) (os : MM.Ords) : Prop := ∃ tA oA : Addr, H w = some (.tup [vn n, .ref tA, .ref oA]) ∧ TsAt H tA ts ∧ OsAt H oA os
theorem Same.web {H H' : Hp} (g : Same H H') {w : Addr} {n : Nat} {ts : MM.Ties} {os : MM.Ords} (h : WebAt H w n ts os) : WebAt H' w n ts os := by
  obtain ⟨tA, oA, h1, h2, h3⟩ := h
  exact ⟨tA, oA, g _ _ h1, g.ts h2, g.os h3⟩
end L2
namespace K22
open PySem L2 PyProof.Rows
variable {P : Program} {w : World} {K : PySem.W.Frag} {mg : Str → Option Value} {base : Heap} {t : Adr}
theorem ok_other (T : Txt K mg t) : FnOk P w K mg base CX0 1 t.a_other_end t.d_other_end ["end"] spOth := by
  refine T.F_other_end.ok sc_other_end (fun vs H Q E h => ?_) (fun cdv A outer s H vs Q E hr h => ?_)
  · obtain ⟨e, rfl, _⟩ := h; rfl
  obtain ⟨e, rfl, q⟩ := h
  refine ⟨_, (pss_one (ps_ret (pe_op op_xor (pv 0) pe_int))), ?_⟩
  refine ⟨_, rfl, _, _, rfl, rfl, ?_⟩
  have e1 : Builtin.bitXor (e : Int) 1 = ((MM.oth e : Nat) : Int) := by
    rw [PyProof.Rows.bitXor_and, PyProof.Rows.bitAnd_m1]
    unfold MM.oth
    split <;> omega
  show Q (.int (Builtin.bitXor (e : Int) 1)) H
  rw [e1]
  exact q
def spWPlace : Sp := fun vs H Q _ => ∃ (wa : Addr) (n : Nat) (ts : MM.Ties) (os : MM.Ords) (e : Nat), vs = [.ref wa, vn e] ∧ WebAt H wa n ts os ∧ e < 2 * ts.length ∧ Q (vn (MM.place ts e)) H
theorem ok_place (T : Txt K mg t) : FnOk P w K mg base CX0 1 t.a_place_of t.d_place_of ["web", "end"] spWPlace := by
  refine T.F_place_of.ok sc_place_of (fun vs H Q E h => ?_) (fun cdv A outer s H vs Q E hr h => ?_)
  · obtain ⟨wa, n, ts, os, e, rfl, _⟩ := h; rfl
  obtain ⟨wa, n, ts, os, e, rfl, ⟨tA, oA, hw, ht, ho⟩, he, q⟩ := h
  refine ⟨_, (pss_one (ps_ret (pe_ix ix_seq (pe_ix ix_seq (pe_ix ix_tup (pv 0) pe_int (fun _ _ => rfl)) (pe_op op_fdiv (pv 1) pe_int) (fun _ _ => rfl)) (pe_op op_mod (pv 1) pe_int) (fun _ _ => rfl)))), ?_⟩
  obtain ⟨xs, r, h1, h2, h3, h4⟩ := ht.item (i := e / 2) (by omega)
  refine ⟨_, rfl, wa, _, _, .ref tA, rfl, rfl, SqT.of hw, rfl, _, rfl, _, _, rfl, rfl, ⟨by decide, by decide⟩, .inl ⟨tA, xs, _, _, rfl, rfl, SqL.of h1, (by show atI xs ((e : Int) / 2) = _; rw [show (e : Int) / 2 = ((e / 2 : Nat) : Int) by omega]; exact h3), ?_⟩⟩
  refine ⟨_, rfl, _, _, rfl, rfl, (by show (0 : Int) < 2; decide), .inr (.inl ⟨r, _, _, _, rfl, rfl, SqT.of h4, at_pair e, ?_⟩)⟩
  unfold MM.place at q
  split
  · rename_i h; rw [if_pos h] at q; exact q
  · rename_i h; rw [if_neg h] at q; exact q
def spGoes : Sp := fun vs H Q _ => ∃ (wa : Addr) (n : Nat) (ts : MM.Ties) (os : MM.Ords) (e : Nat), vs = [.ref wa, vn e] ∧ WebAt H wa n ts os ∧ e < 2 * ts.length ∧ Q (vn (MM.place ts (MM.oth e))) H
theorem ok_goes (T : Txt K mg t) : FnOk P w K mg base CX0 2 t.a_goes_to t.d_goes_to ["web", "end"] spGoes := by
  have G_other_end := ok_other (P := P) (w := w) (base := base) T
  have G_place_of := ok_place (P := P) (w := w) (base := base) T
  refine T.F_goes_to.ok sc_goes_to (fun vs H Q E h => ?_) (fun cdv A outer s H vs Q E hr h => ?_)
  · obtain ⟨wa, n, ts, os, e, rfl, _⟩ := h; rfl
  obtain ⟨wa, n, ts, os, e, rfl, hw, he, q⟩ := h
  refine ⟨_, (pss_one (ps_ret (pe_call G_place_of (hr.mono (by decide)) rfl T.m_place_of T.k_place_of T.b_place_of .nil pass0 (pa_cons (pv 0) (pa_cons (pe_call G_other_end (hr.mono (by decide)) rfl T.m_other_end T.k_other_end T.b_other_end .nil pass0 (pa_cons (pv 1) pa_nil)) pa_nil))))), ?_⟩
  exact ⟨_, rfl, _, rfl, e, rfl, wa, n, ts, os, MM.oth e, rfl, hw, MM.oth_lt he, q⟩
def spBehind : Sp := fun vs H Q _ => ∃ (wa : Addr) (n : Nat) (ts : MM.Ties) (os : MM.Ords) (e : Nat), vs = [.ref wa, vn e] ∧ WebAt H wa n ts os ∧ MM.Good ts os ∧ e < 2 * ts.length ∧ Q (vn (MM.behind ts os e)) H
theorem ok_behind (T : Txt K mg t) : FnOk P w K mg base CX0 3 t.a_behind t.d_behind ["web", "end"] spBehind := by
  have G_other_end := ok_other (P := P) (w := w) (base := base) T
  have G_goes_to := ok_goes (P := P) (w := w) (base := base) T
  refine T.F_behind.ok sc_behind (fun vs H Q E h => ?_) (fun cdv A outer s H vs Q E hr h => ?_)
  · obtain ⟨wa, n, ts, os, e, rfl, _⟩ := h; rfl
  obtain ⟨wa, n, ts, os, e, rfl, hw, g, he, q⟩ := h
  have nd := sc_behind.nd
  refine ⟨_, (pss_cons (ps_set (i := 2) nd rfl (Or.inl rfl) (pe_ix ix_seq (pe_ix ix_tup (pv 0) pe_int (fun _ _ => rfl)) (pe_call G_goes_to (hr.mono (by decide)) rfl T.m_goes_to T.k_goes_to T.b_goes_to .nil pass0 (pa_cons (pv 0) (pa_cons (pv 1) pa_nil))) (fun _ _ => rfl)))
    (pss_one (ps_ret (pe_ix ix_list (pv 2) (pe_op op_sub (pe_bm PySem.F.plainAttrs_list PySem.F.slot_list_index PySem.F.type_list_index mt_index (pv 2) (pa_cons (pe_call G_other_end (hr.mono (by decide)) rfl T.m_other_end T.k_other_end T.b_other_end .nil pass0 (pa_cons (pv 1) pa_nil)) pa_nil)) pe_int) (fun _ _ => rfl))))), ?_⟩
  obtain ⟨tA, oA, hw1, ht, ho⟩ := id hw
  have hp := g.g.has (MM.oth e) (MM.oth_lt he)
  obtain ⟨xs, r, h1, h2, h3, h4⟩ := ho.item hp.1
  refine ⟨_, rfl, wa, _, _, .ref oA, rfl, rfl, SqT.of hw1, rfl, _, rfl, _, rfl, wa, n, ts, os, e, rfl, hw, he, .inl ⟨oA, xs, _, _, rfl, rfl, SqL.of h1, h3, ?_⟩⟩
  exact ⟨_, rfl, _, rfl, .inl ⟨rfl, _, SqL.of h4⟩, _, rfl, e, rfl, r, _, _, rfl, rfl, h4, hp.2, _, _, rfl, rfl, r, _, _, _, rfl, rfl, SqL.of h4, at_prev hp.2, q⟩
def spLandFrom : Sp := fun vs H Q _ => ∃ (wa : Addr) (n : Nat) (ts : MM.Ties) (os : MM.Ords) (e : Nat), vs = [.ref wa, vn e] ∧ WebAt H wa n ts os ∧ MM.Good ts os ∧ ts.length ≤ 500 ∧ e < 2 * ts.length ∧ ∀ r, H r = none → Q (.ref r) (upd H r (.lst (vns (MM.landOf (MM.behind ts os) e))))
theorem ok_landfrom (T : Txt K mg t) : FnOk P w K mg base CX0 4 t.a_land_from t.d_land_from ["web", "first"] spLandFrom := by
  have G_behind := ok_behind (P := P) (w := w) (base := base) T
  refine T.F_land_from.ok sc_land_from (fun vs H Q E h => ?_) (fun cdv A outer s H vs Q E hr h => ?_)
  · obtain ⟨wa, n, ts, os, e, rfl, _⟩ := h; rfl
  obtain ⟨wa, n, ts, os, e, rfl, hw, g, h500, he, q⟩ := h
  have nd := sc_land_from.nd
  refine ⟨_, (pss_cons (ps_set (i := 2) nd rfl (Or.inl rfl) (pe_lst (pa_cons (pv 1) pa_nil)))
    (pss_cons (ps_set (i := 3) nd rfl (Or.inl rfl) (pe_call G_behind (hr.mono (by decide)) rfl T.m_behind T.k_behind T.b_behind .nil pass0 (pa_cons (pv 0) (pa_cons (pv 1) pa_nil))))
    (pss_cons (ps_while PassesOwn.never (pt_cmpR op_ne (pv 3) (pv 1) (nomark _)) (pss_cons (ps_expr (pe_bm PySem.F.plainAttrs_list PySem.F.slot_list_append PySem.F.type_list_append mt_append (pv 2) (pa_cons (pv 3) pa_nil)))
    (pss_one (ps_set (i := 3) nd rfl (Or.inl rfl) (pe_call G_behind (hr.mono (by decide)) rfl T.m_behind T.k_behind T.b_behind .nil pass0 (pa_cons (pv 0) (pa_cons (pv 3) pa_nil)))))))
    (pss_one (ps_ret (pv 2)))))), ?_⟩
  have m := g.maps
  obtain ⟨rd, rdN⟩ := MM.per_round m he
  refine ⟨_, rfl, (by show 1 ≤ sizeLine; decide), fun la hla => ?_⟩
  have g1 := same_new hla (.lst [vn e])
  refine ⟨_, rfl, _, rfl, wa, n, ts, os, e, rfl, g1.web hw, g, he, ?_⟩
  generalize hf : MM.behind ts os = f at m rd rdN q
  refine ⟨fun k σ H4 => ∃ j, k = MM.per f e - j ∧ 0 < j ∧ j ≤ MM.per f e ∧ σ = [some (.ref wa), some (vn e), some (.ref la), some (vn (MM.iter f j e))] ∧ H4 = upd H la (.lst (vns (MM.path f e j))), ⟨_, 1, rfl, Nat.one_pos, rd.1, rfl, rfl⟩, ?_⟩
  rintro k σ H4 ⟨j, rfl, hj0, hj, rfl, rfl⟩
  refine ⟨_, rfl, _, rfl, rfl, _, rfl, ?_⟩
  by_cases hc : MM.iter f j e = e
  · refine iteFb (by rw [hc]; simp) ?_
    have ej : j = MM.per f e := by
      rcases Nat.lt_or_ge j (MM.per f e) with z | z
      · exact absurd hc (rd.2.2 j hj0 z)
      · omega
    subst ej
    exact ⟨_, rfl, q la hla⟩
  · refine iteTb (by simp; omega) ?_
    have hjp := MM.round_more rd hj0 hj hc
    refine ⟨_, fun σ' H' h => h, ?_⟩
    refine ⟨_, rfl, .inl ⟨rfl, _, SqL.of upd_same⟩, _, rfl, la, _, _, rfl, rfl, upd_same, ?_, ?_⟩
    · rw [List.length_map, MM.path_len]; exact Nat.lt_of_le_of_lt (by omega : j ≤ 1000) (by decide)
    have e7 : vns (MM.path f e j) ++ [vn (MM.iter f j e)] = vns (MM.path f e (j + 1)) := by rw [MM.path_succ, vns_app]; rfl
    rw [e7, upd_upd]
    refine ⟨_, rfl, _, rfl, wa, n, ts, os, MM.iter f j e, rfl, (same_new hla _).web hw, g, MM.iter_lt m he j, ?_⟩
    rw [hf]
    exact ⟨MM.per f e - (j + 1), by omega, j + 1, rfl, by omega, by omega, rfl, rfl⟩
end K22

namespace MM
theorem filter_head {p : Nat → Bool} {N i : Nat} (hi : i < N) (h0 : ∀ j, j < i → p j = false) (h1 : p i = true) : ∃ r, (List.range N).filter p = i :: r := by
  have e : N = (i + 1) + (N - (i + 1)) := by omega
  rw [e, List.range_add, List.range_succ, List.filter_append, List.filter_append]
  have e1 : (List.range i).filter p = [] := by
    rw [List.filter_eq_nil_iff]
    intro a ha
    rw [h0 a (List.mem_range.mp ha)]
    exact Bool.false_ne_true
  rw [e1, List.nil_append, List.filter_cons, if_pos h1]
  exact ⟨_, rfl⟩
end MM
namespace K22
open PySem L2 PyProof.Rows
variable {P : Program} {w : World} {K : PySem.W.Frag} {mg : Str → Option Value} {base : Heap} {t : Adr}
def spLands : Sp := fun vs H Q _ => ∃ (wa : Addr) (n : Nat) (ts : MM.Ties) (os : MM.Ords), vs = [.ref wa] ∧ WebAt H wa n ts os ∧ MM.Good ts os ∧ ts.length ≤ 500 ∧
  ∀ (r : Addr) (rr : List Addr) (H' : Hp), Same H H' → NewOs H H' r rr (MM.landsOf (MM.behind ts os) (2 * ts.length)) → Q (.ref r) H'
theorem ok_lands (T : Txt K mg t) : FnOk P w K mg base CX0 5 t.a_lands t.d_lands ["web"] spLands := by
  have G_land_from := ok_landfrom (P := P) (w := w) (base := base) T
  refine T.F_lands.ok sc_lands (fun vs H Q E h => ?_) (fun cdv A outer s H vs Q E hr h => ?_)
  · obtain ⟨wa, n, ts, os, rfl, _⟩ := h; rfl
  obtain ⟨wa, n, ts, os, rfl, hw, g, h500, q⟩ := h
  have nd := sc_lands.nd
  have nd_end : (["end"] : List Str).Nodup := by decide
  refine ⟨_, (pss_cons (ps_set (i := 1) nd rfl (Or.inl rfl) (pe_lst pa_nil))
    (pss_cons (ps_setComp (i := 2) nd rfl (Or.inl rfl)  (N' := ["end"]) (js := [none]) rfl (pi_range1 rfl T.z_range (pa_cons (pe_op op_mul pe_int (pe_callB call_len_seq rfl T.z_len PySem.boot_len (pa_cons (pe_ix ix_tup (pv 0) pe_int (fun _ _ => rfl)) pa_nil))) pa_nil)) (fun _ _ _ _ _ => (pg_name (i := 0) nd_end rfl (Or.inl rfl))) (fun _ _ _ _ _ => pf_nil) (fun _ _ _ _ _ => pe_bl))
    (pss_cons (ps_for PassesOwn.never rfl (pi_range1 rfl T.z_range (pa_cons (pe_op op_mul pe_int (pe_callB call_len_seq rfl T.z_len PySem.boot_len (pa_cons (pe_ix ix_tup (pv 0) pe_int (fun _ _ => rfl)) pa_nil))) pa_nil)) (pg_name (i := 3) nd rfl (Or.inl rfl)) (pss_one (ps_if (pt_not (pt_truth (pe_ix ix_list (pv 2) (pv 3) (fun _ _ => rfl)) (fun _ => rfl))) (pss_cons (ps_set (i := 4) nd rfl (Or.inl rfl) (pe_call G_land_from (hr.mono (by decide)) rfl T.m_land_from T.k_land_from T.b_land_from .nil pass0 (pa_cons (pv 0) (pa_cons (pv 3) pa_nil))))
    (pss_cons (ps_for PassesOwn.never rfl (pi_list (pv 4)) (pg_name (i := 5) nd rfl (Or.inl rfl)) (pss_one (ps_asg pe_bl (pg_sub (pv 2) (pv 5) set_list))))
    (pss_one (ps_expr (pe_bm PySem.F.plainAttrs_list PySem.F.slot_list_append PySem.F.type_list_append mt_append (pv 1) (pa_cons (pv 4) pa_nil)))))) pss_nil)))
    (pss_one (ps_ret (pv 1)))))), ?_⟩
  have m := g.maps
  obtain ⟨tA, oA, hw1, ht, ho⟩ := id hw
  obtain ⟨tr, tr1, tr2, tr3⟩ := id ht
  have eN : (2 : Int) * ((tr.map V.ref).length : Nat) = ((2 * ts.length : Nat) : Int) := by rw [List.length_map, tr2]; push_cast; rfl
  -- told
  refine ⟨(by show 0 ≤ sizeLine; decide), fun D1 hD1 => ?_⟩
  have g1 := same_new hD1 (.lst [])
  -- seen
  refine ⟨_, rfl, wa, _, _, .ref tA, rfl, rfl, SqT.of (g1 _ _ hw1), rfl, tA, _, rfl, .inl (SqL.of (g1 _ _ tr1)), _, _, rfl, rfl, .inl ⟨by decide, by decide⟩, _, rfl, ?_, ?_, fun D2 hD2 => ?_⟩
  · show -(2 ^ 62) ≤ (2 : Int) * ((tr.map V.ref).length : Nat); omega
  · show (2 : Int) * ((tr.map V.ref).length : Nat) < 2 ^ 62; rw [eN]; omega
  have eN2 : ((2 : Int) * ((tr.map V.ref).length : Nat)).toNat = 2 * ts.length := by rw [eN]; exact Int.toNat_natCast _
  generalize hf : MM.behind ts os = f at m q
  generalize hN : 2 * ts.length = N at m q eN eN2
  refine comp_map N (fun i ys H' => ys = (List.replicate i false).map V.bl ∧ H' = upd (upd H D1 (.lst [])) D2 (.lst ys)) ⟨rfl, rfl⟩ ?_ ?_
  · rintro i ys H' hi ⟨rfl, rfl⟩
    refine ⟨(by show i < ((2 : Int) * ((tr.map V.ref).length : Nat)).toNat; omega), ?_⟩
    rintro x H'' ⟨rfl, rfl⟩
    refine ⟨(Fills.refl _).set _ rfl, upd_same, ?_, ?_, ?_⟩
    · rw [List.length_map, List.length_replicate]; exact Nat.lt_of_lt_of_le hi (Nat.le_trans (by omega : N ≤ 1000) (by decide))
    · rw [List.replicate_succ', List.map_append]; rfl
    · rw [upd_upd]
  rintro ys H2 ⟨rfl, rfl⟩
  refine ⟨(by show ((2 : Int) * ((tr.map V.ref).length : Nat)).toNat ≤ N; omega), ?_⟩
  have g2' := same_new hD2 (.lst ((List.replicate N false).map V.bl))
  have g2 := g1.trans g2'
  have nD : D1 ≠ D2 := ne_of_none upd_same hD2
  have n0 : NewOs H (upd (upd H D1 (.lst [])) D2 (.lst ((List.replicate N false).map V.bl))) D1 [] [] := ⟨g2' _ _ upd_same, rfl, fun i l h => by simp at h, List.nodup_nil, by simp, hD1, fun x hx => by cases hx⟩
  have e0 : (upd (upd H D1 (.lst [])) D2 (.lst ((List.replicate N false).map V.bl))) D2 = some (.lst ((List.replicate N false).map V.bl)) := upd_same
  have hD2H : H D2 = none := g1.free hD2
  generalize upd (upd H D1 (.lst [])) D2 (.lst ((List.replicate N false).map V.bl)) = H2 at g2 n0 e0
  clear g2' hD2 g1
  -- the loop
  refine ⟨_, rfl, wa, _, _, .ref tA, rfl, rfl, SqT.of (g2 _ _ hw1), rfl, tA, _, rfl, .inl (SqL.of (g2 _ _ tr1)), _, _, rfl, rfl, .inl ⟨by decide, by decide⟩, _, rfl, ?_, ?_, ?_⟩
  · show -(2 ^ 62) ≤ (2 : Int) * ((tr.map V.ref).length : Nat); omega
  · show (2 : Int) * ((tr.map V.ref).length : Nat) < 2 ^ 62; rw [eN]; omega
  refine for_range (lo := 0) (n := ((2 : Int) * ((tr.map V.ref).length : Nat)).toNat) (fun i σ H' => ∃ (rr : List Addr) (done : MM.Ords) (sn : List Bool) (o3 o4 o5 : Option V), σ = [some (.ref wa), some (.ref D1), some (.ref D2), o3, o4, o5] ∧ Same H H' ∧ NewOs H H' D1 rr done ∧ D2 ∉ rr ∧
      H' D2 = some (.lst (sn.map V.bl)) ∧ sn.length = N ∧ done ++ MM.lf f ((List.range N).filter fun x => !sn.getD x false) = MM.landsOf f N ∧ ∀ j, j < i → sn.getD j false = true)
    ⟨[], [], List.replicate N false, none, none, none, rfl, g2, n0, by simp, e0, by simp, ?_, fun j hj => absurd hj (Nat.not_lt_zero _)⟩ ?_ ?_
  · have e : (List.range N).filter (fun x => !(List.replicate N false).getD x false) = List.range N := by
      rw [List.filter_eq_self]
      intro a ha
      have := List.mem_range.mp ha
      simp [List.getD_eq_getElem?_getD, List.getElem?_replicate, this]
    rw [e]
    rfl
  · rintro i σ H3 hi ⟨rr, done, sn, o3, o4, o5, rfl, g3, n3, dr, es, sl, eq, hs⟩
    rw [eN2] at hi
    have hi0 : (0 : Int) + (i : Int) = (i : Int) := Int.zero_add _
    rw [hi0]
    have hat : atI (sn.map V.bl) (i : Int) = some (.bl (sn.getD i false)) := atI_nat (by rw [List.getElem?_map, List.getD_eq_getElem?_getD, List.getElem?_eq_getElem (show i < sn.length by omega)]; rfl)
    refine ⟨_, rfl, _, rfl, D2, _, _, _, rfl, rfl, SqL.of es, hat, _, rfl, ?_⟩
    cases hb : sn.getD i false with
    | true =>
      refine iteFb rfl ?_
      refine ⟨rr, done, sn, _, _, _, rfl, g3, n3, dr, es, sl, eq, fun j hj => ?_⟩
      rcases Nat.lt_or_ge j i with z | z
      · exact hs j z
      · have : j = i := by omega
        subst this
        exact hb
    | false =>
      refine iteTb rfl ?_
      refine ⟨_, rfl, _, rfl, wa, n, ts, os, i, rfl, g3.web hw, g, h500, by omega, fun la hla => ?_⟩
      rw [hf]
      have gl := same_new hla (.lst (vns (MM.landOf f i)))
      have lanD1 : la ≠ D1 := (ne_of_none n3.at_ hla).symm
      have lanD2 : la ≠ D2 := (ne_of_none es hla).symm
      have lar : la ∉ rr := fun z => by obtain ⟨l, hl⟩ := n3.ex z; rw [hla] at hl; cases hl
      have hll := MM.land_lt m hi
      have lan := MM.land_nodup m hi
      have lal := (MM.land_len m hi).2
      have selfl := MM.self_land m hi
      refine ⟨_, rfl, la, rfl, ⟨_, SqL.of upd_same⟩, for_list (xs := vns (MM.landOf f i)) (fun j σ H' => ∃ (sn' : List Bool) (o5 : Option V), σ = [some (.ref wa), some (.ref D1), some (.ref D2), some (vn i), some (.ref la), o5] ∧ H' = upd (upd H3 la (.lst (vns (MM.landOf f i)))) D2 (.lst (sn'.map V.bl)) ∧ sn'.length = N ∧
          ∀ x, sn'.getD x false = (sn.getD x false || decide (x ∈ (MM.landOf f i).take j)))
        ⟨sn, _, rfl, ?_, sl, fun x => by simp⟩ (fun j σ H' _ h => by obtain ⟨sn', o, _, rfl, _⟩ := h; exact SqL.of (by rw [upd_ne lanD2]; exact upd_same)) ?_ ?_⟩
      · funext b
        by_cases hb' : b = D2
        · subst hb'; rw [upd_same]; exact gl _ _ es
        · rw [upd_ne hb']
      · rintro j x σ H' hx ⟨sn', o, rfl, rfl, sl', hsn⟩
        obtain ⟨hj, ej⟩ := List.getElem?_eq_some_iff.mp hx
        rw [List.length_map] at hj
        have ex : x = vn (MM.landOf f i)[j] := by rw [← ej]; simp
        subst ex
        have hxN := hll _ (List.getElem_mem hj)
        refine ⟨_, rfl, _, rfl, D2, _, _, (MM.landOf f i)[j], rfl, rfl, upd_same, ixN_nat (by rw [List.length_map]; omega), sn'.set (MM.landOf f i)[j] true, _, rfl, ?_, by rw [List.length_set]; exact sl', fun y => ?_⟩
        · rw [upd_upd, List.map_set]
        · have hmem : y ∈ (MM.landOf f i).take (j + 1) ↔ y ∈ (MM.landOf f i).take j ∨ y = (MM.landOf f i)[j] := by
            rw [List.take_add_one, List.getElem?_eq_getElem hj, List.mem_append]; simp
          by_cases hy : (MM.landOf f i)[j] = y
          · subst hy
            rw [MM.getD_set_same (by omega)]
            simp [hmem]
          · rw [MM.getD_set_ne hy, hsn y]
            have : (y ∈ (MM.landOf f i).take (j + 1)) = (y ∈ (MM.landOf f i).take j) := by
              rw [eq_iff_iff, hmem]
              constructor
              · rintro (z | z)
                · exact z
                · exact absurd z.symm hy
              · exact .inl
            simp only [this]
      · rintro σ H' ⟨sn', o, rfl, rfl, sl', hsn⟩
        rw [List.length_map, List.take_length] at hsn
        have n4 : NewOs H (upd (upd H3 la (.lst (vns (MM.landOf f i)))) D2 (.lst (sn'.map V.bl))) D1 rr done := n3.keep fun b u hb h => by
          rw [upd_ne (show b ≠ D2 by rcases hb with rfl | hb; exact nD; rintro rfl; exact dr hb)]
          exact gl _ _ h
        have g4 : Same H (upd (upd H3 la (.lst (vns (MM.landOf f i)))) D2 (.lst (sn'.map V.bl))) := fun b u h => by rw [upd_ne (ne_of_none h hD2H)]; exact gl _ _ (g3 _ _ h)
        have la4 : (upd (upd H3 la (.lst (vns (MM.landOf f i)))) D2 (.lst (sn'.map V.bl))) la = some (.lst (vns (MM.landOf f i))) := by rw [upd_ne lanD2]; exact upd_same
        have es4 : (upd (upd H3 la (.lst (vns (MM.landOf f i)))) D2 (.lst (sn'.map V.bl))) D2 = some (.lst (sn'.map V.bl)) := upd_same
        generalize upd (upd H3 la (.lst (vns (MM.landOf f i)))) D2 (.lst (sn'.map V.bl)) = H4 at n4 g4 la4 es4
        have hdl : done.length ≤ N := by
          have h1 := MM.lf_len m _ (List.range N) (Nat.le_refl _) (fun x hx => List.mem_range.mp hx)
          have h2 := congrArg List.length eq
          rw [List.length_append] at h2
          unfold MM.landsOf at h2
          rw [List.length_range] at h1
          omega
        refine ⟨_, rfl, .inl ⟨rfl, _, SqL.of n4.at_⟩, _, rfl, D1, _, _, rfl, rfl, n4.at_, ?_, ?_⟩
        · rw [List.length_map, n4.len]; exact Nat.lt_of_le_of_lt (by omega : done.length ≤ 1000) (by decide)
        have n5 := n4.push (x := la) (l := MM.landOf f i) (H2 := upd H4 D1 (.lst (rr.map V.ref ++ [.ref la]))) (g3.free hla) lar lanD1 (by rw [upd_same, List.map_append]; rfl) (by rw [upd_ne lanD1]; exact la4) fun b u hb h => by rw [upd_ne (show b ≠ D1 from fun z => n4.nin (z ▸ hb))]; exact h
        refine ⟨rr ++ [la], done ++ [MM.landOf f i], sn', _, _, _, rfl, ?_, n5, ?_, ?_, sl', ?_, fun j hj => ?_⟩
        · exact fun b u h => by rw [upd_ne (ne_of_none h hD1)]; exact g4 _ _ h
        · intro z
          rcases List.mem_append.mp z with z | z
          · exact dr z
          · have : D2 = la := by simpa using z
            exact lanD2 this.symm
        · rw [upd_ne (Ne.symm nD)]; exact es4
        · obtain ⟨r, hr'⟩ := MM.filter_head (p := fun x => !sn.getD x false) hi (fun j hj => by rw [hs j hj]; rfl) (by rw [hb]; rfl)
          have e2 : (List.range N).filter (fun x => !sn'.getD x false) = (i :: r).filter fun x => decide (x ∉ MM.landOf f i) := by
            rw [← hr', List.filter_filter]
            refine List.filter_congr fun x _ => ?_
            rw [hsn x]
            by_cases z : x ∈ MM.landOf f i <;> simp [z]
          rw [hr', MM.lf_cons m (fun x hx => by rw [← hr'] at hx; exact List.mem_range.mp (List.mem_filter.mp hx).1)] at eq
          rw [List.append_assoc, e2]
          exact eq
        · rw [hsn j]
          rcases Nat.lt_or_ge j i with z | z
          · rw [hs j z]; rfl
          · have : j = i := by omega
            subst this
            simp [selfl]
  · rintro σ H3 ⟨rr, done, sn, o3, o4, o5, rfl, g3, n3, dr, es, sl, eq, hs⟩
    rw [eN2] at hs
    have e : (List.range N).filter (fun x => !sn.getD x false) = [] := by
      rw [List.filter_eq_nil_iff]
      intro a ha
      rw [hs a (List.mem_range.mp ha)]
      exact Bool.false_ne_true
    rw [e, MM.lf_nil, List.append_nil] at eq
    exact ⟨_, rfl, q D1 rr H3 g3 (eq ▸ n3)⟩
end K22

namespace MM
theorem landsOf_one {f : Nat → Nat} {N : Nat} (m : Maps f N) {x : Nat} (hx : x < N) : ∃ (k : Nat) (d : List Nat), (landsOf f N)[k]? = some d ∧ x ∈ d ∧ ∀ (j : Nat) (d' : List Nat), (landsOf f N)[j]? = some d' → x ∈ d' → j = k :=
  lf_one m _ _ (Nat.le_refl _) (fun y hy => List.mem_range.mp hy) x (List.mem_range.mpr hx)
end MM
namespace K22
open PySem L2 PyProof.Rows
variable {P : Program} {w : World} {K : PySem.W.Frag} {mg : Str → Option Value} {base : Heap} {t : Adr}
def spNumbers : Sp := fun vs H Q _ => ∃ (wa : Addr) (n : Nat) (ts : MM.Ties) (os : MM.Ords), vs = [.ref wa] ∧ WebAt H wa n ts os ∧ MM.Good ts os ∧ ts.length ≤ 500 ∧
  ∀ (r : Addr) (nm : List Nat) (H' : Hp), Same H H' → H r = none → H' r = some (.lst (vns nm)) → nm.length = 2 * ts.length → (∀ (k : Nat) (d : List Nat) (x : Nat), (MM.landsOf (MM.behind ts os) (2 * ts.length))[k]? = some d → x ∈ d → nm.getD x 0 = k) → Q (.ref r) H'
theorem ok_numbers (T : Txt K mg t) : FnOk P w K mg base CX0 6 t.a_land_numbers t.d_land_numbers ["web"] spNumbers := by
  have G_lands := ok_lands (P := P) (w := w) (base := base) T
  refine T.F_land_numbers.ok sc_land_numbers (fun vs H Q E h => ?_) (fun cdv A outer s H vs Q E hr h => ?_)
  · obtain ⟨wa, n, ts, os, rfl, _⟩ := h; rfl
  obtain ⟨wa, n, ts, os, rfl, hw, g, h500, q⟩ := h
  have nd := sc_land_numbers.nd
  have nd_end : (["end"] : List Str).Nodup := by decide
  refine ⟨_, (pss_cons (ps_setComp (i := 1) nd rfl (Or.inl rfl)  (N' := ["end"]) (js := [none]) rfl (pi_range1 rfl T.z_range (pa_cons (pe_op op_mul pe_int (pe_callB call_len_seq rfl T.z_len PySem.boot_len (pa_cons (pe_ix ix_tup (pv 0) pe_int (fun _ _ => rfl)) pa_nil))) pa_nil)) (fun _ _ _ _ _ => (pg_name (i := 0) nd_end rfl (Or.inl rfl))) (fun _ _ _ _ _ => pf_nil) (fun _ _ _ _ _ => pe_int))
    (pss_cons (ps_for PassesOwn.never rfl (pi_enum rfl T.z_enumerate (pa_cons (pe_call G_lands (hr.mono (by decide)) rfl T.m_lands T.k_lands T.b_lands .nil pass0 (pa_cons (pv 0) pa_nil)) pa_nil)) (pg_tup rfl (pgs_cons (pg_name (i := 2) nd rfl (Or.inl rfl)) (pgs_cons (pg_name (i := 3) nd rfl (Or.inl rfl)) pgs_nil))) (pss_one (ps_for PassesOwn.never rfl (pi_list (pv 3)) (pg_name (i := 4) nd rfl (Or.inl rfl)) (pss_one (ps_asg (pv 2) (pg_sub (pv 1) (pv 4) set_list))))))
    (pss_one (ps_ret (pv 1))))), ?_⟩
  have m := g.maps
  obtain ⟨tA, oA, hw1, ht, ho⟩ := id hw
  obtain ⟨tr, tr1, tr2, tr3⟩ := id ht
  have eN : (2 : Int) * ((tr.map V.ref).length : Nat) = ((2 * ts.length : Nat) : Int) := by rw [List.length_map, tr2]; push_cast; rfl
  refine ⟨_, rfl, wa, _, _, .ref tA, rfl, rfl, SqT.of hw1, rfl, tA, _, rfl, .inl (SqL.of tr1), _, _, rfl, rfl, .inl ⟨by decide, by decide⟩, _, rfl, ?_, ?_, fun D hD => ?_⟩
  · show -(2 ^ 62) ≤ (2 : Int) * ((tr.map V.ref).length : Nat); omega
  · show (2 : Int) * ((tr.map V.ref).length : Nat) < 2 ^ 62; rw [eN]; omega
  have eN2 : ((2 : Int) * ((tr.map V.ref).length : Nat)).toNat = 2 * ts.length := by rw [eN]; exact Int.toNat_natCast _
  generalize hf : MM.behind ts os = f at m q
  generalize hN : 2 * ts.length = N at m q eN eN2
  refine comp_map N (fun i ys H' => ys = vns (List.replicate i 0) ∧ H' = upd H D (.lst ys)) ⟨rfl, rfl⟩ ?_ ?_
  · rintro i ys H' hi ⟨rfl, rfl⟩
    refine ⟨(by show i < ((2 : Int) * ((tr.map V.ref).length : Nat)).toNat; omega), ?_⟩
    rintro x H'' ⟨rfl, rfl⟩
    refine ⟨(Fills.refl _).set _ rfl, upd_same, ?_, ?_, ?_⟩
    · rw [List.length_map, List.length_replicate]; exact Nat.lt_of_lt_of_le hi (Nat.le_trans (by omega : N ≤ 1000) (by decide))
    · rw [List.replicate_succ', vns_app]; rfl
    · rw [upd_upd]
  rintro ys H2 ⟨rfl, rfl⟩
  refine ⟨(by show ((2 : Int) * ((tr.map V.ref).length : Nat)).toNat ≤ N; omega), ?_⟩
  have g2 := same_new hD (.lst (vns (List.replicate N 0)))
  have e2 : (upd H D (.lst (vns (List.replicate N 0)))) D = some (.lst (vns (List.replicate N 0))) := upd_same
  generalize upd H D (.lst (vns (List.replicate N 0))) = H2 at g2 e2
  refine ⟨_, rfl, wa, n, ts, os, rfl, g2.web hw, g, h500, fun r rr H3 g3 n3 => ⟨r, rfl, ⟨_, SqL.of n3.at_⟩, ?_⟩⟩
  rw [hf, hN] at n3
  have rl : (rr.map V.ref).length = (MM.landsOf f N).length := by rw [List.length_map]; exact n3.len
  have rD : r ≠ D := fun z => by have := n3.new; rw [z, e2] at this; cases this
  have rrD : D ∉ rr := fun z => by have := n3.news D z; rw [e2] at this; cases this
  have hlk : ∀ i, i < (MM.landsOf f N).length → ∃ d x, (MM.landsOf f N)[i]? = some d ∧ rr[i]? = some x ∧ H3 x = some (.lst (vns d)) ∧ (∀ y ∈ d, y < N) := fun i hi => by
    obtain ⟨x, h1, h2⟩ := n3.row i _ (List.getElem?_eq_getElem hi)
    exact ⟨_, x, List.getElem?_eq_getElem hi, h1, h2, (MM.landsOf_mem m (List.getElem_mem hi)).2⟩
  refine for_enum (xs := rr.map V.ref) (fun i σ H' => ∃ (nm : List Nat) (o2 o3 o4 : Option V), σ = [some (.ref wa), some (.ref D), o2, o3, o4] ∧ (∀ b u, b ≠ D → H3 b = some u → H' b = some u) ∧ H' D = some (.lst (vns nm)) ∧ nm.length = N ∧
      ∀ (k : Nat) (d : List Nat) (x : Nat), k < i → (MM.landsOf f N)[k]? = some d → x ∈ d → nm.getD x 0 = k)
    ⟨_, none, none, none, rfl, fun b u _ h => h, g3 _ _ e2, by simp, fun k d x hk => absurd hk (Nat.not_lt_zero _)⟩ (fun i σ H' _ h => by obtain ⟨nm, o2, o3, o4, _, h1, _⟩ := h; exact SqL.of (h1 _ _ rD n3.at_)) ?_ ?_
  · rintro i x σ H4 Tt hx ⟨nm, o2, o3, o4, rfl, b4, e4, l4, hk4⟩ hTt
    have hi : i < (MM.landsOf f N).length := by have := (List.getElem?_eq_some_iff.mp hx).1; omega
    obtain ⟨d, xa, hd1, hx1, hx2, hdl⟩ := hlk i hi
    have ex : x = .ref xa := by rw [List.getElem?_map, hx1] at hx; cases hx; rfl
    subst ex
    have gT := same_new hTt (.tup [vn i, .ref xa])
    have xaD : xa ≠ D := fun z => rrD (z ▸ List.mem_of_getElem? hx1)
    refine ⟨Tt, _, rfl, SqT.of upd_same, rfl, _, _, rfl, _, _, rfl, rfl, ?_⟩
    have b5 : ∀ b u, b ≠ D → H3 b = some u → (upd H4 Tt (.tup [vn i, .ref xa])) b = some u := fun b u hb h => gT _ _ (b4 b u hb h)
    have e5 := gT _ _ e4
    generalize upd H4 Tt (.tup [vn i, .ref xa]) = H5 at b5 e5
    refine ⟨_, rfl, xa, rfl, ⟨_, SqL.of (b5 _ _ xaD hx2)⟩, for_list (xs := vns d) (fun j σ H' => ∃ (nm' : List Nat) (o4 : Option V), σ = [some (.ref wa), some (.ref D), some (vn i), some (.ref xa), o4] ∧ H' = upd H5 D (.lst (vns nm')) ∧ nm'.length = N ∧ ∀ y, nm'.getD y 0 = if y ∈ d.take j then i else nm.getD y 0)
      ⟨nm, _, rfl, ?_, l4, fun y => by simp⟩ (fun j σ H' _ h => by obtain ⟨nm', o, _, rfl, _⟩ := h; exact SqL.of (by rw [upd_ne xaD]; exact b5 _ _ xaD hx2)) ?_ ?_⟩
    · funext b
      by_cases hb' : b = D
      · subst hb'; rw [upd_same]; exact e5
      · rw [upd_ne hb']
    · rintro j y σ H' hy ⟨nm', o, rfl, rfl, l', hnm⟩
      obtain ⟨hj, ej⟩ := List.getElem?_eq_some_iff.mp hy
      rw [List.length_map] at hj
      have ex : y = vn d[j] := by rw [← ej]; simp
      subst ex
      have hyN := hdl _ (List.getElem_mem hj)
      refine ⟨_, rfl, _, rfl, _, rfl, D, _, _, d[j], rfl, rfl, upd_same, ixN_nat (by rw [List.length_map]; omega), nm'.set d[j] i, _, rfl, ?_, by rw [List.length_set]; exact l', fun z => ?_⟩
      · rw [upd_upd]; unfold vns; rw [List.map_set]
      · have hmem : z ∈ d.take (j + 1) ↔ z ∈ d.take j ∨ z = d[j] := by rw [List.take_add_one, List.getElem?_eq_getElem hj, List.mem_append]; simp
        by_cases hz : d[j] = z
        · subst hz
          rw [MM.getD_set_same (by omega), if_pos (hmem.mpr (.inr rfl))]
        · rw [MM.getD_set_ne hz, hnm z]
          by_cases hz2 : z ∈ d.take j
          · rw [if_pos hz2, if_pos (hmem.mpr (.inl hz2))]
          · rw [if_neg hz2, if_neg (fun c => (hmem.mp c).elim hz2 fun c => hz c.symm)]
    · rintro σ H' ⟨nm', o, rfl, rfl, l', hnm⟩
      rw [List.length_map, List.take_length] at hnm
      refine ⟨nm', _, _, _, rfl, fun b u hb h => by rw [upd_ne hb]; exact b5 b u hb h, upd_same, l', fun k d' x hk hkd hx => ?_⟩
      rw [hnm x]
      rcases Nat.lt_or_ge k i with z | z
      · have hxd : x ∉ d := fun c => by
          obtain ⟨k0, d0, h1, h2, h3⟩ := MM.landsOf_one m (hdl x c)
          have := h3 k d' hkd hx
          have := h3 i d hd1 c
          omega
        rw [if_neg hxd]
        exact hk4 k d' x z hkd hx
      · have : k = i := by omega
        subst this
        rw [hd1] at hkd
        cases hkd
        rw [if_pos hx]
  · rintro σ H4 ⟨nm, o2, o3, o4, rfl, b4, e4, l4, hk4⟩
    rw [rl] at hk4
    refine ⟨_, rfl, q D nm H4 (fun b u h => b4 b u (ne_of_none h hD) (g3 _ _ (g2 _ _ h))) hD e4 l4 fun k d x hkd hx => hk4 k d x ?_ hkd hx⟩
    exact (List.getElem?_eq_some_iff.mp hkd).1
end K22

namespace L2
open PySem PyProof.Rows
def dT (ts : MM.Ties) : List PyData := ts.map fun t => .tuple [.int (t.1 : Int), .int (t.2 : Int)]
def dN (l : List Nat) : List PyData := l.map fun n : Nat => PyData.int (n : Int)
def dO (os : MM.Ords) : List PyData := os.map fun l => .list (dN l)
theorem bds_by {K : PySem.W.Frag} {H : Hp} : ∀ (xs : List V) (ds : List PyData), xs.length = ds.length → (∀ (i : Nat) x d, xs[i]? = some x → ds[i]? = some d → Bd K H x d) → Bds K H xs ds
  | [], [], _, _ => .nil
  | [], _ :: _, h, _ => by cases h
  | _ :: _, [], h, _ => by cases h
  | x :: xs, d :: ds, h, f => .cons (f 0 x d rfl rfl) (bds_by xs ds (by simpa using h) fun i x' d' h1 h2 => f (i + 1) x' d' h1 h2)
theorem bd_ties {K : PySem.W.Frag} {H : Hp} {a : Addr} {ts : MM.Ties} (h : TsAt H a ts) : Bd K H (.ref a) (.list (dT ts)) := by
  obtain ⟨tr, h1, h2, h3⟩ := h
  refine .lst (SqL.of h1) (bds_by _ _ (by unfold dT; rw [List.length_map, List.length_map, h2]) fun i x d hx hd => ?_)
  unfold dT at hd
  rw [List.getElem?_map] at hx hd
  cases ht : ts[i]? with
  | none => rw [ht] at hd; cases hd
  | some u =>
    rw [ht] at hd
    cases hd
    obtain ⟨r, q1, q2⟩ := h3 i u ht
    rw [q1] at hx
    cases hx
    exact .tup (SqT.of q2) (.cons (.int _) (.cons (.int _) .nil))
theorem bd_ords {K : PySem.W.Frag} {H : Hp} {a : Addr} {os : MM.Ords} (h : OsAt H a os) : Bd K H (.ref a) (.list (dO os)) := by
  obtain ⟨tr, h1, h2, h3⟩ := h
  refine .lst (SqL.of h1) (bds_by _ _ (by unfold dO; rw [List.length_map, List.length_map, h2]) fun i x d hx hd => ?_)
  unfold dO at hd
  rw [List.getElem?_map] at hx hd
  cases ht : os[i]? with
  | none => rw [ht] at hd; cases hd
  | some u =>
    rw [ht] at hd
    cases hd
    obtain ⟨r, q1, q2⟩ := h3 i u ht
    rw [q1] at hx
    cases hx
    exact .lst (SqL.of q2) (bds_vns u)
theorem dN_lay (l : List Nat) : PyData.canLayAll0 (dN l) = true ∧ PyData.depthAll (dN l) ≤ 2 := lay_all 2 fun d hd => by
  obtain ⟨n, _, rfl⟩ := List.mem_map.mp hd
  exact ⟨rfl, by simp [PyData.depth]⟩
theorem dT_lay (ts : MM.Ties) : PyData.canLayAll0 (dT ts) = true ∧ PyData.depthAll (dT ts) ≤ 3 := lay_all 3 fun d hd => by
  obtain ⟨n, _, rfl⟩ := List.mem_map.mp hd
  exact ⟨rfl, by simp [PyData.depth, PyData.depthAll]⟩
theorem dO_lay (os : MM.Ords) : PyData.canLayAll0 (dO os) = true ∧ PyData.depthAll (dO os) ≤ 3 := lay_all 3 fun d hd => by
  obtain ⟨n, _, rfl⟩ := List.mem_map.mp hd
  exact ⟨(dN_lay n).1, by rw [PyData.depth]; have := (dN_lay n).2; omega⟩
def dW (n : Nat) (ts : MM.Ties) (os : MM.Ords) : PyData := .tuple [.int (n : Int), .list (dT ts), .list (dO os)]
theorem bd_web {K : PySem.W.Frag} {H : Hp} {w : Addr} {n : Nat} {ts : MM.Ties} {os : MM.Ords} (h : WebAt H w n ts os) : Bd K H (.ref w) (dW n ts os) := by
  obtain ⟨tA, oA, h1, h2, h3⟩ := h
  exact .tup (SqT.of h1) (.cons (.int _) (.cons (bd_ties h2) (.cons (bd_ords h3) .nil)))
theorem web_shaped (n : Nat) (ts : MM.Ties) (os : MM.Ords) : SeqAt.shaped (dW n ts os) = true := by
  have h1 := dT_lay ts
  have h2 := dO_lay os
  have h : PyData.canLayAll0 [PyData.int (n : Int), .list (dT ts), .list (dO os)] = true ∧ PyData.depthAll [PyData.int (n : Int), .list (dT ts), .list (dO os)] ≤ 4 := lay_all 4 fun d hd => by
    simp only [List.mem_cons, List.not_mem_nil, or_false] at hd
    rcases hd with rfl | rfl | rfl
    · exact ⟨rfl, by simp [PyData.depth]⟩
    · exact ⟨h1.1, by rw [PyData.depth]; omega⟩
    · exact ⟨h2.1, by rw [PyData.depth]; omega⟩
  unfold SeqAt.shaped
  rw [Bool.and_eq_true]
  refine ⟨h.1, decide_eq_true ?_⟩
  unfold dW
  rw [PyData.depth]
  omega
theorem web_eqv (n : Nat) (ts : MM.Ties) (os : MM.Ords) : PyData.eqv (dW n ts os) (dW n ts os) = true := SeqAt.eqv_refl _ (SeqAt.canLay_of_shaped (web_shaped n ts os))
theorem at_refs {rr : List Addr} {i : Nat} {x : Addr} (h : rr[i]? = some x) : atI (rr.map V.ref) (i : Int) = some (.ref x) := atI_nat (by rw [List.getElem?_map, h]; rfl)
theorem NewOs.ex2 {H H' : Hp} {r : Addr} {rr : List Addr} {ls : MM.Ords} (n : NewOs H H' r rr ls) {x : Addr} (hx : x ∈ rr) : ∃ l ∈ ls, H' x = some (.lst (vns l)) := by
  obtain ⟨i, hi, rfl⟩ := List.mem_iff_getElem.mp hx
  have hi' : i < ls.length := by rw [← n.len]; exact hi
  obtain ⟨y, h1, h2⟩ := n.row i (ls[i]'hi') (List.getElem?_eq_getElem hi')
  rw [List.getElem?_eq_getElem hi] at h1
  cases h1
  exact ⟨_, List.getElem_mem hi', h2⟩
end L2
namespace MM
theorem good_pos {ts : Ties} {os : Ords} (g : Good ts os) : 0 < os.length := by
  have := (g.g.has 0 (by have := g.one; omega)).1
  omega
end MM

namespace NM
open L2 (at0)
structure Way where
  a : Nat
  b : Nat
  lo : Int
  hi : Option Int
  c : Int
def rt (ps : List Int) (w : Way) : Int := w.c - at0 ps w.a + at0 ps w.b
def mn (i j : Int) : Int := if j < i then j else i
/-- what the program takes for a way -/
def least (ps : List Int) (w : Way) : Option Int :=
  match w.hi with
  | some h => some (mn (w.lo * rt ps w) (h * rt ps w))
  | none => if rt ps w < 0 then none else some (w.lo * rt ps w)
/-- what is asked for a way -/
def due (ps : List Int) (w : Way) : Option Int :=
  if 0 < rt ps w then some (rt ps w * w.lo) else if rt ps w < 0 then (match w.hi with | some h => some (rt ps w * h) | none => none) else some 0
theorem least_due (ps : List Int) (w : Way) (hb : ∀ h, w.hi = some h → w.lo ≤ h) : least ps w = due ps w := by
  unfold least due
  generalize rt ps w = r
  rcases hw : w.hi with _ | h
  · dsimp only
    by_cases h1 : 0 < r
    · rw [if_pos h1, if_neg (by omega), Int.mul_comm]
    · by_cases h2 : r < 0
      · rw [if_neg h1, if_pos h2, if_pos h2]
      · have : r = 0 := by omega
        subst this
        simp
  · have hl := hb h hw
    dsimp only
    by_cases h1 : 0 < r
    · rw [if_pos h1]
      have : w.lo * r ≤ h * r := Int.mul_le_mul_of_nonneg_right hl (by omega)
      unfold mn
      rw [if_neg (by omega), Int.mul_comm]
    · rw [if_neg h1]
      by_cases h2 : r < 0
      · rw [if_pos h2]
        have : h * r ≤ w.lo * r := Int.mul_le_mul_of_nonpos_right hl (by omega)
        unfold mn
        by_cases e : h * r < w.lo * r
        · rw [if_pos e, Int.mul_comm]
        · rw [if_neg e]
          have : w.lo * r = h * r := by omega
          rw [this, Int.mul_comm]
      · have : r = 0 := by omega
        subst this
        simp [mn]
def bnd (f : Way → Option Int) : List Way → Int → Option Int
  | [], t => some t
  | w :: ws, t => match f w with
    | none => none
    | some l => bnd f ws (t + l)
theorem bnd_congr {f g : Way → Option Int} : ∀ (ws : List Way) (t : Int), (∀ w ∈ ws, f w = g w) → bnd f ws t = bnd g ws t
  | [], _, _ => rfl
  | w :: ws, t, h => by
    unfold bnd
    rw [h w List.mem_cons_self]
    cases g w with
    | none => rfl
    | some l => exact bnd_congr ws _ fun x hx => h x (List.mem_cons_of_mem _ hx)
theorem bnd_none {f : Way → Option Int} {ws : List Way} {i : Nat} {t : Int} {w : Way} (h : ws[i]? = some w) (hf : f w = none) : bnd f (ws.drop i) t = none := by
  obtain ⟨hi, rfl⟩ := List.getElem?_eq_some_iff.mp h
  rw [List.drop_eq_getElem_cons hi]
  show (match f ws[i] with | none => none | some l => bnd f (ws.drop (i + 1)) (t + l)) = none
  rw [hf]
theorem bnd_some {f : Way → Option Int} {ws : List Way} {i : Nat} {t l : Int} {w : Way} (h : ws[i]? = some w) (hf : f w = some l) : bnd f (ws.drop i) t = bnd f (ws.drop (i + 1)) (t + l) := by
  obtain ⟨hi, rfl⟩ := List.getElem?_eq_some_iff.mp h
  rw [List.drop_eq_getElem_cons hi]
  show (match f ws[i] with | none => none | some l => bnd f (ws.drop (i + 1)) (t + l)) = _
  rw [hf]
/-! ### sums -/
def dot (ps l : List Int) (n : Nat) : Int := ((List.range n).map fun k => at0 ps k * at0 l k).sum
theorem dot_succ (ps l : List Int) (n : Nat) : dot ps l (n + 1) = dot ps l n + at0 ps n * at0 l n := by
  unfold dot; rw [List.range_succ, List.map_append, List.sum_append]; simp
theorem at0_set {l : List Int} {j k : Nat} {v : Int} (h : j < l.length) : at0 (l.set j v) k = if k = j then v else at0 l k := by
  unfold at0
  simp only [List.getD]
  by_cases e : k = j
  · subst e; rw [if_pos rfl, List.getElem?_set_self h]; rfl
  · rw [if_neg e, List.getElem?_set_ne (Ne.symm e)]
theorem dot_set (ps : List Int) {l : List Int} {j : Nat} {v : Int} (h : j < l.length) : ∀ n, dot ps (l.set j v) n = dot ps l n + (if j < n then at0 ps j * (v - at0 l j) else 0)
  | 0 => by simp [dot]
  | n + 1 => by
    rw [dot_succ, dot_succ, dot_set ps h n, at0_set h]
    by_cases e : n = j
    · subst e
      rw [if_neg (by omega), if_pos rfl, if_pos (by omega), Int.mul_sub]
      omega
    · rw [if_neg e]
      by_cases e2 : j < n
      · rw [if_pos e2, if_pos (by omega)]; omega
      · rw [if_neg e2, if_neg (by omega)]; omega
theorem sum_set {l : List Int} {j : Nat} {v : Int} (h : j < l.length) : (l.set j v).sum = l.sum - at0 l j + v := by
  induction l generalizing j with
  | nil => simp at h
  | cons x xs ih =>
    cases j with
    | zero => simp [at0]; omega
    | succ j =>
      have := ih (j := j) (by simpa using h)
      simp only [List.set_cons_succ, List.sum_cons, this]
      have e : at0 (x :: xs) (j + 1) = at0 xs j := by simp [at0, List.getD]
      rw [e]; omega
/-- one way's number taken off its knot, put to the other -/
def step (l : List Int) (w : Way) (g : Int) : List Int := (l.set w.a (at0 l w.a - g)).set w.b (at0 (l.set w.a (at0 l w.a - g)) w.b + g)
theorem step_len (l : List Int) (w : Way) (g : Int) : (step l w g).length = l.length := by unfold step; simp
theorem step_dot {ps l : List Int} {w : Way} {g : Int} {n : Nat} (hl : l.length = n) (ha : w.a < n) (hb : w.b < n) : dot ps (step l w g) n = dot ps l n - (at0 ps w.a - at0 ps w.b) * g := by
  unfold step
  rw [dot_set ps (by simp; omega), dot_set ps (by omega), if_pos ha, if_pos hb]
  have e1 : at0 l w.a - g - at0 l w.a = -g := by omega
  have e2 : at0 (l.set w.a (at0 l w.a - g)) w.b + g - at0 (l.set w.a (at0 l w.a - g)) w.b = g := by omega
  rw [e1, e2, Int.sub_mul, Int.mul_neg]
  omega
def left : List Way → List Int → List Int → List Int
  | w :: ws, g :: gs, l => left ws gs (step l w g)
  | _, _, l => l
def inB (w : Way) (g : Int) : Prop := w.lo ≤ g ∧ ∀ h, w.hi = some h → g ≤ h
def csum : List Way → List Int → Int
  | w :: ws, g :: gs => w.c * g + csum ws gs
  | _, _ => 0
/-- a going -/
structure Going (needs : List Int) (ws : List Way) (gs : List Int) : Prop where
  len : gs.length = ws.length
  inb : ∀ (i : Nat) w g, ws[i]? = some w → gs[i]? = some g → inB w g
  zero : ∀ k, k < needs.length → at0 (left ws gs needs) k = 0
theorem least_le {ps : List Int} {w : Way} {g d : Int} (h : inB w g) (e : least ps w = some d) : d ≤ rt ps w * g := by
  unfold least at e
  generalize rt ps w = r at e ⊢
  rcases hw : w.hi with _ | hh
  · rw [hw] at e
    dsimp only at e
    by_cases h2 : r < 0
    · rw [if_pos h2] at e; cases e
    · rw [if_neg h2] at e
      cases e
      rw [Int.mul_comm r g]
      exact Int.mul_le_mul_of_nonneg_right h.1 (by omega)
  · rw [hw] at e
    cases e
    rw [Int.mul_comm r g]
    by_cases h2 : r < 0
    · have : hh * r ≤ g * r := Int.mul_le_mul_of_nonpos_right (h.2 _ hw) (by omega)
      unfold mn; split <;> omega
    · have : w.lo * r ≤ g * r := Int.mul_le_mul_of_nonneg_right h.1 (by omega)
      unfold mn; split <;> omega
theorem dual {ps : List Int} {n : Nat} : ∀ (ws : List Way) (gs l : List Int) (t d : Int), gs.length = ws.length → (∀ (i : Nat) w g, ws[i]? = some w → gs[i]? = some g → inB w g) → l.length = n → (∀ w ∈ ws, w.a < n ∧ w.b < n) →
    bnd (least ps) ws t = some d → d ≤ t + csum ws gs - dot ps l n + dot ps (left ws gs l) n
  | [], [], l, t, d, _, _, _, _, h => by cases h; simp [csum, left]
  | [], _ :: _, _, _, _, hl, _, _, _, _ => by simp at hl
  | _ :: _, [], _, _, _, hl, _, _, _, _ => by simp at hl
  | w :: ws, g :: gs, l, t, d, hl, hin, hn, hk, h => by
    unfold bnd at h
    rcases hw : least ps w with _ | x
    · rw [hw] at h; cases h
    · rw [hw] at h
      have ih := dual ws gs (step l w g) (t + x) d (by simpa using hl) (fun i w' g' h1 h2 => hin (i + 1) w' g' (by simpa using h1) (by simpa using h2)) (by rw [step_len]; exact hn) (fun w' h' => hk w' (List.mem_cons_of_mem _ h')) h
      have h1 := least_le (hin 0 w g rfl rfl) hw
      have hab := hk w List.mem_cons_self
      rw [step_dot hn hab.1 hab.2] at ih
      show d ≤ t + (w.c * g + csum ws gs) - dot ps l n + dot ps (left ws gs (step l w g)) n
      unfold rt at h1
      have e : (w.c - at0 ps w.a + at0 ps w.b) * g = w.c * g - (at0 ps w.a - at0 ps w.b) * g := by
        rw [← Int.sub_mul]; congr 1; omega
      rw [e] at h1
      omega
theorem dot_zero {ps l : List Int} : ∀ n, (∀ k, k < n → at0 l k = 0) → dot ps l n = 0
  | 0, _ => rfl
  | n + 1, h => by rw [dot_succ, dot_zero n fun k hk => h k (by omega), h n (by omega)]; simp
theorem no_less {ps needs : List Int} {ws : List Way} {gs : List Int} {d : Int} (hk : ∀ w ∈ ws, w.a < needs.length ∧ w.b < needs.length) (G : Going needs ws gs) (h : bnd (least ps) ws (dot ps needs needs.length) = some d) : d ≤ csum ws gs := by
  have := dual ws gs needs _ d G.len G.inb rfl hk h
  rw [dot_zero (l := left ws gs needs) _ G.zero] at this
  omega
theorem left_take {ws : List Way} {gs l : List Int} {i : Nat} {w : Way} {g : Int} (h1 : ws[i]? = some w) (h2 : gs[i]? = some g) : left (ws.take (i + 1)) (gs.take (i + 1)) l = step (left (ws.take i) (gs.take i) l) w g := by
  induction i generalizing ws gs l with
  | zero =>
    cases ws with
    | nil => simp at h1
    | cons x ws =>
      cases gs with
      | nil => simp at h2
      | cons y gs =>
        simp at h1 h2
        subst h1 h2
        simp [left]
  | succ i ih =>
    cases ws with
    | nil => simp at h1
    | cons x ws =>
      cases gs with
      | nil => simp at h2
      | cons y gs =>
        simp only [List.take_succ_cons, left]
        exact ih (by simpa using h1) (by simpa using h2)
theorem left_len : ∀ (ws : List Way) (gs l : List Int), (left ws gs l).length = l.length
  | w :: ws, g :: gs, l => by rw [left, left_len, step_len]
  | [], _, l => by cases ‹List Int› <;> rfl
  | _ :: _, [], l => rfl
theorem csum_eq (d : Way) : ∀ (ws : List Way) (gs : List Int), gs.length = ws.length → csum ws gs = ((List.range ws.length).map fun k => (ws.getD k d).c * at0 gs k).sum
  | [], [], _ => rfl
  | [], _ :: _, h => by simp at h
  | _ :: _, [], h => by simp at h
  | w :: ws, g :: gs, h => by
    rw [csum, csum_eq d ws gs (by simpa using h), List.length_cons, List.range_succ_eq_map, List.map_cons, List.sum_cons, List.map_map]
    rfl
end NM

namespace L2
open PySem PyProof.Rows NM
def wv (w : Way) : List V := [vn w.a, vn w.b, .int w.lo, vo w.hi, .int w.c]
def WaysAt (H : Hp) (a : Addr) (ws : List Way) : Prop := ∃ rs : List Addr, H a = some (.lst (rs.map V.ref)) ∧ rs.length = ws.length ∧ ∀ (i : Nat) w, ws[i]? = some w → ∃ r, rs[i]? = some r ∧ H r = some (.tup (wv w))
theorem WaysAt.mono {H H' : Hp} {a : Addr} {ws : List Way} (h : WaysAt H a ws) (g : Same H H') : WaysAt H' a ws := by
  obtain ⟨rs, h1, h2, h3⟩ := h
  exact ⟨rs, g _ _ h1, h2, fun i w hw => by obtain ⟨r, q1, q2⟩ := h3 i w hw; exact ⟨r, q1, g _ _ q2⟩⟩
structure NetAt (H : Hp) (p na wa : Addr) (ns : List Int) (ws : List Way) : Prop where
  tp : H p = some (.tup [.ref na, .ref wa])
  n : H na = some (.lst (ns.map V.int))
  w : WaysAt H wa ws
theorem NetAt.mono {H H' : Hp} {p na wa : Addr} {ns : List Int} {ws : List Way} (h : NetAt H p na wa ns ws) (g : Same H H') : NetAt H' p na wa ns ws := ⟨g _ _ h.tp, g _ _ h.n, h.w.mono g⟩
structure WayOk (n : Nat) (w : Way) : Prop where
  a : w.a < n
  b : w.b < n
  lo : -1000 ≤ w.lo ∧ w.lo ≤ 1000
  hi : ∀ h, w.hi = some h → w.lo ≤ h ∧ h ≤ 1000
  c : -1000 ≤ w.c ∧ w.c ≤ 1000
structure NetOk (ns : List Int) (ws : List Way) : Prop where
  n : 1 ≤ ns.length
  n2 : ns.length ≤ 1000
  w2 : ws.length ≤ 1000
  z : ns.sum = 0
  nb : ∀ x ∈ ns, -100000 ≤ x ∧ x ≤ 100000
  w : ∀ w ∈ ws, WayOk ns.length w
theorem refs_at {rs : List Addr} {i : Nat} {x : V} (h : (rs.map V.ref)[i]? = some x) : ∃ r, rs[i]? = some r ∧ x = .ref r := by
  rw [List.getElem?_map] at h
  obtain ⟨r, h1, h2⟩ := Option.map_eq_some_iff.mp h
  exact ⟨r, h1, h2.symm⟩
/-- the way behind a ref of a list of ways -/
theorem way_at {H : Hp} {rs : List Addr} {ws : List Way} {i : Nat} {r : Addr} (hl : rs.length = ws.length) (h3 : ∀ (i : Nat) w, ws[i]? = some w → ∃ r, rs[i]? = some r ∧ H r = some (.tup (wv w))) (h : rs[i]? = some r) : ∃ w, ws[i]? = some w ∧ H r = some (.tup (wv w)) := by
  have hi : i < ws.length := by rw [← hl]; exact (List.getElem?_eq_some_iff.mp h).1
  obtain ⟨r', q1, q2⟩ := h3 i ws[i] (List.getElem?_eq_getElem hi)
  rw [h] at q1; cases q1
  exact ⟨_, List.getElem?_eq_getElem hi, q2⟩
theorem ints_at {ls : List Int} {i : Nat} {x : V} (h : (ls.map V.int)[i]? = some x) : i < ls.length ∧ x = .int (at0 ls i) := by
  have hi : i < ls.length := by
    have := (List.getElem?_eq_some_iff.mp h).1
    simpa using this
  rw [at_get hi] at h
  exact ⟨hi, (Option.some.inj h).symm⟩
end L2

namespace L2
open PySem PyProof.Rows
theorem eqv_ints_iff : ∀ xs ys : List Int, PyData.eqvAll (xs.map PyData.int) (ys.map PyData.int) = decide (xs = ys)
  | [], [] => rfl
  | [], _ :: _ => rfl
  | _ :: _, [] => rfl
  | x :: xs, y :: ys => by
    simp only [List.map_cons, PyData.eqvAll, eqv_ints_iff xs ys, PyData.eqv]
    by_cases h : x = y
    · subst h; simp
    · simp [h]
theorem eqv_intsL (xs ys : List Int) : PyData.eqv (.list (xs.map PyData.int)) (.list (ys.map PyData.int)) = decide (xs = ys) := by
  rw [PyData.eqv, eqv_ints_iff]
end L2

namespace K22
open PySem L2 PyProof.Rows NM
variable {P : Program} {w : World} {K : PySem.W.Frag} {mg : Str → Option Value} {base : Heap} {t : Adr}
/-! ### == of nets -/
def dWay (w : Way) : PyData := .tuple [.int (w.a : Int), .int (w.b : Int), .int w.lo, dvo w.hi, .int w.c]
def dNet (ns : List Int) (ws : List Way) : PyData := .tuple [.list (ns.map PyData.int), .list (ws.map dWay)]
theorem bds_by {H : Hp} : ∀ (xs : List V) (ds : List PyData), xs.length = ds.length → (∀ (i : Nat) x d, xs[i]? = some x → ds[i]? = some d → Bd K H x d) → Bds K H xs ds
  | [], [], _, _ => .nil
  | [], _ :: _, h, _ => by simp at h
  | _ :: _, [], h, _ => by simp at h
  | x :: xs, d :: ds, h, f => .cons (f 0 x d rfl rfl) (bds_by xs ds (by simpa using h) fun i x' d' h1 h2 => f (i + 1) x' d' (by simpa using h1) (by simpa using h2))
theorem bd_vo {H : Hp} (o : Option Int) : Bd K H (vo o) (dvo o) := by
  cases o with
  | none => exact .non
  | some i => exact .int i
theorem bd_net {H : Hp} {p na wa : Addr} {ns : List Int} {ws : List Way} (h : NetAt H p na wa ns ws) : Bd K H (.ref p) (dNet ns ws) := by
  obtain ⟨rs, e1, e2, e3⟩ := h.w
  refine .tup (SqT.of h.tp) (.cons (bd_ints h.n) (.cons (.lst (SqL.of e1) (bds_by _ _ (by simp [e2]) fun i x d hx hd => ?_)) .nil))
  obtain ⟨r, hr1, rfl⟩ := refs_at hx
  obtain ⟨w, hw, er⟩ := way_at e2 e3 hr1
  rw [List.getElem?_map, hw] at hd
  cases hd
  exact .tup (SqT.of er) (.cons (.int _) (.cons (.int _) (.cons (.int _) (.cons (bd_vo _) (.cons (.int _) .nil)))))
theorem shaped_net (ns : List Int) (ws : List Way) : SeqAt.shaped (dNet ns ws) = true := by
  have h1 := lay_ints ns
  have h2 : PyData.canLayAll0 (ws.map dWay) = true ∧ PyData.depthAll (ws.map dWay) ≤ 3 := lay_all 3 fun d hd => by
    obtain ⟨w, _, rfl⟩ := List.mem_map.mp hd
    cases hh : w.hi with
    | none => unfold dWay; rw [hh]; exact ⟨rfl, by simp [dvo, PyData.depth, PyData.depthAll]⟩
    | some h => unfold dWay; rw [hh]; exact ⟨rfl, by simp [dvo, PyData.depth, PyData.depthAll]⟩
  have h : PyData.canLayAll0 [PyData.list (ns.map PyData.int), .list (ws.map dWay)] = true ∧ PyData.depthAll [PyData.list (ns.map PyData.int), .list (ws.map dWay)] ≤ 4 := lay_all 4 fun d hd => by
    simp only [List.mem_cons, List.not_mem_nil, or_false] at hd
    rcases hd with rfl | rfl
    · exact ⟨h1.1, by rw [PyData.depth]; omega⟩
    · exact ⟨h2.1, by rw [PyData.depth]; omega⟩
  unfold SeqAt.shaped
  rw [Bool.and_eq_true]
  refine ⟨h.1, decide_eq_true ?_⟩
  unfold dNet
  rw [PyData.depth]
  omega
theorem eqv_net (ns : List Int) (ws : List Way) : PyData.eqv (dNet ns ws) (dNet ns ws) = true := SeqAt.eqv_refl _ (SeqAt.canLay_of_shaped (shaped_net ns ws))
end K22

namespace K22
open PySem L2 PyProof.Rows
variable {P : Program} {w : World} {K : PySem.W.Frag} {mg : Str → Option Value} {base : Heap} {t : Adr}
theorem vos_at {ls : List (Option Int)} {i : Nat} {x : V} (h : (vos ls)[i]? = some x) : i < ls.length ∧ x = vo (ov ls i) := by
  have hi : i < ls.length := by
    have := (List.getElem?_eq_some_iff.mp h).1
    simpa using this
  rw [at_vo hi] at h
  exact ⟨hi, (Option.some.inj h).symm⟩

structure WsAt (H : Hp) (p wa ba sa : Addr) (ws : List Int) (bs ss : List (Option Int)) : Prop where
  tp : H p = some (.tup [.ref wa, .ref ba, .ref sa])
  w : H wa = some (.lst (ws.map V.int))
  b : H ba = some (.lst (vos bs))
  s : H sa = some (.lst (vos ss))
structure ShAt (H : Hp) (p ca la : Addr) (cs ls : List Int) : Prop where
  tp : H p = some (.tup [.ref ca, .ref la])
  c : H ca = some (.lst (cs.map V.int))
  l : H la = some (.lst (ls.map V.int))
theorem WsAt.mono {H H' : Hp} {p wa ba sa : Addr} {ws : List Int} {bs ss : List (Option Int)} (h : WsAt H p wa ba sa ws bs ss) (g : Same H H') : WsAt H' p wa ba sa ws bs ss := ⟨g _ _ h.tp, g _ _ h.w, g _ _ h.b, g _ _ h.s⟩
theorem ShAt.mono {H H' : Hp} {p ca la : Addr} {cs ls : List Int} (h : ShAt H p ca la cs ls) (g : Same H H') : ShAt H' p ca la cs ls := ⟨g _ _ h.tp, g _ _ h.c, g _ _ h.l⟩
end K22

namespace L2
open PySem PyProof.Rows
/-- three lists of one's own -/
structure L3 (H0 H : Hp) (p1 p2 p3 : Addr) (X Y Z : List V) : Prop where
  g : Same H0 H
  a : H p1 = some (.lst X)
  b : H p2 = some (.lst Y)
  c : H p3 = some (.lst Z)
  na : H0 p1 = none
  nb : H0 p2 = none
  nc : H0 p3 = none
  ab : p1 ≠ p2
  ac : p1 ≠ p3
  bc : p2 ≠ p3
section
variable {H0 H : Hp} {a b c : Addr} {X Y Z : List V}
theorem L3.new (h : L3 H0 H a b c X Y Z) {p : Addr} (hp : H p = none) (o : HO) : L3 H0 (upd H p o) a b c X Y Z :=
  have g := same_new hp o
  ⟨h.g.trans g, g _ _ h.a, g _ _ h.b, g _ _ h.c, h.na, h.nb, h.nc, h.ab, h.ac, h.bc⟩
theorem L3.setA (h : L3 H0 H a b c X Y Z) (X' : List V) : L3 H0 (upd H a (.lst X')) a b c X' Y Z :=
  ⟨fun d o q => by rw [upd_ne (ne_of_none q h.na)]; exact h.g _ _ q, upd_same, by rw [upd_ne h.ab.symm]; exact h.b, by rw [upd_ne h.ac.symm]; exact h.c, h.na, h.nb, h.nc, h.ab, h.ac, h.bc⟩
theorem L3.setB (h : L3 H0 H a b c X Y Z) (X' : List V) : L3 H0 (upd H b (.lst X')) a b c X X' Z :=
  ⟨fun d o q => by rw [upd_ne (ne_of_none q h.nb)]; exact h.g _ _ q, by rw [upd_ne h.ab]; exact h.a, upd_same, by rw [upd_ne h.bc.symm]; exact h.c, h.na, h.nb, h.nc, h.ab, h.ac, h.bc⟩
theorem L3.setC (h : L3 H0 H a b c X Y Z) (X' : List V) : L3 H0 (upd H c (.lst X')) a b c X Y X' :=
  ⟨fun d o q => by rw [upd_ne (ne_of_none q h.nc)]; exact h.g _ _ q, by rw [upd_ne h.ac]; exact h.a, by rw [upd_ne h.bc]; exact h.b, upd_same, h.na, h.nb, h.nc, h.ab, h.ac, h.bc⟩
end
end L2
namespace K22
open PySem L2 PyProof.Rows
variable {P : Program} {w : World} {K : PySem.W.Frag} {mg : Str → Option Value} {base : Heap} {t : Adr}
theorem len2 {α : Type} {l : List α} (h : l.length = 2) : ∃ a b, l = [a, b] :=
  match l, h with
  | [a, b], _ => ⟨a, b, rfl⟩
theorem len3 {α : Type} {l : List α} (h : l.length = 3) : ∃ a b c, l = [a, b, c] :=
  match l, h with
  | [a, b, c], _ => ⟨a, b, c, rfl⟩
theorem pickW (m : Int) : ∃ z : Int, atI [V.int 1, V.int 1, V.int (m / 4 % 4), V.int (m / 4 % 1001)] (m % 4) = some (.int z) ∧ 0 ≤ z ∧ z ≤ 1000 := by
  have h : m % 4 = 0 ∨ m % 4 = 1 ∨ m % 4 = 2 ∨ m % 4 = 3 := by omega
  rcases h with h | h | h | h <;> rw [h]
  · exact ⟨_, rfl, by omega, by omega⟩
  · exact ⟨_, rfl, by omega, by omega⟩
  · exact ⟨_, rfl, by omega, by omega⟩
  · exact ⟨_, rfl, by omega, by omega⟩
theorem pickB (m b x y : Int) (hb : b = 0 ∨ b = 1) : ∃ o : Option Int, atI [V.non, V.non, V.int x, V.int y] (m / 16 % 4 * b) = some (vo o) := by
  rcases hb with rfl | rfl
  · rw [Int.mul_zero]; exact ⟨none, rfl⟩
  · rw [Int.mul_one]
    have h : m / 16 % 4 = 0 ∨ m / 16 % 4 = 1 ∨ m / 16 % 4 = 2 ∨ m / 16 % 4 = 3 := by omega
    rcases h with h | h | h | h <;> rw [h]
    · exact ⟨none, rfl⟩
    · exact ⟨none, rfl⟩
    · exact ⟨some x, rfl⟩
    · exact ⟨some y, rfl⟩
def spWishes (K : PySem.W.Frag) : Sp := fun vs H Q _ => ∃ (ta : Addr) (xs : List V) (c b : Int), vs = [.ref ta, .int c, .int b] ∧ SqL K H ta xs ∧ xs.length ≤ 100 ∧ (b = 0 ∨ b = 1) ∧
  ∀ (p wa ba sa : Addr) (ws : List Int) (bs ss : List (Option Int)) (H' : Hp), L3 H H' wa ba sa (ws.map V.int) (vos bs) (vos ss) → H' p = some (.tup [.ref wa, .ref ba, .ref sa]) → H p = none →
    ws.length = xs.length → bs.length = xs.length → ss.length = 2 * xs.length → (∀ x ∈ ws, 0 ≤ x ∧ x ≤ 1000) → Q (.ref p) H'
theorem ok_lwishes (T : Txt K mg t) (G_l_mix : FnOk P w K mg base CX0 1 t.a_l_mix t.d_l_mix ["_law_cell", "_law_k"] spMix) (G_l_digit : FnOk P w K mg base CX0 1 t.a_l_digit t.d_l_digit ["_law_number", "_law_by", "_law_k"] spDigit) :
    FnOk P w K mg base CX0 2 t.a_l_wishes t.d_l_wishes ["_law_ties", "_law_cell", "_law_barred"] (spWishes K) := by
  refine T.F_l_wishes.ok sc_l_wishes (fun vs H Q E h => ?_) (fun cdv A outer s H vs Q E hr h => ?_)
  · obtain ⟨ta, xs, c, b, rfl, _⟩ := h; rfl
  obtain ⟨ta, xs, c, b, rfl, hS, hn, hb, q⟩ := h
  have nd := sc_l_wishes.nd
  refine ⟨_, (pss_cons (ps_set (i := 3) nd rfl (Or.inl rfl) (pe_lst pa_nil))
    (pss_cons (ps_set (i := 4) nd rfl (Or.inl rfl) (pe_lst pa_nil))
    (pss_cons (ps_set (i := 5) nd rfl (Or.inl rfl) (pe_lst pa_nil))
    (pss_cons (ps_for PassesOwn.never rfl (pi_range1 rfl T.z_range (pa_cons (pe_callB call_len_seq rfl T.z_len PySem.boot_len (pa_cons (pv 0) pa_nil)) pa_nil)) (pg_name (i := 6) nd rfl (Or.inl rfl)) (pss_cons (ps_set (i := 7) nd rfl (Or.inl rfl) (pe_call G_l_mix (hr.mono (by decide)) rfl T.m_l_mix T.k_l_mix T.b_l_mix .nil pass0 (pa_cons (pv 1) (pa_cons (pv 6) pa_nil))))
    (pss_cons (ps_expr (pe_bm PySem.F.plainAttrs_list PySem.F.slot_list_append PySem.F.type_list_append mt_append (pv 3) (pa_cons (pe_ix ix_list (pe_lst (pa_cons pe_int (pa_cons pe_int (pa_cons (pe_op op_mod (pe_op op_fdiv (pv 7) pe_int) pe_int) (pa_cons (pe_op op_mod (pe_op op_fdiv (pv 7) pe_int) pe_int) pa_nil))))) (pe_op op_mod (pv 7) pe_int) (fun _ _ => rfl)) pa_nil)))
    (pss_cons (ps_expr (pe_bm PySem.F.plainAttrs_list PySem.F.slot_list_append PySem.F.type_list_append mt_append (pv 4) (pa_cons (pe_ix ix_list (pe_lst (pa_cons pe_non (pa_cons pe_non (pa_cons (pe_op op_mod (pe_op op_fdiv (pv 7) pe_int) pe_int) (pa_cons (pe_op op_mod (pe_op op_fdiv (pv 7) pe_int) pe_int) pa_nil))))) (pe_op op_mul (pe_op op_mod (pe_op op_fdiv (pv 7) pe_int) pe_int) (pv 2)) (fun _ _ => rfl)) pa_nil)))
    (pss_one (ps_for PassesOwn.never rfl (pi_range1 rfl T.z_range (pa_cons pe_int pa_nil)) (pg_name (i := 8) nd rfl (Or.inl rfl)) (pss_cons (ps_expr (pe_bm PySem.F.plainAttrs_list PySem.F.slot_list_append PySem.F.type_list_append mt_append (pv 5) (pa_cons pe_non pa_nil)))
    (pss_one (ps_if (PW.pt (pw_and (pt_cmpR op_eq (pv 2) pe_int (nomark _)) (pw_and1 (pt_cmpR op_eq (pe_call G_l_digit (hr.mono (by decide)) rfl T.m_l_digit T.k_l_digit T.b_l_digit .nil pass0 (pa_cons (pe_op op_fdiv (pv 7) pe_int) (pa_cons pe_int (pa_cons (pv 8) pa_nil)))) pe_int (nomark _))))) (pss_one (ps_asg (pe_op op_add pe_int (pe_op op_mod (pe_call G_l_digit (hr.mono (by decide)) rfl T.m_l_digit T.k_l_digit T.b_l_digit .nil pass0 (pa_cons (pe_op op_fdiv (pv 7) pe_int) (pa_cons pe_int (pa_cons (pv 8) pa_nil)))) pe_int)) (pg_sub (pv 5) (pe_op op_add (pe_op op_mul pe_int (pv 6)) (pv 8)) set_list))) pss_nil)))))))))
    (pss_one (ps_ret (pe_tup (pa_cons (pv 3) (pa_cons (pv 4) (pa_cons (pv 5) pa_nil)))))))))), ?_⟩
  refine ⟨(by show 0 ≤ sizeLine; decide), fun wa hwa => ?_⟩
  have g1 := same_new hwa (.lst [])
  refine ⟨(by show 0 ≤ sizeLine; decide), fun ba hba => ?_⟩
  have g2 := g1.trans (same_new hba (.lst []))
  refine ⟨(by show 0 ≤ sizeLine; decide), fun sa hsa => ?_⟩
  have g3 := g2.trans (same_new hsa (.lst []))
  have nwb : wa ≠ ba := ne_of_none upd_same hba
  have nws : wa ≠ sa := ne_of_none (by rw [upd_ne nwb]; exact upd_same) hsa
  have nbs : ba ≠ sa := ne_of_none upd_same hsa
  have l0 : L3 H (upd (upd (upd H wa (.lst [])) ba (.lst [])) sa (.lst [])) wa ba sa [] [] [] :=
    ⟨g3, by rw [upd_ne nws, upd_ne nwb]; exact upd_same, by rw [upd_ne nbs]; exact upd_same, upd_same, hwa, g1.free hba, g2.free hsa, nwb, nws, nbs⟩
  refine ⟨_, rfl, ta, _, rfl, .inl (g3.seq hS), _, rfl, by omega, by omega, for_range (lo := 0) (n := ((xs.length : Nat) : Int).toNat)
    (fun i σ H' => ∃ (ws : List Int) (bs ss : List (Option Int)), L3 H H' wa ba sa (ws.map V.int) (vos bs) (vos ss) ∧ ws.length = i ∧ bs.length = i ∧ ss.length = 2 * i ∧ (∀ x ∈ ws, 0 ≤ x ∧ x ≤ 1000) ∧
      ∃ o6 o7 o8 : Option V, σ = [some (.ref ta), some (.int c), some (.int b), some (.ref wa), some (.ref ba), some (.ref sa), o6, o7, o8])
    ⟨[], [], [], l0, rfl, rfl, rfl, fun x hx => by simp at hx, none, none, none, rfl⟩ ?_ ?_⟩
  · rintro i σ H1 hi ⟨ws, bs, ss, l1, hw, hbl, hsl, hwb, o6, o7, o8, rfl⟩
    have hi' : i < 100 := by omega
    refine ⟨_, rfl, _, rfl, _, _, rfl, by omega, by omega, fun m hm hm' => ?_⟩
    obtain ⟨z, hz, hz0, hz1⟩ := pickW m
    obtain ⟨o, ho⟩ := pickB m b (m / 64 % 3) (m / 64 % 41) hb
    refine ⟨_, rfl, .inl ⟨rfl, _, SqL.of l1.a⟩, _, rfl, _, _, rfl, rfl, ⟨by decide, by decide⟩, _, _, rfl, rfl, (by show (0 : Int) < 4; decide), _, rfl, _, _, rfl, rfl, ⟨by decide, by decide⟩, _, _, rfl, rfl, (by show (0 : Int) < 1001; decide), (by show 4 ≤ sizeLine; decide), fun p hp => ?_⟩
    have l2 := l1.new hp (.lst [V.int 1, V.int 1, V.int (m / 4 % 4), V.int (m / 4 % 1001)])
    refine ⟨_, rfl, _, _, rfl, rfl, (by show (0 : Int) < 4; decide), p, _, _, _, rfl, rfl, SqL.of upd_same, hz, wa, _, _, rfl, rfl, l2.a, by rw [List.length_map, hw]; exact Nat.lt_trans hi' (by decide), ?_⟩
    have l3 := l2.setA (ws.map V.int ++ [.int z])
    refine ⟨_, rfl, .inl ⟨rfl, _, SqL.of l3.b⟩, _, rfl, _, _, rfl, rfl, ⟨by decide, by decide⟩, _, _, rfl, rfl, (by show (0 : Int) < 3; decide), _, rfl, _, _, rfl, rfl, ⟨by decide, by decide⟩, _, _, rfl, rfl, (by show (0 : Int) < 41; decide), (by show 4 ≤ sizeLine; decide), fun p2 hp2 => ?_⟩
    have l4 := l3.new hp2 (.lst [V.non, V.non, V.int (m / 64 % 3), V.int (m / 64 % 41)])
    refine ⟨_, rfl, _, _, rfl, rfl, ⟨by decide, by decide⟩, _, _, rfl, rfl, (by show (0 : Int) < 4; decide), _, rfl, _, _, rfl, rfl, .inr (by rcases hb with rfl | rfl <;> decide), p2, _, _, _, rfl, rfl, SqL.of upd_same, ho, ba, _, _, rfl, rfl, l4.b, by rw [List.length_map, hbl]; exact Nat.lt_trans hi' (by decide), ?_⟩
    have l5 := l4.setB (vos bs ++ [vo o])
    refine ⟨2, rfl, by omega, by omega, for_range (lo := 0) (n := ((2 : Int)).toNat)
      (fun j σ H' => ∃ (ss : List (Option Int)) (o8 : Option V), L3 H H' wa ba sa (ws.map V.int ++ [.int z]) (vos bs ++ [vo o]) (vos ss) ∧ ss.length = 2 * i + j ∧
        σ = [some (.ref ta), some (.int c), some (.int b), some (.ref wa), some (.ref ba), some (.ref sa), some (.int (0 + (i : Nat))), some (.int m), o8])
      ⟨ss, _, l5, by omega, rfl⟩ ?_ ?_⟩
    · rintro j σ H2 hj ⟨ss, o8, l6, hsl, rfl⟩
      have hj' : j < 2 := by omega
      refine ⟨_, rfl, .inl ⟨rfl, _, SqL.of l6.c⟩, sa, _, _, rfl, rfl, l6.c, by rw [List.length_map, hsl]; exact Nat.lt_of_lt_of_le (by omega : 2 * i + j < 1000) (by decide), ?_⟩
      have l7 := l6.setC (vos ss ++ [V.non])
      have es : vos ss ++ [V.non] = vos (ss ++ [none]) := vos_app ss none
      refine ⟨_, rfl, rfl, _, rfl, ite2 (fun hb1 => ?_) (fun hb1 => iteF ?_)⟩
      · refine ⟨_, rfl, _, _, rfl, rfl, ⟨by decide, by decide⟩, _, rfl, _, _, _, rfl, by decide, by decide, by omega, by omega, fun d hd0 hd1 => ⟨rfl, _, rfl, ite2 (fun _ => ?_) (fun _ => ?_)⟩⟩
        · refine ⟨_, rfl, _, _, rfl, rfl, ⟨by decide, by decide⟩, _, rfl, _, _, _, rfl, by decide, by decide, by omega, by omega, fun e he0 he1 => ?_⟩
          refine ⟨_, _, rfl, rfl, (by show (0 : Int) < 4; decide), _, _, rfl, rfl, ?_⟩
          refine ⟨_, rfl, _, rfl, _, _, rfl, rfl, .inl ⟨by decide, by decide⟩, _, rfl, _, _, rfl, rfl, sa, _, _, 2 * i + j, rfl, rfl, l7.c, ixN_ok (by rw [List.length_append, List.length_map, hsl]; simp) (by push_cast; omega), ?_⟩
          refine ⟨(ss ++ [none]).set (2 * i + j) (some (1 + e % 4)), _, ?_, ?_, rfl⟩
          · rw [← vos_set, ← es]
            exact l7.setC _
          · rw [List.length_set, List.length_append, hsl]; rfl
        · exact ⟨ss ++ [none], _, by rw [← es]; exact l7, by rw [List.length_append, hsl]; rfl, rfl⟩
      · exact ⟨ss ++ [none], _, by rw [← es]; exact l7, by rw [List.length_append, hsl]; rfl, rfl⟩
    · rintro σ H2 ⟨ss, o8, l6, hsl, rfl⟩
      refine ⟨ws ++ [z], bs ++ [o], ss, ?_, ?_, ?_, ?_, ?_, _, _, _, rfl⟩
      · rw [List.map_append, ← vos_app]; exact l6
      · rw [List.length_append, hw]; rfl
      · rw [List.length_append, hbl]; rfl
      · have : (2 : Int).toNat = 2 := rfl
        omega
      · intro x hx
        rcases List.mem_append.mp hx with hx | hx
        · exact hwb x hx
        · simp at hx; subst hx; exact ⟨hz0, hz1⟩
  · rintro σ H1 ⟨ws, bs, ss, l1, hw, hbl, hsl, hwb, o6, o7, o8, rfl⟩
    refine ⟨_, rfl, _, rfl, _, rfl, (by show 3 ≤ sizeLine; decide), fun p hp => ?_⟩
    have e : ((xs.length : Nat) : Int).toNat = xs.length := by omega
    exact q p wa ba sa ws bs ss _ (l1.new hp _) upd_same (l1.g.free hp) (by omega) (by omega) (by omega) hwb

end K22

namespace L2
open PySem PyProof.Rows NM
theorem ways_push {H : Hp} {wa : Addr} {ws : List Way} {rs : List Addr} (e1 : H wa = some (.lst (rs.map V.ref))) (e2 : rs.length = ws.length) (e3 : ∀ (i : Nat) w, ws[i]? = some w → ∃ r, rs[i]? = some r ∧ H r = some (.tup (wv w))) {r : Addr} {w : Way} (er : H r = some (.tup (wv w))) :
    WaysAt (upd H wa (.lst (rs.map V.ref ++ [.ref r]))) wa (ws ++ [w]) := by
  refine ⟨rs ++ [r], by rw [upd_same, List.map_append]; rfl, by simp [e2], fun j x hx => ?_⟩
  by_cases hj : j < ws.length
  · rw [List.getElem?_append_left hj] at hx
    obtain ⟨r', q1, q2⟩ := e3 j x hx
    exact ⟨r', by rw [List.getElem?_append_left (by omega)]; exact q1, by rw [upd_ne (ne_of q2 e1 (fun z => nomatch z))]; exact q2⟩
  · have hj2 : j = ws.length := by
      have := (List.getElem?_eq_some_iff.mp hx).1
      simp at this; omega
    subst hj2
    simp at hx
    subst hx
    exact ⟨r, by rw [← e2]; simp, by rw [upd_ne (ne_of er e1 (fun z => nomatch z))]; exact er⟩
theorem ways_cat {H : Hp} {ws1 ws2 : List Way} {rs1 rs2 : List Addr} (e2 : rs1.length = ws1.length) (e3 : ∀ (i : Nat) w, ws1[i]? = some w → ∃ r, rs1[i]? = some r ∧ H r = some (.tup (wv w)))
    (f2 : rs2.length = ws2.length) (f3 : ∀ (i : Nat) w, ws2[i]? = some w → ∃ r, rs2[i]? = some r ∧ H r = some (.tup (wv w))) {p : Addr} (hp : H p = none) :
    WaysAt (upd H p (.lst (rs1.map V.ref ++ rs2.map V.ref))) p (ws1 ++ ws2) := by
  have g := same_new hp (.lst (rs1.map V.ref ++ rs2.map V.ref))
  refine ⟨rs1 ++ rs2, by rw [upd_same, List.map_append], by simp [e2, f2], fun j x hx => ?_⟩
  by_cases hj : j < ws1.length
  · rw [List.getElem?_append_left hj] at hx
    obtain ⟨r', q1, q2⟩ := e3 j x hx
    exact ⟨r', by rw [List.getElem?_append_left (by omega)]; exact q1, g _ _ q2⟩
  · rw [List.getElem?_append_right (by omega)] at hx
    obtain ⟨r', q1, q2⟩ := f3 _ x hx
    exact ⟨r', by rw [List.getElem?_append_right (by omega), e2]; exact q1, g _ _ q2⟩
theorem WebAt.mono {H H' : Hp} {w : Addr} {n : Nat} {ts : MM.Ties} {os : MM.Ords} (h : WebAt H w n ts os) (g : Same H H') : WebAt H' w n ts os := g.web h
theorem vns_at {l : List Nat} {i : Nat} {x : V} (h : (vns l)[i]? = some x) : i < l.length ∧ x = vn (l.getD i 0) := by
  rw [List.getElem?_map] at h
  obtain ⟨y, h1, h2⟩ := Option.map_eq_some_iff.mp h
  obtain ⟨hi, rfl⟩ := List.getElem?_eq_some_iff.mp h1
  exact ⟨hi, by rw [← h2]; simp [List.getD, hi]⟩
end L2
namespace K22
open PySem L2 PyProof.Rows NM
variable {P : Program} {w : World} {K : PySem.W.Frag} {mg : Str → Option Value} {base : Heap} {t : Adr}
noncomputable abbrev LL (ts : MM.Ties) (os : MM.Ords) : List (List Nat) := MM.landsOf (MM.behind ts os) (2 * ts.length)
structure IsNum (ts : MM.Ties) (os : MM.Ords) (nm : List Nat) : Prop where
  len : nm.length = 2 * ts.length
  at_ : ∀ (k : Nat) (d : List Nat) (x : Nat), (LL ts os)[k]? = some d → x ∈ d → nm.getD x 0 = k
theorem IsNum.uniq {ts : MM.Ties} {os : MM.Ords} {nm nm' : List Nat} (g : MM.Good ts os) (h : IsNum ts os nm) (h' : IsNum ts os nm') : nm = nm' := by
  have h1 := h.len
  have h2 := h'.len
  apply List.ext_getElem?
  intro i
  by_cases hi : i < 2 * ts.length
  · obtain ⟨k, d, q1, q2, _⟩ := MM.landsOf_one g.maps hi
    have e1 := h.at_ k d i q1 q2
    have e2 := h'.at_ k d i q1 q2
    have a1 : i < nm.length := by omega
    have a2 : i < nm'.length := by omega
    simp only [List.getD, List.getElem?_eq_getElem a1, List.getElem?_eq_getElem a2, Option.getD_some] at e1 e2
    rw [List.getElem?_eq_getElem a1, List.getElem?_eq_getElem a2, e1, e2]
  · rw [List.getElem?_eq_none (by omega), List.getElem?_eq_none (by omega)]
def cornerW (n : Nat) (ts : MM.Ties) (nm : List Nat) (ss : List (Option Int)) (e : Nat) : Way := ⟨MM.place ts (MM.oth e), n + nm.getD e 0, (ov ss e).getD 1, some ((ov ss e).getD 4), 0⟩
def leftW (n : Nat) (nm : List Nat) (ws : List Int) (bs : List (Option Int)) (e : Nat) : Way := ⟨n + nm.getD e 0, n + nm.getD (MM.oth e) 0, 0, ov bs (e / 2), at0 ws (e / 2)⟩
def waysOf (n : Nat) (ts : MM.Ties) (nm : List Nat) (ws : List Int) (bs ss : List (Option Int)) : List Way := (List.range (2 * ts.length)).map (cornerW n ts nm ss) ++ (List.range (2 * ts.length)).map (leftW n nm ws bs)
def needOf (ll : List (List Nat)) (outer k : Nat) : Int := (if k = outer then -4 else 4) - 2 * ((ll.getD k []).length : Int)
def needsOf (n : Nat) (ll : List (List Nat)) (outer : Nat) : List Int := List.replicate n 4 ++ (List.range ll.length).map (needOf ll outer)
theorem range_snoc {α : Type} (f : Nat → α) (i : Nat) : (List.range (i + 1)).map f = (List.range i).map f ++ [f i] := by rw [List.range_succ, List.map_append]; rfl

def spCorner : Sp := fun vs H Q _ => ∃ (wa sa : Addr) (n : Nat) (ts : MM.Ties) (os : MM.Ords) (ss : List (Option Int)), vs = [.ref wa, .ref sa] ∧ WebAt H wa n ts os ∧ MM.Good ts os ∧ ts.length ≤ 40 ∧ H sa = some (.lst (vos ss)) ∧ ss.length = 2 * ts.length ∧
  ∀ (r : Addr) (nm : List Nat) (H' : Hp), Same H H' → H r = none → IsNum ts os nm → WaysAt H' r ((List.range (2 * ts.length)).map (cornerW n ts nm ss)) → Q (.ref r) H'
theorem ok_corner (T : Txt K mg t) : FnOk P w K mg base CX0 7 t.a_corner_ways t.d_corner_ways ["web", "sets"] spCorner := by
  have G_land_numbers := ok_numbers (P := P) (w := w) (base := base) T
  have G_goes_to := ok_goes (P := P) (w := w) (base := base) T
  refine T.F_corner_ways.ok sc_corner_ways (fun vs H Q E h => ?_) (fun cdv A outer s H vs Q E hr h => ?_)
  · obtain ⟨wa, sa, n, ts, os, ss, rfl, _⟩ := h; rfl
  obtain ⟨wa, sa, n, ts, os, ss, rfl, hWeb, g, h40, hS, hsl, q⟩ := h
  have nd := sc_corner_ways.nd
  refine ⟨_, (pss_cons (ps_set (i := 2) nd rfl (Or.inl rfl) (pe_lst pa_nil))
    (pss_cons (ps_for PassesOwn.never rfl (pi_enum rfl T.z_enumerate (pa_cons (pe_call G_land_numbers (hr.mono (by decide)) rfl T.m_land_numbers T.k_land_numbers T.b_land_numbers .nil pass0 (pa_cons (pv 0) pa_nil)) pa_nil)) (pg_tup rfl (pgs_cons (pg_name (i := 3) nd rfl (Or.inl rfl)) (pgs_cons (pg_name (i := 4) nd rfl (Or.inl rfl)) pgs_nil))) (pss_cons (ps_set (i := 5) nd rfl (Or.inl rfl) (pe_ifExp (pt_cmpR op_isN (pe_ix ix_list (pv 1) (pv 3) (fun _ _ => rfl)) pe_non (nomark _)) pe_int (pe_ix ix_list (pv 1) (pv 3) (fun _ _ => rfl))))
    (pss_cons (ps_set (i := 6) nd rfl (Or.inl rfl) (pe_ifExp (pt_cmpR op_isN (pe_ix ix_list (pv 1) (pv 3) (fun _ _ => rfl)) pe_non (nomark _)) (pe_glob (v := .int 4) rfl T.g_QUARTERS_ROUND ⟨_, rfl⟩) (pe_ix ix_list (pv 1) (pv 3) (fun _ _ => rfl))))
    (pss_one (ps_expr (pe_bm PySem.F.plainAttrs_list PySem.F.slot_list_append PySem.F.type_list_append mt_append (pv 2) (pa_cons (pe_tup (pa_cons (pe_call G_goes_to (hr.mono (by decide)) rfl T.m_goes_to T.k_goes_to T.b_goes_to .nil pass0 (pa_cons (pv 0) (pa_cons (pv 3) pa_nil))) (pa_cons (pe_op op_add (pe_ix ix_tup (pv 0) pe_int (fun _ _ => rfl)) (pv 4)) (pa_cons (pv 5) (pa_cons (pv 6) (pa_cons pe_int pa_nil)))))) pa_nil)))))))
    (pss_one (ps_ret (pv 2))))), ?_⟩
  refine ⟨(by show 0 ≤ sizeLine; decide), fun wl hwl => ?_⟩
  have g0 := same_new hwl (.lst [])
  refine ⟨_, rfl, wa, n, ts, os, rfl, hWeb.mono g0, g, by omega, fun r nm H1 g1 hr0 er hnl hnm => ?_⟩
  have num : IsNum ts os nm := ⟨hnl, hnm⟩
  have nrl : r ≠ wl := (ne_of_none upd_same hr0).symm
  have w1 : H1 wl = some (.lst []) := g1 _ _ upd_same
  refine ⟨r, rfl, ⟨_, SqL.of er⟩, for_enum (xs := vns nm)
    (fun i σ H' => WaysAt H' wl ((List.range i).map (cornerW n ts nm ss)) ∧ Same H H' ∧ H' r = some (.lst (vns nm)) ∧ ∃ o3 o4 o5 o6 : Option V, σ = [some (.ref wa), some (.ref sa), some (.ref wl), o3, o4, o5, o6])
    ⟨⟨[], w1, rfl, fun i w h => by simp at h⟩, g0.trans g1, er, _, _, _, _, rfl⟩ (fun i σ H' _ h => SqL.of h.2.2.1) ?_ ?_⟩
  · rintro i x σ H2 Tp hx ⟨⟨rs, e1, e2, e3⟩, g2, er2, o3, o4, o5, o6, rfl⟩ hTp
    obtain ⟨hi, rfl⟩ := vns_at hx
    have hi' : i < 2 * ts.length := by omega
    have g3 := same_new hTp (.tup [vn i, vn (nm.getD i 0)])
    have g23 := g2.trans g3
    have e1' := g3 _ _ e1
    have eS := g23 _ _ hS
    have hWeb3 := hWeb.mono g23
    obtain ⟨tA, oA, hw, _, _⟩ := id hWeb3
    refine ⟨Tp, _, rfl, SqT.of upd_same, rfl, _, _, rfl, _, _, rfl, rfl, ?_⟩
    have fin : ∀ (lo hi : Int), lo = (ov ss i).getD 1 → hi = (ov ss i).getD 4 → ∀ (p : Addr), (upd H2 Tp (.tup [vn i, vn (nm.getD i 0)])) p = none →
        WaysAt (upd (upd (upd H2 Tp (.tup [vn i, vn (nm.getD i 0)])) p (.tup [vn (MM.place ts (MM.oth i)), .int ((n : Int) + ((nm.getD i 0 : Nat) : Int)), .int lo, .int hi, .int 0])) wl (.lst (rs.map V.ref ++ [.ref p]))) wl ((List.range (i + 1)).map (cornerW n ts nm ss)) ∧
        Same H (upd (upd (upd H2 Tp (.tup [vn i, vn (nm.getD i 0)])) p (.tup [vn (MM.place ts (MM.oth i)), .int ((n : Int) + ((nm.getD i 0 : Nat) : Int)), .int lo, .int hi, .int 0])) wl (.lst (rs.map V.ref ++ [.ref p]))) ∧
        (upd (upd (upd H2 Tp (.tup [vn i, vn (nm.getD i 0)])) p (.tup [vn (MM.place ts (MM.oth i)), .int ((n : Int) + ((nm.getD i 0 : Nat) : Int)), .int lo, .int hi, .int 0])) wl (.lst (rs.map V.ref ++ [.ref p]))) r = some (.lst (vns nm)) := by
      intro lo hi hlo hhi p hp
      have g4 := same_new hp (.tup [vn (MM.place ts (MM.oth i)), .int ((n : Int) + ((nm.getD i 0 : Nat) : Int)), .int lo, .int hi, .int 0])
      refine ⟨?_, fun b o h => by rw [upd_ne (ne_of_none h hwl)]; exact g4 _ _ (g23 _ _ h), by rw [upd_ne nrl]; exact g4 _ _ (g3 _ _ er2)⟩
      rw [range_snoc]
      refine ways_push (g4 _ _ e1') e2 (fun j w hj => by obtain ⟨r', q1, q2⟩ := e3 j w hj; exact ⟨r', q1, g4 _ _ (g3 _ _ q2)⟩) ?_
      rw [upd_same]
      unfold wv cornerW
      rw [← hlo, ← hhi]
      simp only [vo, vn, Int.natCast_add]
    rcases ho : ov ss i with _ | c
    · have eC : atI (vos ss) ((i : Nat) : Int) = some .non := by rw [atI_vo (j := i) (by omega) rfl, ho]; rfl
      refine ⟨_, rfl, _, rfl, sa, _, _, _, rfl, rfl, SqL.of eS, eC, rfl, _, rfl, iteTb (by rfl) ?_⟩
      refine ⟨_, rfl, _, rfl, sa, _, _, _, rfl, rfl, SqL.of eS, eC, rfl, _, rfl, iteTb (by rfl) ?_⟩
      refine ⟨_, rfl, .inl ⟨rfl, _, SqL.of e1'⟩, _, rfl, _, rfl, wa, n, ts, os, i, rfl, hWeb3, hi', _, rfl, wa, _, _, _, rfl, rfl, SqT.of hw, rfl, _, rfl, _, _, rfl, rfl, _, rfl, _, rfl, (by show 5 ≤ sizeLine; decide), fun p hp => ?_⟩
      obtain ⟨f1, f2, f3⟩ := fin 1 4 (by rw [ho]; rfl) (by rw [ho]; rfl) p hp
      exact ⟨wl, _, _, rfl, rfl, same_new hp _ _ _ e1', by rw [List.length_map, e2]; simp; exact Nat.lt_of_lt_of_le hi' (Nat.le_trans (by omega : 2 * ts.length ≤ 80) (by decide)), f1, f2, f3, _, _, _, _, rfl⟩
    · have eC : atI (vos ss) ((i : Nat) : Int) = some (.int c) := by rw [atI_vo (j := i) (by omega) rfl, ho]; rfl
      refine ⟨_, rfl, _, rfl, sa, _, _, _, rfl, rfl, SqL.of eS, eC, rfl, _, rfl, iteFb (by rfl) ⟨_, rfl, _, rfl, sa, _, _, _, rfl, rfl, SqL.of eS, eC, ?_⟩⟩
      refine ⟨_, rfl, _, rfl, sa, _, _, _, rfl, rfl, SqL.of eS, eC, rfl, _, rfl, iteFb (by rfl) ⟨_, rfl, _, rfl, sa, _, _, _, rfl, rfl, SqL.of eS, eC, ?_⟩⟩
      refine ⟨_, rfl, .inl ⟨rfl, _, SqL.of e1'⟩, _, rfl, _, rfl, wa, n, ts, os, i, rfl, hWeb3, hi', _, rfl, wa, _, _, _, rfl, rfl, SqT.of hw, rfl, _, rfl, _, _, rfl, rfl, _, rfl, _, rfl, (by show 5 ≤ sizeLine; decide), fun p hp => ?_⟩
      obtain ⟨f1, f2, f3⟩ := fin c c (by rw [ho]; rfl) (by rw [ho]; rfl) p hp
      exact ⟨wl, _, _, rfl, rfl, same_new hp _ _ _ e1', by rw [List.length_map, e2]; simp; exact Nat.lt_of_lt_of_le hi' (Nat.le_trans (by omega : 2 * ts.length ≤ 80) (by decide)), f1, f2, f3, _, _, _, _, rfl⟩
  · rintro σ H2 ⟨hw2, g2, er2, o3, o4, o5, o6, rfl⟩
    rw [List.length_map, hnl] at hw2
    exact ⟨_, rfl, q wl nm H2 g2 hwl num hw2⟩

def spLeft : Sp := fun vs H Q _ => ∃ (wa p wA bA sA : Addr) (n : Nat) (ts : MM.Ties) (os : MM.Ords) (ws : List Int) (bs ss : List (Option Int)), vs = [.ref wa, .ref p] ∧ WebAt H wa n ts os ∧ MM.Good ts os ∧ ts.length ≤ 40 ∧ WsAt H p wA bA sA ws bs ss ∧ ws.length = ts.length ∧ bs.length = ts.length ∧
  ∀ (r : Addr) (nm : List Nat) (H' : Hp), Same H H' → H r = none → IsNum ts os nm → WaysAt H' r ((List.range (2 * ts.length)).map (leftW n nm ws bs)) → Q (.ref r) H'
theorem ok_left (T : Txt K mg t) : FnOk P w K mg base CX0 7 t.a_left_ways t.d_left_ways ["web", "wishes"] spLeft := by
  have G_land_numbers := ok_numbers (P := P) (w := w) (base := base) T
  have G_other_end := ok_other (P := P) (w := w) (base := base) T
  refine T.F_left_ways.ok sc_left_ways (fun vs H Q E h => ?_) (fun cdv A outer s H vs Q E hr h => ?_)
  · obtain ⟨wa, p, wA, bA, sA, n, ts, os, ws, bs, ss, rfl, _⟩ := h; rfl
  obtain ⟨wa, p, wA, bA, sA, n, ts, os, ws, bs, ss, rfl, hWeb, g, h40, hW, hwl', hbl, q⟩ := h
  have nd := sc_left_ways.nd
  refine ⟨_, (pss_cons (ps_set (i := 2) nd rfl (Or.inl rfl) (pe_ix ix_tup (pv 1) pe_int (fun _ _ => rfl)))
    (pss_cons (ps_set (i := 3) nd rfl (Or.inl rfl) (pe_ix ix_tup (pv 1) pe_int (fun _ _ => rfl)))
    (pss_cons (ps_set (i := 4) nd rfl (Or.inl rfl) (pe_call G_land_numbers (hr.mono (by decide)) rfl T.m_land_numbers T.k_land_numbers T.b_land_numbers .nil pass0 (pa_cons (pv 0) pa_nil)))
    (pss_cons (ps_set (i := 5) nd rfl (Or.inl rfl) (pe_lst pa_nil))
    (pss_cons (ps_for PassesOwn.never rfl (pi_enum rfl T.z_enumerate (pa_cons (pv 4) pa_nil)) (pg_tup rfl (pgs_cons (pg_name (i := 6) nd rfl (Or.inl rfl)) (pgs_cons (pg_name (i := 7) nd rfl (Or.inl rfl)) pgs_nil))) (pss_cons (ps_set (i := 8) nd rfl (Or.inl rfl) (pe_ix ix_list (pv 4) (pe_call G_other_end (hr.mono (by decide)) rfl T.m_other_end T.k_other_end T.b_other_end .nil pass0 (pa_cons (pv 6) pa_nil)) (fun _ _ => rfl)))
    (pss_one (ps_expr (pe_bm PySem.F.plainAttrs_list PySem.F.slot_list_append PySem.F.type_list_append mt_append (pv 5) (pa_cons (pe_tup (pa_cons (pe_op op_add (pe_ix ix_tup (pv 0) pe_int (fun _ _ => rfl)) (pv 7)) (pa_cons (pe_op op_add (pe_ix ix_tup (pv 0) pe_int (fun _ _ => rfl)) (pv 8)) (pa_cons pe_int (pa_cons (pe_ix ix_list (pv 3) (pe_op op_fdiv (pv 6) pe_int) (fun _ _ => rfl)) (pa_cons (pe_ix ix_list (pv 2) (pe_op op_fdiv (pv 6) pe_int) (fun _ _ => rfl)) pa_nil)))))) pa_nil))))))
    (pss_one (ps_ret (pv 5)))))))), ?_⟩
  refine ⟨_, rfl, p, _, _, _, rfl, rfl, SqT.of hW.tp, rfl, ?_⟩
  refine ⟨_, rfl, p, _, _, _, rfl, rfl, SqT.of hW.tp, rfl, ?_⟩
  refine ⟨_, rfl, wa, n, ts, os, rfl, hWeb, g, by omega, fun r nm H1 g1 hr0 er hnl hnm => ?_⟩
  have num : IsNum ts os nm := ⟨hnl, hnm⟩
  refine ⟨(by show 0 ≤ sizeLine; decide), fun wl hwl => ?_⟩
  have g0 := g1.trans (same_new hwl (.lst []))
  have er1 := same_new hwl (.lst []) _ _ er
  have nrl : r ≠ wl := ne_of_none er hwl
  have hwl0 : H wl = none := g1.free hwl
  refine ⟨_, rfl, r, rfl, ⟨_, SqL.of er1⟩, for_enum (xs := vns nm)
    (fun i σ H' => WaysAt H' wl ((List.range i).map (leftW n nm ws bs)) ∧ Same H H' ∧ H' r = some (.lst (vns nm)) ∧ ∃ o6 o7 o8 : Option V, σ = [some (.ref wa), some (.ref p), some (.ref wA), some (.ref bA), some (.ref r), some (.ref wl), o6, o7, o8])
    ⟨⟨[], upd_same, rfl, fun i w h => by simp at h⟩, g0, er1, _, _, _, rfl⟩ (fun i σ H' _ h => SqL.of h.2.2.1) ?_ ?_⟩
  · rintro i x σ H2 Tp hx ⟨⟨rs, e1, e2, e3⟩, g2, er2, o6, o7, o8, rfl⟩ hTp
    obtain ⟨hi, rfl⟩ := vns_at hx
    have hi' : i < 2 * ts.length := by omega
    have ho' : MM.oth i < 2 * ts.length := MM.oth_lt hi'
    have g3 := same_new hTp (.tup [vn i, vn (nm.getD i 0)])
    have g23 := g2.trans g3
    have e1' := g3 _ _ e1
    have er3 := g3 _ _ er2
    have hW3 := hW.mono g23
    obtain ⟨tA, oA, hw, _, _⟩ := id (hWeb.mono g23)
    have ei2 : ((i : Nat) : Int) / 2 = ((i / 2 : Nat) : Int) := by omega
    refine ⟨Tp, _, rfl, SqT.of upd_same, rfl, _, _, rfl, _, _, rfl, rfl, ?_⟩
    refine ⟨_, rfl, _, rfl, i, rfl, r, _, _, _, rfl, rfl, SqL.of er3, at_vns (j := MM.oth i) (by omega) rfl, ?_⟩
    refine ⟨_, rfl, .inl ⟨rfl, _, SqL.of e1'⟩, _, rfl, wa, _, _, _, rfl, rfl, SqT.of hw, rfl, _, rfl, _, _, rfl, rfl, _, rfl, wa, _, _, _, rfl, rfl, SqT.of hw, rfl, _, rfl, _, _, rfl, rfl,
      _, rfl, _, rfl, _, _, rfl, rfl, ⟨by decide, by decide⟩, bA, _, _, _, rfl, rfl, SqL.of hW3.b, atI_vo (j := i / 2) (by omega) ei2, _, rfl, _, rfl, _, _, rfl, rfl, ⟨by decide, by decide⟩, wA, _, _, _, rfl, rfl, SqL.of hW3.w, atI_get0 (j := i / 2) (by omega) ei2, (by show 5 ≤ sizeLine; decide), fun pp hpp => ?_⟩
    have g4 := same_new hpp (.tup [.int ((n : Int) + ((nm.getD i 0 : Nat) : Int)), .int ((n : Int) + ((nm.getD (MM.oth i) 0 : Nat) : Int)), .int 0, vo (ov bs (i / 2)), .int (at0 ws (i / 2))])
    refine ⟨wl, _, _, rfl, rfl, g4 _ _ e1', by rw [List.length_map, e2]; simp; exact Nat.lt_of_lt_of_le hi' (Nat.le_trans (by omega : 2 * ts.length ≤ 80) (by decide)), ?_, fun b o h => by rw [upd_ne (ne_of_none h hwl0)]; exact g4 _ _ (g23 _ _ h), by rw [upd_ne nrl]; exact g4 _ _ er3, _, _, _, rfl⟩
    rw [range_snoc]
    refine ways_push (g4 _ _ e1') e2 (fun j w hj => by obtain ⟨r', q1, q2⟩ := e3 j w hj; exact ⟨r', q1, g4 _ _ (g3 _ _ q2)⟩) ?_
    rw [upd_same]
    unfold wv leftW
    simp only [vn, Int.natCast_add]
  · rintro σ H2 ⟨hw2, g2, er2, o6, o7, o8, rfl⟩
    rw [List.length_map, hnl] at hw2
    exact ⟨_, rfl, q wl nm H2 g2 hwl0 num hw2⟩

def spWanted : Sp := fun vs H Q _ => ∃ (k o : Nat), vs = [vn k, vn o] ∧ Q (.int (if k = o then -4 else 4)) H
theorem ok_wanted (T : Txt K mg t) : FnOk P w K mg base CX0 1 t.a_wanted_sum t.d_wanted_sum ["number", "outer"] spWanted := by
  refine T.F_wanted_sum.ok sc_wanted_sum (fun vs H Q E h => ?_) (fun cdv A outer s H vs Q E hr h => ?_)
  · obtain ⟨k, o, rfl, _⟩ := h; rfl
  obtain ⟨k, o, rfl, q⟩ := h
  refine ⟨_, (pss_one (ps_ret (pe_ifExp (pt_cmpR op_eq (pv 0) (pv 1) (nomark _)) (pe_un un_neg (pe_glob (v := .int 4) rfl T.g_QUARTERS_ROUND ⟨_, rfl⟩)) (pe_glob (v := .int 4) rfl T.g_QUARTERS_ROUND ⟨_, rfl⟩)))), ?_⟩
  refine ⟨_, rfl, _, rfl, rfl, _, rfl, ite2 (fun c => ?_) (fun c => ?_)⟩
  · have : k = o := by
      have c' : V.int (k : Int) = V.int (o : Int) := of_decide_eq_true c
      have := V.int.inj c'
      omega
    rw [if_pos this] at q
    exact ⟨_, rfl, q⟩
  · have : ¬ k = o := fun z => c (by subst z; exact decide_eq_true rfl)
    rw [if_neg this] at q
    exact q

def spNetOf : Sp := fun vs H Q _ => ∃ (wa p wA bA sA : Addr) (n o : Nat) (ts : MM.Ties) (os : MM.Ords) (ws : List Int) (bs ss : List (Option Int)), vs = [.ref wa, vn o, .ref p] ∧ WebAt H wa n ts os ∧ MM.Good ts os ∧ ts.length ≤ 40 ∧ n ≤ 40 ∧ o < (LL ts os).length ∧ WsAt H p wA bA sA ws bs ss ∧ ws.length = ts.length ∧ bs.length = ts.length ∧ ss.length = 2 * ts.length ∧
  ∀ (r na wl : Addr) (nm : List Nat) (H' : Hp), Same H H' → H na = none → H wl = none → na ≠ wl → IsNum ts os nm → NetAt H' r na wl (needsOf n (LL ts os) o) (waysOf n ts nm ws bs ss) → Q (.ref r) H'
theorem ok_netof (T : Txt K mg t) : FnOk P w K mg base CX0 8 t.a_net_of t.d_net_of ["web", "outer", "wishes"] spNetOf := by
  have G_lands := ok_lands (P := P) (w := w) (base := base) T
  have G_corner_ways := ok_corner (P := P) (w := w) (base := base) T
  have G_left_ways := ok_left (P := P) (w := w) (base := base) T
  have G_wanted_sum := ok_wanted (P := P) (w := w) (base := base) T
  refine T.F_net_of.ok sc_net_of (fun vs H Q E h => ?_) (fun cdv A outer s H vs Q E hr h => ?_)
  · obtain ⟨wa, p, wA, bA, sA, n, o, ts, os, ws, bs, ss, rfl, _⟩ := h; rfl
  obtain ⟨wa, p, wA, bA, sA, n, o, ts, os, ws, bs, ss, rfl, hWeb, g, h40, hn40, ho, hW, hwl', hbl, hsl, q⟩ := h
  have nd := sc_net_of.nd
  have nd_place : (["place"] : List Str).Nodup := by decide
  have hLN : (LL ts os).length ≤ 2 * ts.length := by
    have := MM.lf_len g.maps _ (List.range (2 * ts.length)) (Nat.le_refl _) (fun z hz => List.mem_range.mp hz)
    rw [List.length_range] at this
    exact this
  refine ⟨_, (pss_cons (ps_setComp (i := 3) nd rfl (Or.inl rfl)  (N' := ["place"]) (js := [none]) rfl (pi_range1 rfl T.z_range (pa_cons (pe_ix ix_tup (pv 0) pe_int (fun _ _ => rfl)) pa_nil)) (fun _ _ _ _ _ => (pg_name (i := 0) nd_place rfl (Or.inl rfl))) (fun _ _ _ _ _ => pf_nil) (fun _ _ _ _ _ => (pe_glob (v := .int 4) rfl T.g_QUARTERS_ROUND ⟨_, rfl⟩)))
    (pss_cons (ps_for PassesOwn.never rfl (pi_enum rfl T.z_enumerate (pa_cons (pe_call G_lands (hr.mono (by decide)) rfl T.m_lands T.k_lands T.b_lands .nil pass0 (pa_cons (pv 0) pa_nil)) pa_nil)) (pg_tup rfl (pgs_cons (pg_name (i := 4) nd rfl (Or.inl rfl)) (pgs_cons (pg_name (i := 5) nd rfl (Or.inl rfl)) pgs_nil))) (pss_one (ps_expr (pe_bm PySem.F.plainAttrs_list PySem.F.slot_list_append PySem.F.type_list_append mt_append (pv 3) (pa_cons (pe_op op_sub (pe_call G_wanted_sum (hr.mono (by decide)) rfl T.m_wanted_sum T.k_wanted_sum T.b_wanted_sum .nil pass0 (pa_cons (pv 4) (pa_cons (pv 1) pa_nil))) (pe_op op_mul pe_int (pe_callB call_len_seq rfl T.z_len PySem.boot_len (pa_cons (pv 5) pa_nil)))) pa_nil)))))
    (pss_one (ps_ret (pe_tup (pa_cons (pv 3) (pa_cons (pe_op op_cat (pe_call G_corner_ways (hr.mono (by decide)) rfl T.m_corner_ways T.k_corner_ways T.b_corner_ways .nil pass0 (pa_cons (pv 0) (pa_cons (pe_ix ix_tup (pv 2) pe_int (fun _ _ => rfl)) pa_nil))) (pe_call G_left_ways (hr.mono (by decide)) rfl T.m_left_ways T.k_left_ways T.b_left_ways .nil pass0 (pa_cons (pv 0) (pa_cons (pv 2) pa_nil)))) pa_nil))))))), ?_⟩
  obtain ⟨tA, oA, hw, _, _⟩ := id hWeb
  refine ⟨_, rfl, wa, _, _, _, rfl, rfl, SqT.of hw, rfl, _, rfl, by omega, by omega, fun na hna => ?_⟩
  refine comp_pure ((n : Int)).toNat (fun _ => .int 4) hna (by omega) (fun i H' hi _ => hi) (fun H' _ => Nat.le_refl _) ?_ ?_
  · rintro i H' x H'' k hi g2 ⟨rfl, rfl⟩ hk
    exact ⟨(Fills.refl _).set _ rfl, hk _ (Same.refl _)⟩
  intro H1 g1 ena
  rw [show (List.range ((n : Int)).toNat).map (fun _ => V.int 4) = (List.replicate n (4 : Int)).map V.int by
    have : ((n : Int)).toNat = n := by omega
    rw [this]
    apply List.ext_getElem?
    intro i
    by_cases h : i < n
    · simp [h]
    · simp [h]] at ena
  dsimp only [gName]
  refine ⟨_, rfl, wa, n, ts, os, rfl, hWeb.mono g1, g, by omega, fun r rr H2 g2 nos => ?_⟩
  have g12 := g1.trans g2
  have ena2 := g2 _ _ ena
  have nrr : na ≠ r := fun z => by have := nos.new; rw [← z, ena] at this; cases this
  have nrx : ∀ x ∈ rr, x ≠ na := fun x hx z => by have := nos.news x hx; rw [z, ena] at this; cases this
  refine ⟨r, rfl, ⟨_, SqL.of nos.at_⟩, for_enum (xs := rr.map V.ref)
    (fun i σ H' => Same H H' ∧ H' r = some (.lst (rr.map V.ref)) ∧ (∀ (j : Nat) l, (LL ts os)[j]? = some l → ∃ x, rr[j]? = some x ∧ H' x = some (.lst (vns l))) ∧ H' na = some (.lst ((List.replicate n (4 : Int) ++ (List.range i).map (needOf (LL ts os) o)).map V.int)) ∧ ∃ o4 o5 : Option V, σ = [some (.ref wa), some (vn o), some (.ref p), some (.ref na), o4, o5])
    ⟨g12, nos.at_, nos.row, by simpa using ena2, _, _, rfl⟩ (fun i σ H' _ h => SqL.of h.2.1) ?_ ?_⟩
  · rintro i x σ H3 Tp hx ⟨g3, er3, hrow, en3, o4, o5, rfl⟩ hTp
    obtain ⟨y, hy, rfl⟩ := refs_at hx
    have hil : i < (LL ts os).length := by rw [← nos.len]; exact (List.getElem?_eq_some_iff.mp hy).1
    obtain ⟨y', hy', ey⟩ := hrow i _ (List.getElem?_eq_getElem hil)
    rw [hy] at hy'; cases hy'
    have g4 := same_new hTp (.tup [vn i, .ref y])
    have en4 := g4 _ _ en3
    have ey4 := g4 _ _ ey
    refine ⟨Tp, _, rfl, SqT.of upd_same, rfl, _, _, rfl, _, _, rfl, rfl, ?_⟩
    refine ⟨_, rfl, .inl ⟨rfl, _, SqL.of en4⟩, _, rfl, _, rfl, i, o, rfl, _, rfl, y, _, rfl, .inl (SqL.of ey4), _, _, rfl, rfl, .inl ⟨by decide, by decide⟩, _, _, rfl, rfl, na, _, _, rfl, rfl, en4, ?_, ?_⟩
    · simp
      exact Nat.lt_of_lt_of_le (by omega : n + i < 200) (by decide)
    refine ⟨fun b o' h => by rw [upd_ne (ne_of_none h hna)]; exact g4 _ _ (g3 _ _ h), by rw [upd_ne nrr.symm]; exact g4 _ _ er3, fun j l hl => ?_, ?_, _, _, rfl⟩
    · obtain ⟨x, q1, q2⟩ := hrow j l hl
      exact ⟨x, q1, by rw [upd_ne (nrx x (List.mem_of_getElem? q1))]; exact g4 _ _ q2⟩
    · rw [upd_same, range_snoc, ← List.append_assoc, List.map_append (l₂ := [needOf (LL ts os) o i])]
      have e : needOf (LL ts os) o i = (if i = o then -4 else 4) - 2 * (((vns (LL ts os)[i]).length : Nat) : Int) := by
        unfold needOf
        simp [List.getD, hil]
      rw [e]
      rfl
  rintro σ H3 ⟨g3, er3, hrow, en3, o4, o5, rfl⟩
  rw [List.length_map, nos.len] at en3
  have hW3 := hW.mono g3
  refine ⟨_, rfl, _, rfl, _, rfl, p, _, _, _, rfl, rfl, SqT.of hW3.tp, rfl, wa, sA, n, ts, os, ss, rfl, hWeb.mono g3, g, h40, hW3.s, hsl, fun c1 nm H4 g4 hc1 num hc => ?_⟩
  have g34 := g3.trans g4
  refine ⟨_, rfl, _, rfl, wa, p, wA, bA, sA, n, ts, os, ws, bs, ss, rfl, hWeb.mono g34, g, h40, hW.mono g34, hwl', hbl, fun c2 nm' H5 g5 hc2 num' hl => ?_⟩
  have enm := IsNum.uniq g num num'
  subst enm
  obtain ⟨rs1, a1, a2, a3⟩ := hc.mono g5
  obtain ⟨rs2, b1, b2, b3⟩ := hl
  refine ⟨c1, c2, _, _, rfl, rfl, a1, b1, by rw [List.length_map, List.length_map, a2, b2]; simp; exact Nat.le_trans (by omega : 2 * ts.length + 2 * ts.length ≤ 200) (by decide), fun wl hwl => ?_⟩
  have g6 := same_new hwl (.lst (rs1.map V.ref ++ rs2.map V.ref))
  have g35 := g4.trans g5
  refine ⟨(by show 2 ≤ sizeLine; decide), fun r' hr' => ?_⟩
  have g7 := same_new hr' (.tup [.ref na, .ref wl])
  have en6 := g6 _ _ (g35 _ _ en3)
  refine q r' na wl nm _ (((g3.trans g35).trans g6).trans g7) hna ((g3.trans g35).free hwl) (ne_of_none (g35 _ _ en3) hwl) num ⟨upd_same, g7 _ _ en6, WaysAt.mono (ways_cat a2 a3 b2 b3 hwl) g7⟩
end K22

namespace L2
open PySem PyProof.Rows
theorem putK_len {κ : Type} [DecidableEq κ] (kvs : List (κ × V)) (k : κ) (v : V) : (putK kvs k v).length ≤ kvs.length + 1 := by
  unfold putK; split <;> simp
end L2
namespace K22
open PySem L2 PyProof.Rows NM
variable {P : Program} {w : World} {K : PySem.W.Frag} {mg : Str → Option Value} {base : Heap} {t : Adr}
theorem LL_lt {ts : MM.Ties} {os : MM.Ords} (g : MM.Good ts os) {k : Nat} {d : List Nat} (h : (LL ts os)[k]? = some d) : d.length ≤ 2 * ts.length ∧ ∀ x ∈ d, x < 2 * ts.length := by
  obtain ⟨e, he, rfl⟩ := MM.lf_mem g.maps _ (List.range (2 * ts.length)) (Nat.le_refl _) (fun z hz => List.mem_range.mp hz) d (List.mem_of_getElem? h)
  exact ⟨(MM.land_len g.maps (List.mem_range.mp he)).2, MM.land_lt g.maps (List.mem_range.mp he)⟩
theorem LL_uniq {ts : MM.Ties} {os : MM.Ords} (g : MM.Good ts os) {k k' : Nat} {d d' : List Nat} {x : Nat} (h : (LL ts os)[k]? = some d) (hx : x ∈ d) (h' : (LL ts os)[k']? = some d') (hx' : x ∈ d') : k = k' := by
  obtain ⟨j, _, _, _, u⟩ := MM.landsOf_one g.maps ((LL_lt g h).2 x hx)
  rw [u k d h hx, u k' d' h' hx']
theorem num_ex {ts : MM.Ties} {os : MM.Ords} (g : MM.Good ts os) : ∃ nm, IsNum ts os nm := by
  have h : ∀ x : Nat, ∃ k : Nat, ∀ (j : Nat) (d : List Nat), (LL ts os)[j]? = some d → x ∈ d → j = k := fun x => by
    by_cases hx : x < 2 * ts.length
    · obtain ⟨k, _, _, _, u⟩ := MM.landsOf_one g.maps hx
      exact ⟨k, u⟩
    · exact ⟨0, fun j d hj hd => absurd ((LL_lt g hj).2 x hd) hx⟩
  refine ⟨(List.range (2 * ts.length)).map fun x => Classical.choose (h x), by simp, fun k d x hk hx => ?_⟩
  have hlt := (LL_lt g hk).2 x hx
  rw [List.getD_eq_getElem?_getD, List.getElem?_map, List.getElem?_range hlt]
  exact (Classical.choose_spec (h x) k d hk hx).symm
def need0 (ll : List (List Nat)) (k : Nat) : Int := 4 - 2 * ((ll.getD k []).length : Int)
theorem needs_eq (n : Nat) (ll : List (List Nat)) (o : Nat) (ho : o < ll.length) : (List.replicate n 4 ++ (List.range ll.length).map (need0 ll)).set (n + o) (at0 (List.replicate n 4 ++ (List.range ll.length).map (need0 ll)) (n + o) - 8) = needsOf n ll o := by
  have ha : at0 (List.replicate n 4 ++ (List.range ll.length).map (need0 ll)) (n + o) = need0 ll o := by
    unfold at0
    rw [List.getD_eq_getElem?_getD, List.getElem?_append_right (by simp), List.length_replicate, Nat.add_sub_cancel_left, List.getElem?_map, List.getElem?_range ho]
    rfl
  rw [ha]
  unfold needsOf
  apply List.ext_getElem?
  intro i
  rw [List.getElem?_set]
  by_cases h1 : n + o = i
  · subst h1
    rw [if_pos rfl, if_pos (by simp; omega), List.getElem?_append_right (by simp), List.length_replicate, Nat.add_sub_cancel_left, List.getElem?_map, List.getElem?_range ho]
    unfold needOf need0
    simp
    omega
  · rw [if_neg h1]
    by_cases h2 : i < n
    · rw [List.getElem?_append_left (by simpa using h2), List.getElem?_append_left (by simpa using h2)]
    · rw [List.getElem?_append_right (by simp; omega), List.getElem?_append_right (by simp; omega), List.length_replicate, List.getElem?_map, List.getElem?_map]
      by_cases h3 : i - n < ll.length
      · rw [List.getElem?_range h3]
        unfold needOf need0
        rw [Option.map_some, Option.map_some, if_neg (by omega)]
      · rw [List.getElem?_eq_none (by simp; omega)]; rfl
def spLNetOf : Sp := fun vs H Q _ => ∃ (wa p wA bA sA : Addr) (n o : Nat) (ts : MM.Ties) (os : MM.Ords) (ws : List Int) (bs ss : List (Option Int)), vs = [.ref wa, vn o, .ref p] ∧ WebAt H wa n ts os ∧ MM.Good ts os ∧ ts.length ≤ 40 ∧ n ≤ 40 ∧ o < (LL ts os).length ∧ WsAt H p wA bA sA ws bs ss ∧ ws.length = ts.length ∧ bs.length = ts.length ∧ ss.length = 2 * ts.length ∧
  ∀ (r na wl : Addr) (nm : List Nat) (H' : Hp), Same H H' → IsNum ts os nm → NetAt H' r na wl (needsOf n (LL ts os) o) (waysOf n ts nm ws bs ss) → Q (.ref r) H'
theorem ok_lnetof (T : Txt K mg t) : FnOk P w K mg base CX0 4 t.a_l_net_of t.d_l_net_of ["_law_web", "_law_outer", "_law_wishes_here"] spLNetOf := by
  have G_l_lands := ok_llands (P := P) (w := w) (base := base) T
  have G_l_other := ok_lother (P := P) (w := w) (base := base) T
  have G_l_place := ok_lplace (P := P) (w := w) (base := base) T
  refine T.F_l_net_of.ok sc_l_net_of (fun vs H Q E h => ?_) (fun cdv A outer s H vs Q E hr h => ?_)
  · obtain ⟨wa, p, wA, bA, sA, n, o, ts, os, ws, bs, ss, rfl, _⟩ := h; rfl
  obtain ⟨wa, p, wA, bA, sA, n, o, ts, os, ws, bs, ss, rfl, hWeb, g, h40, hn40, ho, hW, hwl', hbl, hsl, q⟩ := h
  have nd := sc_l_net_of.nd
  have hu := Nat.lt_of_le_of_lt (Nat.add_le_add_left (by decide : 1 ≤ 64) _) hr.units
  have nd_l_place_here : (["_law_place_here"] : List Str).Nodup := by decide
  have nd_l_land : (["_law_land"] : List Str).Nodup := by decide
  have hLN : (LL ts os).length ≤ 2 * ts.length := by
    have := MM.lf_len g.maps _ (List.range (2 * ts.length)) (Nat.le_refl _) (fun z hz => List.mem_range.mp hz)
    rw [List.length_range] at this
    exact this
  obtain ⟨nm, num⟩ := num_ex g
  refine ⟨_, (pss_cons (ps_asg (pv 0) (pg_tup rfl (pgs_cons (pg_name (i := 3) nd rfl (Or.inl rfl)) (pgs_cons (pg_name (i := 4) nd rfl (Or.inl rfl)) (pgs_cons (pg_name (i := 5) nd rfl (Or.inl rfl)) pgs_nil)))))
    (pss_cons (ps_set (i := 6) nd rfl (Or.inl rfl) (pe_call G_l_lands (hr.mono (by decide)) rfl T.m_l_lands T.k_l_lands T.b_l_lands .nil pass0 (pa_cons (pv 4) (pa_cons (pv 5) pa_nil))))
    (pss_cons (ps_set (i := 7) nd rfl (Or.inl rfl) pe_dnewK)
    (pss_cons (ps_for PassesOwn.never rfl (pi_enum rfl T.z_enumerate (pa_cons (pv 6) pa_nil)) (pg_tup rfl (pgs_cons (pg_name (i := 8) nd rfl (Or.inl rfl)) (pgs_cons (pg_name (i := 9) nd rfl (Or.inl rfl)) pgs_nil))) (pss_one (ps_for PassesOwn.never rfl (pi_list (pv 9)) (pg_name (i := 10) nd rfl (Or.inl rfl)) (pss_one (ps_dput hu (pv 7) (pv 10) (pe_op op_add (pv 3) (pv 8)) rfl)))))
    (pss_cons (ps_set (i := 11) nd rfl (Or.inl rfl) (pe_op op_cat (pe_comp (N' := ["_law_place_here"]) (js := [none]) rfl (pi_range1 rfl T.z_range (pa_cons (pv 3) pa_nil)) (fun _ _ _ _ _ => (pg_name (i := 0) nd_l_place_here rfl (Or.inl rfl))) (fun _ _ _ _ _ => pf_nil) (fun _ _ _ _ _ => pe_int)) (pe_comp (N' := ["_law_land"]) (js := [none]) rfl (pi_list (pv 6)) (fun _ _ _ _ _ => (pg_name (i := 0) nd_l_land rfl (Or.inl rfl))) (fun _ _ _ _ _ => pf_nil) (fun _ _ _ _ _ => (pe_op op_sub pe_int (pe_op op_mul pe_int (pe_callB (kcall_len (K := K) rfl) rfl T.z_len PySem.boot_len (pa_cons (pv 0) pa_nil))))))))
    (pss_cons (ps_asg (pe_op op_sub (pe_ix ix_list (pv 11) (pe_op op_add (pv 3) (pv 1)) (fun _ _ => rfl)) pe_int) (pg_sub (pv 11) (pe_op op_add (pv 3) (pv 1)) set_list))
    (pss_cons (ps_set (i := 12) nd rfl (Or.inl rfl) (pe_lst pa_nil))
    (pss_cons (ps_for PassesOwn.never rfl (pi_range1 rfl T.z_range (pa_cons (pe_op op_mul pe_int (pe_callB call_len_seq rfl T.z_len PySem.boot_len (pa_cons (pv 4) pa_nil))) pa_nil)) (pg_name (i := 10) nd rfl (Or.inl rfl)) (pss_cons (ps_set (i := 13) nd rfl (Or.inl rfl) (pe_ix ix_list (pe_ix ix_tup (pv 2) pe_int (fun _ _ => rfl)) (pv 10) (fun _ _ => rfl)))
    (pss_cons (ps_set (i := 14) nd rfl (Or.inl rfl) (pe_ix ix_list (pe_lst (pa_cons (pv 13) (pa_cons pe_int pa_nil))) (pe_callTy call_int1 rfl T.z_int boot_int (pa_cons (pe_cmpR op_isN (pv 13) pe_non (nomark _)) pa_nil)) (fun _ _ => rfl)))
    (pss_cons (ps_set (i := 15) nd rfl (Or.inl rfl) (pe_ix ix_list (pe_lst (pa_cons (pv 13) (pa_cons pe_int pa_nil))) (pe_callTy call_int1 rfl T.z_int boot_int (pa_cons (pe_cmpR op_isN (pv 13) pe_non (nomark _)) pa_nil)) (fun _ _ => rfl)))
    (pss_one (ps_expr (pe_bm PySem.F.plainAttrs_list PySem.F.slot_list_append PySem.F.type_list_append mt_append (pv 12) (pa_cons (pe_tup (pa_cons (pe_call G_l_place (hr.mono (by decide)) rfl T.m_l_place T.k_l_place T.b_l_place .nil pass0 (pa_cons (pv 4) (pa_cons (pe_call G_l_other (hr.mono (by decide)) rfl T.m_l_other T.k_l_other T.b_l_other .nil pass0 (pa_cons (pv 10) pa_nil)) pa_nil))) (pa_cons (pe_dget hu (pv 7) (pv 10) (fun _ _ => rfl)) (pa_cons (pv 14) (pa_cons (pv 15) (pa_cons pe_int pa_nil)))))) pa_nil))))))))
    (pss_cons (ps_for PassesOwn.never rfl (pi_range1 rfl T.z_range (pa_cons (pe_op op_mul pe_int (pe_callB call_len_seq rfl T.z_len PySem.boot_len (pa_cons (pv 4) pa_nil))) pa_nil)) (pg_name (i := 10) nd rfl (Or.inl rfl)) (pss_one (ps_expr (pe_bm PySem.F.plainAttrs_list PySem.F.slot_list_append PySem.F.type_list_append mt_append (pv 12) (pa_cons (pe_tup (pa_cons (pe_dget hu (pv 7) (pv 10) (fun _ _ => rfl)) (pa_cons (pe_dget hu (pv 7) (pe_call G_l_other (hr.mono (by decide)) rfl T.m_l_other T.k_l_other T.b_l_other .nil pass0 (pa_cons (pv 10) pa_nil)) (fun _ _ => rfl)) (pa_cons pe_int (pa_cons (pe_ix ix_list (pe_ix ix_tup (pv 2) pe_int (fun _ _ => rfl)) (pe_op op_fdiv (pv 10) pe_int) (fun _ _ => rfl)) (pa_cons (pe_ix ix_list (pe_ix ix_tup (pv 2) pe_int (fun _ _ => rfl)) (pe_op op_fdiv (pv 10) pe_int) (fun _ _ => rfl)) pa_nil)))))) pa_nil)))))
    (pss_one (ps_ret (pe_tup (pa_cons (pv 11) (pa_cons (pv 12) pa_nil)))))))))))))), ?_⟩
  obtain ⟨tA, oA, hw, hts, hos⟩ := id hWeb
  refine ⟨_, rfl, wa, _, rfl, SqT.of hw, rfl, _, _, rfl, _, _, rfl, _, _, rfl, rfl, ?_⟩
  refine ⟨_, rfl, _, rfl, tA, oA, ts, os, rfl, hts, hos, g, by omega, fun r rr H1 g1 nos => ?_⟩
  intro d hd
  have g1d := same_new hd (.dK [])
  -- the numbers of the ends
  refine ⟨_, rfl, r, rfl, ⟨_, SqL.of (g1d _ _ nos.at_)⟩, for_enum (xs := rr.map V.ref)
    (fun i σ H' => Same H1 H' ∧ (∃ kvs, H' d = some (.dK kvs) ∧ kvs.length ≤ 100 * i ∧ ∀ (k : Nat) l x, k < i → (LL ts os)[k]? = some l → x ∈ l → valV kvs (Sum.inl ((x : Nat) : Int)) = some (.int ((n : Int) + (k : Int)))) ∧
      ∃ o8 o9 o10 : Option V, σ = [some (.ref wa), some (vn o), some (.ref p), some (vn n), some (.ref tA), some (.ref oA), some (.ref r), some (.ref d), o8, o9, o10, none, none, none, none, none])
    ⟨g1d, ⟨[], upd_same, Nat.le_refl _, fun k l x hk => absurd hk (by omega)⟩, _, _, _, rfl⟩ (fun i σ H' _ h => SqL.of (h.1 _ _ nos.at_)) ?_ ?_⟩
  · rintro i x σ H2 Tp hx ⟨g2, ⟨kvs, ed, hkl, hkv⟩, o8, o9, o10, rfl⟩ hTp
    obtain ⟨y, hy, rfl⟩ := refs_at hx
    have hil : i < (LL ts os).length := by rw [← nos.len]; exact (List.getElem?_eq_some_iff.mp hy).1
    have hli := List.getElem?_eq_getElem hil
    obtain ⟨y', hy', ey⟩ := nos.row i _ hli
    rw [hy] at hy'; cases hy'
    generalize (LL ts os)[i] = l at hli ey
    have hll := LL_lt g hli
    have g3 := same_new hTp (.tup [vn i, .ref y])
    have g23 := g2.trans g3
    refine ⟨Tp, _, rfl, SqT.of upd_same, rfl, _, _, rfl, _, _, rfl, rfl, ?_⟩
    refine ⟨_, rfl, y, rfl, ⟨_, SqL.of (g23 _ _ ey)⟩, for_list (xs := vns l)
      (fun j σ H' => Same H1 H' ∧ (∃ kvs, H' d = some (.dK kvs) ∧ kvs.length ≤ 100 * i + j ∧ (∀ (k : Nat) l x, k < i → (LL ts os)[k]? = some l → x ∈ l → valV kvs (Sum.inl ((x : Nat) : Int)) = some (.int ((n : Int) + (k : Int)))) ∧ ∀ x ∈ l.take j, valV kvs (Sum.inl ((x : Nat) : Int)) = some (.int ((n : Int) + (i : Int)))) ∧
        ∃ o10 : Option V, σ = [some (.ref wa), some (vn o), some (.ref p), some (vn n), some (.ref tA), some (.ref oA), some (.ref r), some (.ref d), some (vn i), some (.ref y), o10, none, none, none, none, none])
      ⟨g23, ⟨kvs, g3 _ _ ed, by omega, hkv, fun x hx => by simp at hx⟩, _, rfl⟩ (fun j σ H' _ h => SqL.of (h.1 _ _ ey)) ?_ ?_⟩
    · rintro j x σ H3 hx ⟨g4, ⟨kvs, ed, hkl, hkv, hkt⟩, o10, rfl⟩
      obtain ⟨hj, rfl⟩ := vns_at hx
      have hmem : l.getD j 0 ∈ l := by simp [List.getD, hj]
      refine ⟨_, rfl, _, rfl, _, _, rfl, rfl, _, rfl, _, rfl, d, _, rfl, DPut.k (k := Sum.inl ((l.getD j 0 : Nat) : Int)) ed (Nat.lt_of_le_of_lt hkl (Nat.lt_of_lt_of_le (by omega : 100 * i + j < 10000) (by decide))), ?_⟩
      refine ⟨fun b o' h => by rw [upd_ne (ne_of_none h hd)]; exact g4 _ _ h, ⟨_, upd_same, Nat.le_trans (putK_len _ _ _) (by omega), fun k l' x' hk hl' hx' => ?_, fun x' hx' => ?_⟩, _, rfl⟩
      · rw [valV_put, if_neg]
        · exact hkv k l' x' hk hl' hx'
        · intro z
          have e : x' = l.getD j 0 := by have := Sum.inl.inj z; omega
          rw [e] at hx'
          have := LL_uniq g hl' hx' hli hmem
          omega
      · rw [valV_put]
        by_cases e : x' = l.getD j 0
        · rw [if_pos (by rw [e])]
        · rw [if_neg (fun z => e (by have := Sum.inl.inj z; omega))]
          rw [List.take_succ, List.getElem?_eq_getElem hj] at hx'
          rcases List.mem_append.mp hx' with h | h
          · exact hkt x' h
          · exfalso
            apply e
            simp at h
            simp [List.getD, hj, h]
    · rintro σ H3 ⟨g4, ⟨kvs, ed, hkl, hkv, hkt⟩, o10, rfl⟩
      rw [List.length_map] at hkl hkt
      rw [List.take_length] at hkt
      refine ⟨g4, ⟨kvs, ed, by omega, fun k l' x' hk hl' hx' => ?_⟩, _, _, _, rfl⟩
      by_cases e : k = i
      · subst e
        rw [hli] at hl'; cases hl'
        exact hkt x' hx'
      · exact hkv k l' x' (by omega) hl' hx'
  rintro σ H2 ⟨g2, ⟨kvs, ed, hkl, hkv⟩, o8, o9, o10, rfl⟩
  rw [List.length_map, nos.len] at hkv
  have hby : ∀ x, x < 2 * ts.length → valV kvs (Sum.inl ((x : Nat) : Int)) = some (.int ((n : Int) + ((nm.getD x 0 : Nat) : Int))) := fun x hx => by
    obtain ⟨k, l, h1, h2, _⟩ := MM.landsOf_one g.maps hx
    rw [num.at_ k l x h1 h2]
    exact hkv k l x (List.getElem?_eq_some_iff.mp h1).1 h1 h2
  have g02 := g1.trans g2
  -- needs
  refine ⟨_, rfl, _, rfl, by omega, by omega, fun D1 hD1 => ?_⟩
  refine comp_pure ((n : Int)).toNat (fun _ => .int 4) hD1 (by omega) (fun i H' hi _ => hi) (fun H' _ => Nat.le_refl _) ?_ ?_
  · rintro i H' x H'' k hi g' ⟨rfl, rfl⟩ hk
    exact ⟨(Fills.refl _).set _ rfl, hk _ (Same.refl _)⟩
  intro H3 g3 eD1
  rw [show (List.range ((n : Int)).toNat).map (fun _ => V.int 4) = (List.replicate n (4 : Int)).map V.int by
    have : ((n : Int)).toNat = n := by omega
    rw [this]
    apply List.ext_getElem?
    intro i
    by_cases h : i < n
    · simp [h]
    · simp [h]] at eD1
  have g13 := g2.trans g3
  refine ⟨_, rfl, r, rfl, ⟨_, SqL.of (g13 _ _ nos.at_)⟩, fun D2 hD2 => ?_⟩
  have lrr : ∀ {i : Nat}, i < (LL ts os).length → ∃ y, (rr.map V.ref)[i]? = some (.ref y) ∧ H1 y = some (.lst (vns ((LL ts os).getD i []))) := fun {i} hi => by
    obtain ⟨y, q1, q2⟩ := nos.row i _ (List.getElem?_eq_getElem hi)
    refine ⟨y, by rw [List.getElem?_map, q1]; rfl, ?_⟩
    simp only [List.getD, List.getElem?_eq_getElem hi, Option.getD_some]
    exact q2
  refine comp_pure (LL ts os).length (fun k => .int (need0 (LL ts os) k)) hD2 (by omega) (fun i H' hi g' => by obtain ⟨y, q1, _⟩ := lrr hi; exact ⟨_, _, SqL.of (g' _ _ (g13 _ _ nos.at_)), q1⟩) (fun H' g' => ⟨_, SqL.of (g' _ _ (g13 _ _ nos.at_)), by rw [List.length_map, nos.len]; exact Nat.le_refl _⟩) ?_ ?_
  · rintro i H' x H'' k hi g' ⟨rfl, hx⟩ hk
    obtain ⟨y, q1, q2⟩ := lrr hi
    have ex := hx _ (SqL.of (g' _ _ (g13 _ _ nos.at_)))
    rw [q1] at ex; cases ex
    refine ⟨(Fills.refl _).set _ rfl, _, rfl, y, _, rfl, .inl (SqL.of (g' _ _ (g13 _ _ q2))), _, _, rfl, rfl, .inl ⟨by decide, by decide⟩, _, _, rfl, rfl, ?_⟩
    have := hk _ (Same.refl H'')
    unfold need0 at this
    rw [List.length_map]
    exact this
  intro H4 g4 eD2
  rw [show (List.range (LL ts os).length).map (fun k => V.int (need0 (LL ts os) k)) = ((List.range (LL ts os).length).map (need0 (LL ts os))).map V.int by rw [List.map_map]; rfl] at eD2
  refine ⟨D1, D2, _, _, rfl, rfl, g4 _ _ eD1, eD2, by simp; exact Nat.le_trans (by omega : n + (LL ts os).length ≤ 200) (by decide), fun na hna => ?_⟩
  rw [← List.map_append]
  have g5 := same_new hna (.lst ((List.replicate n (4 : Int) ++ (List.range (LL ts os).length).map (need0 (LL ts os))).map V.int))
  have e5 : (upd H4 na (.lst ((List.replicate n (4 : Int) ++ (List.range (LL ts os).length).map (need0 (LL ts os))).map V.int))) na = some (.lst ((List.replicate n (4 : Int) ++ (List.range (LL ts os).length).map (need0 (LL ts os))).map V.int)) := upd_same
  have hle : (List.replicate n (4 : Int) ++ (List.range (LL ts os).length).map (need0 (LL ts os))).length = n + (LL ts os).length := by simp
  have eno : (n : Int) + (o : Int) = ((n + o : Nat) : Int) := (Int.natCast_add n o).symm
  generalize hL0 : List.replicate n (4 : Int) ++ (List.range (LL ts os).length).map (need0 (LL ts os)) = L0 at g5 e5 hle
  have g25 := (g3.trans g4).trans g5
  have hna2 : H2 na = none := (g3.trans g4).free hna
  generalize upd H4 na (.lst (L0.map V.int)) = H5 at g5 e5 g25
  refine ⟨_, rfl, _, rfl, _, rfl, _, _, rfl, rfl, na, _, _, _, rfl, rfl, SqL.of e5, atI_get0 (j := n + o) (by omega) eno, _, _, rfl, rfl, _, rfl, _, rfl, _, rfl, _, _, rfl, rfl, na, _, _, n + o, rfl, rfl, e5, ixN_ok (by rw [List.length_map]; omega) eno, ?_⟩
  have e6 : (L0.map V.int).set (n + o) (V.int (at0 L0 (n + o) - 8)) = (needsOf n (LL ts os) o).map V.int := by
    rw [← needs_eq n (LL ts os) o ho, hL0, List.map_set]
  rw [e6]
  have g6 : Same H2 (upd H5 na (.lst ((needsOf n (LL ts os) o).map V.int))) := fun b o' h => by rw [upd_ne (ne_of_none h hna2)]; exact g25 _ _ h
  have e7 : (upd H5 na (.lst ((needsOf n (LL ts os) o).map V.int))) na = some (.lst ((needsOf n (LL ts os) o).map V.int)) := upd_same
  generalize upd H5 na (.lst ((needsOf n (LL ts os) o).map V.int)) = H6 at g6 e7
  -- ways
  refine ⟨(by show 0 ≤ sizeLine; decide), fun wl hwl => ?_⟩
  have g7 := same_new hwl (.lst [])
  have g06 := g02.trans g6
  have ed6 := g6 _ _ ed
  have htl : ∀ {H' : Hp}, Same H H' → ∃ tr : List V, H' tA = some (.lst tr) ∧ tr.length = ts.length := fun gg => by
    obtain ⟨tr, q1, q2, _⟩ := hts
    exact ⟨_, gg _ _ q1, by rw [List.length_map]; exact q2⟩
  obtain ⟨tr7, t1, t2⟩ := htl (g06.trans g7)
  have fin1 : ∀ {i : Nat} {H' : Hp} {rs : List Addr} (lo hi : Int), lo = (ov ss i).getD 1 → hi = (ov ss i).getD 4 → H' wl = some (.lst (rs.map V.ref)) → rs.length = ((List.range i).map (cornerW n ts nm ss)).length → (∀ (j : Nat) w, ((List.range i).map (cornerW n ts nm ss))[j]? = some w → ∃ r, rs[j]? = some r ∧ H' r = some (.tup (wv w))) → Same H6 H' → ∀ (pp : Addr), H' pp = none →
      WaysAt (upd (upd H' pp (.tup [vn (MM.place ts (MM.oth i)), .int ((n : Int) + ((nm.getD i 0 : Nat) : Int)), .int lo, .int hi, .int 0])) wl (.lst (rs.map V.ref ++ [.ref pp]))) wl ((List.range (i + 1)).map (cornerW n ts nm ss)) ∧
      Same H6 (upd (upd H' pp (.tup [vn (MM.place ts (MM.oth i)), .int ((n : Int) + ((nm.getD i 0 : Nat) : Int)), .int lo, .int hi, .int 0])) wl (.lst (rs.map V.ref ++ [.ref pp]))) := by
    intro i H' rs lo hi hlo hhi e1 e2 e3 g8 pp hpp
    have g9 := same_new hpp (.tup [vn (MM.place ts (MM.oth i)), .int ((n : Int) + ((nm.getD i 0 : Nat) : Int)), .int lo, .int hi, .int 0])
    refine ⟨?_, fun b o h => by rw [upd_ne (ne_of_none h hwl)]; exact g9 _ _ (g8 _ _ h)⟩
    rw [range_snoc]
    refine ways_push (g9 _ _ e1) e2 (fun j w hj => by obtain ⟨r', q1, q2⟩ := e3 j w hj; exact ⟨r', q1, g9 _ _ q2⟩) ?_
    rw [upd_same]
    unfold wv cornerW
    rw [← hlo, ← hhi]
    simp only [vo, vn, Int.natCast_add]
  refine ⟨_, rfl, tA, _, rfl, .inl (SqL.of t1), _, _, rfl, rfl, .inl ⟨by decide, by decide⟩, _, rfl, by omega, by omega, for_range (lo := 0) (n := (2 * ((tr7.length : Nat) : Int)).toNat)
    (fun i σ H' => WaysAt H' wl ((List.range i).map (cornerW n ts nm ss)) ∧ Same H6 H' ∧ ∃ o10 o13 o14 o15 : Option V, σ = [some (.ref wa), some (vn o), some (.ref p), some (vn n), some (.ref tA), some (.ref oA), some (.ref r), some (.ref d), o8, o9, o10, some (.ref na), some (.ref wl), o13, o14, o15])
    ⟨⟨[], upd_same, rfl, fun i w h => by simp at h⟩, g7, _, _, _, _, rfl⟩ ?_ ?_⟩
  · rintro i σ H7 hi ⟨⟨rs, e1, e2, e3⟩, g8, o10, o13, o14, o15, rfl⟩
    have hi' : i < 2 * ts.length := by omega
    have ho' : MM.oth i < 2 * ts.length := MM.oth_lt hi'
    show gName 10 (V.int (0 + (i : Int))) _ _ _
    rw [Int.zero_add]
    have g08 := g06.trans g8
    have hW8 := hW.mono g08
    have hget : ∀ {H' : Hp}, Same H7 H' → DGet H' d (V.int ((i : Nat) : Int)) (some (.int ((n : Int) + ((nm.getD i 0 : Nat) : Int)))) := fun gg => by
      have := DGet.k (k := Sum.inl ((i : Nat) : Int)) (gg _ _ (g8 _ _ ed6))
      rw [hby i hi'] at this
      exact this
    have hlen : (rs.map V.ref).length < sizeLine := by rw [List.length_map, e2]; simp; exact Nat.lt_of_lt_of_le hi' (Nat.le_trans (by omega : 2 * ts.length ≤ 80) (by decide))
    rcases ho : ov ss i with _ | c
    · have eC : atI (vos ss) ((i : Nat) : Int) = some .non := by rw [atI_vo (j := i) (by omega) rfl, ho]; rfl
      have ez : ∀ v : Int, atI [V.non, V.int v] (if decide (V.non = V.non) = true then 1 else 0) = some (.int v) := fun v => by rw [if_pos (by simp)]; rfl
      refine ⟨_, rfl, p, _, _, _, rfl, rfl, SqT.of hW8.tp, rfl, _, rfl, sA, _, _, _, rfl, rfl, SqL.of hW8.s, eC, ?_⟩
      refine ⟨_, rfl, (by show 2 ≤ sizeLine; decide), fun lp hlp => ⟨_, rfl, rfl, .inr ⟨_, rfl, lp, _, _, _, rfl, rfl, SqL.of upd_same, ez 1, ?_⟩⟩⟩
      have x1 := same_new hlp (.lst [V.non, V.int 1])
      refine ⟨_, rfl, (by show 2 ≤ sizeLine; decide), fun lq hlq => ⟨_, rfl, rfl, .inr ⟨_, rfl, lq, _, _, _, rfl, rfl, SqL.of upd_same, ez 4, ?_⟩⟩⟩
      have x2 := x1.trans (same_new hlq (.lst [V.non, V.int 4]))
      generalize upd (upd H7 lp (.lst [V.non, V.int 1])) lq (.lst [V.non, V.int 4]) = H8 at x2
      refine ⟨_, rfl, .inl ⟨rfl, _, SqL.of (x2 _ _ e1)⟩, _, rfl, _, rfl, i, rfl, tA, ts, MM.oth i, rfl, (g08.trans x2).ts hts, ho', _, rfl, _, rfl, d, _, rfl, hget x2, _, rfl, _, rfl, (by show 5 ≤ sizeLine; decide), fun pp hpp => ?_⟩
      obtain ⟨f1, f2⟩ := fin1 1 4 (by rw [ho]; rfl) (by rw [ho]; rfl) (x2 _ _ e1) e2 (fun j w hj => by obtain ⟨r', q1, q2⟩ := e3 j w hj; exact ⟨r', q1, x2 _ _ q2⟩) (g8.trans x2) pp hpp
      exact ⟨wl, _, _, rfl, rfl, same_new hpp _ _ _ (x2 _ _ e1), hlen, f1, f2, _, _, _, _, rfl⟩
    · have eC : atI (vos ss) ((i : Nat) : Int) = some (.int c) := by rw [atI_vo (j := i) (by omega) rfl, ho]; rfl
      have ez : ∀ v : Int, atI [V.int c, V.int v] (if decide (V.int c = V.non) = true then 1 else 0) = some (.int c) := fun v => by rw [if_neg (by simp)]; rfl
      refine ⟨_, rfl, p, _, _, _, rfl, rfl, SqT.of hW8.tp, rfl, _, rfl, sA, _, _, _, rfl, rfl, SqL.of hW8.s, eC, ?_⟩
      refine ⟨_, rfl, (by show 2 ≤ sizeLine; decide), fun lp hlp => ⟨_, rfl, rfl, .inr ⟨_, rfl, lp, _, _, _, rfl, rfl, SqL.of upd_same, ez 1, ?_⟩⟩⟩
      have x1 := same_new hlp (.lst [V.int c, V.int 1])
      refine ⟨_, rfl, (by show 2 ≤ sizeLine; decide), fun lq hlq => ⟨_, rfl, rfl, .inr ⟨_, rfl, lq, _, _, _, rfl, rfl, SqL.of upd_same, ez 4, ?_⟩⟩⟩
      have x2 := x1.trans (same_new hlq (.lst [V.int c, V.int 4]))
      generalize upd (upd H7 lp (.lst [V.int c, V.int 1])) lq (.lst [V.int c, V.int 4]) = H8 at x2
      refine ⟨_, rfl, .inl ⟨rfl, _, SqL.of (x2 _ _ e1)⟩, _, rfl, _, rfl, i, rfl, tA, ts, MM.oth i, rfl, (g08.trans x2).ts hts, ho', _, rfl, _, rfl, d, _, rfl, hget x2, _, rfl, _, rfl, (by show 5 ≤ sizeLine; decide), fun pp hpp => ?_⟩
      obtain ⟨f1, f2⟩ := fin1 c c (by rw [ho]; rfl) (by rw [ho]; rfl) (x2 _ _ e1) e2 (fun j w hj => by obtain ⟨r', q1, q2⟩ := e3 j w hj; exact ⟨r', q1, x2 _ _ q2⟩) (g8.trans x2) pp hpp
      exact ⟨wl, _, _, rfl, rfl, same_new hpp _ _ _ (x2 _ _ e1), hlen, f1, f2, _, _, _, _, rfl⟩
  rintro σ H7 ⟨hws, g8, o10, o13, o14, o15, rfl⟩
  rw [show (2 * ((tr7.length : Nat) : Int)).toNat = 2 * ts.length by omega] at hws
  obtain ⟨tr8, t3, t4⟩ := htl (g06.trans g8)
  refine ⟨_, rfl, tA, _, rfl, .inl (SqL.of t3), _, _, rfl, rfl, .inl ⟨by decide, by decide⟩, _, rfl, by omega, by omega, for_range (lo := 0) (n := (2 * ((tr8.length : Nat) : Int)).toNat)
    (fun i σ H' => WaysAt H' wl ((List.range (2 * ts.length)).map (cornerW n ts nm ss) ++ (List.range i).map (leftW n nm ws bs)) ∧ Same H6 H' ∧ ∃ o10 : Option V, σ = [some (.ref wa), some (vn o), some (.ref p), some (vn n), some (.ref tA), some (.ref oA), some (.ref r), some (.ref d), o8, o9, o10, some (.ref na), some (.ref wl), o13, o14, o15])
    ⟨by rw [List.range_zero, List.map_nil, List.append_nil]; exact hws, g8, _, rfl⟩ ?_ ?_⟩
  · rintro i σ H8 hi ⟨⟨rs, e1, e2, e3⟩, g9, o10, rfl⟩
    have hi' : i < 2 * ts.length := by omega
    have ho' : MM.oth i < 2 * ts.length := MM.oth_lt hi'
    show gName 10 (V.int (0 + (i : Int))) _ _ _
    rw [Int.zero_add]
    have hW8 := hW.mono (g06.trans g9)
    have hg1 : DGet H8 d (V.int ((i : Nat) : Int)) (some (.int ((n : Int) + ((nm.getD i 0 : Nat) : Int)))) := by
      have := DGet.k (k := Sum.inl ((i : Nat) : Int)) (g9 _ _ ed6)
      rw [hby i hi'] at this
      exact this
    have hg2 : DGet H8 d (V.int ((MM.oth i : Nat) : Int)) (some (.int ((n : Int) + ((nm.getD (MM.oth i) 0 : Nat) : Int)))) := by
      have := DGet.k (k := Sum.inl ((MM.oth i : Nat) : Int)) (g9 _ _ ed6)
      rw [hby _ ho'] at this
      exact this
    have ei2 : ((i : Nat) : Int) / 2 = ((i / 2 : Nat) : Int) := by omega
    refine ⟨_, rfl, .inl ⟨rfl, _, SqL.of e1⟩, _, rfl, _, rfl, d, _, rfl, hg1, _, rfl, _, rfl, i, rfl, d, _, rfl, hg2, _, rfl, p, _, _, _, rfl, rfl, SqT.of hW8.tp, rfl, _, rfl, _, _, rfl, rfl, ⟨by decide, by decide⟩, bA, _, _, _, rfl, rfl, SqL.of hW8.b, atI_vo (j := i / 2) (by omega) ei2,
      _, rfl, p, _, _, _, rfl, rfl, SqT.of hW8.tp, rfl, _, rfl, _, _, rfl, rfl, ⟨by decide, by decide⟩, wA, _, _, _, rfl, rfl, SqL.of hW8.w, atI_get0 (j := i / 2) (by omega) ei2, (by show 5 ≤ sizeLine; decide), fun pp hpp => ?_⟩
    have g10 := same_new hpp (.tup [.int ((n : Int) + ((nm.getD i 0 : Nat) : Int)), .int ((n : Int) + ((nm.getD (MM.oth i) 0 : Nat) : Int)), .int 0, vo (ov bs (i / 2)), .int (at0 ws (i / 2))])
    refine ⟨wl, _, _, rfl, rfl, g10 _ _ e1, by rw [List.length_map, e2]; simp; exact Nat.lt_of_lt_of_le (by omega : 2 * ts.length + i < 200) (by decide), ?_, fun b o h => by rw [upd_ne (ne_of_none h hwl)]; exact g10 _ _ (g9 _ _ h), _, rfl⟩
    rw [range_snoc, ← List.append_assoc]
    refine ways_push (g10 _ _ e1) e2 (fun j w hj => by obtain ⟨r', q1, q2⟩ := e3 j w hj; exact ⟨r', q1, g10 _ _ q2⟩) ?_
    rw [upd_same]
    unfold wv leftW
    simp only [vn, Int.natCast_add]
  rintro σ H8 ⟨hws2, g9, o10, rfl⟩
  rw [show (2 * ((tr8.length : Nat) : Int)).toNat = 2 * ts.length by omega] at hws2
  refine ⟨_, rfl, _, rfl, (by show 2 ≤ sizeLine; decide), fun rr' hrr => ?_⟩
  have g10 := same_new hrr (.tup [.ref na, .ref wl])
  exact q rr' na wl nm _ ((g06.trans g9).trans g10) num ⟨upd_same, g10 _ _ (g9 _ _ e7), WaysAt.mono hws2 g10⟩
end K22

namespace K22
open PySem L2 PyProof.Rows NM
variable {P : Program} {w : World} {K : PySem.W.Frag} {mg : Str → Option Value} {base : Heap} {t : Adr}
def spCopied : Sp := fun vs H Q _ => ∃ (wa : Addr) (n : Nat) (ts : MM.Ties) (os : MM.Ords), vs = [.ref wa] ∧ WebAt H wa n ts os ∧ os.length ≤ 40 ∧ ∀ (r : Addr) (H' : Hp), Same H H' → WebAt H' r n ts os → Q (.ref r) H'
theorem ok_lcopied (T : Txt K mg t) : FnOk P w K mg base CX0 1 t.a_l_copied t.d_l_copied ["_law_web"] spCopied := by
  refine T.F_l_copied.ok sc_l_copied (fun vs H Q E h => ?_) (fun cdv A outer s H vs Q E hr h => ?_)
  · obtain ⟨wa, n, ts, os, rfl, _⟩ := h; rfl
  obtain ⟨wa, n, ts, os, rfl, hWeb, ho40, q⟩ := h
  have nd := sc_l_copied.nd
  have nd_l_order : (["_law_order"] : List Str).Nodup := by decide
  refine ⟨_, (pss_one (ps_ret (pe_tup (pa_cons (pe_ix ix_tup (pv 0) pe_int (fun _ _ => rfl)) (pa_cons (pe_callTy call_list_of rfl T.z_list boot_list (pa_cons (pe_ix ix_tup (pv 0) pe_int (fun _ _ => rfl)) pa_nil)) (pa_cons (pe_comp (N' := ["_law_order"]) (js := [none]) rfl (pi_list (pe_ix ix_tup (pv 0) pe_int (fun _ _ => rfl))) (fun _ _ _ _ _ => (pg_name (i := 0) nd_l_order rfl (Or.inl rfl))) (fun _ _ _ _ _ => pf_nil) (fun _ _ _ _ _ => (pe_callTy (kcall_list (K := K) rfl) rfl T.z_list boot_list (pa_cons (pv 0) pa_nil)))) pa_nil)))))), ?_⟩
  obtain ⟨tA, oA, hw, ⟨tr, t1, t2, t3⟩, ⟨rr, o1, o2, o3⟩⟩ := hWeb
  refine ⟨_, rfl, wa, _, _, _, rfl, rfl, SqT.of hw, rfl, _, rfl, wa, _, _, _, rfl, rfl, SqT.of hw, rfl, tA, _, rfl, .inl (SqL.of t1), fun tB htB => ?_⟩
  have g1 := same_new htB (.lst (tr.map V.ref))
  have eB : (upd H tB (.lst (tr.map V.ref))) tB = some (.lst (tr.map V.ref)) := upd_same
  generalize upd H tB (.lst (tr.map V.ref)) = H1 at g1 eB
  refine ⟨_, rfl, wa, _, _, _, rfl, rfl, SqT.of (g1 _ _ hw), rfl, oA, rfl, ⟨_, SqL.of (g1 _ _ o1)⟩, fun D hD => ?_⟩
  refine comp_map os.length (fun i ys H' => Same H1 H' ∧ H' D = some (.lst ys) ∧ ∃ rs : List Addr, ys = rs.map V.ref ∧ rs.length = i ∧ (∀ x ∈ rs, x ≠ D) ∧ ∀ (j : Nat) l, j < i → os[j]? = some l → ∃ x, rs[j]? = some x ∧ H' x = some (.lst (vns l)))
    ⟨same_new hD _, upd_same, [], rfl, rfl, fun x hx => by simp at hx, fun j l hj => absurd hj (by omega)⟩ ?_ ?_
  · rintro i ys H' hi ⟨g2, eD, rs, rfl, hl, hne, hrow⟩
    have hS : SqL K H' oA (rr.map V.ref) := SqL.of (g2 _ _ (g1 _ _ o1))
    obtain ⟨y, hy, ey⟩ := o3 i _ (List.getElem?_eq_getElem hi)
    have ly : (rr.map V.ref)[i]? = some (.ref y) := by rw [List.getElem?_map, hy]; rfl
    generalize hli : os[i] = l at ey
    refine ⟨⟨_, _, hS, ly⟩, ?_⟩
    rintro x H'' ⟨rfl, hx⟩
    have ex := hx _ hS
    rw [ly] at ex; cases ex
    refine ⟨(Fills.refl _).set _ rfl, _, rfl, y, _, rfl, .inl (SqL.of (g2 _ _ (g1 _ _ ey))), fun x' hx' => ?_⟩
    have g3 := same_new hx' (.lst (vns l))
    have nxD : x' ≠ D := (ne_of_none eD hx').symm
    refine ⟨g3 _ _ eD, by rw [List.length_map, hl]; exact Nat.lt_trans hi (Nat.lt_of_le_of_lt ho40 (by decide)), fun b o h => by rw [upd_ne (ne_of_none h hD)]; exact g3 _ _ (g2 _ _ h), upd_same, rs ++ [x'], by rw [List.map_append]; rfl, by simp [hl], fun z hz => ?_, fun j l' hj hl' => ?_⟩
    · rcases List.mem_append.mp hz with hz | hz
      · exact hne z hz
      · simp at hz; subst hz; exact nxD
    · by_cases e : j = i
      · subst e
        rw [List.getElem?_eq_getElem hi, hli] at hl'; cases hl'
        exact ⟨x', by rw [← hl]; simp, by rw [upd_ne nxD]; exact upd_same⟩
      · obtain ⟨z, q1, q2⟩ := hrow j l' (by omega) hl'
        exact ⟨z, by rw [List.getElem?_append_left (by omega)]; exact q1, by rw [upd_ne (hne z (List.mem_of_getElem? q1))]; exact g3 _ _ q2⟩
  rintro ys H2 ⟨g2, eD, rs, rfl, hl, hne, hrow⟩
  refine ⟨⟨_, SqL.of (g2 _ _ (g1 _ _ o1)), by rw [List.length_map, o2]; exact Nat.le_refl _⟩, (by show 3 ≤ sizeLine; decide), fun r hr' => ?_⟩
  have g3 := same_new hr' (.tup [vn n, .ref tB, .ref D])
  have g03 := (g1.trans g2).trans g3
  exact q r _ g03 ⟨tB, D, upd_same, ⟨tr, g3 _ _ (g2 _ _ eB), t2, fun i u hu => by obtain ⟨r', q1, q2⟩ := t3 i u hu; exact ⟨r', q1, g03 _ _ q2⟩⟩, ⟨rs, g3 _ _ eD, hl, fun i l hli => by obtain ⟨x, q1, q2⟩ := hrow i l (List.getElem?_eq_some_iff.mp hli).1 hli; exact ⟨x, q1, g3 _ _ q2⟩⟩⟩
def dHW (n : Nat) (ts : MM.Ties) (os : MM.Ords) (ws : List Int) (bs ss : List (Option Int)) : PyData := .tuple [dW n ts os, .tuple [.list (ws.map PyData.int), .list (bs.map dvo), .list (ss.map dvo)]]
theorem bd_hw {H : Hp} {h wa p wA bA sA : Addr} {n : Nat} {ts : MM.Ties} {os : MM.Ords} {ws : List Int} {bs ss : List (Option Int)} (e : H h = some (.tup [.ref wa, .ref p])) (hWeb : WebAt H wa n ts os) (hW : WsAt H p wA bA sA ws bs ss) : Bd K H (.ref h) (dHW n ts os ws bs ss) :=
  .tup (SqT.of e) (.cons (bd_web hWeb) (.cons (.tup (SqT.of hW.tp) (.cons (bd_ints hW.w) (.cons (bd_vos hW.b) (.cons (bd_vos hW.s) .nil)))) .nil))
theorem shaped_hw (n : Nat) (ts : MM.Ties) (os : MM.Ords) (ws : List Int) (bs ss : List (Option Int)) : SeqAt.shaped (dHW n ts os ws bs ss) = true := by
  have i := lay_ints
  have o := lay_vos
  have t1 := dT_lay ts
  have t2 := dO_lay os
  have h0 : PyData.canLayAll0 [PyData.int (n : Int), .list (dT ts), .list (dO os)] = true ∧ PyData.depthAll [PyData.int (n : Int), .list (dT ts), .list (dO os)] ≤ 4 := lay_all 4 fun d hd => by
    simp only [List.mem_cons, List.not_mem_nil, or_false] at hd
    rcases hd with rfl | rfl | rfl
    · exact ⟨rfl, by simp [PyData.depth]⟩
    · exact ⟨t1.1, by rw [PyData.depth]; omega⟩
    · exact ⟨t2.1, by rw [PyData.depth]; omega⟩
  have h1 : PyData.canLayAll0 [PyData.list (ws.map PyData.int), .list (bs.map dvo), .list (ss.map dvo)] = true ∧ PyData.depthAll [PyData.list (ws.map PyData.int), .list (bs.map dvo), .list (ss.map dvo)] ≤ 4 := lay_all 4 fun d hd => by
    simp only [List.mem_cons, List.not_mem_nil, or_false] at hd
    rcases hd with rfl | rfl | rfl
    · exact ⟨(i ws).1, by rw [PyData.depth]; have := (i ws).2; omega⟩
    · exact ⟨(o bs).1, by rw [PyData.depth]; have := (o bs).2; omega⟩
    · exact ⟨(o ss).1, by rw [PyData.depth]; have := (o ss).2; omega⟩
  have h3 : PyData.canLayAll0 [dW n ts os, .tuple [.list (ws.map PyData.int), .list (bs.map dvo), .list (ss.map dvo)]] = true ∧ PyData.depthAll [dW n ts os, .tuple [.list (ws.map PyData.int), .list (bs.map dvo), .list (ss.map dvo)]] ≤ 5 := lay_all 5 fun d hd => by
    simp only [List.mem_cons, List.not_mem_nil, or_false] at hd
    rcases hd with rfl | rfl
    · exact ⟨h0.1, by unfold dW; rw [PyData.depth]; have := h0.2; omega⟩
    · exact ⟨h1.1, by rw [PyData.depth]; have := h1.2; omega⟩
  unfold SeqAt.shaped
  rw [Bool.and_eq_true]
  refine ⟨h3.1, decide_eq_true ?_⟩
  unfold dHW
  rw [PyData.depth]
  omega
theorem eqv_hw (n : Nat) (ts : MM.Ties) (os : MM.Ords) (ws : List Int) (bs ss : List (Option Int)) : PyData.eqv (dHW n ts os ws bs ss) (dHW n ts os ws bs ss) = true := SeqAt.eqv_refl _ (SeqAt.canLay_of_shaped (shaped_hw n ts os ws bs ss))
def spLaw (K : PySem.W.Frag) : Sp := fun vs H Q _ => ∃ (a : Addr) (ns : List Int), vs = [.ref a] ∧ SqL K H a (ns.map V.int) ∧ ns.length ≤ 63 ∧ ∀ H', Q (.bl true) H'
theorem ok_law (T : Txt K mg t) : FnOk P w K mg base CX0 lawK t.a_law t.d_law ["_law_script"] (spLaw K) := by
  have G_l_cell_at := ok_cell (P := P) (w := w) (base := base) T
  have G_l_map := ok_lmap (P := P) (w := w) (base := base) T
  have G_l_wishes := ok_lwishes (P := P) (w := w) (base := base) T (ok_mix T) (ok_ldigit T)
  have G_l_lands := ok_llands (P := P) (w := w) (base := base) T
  have G_l_copied := ok_lcopied (P := P) (w := w) (base := base) T
  have G_l_net_of := ok_lnetof (P := P) (w := w) (base := base) T
  have G_net_of := ok_netof (P := P) (w := w) (base := base) T
  refine T.F_law.ok sc_law (fun vs H Q E h => ?_) (fun cdv A outer s H vs Q E hr h => ?_)
  · obtain ⟨a, ns, rfl, _⟩ := h; rfl
  obtain ⟨a, sc, rfl, hS, h63, q⟩ := h
  have nd := sc_law.nd
  have nd_l_way : (["_law_way"] : List Str).Nodup := by decide
  have nd_l_one : (["_law_one"] : List Str).Nodup := by decide
  refine ⟨_, (pss_cons (ps_set (i := 1) nd rfl (Or.inl rfl) (pe_call G_l_map (hr.mono (by decide)) rfl T.m_l_map T.k_l_map T.b_l_map .nil pass0 (pa_cons (pv 0) (pa_cons pe_int (pa_cons pe_int pa_nil)))))
    (pss_cons (ps_set (i := 2) nd rfl (Or.inl rfl) (pe_call G_l_wishes (hr.mono (by decide)) rfl T.m_l_wishes T.k_l_wishes T.b_l_wishes .nil pass0 (pa_cons (pe_ix ix_tup (pv 1) pe_int (fun _ _ => rfl)) (pa_cons (pe_call G_l_cell_at (hr.mono (by decide)) rfl T.m_l_cell_at T.k_l_cell_at T.b_l_cell_at .nil pass0 (pa_cons (pv 0) (pa_cons pe_int pa_nil))) (pa_cons pe_int pa_nil)))))
    (pss_cons (ps_for PassesOwn.never rfl (pi_range1 rfl T.z_range (pa_cons (pe_callB call_len_seq rfl T.z_len PySem.boot_len (pa_cons (pe_call G_l_lands (hr.mono (by decide)) rfl T.m_l_lands T.k_l_lands T.b_l_lands .nil pass0 (pa_cons (pe_ix ix_tup (pv 1) pe_int (fun _ _ => rfl)) (pa_cons (pe_ix ix_tup (pv 1) pe_int (fun _ _ => rfl)) pa_nil))) pa_nil)) pa_nil)) (pg_name (i := 3) nd rfl (Or.inl rfl)) (pss_cons (ps_set (i := 4) nd rfl (Or.inl rfl) (pe_tup (pa_cons (pe_call G_l_copied (hr.mono (by decide)) rfl T.m_l_copied T.k_l_copied T.b_l_copied .nil pass0 (pa_cons (pv 1) pa_nil)) (pa_cons (pe_callTy call_tuple_of rfl T.z_tuple boot_tuple (pa_cons (pe_comp (N' := ["_law_one"]) (js := [none]) rfl (pi_tup (pv 2)) (fun _ _ _ _ _ => (pg_name (i := 0) nd_l_one rfl (Or.inl rfl))) (fun _ _ _ _ _ => pf_nil) (fun _ _ _ _ _ => (pe_callTy (kcall_list (K := K) rfl) rfl T.z_list boot_list (pa_cons (pv 0) pa_nil)))) pa_nil)) pa_nil))))
    (pss_one (ps_for PassesOwn.never rfl (pi_range1 rfl T.z_range (pa_cons pe_int pa_nil)) (pg_name (i := 5) nd rfl (Or.inl rfl)) (pss_cons (ps_set (i := 6) nd rfl (Or.inl rfl) (pe_call G_net_of (hr.mono (by decide)) rfl T.m_net_of T.k_net_of T.b_net_of .nil pass0 (pa_cons (pe_ix ix_tup (pv 4) pe_int (fun _ _ => rfl)) (pa_cons (pv 3) (pa_cons (pe_ix ix_tup (pv 4) pe_int (fun _ _ => rfl)) pa_nil)))))
    (pss_cons (ps_if (PW.pt (pw_or (pt_not (pt_truth (pe_callB call_isi rfl T.z_isinstance boot_isinstance (pa_cons (pv 6) (pa_cons (pe_bltn (v := .ty "tuple") rfl T.z_tuple boot_tuple rfl) pa_nil))) (fun _ => rfl))) (pw_or1 (pt_cmpR (op_neD hr.units) (pv 6) (pe_call G_l_net_of (hr.mono (by decide)) rfl T.m_l_net_of T.k_l_net_of T.b_l_net_of .nil pass0 (pa_cons (pv 1) (pa_cons (pv 3) (pa_cons (pv 2) pa_nil)))) (nomark _))))) (pss_one (ps_ret pe_bl)) pss_nil)
    (pss_cons (ps_if (PW.pt (pw_or (pt_cmpR (op_neD hr.units) (pe_comp (N' := ["_law_way"]) (js := [none]) rfl (pi_list (pe_ix ix_tup (pv 6) pe_int (fun _ _ => rfl))) (fun _ _ _ _ _ => (pg_name (i := 0) nd_l_way rfl (Or.inl rfl))) (fun _ _ _ _ _ => (pf_one (pt_not (kpt_truth (K := K) rfl (pe_callB call_isi rfl T.z_isinstance boot_isinstance (pa_cons (pv 0) (pa_cons (pe_bltn (v := .ty "tuple") rfl T.z_tuple boot_tuple rfl) pa_nil))) (fun _ => rfl))))) (fun _ _ _ _ _ => (pv 0))) (pe_lst pa_nil) (nomark _)) (pw_or1 (pt_cmpR (op_neD hr.units) (pv 4) (pe_tup (pa_cons (pv 1) (pa_cons (pv 2) pa_nil))) (nomark _))))) (pss_one (ps_ret pe_bl)) pss_nil)
    (pss_cons (ps_expr (pe_bm PySem.F.plainAttrs_list PySem.F.slot_list_append PySem.F.type_list_append mt_append (pe_ix ix_tup (pv 6) pe_int (fun _ _ => rfl)) (pa_cons pe_non pa_nil)))
    (pss_one (ps_expr (pe_bm PySem.F.plainAttrs_list PySem.F.slot_list_append PySem.F.type_list_append mt_append (pe_ix ix_tup (pv 6) pe_int (fun _ _ => rfl)) (pa_cons pe_non pa_nil))))))))))))
    (pss_one (ps_ret pe_bl))))), ?_⟩
  refine ⟨_, rfl, a, sc, 15, 10, rfl, hS, by decide, by decide, fun wa tA oA rr0 ts os H1 g1 hw mm g ht40 ho40 => ?_⟩
  have hts := mm.ts
  have hos := mm.os.os
  have hWeb : WebAt H1 wa os.length ts os := ⟨tA, oA, hw, hts, hos⟩
  obtain ⟨tr, t1, t2, _⟩ := id hts
  refine ⟨_, rfl, wa, _, _, _, rfl, rfl, SqT.of hw, rfl, _, rfl, a, sc, _, rfl, g1.seq hS, by decide, fun c => ?_⟩
  refine ⟨tA, _, c, 1, rfl, SqL.of t1, by rw [List.length_map]; omega, .inr rfl, fun p wA bA sA ws bs ss H2 l3 tp np lw lb lss wb => ?_⟩
  rw [List.length_map, t2] at lw lb lss
  have g2 := l3.g
  have hW2 : WsAt H2 p wA bA sA ws bs ss := ⟨tp, l3.a, l3.b, l3.c⟩
  have hWeb2 := hWeb.mono g2
  refine ⟨_, rfl, wa, _, _, _, rfl, rfl, SqT.of (g2 _ _ hw), rfl, _, rfl, wa, _, _, _, rfl, rfl, SqT.of (g2 _ _ hw), rfl, tA, oA, ts, os, rfl, g2.ts hts, g2.os hos, g, by omega, fun r3 rr3 H3 g3 nos => ?_⟩
  have hLN : (LL ts os).length ≤ 2 * ts.length := by
    have := MM.lf_len g.maps _ (List.range (2 * ts.length)) (Nat.le_refl _) (fun z hz => List.mem_range.mp hz)
    rw [List.length_range] at this
    exact this
  have hl3 : (rr3.map V.ref).length = (LL ts os).length := by rw [List.length_map]; exact nos.len
  refine ⟨r3, _, rfl, .inl (SqL.of nos.at_), _, rfl, by omega, by omega, for_range (lo := 0) (n := (((rr3.map V.ref).length : Nat) : Int).toNat)
    (fun _ σ H' => Same H2 H' ∧ ∃ o3 o4 o5 o6 : Option V, σ = [some (.ref a), some (.ref wa), some (.ref p), o3, o4, o5, o6])
    ⟨g3, _, _, _, _, rfl⟩ ?_ ?_⟩
  · rintro oo σ H4 hoo ⟨g4, o3, o4, o5, o6, rfl⟩
    have hoo' : oo < (LL ts os).length := by omega
    show gName 3 (V.int (0 + (oo : Int))) _ _ _
    rw [Int.zero_add]
    -- handed
    refine ⟨_, rfl, wa, os.length, ts, os, rfl, hWeb2.mono g4, by omega, fun w1 H5 g5 hWeb1 => ?_⟩
    have g25 := g4.trans g5
    have hW5 := hW2.mono g25
    refine ⟨_, rfl, p, rfl, ⟨_, SqT.of hW5.tp⟩, fun D hD => ?_⟩
    refine comp_map 3 (fun i ys H' => Same H5 H' ∧ H' D = some (.lst ys) ∧ ∃ rs : List Addr, ys = rs.map V.ref ∧ rs.length = i ∧ (∀ r, rs[0]? = some r → H' r = some (.lst (ws.map V.int))) ∧ (∀ r, rs[1]? = some r → H' r = some (.lst (vos bs))) ∧ ∀ r, rs[2]? = some r → H' r = some (.lst (vos ss)))
      ⟨same_new hD _, upd_same, [], rfl, rfl, fun r h => by simp at h, fun r h => by simp at h, fun r h => by simp at h⟩ ?_ ?_
    · rintro i ys H' hi ⟨gc1, eD, rs, rfl, hl, h0, h1, h2⟩
      have hTp : SqT K H' p [.ref wA, .ref bA, .ref sA] := SqT.of (gc1 _ _ hW5.tp)
      have key : ∀ (X : List V) (xa : Addr), H' xa = some (.lst X) → (∀ r H4, H' r = none → H4 r = some (.lst X) → Same H' H4 → H4 D = some (.lst (rs.map V.ref)) ∧ (rs.map V.ref).length < sizeLine) := by
        intro X xa _ r H4 hr0 e4 g4
        exact ⟨g4 _ _ eD, by rw [List.length_map, hl]; exact Nat.lt_trans hi (by decide)⟩
      match i, hi with
      | 0, _ =>
        refine ⟨⟨_, _, hTp, rfl⟩, ?_⟩
        rintro x H'' ⟨rfl, hx⟩
        have ex := hx _ hTp
        cases ex
        refine ⟨(Fills.refl _).set _ rfl, _, rfl, wA, _, rfl, .inl (SqL.of (gc1 _ _ hW5.w)), fun r hr' => ?_⟩
        have gc2 := same_new hr' (.lst (ws.map V.int))
        have k := key _ _ (gc1 _ _ hW5.w) r _ hr' upd_same gc2
        have nrD : r ≠ D := (ne_of_none eD hr').symm
        refine ⟨k.1, k.2, ?_, upd_same, rs ++ [r], by rw [List.map_append]; rfl, by simp [hl], ?_, ?_, ?_⟩
        · exact fun b o h => by rw [upd_ne (ne_of_none h hD)]; exact gc2 _ _ (gc1 _ _ h)
        · have : rs = [] := List.eq_nil_of_length_eq_zero hl
          subst this
          intro r' hr2; simp at hr2; subst hr2; rw [upd_ne nrD]; exact upd_same
        · have : rs = [] := List.eq_nil_of_length_eq_zero hl
          subst this
          intro r' hr2; simp at hr2
        · have : rs = [] := List.eq_nil_of_length_eq_zero hl
          subst this
          intro r' hr2; simp at hr2
      | 1, _ =>
        obtain ⟨r0, rfl⟩ : ∃ r0, rs = [r0] := List.length_eq_one_iff.mp hl
        refine ⟨⟨_, _, hTp, rfl⟩, ?_⟩
        rintro x H'' ⟨rfl, hx⟩
        have ex := hx _ hTp
        cases ex
        refine ⟨(Fills.refl _).set _ rfl, _, rfl, bA, _, rfl, .inl (SqL.of (gc1 _ _ hW5.b)), fun r hr' => ?_⟩
        have gc2 := same_new hr' (.lst (vos bs))
        have k := key _ _ (gc1 _ _ hW5.b) r _ hr' upd_same gc2
        have nrD : r ≠ D := (ne_of_none eD hr').symm
        have n0D : r0 ≠ D := fun e => by
          have := h0 r0 rfl
          rw [e, eD] at this
          have h3 := congrArg (fun z => match z with | some (HO.lst l) => l | _ => []) this
          simp at h3
          cases ws with
          | nil => simp at h3
          | cons a b => simp at h3
        refine ⟨k.1, k.2, ?_, upd_same, [r0, r], rfl, rfl, ?_, ?_, ?_⟩
        · exact fun b o h => by rw [upd_ne (ne_of_none h hD)]; exact gc2 _ _ (gc1 _ _ h)
        · intro r' hr2; simp at hr2; subst hr2; rw [upd_ne n0D]; exact gc2 _ _ (h0 _ rfl)
        · intro r' hr2; simp at hr2; subst hr2; rw [upd_ne nrD]; exact upd_same
        · intro r' hr2; simp at hr2
      | 2, _ =>
        obtain ⟨r0, r1, rfl⟩ : ∃ r0 r1, rs = [r0, r1] := len2 hl
        refine ⟨⟨_, _, hTp, rfl⟩, ?_⟩
        rintro x H'' ⟨rfl, hx⟩
        have ex := hx _ hTp
        cases ex
        refine ⟨(Fills.refl _).set _ rfl, _, rfl, sA, _, rfl, .inl (SqL.of (gc1 _ _ hW5.s)), fun r hr' => ?_⟩
        have gc2 := same_new hr' (.lst (vos ss))
        have k := key _ _ (gc1 _ _ hW5.s) r _ hr' upd_same gc2
        have nrD : r ≠ D := (ne_of_none eD hr').symm
        have nD : ∀ (l : List Int), (.lst [V.ref r0, V.ref r1] : HO) ≠ .lst (l.map V.int) := by
          intro l e
          cases l with
          | nil => cases e
          | cons a b => cases e
        have nD2 : ∀ (l : List (Option Int)), (.lst [V.ref r0, V.ref r1] : HO) ≠ .lst (vos l) := by
          intro l e
          cases l with
          | nil => cases e
          | cons a b => cases a <;> cases e
        have n0D : r0 ≠ D := (ne_of eD (h0 r0 rfl) (nD _)).symm
        have n1D : r1 ≠ D := (ne_of eD (h1 r1 rfl) (nD2 _)).symm
        refine ⟨k.1, k.2, ?_, upd_same, [r0, r1, r], rfl, rfl, ?_, ?_, ?_⟩
        · exact fun b o h => by rw [upd_ne (ne_of_none h hD)]; exact gc2 _ _ (gc1 _ _ h)
        · intro r' hr2; simp at hr2; subst hr2; rw [upd_ne n0D]; exact gc2 _ _ (h0 _ rfl)
        · intro r' hr2; simp at hr2; subst hr2; rw [upd_ne n1D]; exact gc2 _ _ (h1 _ rfl)
        · intro r' hr2; simp at hr2; subst hr2; rw [upd_ne nrD]; exact upd_same
    rintro ys H6 ⟨gc1, eD, rs, rfl, hl, h0, h1, h2⟩
    obtain ⟨r0, r1, r2, rfl⟩ : ∃ r0 r1 r2, rs = [r0, r1, r2] := len3 hl
    refine ⟨⟨_, SqT.of (gc1 _ _ hW5.tp), Nat.le_refl _⟩, D, _, rfl, .inl ⟨SqL.of eD, fun p1 hp1 => ?_⟩⟩
    have gc2 := same_new hp1 (.tup ([r0, r1, r2].map V.ref))
    have hW1 : WsAt (upd H6 p1 (.tup ([r0, r1, r2].map V.ref))) p1 r0 r1 r2 ws bs ss := ⟨upd_same, gc2 _ _ (h0 _ rfl), gc2 _ _ (h1 _ rfl), gc2 _ _ (h2 _ rfl)⟩
    have g57 := gc1.trans gc2
    generalize upd H6 p1 (.tup ([r0, r1, r2].map V.ref)) = H7 at hW1 g57 ⊢
    refine ⟨(by show 2 ≤ sizeLine; decide), fun ph hph => ?_⟩
    have g78 := same_new hph (.tup [.ref w1, .ref p1])
    have eh : (upd H7 ph (.tup [.ref w1, .ref p1])) ph = some (.tup [.ref w1, .ref p1]) := upd_same
    generalize upd H7 ph (.tup [.ref w1, .ref p1]) = H8 at g78 eh
    have g28 := (g25.trans g57).trans g78
    have hWeb8 := hWeb1.mono (g57.trans g78)
    have hW8 := hW1.mono g78
    -- two times
    refine ⟨2, rfl, by omega, by omega, for_range (lo := 0) (n := (2 : Int).toNat)
      (fun _ σ H' => Same H8 H' ∧ ∃ o5 o6 : Option V, σ = [some (.ref a), some (.ref wa), some (.ref p), some (vn oo), some (.ref ph), o5, o6])
      ⟨Same.refl _, _, _, rfl⟩ ?_ ?_⟩
    · rintro tt σ H9 htt ⟨g9, o5, o6, rfl⟩
      have g29 := g28.trans g9
      refine ⟨_, rfl, ph, _, _, _, rfl, rfl, SqT.of (g9 _ _ eh), rfl, _, rfl, _, rfl, ph, _, _, _, rfl, rfl, SqT.of (g9 _ _ eh), rfl, ?_⟩
      refine ⟨w1, p1, r0, r1, r2, os.length, oo, ts, os, ws, bs, ss, rfl, hWeb8.mono g9, g, ht40, ho40, hoo', hW8.mono g9, lw, lb, lss, fun r na wl nm H10 g10 hna hwl nnw num net => ?_⟩
      have g210 := g29.trans g10
      refine ⟨_, rfl, _, "tuple", "tuple", rfl, .inr ⟨rfl, _, net.tp⟩, .inr (.inl rfl), _, rfl, iteFb rfl ?_⟩
      refine ⟨_, rfl, _, rfl, _, rfl, _, rfl, wa, p, wA, bA, sA, os.length, oo, ts, os, ws, bs, ss, rfl, hWeb2.mono g210, g, ht40, ho40, hoo', hW2.mono g210, lw, lb, lss, fun r' na' wl' nm' H11 g11 num' net' => ?_⟩
      have enm := IsNum.uniq g num num'
      subst enm
      have net11 := net.mono g11
      refine ⟨_, _, bd_net net11, bd_net net', shaped_net _ _, shaped_net _ _, _, rfl, iteFb (by rw [eqv_net]; rfl) ?_⟩
      have g211 := g210.trans g11
      have g811 := (g9.trans g10).trans g11
      obtain ⟨rsw, w1', w2', w3'⟩ := net11.w
      refine ⟨_, rfl, r, _, _, _, rfl, rfl, SqT.of net11.tp, rfl, wl, rfl, ⟨_, SqL.of w1'⟩, fun D3 hD3 => ?_⟩
      refine comp_by rsw.length (fun i ys H' => ys = [] ∧ Same H11 H' ∧ H' D3 = some (.lst [])) ⟨rfl, same_new hD3 _, upd_same⟩ ?_ ?_
      · rintro i ys H' hi ⟨rfl, g12, eD3⟩
        have hSw : SqL K H' wl (rsw.map V.ref) := SqL.of (g12 _ _ w1')
        have li : (rsw.map V.ref)[i]? = some (.ref rsw[i]) := by rw [List.getElem?_map, List.getElem?_eq_getElem hi]; rfl
        obtain ⟨wy, hwy, ewy⟩ := way_at w2' w3' (List.getElem?_eq_getElem hi)
        refine ⟨⟨_, _, hSw, li⟩, ?_⟩
        rintro x H'' ⟨rfl, hx⟩
        have ex := hx _ hSw
        rw [li] at ex; cases ex
        exact ⟨(Fills.refl _).set _ rfl, _, rfl, _, "tuple", "tuple", rfl, .inr ⟨rfl, _, g12 _ _ ewy⟩, .inr (.inl rfl), _, rfl, iteF ⟨rfl, g12, eD3⟩⟩
      rintro ys H12 ⟨rfl, g12, eD3⟩
      refine ⟨⟨_, SqL.of (g12 _ _ w1'), by rw [List.length_map]; exact Nat.le_refl _⟩, (by show 0 ≤ sizeLine; decide), fun e he => ?_⟩
      have g13 := same_new he (.lst [])
      refine ⟨_, _, bd_ints (ns := []) (g13 _ _ eD3), bd_ints (ns := []) upd_same, shaped_ints [], shaped_ints [], _, rfl, iteFb (by rw [eqv_intsL, decide_eq_true rfl]; rfl) ?_⟩
      generalize upd H12 e (.lst []) = H13 at g13
      have g1113 := g12.trans g13
      have g213 := g211.trans g1113
      have g813 := g811.trans g1113
      refine ⟨_, rfl, _, rfl, _, rfl, (by show 2 ≤ sizeLine; decide), fun q1 hq1 => ?_⟩
      have u1 := same_new hq1 (.tup [.ref wa, .ref p])
      refine ⟨_, _, bd_hw (u1 _ _ (g813 _ _ eh)) ((hWeb8.mono g813).mono u1) ((hW8.mono g813).mono u1), bd_hw upd_same ((hWeb2.mono g213).mono u1) ((hW2.mono g213).mono u1), shaped_hw _ _ _ _ _ _, shaped_hw _ _ _ _ _ _, _, rfl, iteFb (by rw [eqv_hw]; rfl) ?_⟩
      generalize upd H13 q1 (.tup [.ref wa, .ref p]) = H14 at u1
      have net14 := (net11.mono g1113).mono u1
      have g814 := g813.trans u1
      obtain ⟨rsx, x1', x2', x3'⟩ := net14.w
      have hw8 : H8 wl = none := g9.free hwl
      have hn8 : H8 na = none := g9.free hna
      refine ⟨_, rfl, r, _, _, _, rfl, rfl, SqT.of net14.tp, rfl, .inl ⟨rfl, _, SqL.of net14.n⟩, na, _, _, rfl, rfl, net14.n, ?_, ?_⟩
      · rw [List.length_map]
        unfold needsOf
        simp
        exact Nat.lt_of_le_of_lt (by omega : os.length + (LL ts os).length ≤ 200) (by decide)
      have tpn : (upd H14 na (.lst ((needsOf os.length (LL ts os) oo).map V.int ++ [V.non]))) r = some (.tup [.ref na, .ref wl]) := by rw [upd_ne (ne_of net14.tp net14.n (fun z => nomatch z))]; exact net14.tp
      have wln : (upd H14 na (.lst ((needsOf os.length (LL ts os) oo).map V.int ++ [V.non]))) wl = some (.lst (rsx.map V.ref)) := by rw [upd_ne nnw.symm]; exact x1'
      refine ⟨_, rfl, r, _, _, _, rfl, rfl, SqT.of tpn, rfl, .inl ⟨rfl, _, SqL.of wln⟩, wl, _, _, rfl, rfl, wln, ?_, ?_⟩
      · rw [List.length_map, x2']
        unfold waysOf
        simp
        exact Nat.lt_of_le_of_lt (by omega : 2 * ts.length + 2 * ts.length ≤ 200) (by decide)
      exact ⟨fun b o h => by rw [upd_ne (ne_of_none h hw8), upd_ne (ne_of_none h hn8)]; exact g814 _ _ h, _, _, rfl⟩
    · rintro σ H9 ⟨g9, o5, o6, rfl⟩
      exact ⟨g28.trans g9, _, _, _, _, rfl⟩
  · rintro σ H4 ⟨g4, o3, o4, o5, o6, rfl⟩
    exact q _
end K22

namespace K22
open PySem L2
theorem all_mk {l : PySem.W.OpenLaw} {w : World} {K : PySem.W.Frag} {h : Heap} {mg : Str → Option Value} {fa f0 f1 f2 f3 f4 f5 f6 f7 f8 f9 f10 f11 f12 f13 f14 f15 f16 f17 f18 f19 f20 f21 f22 f23 f24 f25 : Addr} (X : K.In h) (G : h.Ns mainGlobals mg) (hfa : mg "law" = some (.ref fa)) {qt : Tok}
    {od0 an0 od1 an1 od2 an2 od3 an3 od4 an4 od5 an5 od6 an6 od7 an7 od8 an8 od9 an9 od10 an10 od11 an11 od12 an12 od13 an13 od14 an14 od15 an15 od16 an16 od17 an17 od18 an18 od19 an19 od20 an20 od21 an21 od22 an22 od23 an23 od24 an24 od25 an25 : Option Addr} {sl0 sl1 sl2 sl3 sl4 sl5 sl6 sl7 sl8 sl9 sl10 sl11 sl12 sl13 sl14 sl15 sl16 sl17 sl18 sl19 sl20 sl21 sl22 sl23 sl24 sl25 : Array (Option Value)} {oc0 kV0 dc0 pm0 cd0 ct0 oc1 kV1 dc1 pm1 cd1 ct1 oc2 kV2 dc2 pm2 cd2 ct2 oc3 kV3 dc3 pm3 cd3 ct3 oc4 kV4 dc4 pm4 cd4 ct4 oc5 kV5 dc5 pm5 cd5 ct5 oc6 kV6 dc6 pm6 cd6 ct6 oc7 kV7 dc7 pm7 cd7 ct7 oc8 kV8 dc8 pm8 cd8 ct8 oc9 kV9 dc9 pm9 cd9 ct9 oc10 kV10 dc10 pm10 cd10 ct10 oc11 kV11 dc11 pm11 cd11 ct11 oc12 kV12 dc12 pm12 cd12 ct12 oc13 kV13 dc13 pm13 cd13 ct13 oc14 kV14 dc14 pm14 cd14 ct14 oc15 kV15 dc15 pm15 cd15 ct15 oc16 kV16 dc16 pm16 cd16 ct16 oc17 kV17 dc17 pm17 cd17 ct17 oc18 kV18 dc18 pm18 cd18 ct18 oc19 kV19 dc19 pm19 cd19 ct19 oc20 kV20 dc20 pm20 cd20 ct20 oc21 kV21 dc21 pm21 cd21 ct21 oc22 kV22 dc22 pm22 cd22 ct22 oc23 kV23 dc23 pm23 cd23 ct23 oc24 kV24 dc24 pm24 cd24 ct24 oc25 kV25 dc25 pm25 cd25 ct25 : Value}
    (a0 : PySem.W.nsIn K mainGlobals "other_end" = some (some (.ref f0))) (l0 : K.lookup f0 = some ⟨oc0, od0, .func (PySem.W.fnOf "other_end" "other_end" (defArgs s_other_end) (defBody s_other_end) (defScope s_other_end) .none kV0 dc0 pm0 an0 cd0 ct0), sl0⟩) (c0 : PySem.W.codeIn K cd0 "other_end" = true) (k0 : PySem.W.keepIn K (.ref f0) = true)
    (a1 : PySem.W.nsIn K mainGlobals "place_of" = some (some (.ref f1))) (l1 : K.lookup f1 = some ⟨oc1, od1, .func (PySem.W.fnOf "place_of" "place_of" (defArgs s_place_of) (defBody s_place_of) (defScope s_place_of) .none kV1 dc1 pm1 an1 cd1 ct1), sl1⟩) (c1 : PySem.W.codeIn K cd1 "place_of" = true) (k1 : PySem.W.keepIn K (.ref f1) = true)
    (a2 : PySem.W.nsIn K mainGlobals "goes_to" = some (some (.ref f2))) (l2 : K.lookup f2 = some ⟨oc2, od2, .func (PySem.W.fnOf "goes_to" "goes_to" (defArgs s_goes_to) (defBody s_goes_to) (defScope s_goes_to) .none kV2 dc2 pm2 an2 cd2 ct2), sl2⟩) (c2 : PySem.W.codeIn K cd2 "goes_to" = true) (k2 : PySem.W.keepIn K (.ref f2) = true)
    (a3 : PySem.W.nsIn K mainGlobals "behind" = some (some (.ref f3))) (l3 : K.lookup f3 = some ⟨oc3, od3, .func (PySem.W.fnOf "behind" "behind" (defArgs s_behind) (defBody s_behind) (defScope s_behind) .none kV3 dc3 pm3 an3 cd3 ct3), sl3⟩) (c3 : PySem.W.codeIn K cd3 "behind" = true) (k3 : PySem.W.keepIn K (.ref f3) = true)
    (a4 : PySem.W.nsIn K mainGlobals "lands" = some (some (.ref f4))) (l4 : K.lookup f4 = some ⟨oc4, od4, .func (PySem.W.fnOf "lands" "lands" (defArgs s_lands) (defBody s_lands) (defScope s_lands) .none kV4 dc4 pm4 an4 cd4 ct4), sl4⟩) (c4 : PySem.W.codeIn K cd4 "lands" = true) (k4 : PySem.W.keepIn K (.ref f4) = true)
    (a5 : PySem.W.nsIn K mainGlobals "land_from" = some (some (.ref f5))) (l5 : K.lookup f5 = some ⟨oc5, od5, .func (PySem.W.fnOf "land_from" "land_from" (defArgs s_land_from) (defBody s_land_from) (defScope s_land_from) .none kV5 dc5 pm5 an5 cd5 ct5), sl5⟩) (c5 : PySem.W.codeIn K cd5 "land_from" = true) (k5 : PySem.W.keepIn K (.ref f5) = true)
    (a6 : PySem.W.nsIn K mainGlobals "land_numbers" = some (some (.ref f6))) (l6 : K.lookup f6 = some ⟨oc6, od6, .func (PySem.W.fnOf "land_numbers" "land_numbers" (defArgs s_land_numbers) (defBody s_land_numbers) (defScope s_land_numbers) .none kV6 dc6 pm6 an6 cd6 ct6), sl6⟩) (c6 : PySem.W.codeIn K cd6 "land_numbers" = true) (k6 : PySem.W.keepIn K (.ref f6) = true)
    (a7 : PySem.W.nsIn K mainGlobals "wanted_sum" = some (some (.ref f7))) (l7 : K.lookup f7 = some ⟨oc7, od7, .func (PySem.W.fnOf "wanted_sum" "wanted_sum" (defArgs s_wanted_sum) (defBody s_wanted_sum) (defScope s_wanted_sum) .none kV7 dc7 pm7 an7 cd7 ct7), sl7⟩) (c7 : PySem.W.codeIn K cd7 "wanted_sum" = true) (k7 : PySem.W.keepIn K (.ref f7) = true)
    (a8 : PySem.W.nsIn K mainGlobals "net_of" = some (some (.ref f8))) (l8 : K.lookup f8 = some ⟨oc8, od8, .func (PySem.W.fnOf "net_of" "net_of" (defArgs s_net_of) (defBody s_net_of) (defScope s_net_of) .none kV8 dc8 pm8 an8 cd8 ct8), sl8⟩) (c8 : PySem.W.codeIn K cd8 "net_of" = true) (k8 : PySem.W.keepIn K (.ref f8) = true)
    (a9 : PySem.W.nsIn K mainGlobals "corner_ways" = some (some (.ref f9))) (l9 : K.lookup f9 = some ⟨oc9, od9, .func (PySem.W.fnOf "corner_ways" "corner_ways" (defArgs s_corner_ways) (defBody s_corner_ways) (defScope s_corner_ways) .none kV9 dc9 pm9 an9 cd9 ct9), sl9⟩) (c9 : PySem.W.codeIn K cd9 "corner_ways" = true) (k9 : PySem.W.keepIn K (.ref f9) = true)
    (a10 : PySem.W.nsIn K mainGlobals "left_ways" = some (some (.ref f10))) (l10 : K.lookup f10 = some ⟨oc10, od10, .func (PySem.W.fnOf "left_ways" "left_ways" (defArgs s_left_ways) (defBody s_left_ways) (defScope s_left_ways) .none kV10 dc10 pm10 an10 cd10 ct10), sl10⟩) (c10 : PySem.W.codeIn K cd10 "left_ways" = true) (k10 : PySem.W.keepIn K (.ref f10) = true)
    (a11 : PySem.W.nsIn K mainGlobals "_law_cell_at" = some (some (.ref f11))) (l11 : K.lookup f11 = some ⟨oc11, od11, .func (PySem.W.fnOf "_law_cell_at" "_law_cell_at" (defArgs s_l_cell_at) (defBody s_l_cell_at) (defScope s_l_cell_at) .none kV11 dc11 pm11 an11 cd11 ct11), sl11⟩) (c11 : PySem.W.codeIn K cd11 "_law_cell_at" = true) (k11 : PySem.W.keepIn K (.ref f11) = true)
    (a12 : PySem.W.nsIn K mainGlobals "_law_mix" = some (some (.ref f12))) (l12 : K.lookup f12 = some ⟨oc12, od12, .func (PySem.W.fnOf "_law_mix" "_law_mix" (defArgs s_l_mix) (defBody s_l_mix) (defScope s_l_mix) .none kV12 dc12 pm12 an12 cd12 ct12), sl12⟩) (c12 : PySem.W.codeIn K cd12 "_law_mix" = true) (k12 : PySem.W.keepIn K (.ref f12) = true)
    (a13 : PySem.W.nsIn K mainGlobals "_law_digit" = some (some (.ref f13))) (l13 : K.lookup f13 = some ⟨oc13, od13, .func (PySem.W.fnOf "_law_digit" "_law_digit" (defArgs s_l_digit) (defBody s_l_digit) (defScope s_l_digit) .none kV13 dc13 pm13 an13 cd13 ct13), sl13⟩) (c13 : PySem.W.codeIn K cd13 "_law_digit" = true) (k13 : PySem.W.keepIn K (.ref f13) = true)
    (a14 : PySem.W.nsIn K mainGlobals "_law_turned" = some (some (.ref f14))) (l14 : K.lookup f14 = some ⟨oc14, od14, .func (PySem.W.fnOf "_law_turned" "_law_turned" (defArgs s_l_turned) (defBody s_l_turned) (defScope s_l_turned) .none kV14 dc14 pm14 an14 cd14 ct14), sl14⟩) (c14 : PySem.W.codeIn K cd14 "_law_turned" = true) (k14 : PySem.W.keepIn K (.ref f14) = true)
    (a15 : PySem.W.nsIn K mainGlobals "_law_other" = some (some (.ref f15))) (l15 : K.lookup f15 = some ⟨oc15, od15, .func (PySem.W.fnOf "_law_other" "_law_other" (defArgs s_l_other) (defBody s_l_other) (defScope s_l_other) .none kV15 dc15 pm15 an15 cd15 ct15), sl15⟩) (c15 : PySem.W.codeIn K cd15 "_law_other" = true) (k15 : PySem.W.keepIn K (.ref f15) = true)
    (a16 : PySem.W.nsIn K mainGlobals "_law_place" = some (some (.ref f16))) (l16 : K.lookup f16 = some ⟨oc16, od16, .func (PySem.W.fnOf "_law_place" "_law_place" (defArgs s_l_place) (defBody s_l_place) (defScope s_l_place) .none kV16 dc16 pm16 an16 cd16 ct16), sl16⟩) (c16 : PySem.W.codeIn K cd16 "_law_place" = true) (k16 : PySem.W.keepIn K (.ref f16) = true)
    (a17 : PySem.W.nsIn K mainGlobals "_law_behind" = some (some (.ref f17))) (l17 : K.lookup f17 = some ⟨oc17, od17, .func (PySem.W.fnOf "_law_behind" "_law_behind" (defArgs s_l_behind) (defBody s_l_behind) (defScope s_l_behind) .none kV17 dc17 pm17 an17 cd17 ct17), sl17⟩) (c17 : PySem.W.codeIn K cd17 "_law_behind" = true) (k17 : PySem.W.keepIn K (.ref f17) = true)
    (a18 : PySem.W.nsIn K mainGlobals "_law_lands" = some (some (.ref f18))) (l18 : K.lookup f18 = some ⟨oc18, od18, .func (PySem.W.fnOf "_law_lands" "_law_lands" (defArgs s_l_lands) (defBody s_l_lands) (defScope s_l_lands) .none kV18 dc18 pm18 an18 cd18 ct18), sl18⟩) (c18 : PySem.W.codeIn K cd18 "_law_lands" = true) (k18 : PySem.W.keepIn K (.ref f18) = true)
    (a19 : PySem.W.nsIn K mainGlobals "_law_step" = some (some (.ref f19))) (l19 : K.lookup f19 = some ⟨oc19, od19, .func (PySem.W.fnOf "_law_step" "_law_step" (defArgs s_l_step) (defBody s_l_step) (defScope s_l_step) .none kV19 dc19 pm19 an19 cd19 ct19), sl19⟩) (c19 : PySem.W.codeIn K cd19 "_law_step" = true) (k19 : PySem.W.keepIn K (.ref f19) = true)
    (a20 : PySem.W.nsIn K mainGlobals "_law_renamed" = some (some (.ref f20))) (l20 : K.lookup f20 = some ⟨oc20, od20, .func (PySem.W.fnOf "_law_renamed" "_law_renamed" (defArgs s_l_renamed) (defBody s_l_renamed) (defScope s_l_renamed) .none kV20 dc20 pm20 an20 cd20 ct20), sl20⟩) (c20 : PySem.W.codeIn K cd20 "_law_renamed" = true) (k20 : PySem.W.keepIn K (.ref f20) = true)
    (a21 : PySem.W.nsIn K mainGlobals "_law_map" = some (some (.ref f21))) (l21 : K.lookup f21 = some ⟨oc21, od21, .func (PySem.W.fnOf "_law_map" "_law_map" (defArgs s_l_map) (defBody s_l_map) (defScope s_l_map) .none kV21 dc21 pm21 an21 cd21 ct21), sl21⟩) (c21 : PySem.W.codeIn K cd21 "_law_map" = true) (k21 : PySem.W.keepIn K (.ref f21) = true)
    (a22 : PySem.W.nsIn K mainGlobals "_law_wishes" = some (some (.ref f22))) (l22 : K.lookup f22 = some ⟨oc22, od22, .func (PySem.W.fnOf "_law_wishes" "_law_wishes" (defArgs s_l_wishes) (defBody s_l_wishes) (defScope s_l_wishes) .none kV22 dc22 pm22 an22 cd22 ct22), sl22⟩) (c22 : PySem.W.codeIn K cd22 "_law_wishes" = true) (k22 : PySem.W.keepIn K (.ref f22) = true)
    (a23 : PySem.W.nsIn K mainGlobals "_law_net_of" = some (some (.ref f23))) (l23 : K.lookup f23 = some ⟨oc23, od23, .func (PySem.W.fnOf "_law_net_of" "_law_net_of" (defArgs s_l_net_of) (defBody s_l_net_of) (defScope s_l_net_of) .none kV23 dc23 pm23 an23 cd23 ct23), sl23⟩) (c23 : PySem.W.codeIn K cd23 "_law_net_of" = true) (k23 : PySem.W.keepIn K (.ref f23) = true)
    (a24 : PySem.W.nsIn K mainGlobals "_law_copied" = some (some (.ref f24))) (l24 : K.lookup f24 = some ⟨oc24, od24, .func (PySem.W.fnOf "_law_copied" "_law_copied" (defArgs s_l_copied) (defBody s_l_copied) (defScope s_l_copied) .none kV24 dc24 pm24 an24 cd24 ct24), sl24⟩) (c24 : PySem.W.codeIn K cd24 "_law_copied" = true) (k24 : PySem.W.keepIn K (.ref f24) = true)
    (a25 : PySem.W.nsIn K mainGlobals "law" = some (some (.ref f25))) (l25 : K.lookup f25 = some ⟨oc25, od25, .func (PySem.W.fnOf "law" "law" (defArgs s_law) (defBody s_law) (defScope s_law) .none kV25 dc25 pm25 an25 cd25 ct25), sl25⟩) (c25 : PySem.W.codeIn K cd25 "law" = true) (k25 : PySem.W.keepIn K (.ref f25) = true)
    (z0 : PySem.W.nsIn K mainGlobals "enumerate" = some none)
    (z1 : PySem.W.nsIn K mainGlobals "int" = some none)
    (z2 : PySem.W.nsIn K mainGlobals "isinstance" = some none)
    (z3 : PySem.W.nsIn K mainGlobals "len" = some none)
    (z4 : PySem.W.nsIn K mainGlobals "list" = some none)
    (z5 : PySem.W.nsIn K mainGlobals "range" = some none)
    (z6 : PySem.W.nsIn K mainGlobals "tuple" = some none)
    (gq : PySem.W.nsIn K mainGlobals "QUARTERS_ROUND" = some (some (.int 4 qt)))
    : ∃ fd : FuncData, (∀ (s : Shared) (v : Value), BindsTo s fd ⟨[v], []⟩ [("_law_script", v)]) ∧ ∀ base : Heap, K.In base → base.Ns mainGlobals mg → FnOk l.prog w K mg base CX0 lawK fa fd ["_law_script"] (spLaw K) := by
  have e := hfa.symm.trans (PySem.W.mg_of X G a25)
  cases e
  have F0 := fun_mk (st := s_other_end) l0 c0 k0
  have b0 := F0.binds (ps := ["end"]) fun _ _ _ _ _ _ us hl => match us, hl with | [_], _ => rfl
  have F1 := fun_mk (st := s_place_of) l1 c1 k1
  have b1 := F1.binds (ps := ["web", "end"]) fun _ _ _ _ _ _ us hl => match us, hl with | [_, _], _ => rfl
  have F2 := fun_mk (st := s_goes_to) l2 c2 k2
  have b2 := F2.binds (ps := ["web", "end"]) fun _ _ _ _ _ _ us hl => match us, hl with | [_, _], _ => rfl
  have F3 := fun_mk (st := s_behind) l3 c3 k3
  have b3 := F3.binds (ps := ["web", "end"]) fun _ _ _ _ _ _ us hl => match us, hl with | [_, _], _ => rfl
  have F4 := fun_mk (st := s_lands) l4 c4 k4
  have b4 := F4.binds (ps := ["web"]) fun _ _ _ _ _ _ us hl => match us, hl with | [_], _ => rfl
  have F5 := fun_mk (st := s_land_from) l5 c5 k5
  have b5 := F5.binds (ps := ["web", "first"]) fun _ _ _ _ _ _ us hl => match us, hl with | [_, _], _ => rfl
  have F6 := fun_mk (st := s_land_numbers) l6 c6 k6
  have b6 := F6.binds (ps := ["web"]) fun _ _ _ _ _ _ us hl => match us, hl with | [_], _ => rfl
  have F7 := fun_mk (st := s_wanted_sum) l7 c7 k7
  have b7 := F7.binds (ps := ["number", "outer"]) fun _ _ _ _ _ _ us hl => match us, hl with | [_, _], _ => rfl
  have F8 := fun_mk (st := s_net_of) l8 c8 k8
  have b8 := F8.binds (ps := ["web", "outer", "wishes"]) fun _ _ _ _ _ _ us hl => match us, hl with | [_, _, _], _ => rfl
  have F9 := fun_mk (st := s_corner_ways) l9 c9 k9
  have b9 := F9.binds (ps := ["web", "sets"]) fun _ _ _ _ _ _ us hl => match us, hl with | [_, _], _ => rfl
  have F10 := fun_mk (st := s_left_ways) l10 c10 k10
  have b10 := F10.binds (ps := ["web", "wishes"]) fun _ _ _ _ _ _ us hl => match us, hl with | [_, _], _ => rfl
  have F11 := fun_mk (st := s_l_cell_at) l11 c11 k11
  have b11 := F11.binds (ps := ["_law_script", "_law_k"]) fun _ _ _ _ _ _ us hl => match us, hl with | [_, _], _ => rfl
  have F12 := fun_mk (st := s_l_mix) l12 c12 k12
  have b12 := F12.binds (ps := ["_law_cell", "_law_k"]) fun _ _ _ _ _ _ us hl => match us, hl with | [_, _], _ => rfl
  have F13 := fun_mk (st := s_l_digit) l13 c13 k13
  have b13 := F13.binds (ps := ["_law_number", "_law_by", "_law_k"]) fun _ _ _ _ _ _ us hl => match us, hl with | [_, _, _], _ => rfl
  have F14 := fun_mk (st := s_l_turned) l14 c14 k14
  have b14 := F14.binds (ps := ["_law_number", "_law_many"]) fun _ _ _ _ _ _ us hl => match us, hl with | [_, _], _ => rfl
  have F15 := fun_mk (st := s_l_other) l15 c15 k15
  have b15 := F15.binds (ps := ["_law_end"]) fun _ _ _ _ _ _ us hl => match us, hl with | [_], _ => rfl
  have F16 := fun_mk (st := s_l_place) l16 c16 k16
  have b16 := F16.binds (ps := ["_law_ties", "_law_end"]) fun _ _ _ _ _ _ us hl => match us, hl with | [_, _], _ => rfl
  have F17 := fun_mk (st := s_l_behind) l17 c17 k17
  have b17 := F17.binds (ps := ["_law_ties", "_law_orders", "_law_end"]) fun _ _ _ _ _ _ us hl => match us, hl with | [_, _, _], _ => rfl
  have F18 := fun_mk (st := s_l_lands) l18 c18 k18
  have b18 := F18.binds (ps := ["_law_ties", "_law_orders"]) fun _ _ _ _ _ _ us hl => match us, hl with | [_, _], _ => rfl
  have F19 := fun_mk (st := s_l_step) l19 c19 k19
  have b19 := F19.binds (ps := ["_law_ties", "_law_orders", "_law_pick", "_law_most"]) fun _ _ _ _ _ _ us hl => match us, hl with | [_, _, _, _], _ => rfl
  have F20 := fun_mk (st := s_l_renamed) l20 c20 k20
  have b20 := F20.binds (ps := ["_law_ties", "_law_orders", "_law_cell"]) fun _ _ _ _ _ _ us hl => match us, hl with | [_, _, _], _ => rfl
  have F21 := fun_mk (st := s_l_map) l21 c21 k21
  have b21 := F21.binds (ps := ["_law_script", "_law_steps", "_law_most"]) fun _ _ _ _ _ _ us hl => match us, hl with | [_, _, _], _ => rfl
  have F22 := fun_mk (st := s_l_wishes) l22 c22 k22
  have b22 := F22.binds (ps := ["_law_ties", "_law_cell", "_law_barred"]) fun _ _ _ _ _ _ us hl => match us, hl with | [_, _, _], _ => rfl
  have F23 := fun_mk (st := s_l_net_of) l23 c23 k23
  have b23 := F23.binds (ps := ["_law_web", "_law_outer", "_law_wishes_here"]) fun _ _ _ _ _ _ us hl => match us, hl with | [_, _, _], _ => rfl
  have F24 := fun_mk (st := s_l_copied) l24 c24 k24
  have b24 := F24.binds (ps := ["_law_web"]) fun _ _ _ _ _ _ us hl => match us, hl with | [_], _ => rfl
  have F25 := fun_mk (st := s_law) l25 c25 k25
  have b25 := F25.binds (ps := ["_law_script"]) fun _ _ _ _ _ _ us hl => match us, hl with | [_], _ => rfl
  have T : Txt K mg { q_tok := qt, a_other_end := f0, d_other_end := _, a_place_of := f1, d_place_of := _, a_goes_to := f2, d_goes_to := _, a_behind := f3, d_behind := _, a_lands := f4, d_lands := _, a_land_from := f5, d_land_from := _, a_land_numbers := f6, d_land_numbers := _, a_wanted_sum := f7, d_wanted_sum := _, a_net_of := f8, d_net_of := _, a_corner_ways := f9, d_corner_ways := _, a_left_ways := f10, d_left_ways := _, a_l_cell_at := f11, d_l_cell_at := _, a_l_mix := f12, d_l_mix := _, a_l_digit := f13, d_l_digit := _, a_l_turned := f14, d_l_turned := _, a_l_other := f15, d_l_other := _, a_l_place := f16, d_l_place := _, a_l_behind := f17, d_l_behind := _, a_l_lands := f18, d_l_lands := _, a_l_step := f19, d_l_step := _, a_l_renamed := f20, d_l_renamed := _, a_l_map := f21, d_l_map := _, a_l_wishes := f22, d_l_wishes := _, a_l_net_of := f23, d_l_net_of := _, a_l_copied := f24, d_l_copied := _, a_law := fa, d_law := _ } := { g_QUARTERS_ROUND := PySem.W.mg_of X G gq, F_other_end := F0, m_other_end := PySem.W.mg_of X G a0, k_other_end := k0, b_other_end := b0, F_place_of := F1, m_place_of := PySem.W.mg_of X G a1, k_place_of := k1, b_place_of := b1, F_goes_to := F2, m_goes_to := PySem.W.mg_of X G a2, k_goes_to := k2, b_goes_to := b2, F_behind := F3, m_behind := PySem.W.mg_of X G a3, k_behind := k3, b_behind := b3, F_lands := F4, m_lands := PySem.W.mg_of X G a4, k_lands := k4, b_lands := b4, F_land_from := F5, m_land_from := PySem.W.mg_of X G a5, k_land_from := k5, b_land_from := b5, F_land_numbers := F6, m_land_numbers := PySem.W.mg_of X G a6, k_land_numbers := k6, b_land_numbers := b6, F_wanted_sum := F7, m_wanted_sum := PySem.W.mg_of X G a7, k_wanted_sum := k7, b_wanted_sum := b7, F_net_of := F8, m_net_of := PySem.W.mg_of X G a8, k_net_of := k8, b_net_of := b8, F_corner_ways := F9, m_corner_ways := PySem.W.mg_of X G a9, k_corner_ways := k9, b_corner_ways := b9, F_left_ways := F10, m_left_ways := PySem.W.mg_of X G a10, k_left_ways := k10, b_left_ways := b10, F_l_cell_at := F11, m_l_cell_at := PySem.W.mg_of X G a11, k_l_cell_at := k11, b_l_cell_at := b11, F_l_mix := F12, m_l_mix := PySem.W.mg_of X G a12, k_l_mix := k12, b_l_mix := b12, F_l_digit := F13, m_l_digit := PySem.W.mg_of X G a13, k_l_digit := k13, b_l_digit := b13, F_l_turned := F14, m_l_turned := PySem.W.mg_of X G a14, k_l_turned := k14, b_l_turned := b14, F_l_other := F15, m_l_other := PySem.W.mg_of X G a15, k_l_other := k15, b_l_other := b15, F_l_place := F16, m_l_place := PySem.W.mg_of X G a16, k_l_place := k16, b_l_place := b16, F_l_behind := F17, m_l_behind := PySem.W.mg_of X G a17, k_l_behind := k17, b_l_behind := b17, F_l_lands := F18, m_l_lands := PySem.W.mg_of X G a18, k_l_lands := k18, b_l_lands := b18, F_l_step := F19, m_l_step := PySem.W.mg_of X G a19, k_l_step := k19, b_l_step := b19, F_l_renamed := F20, m_l_renamed := PySem.W.mg_of X G a20, k_l_renamed := k20, b_l_renamed := b20, F_l_map := F21, m_l_map := PySem.W.mg_of X G a21, k_l_map := k21, b_l_map := b21, F_l_wishes := F22, m_l_wishes := PySem.W.mg_of X G a22, k_l_wishes := k22, b_l_wishes := b22, F_l_net_of := F23, m_l_net_of := PySem.W.mg_of X G a23, k_l_net_of := k23, b_l_net_of := b23, F_l_copied := F24, m_l_copied := PySem.W.mg_of X G a24, k_l_copied := k24, b_l_copied := b24, F_law := F25, m_law := PySem.W.mg_of X G a25, k_law := k25, b_law := b25, z_enumerate := PySem.W.mg_none_of X G z0, z_int := PySem.W.mg_none_of X G z1, z_isinstance := PySem.W.mg_none_of X G z2, z_len := PySem.W.mg_none_of X G z3, z_list := PySem.W.mg_none_of X G z4, z_range := PySem.W.mg_none_of X G z5, z_tuple := PySem.W.mg_none_of X G z6 }
  exact ⟨_, fun s v => .of_eq rfl, fun base _ _ => ok_law T⟩
theorem walk {l : PySem.W.OpenLaw} {q : Program} {loose : List Str} {XP : (Str → Option Value) → Heap → Prop} {YP : World → Heap → Prop} {d : DefRec} {K : Params → PySem.W.Frag} (hn : l.most = some 63) (hdf : d.params.defaults = [])
    (hY : ∀ (w : World) (h : Heap), YP w h → (K w.params).In h)
    (F : ∀ (w : World) (mg : Str → Option Value) (fa : Addr) (h : Heap), (K w.params).In h → h.Ns mainGlobals mg → mg d.name = some (.ref fa) →
      ∃ fd : FuncData, (∀ (s : Shared) (u : Value), BindsTo s fd ⟨[u], []⟩ [("_law_script", u)]) ∧ ∀ base : Heap, (K w.params).In base → base.Ns mainGlobals mg → FnOk l.prog w (K w.params) mg base CX0 lawK fa fd ["_law_script"] (spLaw (K w.params))) :
    PySem.W.WalkO q loose XP YP l.row.toRowW d [] (fun f vs => PySem.call f vs) :=
  L2.walk_of (n := 63) (k := lawK) (x := "_law_script") (CX := fun _ => CX0) (sp := fun w => spLaw (K w.params)) hn (by decide) hdf ⟨rfl, by decide, by decide⟩ hY F (fun _ _ a ns hl _ hS => ⟨a, ns, rfl, hS, hl, fun _ => rfl⟩) fun _ _ _ _ _ z => z
end K22
open PySem PySem.W PyProof.Rows
set_option maxRecDepth 100000 in
set_option maxHeartbeats 0 in
theorem PySem.Challenge.cw_fewbends_k22_nets_of_maps_holds : PySem.Challenge.rw_fewbends_k22_nets_of_maps.Holds := by
  w_on; o_law; k_head; (case hw => w_witness2)
  k_fill
  refine K22.walk (l := PySem.Challenge.rw_fewbends_k22_nets_of_maps) rfl rfl (fun w h Y => PySem.W.kIn_of Y) ?F
  case F =>
    intro w mg fa h KX G hmg
    refine' K22.all_mk KX G hmg ?a0 ?l0 ?c0 ?k0 ?a1 ?l1 ?c1 ?k1 ?a2 ?l2 ?c2 ?k2 ?a3 ?l3 ?c3 ?k3 ?a4 ?l4 ?c4 ?k4 ?a5 ?l5 ?c5 ?k5 ?a6 ?l6 ?c6 ?k6 ?a7 ?l7 ?c7 ?k7 ?a8 ?l8 ?c8 ?k8 ?a9 ?l9 ?c9 ?k9 ?a10 ?l10 ?c10 ?k10 ?a11 ?l11 ?c11 ?k11 ?a12 ?l12 ?c12 ?k12 ?a13 ?l13 ?c13 ?k13 ?a14 ?l14 ?c14 ?k14 ?a15 ?l15 ?c15 ?k15 ?a16 ?l16 ?c16 ?k16 ?a17 ?l17 ?c17 ?k17 ?a18 ?l18 ?c18 ?k18 ?a19 ?l19 ?c19 ?k19 ?a20 ?l20 ?c20 ?k20 ?a21 ?l21 ?c21 ?k21 ?a22 ?l22 ?c22 ?k22 ?a23 ?l23 ?c23 ?k23 ?a24 ?l24 ?c24 ?k24 ?a25 ?l25 ?c25 ?k25 ?z0 ?z1 ?z2 ?z3 ?z4 ?z5 ?z6 ?gq
    (case a0 => k_is); (case l0 => k_is); (case c0 => k_is); (case k0 => k_is)
    (case a1 => k_is); (case l1 => k_is); (case c1 => k_is); (case k1 => k_is)
    (case a2 => k_is); (case l2 => k_is); (case c2 => k_is); (case k2 => k_is)
    (case a3 => k_is); (case l3 => k_is); (case c3 => k_is); (case k3 => k_is)
    (case a4 => k_is); (case l4 => k_is); (case c4 => k_is); (case k4 => k_is)
    (case a5 => k_is); (case l5 => k_is); (case c5 => k_is); (case k5 => k_is)
    (case a6 => k_is); (case l6 => k_is); (case c6 => k_is); (case k6 => k_is)
    (case a7 => k_is); (case l7 => k_is); (case c7 => k_is); (case k7 => k_is)
    (case a8 => k_is); (case l8 => k_is); (case c8 => k_is); (case k8 => k_is)
    (case a9 => k_is); (case l9 => k_is); (case c9 => k_is); (case k9 => k_is)
    (case a10 => k_is); (case l10 => k_is); (case c10 => k_is); (case k10 => k_is)
    (case a11 => k_is); (case l11 => k_is); (case c11 => k_is); (case k11 => k_is)
    (case a12 => k_is); (case l12 => k_is); (case c12 => k_is); (case k12 => k_is)
    (case a13 => k_is); (case l13 => k_is); (case c13 => k_is); (case k13 => k_is)
    (case a14 => k_is); (case l14 => k_is); (case c14 => k_is); (case k14 => k_is)
    (case a15 => k_is); (case l15 => k_is); (case c15 => k_is); (case k15 => k_is)
    (case a16 => k_is); (case l16 => k_is); (case c16 => k_is); (case k16 => k_is)
    (case a17 => k_is); (case l17 => k_is); (case c17 => k_is); (case k17 => k_is)
    (case a18 => k_is); (case l18 => k_is); (case c18 => k_is); (case k18 => k_is)
    (case a19 => k_is); (case l19 => k_is); (case c19 => k_is); (case k19 => k_is)
    (case a20 => k_is); (case l20 => k_is); (case c20 => k_is); (case k20 => k_is)
    (case a21 => k_is); (case l21 => k_is); (case c21 => k_is); (case k21 => k_is)
    (case a22 => k_is); (case l22 => k_is); (case c22 => k_is); (case k22 => k_is)
    (case a23 => k_is); (case l23 => k_is); (case c23 => k_is); (case k23 => k_is)
    (case a24 => k_is); (case l24 => k_is); (case c24 => k_is); (case k24 => k_is)
    (case a25 => k_is); (case l25 => k_is); (case c25 => k_is); (case k25 => k_is)
    (case z0 => k_is); (case z1 => k_is); (case z2 => k_is); (case z3 => k_is); (case z4 => k_is); (case z5 => k_is); (case z6 => k_is); (case gq => k_is)

