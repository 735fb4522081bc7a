import PyProof.Rows.All
import Wide.All
import OpenK.AllK
import Wide.FinOn
import Lean
import PyProof.EqAt
import PyProof.EqKinds
import PyProof.TupleCall
import KE.BitLaws
import PySem.Challenge.RW_fewbends_k05_shapes_looked_at
set_option Elab.async false
set_option linter.all false
set_option maxRecDepth 100000
namespace L2
open PySem PySem.Spec PyProof.Rows

abbrev Key := Sum Int Str
def keyIs : Key → Value → Bool
  | .inl k, v => Value.isInt k v
  | .inr x, v => Value.isStrOf x v
def keyH (w : World) : Key → Int
  | .inl k => hashInt k
  | .inr x => hashStr w x
theorem keyIs_shape : ∀ {k : Key} {v : Value}, keyIs k v = true → (∃ i t, k = Sum.inl i ∧ v = Value.int i t) ∨ (∃ x t, k = Sum.inr x ∧ v = Value.str x t)
  | .inl i, v, h => by
    obtain ⟨t, e⟩ := Value.isInt_shape (k := i) (v := v) h
    exact .inl ⟨i, t, rfl, e⟩
  | .inr x, v, h => by
    obtain ⟨t, e⟩ := Value.isStrOf_shape (x := x) (v := v) h
    exact .inr ⟨x, t, rfl, e⟩
theorem keyIs_int (i : Int) (t : Tok) : keyIs (.inl i) (.int i t) = true := by simp [keyIs, Value.isInt]
theorem keyIs_str (x : Str) (t : Tok) : keyIs (.inr x) (.str x t) = true := by simp [keyIs, Value.isStrOf]
theorem key_ll (a b : Int) : decide ((Sum.inl a : Key) = Sum.inl b) = (a == b) := by
  by_cases e : a = b
  · subst e; simp
  · have h : ¬ (Sum.inl a : Key) = Sum.inl b := fun q => e (Sum.inl.inj q)
    rw [decide_eq_false h]
    exact (beq_eq_false_iff_ne.mpr e).symm
theorem key_rr (a b : Str) : decide ((Sum.inr a : Key) = Sum.inr b) = decide (a = b) := by
  by_cases e : a = b
  · subst e; simp
  · have h : ¬ (Sum.inr a : Key) = Sum.inr b := fun q => e (Sum.inr.inj q)
    rw [decide_eq_false h, decide_eq_false e]
theorem key_lr (a : Int) (b : Str) : decide ((Sum.inl a : Key) = Sum.inr b) = false := decide_eq_false (fun q => nomatch q)
theorem key_rl (a : Str) (b : Int) : decide ((Sum.inr a : Key) = Sum.inl b) = false := decide_eq_false (fun q => nomatch q)

def mixKind (prog : Program) (w : World) : PySem.KeyKind prog w Key where
  is := keyIs
  hash := keyH w
  inj := fun v a b ha hb => by
    rcases keyIs_shape ha with ⟨i, t, rfl, rfl⟩ | ⟨x, t, rfl, rfl⟩
    · rcases keyIs_shape hb with ⟨j, u, rfl, e⟩ | ⟨y, u, rfl, e⟩
      · injection e with e1 _; rw [e1]
      · exact nomatch e
    · rcases keyIs_shape hb with ⟨j, u, rfl, e⟩ | ⟨y, u, rfl, e⟩
      · exact nomatch e
      · injection e with e1 _; rw [e1]
  byValue := fun k v h => by
    rcases keyIs_shape h with ⟨i, t, rfl, rfl⟩ | ⟨x, t, rfl, rfl⟩ <;> rfl
  pyHash := fun hv h => by
    rcases keyIs_shape hv with ⟨i, t, rfl, rfl⟩ | ⟨x, t, rfl, rfl⟩
    · exact wpAny_pyHash_int h
    · exact wpAny_pyHash_str h
  eqBool := fun hu hv h => by
    rcases keyIs_shape hu with ⟨i, t, rfl, rfl⟩ | ⟨x, t, rfl, rfl⟩
    · rcases keyIs_shape hv with ⟨j, u, rfl, rfl⟩ | ⟨y, u, rfl, rfl⟩
      · rw [key_ll] at h; exact wpAny_eqBool_int h
      · rw [key_lr] at h; exact SeqAt.EqAt.int_str i t y u _ _ _ _ h
    · rcases keyIs_shape hv with ⟨j, u, rfl, rfl⟩ | ⟨y, u, rfl, rfl⟩
      · rw [key_rl] at h; exact SeqAt.EqAt.str_int x t j u _ _ _ _ h
      · rw [key_rr] at h; exact wpAny_eqBool_str h
  «strs» := fun k x t v h => by
    rcases keyIs_shape h with ⟨i, u, rfl, e⟩ | ⟨y, u, rfl, e⟩
    · exact nomatch e
    · injection e with e1 _
      subst e1
      cases v <;> rfl

theorem mixKind_int (prog : Program) (w : World) (i : Int) (t : Tok) : (mixKind prog w).is (.inl i) (.int i t) = true := keyIs_int i t
theorem mixKind_str (prog : Program) (w : World) (x : Str) (t : Tok) : (mixKind prog w).is (.inr x) (.str x t) = true := keyIs_str x t
end L2

namespace L2
open PySem PySem.Spec PyProof.Rows

inductive V where
  | non | bl (b : Bool) | int (i : Int) | str (x : Str) | byt (b : Array UInt8) | flt (b : UInt64) | ref (a : Addr) | ty (n : String)
  deriving DecidableEq

def RelV : V → Value → Prop
  | .non, u => u = Value.none
  | .bl b, u => u = Value.bool b
  | .int i, u => ∃ t, u = Value.int i t
  | .str x, u => ∃ t, u = Value.str x t
  | .byt b, u => ∃ t, u = Value.bytes b t
  | .flt b, u => ∃ t, u = Value.float b t
  | .ref a, u => u = Value.ref a
  | .ty n, u => u = Value.type n

abbrev Vals : List V → List Value → Prop := Paired RelV
theorem Vals.length {xs : List V} {us : List Value} (r : Vals xs us) : xs.length = us.length := Paired.length r
theorem Vals.get : ∀ {xs : List V} {us : List Value} {i : Nat} {x : V}, Vals xs us → xs[i]? = some x → ∃ u, us[i]? = some u ∧ RelV x u
  | _, _, _, _, .nil, e => by simp at e
  | _, _, 0, _, .cons r _, e => by simp at e; subst e; exact ⟨_, rfl, r⟩
  | _, _, i + 1, x, .cons _ t, e => by
    obtain ⟨u, h1, h2⟩ := Vals.get (i := i) (x := x) t (by simpa using e)
    exact ⟨u, by simpa using h1, h2⟩
theorem Vals.set {x : V} {u : Value} (r : RelV x u) : ∀ {xs : List V} {us : List Value} (i : Nat), Vals xs us → Vals (xs.set i x) (us.set i u)
  | _, _, _, .nil => .nil
  | _, _, 0, .cons _ t => .cons r t
  | _, _, i + 1, .cons q t => .cons q (Vals.set r i t)
theorem Vals.append : ∀ {xs ys : List V} {us ws : List Value}, Vals xs us → Vals ys ws → Vals (xs ++ ys) (us ++ ws)
  | _, _, _, _, .nil, s => s
  | _, _, _, _, .cons r t, s => .cons r (Vals.append t s)
theorem Vals.take : ∀ {xs : List V} {us : List Value} (n : Nat), Vals xs us → Vals (xs.take n) (us.take n)
  | _, _, 0, _ => .nil
  | _, _, _ + 1, .nil => .nil
  | _, _, n + 1, .cons r t => .cons r (Vals.take n t)
theorem Vals.drop : ∀ {xs : List V} {us : List Value} (n : Nat), Vals xs us → Vals (xs.drop n) (us.drop n)
  | _, _, 0, r => r
  | _, _, _ + 1, .nil => .nil
  | _, _, n + 1, .cons _ t => Vals.drop n t
def RelO : Option V → Option Value → Prop
  | some v, some u => RelV v u
  | none, none => True
  | _, _ => False
def KV {κ : Type} : List (κ × V) → List (κ × Value) → Prop := Paired fun (p : κ × V) (q : κ × Value) => p.1 = q.1 ∧ RelV p.2 q.2

def kV : Key → V
  | .inl i => .int i
  | .inr x => .str x

inductive HO where
  /-- a list -/
  | lst (xs : List V)
  /-- a tuple (never changes) -/
  | tup (xs : List V)
  /-- a dict whose keys are ints and texts; one whose keys are tuples of ints and texts (the empty one is both) -/
  | dK (kvs : List (Key × V)) | dT (kvs : List (List Key × V))
  /-- a set of ints: its members, its size -/
  | set (S : Int → Bool) (n : Nat)
  /-- an instance of the class at C, its dict at dx, its attributes -/
  | ins (C dx : Addr) (fs : List (Str × V))
  /-- the dict of the instance at x -/
  | own (x : Addr)
  /-- the dict of an exception -/
  | xd (fs : List (Str × V))
  /-- a bound method, f of x -/
  | met (f x : Addr)
  /-- a range object lo, lo + 1, .. below hi -/
  | rng (lo hi : Int)
  /-- a thing that is known to the object (the script; a dict while a loop walks it): read, never written while it is so -/
  | frz (o : Obj) (u : HO)
  /-- a code object's table -/
  | tbl (ps : Array Value)
  /-- any other thing, by what is true of its one object (a def of one's own: SetO a S n := HO.ext fun h => ..) -/
  | ext (φ : Heap → Prop)

abbrev Hp := Addr → Option HO
def upd (H : Hp) (a : Addr) (o : HO) : Hp := fun b => if b = a then some o else H b
theorem upd_same {H : Hp} {a : Addr} {o : HO} : upd H a o a = some o := by unfold upd; rw [if_pos rfl]
theorem upd_ne {H : Hp} {a b : Addr} {o : HO} (h : b ≠ a) : upd H a o b = H b := by unfold upd; rw [if_neg h]
theorem upd_upd {H : Hp} {a : Addr} {o u : HO} : upd (upd H a o) a u = upd H a u := by
  funext b; unfold upd; split <;> rfl
theorem ne_of {H : Hp} {a b : Addr} {o u : HO} (h : H a = some o) (h' : H b = some u) (d : o ≠ u) : a ≠ b := by
  intro e; subst e; rw [h] at h'; exact d (Option.some.inj h')
theorem ne_of_none {H : Hp} {a b : Addr} {o : HO} (h : H a = some o) (h' : H b = none) : a ≠ b := by
  intro e; subst e; rw [h] at h'; cases h'

section
variable (P : Program) (w : World)
def ObjOk (H : Hp) (h : Heap) (a : Addr) : HO → Prop
  | .lst xs => xs.length ≤ sizeLine ∧ ∃ (its : List Value) (n : Nat), Vals xs its ∧ h.get? a = some { cls := .type "list", data := .seq its.toArray n }
  | .tup xs => xs.length ≤ sizeLine ∧ ∃ its : List Value, Vals xs its ∧ IsTup h a its.toArray
  | .dK kvs => kvs.length ≤ sizeLine ∧ (a == sysModules) = false ∧ ∃ vs, KV kvs vs ∧ h.DictOf (mixKind P w) a vs
  | .dT kvs => kvs.length ≤ sizeLine ∧ (a == sysModules) = false ∧ ∃ xs : List (List Key × Addr × Value),
      Paired (fun (p : List Key × V) (q : List Key × Addr × Value) => p.1 = q.1 ∧ H q.2.1 = some (.tup (p.1.map kV)) ∧ RelV p.2 q.2.2) kvs xs ∧
      ∃ o es ep, h.get? a = some o ∧ o.ExactDict ∧ o.data = .dict es ep ∧ es.toList = xs.map (entryOfKey (tupleKind (mixKind P w))) ∧ (xs.map (·.1)).Nodup
  | .set S n => h.SetOf (intKind P w) a S n
  | .ins C dx fs => H dx = some (.own a) ∧ fs.length ≤ 1000 ∧ dx ≠ a ∧ h.get? a = some (PySem.W.instObj C dx) ∧
      ∃ mA, h.Ns1 dx mA ∧ (∀ f, RelO (fs.lookup f) (mA f)) ∧ PySem.Within mA (fs.map (·.1))
  | .own _ => ∃ o, h.get? a = some o
  | .xd fs => ∃ mA, h.Ns1 a mA ∧ ∀ f, RelO (fs.lookup f) (mA f)
  | .rng lo hi => ∃ t u v, h.get? a = some { cls := .type "range", data := .fields #[.int lo t, .int hi u, .int 1 v] }
  | .frz o u => h.get? a = some o ∧ ObjOk H h a u
  | .tbl ps => h.get? a = some { cls := .none, data := .fields ps }
  | .met f x => h.get? a = some (PySem.W.methodObj (.ref f) (.ref x))
  | .ext φ => φ h ∧ (∃ o, h.get? a = some o) ∧ ∀ h1 h2 : Heap, φ h1 → (∀ o, h1.get? a = some o → h2.get? a = some o) → φ h2
def HOk (H : Hp) (h : Heap) : Prop := ∀ a o, H a = some o → ObjOk P w H h a o
end

section
variable {P : Program} {w : World} {H H' : Hp} {h h' : Heap} {a : Addr} {o : HO}
theorem ObjOk.lt (x : ObjOk P w H h a o) : a < h.objs.size := by
  cases o with
  | lst xs => obtain ⟨_, _, _, _, e⟩ := x; exact Heap.lt_size e
  | tup xs => obtain ⟨_, _, _, p⟩ := x; exact p.lt
  | dK kvs => obtain ⟨_, _, _, _, o, _, _, e, _⟩ := x; exact Heap.lt_size e
  | dT kvs => obtain ⟨_, _, _, _, o, _, _, e, _⟩ := x; exact Heap.lt_size e
  | set S n => obtain ⟨o, _, _, _, e, _⟩ := x; exact Heap.lt_size e
  | ins C dx fs => obtain ⟨_, _, _, e, _⟩ := x; exact Heap.lt_size e
  | own y => obtain ⟨_, e⟩ := x; exact Heap.lt_size e
  | xd fs => obtain ⟨_, ⟨_, _, _, e, _⟩, _⟩ := x; exact Heap.lt_size e
  | rng lo hi => obtain ⟨_, _, _, e⟩ := x; exact Heap.lt_size e
  | frz ob u => obtain ⟨e, _⟩ := x; exact Heap.lt_size e
  | tbl ps => exact Heap.lt_size (show h.get? a = some _ from x)
  | met f y => exact Heap.lt_size (show h.get? a = some _ from x)
  | ext φ => obtain ⟨_, ⟨_, e⟩, _⟩ := x; exact Heap.lt_size e
theorem Paired.mapP {α β : Type} {F G : α → β → Prop} : ∀ {l₁ : List α} {l₂ : List β}, Paired F l₁ l₂ → (∀ a b, F a b → G a b) → Paired G l₁ l₂
  | _, _, .nil, _ => .nil
  | _, _, .cons r t, f => .cons (f _ _ r) (Paired.mapP t f)
theorem ObjOk.stay (x : ObjOk P w H h a o) (k : ∀ b u, (b = a ∨ H b = some (.own a)) → h.get? b = some u → h'.get? b = some u)
    (ho : ∀ b, H b = some (.own a) → H' b = some (.own a)) (ht : ∀ b xs, H b = some (.tup xs) → H' b = some (.tup xs)) : ObjOk P w H' h' a o := by
  induction o with
  | lst xs => obtain ⟨z, its, n, r, e⟩ := x; exact ⟨z, its, n, r, k _ _ (.inl rfl) e⟩
  | tup xs => obtain ⟨z, its, r, ob, e, c⟩ := x; exact ⟨z, its, r, ob, k _ _ (.inl rfl) e, c⟩
  | dK kvs => obtain ⟨z, y, vs, r, ob, es, ep, e, c⟩ := x; exact ⟨z, y, vs, r, ob, es, ep, k _ _ (.inl rfl) e, c⟩
  | dT kvs =>
    obtain ⟨z, y, xs, r, ob, es, ep, e, c⟩ := x
    exact ⟨z, y, xs, Paired.mapP r fun p q z => ⟨z.1, ht _ _ z.2.1, z.2.2⟩, ob, es, ep, k _ _ (.inl rfl) e, c⟩
  | set S n => obtain ⟨ob, es, ep, t, e, c⟩ := x; exact ⟨ob, es, ep, t, k _ _ (.inl rfl) e, c⟩
  | ins C dx fs =>
    obtain ⟨d, z, ne, e, mA, ⟨od, es, ep, e2, c⟩, r⟩ := x
    exact ⟨ho _ d, z, ne, k _ _ (.inl rfl) e, mA, ⟨od, es, ep, k _ _ (.inr d) e2, c⟩, r⟩
  | own y => obtain ⟨ob, e⟩ := x; exact ⟨ob, k _ _ (.inl rfl) e⟩
  | xd fs => obtain ⟨mA, ⟨od, es, ep, e, c⟩, r⟩ := x; exact ⟨mA, ⟨od, es, ep, k _ _ (.inl rfl) e, c⟩, r⟩
  | rng lo hi => obtain ⟨t, u, v, e⟩ := x; exact ⟨t, u, v, k _ _ (.inl rfl) e⟩
  | frz ob u ih => obtain ⟨e, q⟩ := x; exact ⟨k _ _ (.inl rfl) e, ih q⟩
  | tbl ps =>
    have e : h.get? a = some { cls := .none, data := .fields ps } := x
    show h'.get? a = some { cls := .none, data := .fields ps }
    exact k a _ (.inl rfl) e
  | met f y =>
    have e : h.get? a = some (PySem.W.methodObj (.ref f) (.ref y)) := x
    show h'.get? a = some (PySem.W.methodObj (.ref f) (.ref y))
    exact k a _ (.inl rfl) e
  | ext φ => obtain ⟨p, ⟨o, e⟩, st⟩ := x; exact ⟨st _ _ p fun o q => k _ _ (.inl rfl) q, ⟨o, k _ _ (.inl rfl) e⟩, st⟩
theorem HOk.lt (x : HOk P w H h) (e : H a = some o) : a < h.objs.size := (x a o e).lt
theorem HOk.fresh (x : HOk P w H h) (e : h.objs.size ≤ a) : H a = none := by
  cases q : H a with
  | none => rfl
  | some u => exact absurd (Nat.lt_of_lt_of_le (x.lt q) e) (Nat.lt_irrefl _)
theorem HOk.kept (x : HOk P w H h) (k : ∀ b u, h.get? b = some u → h'.get? b = some u) : HOk P w H h' := fun a o e =>
  (x a o e).stay (fun b u _ q => k b u q) (fun _ q => q) fun _ _ q => q
theorem HOk.laid (x : HOk P w H h) (k : ∀ b u, h.get? b = some u → h'.get? b = some u) (hp : h.objs.size ≤ a) (new : ObjOk P w (upd H a o) h' a o) : HOk P w (upd H a o) h' := fun b u e => by
  have hn := x.fresh hp
  by_cases hb : b = a
  · subst hb; rw [upd_same] at e; cases e; exact new
  · rw [upd_ne hb] at e
    exact (x b u e).stay (fun c v _ q => k c v q) (fun c q => by rw [upd_ne (ne_of_none q hn)]; exact q) fun c xs q => by rw [upd_ne (ne_of_none q hn)]; exact q
end

def Rd (H : Hp) (a : Addr) (u : HO) : Prop := H a = some u ∨ ∃ o, H a = some (.frz o u)
theorem Rd.ok {P : Program} {w : World} {H : Hp} {h : Heap} {a : Addr} {u : HO} (r : Rd H a u) (x : HOk P w H h) : ObjOk P w H h a u := by
  rcases r with r | ⟨o, r⟩
  · exact x a u r
  · obtain ⟨_, q⟩ := x a _ r
    exact q
def Mut : Option HO → Prop
  | some (.lst _) => True
  | some (.dK _) => True
  | some (.dT _) => True
  | some (.set _ _) => True
  | some (.ins _ _ _) => True
  | some (.ext _) => True
  | _ => False
section
variable {P : Program} {w : World} {H : Hp} {h h' : Heap} {x e : Addr} {o' : HO}
theorem HOk.write (ok : HOk P w H h) (mu : Mut (H x)) (he : e = x ∨ H e = some (.own x)) (k : ∀ b u, b ≠ e → h.get? b = some u → h'.get? b = some u) (heo : ∃ u, h'.get? e = some u)
    (new : ObjOk P w (upd H x o') h' x o') : HOk P w (upd H x o') h' := fun b u q => by
  have nown : ∀ c y, H c = some (.own y) → c ≠ x := fun c y r z => by subst z; rw [r] at mu; exact mu
  have ntup : ∀ c xs, H c = some (.tup xs) → c ≠ x := fun c xs r z => by subst z; rw [r] at mu; exact mu
  by_cases hb : b = x
  · subst hb; rw [upd_same] at q; cases q; exact new
  · rw [upd_ne hb] at q
    by_cases hbe : b = e
    · have q' : H b = some (.own x) := by
        rcases he with z | z
        · exact absurd (hbe.trans z) hb
        · rw [hbe]; exact z
      rw [q] at q'; cases q'
      obtain ⟨v, hv⟩ := heo
      exact ⟨v, by rw [hbe]; exact hv⟩
    · refine (ok b u q).stay (fun c v hc r => k c v ?_ r) (fun c r => by rw [upd_ne (nown c b r)]; exact r) fun c xs r => by rw [upd_ne (ntup c xs r)]; exact r
      rcases hc with rfl | hc
      · exact hbe
      · rintro rfl
        rcases he with z | z
        · exact nown c b hc z
        · rw [hc] at z; cases z; exact hb rfl
end

structure Un (fs ex : List Addr) (H H' : Hp) (h h' : Heap) : Prop where
  keep : ∀ b o, h.get? b = some o → H b = none → b ∉ fs → b ∉ ex → h'.get? b = some o
  slot : ∀ b o, h.get? b = some o → H b = none → b ∈ fs → b ∉ ex → ∃ sl, h'.get? b = some { o with slots := sl }
  free : ∀ b o, h.get? b = some o → H b = none → b ∉ ex → H' b = none
  there : ∀ b o, h.get? b = some o → b ∉ ex → ∃ o', h'.get? b = some o'
  tups : ∀ b xs, H b = some (.tup xs) → H' b = some (.tup xs)
  frzs : ∀ b o u, H b = some (.frz o u) → H' b = some (.frz o u)
  tbls : ∀ b ps, H b = some (.tbl ps) → ∃ more, H' b = some (.tbl (ps ++ more))
section
variable {fs fs' ex ex' : List Addr} {H H1 H2 : Hp} {h h1 h2 h' : Heap} {a x e : Addr} {o : HO}
theorem Un.any (u : Un fs ex H H1 h h1) {b : Addr} {ob : Obj} (q : h.get? b = some ob) (n : H b = none) (hx : b ∉ ex) : ∃ sl, h1.get? b = some { ob with slots := sl } := by
  by_cases hb : b ∈ fs
  · exact u.slot b ob q n hb hx
  · exact ⟨ob.slots, u.keep b ob q n hb hx⟩
theorem Un.kept (k : ∀ b u, h.get? b = some u → h'.get? b = some u) : Un fs ex H H h h' :=
  ⟨fun b ob q _ _ _ => k b ob q, fun b ob q _ _ _ => ⟨ob.slots, k b ob q⟩, fun _ _ _ n _ => n, fun b ob q _ => ⟨ob, k b ob q⟩, fun _ _ q => q, fun _ _ _ q => q, fun _ ps q => ⟨#[], by rw [q]; simp⟩⟩
theorem Un.refl : Un fs ex H H h h := Un.kept fun _ _ q => q
theorem Un.laid (k : ∀ b u, h.get? b = some u → h'.get? b = some u) (hp : h.objs.size ≤ a) (hn : H a = none) : Un fs ex H (upd H a o) h h' where
  keep := fun b u q _ _ _ => k b u q
  slot := fun b u q _ _ _ => ⟨u.slots, k b u q⟩
  free := fun b u q n _ => by rw [upd_ne (Nat.ne_of_lt (Nat.lt_of_lt_of_le (Heap.lt_size q) hp))]; exact n
  there := fun b u q _ => ⟨u, k b u q⟩
  tups := fun b xs q => by rw [upd_ne (ne_of_none q hn)]; exact q
  frzs := fun b u xs q => by rw [upd_ne (ne_of_none q hn)]; exact q
  tbls := fun b ps q => ⟨#[], by rw [upd_ne (ne_of_none q hn), q]; simp⟩
theorem Un.write (mu : Mut (H x)) (he : e = x ∨ H e = some (.own x)) (k : ∀ b u, b ≠ e → h.get? b = some u → h'.get? b = some u) (heo : ∃ u, h'.get? e = some u) : Un fs ex H (upd H x o) h h' := by
  have hx : ∀ b, H b = none → b ≠ x := fun b n z => by subst z; rw [n] at mu; exact mu
  have hb : ∀ b, H b = none → b ≠ e := fun b n z => by
    subst z
    rcases he with r | r
    · exact hx b n r
    · rw [n] at r; cases r
  have hm : ∀ b u, H b = some u → ¬ Mut (some u) → b ≠ x := fun b u q nm z => by subst z; rw [q] at mu; exact nm mu
  refine ⟨fun b u q n _ _ => k b u (hb b n) q, fun b u q n _ _ => ⟨u.slots, k b u (hb b n) q⟩, fun b u q n _ => by rw [upd_ne (hx b n)]; exact n, fun b u q _ => ?_,
    fun b xs q => by rw [upd_ne (hm b _ q fun z => z)]; exact q, fun b u xs q => by rw [upd_ne (hm b _ q fun z => z)]; exact q, fun b ps q => ⟨#[], by rw [upd_ne (hm b _ q fun z => z), q]; simp⟩⟩
  by_cases hbe : b = e
  · subst hbe; exact heo
  · exact ⟨u, k b u hbe q⟩
end

def trk (h : Heap) (H : Hp) : List Addr := (List.range h.objs.size).filter fun a => (H a).isSome
def hidT (h : Heap) (H : Hp) : Heap := PySem.W.hideAll h (trk h H)
theorem hidT_size (h : Heap) (H : Hp) : (hidT h H).objs.size = h.objs.size := PySem.W.hideAll_size _ _
theorem hidT_get {h : Heap} {H : Hp} {b : Addr} {o : Obj} (e : h.get? b = some o) (n : H b = none) : (hidT h H).get? b = some o :=
  PySem.W.hideAll_get _ e fun hm => by
    have q : (H b).isSome = true := (List.mem_filter.mp hm).2
    rw [n] at q; simp at q
theorem of_hidT {h : Heap} {H : Hp} {b : Addr} {o : Obj} (e : (hidT h H).get? b = some o) : h.get? b = some o ∧ H b = none := by
  have e' : h.get? b = some o := PySem.W.of_hideAll (trk h H) e
  refine ⟨e', ?_⟩
  cases q : H b with
  | none => rfl
  | some x =>
    have hm : b ∈ trk h H := List.mem_filter.mpr ⟨List.mem_range.mpr (Heap.lt_size e'), by simp [q]⟩
    have z : (hidT h H).get? b = none := PySem.W.hideAll_none (trk h H) hm
    rw [z] at e; cases e

def allNews (g h : Heap) (L : Addr) : List (Addr × Obj) := (List.range h.objs.size).filterMap fun a => if a = L ∨ (g.get? a).isSome = true then none else (h.get? a).map fun o => (a, o)
def rest (g h : Heap) (L d : Addr) : List (Addr × Obj) := (allNews g h L).filter fun p => decide (p.1 ≠ d)
end L2

namespace L2
open PySem PySem.Spec PyProof.Rows

structure Mod (K : PySem.W.Frag) (mg : Str → Option Value) (base : Heap) : Prop where
  kin : K.In base
  glob : base.Ns mainGlobals mg
  blt : ∃ mb, base.Ns builtinsNs mb ∧ ∀ x : Str, x ≠ "__name__" → mb x = bootBuiltins x
  nolimit : base.NoLimit

structure Cx where
  prog : Program
  w : World
  K : PySem.W.Frag
  mg : Str → Option Value
  base : Heap
  A : Around
  N : List Str
  s₀ : Shared
  H₀ : Hp
  env : Env
  outer : List Env
  stack : List Env
  ex : List Addr
  fn : Str → Bool
  calm : Bool
  pn : List (Addr × Obj)
  xe : Value → Shared → Prop
def frs (l : List Env) : List Addr := l.filterMap (·.frame)
abbrev Cx.fs (X : Cx) : List Addr := frs X.outer

def Vis (sc : Scope) (x : Str) : Prop := sc.names.lookup x = some .local ∨ sc.names.lookup x = some .cell ∨ sc.names.lookup x = some .free
def Loc (sc : Scope) (x : Str) : Prop := sc.names.lookup x = some .local ∨ sc.names.lookup x = some .cell
def Look (env : Env) (h : Heap) (m : Str → Option Value) (x : Str) (u : Value) : Prop :=
  (env.kindOf x = some .local ∧ m x = some u) ∨ ((env.kindOf x = some .cell ∨ env.kindOf x = some .free) ∧ ∃ c, env.cells.lookup x = some c ∧ h.IsCell c (some u))

structure Cx.Ok (X : Cx) : Prop where
  mod : Mod X.K X.mg X.base
  kind : X.env.scope.kind = .function
  glob : X.env.globals = mainGlobals
  blt : X.env.builtins = builtinsNs
  above : X.s₀.heap.objs.size ≤ X.env.locals
  inj : ∀ x y c, X.env.cells.lookup x = some c → X.env.cells.lookup y = some c → x = y
  has : ∀ x, (X.env.kindOf x = some .cell ∨ X.env.kindOf x = some .free) → ∃ c, X.env.cells.lookup x = some c
  cab : ∀ x c, X.fn x = true → X.env.cells.lookup x = some c → X.s₀.heap.objs.size ≤ c
  hd : X.calm = true → X.A.handled = none
  frames : X.A.frames = some X.stack
  stk : X.stack = X.outer ∨ (X.stack = X.env :: X.outer ∧ X.env.frame = some X.env.locals)
  exf : ∀ b ∈ X.ex, b ≠ X.env.locals ∧ ∀ x c, X.env.cells.lookup x = some c → c ≠ b
  bs : ∀ b o, X.base.get? b = some o → X.s₀.heap.get? b = some o ∧ X.H₀ b = none
  bsz : X.base.objs.size ≤ X.s₀.heap.objs.size
  noex : ∀ b o, X.base.get? b = some o → b ∉ X.ex
  exfs : ∀ b ∈ X.ex, b ∉ X.fs
  funs : X.s₀.heap.FunFrames X.base X.outer
  frf : ∀ b ∈ X.fs, X.H₀ b = none

structure Inv (X : Cx) (pins : List (Addr × Obj)) (σ : List (Option V)) (H : Hp) (s : Shared) : Prop where
  ok : X.Ok
  os : s.os = X.s₀.os
  bare : AllBare s.gens
  base : Un X.fs X.ex X.H₀ H X.s₀.heap s.heap
  loc : ∃ m, s.heap.Ns X.env.locals m ∧ ∀ (i : Nat) (x : Str) (v : V), X.N[i]? = some x → σ[i]? = some (some v) → Vis X.env.scope x → ∃ u, RelV v u ∧ Look X.env s.heap m x u
  cell : ∀ x c, X.env.cells.lookup x = some c → ∃ v, s.heap.IsCell c v
  free : H X.env.locals = none
  freeC : ∀ x c, X.env.cells.lookup x = some c → H c = none
  pin : ∀ p ∈ X.pn ++ pins, s.heap.get? p.1 = some p.2 ∧ H p.1 = none ∧ p.1 ≠ X.env.locals ∧ p.1 ∉ X.fs ∧ ∀ v, p.2.data ≠ .cell v
  hok : HOk X.prog X.w H s.heap
  len : σ.length = X.N.length

section
variable {X : Cx} {pins : List (Addr × Obj)} {σ : List (Option V)} {H H' : Hp} {s : Shared} {h' : Heap}

theorem Cx.Ok.nofr (ok : X.Ok) {b : Addr} {o : Obj} (e : X.base.get? b = some o) : b ∉ X.fs := fun hb => by
  have := (ok.funs.mem hb).1
  rw [e] at this; cases this
theorem Inv.bs (I : Inv X pins σ H s) : ∀ b o, X.base.get? b = some o → s.heap.get? b = some o ∧ H b = none := fun b o e =>
  ⟨I.base.keep b o (I.ok.bs b o e).1 (I.ok.bs b o e).2 (I.ok.nofr e) (I.ok.noex b o e), I.base.free b o (I.ok.bs b o e).1 (I.ok.bs b o e).2 (I.ok.noex b o e)⟩
theorem Inv.bk (I : Inv X pins σ H s) : ∀ b o, X.base.get? b = some o → s.heap.get? b = some o := fun b o e => (I.bs b o e).1
theorem Inv.mod (I : Inv X pins σ H s) : Mod X.K X.mg X.base := I.ok.mod
theorem Inv.kIn (I : Inv X pins σ H s) : X.K.In s.heap := I.ok.mod.kin.keeps I.bk
theorem Inv.fr (I : Inv X pins σ H s) : ∃ m, Fr X.base X.env.locals s.heap m :=
  let ⟨m, hn, _⟩ := I.loc
  ⟨m, hn, I.bk, Nat.le_trans I.ok.bsz I.ok.above⟩
theorem Inv.lt (I : Inv X pins σ H s) : X.env.locals < s.heap.objs.size := let ⟨_, hn, _⟩ := I.loc; hn.lt
theorem Inv.sz (I : Inv X pins σ H s) : X.s₀.heap.objs.size ≤ s.heap.objs.size := Nat.le_trans I.ok.above (Nat.le_of_lt I.lt)
theorem Inv.nofs (I : Inv X pins σ H s) {a : Addr} (h : s.heap.objs.size ≤ a) : a ∉ X.fs := fun hb => by
  obtain ⟨_, o, ho, _⟩ := I.ok.funs.mem hb
  exact absurd (Nat.lt_of_lt_of_le (Heap.lt_size ho) (Nat.le_trans I.sz h)) (Nat.lt_irrefl _)
theorem Inv.cne (I : Inv X pins σ H s) : ∀ x c, X.env.cells.lookup x = some c → c ≠ X.env.locals := fun x c e z => by
  obtain ⟨v, o, ho, hd⟩ := I.cell x c e
  obtain ⟨m, ⟨o', es, ep, ho', hd', _⟩, _⟩ := I.loc
  rw [z, ho'] at ho; cases ho; rw [hd'] at hd; cases hd
theorem Inv.funs (I : Inv X pins σ H s) : s.heap.FunFrames X.base X.outer := by
  have all : ∀ (l : List Env), (∀ b ∈ frs l, b ∈ X.fs) → X.s₀.heap.FunFrames X.base l → s.heap.FunFrames X.base l := by
    intro l
    induction l with
    | nil => intro _ _; trivial
    | cons env r ih =>
      intro hs hl
      obtain ⟨hk, ⟨L, o, hf, hn, ho, hd⟩, hr⟩ := hl
      have hL : L ∈ X.fs := hs L (by unfold frs; rw [List.filterMap_cons, hf]; exact List.mem_cons_self)
      obtain ⟨sl, e⟩ := I.base.slot L o ho (I.ok.frf L hL) hL fun z => I.ok.exfs L z hL
      exact ⟨hk, ⟨L, _, hf, hn, e, hd⟩, ih (fun b hb => hs b (by unfold frs; rw [List.filterMap_cons, hf]; exact List.mem_cons_of_mem _ hb)) hr⟩
  exact all X.outer (fun _ hb => hb) I.ok.funs

theorem Inv.stack (I : Inv X pins σ H s) : s.heap.FunFrames X.base X.stack := by
  rcases I.ok.stk with e | ⟨e, hf⟩
  · rw [e]; exact I.funs
  · rw [e]
    obtain ⟨m, hn, _⟩ := I.loc
    refine .cons (by rw [I.ok.kind]; decide) hf hn ?_ I.funs
    exact Heap.get?_none_of_le (Nat.le_trans I.ok.bsz I.ok.above)
theorem Inv.stkSub (I : Inv X pins σ H s) : ∀ b ∈ frs X.stack, b ∈ X.env.locals :: X.fs := fun b hb => by
  rcases I.ok.stk with e | ⟨e, hf⟩
  · rw [e] at hb; exact List.mem_cons_of_mem _ hb
  · rw [e] at hb
    unfold frs at hb
    rw [List.filterMap_cons, hf] at hb
    exact hb
theorem Inv.stkFree (I : Inv X pins σ H s) : ∀ b ∈ frs X.stack, H b = none := fun b hb => by
  rcases List.mem_cons.mp (I.stkSub b hb) with e | hb
  · rw [e]; exact I.free
  · obtain ⟨_, o, ho, _⟩ := I.ok.funs.mem hb
    exact I.base.free b o ho (I.ok.frf b hb) fun z => I.ok.exfs b z hb

theorem Inv.step {g' : Array GenState} {t' : Nat} {d' : Drawn} {ch : List Addr} (I : Inv X pins σ H s)
    (hch : ∀ b ∈ ch, (b ∈ X.ex ∨ X.s₀.heap.objs.size ≤ b) ∧ b ≠ X.env.locals ∧ (∀ x c, X.env.cells.lookup x = some c → c ≠ b) ∧ ∀ p ∈ X.pn ++ pins, p.1 ≠ b)
    (keep : ∀ b o, b ≠ X.env.locals → b ∉ X.fs → b ∉ ch → s.heap.get? b = some o → H b = none → h'.get? b = some o)
    (slot : ∀ b o, b ≠ X.env.locals → b ∈ X.fs → b ∉ ch → s.heap.get? b = some o → H b = none → ∃ sl, h'.get? b = some { o with slots := sl }) (free : ∀ b o, b ∉ ch → s.heap.get? b = some o → H b = none → H' b = none)
    (there : ∀ b o, b ∉ ch → s.heap.get? b = some o → ∃ o', h'.get? b = some o')
    (tups : ∀ b xs, H b = some (.tup xs) → H' b = some (.tup xs)) (frzs : ∀ b o u, H b = some (.frz o u) → H' b = some (.frz o u)) (tbls : ∀ b ps, H b = some (.tbl ps) → ∃ more, H' b = some (.tbl (ps ++ more)))
    (ns : ∀ m, s.heap.Ns X.env.locals m → h'.Ns X.env.locals m) (hok : HOk X.prog X.w H' h') (hg : AllBare g') :
    Inv X pins σ H' { s with heap := h', gens := g', drawn := d', toks := t' } := by
  have neL : ∀ b o, X.s₀.heap.get? b = some o → b ≠ X.env.locals := fun b o e => Nat.ne_of_lt (Nat.lt_of_lt_of_le (Heap.lt_size e) I.ok.above)
  have neC : ∀ b o, X.s₀.heap.get? b = some o → b ∉ X.ex → b ∉ ch := fun b o e hx hb => by
    rcases (hch b hb).1 with z | z
    · exact hx z
    · exact absurd (Nat.lt_of_lt_of_le (Heap.lt_size e) z) (Nat.lt_irrefl _)
  have cellK : ∀ x c, X.env.cells.lookup x = some c → ∀ v, s.heap.IsCell c v → h'.IsCell c v := fun x c e v ⟨o, ho, hd⟩ => by
    have nch : c ∉ ch := fun z => (hch c z).2.2.1 x c e rfl
    by_cases hc : c ∈ X.fs
    · obtain ⟨sl, q⟩ := slot c o (I.cne x c e) hc nch ho (I.freeC x c e)
      exact ⟨_, q, hd⟩
    · exact ⟨o, keep c o (I.cne x c e) hc nch ho (I.freeC x c e), hd⟩
  refine ⟨I.ok, I.os, hg, ⟨fun b o e n hb hx => ?_, fun b o e n hb hx => ?_, fun b o e n hx => ?_, fun b o e hx => ?_, fun b xs e => tups b xs (I.base.tups b xs e), fun b o xs e => frzs b o xs (I.base.frzs b o xs e), fun b ps e => ?_⟩, ?_, fun x c e => ?_, ?_, fun x c e => ?_, fun p hp => ?_, hok, I.len⟩
  · exact keep b o (neL b o e) hb (neC b o e hx) (I.base.keep b o e n hb hx) (I.base.free b o e n hx)
  · obtain ⟨sl, e1⟩ := I.base.slot b o e n hb hx
    obtain ⟨sl', e2⟩ := slot b _ (neL b o e) hb (neC b o e hx) e1 (I.base.free b o e n hx)
    exact ⟨sl', e2⟩
  · obtain ⟨o', e1⟩ := I.base.there b o e hx
    exact free b o' (neC b o e hx) e1 (I.base.free b o e n hx)
  · obtain ⟨o', e1⟩ := I.base.there b o e hx
    exact there b o' (neC b o e hx) e1
  · obtain ⟨m1, e1⟩ := I.base.tbls b ps e
    obtain ⟨m2, e2⟩ := tbls b _ e1
    exact ⟨m1 ++ m2, by rw [e2, Array.append_assoc]⟩
  · obtain ⟨m, hn, hl⟩ := I.loc
    refine ⟨m, ns m hn, fun i x v e1 e2 e3 => ?_⟩
    obtain ⟨u, r, l⟩ := hl i x v e1 e2 e3
    refine ⟨u, r, ?_⟩
    rcases l with l | ⟨k, c, e, z⟩
    · exact .inl l
    · exact .inr ⟨k, c, e, cellK x c e _ z⟩
  · obtain ⟨v, z⟩ := I.cell x c e
    exact ⟨v, cellK x c e v z⟩
  · obtain ⟨m, ⟨o, _, _, ho, _⟩, _⟩ := I.loc
    exact free _ o (fun z => (hch _ z).2.1 rfl) ho I.free
  · obtain ⟨v, o, ho, hd⟩ := I.cell x c e
    exact free c o (fun z => (hch c z).2.2.1 x c e rfl) ho (I.freeC x c e)
  · obtain ⟨e, n, ne, nf, d⟩ := I.pin p hp
    have nch : p.1 ∉ ch := fun z => (hch p.1 z).2.2.2 p hp rfl
    exact ⟨keep p.1 p.2 ne nf nch e n, free p.1 p.2 nch e n, ne, nf, d⟩
theorem Inv.un {t' : Nat} (I : Inv X pins σ H s) (u : Un X.fs [] H H' s.heap h') (hok : HOk X.prog X.w H' h') : Inv X pins σ H' { s with heap := h', toks := t' } := by
  obtain ⟨m, ⟨o, es, ep, ho, r⟩, _⟩ := id I.loc
  obtain ⟨sl, hL⟩ := u.any ho I.free (by simp)
  exact I.step (g' := s.gens) (d' := s.drawn) (ch := []) (fun _ z => nomatch z) (fun b o _ hb _ e n => u.keep b o e n hb (by simp)) (fun b o _ hb _ e n => u.slot b o e n hb (by simp)) (fun b o _ e n => u.free b o e n (by simp)) (fun b o _ e => u.there b o e (by simp)) u.tups u.frzs u.tbls (fun m' hm => by
    obtain ⟨o', es', ep', ho', r'⟩ := hm
    rw [ho] at ho'; cases ho'
    exact ⟨_, es', ep', hL, r'⟩) hok I.bare
theorem Inv.call {g' : Array GenState} {t' : Nat} {d' : Drawn} {ch : List Addr} (I : Inv X pins σ H s) (u : Un (frs X.stack) ch H H' s.heap h') (hok : HOk X.prog X.w H' h') (hg : AllBare g')
    (hch : ∀ b ∈ ch, (b ∈ X.ex ∨ X.s₀.heap.objs.size ≤ b) ∧ b ≠ X.env.locals ∧ (∀ x c, X.env.cells.lookup x = some c → c ≠ b) ∧ ∀ p ∈ X.pn ++ pins, p.1 ≠ b) :
    Inv X pins σ H' { s with heap := h', gens := g', drawn := d', toks := t' } := by
  obtain ⟨m, ⟨o, es, ep, ho, r⟩, _⟩ := id I.loc
  obtain ⟨sl, hL⟩ := u.any ho I.free fun z => (hch _ z).2.1 rfl
  exact I.step (ch := ch) hch (fun b o hL hb hc e n => u.keep b o e n (fun z => (List.mem_cons.mp (I.stkSub b z)).elim hL hb) hc) (fun b o _ _ hc e n => u.any e n hc) (fun b o hc e n => u.free b o e n hc) (fun b o hc e => u.there b o e hc) u.tups u.frzs u.tbls (fun m' hm => by
    obtain ⟨o', es', ep', ho', r'⟩ := hm
    rw [ho] at ho'; cases ho'
    exact ⟨_, es', ep', hL, r'⟩) hok hg
theorem Inv.turned {t' : Nat} {it : Addr} (I : Inv X pins σ H s) (k : ∀ b o, b ≠ it → s.heap.get? b = some o → h'.get? b = some o) (hn : H it = none) (hL : it ≠ X.env.locals)
    (h1 : it ∈ X.ex ∨ X.s₀.heap.objs.size ≤ it) (h2 : ∀ x c, X.env.cells.lookup x = some c → c ≠ it) (h3 : ∀ p ∈ X.pn ++ pins, p.1 ≠ it) : Inv X pins σ H { s with heap := h', toks := t' } := by
  have nit : ∀ b u, H b = some u → b ≠ it := fun b u e z => by rw [z, hn] at e; cases e
  refine I.step (g' := s.gens) (d' := s.drawn) (ch := [it]) (fun b hb => ?_) (fun b o _ _ hc e _ => k b o (fun z => hc (by simp [z])) e) (fun b o _ _ hc e _ => ⟨o.slots, k b o (fun z => hc (by simp [z])) e⟩) (fun _ _ _ _ n => n)
    (fun b o hc e => ⟨o, k b o (fun z => hc (by simp [z])) e⟩) (fun _ _ e => e) (fun _ _ _ e => e) (fun b ps e => ⟨#[], by rw [e]; simp⟩) (fun m hm => ?_) (fun b u e => ?_) I.bare
  · have e : b = it := by simpa using hb
    subst e
    exact ⟨h1, hL, h2, h3⟩
  · obtain ⟨o, es, ep, ho, r⟩ := hm
    exact ⟨o, es, ep, k _ o (Ne.symm hL) ho, r⟩
  · refine (I.hok b u e).stay (fun c v hc q => k c v ?_ q) (fun _ q => q) fun _ _ q => q
    rcases hc with z | z
    · rw [z]; exact nit b u e
    · exact nit c _ z
theorem Inv.tok (I : Inv X pins σ H s) (t : Nat) : Inv X pins σ H { s with toks := t } := I.un (h' := s.heap) (t' := t) Un.refl I.hok
theorem Inv.kept {t' : Nat} (I : Inv X pins σ H s) (k : ∀ b u, s.heap.get? b = some u → h'.get? b = some u) : Inv X pins σ H { s with heap := h', toks := t' } := I.un (Un.kept k) (I.hok.kept k)
theorem Inv.laid {a : Addr} {o : HO} {t' : Nat} (I : Inv X pins σ H s) (k : ∀ b u, s.heap.get? b = some u → h'.get? b = some u) (hp : s.heap.objs.size ≤ a) (new : ObjOk X.prog X.w (upd H a o) h' a o) :
    Inv X pins σ (upd H a o) { s with heap := h', toks := t' } := I.un (Un.laid k hp (I.hok.fresh hp)) (I.hok.laid k hp new)
theorem Inv.write {x e : Addr} {o : HO} {t' : Nat} (I : Inv X pins σ H s) (mu : Mut (H x)) (he : e = x ∨ H e = some (.own x)) (k : ∀ b u, b ≠ e → s.heap.get? b = some u → h'.get? b = some u) (heo : ∃ u, h'.get? e = some u)
    (new : ObjOk X.prog X.w (upd H x o) h' x o) : Inv X pins σ (upd H x o) { s with heap := h', toks := t' } := I.un (Un.write mu he k heo) (I.hok.write mu he k heo new)
theorem Inv.weak {σ' : List (Option V)} (I : Inv X pins σ H s) (hl : σ'.length = σ.length) (w : ∀ (i : Nat) v, σ'[i]? = some (some v) → σ[i]? = some (some v)) : Inv X pins σ' H s :=
  ⟨I.ok, I.os, I.bare, I.base, let ⟨m, hn, hl'⟩ := I.loc; ⟨m, hn, fun i x v e1 e2 e3 => hl' i x v e1 (w i v e2) e3⟩, I.cell, I.free, I.freeC, I.pin, I.hok, hl.trans I.len⟩
theorem Inv.pins_of {pins' : List (Addr × Obj)} (I : Inv X pins σ H s) (h : ∀ p ∈ pins', s.heap.get? p.1 = some p.2 ∧ H p.1 = none ∧ p.1 ≠ X.env.locals ∧ p.1 ∉ X.fs ∧ ∀ v, p.2.data ≠ .cell v) : Inv X pins' σ H s :=
  ⟨I.ok, I.os, I.bare, I.base, I.loc, I.cell, I.free, I.freeC, fun p hp => (List.mem_append.mp hp).elim (fun z => I.pin p (List.mem_append_left _ z)) (h p), I.hok, I.len⟩

theorem nodup_ix {N : List Str} (hN : N.Nodup) {i j : Nat} {x : Str} (a : N[i]? = some x) (b : N[j]? = some x) : i = j := by
  obtain ⟨h1, e1⟩ := List.getElem?_eq_some_iff.mp a
  obtain ⟨h2, e2⟩ := List.getElem?_eq_some_iff.mp b
  exact (List.getElem_inj hN).mp (e1.trans e2.symm)

theorem store_ok2 {M : Model} {A : Around} {E : Value → Shared → Prop} {i : Nat} {x : Str} {v : V} {u : Value} {Q : Unit → Shared → Prop} (I : Inv X pins σ H s) (hN : X.N.Nodup) (hi : X.N[i]? = some x) (hx : Loc X.env.scope x) (r : RelV v u)
    (h : ∀ s', Inv X pins (σ.set i (some v)) H s' → (∃ a, Heap.SameBut a s.heap s'.heap ∧ (a = X.env.locals ∨ X.env.cells.lookup x = some a)) → Q () s') (hf : X.fn x = true ∨ X.env.scope.names.lookup x = some .local := by first | exact .inl rfl | exact .inr rfl | assumption) : wpAny M A (storeName X.env x u) Q E s := by
  obtain ⟨m, hn, hl⟩ := id I.loc
  have hcls : (X.env.scope.kind == .class || (X.env.scope.kind == .module && X.env.locals != X.env.globals)) = false := by rw [I.ok.kind]; rfl
  have hiσ : i < σ.length := by rw [I.len]; exact (List.getElem?_eq_some_iff.mp hi).1
  have cne := I.cne
  have tracked : ∀ {a : Addr} {h' : Heap}, (∃ o, s.heap.get? a = some o ∧ H a = none) → Heap.SameBut a s.heap h' → HOk X.prog X.w H h' := fun {a h'} ha hs b ob e => by
    obtain ⟨_, _, hfree⟩ := ha
    refine (I.hok b ob e).stay (fun c w' hc q => (hs.2 c ?_).trans q) (fun _ q => q) fun _ _ q => q
    rintro rfl
    rcases hc with rfl | hc
    · rw [hfree] at e; cases e
    · rw [hfree] at hc; cases hc
  rcases hx with hk | hk
  · refine wpAny_storeName_local hk hn (fun h' hn' hs => ?_) hcls
    obtain ⟨oL, _, _, hoL, _⟩ := id hn
    refine h _ ⟨I.ok, I.os, I.bare, ⟨fun b o e n hb hx => ?_, fun b o e n hb hx => ?_, I.base.free, fun b o e hx => ?_, I.base.tups, I.base.frzs, I.base.tbls⟩, ⟨_, hn', fun j y v' e1 e2 e3 => ?_⟩, fun y c e => ?_, I.free, I.freeC, fun p hp => ?_, tracked ⟨oL, hoL, I.free⟩ hs, by simpa using I.len⟩ ⟨_, hs, .inl rfl⟩
    · exact (hs.2 b (Nat.ne_of_lt (Nat.lt_of_lt_of_le (Heap.lt_size e) I.ok.above))).trans (I.base.keep b o e n hb hx)
    · obtain ⟨sl, e1⟩ := I.base.slot b o e n hb hx
      exact ⟨sl, (hs.2 b (Nat.ne_of_lt (Nat.lt_of_lt_of_le (Heap.lt_size e) I.ok.above))).trans e1⟩
    · obtain ⟨o', e1⟩ := I.base.there b o e hx
      exact ⟨o', (hs.2 b (Nat.ne_of_lt (Nat.lt_of_lt_of_le (Heap.lt_size e) I.ok.above))).trans e1⟩
    · by_cases hj : j = i
      · subst hj
        rw [hi] at e1; cases e1
        rw [List.getElem?_set_self hiσ] at e2
        cases e2
        exact ⟨u, r, .inl ⟨hk, by simp⟩⟩
      · rw [List.getElem?_set_ne (Ne.symm hj)] at e2
        obtain ⟨u', r', q⟩ := hl j y v' e1 e2 e3
        refine ⟨u', r', ?_⟩
        rcases q with ⟨k, e⟩ | ⟨k, c, e, z⟩
        · refine .inl ⟨k, ?_⟩
          have : y ≠ x := fun e => hj (nodup_ix hN e1 (e ▸ hi))
          simp [this, e]
        · exact .inr ⟨k, c, e, z.sameBut hs (cne y c e)⟩
    · obtain ⟨w', z⟩ := I.cell y c e
      exact ⟨w', z.sameBut hs (cne y c e)⟩
    · obtain ⟨e, n, ne, nf, d⟩ := I.pin p hp
      exact ⟨(hs.2 p.1 ne).trans e, n, ne, nf, d⟩
  · have hfn : X.fn x = true := by
      rcases hf with z | z
      · exact z
      · rw [z] at hk; cases hk
    obtain ⟨c, hc⟩ := I.ok.has x (.inl hk)
    obtain ⟨w', z⟩ := I.cell x c hc
    refine wpAny_storeName_cell I.ok.kind hk hc z (fun h' hc' hs => ?_)
    obtain ⟨oc, hoc, hocd⟩ := id z
    refine h { s with heap := h' } ⟨I.ok, I.os, I.bare, ⟨fun b o e n hb hx => ?_, fun b o e n hb hx => ?_, I.base.free, fun b o e hx => ?_, I.base.tups, I.base.frzs, I.base.tbls⟩, ⟨m, hn.sameBut hs (Ne.symm (cne x c hc)), fun j y v' e1 e2 e3 => ?_⟩, fun y c' e => ?_, I.free, I.freeC, fun p hp => ?_, tracked ⟨oc, hoc, I.freeC x c hc⟩ hs, by simpa using I.len⟩ ⟨c, hs, .inr hc⟩
    · exact (hs.2 b (Nat.ne_of_lt (Nat.lt_of_lt_of_le (Heap.lt_size e) (I.ok.cab x c hfn hc)))).trans (I.base.keep b o e n hb hx)
    · obtain ⟨sl, e1⟩ := I.base.slot b o e n hb hx
      exact ⟨sl, (hs.2 b (Nat.ne_of_lt (Nat.lt_of_lt_of_le (Heap.lt_size e) (I.ok.cab x c hfn hc)))).trans e1⟩
    · obtain ⟨o', e1⟩ := I.base.there b o e hx
      exact ⟨o', (hs.2 b (Nat.ne_of_lt (Nat.lt_of_lt_of_le (Heap.lt_size e) (I.ok.cab x c hfn hc)))).trans e1⟩
    · by_cases hj : j = i
      · subst hj
        rw [hi] at e1; cases e1
        rw [List.getElem?_set_self hiσ] at e2
        cases e2
        exact ⟨u, r, .inr ⟨.inl hk, c, hc, hc'⟩⟩
      · rw [List.getElem?_set_ne (Ne.symm hj)] at e2
        obtain ⟨u', r', q⟩ := hl j y v' e1 e2 e3
        refine ⟨u', r', ?_⟩
        rcases q with q | ⟨k, c', e, z'⟩
        · exact .inl q
        · refine .inr ⟨k, c', e, z'.sameBut hs ?_⟩
          rintro rfl
          exact hj (nodup_ix hN e1 (I.ok.inj _ _ _ e hc ▸ hi))
    · by_cases hcc : c' = c
      · subst hcc; exact ⟨_, hc'⟩
      · obtain ⟨w2, z2⟩ := I.cell y c' e
        exact ⟨w2, z2.sameBut hs hcc⟩
    · obtain ⟨e, n, ne, nf, d⟩ := I.pin p hp
      refine ⟨(hs.2 p.1 ?_).trans e, n, ne, nf, d⟩
      intro q
      rw [q, hoc] at e
      have q' : oc = p.2 := Option.some.inj e
      exact d w' (by rw [← q']; exact hocd)
theorem store_ok {M : Model} {A : Around} {E : Value → Shared → Prop} {i : Nat} {x : Str} {v : V} {u : Value} {Q : Unit → Shared → Prop} (I : Inv X pins σ H s) (hN : X.N.Nodup) (hi : X.N[i]? = some x) (hx : Loc X.env.scope x) (r : RelV v u)
    (h : ∀ s', Inv X pins (σ.set i (some v)) H s' → Q () s') (hf : X.fn x = true ∨ X.env.scope.names.lookup x = some .local := by first | exact .inl rfl | exact .inr rfl | assumption) : wpAny M A (storeName X.env x u) Q E s :=
  store_ok2 I hN hi hx r (fun s' I' _ => h s' I') hf
theorem Inv.call' {s' : Shared} {ch : List Addr} (I : Inv X pins σ H s) (ho : s'.os = s.os) (u : Un (frs X.stack) ch H H' s.heap s'.heap) (hok : HOk X.prog X.w H' s'.heap) (hg : AllBare s'.gens)
    (hch : ∀ b ∈ ch, (b ∈ X.ex ∨ X.s₀.heap.objs.size ≤ b) ∧ b ≠ X.env.locals ∧ (∀ x c, X.env.cells.lookup x = some c → c ≠ b) ∧ ∀ p ∈ X.pn ++ pins, p.1 ≠ b) : Inv X pins σ H' s' := by
  obtain ⟨h', g', d', t', o'⟩ := s'
  have e : o' = s.os := ho
  subst e
  exact I.call (g' := g') (t' := t') (d' := d') u hok hg hch
end

abbrev XK := Value → Option Addr → Hp → Prop
abbrev St := List (Option V)
abbrev VK := V → Hp → Prop
abbrev TE := St → Hp → VK → Prop
abbrev TT := St → Hp → (Bool → Hp → Prop) → Prop
abbrev TA := St → Hp → (List V → Hp → Prop) → Prop
structure Ends where
  nx : St → Hp → Prop
  rt : VK
  bk : St → Hp → Prop := fun _ _ => False
  ct : St → Hp → Prop := fun _ _ => False
abbrev TS := Ends → St → Hp → Prop

def EP (X : Cx) (pins : List (Addr × Obj)) (σ : St) (Q : VK) (u : Value) (s' : Shared) : Prop := ∃ v H', Inv X pins σ H' s' ∧ RelV v u ∧ Q v H'
def TP (X : Cx) (pins : List (Addr × Obj)) (σ : St) (Q : Bool → Hp → Prop) (b : Bool) (s' : Shared) : Prop := ∃ H', Inv X pins σ H' s' ∧ Q b H'
def AP (X : Cx) (pins : List (Addr × Obj)) (σ : St) (Q : List V → Hp → Prop) (us : List Value) (s' : Shared) : Prop := ∃ vs H', Inv X pins σ H' s' ∧ Vals vs us ∧ Q vs H'
def SP (X : Cx) (pins : List (Addr × Obj)) (D : Ends) (f : Flow) (s' : Shared) : Prop :=
  match f with
  | .next => ∃ σ' H', Inv X pins σ' H' s' ∧ D.nx σ' H'
  | .brk => ∃ σ' H', Inv X pins σ' H' s' ∧ D.bk σ' H'
  | .cont => ∃ σ' H', Inv X pins σ' H' s' ∧ D.ct σ' H'
  | .ret u => ∃ v σ' H', Inv X pins σ' H' s' ∧ RelV v u ∧ D.rt v H'

def PE (X : Cx) (e : Expr) (t : TE) : Prop :=
  ∀ (pins : List (Addr × Obj)) (s : Shared) (σ : St) (H : Hp) (Q : VK), Inv X pins σ H s → t σ H Q → wpAny (model X.prog X.w) X.A (eval e X.env) (EP X pins σ Q) X.xe s
def PT (X : Cx) (e : Expr) (t : TT) : Prop :=
  ∀ (pins : List (Addr × Obj)) (s : Shared) (σ : St) (H : Hp) (Q : Bool → Hp → Prop), Inv X pins σ H s → t σ H Q → wpAny (model X.prog X.w) X.A (isTrue e X.env (eval e X.env)) (TP X pins σ Q) X.xe s
def PW (X : Cx) (e : Expr) (t : TT) : Prop :=
  ∀ (whole : Sem Value) (pins : List (Addr × Obj)) (s : Shared) (σ : St) (H : Hp) (Q : Bool → Hp → Prop), Inv X pins σ H s → t σ H Q → wpAny (model X.prog X.w) X.A (isTrue e X.env whole) (TP X pins σ Q) X.xe s
theorem PW.pt {X : Cx} {e : Expr} {t : TT} (h : PW X e t) : PT X e t := h _
def PA (X : Cx) (es : List Expr) (t : TA) : Prop :=
  ∀ (pos : Pos) (pins : List (Addr × Obj)) (s : Shared) (σ : St) (H : Hp) (Q : List V → Hp → Prop), Inv X pins σ H s → t σ H Q → wpAny (model X.prog X.w) X.A (spliced (backTo pos (starEach es X.env))) (AP X pins σ Q) X.xe s
def PS (X : Cx) (st : Stmt) (t : TS) : Prop :=
  ∀ (pins : List (Addr × Obj)) (s : Shared) (σ : St) (H : Hp) (D : Ends), Inv X pins σ H s → t D σ H → wpAny (model X.prog X.w) X.A (exec st X.env) (SP X pins D) X.xe s
def PSs (X : Cx) (st : List Stmt) (t : TS) : Prop :=
  ∀ (pins : List (Addr × Obj)) (s : Shared) (σ : St) (H : Hp) (D : Ends), Inv X pins σ H s → t D σ H → wpAny (model X.prog X.w) X.A (execs st X.env) (SP X pins D) X.xe s
theorem thn {α : Type} {t : Sem α} {Q Q' : α → Shared → Prop} {M : Model} {A : Around} {E : Value → Shared → Prop} {s : Shared} (h : wpAny M A t Q E s) (hQ : ∀ a s, Q a s → Q' a s) : wpAny M A t Q' E s := wpAny_mono h hQ fun _ _ x => x
end L2

namespace L2
open PySem PySem.Spec PyProof.Rows
section
variable {X : Cx}

theorem bin {a b : Expr} {ta tb : TE} (ha : PE X a ta) (hb : PE X b tb) {pins : List (Addr × Obj)} {s : Shared} {σ : St} {H : Hp} {R : V → V → Hp → Prop} (I : Inv X pins σ H s) (h : ta σ H fun x H1 => tb σ H1 fun y H2 => R x y H2)
    {α : Type} {Q : α → Shared → Prop} {f : Value → Value → Sem α}
    (hf : ∀ v u s2 x y H2, Inv X pins σ H2 s2 → RelV x v → RelV y u → R x y H2 → wpAny (model X.prog X.w) X.A (f v u) Q X.xe s2) :
    wpAny (model X.prog X.w) X.A (eval a X.env) (fun v s₁ => wpAny (model X.prog X.w) X.A (eval b X.env) (fun u s₂ => wpAny (model X.prog X.w) X.A (f v u) Q X.xe s₂) X.xe s₁) X.xe s := by
  refine thn (ha pins s σ H _ I h) fun v s1 ⟨x, H1, I1, r1, q1⟩ => ?_
  refine thn (hb pins s1 σ H1 _ I1 q1) fun u s2 ⟨y, H2, I2, r2, q2⟩ => ?_
  exact hf v u s2 x y H2 I2 r1 r2 q2

def tVar (i : Nat) : TE := fun σ H Q => ∃ v, σ[i]? = some (some v) ∧ Q v H
def tC (v : V) : TE := fun _ H Q => Q v H
theorem pe_var {i : Nat} {x : Str} {pos : Pos} (hN : X.N[i]? = some x) (hv : Vis X.env.scope x) (hd : (x == ("__debug__" : Str)) = false := by decide) (hcd : (x == ("__classdict__" : Str)) = false := by decide) : PE X (.Name x pos) (tVar i) := by
  intro pins s σ H Q I h
  obtain ⟨v, e, h⟩ := h
  obtain ⟨m, hn, hl⟩ := I.loc
  obtain ⟨u, r, l⟩ := hl i x v hN e hv
  have fin : EP X pins σ Q u s := ⟨v, H, I, r, h⟩
  rcases l with ⟨hk, hm⟩ | ⟨hk, c, hc, hcell⟩
  · exact wpAny_Name (wpAny_loadName_local I.ok.kind hk hn hm fin) hd
  · rcases hk with hk | hk
    · exact wpAny_Name (wpAny_loadName_cell I.ok.kind hk hc hcell fin) hd
    · exact wpAny_Name (wpAny_loadName_free I.ok.kind hk hc hcell fin hcd) hd
theorem pe_int {i j pos} : PE X (.Constant (.int i) j pos) (tC (.int i)) := fun _ _ _ H _ I h => wpAny_Constant_int ⟨.int i, H, I.tok _, ⟨_, rfl⟩, h⟩
theorem pe_bl {b j pos} : PE X (.Constant (.bool b) j pos) (tC (.bl b)) := fun _ _ _ H _ I h => Constant_bool ⟨.bl b, H, I, rfl, h⟩
def Gl (X : Cx) (x : Str) : Prop := X.env.kindOf x = some .globalImplicit
theorem ld_glob {E : Value → Shared → Prop} {pins : List (Addr × Obj)} {s : Shared} {σ : St} {H : Hp} {x : Str} {u : Value} {pos : Pos} {Q : Value → Shared → Prop} (I : Inv X pins σ H s) (hg : Gl X x) (hm : X.mg x = some u) (h : Q u s)
    (hd : (x == ("__debug__" : Str)) = false := by decide) : wpAny (model X.prog X.w) X.A (eval (.Name x pos) X.env) Q E s :=
  Calls.Name_function_global I.ok.kind hg (Calls.loadGlobal_global (by rw [I.ok.glob]; exact I.mod.glob.keeps I.bk) hm h) hd
theorem ld_blt {E : Value → Shared → Prop} {pins : List (Addr × Obj)} {s : Shared} {σ : St} {H : Hp} {x : Str} {u : Value} {pos : Pos} {Q : Value → Shared → Prop} (I : Inv X pins σ H s) (hg : Gl X x) (hm : X.mg x = none) (hv : bootBuiltins x = some u) (h : Q u s)
    (hn : x ≠ "__name__" := by decide) (hd : (x == ("__debug__" : Str)) = false := by decide) : wpAny (model X.prog X.w) X.A (eval (.Name x pos) X.env) Q E s := by
  obtain ⟨mb, h1, h2⟩ := I.mod.blt
  exact Calls.Name_function_global I.ok.kind hg (Calls.loadGlobal_builtin (by rw [I.ok.glob]; exact I.mod.glob.keeps I.bk) hm (by rw [I.ok.blt]; exact h1.keeps I.bk) ((h2 x hn).trans hv) h) hd
theorem pe_glob {x : Str} {v : V} {u : Value} {pos : Pos} (hg : Gl X x) (hm : X.mg x = some u) (r : RelV v u) (hd : (x == ("__debug__" : Str)) = false := by decide) : PE X (.Name x pos) (tC v) :=
  fun _ _ _ H _ I h => ld_glob I hg hm ⟨v, H, I, r, h⟩ hd
theorem pe_bltn {x : Str} {v : V} {u : Value} {pos : Pos} (hg : Gl X x) (hm : X.mg x = none) (hv : bootBuiltins x = some u) (r : RelV v u) (hn : x ≠ "__name__" := by decide) (hd : (x == ("__debug__" : Str)) = false := by decide) : PE X (.Name x pos) (tC v) :=
  fun _ _ _ H _ I h => ld_blt I hg hm hv ⟨v, H, I, r, h⟩ hn hd

def t2I (ta tb : TE) (k : Int → Int → Hp → Prop) : St → Hp → Prop := fun σ H => ta σ H fun x H1 => tb σ H1 fun y H2 => ∃ i j, x = .int i ∧ y = .int j ∧ k i j H2
def tAdd (ta tb : TE) : TE := fun σ H Q => t2I ta tb (fun i j H2 => Q (.int (i + j)) H2) σ H
def tSub (ta tb : TE) : TE := fun σ H Q => t2I ta tb (fun i j H2 => Q (.int (i - j)) H2) σ H
def tMul (ta tb : TE) : TE := fun σ H Q => t2I ta tb (fun i j H2 => (-(2 ^ 64) < i ∧ i < 2 ^ 64) ∧ Q (.int (i * j)) H2) σ H
variable {a b : Expr} {ta tb : TE} {pos : Pos}
def PC (X : Cx) (op : CmpOp) (a b : Expr) (t : TE) : Prop :=
  ∀ (pins : List (Addr × Obj)) (s : Shared) (σ : St) (H : Hp) (Q : VK), Inv X pins σ H s → t σ H Q →
    wpAny (model X.prog X.w) X.A (eval a X.env) (fun v s₁ => wpAny (model X.prog X.w) X.A (eval b X.env) (fun u s₂ => wpAny (model X.prog X.w) X.A (compareOp op v u) (EP X pins σ Q) X.xe s₂) X.xe s₁) X.xe s
def tCmp (p : Int → Int → Bool) (ta tb : TE) : TE := fun σ H Q => t2I ta tb (fun i j H2 => Q (.bl (p i j)) H2) σ H
abbrev tLt : TE → TE → TE := tCmp fun i j => decide (i < j)
abbrev tLe : TE → TE → TE := tCmp fun i j => decide (i ≤ j)
abbrev tGt : TE → TE → TE := tCmp fun i j => decide (j < i)
abbrev tGe : TE → TE → TE := tCmp fun i j => decide (j ≤ i)
abbrev tEqI : TE → TE → TE := tCmp fun i j => decide (i = j)
abbrev tNeI : TE → TE → TE := tCmp fun i j => !decide (i = j)
def tIsN (ta : TE) : TE := fun σ H Q => ta σ H fun x H1 => Q (.bl (decide (x = .non))) H1
def tNotN (ta : TE) : TE := fun σ H Q => ta σ H fun x H1 => Q (.bl (!decide (x = .non))) H1
def tB (t : TE) : TT := fun σ H Q => t σ H fun x H1 => ∃ c, x = .bl c ∧ Q c H1
variable {tA tB' : TT} {rest : List Expr}
def tAnd (t u : TT) : TT := fun σ H Q => t σ H fun c H1 => if c = true then u σ H1 Q else Q false H1
def tOr (t u : TT) : TT := fun σ H Q => t σ H fun c H1 => if c = true then Q true H1 else u σ H1 Q
def tNot (t : TT) : TT := fun σ H Q => t σ H fun c H1 => Q (!c) H1
theorem pw_and1 (ha : PT X a tA) : PW X (.BoolOp .And [a] pos) tA := by
  intro wh pins s σ H Q I h
  refine isTrue_and (thn (ha pins s σ H Q I h) fun c s1 e => ?_)
  cases c with
  | true => exact isTrue_and_nil e
  | false => exact e
theorem pw_or1 (ha : PT X a tA) : PW X (.BoolOp .Or [a] pos) tA := by
  intro wh pins s σ H Q I h
  refine isTrue_or (thn (ha pins s σ H Q I h) fun c s1 e => ?_)
  cases c with
  | false => exact isTrue_or_nil e
  | true => exact e
theorem pw_and (ha : PT X a tA) (hb : PW X (.BoolOp .And (b :: rest) pos) tB') : PW X (.BoolOp .And (a :: b :: rest) pos) (tAnd tA tB') := by
  intro wh pins s σ H Q I h
  refine isTrue_and (thn (ha pins s σ H _ I h) fun c s1 ⟨H1, I1, q1⟩ => ?_)
  cases c with
  | true => exact hb wh pins s1 σ H1 Q I1 q1
  | false => exact ⟨H1, I1, q1⟩
theorem pw_or (ha : PT X a tA) (hb : PW X (.BoolOp .Or (b :: rest) pos) tB') : PW X (.BoolOp .Or (a :: b :: rest) pos) (tOr tA tB') := by
  intro wh pins s σ H Q I h
  refine isTrue_or (thn (ha pins s σ H _ I h) fun c s1 ⟨H1, I1, q1⟩ => ?_)
  cases c with
  | true => exact ⟨H1, I1, q1⟩
  | false => exact hb wh pins s1 σ H1 Q I1 q1
theorem pt_not (ha : PT X a tA) : PT X (.UnaryOp .Not a pos) (tNot tA) := by
  intro pins s σ H Q I h
  exact isTrue_not (ha pins s σ H (fun c H1 => Q (!c) H1) I h)
def tAndV (ta tb : TE) : TE := fun σ H Q => ta σ H fun x H1 => ∃ c, x = .bl c ∧ if c = true then tb σ H1 Q else Q (.bl false) H1
def tOrV (ta tb : TE) : TE := fun σ H Q => ta σ H fun x H1 => ∃ c, x = .bl c ∧ if c = true then Q (.bl true) H1 else tb σ H1 Q
def tNotV (ta : TE) : TE := fun σ H Q => ta σ H fun x H1 => ∃ c, x = .bl c ∧ Q (.bl (!c)) H1
theorem pe_one {op} {t : TE} (h : PE X a t) : PE X (.BoolOp op [a] pos) t := fun pins s σ H Q I hw => BoolOp_one (h pins s σ H Q I hw)
theorem pe_and (ha : PE X a ta) (hb : PE X (.BoolOp .And (b :: rest) pos) tb) : PE X (.BoolOp .And (a :: b :: rest) pos) (tAndV ta tb) := by
  intro pins s σ H Q I h
  refine BoolOp_and (thn (ha pins s σ H _ I h) fun v s1 ⟨x, H1, I1, r1, q1⟩ => ?_)
  obtain ⟨c, rfl, q1⟩ := q1
  cases r1
  refine wpAny_truthy_bool ?_
  cases c with
  | true => exact hb pins s1 σ H1 Q I1 q1
  | false => exact ⟨.bl false, H1, I1, rfl, q1⟩
def tIf (t : TT) (ta tb : TE) : TE := fun σ H Q => t σ H fun c H1 => if c = true then ta σ H1 Q else tb σ H1 Q
theorem pe_ifExp {c : Expr} (hc : PT X c tA) (ha : PE X a ta) (hb : PE X b tb) : PE X (.IfExp c a b pos) (tIf tA ta tb) := by
  intro pins s σ H Q I h
  refine wpAny_IfExp (thn (hc pins s σ H _ I h) fun d s1 ⟨H1, I1, q1⟩ => ?_)
  cases d with
  | true => exact ha pins s1 σ H1 Q I1 q1
  | false => exact hb pins s1 σ H1 Q I1 q1
end
end L2

namespace L2
open PySem PySem.Spec PyProof.Rows

def SqL (K : PySem.W.Frag) (H : Hp) (a : Addr) (xs : List V) : Prop :=
  Rd H a (.lst xs) ∨
    ∃ (o : Obj) (its : Array Value) (n : Nat), K.lookup a = some o ∧ o.cls = .type "list" ∧ o.dict = none ∧ o.data = .seq its n ∧ its.size ≤ sizeLine ∧ Vals xs its.toList
def SqT (K : PySem.W.Frag) (H : Hp) (a : Addr) (xs : List V) : Prop :=
  Rd H a (.tup xs) ∨
    ∃ (o : Obj) (its : Array Value) (n : Nat), K.lookup a = some o ∧ o.cls = .type "tuple" ∧ o.data = .seq its n ∧ its.size ≤ sizeLine ∧ Vals xs its.toList
def absV : Value → Option V
  | .none => some .non
  | .bool b => some (.bl b)
  | .int i _ => some (.int i)
  | .str x _ => some (.str x)
  | .bytes b _ => some (.byt b)
  | .float b _ => some (.flt b)
  | .ref a => some (.ref a)
  | .type n => some (.ty n)
  | _ => none
theorem RelV.abs {x : V} {u : Value} (r : RelV x u) : absV u = some x := by
  cases x with
  | non => cases r; rfl
  | bl _ => cases r; rfl
  | int _ => obtain ⟨t, rfl⟩ := r; rfl
  | str _ => obtain ⟨t, rfl⟩ := r; rfl
  | byt _ => obtain ⟨t, rfl⟩ := r; rfl
  | flt _ => obtain ⟨t, rfl⟩ := r; rfl
  | ref _ => cases r; rfl
  | ty _ => cases r; rfl
theorem RelV.inj {x y : V} {u : Value} (r : RelV x u) (q : RelV y u) : x = y := Option.some.inj (r.abs.symm.trans q.abs)
theorem Vals.inj : ∀ {xs ys : List V} {us : List Value}, Vals xs us → Vals ys us → xs = ys
  | _, _, _, .nil, .nil => rfl
  | _, _, _, .cons r t, .cons r' t' => by rw [r.inj r', Vals.inj t t']
section
variable {X : Cx} {pins : List (Addr × Obj)} {σ : St} {H : Hp} {s : Shared} {a : Addr} {xs ys : List V}
theorem SqL.of {K : PySem.W.Frag} (h : H a = some (.lst xs)) : SqL K H a xs := .inl (.inl h)
theorem SqT.of {K : PySem.W.Frag} (h : H a = some (.tup xs)) : SqT K H a xs := .inl (.inl h)
theorem Inv.list (I : Inv X pins σ H s) (h : SqL X.K H a xs) : ∃ its : List Value, Vals xs its ∧ PlainL s.heap a its.toArray ∧ xs.length ≤ sizeLine := by
  rcases h with h | ⟨o, its, n, hk, hc, hd, hs, hz, r⟩
  · obtain ⟨z, its, n, r, e⟩ := h.ok I.hok
    exact ⟨its, r, ⟨_, n, e, rfl, rfl, rfl⟩, z⟩
  · refine ⟨its.toList, r, ⟨o, n, I.kIn a o hk, hc, hd, by simpa using hs⟩, ?_⟩
    have e := r.length
    simp only [Array.length_toList] at e
    omega
theorem Inv.tuple (I : Inv X pins σ H s) (h : SqT X.K H a xs) : ∃ its : List Value, Vals xs its ∧ IsTup s.heap a its.toArray ∧ xs.length ≤ sizeLine := by
  rcases h with h | ⟨o, its, n, hk, hc, hs, hz, r⟩
  · obtain ⟨z, its, r, p⟩ := h.ok I.hok
    exact ⟨its, r, p, z⟩
  · refine ⟨its.toList, r, ⟨o, I.kIn a o hk, hc, n, by simpa using hs⟩, ?_⟩
    have e := r.length
    simp only [Array.length_toList] at e
    omega
theorem Inv.list_inj (I : Inv X pins σ H s) (h : SqL X.K H a xs) (h' : SqL X.K H a ys) : xs = ys := by
  obtain ⟨its, r, ⟨o, n, e, _, _, d⟩, _⟩ := I.list h
  obtain ⟨its', r', ⟨o', n', e', _, _, d'⟩, _⟩ := I.list h'
  rw [e] at e'; cases e'
  rw [d] at d'
  injection d' with d1 _
  have : its = its' := by simpa using congrArg Array.toList d1
  subst this
  exact r.inj r'
end

abbrev Cx.wish (X : Cx) (E : Value → Shared → Prop) : Cx := { X with xe := E }
abbrev Cx.nox (X : Cx) : Cx := X.wish fun _ _ => False
theorem Cx.Ok.wish {X : Cx} (ok : X.Ok) (E : Value → Shared → Prop) : (X.wish E).Ok :=
  ⟨ok.mod, ok.kind, ok.glob, ok.blt, ok.above, ok.inj, ok.has, ok.cab, ok.hd, ok.frames, ok.stk, ok.exf, ok.bs, ok.bsz, ok.noex, ok.exfs, ok.funs, ok.frf⟩
theorem Cx.Ok.unwish {X : Cx} {E : Value → Shared → Prop} (ok : (X.wish E).Ok) : X.Ok :=
  ⟨ok.mod, ok.kind, ok.glob, ok.blt, ok.above, ok.inj, ok.has, ok.cab, ok.hd, ok.frames, ok.stk, ok.exf, ok.bs, ok.bsz, ok.noex, ok.exfs, ok.funs, ok.frf⟩
section
variable {X : Cx} {pins : List (Addr × Obj)} {σ : St} {H : Hp} {s : Shared} {E : Value → Shared → Prop}
theorem Inv.wish (I : Inv X pins σ H s) (E : Value → Shared → Prop) : Inv (X.wish E) pins σ H s := ⟨I.ok.wish E, I.os, I.bare, I.base, I.loc, I.cell, I.free, I.freeC, I.pin, I.hok, I.len⟩
theorem Inv.unwish (I : Inv (X.wish E) pins σ H s) : Inv X pins σ H s := ⟨I.ok.unwish, I.os, I.bare, I.base, I.loc, I.cell, I.free, I.freeC, I.pin, I.hok, I.len⟩
theorem SP.unwish {D : Ends} {f : Flow} {s' : Shared} (h : SP (X.wish E) pins D f s') : SP X pins D f s' := by
  cases f with
  | next => obtain ⟨σ', H', I, q⟩ := h; exact ⟨σ', H', I.unwish, q⟩
  | brk => obtain ⟨σ', H', I, q⟩ := h; exact ⟨σ', H', I.unwish, q⟩
  | cont => obtain ⟨σ', H', I, q⟩ := h; exact ⟨σ', H', I.unwish, q⟩
  | ret u => obtain ⟨v, σ', H', I, r, q⟩ := h; exact ⟨v, σ', H', I.unwish, r, q⟩
theorem PSs.nox {st : List Stmt} {t : TS} (h : PSs X.nox st t) : PSs X st t := fun pins s σ H D I hw =>
  wpAny_mono (h pins s σ H D (I.wish _) hw) (fun _ _ q => q.unwish) fun _ _ z => False.elim z
end

section
variable {X : Cx} {st : Stmt} {rest : List Stmt} {t u : TS} {e : Expr} {te : TE} {pos : Pos}
def tNext : TS := fun D σ H => D.nx σ H
def tSeq (t u : TS) : TS := fun D σ H => t { D with nx := u D } σ H
theorem pss_nil : PSs X [] tNext := fun _ _ σ H _ I h => wpAny_execs_nil ⟨σ, H, I, h⟩
theorem pss_cons (h1 : PS X st t) (h2 : PSs X rest u) : PSs X (st :: rest) (tSeq t u) := by
  intro pins s σ H D I h
  refine wpAny_execs_cons (thn (h1 pins s σ H { D with nx := u D } I h) fun f s1 q => ?_)
  cases f with
  | next =>
    obtain ⟨σ', H', I', q⟩ := q
    exact h2 pins s1 σ' H' D I' q
  | ret v => exact q
  | brk => exact q
  | cont => exact q
theorem pss_one (h1 : PS X st t) : PSs X [st] t := by
  intro pins s σ H D I h
  refine wpAny_execs_cons (thn (h1 pins s σ H D I h) fun f s1 q => ?_)
  cases f with
  | next => exact wpAny_execs_nil q
  | ret v => exact q
  | brk => exact q
  | cont => exact q
def tBreak : TS := fun D σ H => D.bk σ H
def tCont : TS := fun D σ H => D.ct σ H
theorem Inv.quiet {pins : List (Addr × Obj)} {σ : St} {H : Hp} {s : Shared} (I : Inv X pins σ H s) : interactive X.env = false := by simp [interactive, I.ok.kind]
def tDrop (te : TE) : TS := fun D σ H => te σ H fun _ H1 => D.nx σ H1
theorem ps_expr (he : PE X e te) (hs : swapsWith e none pos.line X.env = pure false := by rfl) : PS X (.Expr e pos) (tDrop te) := by
  intro pins s σ H D I h
  exact wpAny_Expr_any (thn (he pins s σ H _ I h) fun v s1 ⟨x, H1, I1, r1, q1⟩ => ⟨σ, H1, I1, q1⟩) I.quiet hs
def tRet (te : TE) : TS := fun D σ H => te σ H D.rt
theorem ps_ret (he : PE X e te) : PS X (.Return (some e) pos) (tRet te) := by
  intro pins s σ H D I h
  exact wpAny_Return_some (thn (he pins s σ H _ I h) fun v s1 ⟨x, H1, I1, r1, q1⟩ => ⟨x, σ, H1, I1, r1, q1⟩)
def tRetN : TS := fun D _ H => D.rt .non H
def tIfS (c : TT) (t u : TS) : TS := fun D σ H => c σ H fun b H1 => if b = true then t D σ H1 else u D σ H1
theorem ps_if {c : Expr} {a b : List Stmt} {tc : TT} (hc : PT X c tc) (ha : PSs X a t) (hb : PSs X b u) : PS X (.If c a b pos) (tIfS tc t u) := by
  intro pins s σ H D I h
  refine wpAny_If (thn (hc pins s σ H _ I h) fun d s1 ⟨H1, I1, q1⟩ => ?_)
  cases d with
  | true => exact ha pins s1 σ H1 D I1 q1
  | false => exact hb pins s1 σ H1 D I1 q1
def tNever : TS := fun _ _ _ => False
end

abbrev TG := V → St → Hp → (St → Hp → Prop) → Prop
abbrev TGs := List V → St → Hp → (St → Hp → Prop) → Prop
def PG (X : Cx) (target : Expr) (t : TG) : Prop :=
  ∀ (pins : List (Addr × Obj)) (s : Shared) (σ : St) (H : Hp) (v : V) (u : Value) (Q : St → Hp → Prop), Inv X pins σ H s → RelV v u → t v σ H Q →
    wpAny (model X.prog X.w) X.A (assign target X.env u) (fun _ s' => ∃ σ' H', Inv X pins σ' H' s' ∧ Q σ' H') X.xe s
def PGs (X : Cx) (ts : List Expr) (t : TGs) : Prop :=
  ∀ (pins : List (Addr × Obj)) (s : Shared) (σ : St) (H : Hp) (vs : List V) (us : List Value) (Q : St → Hp → Prop), Inv X pins σ H s → Vals vs us → t vs σ H Q →
    wpAny (model X.prog X.w) X.A (assignInOrder ((assignEach ts X.env).map (·.2)) us) (fun _ s' => ∃ σ' H', Inv X pins σ' H' s' ∧ Q σ' H') X.xe s
abbrev TSet := V → V → V → Hp → (Hp → Prop) → Prop
def PSet (X : Cx) (t : TSet) : Prop :=
  ∀ (pins : List (Addr × Obj)) (s : Shared) (σ : St) (H : Hp) (o i v : V) (ov iv u : Value) (Q : Hp → Prop), Inv X pins σ H s → RelV o ov → RelV i iv → RelV v u → t o i v H Q →
    wpAny (model X.prog X.w) X.A (setItem ov iv u) (fun _ s' => ∃ H', Inv X pins σ H' s' ∧ Q H') X.xe s
abbrev TIp := V → V → Hp → VK → Prop
def PIp (X : Cx) (op : Operator) (t : TIp) : Prop :=
  ∀ (pins : List (Addr × Obj)) (s : Shared) (σ : St) (H : Hp) (x y : V) (v u : Value) (Q : VK), Inv X pins σ H s → RelV x v → RelV y u → t x y H Q →
    wpAny (model X.prog X.w) X.A (inplaceOp op v u) (EP X pins σ Q) X.xe s
section
variable {X : Cx} {pos : Pos}
def gName (i : Nat) : TG := fun v σ H Q => Q (σ.set i (some v)) H
theorem pg_name {i : Nat} {x : Str} (hN : X.N.Nodup) (hi : X.N[i]? = some x) (hx : Loc X.env.scope x) (hf : X.fn x = true ∨ X.env.scope.names.lookup x = some .local := by first | exact .inl rfl | exact .inr rfl | assumption) : PG X (.Name x pos) (gName i) := by
  intro pins s σ H v u Q I r h
  exact wpAny_assign_Name (store_ok I hN hi hx r (fun s' I' => ⟨_, H, I', h⟩) hf)
def gNil : TGs := fun vs σ H Q => vs = [] ∧ Q σ H
def gCons (t : TG) (u : TGs) : TGs := fun vs σ H Q => ∃ v r, vs = v :: r ∧ t v σ H fun σ' H' => u r σ' H' Q
theorem pgs_nil : PGs X [] gNil := by
  intro pins s σ H vs us Q I r h
  obtain ⟨e, h⟩ := h
  subst e
  cases r
  exact assignInOrder_nil ⟨σ, H, I, h⟩
theorem pgs_cons {e : Expr} {es : List Expr} {t : TG} {u : TGs} (h1 : PG X e t) (h2 : PGs X es u)
    (hs : (assignEach (e :: es) X.env).map (·.2) = assign e X.env :: (assignEach es X.env).map (·.2) := by rfl) : PGs X (e :: es) (gCons t u) := by
  intro pins s σ H vs us Q I r h
  obtain ⟨v, vr, e1, h⟩ := h
  subst e1
  cases r with
  | cons r rr =>
    rw [hs]
    refine assignInOrder_cons (thn (h1 pins s σ H _ _ _ I r h) fun _ s1 ⟨σ1, H1, I1, q1⟩ => ?_)
    exact h2 pins s1 σ1 H1 _ _ Q I1 rr q1
def gTup (K : PySem.W.Frag) (n : Nat) (t : TGs) : TG := fun v σ H Q => ∃ a xs, v = .ref a ∧ SqT K H a xs ∧ xs.length = n ∧ t xs σ H Q
theorem pg_tup {es : List Expr} {k : Nat} {t : TGs} {n : Nat} (hc : X.calm = true) (h : PGs X es t)
    (hn : (assignEach es X.env).length = n := by rfl) (hst : (assignEach es X.env).findIdx? (·.1) = none := by rfl) : PG X (.Tuple es k pos) (gTup X.K n t) := by
  intro pins s σ H v u Q I r hw
  obtain ⟨a, xs, e1, hq, hl, hw⟩ := hw
  subst e1
  cases r
  obtain ⟨its, rv, ht, hz⟩ := I.tuple hq
  refine assign_Tuple_tuple (I.ok.hd hc) ht (by simp [hn, ← hl, rv.length]) hst fun h' hx => ?_
  have I1 : Inv X pins σ H { s with heap := h' } := I.kept (t' := s.toks) fun b o e => hx b o (Nat.ne_of_lt (Heap.lt_size e)) e
  exact h pins _ σ H xs _ Q I1 (by simpa using rv) hw
def gSub (to ti : TE) (t : TSet) : TG := fun v σ H Q => to σ H fun o H1 => ti σ H1 fun i H2 => t o i v H2 fun H3 => Q σ H3
theorem pg_sub {o i : Expr} {to ti : TE} {t : TSet} (ho : PE X o to) (hi : PE X i ti) (hs : PSet X t)
    (ha : ∀ v, assign (.Subscript o i pos) X.env v = (do
      let ov ← holding [v] (eval o X.env)
      let iv ← holding [v, ov] (eval i X.env)
      standAt pos
      holding [v, ov, iv] (setItem ov iv v)
      release [v, ov, iv] []) := by intro _; rfl) : PG X (.Subscript o i pos) (gSub to ti t) := by
  intro pins s σ H v u Q I r h
  rw [ha]
  refine wpAny_bind (wpAny_holding (thn (ho pins s σ H _ I h) fun ov s1 ⟨x, H1, I1, r1, q1⟩ => ?_))
  refine wpAny_bind (wpAny_holding (thn (hi pins s1 σ H1 _ I1 q1) fun iv s2 ⟨y, H2, I2, r2, q2⟩ => ?_))
  refine wpAny_bind (wpAny_standAt (wpAny_bind (wpAny_holding (thn (hs pins s2 σ H2 x y v ov iv u _ I2 r1 r2 r q2) fun _ s3 ⟨H3, I3, q3⟩ => ?_))))
  exact wpAny_release ⟨σ, H3, I3, q3⟩
def tAsg (te : TE) (g : TG) : TS := fun D σ H => te σ H fun x H1 => g x σ H1 D.nx
theorem ps_asg {tg e : Expr} {te : TE} {g : TG} (he : PE X e te) (hg : PG X tg g) (hs : swapsWithSole [tg] e pos.line X.env = pure false := by rfl) (hw : swappedStores [tg] e X.env = pure none := by rfl)
    (h1 : (assignEach [tg] X.env).map (·.2) = [assign tg X.env] := by rfl) : PS X (.Assign [tg] e pos) (tAsg te g) := by
  intro pins s σ H D I h
  refine wpAny_Assign_stores (thn (he pins s σ H _ I h) fun v s1 ⟨x, H1, I1, r1, q1⟩ => ?_) hs hw
  rw [h1]
  exact thn (hg pins s1 σ H1 x v _ I1 r1 q1) fun _ s2 q => q
theorem ps_set {i : Nat} {x : Str} {e : Expr} {te : TE} {pos' : Pos} (hN : X.N.Nodup) (hi : X.N[i]? = some x) (hx : Loc X.env.scope x) (he : PE X e te) (hs : swapsWith e (some (.Name x pos')) pos.line X.env = pure false := by rfl) (hf : X.fn x = true ∨ X.env.scope.names.lookup x = some .local := by first | exact .inl rfl | exact .inr rfl | assumption) :
    PS X (.Assign [.Name x pos'] e pos) (tAsg te (gName i)) := by
  intro pins s σ H D I h
  refine wpAny_Assign_Name (thn (he pins s σ H _ I h) fun v s1 ⟨y, H1, I1, r1, q1⟩ => ?_) hs
  exact store_ok I1 hN hi hx r1 (fun s2 I2 => ⟨_, H1, I2, q1⟩) hf
def tPar (i j : Nat) (ta : TA) : TS := fun D σ H => ta σ H fun vs H1 => ∃ v w, vs = [v, w] ∧ D.nx ((σ.set i (some v)).set j (some w)) H1
theorem ps_par {i j : Nat} {x y : Str} {a b : Expr} {ta : TA} {px py pt : Pos} {kt k2 pt2} (hc : X.calm = true) (hN : X.N.Nodup) (hi : X.N[i]? = some x) (hj : X.N[j]? = some y) (hij : i ≠ j)
    (hx : X.env.scope.names.lookup x = some .local) (hy : X.env.scope.names.lookup y = some .local) (ha : PA X [a, b] ta)
    (hw : swappedStores [.Tuple [.Name x px, .Name y py] kt pt] (.Tuple [a, b] k2 pt2) X.env = pure (some [x, y]))
    (hs : swapsWithSole [.Tuple [.Name x px, .Name y py] kt pt] (.Tuple [a, b] k2 pt2) pos.line X.env = pure false := by rfl) :
    PS X (.Assign [.Tuple [.Name x px, .Name y py] kt pt] (.Tuple [a, b] k2 pt2) pos) (tPar i j ta) := by
  intro pins s σ H D I h
  rw [exec_Assign_arm]
  refine wpAny_bind (wpAny_standAt ?_)
  rw [hs]
  refine wpAny_bind (wpAny_pure ?_)
  rw [if_neg (by decide)]
  refine wpAny_bind (Tuple_ (thn (ha _ pins s σ H _ I h) fun us s1 ⟨vs, H1, I1, r1, q1⟩ => ?_))
  obtain ⟨v, w, e1, q1⟩ := q1
  subst e1
  obtain ⟨u1, u2, rfl, rv, rw'⟩ : ∃ u1 u2, us = [u1, u2] ∧ RelV v u1 ∧ RelV w u2 := by
    cases r1 with
    | cons p q =>
      cases q with
      | cons p' q' =>
        cases q'
        exact ⟨_, _, rfl, p, p'⟩
  refine wpAny_newObj_type ?_ (by show 2 ≤ sizeLine; decide)
  have I2 : Inv X pins σ H1 { s1 with heap := s1.heap.push { cls := .type "tuple", data := .seq [u1, u2].toArray } } := I1.kept (t' := s1.toks) fun b o e => Heap.get?_push_of_some _ e
  rw [hw]
  refine wpAny_bind (wpAny_pure ?_)
  show wpAny (model X.prog X.w) X.A (do rule "assign.swapped-stores"; let items ← unpackItems (.ref s1.heap.objs.size) 2 none; assignInOrder [fun v => bindName X.env y v, fun v => bindName X.env x v] items.reverse; pure Flow.next) _ _ _
  refine wpAny_bind (wpAny_rule (wpAny_bind (unpackItems_tuple (items := #[u1, u2]) (I.ok.hd hc) (IsTup.new s1.heap _) fun h' hx' => ?_)))
  have I3 := I2.kept (h' := h') (t' := s1.toks) fun b o e => hx' b o (Nat.ne_of_lt (Heap.lt_size e)) e
  show wpAny _ _ (assignInOrder [fun v => bindName X.env y v, fun v => bindName X.env x v] [u2, u1] >>= fun _ => pure Flow.next) _ _ _
  refine wpAny_bind (assignInOrder_cons (wpAny_bindName (store_ok I3 hN hj (.inl hy) rw' (fun s2 I4 => ?_) (.inr hy))))
  refine assignInOrder_cons (wpAny_bindName (store_ok I4 hN hi (.inl hx) rv (fun s3 I5 => assignInOrder_nil (wpAny_pure ?_)) (.inr hx)))
  rw [List.set_comm _ _ (Ne.symm hij)] at I5
  exact ⟨_, H1, I5, q1⟩
def tAug (i : Nat) (te : TE) (ti : TIp) : TS := fun D σ H => ∃ x, σ[i]? = some (some x) ∧ te σ H fun y H1 => ti x y H1 fun z H2 => D.nx (σ.set i (some z)) H2
def tAugS (to ti te : TE) (tget : V → V → Hp → VK → Prop) (tip : TIp) (tset : TSet) : TS := fun D σ H => to σ H fun o H1 => ti σ H1 fun i H2 => tget o i H2 fun x H3 => te σ H3 fun y H4 => tip x y H4 fun z H5 => tset o i z H5 fun H6 => D.nx σ H6
def PGet (X : Cx) (t : V → V → Hp → VK → Prop) : Prop :=
  ∀ (pins : List (Addr × Obj)) (s : Shared) (σ : St) (H : Hp) (o i : V) (ov iv : Value) (Q : VK), Inv X pins σ H s → RelV o ov → RelV i iv → t o i H Q →
    wpAny (model X.prog X.w) X.A (getItem ov iv) (EP X pins σ Q) X.xe s
theorem ps_augS {o i e : Expr} {to ti te : TE} {tget : V → V → Hp → VK → Prop} {tip : TIp} {tset : TSet} {op : Operator} {tpos : Pos} (ho : PE X o to) (hi : PE X i ti) (hg : PGet X tget) (he : PE X e te) (hp : PIp X op tip) (hs : PSet X tset)
    (ha : ∀ ov iv new, augStore i ov iv new = (do holding [new, ov, iv] (setItem ov iv new); release [new, ov, iv] []; pure .next) := by intros; rfl) : PS X (.AugAssign (.Subscript o i tpos) op e pos) (tAugS to ti te tget tip tset) := by
  intro pins s σ H D I h
  refine wpAny_AugAssign_SubscriptAny (thn (ho pins s σ H _ I h) fun ov s1 ⟨x1, H1, I1, r1, q1⟩ => ?_) ha
  refine thn (hi pins s1 σ H1 _ I1 q1) fun iv s2 ⟨x2, H2, I2, r2, q2⟩ => ?_
  refine thn (hg pins s2 σ H2 x1 x2 ov iv _ I2 r1 r2 q2) fun old s3 ⟨x3, H3, I3, r3, q3⟩ => ?_
  refine thn (he pins s3 σ H3 _ I3 q3) fun v s4 ⟨x4, H4, I4, r4, q4⟩ => ?_
  refine thn (hp pins s4 σ H4 x3 x4 old v _ I4 r3 r4 q4) fun new s5 ⟨x5, H5, I5, r5, q5⟩ => ?_
  exact thn (hs pins s5 σ H5 x1 x2 x5 ov iv new _ I5 r1 r2 r5 q5) fun _ s6 ⟨H6, I6, q6⟩ => ⟨σ, H6, I6, q6⟩
def ipI (f : Int → Int → Int) : TIp := fun x y H Q => ∃ i j, x = .int i ∧ y = .int j ∧ Q (.int (f i j)) H
theorem ip_add : PIp X .Add (ipI fun i j => i + j) := by
  intro pins s σ H x y v u Q I r1 r2 h
  obtain ⟨i, j, e1, e2, q⟩ := h
  subst e1; subst e2
  obtain ⟨t, rfl⟩ := r1
  obtain ⟨t', rfl⟩ := r2
  exact iadd_int ⟨.int _, H, I.tok _, ⟨_, rfl⟩, q⟩
end

section
variable {X : Cx} {pos : Pos}
def tWhile (c : TT) (tb : TS) : TS := fun D σ H => ∃ W : Nat → St → Hp → Prop, (∃ m, W m σ H) ∧ ∀ m σ H, W m σ H →
  c σ H fun b H1 => if b = true then ∃ N : St → Hp → Prop, (∀ σ' H', N σ' H' → ∃ m', m' < m ∧ W m' σ' H') ∧ tb { D with nx := N, ct := N, bk := D.nx } σ H1 else D.nx σ H1
theorem ps_while {c : Expr} {body : List Stmt} {tc : TT} {tb : TS} (hp : PassesOwn (model X.prog X.w) X.A X.env X.xe) (hc : PT X c tc) (hb : PSs X body tb) : PS X (.While c body [] pos) (tWhile tc tb) := by
  intro pins s σ H D I h
  obtain ⟨W, ⟨m0, w0⟩, turn⟩ := h
  refine wpAny_While (codeAny_whileLoop (fun n s' => ∃ σ' H', Inv X pins σ' H' s' ∧ W n σ' H') ?_ m0 ⟨σ, H, I, w0⟩)
  rintro n s1 ⟨σ1, H1, I1, w1⟩
  refine wpAny_passesOwn hp (thn (hc pins s1 σ1 H1 _ I1 (turn n σ1 H1 w1)) fun b s2 ⟨H2, I2, q2⟩ => ?_)
  cases b with
  | true =>
    obtain ⟨N, hN, q2⟩ := q2
    rw [if_pos rfl]
    refine wpAny_passesOwn hp (thn (hb pins s2 σ1 H2 _ I2 q2) fun f s3 q3 => ?_)
    cases f with
    | next =>
      obtain ⟨σ3, H3, I3, n3⟩ := q3
      obtain ⟨m', hm, w3⟩ := hN σ3 H3 n3
      exact ⟨m', hm, σ3, H3, I3, w3⟩
    | cont =>
      obtain ⟨σ3, H3, I3, n3⟩ := q3
      obtain ⟨m', hm, w3⟩ := hN σ3 H3 n3
      exact ⟨m', hm, σ3, H3, I3, w3⟩
    | brk => exact q3
    | ret v => exact q3
  | false =>
    rw [if_neg Bool.false_ne_true]
    exact wpAny_execs_nil ⟨σ1, H2, I2, q2⟩
end

structure It where
  go : Nat → Hp → Prop
  yld : Nat → Hp → V → Hp → Prop
  stop : Nat → Hp → Prop
def FpOk (X : Cx) (pins : List (Addr × Obj)) (H : Hp) (b : Addr) : Prop :=
  H b = none ∧ b ≠ X.env.locals ∧ b ∉ X.fs ∧ (b ∈ X.ex ∨ X.s₀.heap.objs.size ≤ b) ∧ (∀ x c, X.env.cells.lookup x = some c → c ≠ b) ∧ ∀ p ∈ X.pn ++ pins, p.1 ≠ b
theorem Inv.fpOk {X : Cx} {pins : List (Addr × Obj)} {σ : St} {H H' : Hp} {s : Shared} {b : Addr} (I : Inv X pins σ H s) (hb : s.heap.objs.size ≤ b) (hn : H' b = none) : FpOk X pins H' b := by
  refine ⟨hn, Nat.ne_of_gt (Nat.lt_of_lt_of_le I.lt hb), I.nofs hb, .inr (Nat.le_trans I.sz hb), fun x c e z => ?_, fun p hp z => ?_⟩
  · obtain ⟨v, q⟩ := I.cell x c e
    exact absurd (Nat.lt_of_lt_of_le q.lt (by rw [z]; exact hb)) (Nat.lt_irrefl _)
  · exact absurd (Nat.lt_of_lt_of_le (Heap.lt_size (I.pin p hp).1) (by rw [z]; exact hb)) (Nat.lt_irrefl _)
structure Turn (P : Program) (w : World) (K : PySem.W.Frag) (tg : Expr) (J : It) (fp : List Addr) (it : Addr) (tn : Nat → Heap → Prop) : Prop where
  mem : it ∈ fp
  obj : ∀ i h, tn i h → ∀ b ∈ fp, ∃ o, h.get? b = some o ∧ ∀ v, o.data ≠ .cell v
  keep : ∀ i h h', tn i h → (∀ b ∈ fp, ∀ o, h.get? b = some o → h'.get? b = some o) → tn i h'
  item : ∀ (X : Cx), X.prog = P → X.w = w → X.K = K → X.calm = true → ∀ (i : Nat) (pins : List (Addr × Obj)) (s : Shared) (σ : St) (H : Hp) (E : Value → Shared → Prop), Inv X pins σ H s → (∀ b ∈ fp, FpOk X pins H b) → tn i s.heap → J.go i H →
    wpAny (model P w) X.A (pyNext (.ref it)) (fun r s1 => ∃ u, r = some u ∧
      wpAny (model P w) X.A (letOwnedTupleGo tg (.ref it) u) (fun _ s2 => ∃ x H', Inv X pins σ H' s2 ∧ RelV x u ∧ J.yld i H x H' ∧ tn (i + 1) s2.heap ∧ ∀ b ∈ fp, H' b = none) E s1) E s
  done : ∀ (X : Cx), X.prog = P → X.w = w → X.K = K → X.calm = true → ∀ (i : Nat) (pins : List (Addr × Obj)) (s : Shared) (σ : St) (H : Hp) (E : Value → Shared → Prop), Inv X pins σ H s → (∀ b ∈ fp, FpOk X pins H b) → tn i s.heap → J.stop i H →
    wpAny (model P w) X.A (pyNext (.ref it)) (fun r s1 => r = none ∧ Inv X pins σ H s1) E s
  self : ∀ (A : Around) (i : Nat) (s : Shared) (Q : Value → Shared → Prop) (E : Value → Shared → Prop), tn i s.heap → Q (.ref it) s → wpAny (model P w) A (pyIter (.ref it)) Q E s
abbrev TI := St → Hp → (It → Hp → Prop) → Prop
def PIE (X : Cx) (pins : List (Addr × Obj)) (σ : St) (tg : Expr) (R : It → Hp → Prop) (itv : Value) (s2 : Shared) : Prop :=
  ∃ (it : Addr) (fp : List Addr) (tn : Nat → Heap → Prop) (J : It) (H' : Hp), itv = .ref it ∧ Inv X pins σ H' s2 ∧ Turn X.prog X.w X.K tg J fp it tn ∧ tn 0 s2.heap ∧ (∀ b ∈ fp, FpOk X pins H' b) ∧ R J H'
def PI (X : Cx) (tg iter : Expr) (wi : TI) : Prop :=
  ∀ (pins : List (Addr × Obj)) (s : Shared) (σ : St) (H : Hp) (R : It → Hp → Prop), Inv X pins σ H s → wi σ H R →
    wpAny (model X.prog X.w) X.A (eval iter X.env) (fun v s1 => wpAny (model X.prog X.w) X.A (pyIter v) (PIE X pins σ tg R) X.xe s1) X.xe s

theorem go_of {M : Model} {A : Around} {E : Value → Shared → Prop} {s : Shared} {tg : Expr} {it : Addr} {u : Value} {o : Obj} {n : String} {vs : Array Value} {Q : Unit → Shared → Prop} (ho : s.heap.get? it = some o) (hc : o.cls = .type n) (hd : o.data = .fields vs)
    (hn : ["enumerate", "zip", "dict_itemiterator", "dict_reverseitemiterator", "odict_iterator", "itertools.zip_longest", "itertools.pairwise"].contains n = false) (hQ : Q () s) : wpAny M A (letOwnedTupleGo tg (.ref it) u) Q E s := by
  unfold letOwnedTupleGo
  cases tg <;> first
    | exact wpAny_pure hQ
    | (cases u <;> first
        | exact wpAny_pure hQ
        | (refine wpAny_bind (wpAny_load ho ?_)
           rw [hc, hd]
           show wpAny M A (if (["enumerate", "zip", "dict_itemiterator", "dict_reverseitemiterator", "odict_iterator", "itertools.zip_longest", "itertools.pairwise"].contains n && vs[0]? == some (rawInt _)) = true then _ else _) Q E s
           rw [if_neg (by intro h; rw [hn, Bool.false_and] at h; cases h)]
           exact wpAny_pure hQ))

def Itl (K : PySem.W.Frag) (a : Addr) : It :=
  ⟨fun i H => ∃ xs x, SqL K H a xs ∧ xs[i]? = some x, fun i H x H' => H' = H ∧ ∀ xs, SqL K H a xs → xs[i]? = some x, fun i H => ∃ xs, SqL K H a xs ∧ xs.length ≤ i⟩
def Itt (K : PySem.W.Frag) (a : Addr) : It :=
  ⟨fun i H => ∃ xs x, SqT K H a xs ∧ xs[i]? = some x, fun i H x H' => H' = H ∧ ∀ xs, SqT K H a xs → xs[i]? = some x, fun i H => ∃ xs, SqT K H a xs ∧ xs.length ≤ i⟩
def Itr (lo : Int) (n : Nat) : It := ⟨fun i _ => i < n, fun i H x H' => H' = H ∧ x = .int (lo + i), fun i _ => n ≤ i⟩
theorem turn_list {P : Program} {w : World} {K : PySem.W.Frag} {tg : Expr} (a it : Addr) : Turn P w K tg (Itl K a) [it] it (fun i h => h.IsListIter it a i) where
  mem := by simp
  obj := fun i h st b hb => by
    have e : b = it := by simpa using hb
    subst e
    obtain ⟨o, e, c, d⟩ := st
    exact ⟨o, e, fun v z => by rw [d] at z; cases z⟩
  keep := fun i h h' st k => st.at fun o e => k it (by simp) o e
  item := by
    intro X hP hw hK hc i pins s σ H E I hf st hg
    subst hP hw hK
    obtain ⟨xs, x, hq, hx⟩ := hg
    obtain ⟨its, rv, p, hz⟩ := I.list hq
    obtain ⟨u, hu, ru⟩ := rv.get hx
    obtain ⟨f0, f1, f2, f3, f4, f5⟩ := hf it (by simp)
    refine wpAny_pyNext_list_item st p.isList (x := u) (by simpa using hu) fun h' st' sb => ?_
    have I1 : Inv X pins σ H { s with heap := h' } := I.turned (t' := s.toks) (fun b o hb e => (sb.2 b hb).trans e) f0 f1 f3 f4 f5
    obtain ⟨o, e, c, d⟩ := id st'
    exact ⟨u, rfl, go_of (s := { s with heap := h' }) e c d (by decide) ⟨x, H, I1, ru, ⟨rfl, fun ys hy => by rw [I.list_inj hy hq]; exact hx⟩, st', fun b hb => (hf b hb).1⟩⟩
  done := by
    intro X hP hw hK hc i pins s σ H E I hf st hg
    subst hP hw hK
    obtain ⟨xs, hq, hx⟩ := hg
    obtain ⟨its, rv, p, hz⟩ := I.list hq
    obtain ⟨f0, f1, f2, f3, f4, f5⟩ := hf it (by simp)
    have hl := rv.length
    exact wpAny_pyNext_list_end (I.ok.hd hc) st p.isList (by simp; omega) fun h' eb => ⟨rfl, I.turned (t' := s.toks) (fun b o hb e => eb b o hb e) f0 f1 f3 f4 f5⟩
  self := fun _ _ _ _ _ st h => wpAny_pyIter_listiter st h
theorem turn_range {P : Program} {w : World} {K : PySem.W.Frag} {tg : Expr} (it : Addr) (lo : Int) (n : Nat) : Turn P w K tg (Itr lo n) [it] it (fun i h => IsRangeIter h it (lo + (i : Nat) * 1) ((n : Int) - (i : Nat)) 1) where
  mem := by simp
  obj := fun i h st b hb => by
    have e : b = it := by simpa using hb
    subst e
    exact ⟨_, st, fun v z => by
      have z' : Data.fields _ = Data.cell v := z
      cases z'⟩
  keep := fun i h h' st k => k it (by simp) _ st
  item := by
    intro X hP hw hK hc i pins s σ H E I hf st hg
    subst hP hw hK
    obtain ⟨f0, f1, f2, f3, f4, f5⟩ := hf it (by simp)
    have W := Walks.range (prog := X.prog) (w := X.w) (I.ok.hd hc) it lo 1 n
    refine W.item i s _ _ hg st fun v h' tk hv st' kk => ?_
    obtain ⟨t, rfl⟩ := hv
    have I1 : Inv X pins σ H { s with heap := h', toks := tk } := I.turned (fun b o hb e => kk b o (by simpa using hb) e) f0 f1 f3 f4 f5
    refine ⟨_, rfl, go_of (s := { s with heap := h', toks := tk }) (n := "range_iterator") st' rfl rfl (by decide) ⟨.int (lo + i), H, I1, ⟨t, ?_⟩, ⟨rfl, rfl⟩, st', fun b hb => (hf b hb).1⟩⟩
    rw [Int.mul_one]
  done := by
    intro X hP hw hK hc i pins s σ H E I hf st hg
    subst hP hw hK
    obtain ⟨f0, f1, f2, f3, f4, f5⟩ := hf it (by simp)
    exact wpAny_pyNext_range_end (I.ok.hd hc) st (by have : n ≤ i := hg; omega) fun h' eb => ⟨rfl, I.turned (t' := s.toks) (fun b o hb e => eb b o hb e) f0 f1 f3 f4 f5⟩
  self := fun _ _ _ _ _ st h => wpAny_pyIter_rangeiter st h
end L2

namespace L2
open PySem PySem.Spec PyProof.Rows
section
variable {X : Cx} {tg : Expr}
def iList (K : PySem.W.Frag) (tl : TE) : TI := fun σ H R => tl σ H fun x H1 => ∃ a, x = .ref a ∧ (∃ xs, SqL K H1 a xs) ∧ R (Itl K a) H1
def iTup (K : PySem.W.Frag) (tl : TE) : TI := fun σ H R => tl σ H fun x H1 => ∃ a, x = .ref a ∧ (∃ xs, SqT K H1 a xs) ∧ R (Itt K a) H1
theorem pi_list {l : Expr} {tl : TE} (hl : PE X l tl) : PI X tg l (iList X.K tl) := by
  intro pins s σ H R I h
  refine thn (hl pins s σ H _ I h) fun v s1 ⟨x, H1, I1, r1, q1⟩ => ?_
  obtain ⟨a, e, ⟨xs, hq⟩, q⟩ := q1
  subst e
  cases r1
  obtain ⟨its, rv, p, hz⟩ := I1.list hq
  refine wpAny_pyIter_list p.isList ?_
  refine ⟨s1.heap.objs.size, [s1.heap.objs.size], _, _, H1, rfl, I1.kept (t' := s1.toks) fun b o e => Heap.get?_push_of_some _ e, turn_list a _, ⟨_, Heap.get?_push_size _ rfl, rfl, rfl⟩, fun b hb => ?_, q⟩
  have e : b = s1.heap.objs.size := by simpa using hb
  subst e
  exact I1.fpOk (Nat.le_refl _) (I1.hok.fresh (Nat.le_refl _))
theorem range_it {pins : List (Addr × Obj)} {σ : St} {H : Hp} {s : Shared} {R : It → Hp → Prop} {E : Value → Shared → Prop} {lo hi : Int} {t u v : Tok} {tk : Nat} (I : Inv X pins σ H s) (h1 : -(2 ^ 62) ≤ lo) (h2 : lo < 2 ^ 62) (h3 : -(2 ^ 62) ≤ hi) (h4 : hi < 2 ^ 62)
    (q : R (Itr lo (hi - lo).toNat) H) : wpAny (model X.prog X.w) X.A (pyIter (.ref s.heap.objs.size)) (PIE X pins σ tg R) E { s with heap := s.heap.push { cls := .type "range", data := .fields #[.int lo t, .int hi u, .int 1 v] }, toks := tk } := by
  refine wpAny_pyIter_range (IsRange.new ..) (small_one h1 h2 h3 h4) ?_
  have I1 : Inv X pins σ H { s with heap := s.heap.push { cls := .type "range", data := .fields #[.int lo t, .int hi u, .int 1 v] }, toks := tk } := I.kept fun b o e => Heap.get?_push_of_some _ e
  refine ⟨(s.heap.push { cls := .type "range", data := .fields #[.int lo t, .int hi u, .int 1 v] }).objs.size, [(s.heap.push { cls := .type "range", data := .fields #[.int lo t, .int hi u, .int 1 v] }).objs.size], _, _, H, rfl,
    I1.kept (t' := tk) fun b o e => Heap.get?_push_of_some _ e, turn_range _ lo (hi - lo).toNat, ?_, fun b hb => ?_, q⟩
  · have e1 : lo + ((0 : Nat) : Int) * 1 = lo := by simp
    have e2 : (((hi - lo).toNat : Nat) : Int) - ((0 : Nat) : Int) = Builtin.Range.rangeSize lo hi 1 := by rw [rangeSize_one]; split <;> omega
    show IsRangeIter _ _ (lo + ((0 : Nat) : Int) * 1) ((((hi - lo).toNat : Nat) : Int) - ((0 : Nat) : Int)) 1
    rw [e1, e2]
    exact Heap.get?_push_size _ rfl
  · have e : b = (s.heap.push { cls := .type "range", data := .fields #[.int lo t, .int hi u, .int 1 v] }).objs.size := by simpa using hb
    subst e
    exact I1.fpOk (Nat.le_refl _) (I1.hok.fresh (Nat.le_refl _))
def iRng1 (ta : TA) : TI := fun σ H R => ta σ H fun vs H1 => ∃ j : Int, vs = [.int j] ∧ -(2 ^ 62) ≤ j ∧ j < 2 ^ 62 ∧ R (Itr 0 j.toNat) H1
def iRng2 (ta : TA) : TI := fun σ H R => ta σ H fun vs H1 => ∃ i j : Int, vs = [.int i, .int j] ∧ (-(2 ^ 62) ≤ i ∧ i < 2 ^ 62 ∧ -(2 ^ 62) ≤ j ∧ j < 2 ^ 62) ∧ R (Itr i (j - i).toNat) H1
theorem pi_range1 {a : Expr} {ta : TA} {p pos : Pos} (hg : Gl X "range") (hm : X.mg "range" = none) (ha : PA X [a] ta) (hs : starEach [a] X.env = [(false, eval a X.env)] := by rfl) : PI X tg (.Call (.Name "range" p) [a] [] pos) (iRng1 ta) := by
  intro pins s σ H R I h
  refine Call_ (ld_blt I hg hm boot_range (PyProof.Rows.callWith_type1 (thn (ha pos pins s σ H _ I h) fun us s1 ⟨vs, H1, I1, r1, q1⟩ => ?_) hs rfl))
  obtain ⟨j, e, q1, q2, q⟩ := q1
  subst e
  cases r1 with
  | cons r rr =>
    cases rr
    obtain ⟨t, rfl⟩ := r
    exact call_range_1 (range_it I1 (by omega) (by omega) q1 q2 (by simpa using q))
def tFor (wi : TI) (g : TG) (tb : TS) : TS := fun D σ H => wi σ H fun J H1 => ∃ W : Nat → Nat → St → Hp → Prop, (∃ m, W 0 m σ H1) ∧ ∀ i m σ H, W i m σ H →
  (J.stop i H ∧ D.nx σ H) ∨ (J.go i H ∧ ∃ N : St → Hp → Prop, (∀ σ' H', N σ' H' → ∃ m', m' < m ∧ W (i + 1) m' σ' H') ∧ ∀ x H', J.yld i H x H' → g x σ H' fun σ2 H2 => tb { D with nx := N, ct := N, bk := D.nx } σ2 H2)
def pinsAt (fp : List Addr) (h : Heap) : List (Addr × Obj) := fp.filterMap fun b => (h.get? b).map fun o => (b, o)
theorem mem_pinsAt {fp : List Addr} {h : Heap} {b : Addr} {o : Obj} (hb : b ∈ fp) (e : h.get? b = some o) : (b, o) ∈ pinsAt fp h := List.mem_filterMap.mpr ⟨b, hb, by rw [e]; rfl⟩
theorem of_pinsAt {fp : List Addr} {h : Heap} {p : Addr × Obj} (hp : p ∈ pinsAt fp h) : p.1 ∈ fp ∧ h.get? p.1 = some p.2 := by
  obtain ⟨b, hb, e⟩ := List.mem_filterMap.mp hp
  cases q : h.get? b with
  | none => rw [q] at e; cases e
  | some o =>
    rw [q] at e
    have e' : (b, o) = p := Option.some.inj e
    subst e'
    exact ⟨hb, q⟩
theorem Inv.pinned {pins : List (Addr × Obj)} {σ : St} {H : Hp} {s : Shared} {fp : List Addr} (I : Inv X pins σ H s) (hf : ∀ b ∈ fp, FpOk X pins H b) (ho : ∀ b ∈ fp, ∃ o, s.heap.get? b = some o ∧ ∀ v, o.data ≠ .cell v) : Inv X (pins ++ pinsAt fp s.heap) σ H s :=
  I.pins_of fun p hp => (List.mem_append.mp hp).elim (fun z => I.pin p (List.mem_append_right _ z)) fun z => by
    obtain ⟨hb, e⟩ := of_pinsAt z
    obtain ⟨f0, f1, f2, _⟩ := hf p.1 hb
    obtain ⟨o, e', d⟩ := ho p.1 hb
    rw [e] at e'; cases e'
    exact ⟨e, f0, f1, f2, d⟩
theorem Inv.unpinned {pins pl : List (Addr × Obj)} {σ : St} {H : Hp} {s : Shared} (I : Inv X (pins ++ pl) σ H s) : Inv X pins σ H s := I.pins_of fun p hp => I.pin p (List.mem_append_right _ (List.mem_append_left _ hp))
theorem ps_for {iter : Expr} {body : List Stmt} {wi : TI} {g : TG} {tb : TS} {pos : Pos} (hp : PassesOwn (model X.prog X.w) X.A X.env X.xe) (hc : X.calm = true) (hi : PI X tg iter wi) (hg : PG X tg g) (hb : PSs X body tb)
    (hs : ∀ x, foldedSetIterable iter X.env x = pure x := by intro _; rfl) : PS X (.For tg iter body [] pos) (tFor wi g tb) := by
  intro pins s σ H D I h
  refine wpAny_For (thn (hi pins s σ H _ I h) fun v s1 h1 => thn h1 fun itv s2 h2 => ?_) hs
  obtain ⟨it, fp, tn, J, H2, e, I2, T, st2, f2, W, ⟨m0, w0⟩, turn⟩ := h2
  subst e
  -- what stays true of the iterator's objects through the loop
  have stat : ∀ {H' : Hp}, (∀ b ∈ fp, H' b = none) → ∀ b ∈ fp, FpOk X pins H' b := fun hn b hb => ⟨hn b hb, (f2 b hb).2⟩
  refine codeAny_forLoop_any (fun n s' => ∃ i σ' H', Inv X pins σ' H' s' ∧ tn i s'.heap ∧ (∀ b ∈ fp, H' b = none) ∧ W i n σ' H') ?_ m0 ⟨0, σ, H2, I2, st2, fun b hb => (f2 b hb).1, w0⟩
  rintro n s3 ⟨i, σ3, H3, I3, st3, fr3, w3⟩
  rcases turn i n σ3 H3 w3 with ⟨stop, qn⟩ | ⟨go, N, hN, step⟩
  · refine wpAny_passesOwn hp (thn (T.done X rfl rfl rfl hc i pins s3 σ3 H3 X.xe I3 (stat fr3) st3 stop) fun r s4 ⟨hr, I4⟩ => ?_)
    subst hr
    exact wpAny_execs_nil ⟨σ3, H3, I4, qn⟩
  · refine wpAny_passesOwn hp (thn (T.item X rfl rfl rfl hc i pins s3 σ3 H3 X.xe I3 (stat fr3) st3 go) fun r s4 ⟨u, hr, h4⟩ => ?_)
    subst hr
    refine wpAny_passesOwn hp (thn h4 fun _ s5 ⟨x, H5, I5, r5, y5, st5, fr5⟩ => ?_)
    have I5' := I5.pinned (stat fr5) (T.obj _ _ st5)
    refine wpAny_passesOwn hp (thn (hg _ s5 σ3 H5 x u _ I5' r5 (step x H5 y5)) fun _ s6 ⟨σ6, H6, I6, q6⟩ => ?_)
    refine wpAny_passesOwn hp (thn (hb _ s6 σ6 H6 _ I6 q6) fun f s7 q7 => ?_)
    have again : ∀ {σ7 : St} {H7 : Hp}, Inv X (pins ++ pinsAt fp s5.heap) σ7 H7 s7 → N σ7 H7 → ∃ m, m < n ∧ ∃ i σ' H', Inv X pins σ' H' s7 ∧ tn i s7.heap ∧ (∀ b ∈ fp, H' b = none) ∧ W i m σ' H' := fun {σ7 H7} I7 n7 => by
      obtain ⟨m', hm, w7⟩ := hN σ7 H7 n7
      refine ⟨m', hm, i + 1, σ7, H7, I7.unpinned, T.keep _ _ _ st5 fun b hb o e => (I7.pin (b, o) (List.mem_append_right _ (List.mem_append_right _ (mem_pinsAt hb e)))).1, fun b hb => ?_, w7⟩
      obtain ⟨o, e, d⟩ := T.obj _ _ st5 b hb
      exact (I7.pin (b, o) (List.mem_append_right _ (List.mem_append_right _ (mem_pinsAt hb e)))).2.1
    cases f with
    | next => obtain ⟨σ7, H7, I7, n7⟩ := q7; exact again I7 n7
    | cont => obtain ⟨σ7, H7, I7, n7⟩ := q7; exact again I7 n7
    | brk => obtain ⟨σ7, H7, I7, q7⟩ := q7; exact ⟨σ7, H7, I7.unpinned, q7⟩
    | ret v => obtain ⟨x7, σ7, H7, I7, r7, q7⟩ := q7; exact ⟨x7, σ7, H7, I7.unpinned, r7, q7⟩
end

theorem for_list {K : PySem.W.Frag} {a : Addr} {xs : List V} {g : TG} {tb : TS} {D : Ends} {σ : St} {H : Hp} (Pv : Nat → St → Hp → Prop) (h0 : Pv 0 σ H) (hl : ∀ i σ H, i ≤ xs.length → Pv i σ H → SqL K H a xs)
    (hs : ∀ i x σ H, xs[i]? = some x → Pv i σ H → g x σ H fun σ2 H2 => tb { D with nx := Pv (i + 1), ct := Pv (i + 1), bk := D.nx } σ2 H2) (hd : ∀ σ H, Pv xs.length σ H → D.nx σ H) :
    ∃ W : Nat → Nat → St → Hp → Prop, (∃ m, W 0 m σ H) ∧ ∀ i m σ H, W i m σ H →
      ((Itl K a).stop i H ∧ D.nx σ H) ∨ ((Itl K a).go i H ∧ ∃ N : St → Hp → Prop, (∀ σ' H', N σ' H' → ∃ m', m' < m ∧ W (i + 1) m' σ' H') ∧ ∀ x H', (Itl K a).yld i H x H' → g x σ H' fun σ2 H2 => tb { D with nx := N, ct := N, bk := D.nx } σ2 H2) := by
  refine ⟨fun i m σ H => m = xs.length - i ∧ i ≤ xs.length ∧ Pv i σ H, ⟨xs.length, by simp, Nat.zero_le _, h0⟩, ?_⟩
  rintro i m σ H ⟨rfl, hi, p⟩
  have q := hl i σ H hi p
  by_cases hlt : i < xs.length
  · refine .inr ⟨⟨xs, xs[i], q, by simp [hlt]⟩, Pv (i + 1), fun σ' H' p' => ⟨xs.length - (i + 1), by omega, rfl, hlt, p'⟩, fun x H' y => ?_⟩
    obtain ⟨e, y⟩ := y
    subst e
    exact hs i x σ _ (y xs q) p
  · have e : i = xs.length := by omega
    subst e
    exact .inl ⟨⟨xs, q, Nat.le_refl _⟩, hd σ H p⟩
theorem for_range {lo : Int} {n : Nat} {g : TG} {tb : TS} {D : Ends} {σ : St} {H : Hp} (Pv : Nat → St → Hp → Prop) (h0 : Pv 0 σ H)
    (hs : ∀ i σ H, i < n → Pv i σ H → g (.int (lo + i)) σ H fun σ2 H2 => tb { D with nx := Pv (i + 1), ct := Pv (i + 1), bk := D.nx } σ2 H2) (hd : ∀ σ H, Pv n σ H → D.nx σ H) :
    ∃ W : Nat → Nat → St → Hp → Prop, (∃ m, W 0 m σ H) ∧ ∀ i m σ H, W i m σ H →
      ((Itr lo n).stop i H ∧ D.nx σ H) ∨ ((Itr lo n).go i H ∧ ∃ N : St → Hp → Prop, (∀ σ' H', N σ' H' → ∃ m', m' < m ∧ W (i + 1) m' σ' H') ∧ ∀ x H', (Itr lo n).yld i H x H' → g x σ H' fun σ2 H2 => tb { D with nx := N, ct := N, bk := D.nx } σ2 H2) := by
  refine ⟨fun i m σ H => m = n - i ∧ i ≤ n ∧ Pv i σ H, ⟨n, by simp, Nat.zero_le _, h0⟩, ?_⟩
  rintro i m σ H ⟨rfl, hi, p⟩
  by_cases hlt : i < n
  · refine .inr ⟨hlt, Pv (i + 1), fun σ' H' p' => ⟨n - (i + 1), by omega, rfl, hlt, p'⟩, fun x H' y => ?_⟩
    obtain ⟨e, y⟩ := y
    subst e y
    exact hs i σ _ hlt p
  · have e : i = n := by omega
    subst e
    exact .inl ⟨Nat.le_refl _, hd σ H p⟩
end L2

namespace L2
open PySem PySem.Spec PyProof.Rows

abbrev R2 := V → V → Hp → VK → Prop
def OpR (X : Cx) (f : Value → Value → Sem Value) (r : R2) : Prop :=
  ∀ (pins : List (Addr × Obj)) (s : Shared) (σ : St) (H : Hp) (x y : V) (v u : Value) (Q : VK), Inv X pins σ H s → RelV x v → RelV y u → r x y H Q →
    wpAny (model X.prog X.w) X.A (f v u) (EP X pins σ Q) X.xe s
def UnR (X : Cx) (f : Value → Sem Value) (r : V → Hp → VK → Prop) : Prop :=
  ∀ (pins : List (Addr × Obj)) (s : Shared) (σ : St) (H : Hp) (x : V) (v : Value) (Q : VK), Inv X pins σ H s → RelV x v → r x H Q →
    wpAny (model X.prog X.w) X.A (f v) (EP X pins σ Q) X.xe s
def CallR (X : Cx) (f : Value) (r : List V → Hp → VK → Prop) : Prop :=
  ∀ (pins : List (Addr × Obj)) (s : Shared) (σ : St) (H : Hp) (xs : List V) (us : List Value) (Q : VK), Inv X pins σ H s → Vals xs us → r xs H Q →
    wpAny (model X.prog X.w) X.A (call f us) (EP X pins σ Q) X.xe s
def TruR (X : Cx) (r : V → Hp → (Bool → Hp → Prop) → Prop) : Prop :=
  ∀ (pins : List (Addr × Obj)) (s : Shared) (σ : St) (H : Hp) (x : V) (v : Value) (Q : Bool → Hp → Prop), Inv X pins σ H s → RelV x v → r x H Q →
    wpAny (model X.prog X.w) X.A (truthy v) (TP X pins σ Q) X.xe s

def tOp (r : R2) (ta tb : TE) : TE := fun σ H Q => ta σ H fun x H1 => tb σ H1 fun y H2 => r x y H2 Q
def tUn (r : V → Hp → VK → Prop) (ta : TE) : TE := fun σ H Q => ta σ H fun x H1 => r x H1 Q
def rI (C : Int → Int → Prop) (g : Int → Int → V) : R2 := fun x y H Q => ∃ i j, x = .int i ∧ y = .int j ∧ C i j ∧ Q (g i j) H
def rI0 (g : Int → Int → V) : R2 := fun x y H Q => ∃ i j, x = .int i ∧ y = .int j ∧ Q (g i j) H
def rU (g : Int → V) : V → Hp → VK → Prop := fun x H Q => ∃ i, x = .int i ∧ Q (g i) H

section
variable {X : Cx} {a b c : Expr} {ta tb tc : TE} {pos : Pos}

theorem binT (ha : PE X a ta) (hb : PE X b tb) {pins : List (Addr × Obj)} {s : Shared} {σ : St} {H : Hp} {R : V → V → Hp → Prop} (I : Inv X pins σ H s)
    (h : ta σ H fun x H1 => tb σ H1 fun y H2 => R x y H2) {Q : Value → Shared → Prop} {f : Value → Value → Sem Value}
    (hf : ∀ v u s2 x y H2, Inv X pins σ H2 s2 → RelV x v → RelV y u → R x y H2 → wpAny (model X.prog X.w) X.A (f v u) Q X.xe s2) :
    wpAny (model X.prog X.w) X.A (eval a X.env) (fun v s₁ => wpAny (model X.prog X.w) X.A (eval b X.env) (fun u s₂ => wpAny (model X.prog X.w) X.A (f v u) Q X.xe s₂) X.xe s₁) X.xe s := by
  refine thn (ha pins s σ H _ I h) fun v s1 ⟨x, H1, I1, r1, q1⟩ => ?_
  refine thn (hb pins s1 σ H1 _ I1 q1) fun u s2 ⟨y, H2, I2, r2, q2⟩ => ?_
  exact hf v u s2 x y H2 I2 r1 r2 q2

theorem pe_op {op : Operator} {r : R2} (ho : OpR X (binaryOp op) r) (ha : PE X a ta) (hb : PE X b tb) : PE X (.BinOp a op b pos) (tOp r ta tb) := by
  intro pins s σ H Q I h
  exact wpAny_BinOp (binT ha hb I h fun v u s2 x y H2 I2 rx ry q => ho pins s2 σ H2 x y v u Q I2 rx ry q)
theorem pe_un {op : UnaryOp} {r : V → Hp → VK → Prop} (ho : UnR X (unaryOp op) r) (ha : PE X a ta) : PE X (.UnaryOp op a pos) (tUn r ta) := by
  intro pins s σ H Q I h
  exact UnaryOp_ (thn (ha pins s σ H _ I h) fun v s1 ⟨x, H1, I1, r1, q1⟩ => ho pins s1 σ H1 x v Q I1 r1 q1)
theorem opI {f : Value → Value → Sem Value} {C : Int → Int → Prop} {g : Int → Int → Int}
    (rule : ∀ (i j : Int) (t u : Tok) (s : Shared) (Q : Value → Shared → Prop) (E : Value → Shared → Prop), C i j → Q (.int (g i j) s.toks) { s with toks := s.toks + 1 } → wpAny (model X.prog X.w) X.A (f (.int i t) (.int j u)) Q E s) :
    OpR X f (rI C fun i j => .int (g i j)) := by
  intro pins s σ H x y v u Q I rx ry h
  obtain ⟨i, j, rfl, rfl, hc, q⟩ := h
  obtain ⟨t, rfl⟩ := rx
  obtain ⟨t', rfl⟩ := ry
  exact rule i j t t' s _ _ hc ⟨.int (g i j), H, I.tok _, ⟨_, rfl⟩, q⟩
theorem opI0 {f : Value → Value → Sem Value} {g : Int → Int → Int}
    (rule : ∀ (i j : Int) (t u : Tok) (s : Shared) (Q : Value → Shared → Prop) (E : Value → Shared → Prop), Q (.int (g i j) s.toks) { s with toks := s.toks + 1 } → wpAny (model X.prog X.w) X.A (f (.int i t) (.int j u)) Q E s) :
    OpR X f (rI0 fun i j => .int (g i j)) := by
  intro pins s σ H x y v u Q I rx ry h
  obtain ⟨i, j, rfl, rfl, q⟩ := h
  obtain ⟨t, rfl⟩ := rx
  obtain ⟨t', rfl⟩ := ry
  exact rule i j t t' s _ _ ⟨.int (g i j), H, I.tok _, ⟨_, rfl⟩, q⟩
theorem opB0 {f : Value → Value → Sem Value} {g : Int → Int → Bool}
    (rule : ∀ (i j : Int) (t u : Tok) (s : Shared) (Q : Value → Shared → Prop) (E : Value → Shared → Prop), Q (.bool (g i j)) s → wpAny (model X.prog X.w) X.A (f (.int i t) (.int j u)) Q E s) :
    OpR X f (rI0 fun i j => .bl (g i j)) := by
  intro pins s σ H x y v u Q I rx ry h
  obtain ⟨i, j, rfl, rfl, q⟩ := h
  obtain ⟨t, rfl⟩ := rx
  obtain ⟨t', rfl⟩ := ry
  exact rule i j t t' s _ _ ⟨.bl (g i j), H, I, rfl, q⟩

def CDiv (i j : Int) : Prop := 0 < j ∧ j < 1073741824
def CDivN (i j : Int) : Prop := j ≠ 0 ∧ j.natAbs < 1073741824
def CPow (i j : Int) : Prop := 0 ≤ j ∧ j ≤ 1000000 ∧ i.natAbs < 2 ^ 64
def CMul (i j : Int) : Prop := (-(2 ^ 64) < i ∧ i < 2 ^ 64) ∨ (-(2 ^ 64) < j ∧ j < 2 ^ 64)
theorem CMul.ok {i j : Int} (h : CMul i j) : IntMulOk i j := by
  rcases h with ⟨h1, h2⟩ | ⟨h1, h2⟩
  · exact .of_left (intBits_le_64 h1 h2)
  · exact .of_right (intBits_le_64 h1 h2)
theorem op_add : OpR X (binaryOp .Add) (rI0 fun i j => .int (i + j)) := opI0 fun _ _ _ _ _ _ _ q => add_int q
theorem op_sub : OpR X (binaryOp .Sub) (rI0 fun i j => .int (i - j)) := opI0 fun _ _ _ _ _ _ _ q => sub_int q
theorem op_mul : OpR X (binaryOp .Mult) (rI CMul fun i j => .int (i * j)) := opI fun _ _ _ _ _ _ _ hc q => mul_int q hc.ok
theorem op_fdiv : OpR X (binaryOp .FloorDiv) (rI CDiv fun i j => .int (i / j)) := opI fun i j _ _ _ _ _ hc q => by
  have h1 : (0 : Int) < j := hc.1
  have h2 : j < 1073741824 := hc.2
  exact floordiv_int (by omega) (by rw [Int.fdiv_eq_ediv_of_nonneg i (by omega)]; exact q) (.inl (PyProof.noPylong_small (by omega)))
theorem op_mod : OpR X (binaryOp .Mod) (rI (fun _ j => 0 < j) fun i j => .int (i % j)) := opI fun i j _ _ _ _ _ hc q => by
  have h1 : (0 : Int) < j := hc
  exact mod_int' (by omega) (by rw [Int.fmod_eq_emod_of_nonneg i (by omega)]; exact q)
theorem op_pow : OpR X (binaryOp .Pow) (rI CPow fun i j => .int (i ^ j.toNat)) := opI fun _ _ _ _ _ _ _ hc q => pow_int_small hc.1 hc.2.1 hc.2.2 q
theorem op_xor : OpR X (binaryOp .BitXor) (rI0 fun i j => .int (Builtin.bitXor i j)) := opI0 fun _ _ _ _ _ _ _ q => xor_int q

theorem unI {f : Value → Sem Value} {g : Int → Int}
    (rule : ∀ (i : Int) (t : Tok) (s : Shared) (Q : Value → Shared → Prop) (E : Value → Shared → Prop), Q (.int (g i) s.toks) { s with toks := s.toks + 1 } → wpAny (model X.prog X.w) X.A (f (.int i t)) Q E s) :
    UnR X f (rU fun i => .int (g i)) := by
  intro pins s σ H x v Q I rx h
  obtain ⟨i, rfl, q⟩ := h
  obtain ⟨t, rfl⟩ := rx
  exact rule i t s _ _ ⟨.int (g i), H, I.tok _, ⟨_, rfl⟩, q⟩
theorem un_neg : UnR X (unaryOp .USub) (rU fun i => .int (-i)) := unI fun _ _ _ _ _ q => neg_int q
end

def scal : V → V → Bool
  | .non, .non => true | .non, .int _ => true | .int _, .non => true | .non, .bl _ => true | .bl _, .non => true | .non, .str _ => true | .str _, .non => true
  | .int _, .int _ => true | .bl _, .bl _ => true | .str _, .str _ => true | .byt _, .byt _ => true
  | .int _, .str _ => true | .str _, .int _ => true | .bl _, .str _ => true | .str _, .bl _ => true
  | _, _ => false
def rEq : R2 := fun x y H Q => scal x y = true ∧ Q (.bl (decide (x = y))) H
def rNe : R2 := fun x y H Q => scal x y = true ∧ Q (.bl (!decide (x = y))) H

theorem dec_int {i j : Int} : decide (V.int i = V.int j) = (i == j) := by
  rw [Bool.eq_iff_iff]
  simp
theorem dec_bl {i j : Bool} : decide (V.bl i = V.bl j) = (i == j) := by
  rw [Bool.eq_iff_iff]
  simp
theorem dec_str {i j : Str} : decide (V.str i = V.str j) = (i == j) := by
  rw [Bool.eq_iff_iff]
  simp
theorem dec_byt {i j : Array UInt8} : decide (V.byt i = V.byt j) = (i.toList == j.toList) := by
  rw [Bool.eq_iff_iff]
  cases i
  cases j
  simp

section
variable {X : Cx} {a b c : Expr} {ta tb tc : TE} {pos : Pos}
theorem fin_bl {pins : List (Addr × Obj)} {σ : St} {H : Hp} {s : Shared} {Q : VK} {k k' : Bool} (I : Inv X pins σ H s) (q : Q (.bl k) H) (e : k = k') : EP X pins σ Q (.bool k') s := by
  subst e
  exact ⟨.bl k, H, I, rfl, q⟩
theorem op_eq : OpR X (compareOp .Eq) rEq := by
  intro pins s σ H x y v u Q I rx ry h
  obtain ⟨hs, q⟩ := h
  cases x with
  | non =>
    cases rx
    cases y with
    | non => cases ry; exact PySem.EqNone.eq_none_none (fin_bl I q (by simp))
    | bl j => cases ry; exact PySem.EqNone.eq_none_bool (fin_bl I q (by simp))
    | int j => obtain ⟨t', rfl⟩ := ry; exact PySem.EqNone.eq_none_int (fin_bl I q (by simp))
    | str j => obtain ⟨t', rfl⟩ := ry; exact PySem.EqNone.eq_none_str (fin_bl I q (by simp))
    | _ => exact absurd (show false = true from hs) Bool.false_ne_true
  | bl i =>
    cases rx
    cases y with
    | non => cases ry; exact PySem.EqNone.eq_bool_none (fin_bl I q (by simp))
    | bl j => cases ry; exact eq_bool (fin_bl I q dec_bl)
    | str j => obtain ⟨t', rfl⟩ := ry; exact PySem.EqMixed.eq_bool_str (fin_bl I q (by simp))
    | _ => exact absurd (show false = true from hs) Bool.false_ne_true
  | int i =>
    obtain ⟨t, rfl⟩ := rx
    cases y with
    | non => cases ry; exact PySem.EqNone.eq_int_none (fin_bl I q (by simp))
    | int j => obtain ⟨t', rfl⟩ := ry; exact eq_int (fin_bl I q dec_int)
    | str j => obtain ⟨t', rfl⟩ := ry; exact PySem.EqMixed.eq_int_str (fin_bl I q (by simp))
    | _ => exact absurd (show false = true from hs) Bool.false_ne_true
  | str i =>
    obtain ⟨t, rfl⟩ := rx
    cases y with
    | non => cases ry; exact PySem.EqNone.eq_str_none (fin_bl I q (by simp))
    | bl j => cases ry; exact PySem.EqMixed.eq_str_bool (fin_bl I q (by simp))
    | int j => obtain ⟨t', rfl⟩ := ry; exact PySem.EqMixed.eq_str_int (fin_bl I q (by simp))
    | str j => obtain ⟨t', rfl⟩ := ry; exact eq_str (fin_bl I q dec_str)
    | _ => exact absurd (show false = true from hs) Bool.false_ne_true
  | byt i =>
    obtain ⟨t, rfl⟩ := rx
    cases y with
    | byt j => obtain ⟨t', rfl⟩ := ry; exact PySem.W.eq_bytes (fin_bl I q dec_byt)
    | _ => exact absurd (show false = true from hs) Bool.false_ne_true
  | _ => cases y <;> exact absurd (show false = true from hs) Bool.false_ne_true
theorem op_ne : OpR X (compareOp .NotEq) rNe := by
  intro pins s σ H x y v u Q I rx ry h
  obtain ⟨hs, q⟩ := h
  cases x with
  | non =>
    cases rx
    cases y with
    | non => cases ry; exact PySem.EqNone.ne_none_none (fin_bl I q (by simp))
    | bl j => cases ry; exact PySem.EqNone.ne_none_bool (fin_bl I q (by simp))
    | int j => obtain ⟨t', rfl⟩ := ry; exact PySem.EqNone.ne_none_int (fin_bl I q (by simp))
    | str j => obtain ⟨t', rfl⟩ := ry; exact PySem.EqNone.ne_none_str (fin_bl I q (by simp))
    | _ => exact absurd (show false = true from hs) Bool.false_ne_true
  | bl i =>
    cases rx
    cases y with
    | non => cases ry; exact PySem.EqNone.ne_bool_none (fin_bl I q (by simp))
    | bl j => cases ry; exact ne_bool (fin_bl I q (congrArg not dec_bl))
    | str j => obtain ⟨t', rfl⟩ := ry; exact PySem.EqMixed.ne_bool_str (fin_bl I q (by simp))
    | _ => exact absurd (show false = true from hs) Bool.false_ne_true
  | int i =>
    obtain ⟨t, rfl⟩ := rx
    cases y with
    | non => cases ry; exact PySem.EqNone.ne_int_none (fin_bl I q (by simp))
    | int j => obtain ⟨t', rfl⟩ := ry; exact ne_int (fin_bl I q (congrArg not dec_int))
    | str j => obtain ⟨t', rfl⟩ := ry; exact PySem.EqMixed.ne_int_str (fin_bl I q (by simp))
    | _ => exact absurd (show false = true from hs) Bool.false_ne_true
  | str i =>
    obtain ⟨t, rfl⟩ := rx
    cases y with
    | non => cases ry; exact PySem.EqNone.ne_str_none (fin_bl I q (by simp))
    | bl j => cases ry; exact PySem.EqMixed.ne_str_bool (fin_bl I q (by simp))
    | int j => obtain ⟨t', rfl⟩ := ry; exact PySem.EqMixed.ne_str_int (fin_bl I q (by simp))
    | str j => obtain ⟨t', rfl⟩ := ry; exact ne_str (fin_bl I q (congrArg not dec_str))
    | _ => exact absurd (show false = true from hs) Bool.false_ne_true
  | byt i =>
    obtain ⟨t, rfl⟩ := rx
    cases y with
    | byt j => obtain ⟨t', rfl⟩ := ry; exact PySem.W.ne_bytes (fin_bl I q (congrArg not dec_byt))
    | _ => exact absurd (show false = true from hs) Bool.false_ne_true
  | _ => cases y <;> exact absurd (show false = true from hs) Bool.false_ne_true

theorem op_lt : OpR X (compareOp .Lt) (rI0 fun i j => .bl (decide (i < j))) := opB0 fun _ _ _ _ _ _ _ q => lt_int q
theorem op_gt : OpR X (compareOp .Gt) (rI0 fun i j => .bl (decide (j < i))) := opB0 fun _ _ _ _ _ _ _ q => gt_int q
theorem op_ge : OpR X (compareOp .GtE) (rI0 fun i j => .bl (decide (j ≤ i))) := opB0 fun _ _ _ _ _ _ _ q => ge_int q
def isObj : HO → Bool
  | .lst _ => true
  | .ins _ _ _ => true
  | _ => false
theorem nomark (b : Expr) {op : CmpOp} (h : op ≠ .In := by decide) (h2 : op ≠ .NotIn := by decide) : behindInMarks op b = false := by
  have e1 : (op == CmpOp.In) = false := by cases op <;> first | rfl | exact absurd rfl h
  have e2 : (op == CmpOp.NotIn) = false := by cases op <;> first | rfl | exact absurd rfl h2
  cases b <;> simp [behindInMarks, e1, e2]
theorem pe_cmpR {op : CmpOp} {r : R2} (ho : OpR X (compareOp op) r) (ha : PE X a ta) (hb : PE X b tb) (hm : behindInMarks op b = false) : PE X (.Compare a [op] [b] pos) (tOp r ta tb) := by
  intro pins s σ H Q I h
  exact wpAny_Compare1 (binT ha hb I h fun v u s2 x y H2 I2 rx ry q => ho pins s2 σ H2 x y v u Q I2 rx ry q) hm
def tTest (t : TE) : TT := fun σ H Q => t σ H fun x H' => ∃ k, x = .bl k ∧ Q k H'
theorem pt_cmpR {op : CmpOp} {r : R2} (ho : OpR X (compareOp op) r) (ha : PE X a ta) (hb : PE X b tb) (hm : behindInMarks op b = false) : PT X (.Compare a [op] [b] pos) (tTest (tOp r ta tb)) := by
  intro pins s σ H Q I h
  refine wpAny_isTrue_Compare1 (thn (ha pins s σ H _ I h) fun v s1 ⟨x, H1, I1, r1, q1⟩ => thn (hb pins s1 σ H1 _ I1 q1) fun u s2 ⟨y, H2, I2, r2, q2⟩ =>
    thn (ho pins s2 σ H2 x y v u _ I2 r1 r2 q2) fun c s3 ⟨z, H3, I3, r3, k, e, q3⟩ => ?_) hm
  subst e
  cases r3
  exact wpAny_truthy_bool ⟨H3, I3, q3⟩
def tChain (r r' : R2) (ta tb tc : TE) : TE := fun σ H Q => ta σ H fun x H1 => tb σ H1 fun y H2 => r x y H2 fun z H3 => ∃ k, z = .bl k ∧
  (if k = true then tc σ H3 fun w' H4 => r' y w' H4 Q else Q (.bl false) H3)
def TruV (K : PySem.W.Frag) (x : V) (H : Hp) (k : Bool) : Prop :=
  match x with
  | .non => k = false
  | .bl b => k = b
  | .int i => k = (i != 0)
  | .str y => y.length ≤ sizeLine ∧ k = ((y.length : Int) != 0)
  | .byt y => y.size ≤ sizeLine ∧ k = ((y.size : Int) != 0)
  | .ref p => (∃ xs, SqL K H p xs ∧ k = !xs.isEmpty) ∨ (∃ xs, SqT K H p xs ∧ k = !xs.isEmpty) ∨ ∃ kvs, H p = some (.dK kvs) ∧ k = !kvs.isEmpty
  | _ => False
theorem isEmpty_kv {κ : Type} {kvs : List (κ × V)} {vs : List (κ × Value)} (r : KV kvs vs) : (!vs.isEmpty) = !kvs.isEmpty := by
  cases r <;> rfl
theorem isEmpty_of {xs : List V} {its : List Value} (r : Vals xs its) : (!its.toArray.isEmpty) = !xs.isEmpty := by
  cases r <;> simp
theorem line63 : (sizeLine : Nat) < 2 ^ 63 := by rw [sizeLine_eq]; decide
theorem tru_ok : TruR X (fun x H Q => ∃ k, TruV X.K x H k ∧ Q k H) := by
  intro pins s σ H x v Q I rx h
  obtain ⟨k, e, q⟩ := h
  have hl := line63
  have hs : sizeLine = 16777216 := sizeLine_eq
  cases x with
  | non =>
    cases rx
    have e' : k = false := e
    subst e'
    exact truthy_none ⟨H, I, q⟩
  | bl b =>
    cases rx
    have e' : k = b := e
    subst e'
    exact wpAny_truthy_bool ⟨H, I, q⟩
  | int i =>
    obtain ⟨t, rfl⟩ := rx
    have e' : k = (i != 0) := e
    subst e'
    exact PySem.P.truthy_int ⟨H, I, q⟩
  | str y =>
    obtain ⟨t, rfl⟩ := rx
    obtain ⟨hy, e'⟩ : y.length ≤ sizeLine ∧ k = ((y.length : Int) != 0) := e
    subst e'
    exact PySem.P.truthy_str (by omega) ⟨H, I.tok _, q⟩
  | byt y =>
    obtain ⟨t, rfl⟩ := rx
    obtain ⟨hy, e'⟩ : y.size ≤ sizeLine ∧ k = ((y.size : Int) != 0) := e
    subst e'
    exact PySem.W.truthy_bytes (by omega) ⟨H, I.tok _, q⟩
  | ref p =>
    cases rx
    have e' : (∃ xs, SqL X.K H p xs ∧ k = !xs.isEmpty) ∨ (∃ xs, SqT X.K H p xs ∧ k = !xs.isEmpty) ∨ ∃ kvs, H p = some (.dK kvs) ∧ k = !kvs.isEmpty := e
    rcases e' with ⟨xs, hx, e'⟩ | ⟨xs, hx, e'⟩ | ⟨kvs, hx, e'⟩
    · subst e'
      obtain ⟨its, r, pl, hz⟩ := I.list hx
      have hlen := r.length
      exact wpAny_truthy_list pl.isList (by simp only [List.size_toArray]; omega) ⟨H, I.tok _, by rw [isEmpty_of r]; exact q⟩
    · subst e'
      obtain ⟨its, r, pl, hz⟩ := I.tuple hx
      have hlen := r.length
      exact truthy_tuple pl (by simp only [List.size_toArray]; omega) ⟨H, I.tok _, by rw [isEmpty_of r]; exact q⟩
    · subst e'
      obtain ⟨hz, hS, vs, r, m⟩ : kvs.length ≤ sizeLine ∧ (p == sysModules) = false ∧ ∃ vs, KV kvs vs ∧ s.heap.DictOf (mixKind X.prog X.w) p vs := I.hok p _ hx
      have hlen : kvs.length = vs.length := Paired.length r
      exact wpAny_truthy_dict hS m (by omega) ⟨H, I.tok _, by rw [isEmpty_kv r]; exact q⟩
  | _ => exact (show False from e).elim
theorem pt_truth (ha : PE X a ta) (he : ∀ whole, isTrue a X.env whole = (do let v ← whole; standAt a.pos; holding [v] (truthy v))) :
    PT X a (fun σ H Q => ta σ H fun x H' => ∃ k, TruV X.K x H' k ∧ Q k H') := by
  intro pins s σ H Q I h
  exact isTrue_plain (thn (ha pins s σ H _ I h) fun v s1 ⟨x, H1, I1, r1, q1⟩ => tru_ok pins s1 σ H1 x v Q I1 r1 q1) (he _)

def PlainIxT (b : Expr) : Prop := ∀ o i, subscripted b false o i = operate [o, i] (getItem o i)
theorem vals1 {x : V} {us : List Value} (r : Vals [x] us) : ∃ u, us = [u] ∧ RelV x u := by
  cases r with
  | cons r1 r2 => cases r2; exact ⟨_, rfl, r1⟩
theorem vals2 {x y : V} {us : List Value} (r : Vals [x, y] us) : ∃ u w', us = [u, w'] ∧ RelV x u ∧ RelV y w' := by
  cases r with
  | cons r1 r2 =>
    cases r2 with
    | cons r3 r4 => cases r4; exact ⟨_, _, rfl, r1, r3⟩
theorem call_max2 (hc : X.calm = true) : CallR X (.builtin "max") (fun xs H Q => ∃ i j, xs = [.int i, .int j] ∧ Q (.int (if j > i then j else i)) H) := by
  intro pins s σ H xs us Q I r h
  obtain ⟨i, j, rfl, q⟩ := h
  obtain ⟨u, w', rfl, ⟨t, rfl⟩, ⟨t', rfl⟩⟩ := vals2 r
  refine max_two_ints (I.ok.hd hc) fun h' tk k => ⟨_, H, I.kept k, ?_, q⟩
  by_cases hj : j > i
  · rw [if_pos hj, if_pos hj]; exact ⟨_, rfl⟩
  · rw [if_neg hj, if_neg hj]; exact ⟨_, rfl⟩
theorem call_int1 : CallR X (.type "int") (fun xs H Q => (∃ i, xs = [.int i] ∧ Q (.int i) H) ∨ ∃ k, xs = [.bl k] ∧ Q (.int (if k then 1 else 0)) H) := by
  intro pins s σ H xs us Q I r h
  rcases h with ⟨i, rfl, q⟩ | ⟨k, rfl, q⟩
  · obtain ⟨u, rfl, t, rfl⟩ := vals1 r
    exact call_int_int ⟨.int i, H, I, ⟨_, rfl⟩, q⟩
  · obtain ⟨u, rfl, r1⟩ := vals1 r
    cases r1
    exact call_int_bool ⟨.int (if k then 1 else 0), H, I.tok _, ⟨_, rfl⟩, q⟩
def LenV (K : PySem.W.Frag) (x : V) (H : Hp) (n : Nat) : Prop :=
  match x with
  | .str y => y.length ≤ sizeLine ∧ n = y.length
  | .byt y => y.size ≤ sizeLine ∧ n = y.size
  | .ref p => (∃ xs, SqL K H p xs ∧ n = xs.length) ∨ ∃ xs, SqT K H p xs ∧ n = xs.length
  | _ => False
end
end L2

namespace L2
open PySem PySem.Spec PyProof.Rows

structure ObjM (h : Heap) (x dx C : Addr) (mA : Str → Option Value) : Prop where
  obj : h.get? x = some (PySem.W.instObj C dx)
  ns : h.Ns1 dx mA
  ne : dx ≠ x

theorem lookIn_ns {h : Heap} {dx : Addr} {mA : Str → Option Value} (n : h.Ns1 dx mA) : ∃ od, h.get? dx = some od ∧ ∀ name, PySem.W.lookIn name od = some (mA name) := by
  obtain ⟨o, es, ep, ho, hd, hk, _, hm⟩ := n
  refine ⟨o, ho, fun name => ?_⟩
  have e := hm name
  unfold nsFind findBy at e
  rw [← Array.find?_toList] at e
  unfold PySem.W.lookIn
  rw [hd]
  dsimp only
  split
  · rename_i y q
    rw [q] at e
    exact congrArg some e
  · rename_i q
    rw [q] at e
    have a : es.toList.any (·.refKey) = false := by
      rw [List.any_eq_false]
      intro y hy
      obtain ⟨z, t, hkey⟩ := hk y (Array.mem_toList_iff.mp hy)
      simp [DictEntry.refKey, hkey]
    have a' : ¬ es.toList.any (·.refKey) = true := by rw [a]; exact Bool.false_ne_true
    rw [if_neg a']
    exact congrArg some e

theorem ObjM.look {h : Heap} {x dx C : Addr} {mA : Str → Option Value} (I : ObjM h x dx C mA) : ∃ od, PySem.W.InstAt h x (PySem.W.instObj C dx) C (some od) ∧ ∀ name, PySem.W.lookIn name od = some (mA name) :=
  let ⟨od, ho, hl⟩ := lookIn_ns I.ns
  ⟨od, ⟨I.obj, rfl, rfl, ho⟩, hl⟩

section
variable {prog : Program} {w : World} {A : Around} {E : Value → Shared → Prop} {s : Shared} {K : PySem.W.Frag} {x dx C f : Addr} {mA : Str → Option Value} {name : Str} {v : Value}

end

def putF (f : Str) (v : V) : List (Str × V) → List (Str × V)
  | [] => [(f, v)]
  | (g, x) :: r => if g = f then (g, v) :: r else (g, x) :: putF f v r
theorem RelO.some_of {v : V} {o : Option Value} (r : RelO (some v) o) : ∃ u, o = some u ∧ RelV v u := by
  cases o with
  | none => exact (show False from r).elim
  | some u => exact ⟨u, rfl, r⟩
section
variable {P : Program} {w : World} {H H' : Hp} {h h' : Heap} {a C dx : Addr} {fs fs' : List (Str × V)}
theorem ins_get (hok : HOk P w H h) (e : H a = some (.ins C dx fs)) : ∃ mA, ObjM h a dx C mA ∧ (∀ f, RelO (fs.lookup f) (mA f)) ∧ PySem.Within mA (fs.map (·.1)) ∧ fs.length ≤ 1000 ∧ H dx = some (.own a) := by
  obtain ⟨d, z, ne, ob, mA, n, r, q⟩ := (show ObjOk P w H h a (.ins C dx fs) from hok a _ e)
  exact ⟨mA, ⟨ob, n, ne⟩, r, q, z, d⟩
end

structure Cls (K : PySem.W.Frag) (C : Addr) : Prop where
  pg : PySem.W.plainGet K C Str.empty = true
  hd : PySem.W.hasDictIn K C = true
  po : PySem.W.plainOver K C = true
  sa : PySem.W.findIn K (.ref C) "__setattr__" = some (some (.builtin "object.__setattr__"))
theorem Cls.get {K : PySem.W.Frag} {C : Addr} (c : Cls K C) (f : Str) : PySem.W.plainGet K C f = true := c.pg
def NoAttr (K : PySem.W.Frag) (C : Addr) (f : Str) : Prop := PySem.W.findIn K (.ref C) f = some none
structure Con (K : PySem.W.Frag) (C : Addr) (f : Str) (v : V) (u : Value) : Prop where
  at_ : PySem.W.findIn K (.ref C) f = some (some u)
  rel : RelV v u
  get : PySem.W.specialIn K u "__get__" = some none
  cp : PySem.W.copiedNames.contains f = false
structure Meth (K : PySem.W.Frag) (C : Addr) (m : Str) (f : Addr) : Prop where
  at_ : PySem.W.findIn K (.ref C) m = some (some (.ref f))
  fn : PySem.W.isFn K (.ref f) = true
  kp : PySem.W.keepIn K (.ref f) = true

section
variable {X : Cx} {pins : List (Addr × Obj)} {σ : St} {H : Hp} {s : Shared} {a C dx : Addr} {fs : List (Str × V)} {f : Str} {v : V} {A : Around} {E : Value → Shared → Prop}

end

def tFld (K : PySem.W.Frag) (ta : TE) (f : Str) : TE := fun σ H Q => ta σ H fun x H1 => ∃ a C dx fs v, x = .ref a ∧ H1 a = some (.ins C dx fs) ∧ Cls K C ∧ NoAttr K C f ∧ fs.lookup f = some v ∧ Q v H1
def tCon (K : PySem.W.Frag) (ta : TE) (f : Str) : TE := fun σ H Q => ta σ H fun x H1 => ∃ a C dx fs v u, x = .ref a ∧ H1 a = some (.ins C dx fs) ∧ Cls K C ∧ Con K C f v u ∧ fs.lookup f = none ∧ Q v H1
def sFld (K : PySem.W.Frag) (ta tv : TE) (f : Str) : TS := fun D σ H => tv σ H fun y H1 => ta σ H1 fun x H2 => ∃ a C dx fs, x = .ref a ∧ H2 a = some (.ins C dx fs) ∧ Cls K C ∧ NoAttr K C f ∧ fs.length < 1000 ∧
  D.nx σ (upd H2 a (.ins C dx (putF f y fs)))
def InOp (X : Cx) (op : Operator) (rd : V → V → Hp → VK → Prop) : Prop :=
  ∀ (pins : List (Addr × Obj)) (s : Shared) (σ : St) (H : Hp) (x y : V) (u v : Value) (Q : VK), Inv X pins σ H s → RelV x u → RelV y v → rd x y H Q → wpAny (model X.prog X.w) X.A (inplaceOp op u v) (EP X pins σ Q) X.xe s
def sFldAug (K : PySem.W.Frag) (ta tv : TE) (rd : V → V → Hp → VK → Prop) (f : Str) : TS := fun D σ H => ta σ H fun x H1 => ∃ a C dx fs v, x = .ref a ∧ H1 a = some (.ins C dx fs) ∧ Cls K C ∧ NoAttr K C f ∧ fs.lookup f = some v ∧
  tv σ H1 fun y H2 => rd v y H2 fun z H3 => ∃ dx' fs', H3 a = some (.ins C dx' fs') ∧ fs'.length < 1000 ∧ D.nx σ (upd H3 a (.ins C dx' (putF f z fs')))

section
variable {X : Cx} {o e value : Expr} {f : Str} {pos pos' tpos : Pos} {ta tv : TE}
def rAdd : V → V → Hp → VK → Prop := fun x y H Q => ∃ i j, x = .int i ∧ y = .int j ∧ Q (.int (i + j)) H
def rSub : V → V → Hp → VK → Prop := fun x y H Q => ∃ i j, x = .int i ∧ y = .int j ∧ Q (.int (i - j)) H
end

section
variable {X : Cx} {pins : List (Addr × Obj)} {σ : St} {H : Hp} {s : Shared} {A : Around} {E : Value → Shared → Prop} {Q : Value → Shared → Prop} {c : Value} {b : Bool}
inductive TyOf (K : PySem.W.Frag) (H : Hp) : V → Value → Prop where
  | non : TyOf K H .non (.type "NoneType")
  | bl (x : Bool) : TyOf K H (.bl x) (.type "bool")
  | int (i : Int) : TyOf K H (.int i) (.type "int")
  | str (x : Str) : TyOf K H (.str x) (.type "str")
  | flt (x : UInt64) : TyOf K H (.flt x) (.type "float")
  | lst {a : Addr} {xs : List V} (e : H a = some (.lst xs)) : TyOf K H (.ref a) (.type "list")
  | frz {a : Addr} {o : Obj} {xs : List V} (e : H a = some (.frz o (.lst xs))) : TyOf K H (.ref a) (.type "list")
  | tup {a : Addr} {xs : List V} (e : H a = some (.tup xs)) : TyOf K H (.ref a) (.type "tuple")
  | dK {a : Addr} {kvs : List (Key × V)} (e : H a = some (.dK kvs)) : TyOf K H (.ref a) (.type "dict")
  | dT {a : Addr} {kvs : List (List Key × V)} (e : H a = some (.dT kvs)) : TyOf K H (.ref a) (.type "dict")
  | ins {a C dx : Addr} {fs : List (Str × V)} (e : H a = some (.ins C dx fs)) (cl : Cls K C) (ha : PySem.W.findIn K (.ref C) "__class__" = some (some (.builtin "object.__class__")))
      (hn : PySem.W.specialIn K (.builtin "object.__class__") "__get__" = some (some (.builtin "getset_descriptor.__get__"))) (htk : PySem.W.takesIn K (.builtin "object.__class__") = some true)
      (hm : PySem.W.mroIn K C (.type "object") = some true) : TyOf K H (.ref a) (.ref C)
theorem isinst_ok {x : V} {u t : Value} (I : Inv X pins σ H s) (rx : RelV x u) (ty : TyOf X.K H x t) (e : PySem.W.kitOne X.K t c = some b) (h : ∀ tk, Q (.bool b) { s with toks := tk }) :
    wpAny (model X.prog X.w) A (call (.builtin "isinstance") [u, c]) Q E s := by
  cases ty with
  | non => cases (show u = Value.none from rx); exact PySem.W.kia_one PySem.W.kitx_none I.kIn True.intro e (fun z => nomatch z) h
  | bl y => cases (show u = Value.bool y from rx); exact PySem.W.kia_one PySem.W.kitx_bool I.kIn True.intro e (fun z => nomatch z) h
  | int i => obtain ⟨t, q⟩ := (show ∃ t, u = Value.int i t from rx); cases q; exact PySem.W.kia_one PySem.W.kitx_int I.kIn True.intro e (fun z => nomatch z) h
  | str y => obtain ⟨t, q⟩ := (show ∃ t, u = Value.str y t from rx); cases q; exact PySem.W.kia_one PySem.W.kitx_str I.kIn True.intro e (fun z => nomatch z) h
  | flt y => obtain ⟨t, q⟩ := (show ∃ t, u = Value.float y t from rx); cases q; exact PySem.W.kia_one PySem.W.kitx_float I.kIn True.intro e (fun z => nomatch z) h
  | @lst a xs ea =>
    cases (show u = Value.ref a from rx)
    obtain ⟨_, _, n, _, h1⟩ := (show ObjOk X.prog X.w H s.heap a (.lst xs) from I.hok a _ ea)
    exact PySem.W.kia_one PySem.W.kitx_list I.kIn ⟨_, h1, rfl⟩ e (fun z => nomatch z) h
  | @frz a ob xs ea =>
    cases (show u = Value.ref a from rx)
    obtain ⟨_, _, _, n, _, h1⟩ := (show ObjOk X.prog X.w H s.heap a (.frz ob (.lst xs)) from I.hok a _ ea)
    exact PySem.W.kia_one PySem.W.kitx_list I.kIn ⟨_, h1, rfl⟩ e (fun z => nomatch z) h
  | @tup a xs ea =>
    cases (show u = Value.ref a from rx)
    obtain ⟨_, _, _, p⟩ := (show ObjOk X.prog X.w H s.heap a (.tup xs) from I.hok a _ ea)
    obtain ⟨o, h1, h2, _⟩ := p
    exact PySem.W.kia_one PySem.W.kitx_tuple I.kIn ⟨o, h1, h2⟩ e (fun z => nomatch z) h
  | @dK a kvs ea =>
    cases (show u = Value.ref a from rx)
    obtain ⟨_, _, vs, _, p⟩ := (show ObjOk X.prog X.w H s.heap a (.dK kvs) from I.hok a _ ea)
    obtain ⟨o, es, ep, h1, h2, _⟩ := p
    exact PySem.W.kia_one PySem.W.kitx_dict I.kIn ⟨o, h1, h2.1⟩ e (fun z => nomatch z) h
  | @dT a kvs ea =>
    cases (show u = Value.ref a from rx)
    obtain ⟨_, _, xs, _, o, es, ep, h1, h2, _⟩ := (show ObjOk X.prog X.w H s.heap a (.dT kvs) from I.hok a _ ea)
    exact PySem.W.kia_one PySem.W.kitx_dict I.kIn ⟨o, h1, h2.1⟩ e (fun z => nomatch z) h
  | @ins a C dx fs ea cl ha hn htk hm =>
    cases (show u = Value.ref a from rx)
    obtain ⟨mA, O, _⟩ := ins_get I.hok ea
    obtain ⟨od, J, _⟩ := O.look
    exact PySem.W.kia_one (PySem.W.kitx_own (cl.get _) cl.hd ha hn htk hm) I.kIn J e (fun z => nomatch z) h
end
end L2

namespace L2
open PySem PySem.Spec PyProof.Rows

structure Room (k : Nat) (A : Around) : Prop where
  hd : A.handled = none
  dp : A.depth + 3 * k + 5 < recursionLimit
  un : A.units + 16 * k + 200 < cLine
theorem Room.mono {j k : Nat} {A : Around} (r : Room k A) (h : j ≤ k) : Room j A := ⟨r.hd, by have := r.dp; omega, by have := r.un; omega⟩
theorem Room.deeper {k : Nat} {A : Around} (r : Room (k + 1) A) (env : Env) : Room k (A.deeper env) :=
  ⟨r.hd, by have := r.dp; show A.depth + 1 + 3 * k + 5 < _; omega, by have := r.un; show A.units + 3 + 16 * k + 200 < _; omega⟩
theorem Room.depth {k : Nat} {A : Around} (r : Room k A) : A.depth < recursionLimit := by have := r.dp; omega
theorem Room.units {k : Nat} {A : Around} (r : Room k A) : A.units + 64 < cLine := by have := r.un; omega
def tNil : TA := fun _ H Q => Q [] H
def tCons (ta : TE) (tr : TA) : TA := fun σ H Q => ta σ H fun x H1 => tr σ H1 fun xs H2 => Q (x :: xs) H2
section
variable {X : Cx} {e : Expr} {es : List Expr} {te : TE} {t : TA} {pos : Pos}
theorem pa_nil : PA X [] tNil := fun _ _ _ _ H Q I h => Calls.spliced_nil ⟨[], H, I, .nil, h⟩
theorem pa_cons (ha : PE X e te) (hr : PA X es t) (hs : starEach (e :: es) X.env = (false, eval e X.env) :: starEach es X.env := by rfl) : PA X (e :: es) (tCons te t) := by
  intro pos pins s σ H Q I h
  rw [hs]
  show wpAny _ _ (spliced ((false, eval e X.env) :: backTo pos (starEach es X.env))) _ _ s
  refine Calls.spliced_cons (thn (ha pins s σ H _ I h) fun u s1 ⟨x, H1, I1, r1, q1⟩ => ?_)
  exact thn (hr pos pins s1 σ H1 _ I1 q1) fun us s2 ⟨xs, H2, I2, r2, q2⟩ => ⟨x :: xs, H2, I2, .cons r1 r2, q2⟩

def tTup (t : TA) : TE := fun σ H Q => t σ H fun xs H1 => xs.length ≤ sizeLine ∧ ∀ p, H1 p = none → Q (.ref p) (upd H1 p (.tup xs))
def tLst (t : TA) : TE := fun σ H Q => t σ H fun xs H1 => xs.length ≤ sizeLine ∧ ∀ p, H1 p = none → Q (.ref p) (upd H1 p (.lst xs))
theorem pe_tup {x1} (h : PA X es t) : PE X (.Tuple es x1 pos) (tTup t) := by
  intro pins s σ H Q I hq
  refine wpAny_Tuple_spliced (thn (h pos pins s σ H _ I hq) fun us s1 ⟨xs, H1, I1, r, z, q⟩ => ⟨by rw [← r.length]; exact z, ?_⟩)
  have hf : H1 s1.heap.objs.size = none := I1.hok.fresh (Nat.le_refl _)
  refine ⟨.ref s1.heap.objs.size, upd H1 s1.heap.objs.size (.tup xs), I1.laid (t' := s1.toks) (fun b u e => Heap.get?_push_of_some _ e) (Nat.le_refl _) ?_, rfl, q _ hf⟩
  exact ⟨z, us, r, ⟨_, Heap.get?_push_size _ rfl, rfl, _, rfl⟩⟩
theorem pe_lst (h : PA X es t) : PE X (.List es pos) (tLst t) := by
  intro pins s σ H Q I hq
  refine wpAny_List_spliced (thn (h pos pins s σ H _ I hq) fun us s1 ⟨xs, H1, I1, r, z, q⟩ => ⟨by rw [← r.length]; exact z, ?_⟩)
  have hf : H1 s1.heap.objs.size = none := I1.hok.fresh (Nat.le_refl _)
  refine ⟨.ref s1.heap.objs.size, upd H1 s1.heap.objs.size (.lst xs), I1.laid (t' := s1.toks) (fun b u e => Heap.get?_push_of_some _ e) (Nat.le_refl _) ?_, rfl, q _ hf⟩
  exact ⟨z, us, 0, r, Heap.get?_push_size _ rfl⟩
end

abbrev Sp := List V → Hp → VK → XK → Prop
abbrev CXT := List Env → Hp → Shared → XK → Value → Shared → Prop

structure Env0 (P : Program) (w : World) (K : PySem.W.Frag) (mg : Str → Option Value) (base : Heap) (A : Around) (outer : List Env) (s : Shared) (H : Hp) : Prop where
  frames : A.frames = some outer
  mod : Mod K mg base
  bs : ∀ b o, base.get? b = some o → s.heap.get? b = some o ∧ H b = none
  bsz : base.objs.size ≤ s.heap.objs.size
  funs : s.heap.FunFrames base outer
  frf : ∀ b ∈ frs outer, H b = none
  hok : HOk P w H s.heap
  bare : AllBare s.gens
def CE (outer : List Env) (P : Program) (w : World) (H : Hp) (s : Shared) (Q : VK) (u : Value) (s' : Shared) : Prop :=
  ∃ v H', s'.os = s.os ∧ AllBare s'.gens ∧ Un (frs outer) [] H H' s.heap s'.heap ∧ HOk P w H' s'.heap ∧ RelV v u ∧ Q v H'
def CR (CX : CXT) (outer : List Env) (P : Program) (w : World) (H : Hp) (s : Shared) (Q : VK) (E : XK) (r : Result) (s' : Shared) : Prop :=
  match r with
  | .ok (.ret u) => CE outer P w H s Q u s'
  | .ok _ => False
  | .error e => CX outer H s E e s'
structure FnOk (P : Program) (w : World) (K : PySem.W.Frag) (mg : Str → Option Value) (base : Heap) (CX : CXT) (k : Nat) (f : Addr) (fd : FuncData) (ps : List Str) (sp : Sp) : Prop where
  len : ∀ vs H Q E, sp vs H Q E → vs.length = ps.length
  run : ∀ (A : Around) (outer : List Env) (s : Shared) (H : Hp) (args : Args) (us : List Value) (vs : List V) (Q : VK) (E : XK), Room k A → Env0 P w K mg base A outer s H → BindsTo s fd args (ps.zip us) → Vals vs us → sp vs H Q E →
    codeAny (model P w) A (.call (.ref f) args) (CR CX outer P w H s Q E) s
section
variable {X : Cx} {pins : List (Addr × Obj)} {σ : St} {H : Hp} {s s' : Shared}
theorem Inv.env0 (I : Inv X pins σ H s) : Env0 X.prog X.w X.K X.mg X.base X.A X.stack s H :=
  ⟨I.ok.frames, I.ok.mod, I.bs, Nat.le_trans I.ok.bsz I.sz, I.stack, I.stkFree, I.hok, I.bare⟩
theorem Inv.after {Q : VK} {u : Value} (I : Inv X pins σ H s) (h : CE X.stack X.prog X.w H s Q u s') : EP X pins σ Q u s' := by
  obtain ⟨v, H', os, bare, un, hok, r, q⟩ := h
  obtain ⟨hh, g, d, t, os'⟩ := s'
  obtain rfl : os' = s.os := os
  exact ⟨v, H', I.call (h' := hh) (g' := g) (d' := d) (t' := t) (ch := []) un hok bare (fun b z => absurd z (by simp)), r, q⟩
end

def tCall (sp : Sp) (dvs : List V) (E : XK) (t : TA) : TE := fun σ H Q => t σ H fun vs H1 => sp (vs ++ dvs) H1 Q E
def tMeth (C : Addr) (m : Str) (sp : Sp) (dvs : List V) (E : XK) (ta : TE) (t : TA) : TE := fun σ H Q => ta σ H fun x H1 => ∃ a dx fs, x = .ref a ∧ H1 a = some (.ins C dx fs) ∧ fs.lookup m = none ∧
  t σ H1 fun vs H2 => sp (x :: (vs ++ dvs)) H2 Q E
def tMake (C : Addr) (sp : Sp) (dvs : List V) (E : XK) (t : TA) : TE := fun σ H Q => t σ H fun vs H1 => ∀ x dx, H1 x = none → H1 dx = none → dx ≠ x →
  sp (.ref x :: (vs ++ dvs)) (upd (upd H1 dx (.own x)) x (.ins C dx [])) (fun v H2 => v = .non ∧ Q (.ref x) H2) E

def Binds (K : PySem.W.Frag) (fd : FuncData) (ps : List Str) (ds : List Value) : Prop :=
  ∀ (s : Shared) (us : List Value), K.In s.heap → (us ++ ds).length = ps.length → BindsTo s fd ⟨us, []⟩ (ps.zip (us ++ ds))
theorem Binds.all {K : PySem.W.Frag} {fd : FuncData} {ps : List Str} (h : ∀ us : List Value, us.length = ps.length → bindArgs fd ⟨us, []⟩ = pure (ps.zip us)) : Binds K fd ps [] := fun s us _ hl => by
  rw [List.append_nil] at hl ⊢
  exact .of_eq (h us hl)

def Passes (CX : CXT) (X : Cx) (E : XK) : Prop := ∀ (pins : List (Addr × Obj)) (σ : St) (H : Hp) (s : Shared) (e : Value) (s' : Shared), Inv X pins σ H s → CX X.stack H s E e s' → X.xe e s'

section
variable {X : Cx} {CX : CXT} {k : Nat} {f C : Addr} {fd : FuncData} {ps : List Str} {sp : Sp} {dvs : List V} {ds : List Value} {E : XK} {x m : Str} {p pos apos : Pos} {e o : Expr} {es : List Expr} {ta : TE} {t : TA}

theorem run_fn {pins : List (Addr × Obj)} {σ : St} {H : Hp} {s : Shared} {Q : VK} {us : List Value} {vs : List V} (F : FnOk X.prog X.w X.K X.mg X.base CX k f fd ps sp) (hr : Room k X.A) (hb : Binds X.K fd ps ds) (hd : Vals dvs ds) (hx : Passes CX X E)
    (I : Inv X pins σ H s) (r : Vals vs us) (h : sp (vs ++ dvs) H Q E) : wpAny (model X.prog X.w) X.A (call (.ref f) us) (EP X pins σ Q) X.xe s := by
  have r2 : Vals (vs ++ dvs) (us ++ ds) := r.append hd
  have hl : (us ++ ds).length = ps.length := by rw [← r2.length]; exact F.len _ _ _ _ h
  refine wpAny_call (codeAny_mono (F.run X.A X.stack s H ⟨us, []⟩ (us ++ ds) (vs ++ dvs) Q E hr I.env0 (hb s us I.kIn hl) r2 h) fun r s' hq => ?_)
  cases r with
  | error e => exact hx pins σ H s e s' I hq
  | ok fl =>
    cases fl with
    | ret u => exact I.after hq
    | next => exact False.elim hq
    | brk => exact False.elim hq
    | cont => exact False.elim hq

theorem pe_call (F : FnOk X.prog X.w X.K X.mg X.base CX k f fd ps sp) (hr : Room k X.A) (hg : Gl X x) (hm : X.mg x = some (.ref f)) (hk : PySem.W.keepIn X.K (.ref f) = true) (hb : Binds X.K fd ps ds) (hd : Vals dvs ds) (hx : Passes CX X E)
    (ha : PA X (e :: es) t) (hdb : (x == ("__debug__" : Str)) = false := by decide) (he : starEach (e :: es) X.env = (false, eval e X.env) :: starEach es X.env := by rfl) (hpl : (backTo pos (starEach es X.env)).any (·.1) = false := by rfl) :
    PE X (.Call (.Name x p) (e :: es) [] pos) (tCall sp dvs E t) := by
  intro pins s σ H Q I h
  refine wpAny_Call_Name_kw (ld_glob I hg hm ?_ hdb)
  refine PySem.W.callWith_K (h₀ := X.base) I.ok.mod.kin hk (thn (ha pos pins s σ H _ I h) fun us s1 ⟨vs, H1, I1, r, q⟩ => ⟨I1.kIn, ?_⟩) he hpl
  exact run_fn F hr hb hd hx I1 r q
structure Mk (K : PySem.W.Frag) (C f : Addr) : Prop where
  makes : PySem.W.makesIn K C = true
  init : PySem.W.findIn K (.ref C) "__init__" = some (some (.ref f))
  fn : PySem.W.isFn K (.ref f) = true
  kp : PySem.W.keepIn K (.ref C) = true

end

def PK (X : Cx) (kws : List Keyword) (t : TA) : Prop :=
  ∀ (pos : Pos) (pins : List (Addr × Obj)) (s : Shared) (σ : St) (H : Hp) (Q : List V → Hp → Prop), Inv X pins σ H s → t σ H Q → wpAny (model X.prog X.w) X.A (evalAll ((backToKw pos (keywordEach kws X.env)).map (·.2))) (AP X pins σ Q) X.xe s
section
variable {X : Cx} {CX : CXT} {k : Nat} {f C : Addr} {fd : FuncData} {ps ks : List Str} {sp : Sp} {E : XK} {x m : Str} {p pos apos kpos : Pos} {e o : Expr} {es : List Expr} {kws : List Keyword} {te ta : TE} {t tk : TA} {nm : Option Str}
structure KBinds (K : PySem.W.Frag) (fd : FuncData) (ps ks : List Str) (g : List Value → List Value → List Value) (gV : List V → List V → List V) : Prop where
  to : ∀ (s : Shared) (us ws : List Value), K.In s.heap → (g us ws).length = ps.length → BindsTo s fd ⟨us, ks.zip ws⟩ (ps.zip (g us ws))
  rel : ∀ {vs : List V} {us : List Value} {zs : List V} {ws : List Value}, Vals vs us → Vals zs ws → Vals (gV vs zs) (g us ws)
def tCallK (sp : Sp) (gV : List V → List V → List V) (E : XK) (t tk : TA) : TE := fun σ H Q => t σ H fun vs H1 => tk σ H1 fun zs H2 => sp (gV vs zs) H2 Q E
variable {g : List Value → List Value → List Value} {gV : List V → List V → List V}
end

structure FnScope (N P : List Str) (sc : Scope) : Prop where
  kind : sc.kind = .function
  co : sc.isCoroutine = false
  gen : sc.isGenerator = false
  nd : N.Nodup
  pre : N.take P.length = P
  par : ∀ x ∈ P, sc.names.lookup x = some .local ∨ sc.names.lookup x = some .cell
  nofree : ∀ y ∈ sc.names, y.2 ≠ .free

theorem bindL_out {kindOf : Str → Option NameKind} {x : Str} : ∀ {binds : List (Str × Value)} {m : Str → Option Value}, (∀ v, (x, v) ∉ binds) → bindL kindOf binds m x = m x
  | [], _, _ => rfl
  | (n, v) :: r, m, h => by
    unfold bindL
    rw [bindL_out fun w hw => h w (List.mem_cons_of_mem _ hw)]
    split
    · have : x ≠ n := by rintro rfl; exact h v List.mem_cons_self
      simp [this]
    · rfl
theorem bindC_out {kindOf : Str → Option NameKind} {x : Str} : ∀ {binds : List (Str × Value)} {m : Str → Option Value}, (∀ v, (x, v) ∉ binds) → bindC kindOf binds m x = m x
  | [], _, _ => rfl
  | (n, v) :: r, m, h => by
    unfold bindC
    rw [bindC_out fun w hw => h w (List.mem_cons_of_mem _ hw)]
    split
    · rfl
    · have : x ≠ n := by rintro rfl; exact h v List.mem_cons_self
      simp [this]
theorem bindL_get {kindOf : Str → Option NameKind} {x : Str} {v : Value} : ∀ {P : List Str} {vs : List Value} {i : Nat} {m : Str → Option Value}, P.Nodup → P[i]? = some x → vs[i]? = some v → kindOf x = some .local →
    bindL kindOf (P.zip vs) m x = some v
  | [], _, _, _, _, h, _, _ => by simp at h
  | _ :: _, [], _, _, _, _, h, _ => by simp at h
  | p :: P, w :: vs, 0, m, nd, h1, h2, hk => by
    simp at h1 h2; subst h1; subst h2
    show bindL kindOf ((p, w) :: P.zip vs) m p = _
    unfold bindL
    rw [bindL_out fun v hv => (List.nodup_cons.mp nd).1 (List.of_mem_zip hv).1, if_pos hk]
    simp
  | p :: P, w :: vs, i + 1, m, nd, h1, h2, hk => by
    show bindL kindOf ((p, w) :: P.zip vs) m x = _
    unfold bindL
    exact bindL_get (i := i) (List.nodup_cons.mp nd).2 (by simpa using h1) (by simpa using h2) hk
theorem bindC_get {kindOf : Str → Option NameKind} {x : Str} {v : Value} : ∀ {P : List Str} {vs : List Value} {i : Nat} {m : Str → Option Value}, P.Nodup → P[i]? = some x → vs[i]? = some v → kindOf x ≠ some .local →
    bindC kindOf (P.zip vs) m x = some v
  | [], _, _, _, _, h, _, _ => by simp at h
  | _ :: _, [], _, _, _, _, h, _ => by simp at h
  | p :: P, w :: vs, 0, m, nd, h1, h2, hk => by
    simp at h1 h2; subst h1; subst h2
    show bindC kindOf ((p, w) :: P.zip vs) m p = _
    unfold bindC
    rw [bindC_out fun v hv => (List.nodup_cons.mp nd).1 (List.of_mem_zip hv).1, if_neg hk]
    simp
  | p :: P, w :: vs, i + 1, m, nd, h1, h2, hk => by
    show bindC kindOf ((p, w) :: P.zip vs) m x = _
    unfold bindC
    exact bindC_get (i := i) (List.nodup_cons.mp nd).2 (by simpa using h1) (by simpa using h2) hk

def start (N : List Str) (vs : List V) : St := vs.map some ++ List.replicate (N.length - vs.length) none

def cxOf (CX : CXT) (P : Program) (w : World) (K : PySem.W.Frag) (mg : Str → Option Value) (base : Heap) (N : List Str) (qual : Str) (scope : Scope) (f : Addr) (cd : Value) (A : Around) (outer : List Env) (s : Shared) (H : Hp) (E : XK) : Cx where
  prog := P
  w := w
  K := K
  mg := mg
  base := base
  A := A.deeper (envOfC qual scope s.heap.objs.size f cd)
  N := N
  s₀ := s
  H₀ := H
  env := envOfC qual scope s.heap.objs.size f cd
  outer := outer
  stack := envOfC qual scope s.heap.objs.size f cd :: outer
  ex := []
  calm := true
  fn := fun _ => true
  pn := []
  xe := fun e s' => wpAny (model P w) (A.deeper (envOfC qual scope s.heap.objs.size f cd)) (leaving (envOfC qual scope s.heap.objs.size f cd) e) (fun _ s'' => CX outer H s E e s'') (fun e' s'' => CX outer H s E e' s'') s'

theorem cell_has {sc : Scope} {n : Nat} {x : Str} (h : sc.names.lookup x = some .cell) : ∃ c, (cellsFrom n sc.names []).lookup x = some c := by
  have q := PySem.W.cellsFrom_some sc.names n [] (.inl h)
  exact Option.isSome_iff_exists.mp q

theorem inv_start {CX : CXT} {P : Program} {w : World} {K : PySem.W.Frag} {mg : Str → Option Value} {base : Heap} {N ps : List Str} {qual : Str} {scope : Scope} {f : Addr} {cd : Value} {A : Around} {outer : List Env} {s s1 : Shared} {H : Hp} {E : XK} {us : List Value} {vs : List V}
    (S : FnScope N ps scope) (hd : A.handled = none) (e0 : Env0 P w K mg base A outer s H) (hl : vs.length = ps.length) (r : Vals vs us)
    (x : InCallC s s.heap.objs.size (bindL (envOfC qual scope s.heap.objs.size f cd).kindOf (ps.zip us) fun _ => none) (cellsFrom (s.heap.objs.size + 1) scope.names []) (bindC (envOfC qual scope s.heap.objs.size f cd).kindOf (ps.zip us) fun _ => none) s1) :
    Inv (cxOf CX P w K mg base N qual scope f cd A outer s H E) [] (start N vs) H s1 := by
  have hpl : ps.length ≤ N.length := by have := congrArg List.length S.pre; rw [List.length_take] at this; omega
  obtain ⟨h1, tk, rfl, hk⟩ := x.done
  have noA : ∀ b : Addr, b ∉ (cxOf CX P w K mg base N qual scope f cd A outer s H E).ex := fun b z => absurd (show b ∈ ([] : List Addr) from z) (by simp)
  refine ⟨⟨e0.mod, S.kind, rfl, rfl, Nat.le_refl _, fun y z c h1 h2 => ?_, fun y hy => ?_, fun y c _ h => ?_, fun _ => hd, Around.frames_deeper e0.frames, .inr ⟨rfl, rfl⟩, fun b z => absurd z (noA b), e0.bs, e0.bsz, fun b _ _ => noA b, fun b z => absurd z (noA b), e0.funs, e0.frf⟩,
    rfl, e0.bare, Un.kept hk, ⟨_, x.toInCall.ns, fun i y v h1 h2 h3 => ?_⟩, fun y c h => ⟨_, x.cell y c h⟩, e0.hok.fresh (Nat.le_refl _), fun y c h => ?_, fun p hp => absurd (show p ∈ ([] : List (Addr × Obj)) from hp) (by simp), e0.hok.kept hk, ?_⟩
  · exact name_of_addr x.apart (PySem.mem_of_lookup h1) (PySem.mem_of_lookup h2)
  · have hy : scope.names.lookup y = some .cell ∨ scope.names.lookup y = some .free := hy
    rcases hy with hy | hy
    · exact cell_has hy
    · exact absurd rfl (S.nofree _ (PySem.mem_of_lookup hy))
  · exact Nat.le_of_lt (x.above y c (PySem.mem_of_lookup h))
  · have hi : i < vs.length := by
      unfold start at h2
      by_cases hi : i < vs.length
      · exact hi
      · rw [List.getElem?_append_right (by simpa using hi)] at h2
        rw [List.getElem?_replicate] at h2
        split at h2 <;> cases h2
    have ha : vs[i]? = some v := by
      unfold start at h2
      rw [List.getElem?_append_left (by simpa using hi), List.getElem?_map] at h2
      cases e : vs[i]? with
      | none => rw [e] at h2; cases h2
      | some a => rw [e] at h2; cases h2; rfl
    obtain ⟨u, hu, rv⟩ := r.get ha
    have hp : ps[i]? = some y := by
      rw [← S.pre, List.getElem?_take_of_lt (by omega)]; exact h1
    have ndP : ps.Nodup := by rw [← S.pre]; exact S.nd.sublist (List.take_sublist _ _)
    refine ⟨u, rv, ?_⟩
    rcases S.par y (List.mem_of_getElem? hp) with k | k
    · exact .inl ⟨k, bindL_get ndP hp hu k⟩
    · obtain ⟨c, e⟩ := cell_has (n := s.heap.objs.size + 1) k
      refine .inr ⟨.inl k, c, e, ?_⟩
      have q := x.cell y c e
      rw [bindC_get ndP hp hu (by show scope.names.lookup y ≠ _; rw [k]; decide)] at q
      exact q
  · exact e0.hok.fresh (Nat.le_of_lt (x.above y c (PySem.mem_of_lookup h)))
  · unfold start
    show _ = N.length
    rw [List.length_append, List.length_map, List.length_replicate]
    omega

theorem fn_of {CX : CXT} {P : Program} {w : World} {K : PySem.W.Frag} {mg : Str → Option Value} {base : Heap} {k : Nat} {f : Addr} {name qual : Str} {params : Arguments} {body : List Stmt} {scope : Scope} {dV kV doc pm cdv ct oc : Value} {an od : Option Addr}
    {osl : Array (Option Value)} {N ps : List Str} {sp : Sp} (lk : K.lookup f = some ⟨oc, od, .func (PySem.W.fnOf name qual params body scope dV kV doc pm an cdv ct), osl⟩) (hcd : PySem.W.codeIn K cdv qual = true) (S : FnScope N ps scope)
    (len : ∀ vs H Q E, sp vs H Q E → vs.length = ps.length)
    (hbody : ∀ (A : Around) (outer : List Env) (s : Shared) (H : Hp) (vs : List V) (Q : VK) (E : XK), Room k (A.deeper (envOfC qual scope s.heap.objs.size f cdv)) → sp vs H Q E →
      ∃ t, PSs (cxOf CX P w K mg base N qual scope f cdv A outer s H E) body t ∧ t { nx := fun _ H' => Q .non H', rt := Q } (start N vs) H) :
    FnOk P w K mg base CX (k + 1) f (PySem.W.fnOf name qual params body scope dV kV doc pm an cdv ct) ps sp := by
  refine ⟨len, fun A outer s H args us vs Q E hr e0 hb r hsp => ?_⟩
  have hl := len _ _ _ _ hsp
  have KX : K.In s.heap := e0.mod.kin.keeps fun b o e => (e0.bs b o e).1
  have lim : s.heap.NoLimit := e0.mod.nolimit.keeps fun b o e => (e0.bs b o e).1
  have hkind : ∀ y ∈ ps.zip us, scope.names.lookup y.1 = some .local ∨ (scope.names.lookup y.1 = some .cell ∧ ((cellsFrom (s.heap.objs.size + 1) scope.names []).lookup y.1).isSome = true) := fun ⟨n, v⟩ hy => by
    rcases S.par n (List.of_mem_zip hy).1 with q | q
    · exact .inl q
    · exact .inr ⟨q, PySem.W.cellsFrom_some _ _ _ (.inl q)⟩
  refine codeAny_call_function hr.depth (KX _ _ lk) rfl S.co S.gen rfl (PySem.W.codeRec_of KX hcd) (hb _ _ _ _ ?_)
  refine wpAny_newFunctionEnv_cells S.kind hkind fun env he s1 x => ?_
  subst he
  refine ⟨lim.keeps x.toInCall.keep, codeAny_func ?_⟩
  obtain ⟨t, ht, hq⟩ := hbody A outer s H vs Q E (hr.deeper _) hsp
  have I : Inv (cxOf CX P w K mg base N qual scope f cdv A outer s H E) [] (start N vs) H s1 := inv_start S hr.hd e0 hl r x
  refine wpAny_mono (ht [] s1 (start N vs) H _ I hq) (fun fl s' hs => ?_) fun e s' hs => hs
  have fin : ∀ {σ' : St} {H' : Hp} {v : V} {u : Value}, Inv (cxOf CX P w K mg base N qual scope f cdv A outer s H E) [] σ' H' s' → RelV v u → Q v H' → CE outer P w H s Q u s' :=
    fun {σ' H' v u} J rv q => ⟨v, H', J.os, J.bare, J.base, J.hok, rv, q⟩
  cases fl with
  | ret u =>
    obtain ⟨v, σ', H', J, rv, q⟩ := hs
    exact fin J rv q
  | next =>
    obtain ⟨σ', H', J, q⟩ := hs
    exact fin (v := V.non) (u := Value.none) J rfl q
  | brk =>
    obtain ⟨_, _, _, q⟩ := hs
    exact False.elim q
  | cont =>
    obtain ⟨_, _, _, q⟩ := hs
    exact False.elim q
end L2

namespace L2
open PySem PySem.Spec PyProof.Rows
section
variable {X : Cx} {x : Str} {p pos : Pos} {e : Expr} {es : List Expr} {t : TA} {id T : String} {r : List V → Hp → VK → Prop}

def tCB (r : List V → Hp → VK → Prop) (t : TA) : TE := fun σ H Q => t σ H fun vs H1 => r vs H1 Q
theorem pe_callB (hc : CallR X (.builtin id) r) (hg : Gl X x) (hm : X.mg x = none) (hv : bootBuiltins x = some (.builtin id)) (ha : PA X (e :: es) t) (hn : x ≠ "__name__" := by decide) (hdb : (x == ("__debug__" : Str)) = false := by decide)
    (he : starEach (e :: es) X.env = (false, eval e X.env) :: starEach es X.env := by rfl) (hpl : (backTo pos (starEach es X.env)).any (·.1) = false := by rfl) : PE X (.Call (.Name x p) (e :: es) [] pos) (tCB r t) := by
  intro pins s σ H Q I h
  refine wpAny_Call_Name_kw (ld_blt I hg hm hv ?_ hn hdb)
  exact PyProof.Rows.callWith_builtin1 (thn (ha pos pins s σ H _ I h) fun us s1 ⟨vs, H1, I1, r1, q1⟩ => hc pins s1 σ H1 vs us Q I1 r1 q1) he hpl
theorem pe_callTy (hc : CallR X (.type T) r) (hg : Gl X x) (hm : X.mg x = none) (hv : bootBuiltins x = some (.type T)) (ha : PA X (e :: es) t) (hn : x ≠ "__name__" := by decide) (hdb : (x == ("__debug__" : Str)) = false := by decide)
    (he : starEach (e :: es) X.env = (false, eval e X.env) :: starEach es X.env := by rfl) (hpl : (backTo pos (starEach es X.env)).any (·.1) = false := by rfl) : PE X (.Call (.Name x p) (e :: es) [] pos) (tCB r t) := by
  intro pins s σ H Q I h
  refine wpAny_Call_Name_kw (ld_blt I hg hm hv ?_ hn hdb)
  exact PyProof.Rows.callWith_type1 (thn (ha pos pins s σ H _ I h) fun us s1 ⟨vs, H1, I1, r1, q1⟩ => hc pins s1 σ H1 vs us Q I1 r1 q1) he hpl
end
end L2

namespace HT
open PySem PyProof.Rows

def lexLt : List Int → List Int → Bool
  | [], [] => false
  | [], _ :: _ => true
  | _ :: _, [] => false
  | x :: xs, y :: ys => if x = y then lexLt xs ys else decide (x < y)
section
open PySem.SeqAt
open PySem.AutoSeq1 (wpAny_loadPart')
open PySem.MeetsSeq PySem.MeetsSeq2 PySem.MeetsSeq3

end

section
variable {prog : Program} {w : World} {A : Around} {E : Value → Shared → Prop} {s : Shared}

def sIx (n d : Nat) : Option Int → Nat
  | none => d
  | some v => if v < 0 then (v + (n : Int)).toNat else min v.toNat n
theorem sIx_none (n d : Nat) : sIx n d none = d := rfl
theorem sIx_nat (n d k : Nat) : sIx n d (some (k : Int)) = min k n := by
  show (if (k : Int) < 0 then ((k : Int) + (n : Int)).toNat else min (k : Int).toNat n) = min k n
  rw [if_neg (by omega), Int.toNat_natCast]
end
end HT

namespace L2
open PySem PySem.Spec PyProof.Rows

abbrev TO := St → Hp → (Option Int → Hp → Prop) → Prop
def PO (X : Cx) (e : Option Expr) (t : TO) : Prop :=
  ∀ (pins : List (Addr × Obj)) (s : Shared) (σ : St) (H : Hp) (Q : Option Int → Hp → Prop), Inv X pins σ H s → t σ H Q →
    wpAny (model X.prog X.w) X.A (evalPart e X.env) (fun u s' => ∃ o H', Inv X pins σ H' s' ∧ IsPart u o ∧ Q o H') X.xe s
def tNoPart : TO := fun _ H Q => Q none H
def tPart (t : TE) : TO := fun σ H Q => t σ H fun x H1 => ∃ i, x = .int i ∧ Q (some i) H1

section
variable {X : Cx} {e : Expr} {te : TE} {lo hi : Option Expr} {tl th : TO} {pos p2 : Pos}

theorem po_none : PO X none tNoPart := by
  intro pins s σ H Q I h
  rw [evalPart_none]
  exact wpAny_pure ⟨none, H, I, .none, h⟩
theorem po_some (h : PE X e te) : PO X (some e) (tPart te) := by
  intro pins s σ H Q I hw
  rw [evalPart_some]
  refine thn (h pins s σ H _ I hw) fun u s1 ⟨x, H1, I1, r1, q1⟩ => ?_
  obtain ⟨i, rfl, q⟩ := q1
  obtain ⟨t, rfl⟩ := r1
  exact ⟨some i, H1, I1, .int i t, q⟩

def SlR (X : Cx) (r : V → Option Int → Option Int → Hp → VK → Prop) : Prop :=
  ∀ (pins : List (Addr × Obj)) (s : Shared) (σ : St) (H : Hp) (x : V) (v vl vu : Value) (lo hi : Option Int) (sl : Addr) (Q : VK), Inv X pins σ H s → RelV x v → s.heap.IsSliceOf sl vl vu .none → IsPart vl lo → IsPart vu hi → r x lo hi H Q →
    ∃ T id, typeLookup (.type T) "__getitem__" = pure (some (.builtin id)) ∧ s.TypeIs v T ∧ wpAny (model X.prog X.w) X.A (getItem v (.ref sl)) (EP X pins σ Q) X.xe s
def tSl (r : V → Option Int → Option Int → Hp → VK → Prop) (te : TE) (tl th : TO) : TE := fun σ H Q => te σ H fun x H1 => tl σ H1 fun l H2 => th σ H2 fun u H3 => r x l u H3 Q
theorem pe_slice {r : V → Option Int → Option Int → Hp → VK → Prop} (hr : SlR X r) (he : PE X e te) (hl : PO X lo tl) (hu : PO X hi th) : PE X (.Subscript e (.Slice lo hi none p2) pos) (tSl r te tl th) := by
  intro pins s σ H Q I h
  refine Subscript_ (thn (he pins s σ H _ I h) fun v s1 ⟨x, H1, I1, r1, q1⟩ => ?_)
  refine wpAny_Slice (thn (hl pins s1 σ H1 _ I1 q1) fun vl s2 ⟨l, H2, I2, pl, q2⟩ => thn (hu pins s2 σ H2 _ I2 q2) fun vu s3 ⟨u, H3, I3, pu, q3⟩ => ?_)
  rw [evalPart_none]
  refine wpAny_pure ?_
  have I4 : Inv X pins σ H3 { s3 with heap := s3.heap.push { cls := .type "slice", data := .fields #[vl, vu, .none] } } := I3.kept (t' := s3.toks) fun b ob q => Heap.get?_push_of_some _ q
  obtain ⟨T, id, hT, ht, hg⟩ := hr pins { s3 with heap := s3.heap.push { cls := .type "slice", data := .fields #[vl, vu, .none] } } σ H3 x v vl vu l u s3.heap.objs.size Q I4 r1 (Heap.IsSliceOf.new ..) pl pu q3
  show wpAny (model X.prog X.w) X.A (subscriptTail e (.Slice lo hi none p2) v (.ref s3.heap.objs.size)) (EP X pins σ Q) X.xe { s3 with heap := s3.heap.push { cls := .type "slice", data := .fields #[vl, vu, .none] } }
  exact tail_any (ops := [.ref s3.heap.objs.size, v]) ht hT hg (by with_unfolding_all rfl)

def cutV (xs : List V) (lo hi : Option Int) : List V := (xs.drop (HT.sIx xs.length 0 lo)).take (HT.sIx xs.length xs.length hi - HT.sIx xs.length 0 lo)
theorem cutV_length (xs : List V) (lo hi : Option Int) : (cutV xs lo hi).length ≤ xs.length := by
  unfold cutV
  rw [List.length_take, List.length_drop]
  omega
def rSlT (K : PySem.W.Frag) : V → Option Int → Option Int → Hp → VK → Prop := fun x lo hi H Q => ∃ a xs, x = .ref a ∧ SqT K H a xs ∧
  ¬ (HT.sIx xs.length 0 lo = 0 ∧ HT.sIx xs.length xs.length hi = xs.length) ∧ ∀ p, H p = none → Q (.ref p) (upd H p (.tup (cutV xs lo hi)))
def rLtT (K : PySem.W.Frag) : R2 := fun x y H Q => ∃ a b ns ms, x = .ref a ∧ y = .ref b ∧ SqT K H a (ns.map V.int) ∧ SqT K H b (ms.map V.int) ∧ Q (.bl (HT.lexLt ns ms)) H
def rCatT (K : PySem.W.Frag) : R2 := fun x y H Q => ∃ a b xs ys, x = .ref a ∧ y = .ref b ∧ SqT K H a xs ∧ SqT K H b ys ∧ xs ≠ [] ∧ xs.length + ys.length ≤ sizeLine ∧
  (ys = [] → Q (.ref a) H) ∧ (ys ≠ [] → ∀ p, H p = none → Q (.ref p) (upd H p (.tup (xs ++ ys))))
end
end L2

namespace L2
open PySem PySem.Spec PyProof.Rows

def ixN (n : Nat) (i : Int) : Option Nat := if 0 ≤ i then (if i < n then some i.toNat else none) else if -(n : Int) ≤ i then some (i + n).toNat else none
def atI {α : Type} (xs : List α) (i : Int) : Option α := (ixN xs.length i).bind fun j => xs[j]?
theorem ixN_seq {n : Nat} {i : Int} {j : Nat} (h : ixN n i = some j) : seqIndex? i n = some j ∧ j < n ∧ -(n : Int) ≤ i ∧ i < n := by
  unfold ixN at h
  by_cases h0 : 0 ≤ i
  · rw [if_pos h0] at h
    by_cases h1 : i < n
    · rw [if_pos h1] at h
      have e : i.toNat = j := Option.some.inj h
      exact ⟨by rw [seqIndex_of h0 h1, e], by omega, by omega, h1⟩
    · rw [if_neg h1] at h; cases h
  · rw [if_neg h0] at h
    by_cases h1 : -(n : Int) ≤ i
    · rw [if_pos h1] at h
      have e : (i + n).toNat = j := Option.some.inj h
      exact ⟨by rw [seqIndex_neg (by omega) h1, e], by omega, h1, by omega⟩
    · rw [if_neg h1] at h; cases h
theorem atI_get {α : Type} {xs : List α} {i : Int} {v : α} (h : atI xs i = some v) : ∃ j, seqIndex? i xs.length = some j ∧ xs[j]? = some v ∧ j < xs.length ∧ -(xs.length : Int) ≤ i ∧ i < xs.length := by
  unfold atI at h
  cases e : ixN xs.length i with
  | none => rw [e] at h; cases h
  | some j =>
    rw [e] at h
    obtain ⟨h1, h2, h3, h4⟩ := ixN_seq e
    exact ⟨j, h1, h, h2, h3, h4⟩
theorem atI_nat {α : Type} {xs : List α} {j : Nat} {v : α} (h : xs[j]? = some v) : atI xs (j : Int) = some v := by
  have hj : j < xs.length := (List.getElem?_eq_some_iff.mp h).1
  have e : ixN xs.length (j : Int) = some j := by
    unfold ixN
    rw [if_pos (by omega), if_pos (by omega)]; simp
  unfold atI; rw [e]; exact h
def PlainIx (b : Expr) : Prop := ∀ o i, subscripted b false o i = operate [o, i] (getItem o i)
def IxR (X : Cx) (r : R2) : Prop :=
  ∀ (value slice : Expr) (pins : List (Addr × Obj)) (s : Shared) (σ : St) (H : Hp) (x y : V) (v u : Value) (Q : VK), Inv X pins σ H s → RelV x v → RelV y u → r x y H Q →
    subscripted slice false v u = operate [v, u] (getItem v u) → wpAny (model X.prog X.w) X.A (subscriptTail value slice v u) (EP X pins σ Q) X.xe s
def MtR (X : Cx) (id : String) (r : V → List V → Hp → VK → Prop) : Prop :=
  ∀ (pins : List (Addr × Obj)) (s : Shared) (σ : St) (H : Hp) (x : V) (xs : List V) (v : Value) (us : List Value) (Q : VK), Inv X pins σ H s → RelV x v → Vals xs us → r x xs H Q →
    wpAny (model X.prog X.w) X.A (call (.builtin id) (v :: us)) (EP X pins σ Q) X.xe s
section
variable {X : Cx} {a b : Expr} {ta tb : TE} {pos : Pos}
theorem IxR.or {r r' : R2} (h : IxR X r) (h' : IxR X r') : IxR X (fun x y H Q => r x y H Q ∨ r' x y H Q) := by
  intro value slice pins s σ H x y v u Q I rx ry q hs
  rcases q with q | q
  · exact h value slice pins s σ H x y v u Q I rx ry q hs
  · exact h' value slice pins s σ H x y v u Q I rx ry q hs
theorem pe_ix {r : R2} (hr : IxR X r) (ha : PE X a ta) (hb : PE X b tb) (hs : PlainIx b) : PE X (.Subscript a b pos) (tOp r ta tb) := by
  intro pins s σ H Q I h
  exact Subscript_ (binT ha hb I h fun v u s2 x y H2 I2 rx ry q => hr a b pins s2 σ H2 x y v u Q I2 rx ry q (hs _ _))

def rIxL (K : PySem.W.Frag) : R2 := fun x y H Q => ∃ p xs i v, x = .ref p ∧ y = .int i ∧ SqL K H p xs ∧ atI xs i = some v ∧ Q v H
def rIxT (K : PySem.W.Frag) : R2 := fun x y H Q => ∃ p xs i v, x = .ref p ∧ y = .int i ∧ SqT K H p xs ∧ atI xs i = some v ∧ Q v H
def rIxS : R2 := fun x y H Q => ∃ z i c, x = .str z ∧ y = .int i ∧ z.length ≤ sizeLine ∧ atI z.cps.toList i = some c ∧ Q (.str ⟨#[c]⟩) H
theorem ix_list : IxR X (rIxL X.K) := by
  intro value slice pins s σ H x y v u Q I rx ry h hs
  obtain ⟨p, xs, i, z, rfl, rfl, hq, he, q⟩ := h
  cases rx
  obtain ⟨t, rfl⟩ := ry
  obtain ⟨its, r, pl, hz⟩ := I.list hq
  obtain ⟨j, h1, h2, h3, h4, h5⟩ := atI_get he
  obtain ⟨w, ew, rw'⟩ := r.get h2
  have hl := r.length
  have hn := line63
  have fin : EP X pins σ Q w s := ⟨z, H, I, rw', q⟩
  by_cases h0 : 0 ≤ i
  · have hj : i.toNat = j := by
      rw [seqIndex_of h0 h5] at h1
      exact Option.some.inj h1
    exact item_listR pl.isList h0 (by omega) (by rw [hj]; simpa using ew) fin hs
  · have hj : (i + (its.toArray.size : Int)).toNat = j := by
      rw [seqIndex_neg (by omega) h4] at h1
      rw [List.size_toArray, ← hl]
      exact Option.some.inj h1
    exact subscriptTail_builtinR (x := w) pl.isList.typeIs slot_list_getitem.lookup
      (wpAny_getItem_list_neg (Q := fun r s' => r = w ∧ EP X pins σ Q r s') pl.isList (by omega) (by rw [List.size_toArray] <;> omega) (by omega) (by rw [hj]; simpa using ew) ⟨rfl, fin⟩) hs
theorem ix_tup : IxR X (rIxT X.K) := by
  intro value slice pins s σ H x y v u Q I rx ry h hs
  obtain ⟨p, xs, i, z, rfl, rfl, hq, he, q⟩ := h
  cases rx
  obtain ⟨t, rfl⟩ := ry
  obtain ⟨its, r, pl, hz⟩ := I.tuple hq
  obtain ⟨j, h1, h2, h3, h4, h5⟩ := atI_get he
  obtain ⟨w, ew, rw'⟩ := r.get h2
  have hl := r.length
  have hn := line63
  have fin : EP X pins σ Q w s := ⟨z, H, I, rw', q⟩
  exact subscriptTail_builtinR (x := w) pl.typeIs slot_tuple_getitem.lookup
    (getItem_tuple (j := j) (Q := fun r s' => r = w ∧ EP X pins σ Q r s') pl (by omega) (by omega) (by rw [List.size_toArray, ← hl]; exact h1) (by simpa using ew) ⟨rfl, fin⟩) hs
theorem ix_str : IxR X rIxS := by
  intro value slice pins s σ H x y v u Q I rx ry h hs
  obtain ⟨z, i, c, rfl, rfl, hz, he, q⟩ := h
  obtain ⟨t, rfl⟩ := rx
  obtain ⟨t', rfl⟩ := ry
  obtain ⟨j, h1, h2, h3, h4, h5⟩ := atI_get he
  have hl : z.cps.toList.length = z.length := by simp [Str.length]
  rw [hl] at h1 h4 h5
  have hn := line63
  exact tail_any (typeIs_str s z t) slot_str_getitem.lookup (getItem_str (c := c) (by
    have e1 : decide (i < -(2 ^ 63 : Int)) = false := decide_eq_false (by omega)
    have e2 : decide (i ≥ 2 ^ 63) = false := decide_eq_false (by omega)
    rw [e1, e2, Bool.or_false]) (by rw [h1]; simpa using h2) ⟨.str ⟨#[c]⟩, H, I.tok _, ⟨_, rfl⟩, q⟩) hs
def rIx (K : PySem.W.Frag) : R2 := fun x y H Q => rIxL K x y H Q ∨ rIxT K x y H Q ∨ rIxS x y H Q
theorem ix_seq : IxR X (rIx X.K) := ix_list.or (ix_tup.or ix_str)

theorem mapSeq_set (its : List Value) (n j : Nat) (u : Value) : Obj.mapSeq (·.setIfInBounds j u) { cls := .type "list", data := .seq its.toArray n } = { cls := .type "list", data := .seq (its.set j u).toArray n } := by
  simp [Obj.mapSeq]
theorem Inv.lst {pins : List (Addr × Obj)} {σ : St} {H : Hp} {s : Shared} {p : Addr} {xs : List V} (I : Inv X pins σ H s) (h : H p = some (.lst xs)) :
    ∃ (its : List Value) (n : Nat), Vals xs its ∧ s.heap.get? p = some { cls := .type "list", data := .seq its.toArray n } ∧ xs.length ≤ sizeLine := by
  obtain ⟨z, its, n, r, e⟩ := I.hok p _ h
  exact ⟨its, n, r, e, z⟩
theorem Inv.lstUpd {pins : List (Addr × Obj)} {σ : St} {H : Hp} {s : Shared} {p : Addr} {xs ys : List V} {its its' : List Value} {n n' : Nat} {f : Obj → Obj} (I : Inv X pins σ H s) (h : H p = some (.lst xs))
    (ho : s.heap.get? p = some { cls := .type "list", data := .seq its.toArray n }) (hf : f { cls := .type "list", data := .seq its.toArray n } = { cls := .type "list", data := .seq its'.toArray n' }) (r : Vals ys its') (hz : ys.length ≤ sizeLine) (t : Nat) :
    Inv X pins σ (upd H p (.lst ys)) { s with heap := s.heap.update p f, toks := t } := by
  have e : (s.heap.update p f).get? p = some { cls := .type "list", data := .seq its'.toArray n' } := by
    rw [Heap.get?_update_self f ho (by rw [hf] <;> rfl), hf]
  refine I.write (x := p) (e := p) (by rw [h]; trivial) (.inl rfl) (fun b u hb q => (Heap.get?_update_other _ _ (Ne.symm hb)).trans q) ⟨_, e⟩ ?_
  exact ⟨hz, its', n', r, e⟩
def rSetL : V → V → V → Hp → (Hp → Prop) → Prop := fun o i v H Q => ∃ p xs k j, o = .ref p ∧ i = .int k ∧ H p = some (.lst xs) ∧ ixN xs.length k = some j ∧ Q (upd H p (.lst (xs.set j v)))
theorem set_list : PSet X rSetL := by
  intro pins s σ H o i v ov iv u Q I ro ri rv h
  obtain ⟨p, xs, k, j, rfl, rfl, hp, hj, q⟩ := h
  cases ro
  obtain ⟨t, rfl⟩ := ri
  obtain ⟨its, n, r, ho, hz⟩ := I.lst hp
  obtain ⟨h1, h2, h3, h4⟩ := ixN_seq hj
  have hl := r.length
  have hn := line63
  have I' : Inv X pins σ (upd H p (.lst (xs.set j v))) { s with heap := s.heap.update p (Obj.mapSeq (·.setIfInBounds j u)) } :=
    I.lstUpd hp ho (mapSeq_set its n j u) (r.set rv j) (by rw [List.length_set]; exact hz) s.toks
  by_cases h0 : 0 ≤ k
  · have hk : k.toNat = j := by
      rw [seqIndex_of h0 h4] at h1
      exact Option.some.inj h1
    exact PySem.W.ki_setAt ho h0 (by omega) (by rw [List.size_toArray, ← hl]; exact h4) (by rw [hk]; exact ⟨_, I', q⟩)
  · have hk : (k + (its.toArray.size : Int)).toNat = j := by
      rw [seqIndex_neg (by omega) h3] at h1
      rw [List.size_toArray, ← hl]
      exact Option.some.inj h1
    exact PySem.W.ki_setBack ho (by omega) (by rw [List.size_toArray, ← hl]; exact h3) (by omega) (by rw [hk]; exact ⟨_, I', q⟩)

theorem slice_bounds (lo hi : Option Int) (n : Nat) : (sliceBounds lo hi none n).1 = ((HT.sIx n 0 lo : Nat) : Int) ∧ (sliceBounds lo hi none n).2.1 = ((HT.sIx n n hi : Nat) : Int) ∧ (sliceBounds lo hi none n).2.2 = 1 := by
  refine ⟨?_, ?_, rfl⟩
  · cases lo with
    | none => simp [sliceBounds, HT.sIx]
    | some i =>
      simp only [sliceBounds, HT.sIx, Option.getD_none, show (1 : Int) > 0 by decide, if_true]
      by_cases h : i < 0
      · simp only [h, if_true] <;> omega
      · simp only [h, if_false] <;> omega
  · cases hi with
    | none => simp [sliceBounds, HT.sIx]
    | some i =>
      simp only [sliceBounds, HT.sIx, Option.getD_none, show (1 : Int) > 0 by decide, if_true]
      by_cases h : i < 0
      · simp only [h, if_true] <;> omega
      · simp only [h, if_false] <;> omega
theorem slicePick_cut (its : List Value) (lo hi : Option Int) : slicePick its.toArray lo hi none = ((its.drop (HT.sIx its.length 0 lo)).take (HT.sIx its.length its.length hi - HT.sIx its.length 0 lo)).toArray := by
  obtain ⟨h1, h2, h3⟩ := slice_bounds lo hi its.toArray.size
  unfold slicePick
  rw [h1, h2, h3]
  simp only [sliceRange_one, pick_run, List.size_toArray] <;> rfl
def rSlL (K : PySem.W.Frag) : V → Option Int → Option Int → Hp → VK → Prop := fun x lo hi H Q => ∃ a xs, x = .ref a ∧ SqL K H a xs ∧ ∀ p, H p = none → Q (.ref p) (upd H p (.lst (cutV xs lo hi)))
theorem sl_list : SlR X (rSlL X.K) := by
  intro pins s σ H x v vl vu lo hi sl Q I rx hs pl pu h
  obtain ⟨a, xs, rfl, hx, q⟩ := h
  cases rx
  obtain ⟨its, r, ht, hz⟩ := I.list hx
  have hlen := r.length
  refine ⟨"list", _, slot_list_getitem.lookup, ht.isList.typeIs, ?_⟩
  refine wpAny_getItem_list_slice ht.isList hs pl pu .none (by simp) ?_ (by rw [List.size_toArray] <;> omega)
  rw [slicePick_cut, ← hlen]
  refine ⟨.ref s.heap.objs.size, _, I.laid (t' := s.toks) (o := .lst (cutV xs lo hi)) (fun b ob q => Heap.get?_push_of_some _ q) (Nat.le_refl _) ?_, rfl, q _ (I.hok.fresh (Nat.le_refl _))⟩
  exact ⟨Nat.le_trans (cutV_length xs lo hi) hz, _, 0, (r.drop (HT.sIx xs.length 0 lo)).take (HT.sIx xs.length xs.length hi - HT.sIx xs.length 0 lo), Heap.get?_push_size _ rfl⟩

def flatV : V → Bool
  | .non => true
  | .bl _ => true
  | .int _ => true
  | .str _ => true
  | _ => false
def eqV : V → V → Bool
  | .non, .non => true
  | .bl a, .bl b => a == b
  | .bl a, .int b => (if a then 1 else 0) == b
  | .int a, .bl b => a == (if b then 1 else 0)
  | .int a, .int b => a == b
  | .str a, .str b => a == b
  | _, _ => false
theorem eqAt_V {A : Around} {s : Shared} {y x : V} {u v : Value} (ry : RelV y u) (rx : RelV x v) (fy : flatV y = true) (fx : flatV x = true) : SeqAt.EqAt A s u v (eqV y x) := by
  cases y with
  | non =>
    cases ry
    cases x with
    | non => cases rx; exact SeqAt.EqAt.same _
    | bl b => cases rx; exact SeqAt.EqAt.none_bool b
    | int b => obtain ⟨t, rfl⟩ := rx; exact SeqAt.EqAt.none_int b t
    | str b => obtain ⟨t, rfl⟩ := rx; exact SeqAt.EqAt.none_str b t
    | _ => exact absurd (show false = true from fx) Bool.false_ne_true
  | bl a =>
    cases ry
    cases x with
    | non => cases rx; exact SeqAt.EqAt.bool_none a
    | bl b => cases rx; exact SeqAt.EqAt.bool_bool a b
    | int b => obtain ⟨t, rfl⟩ := rx; exact SeqAt.EqAt.bool_int a b t
    | str b => obtain ⟨t, rfl⟩ := rx; exact SeqAt.EqAt.bool_str a b t
    | _ => exact absurd (show false = true from fx) Bool.false_ne_true
  | int a =>
    obtain ⟨t', rfl⟩ := ry
    cases x with
    | non => cases rx; exact SeqAt.EqAt.int_none a t'
    | bl b => cases rx; exact SeqAt.EqAt.int_bool a t' b
    | int b => obtain ⟨t, rfl⟩ := rx; exact SeqAt.EqAt.int_int a t' b t
    | str b => obtain ⟨t, rfl⟩ := rx; exact SeqAt.EqAt.int_str a t' b t
    | _ => exact absurd (show false = true from fx) Bool.false_ne_true
  | str a =>
    obtain ⟨t', rfl⟩ := ry
    cases x with
    | non => cases rx; exact SeqAt.EqAt.str_none a t'
    | bl b => cases rx; exact SeqAt.EqAt.str_bool a t' b
    | int b => obtain ⟨t, rfl⟩ := rx; exact SeqAt.EqAt.str_int a t' b t
    | str b => obtain ⟨t, rfl⟩ := rx; exact SeqAt.EqAt.str_str a t' b t
    | _ => exact absurd (show false = true from fx) Bool.false_ne_true
  | _ => exact absurd (show false = true from fy) Bool.false_ne_true
def eqU (x : V) (u : Value) : Bool := match u with
  | .none => eqV .non x
  | .bool b => eqV (.bl b) x
  | .int i _ => eqV (.int i) x
  | .str z _ => eqV (.str z) x
  | _ => false
theorem eqU_of {x y : V} {u : Value} (r : RelV y u) (f : flatV y = true) : eqU x u = eqV y x := by
  cases y with
  | non => cases r; rfl
  | bl b => cases r; rfl
  | int i => obtain ⟨t, rfl⟩ := r; rfl
  | str z => obtain ⟨t, rfl⟩ := r; rfl
  | _ => exact absurd (show false = true from f) Bool.false_ne_true
theorem any_eqU {x : V} : ∀ {xs : List V} {us : List Value}, Vals xs us → xs.all flatV = true → us.any (eqU x) = xs.any fun y => eqV y x
  | _, _, .nil, _ => rfl
  | y :: xs, u :: us, .cons r t, f => by
    rw [List.all_cons, Bool.and_eq_true] at f
    rw [List.any_cons, List.any_cons, eqU_of r f.1, any_eqU t f.2]
theorem mem_eqAt {A : Around} {s : Shared} {x : V} {v : Value} (rx : RelV x v) (fx : flatV x = true) : ∀ {xs : List V} {us : List Value}, Vals xs us → xs.all flatV = true → ∀ u ∈ us, SeqAt.EqAt A s u v (eqU x u)
  | _, _, .nil, _ => fun u hu => by cases hu
  | y :: xs, u :: us, .cons r t, f => fun u' hu => by
    rw [List.all_cons, Bool.and_eq_true] at f
    rcases List.mem_cons.mp hu with rfl | hu
    · rw [eqU_of r f.1]; exact eqAt_V r rx f.1 fx
    · exact mem_eqAt rx fx t f.2 u' hu
def inV (x : V) (xs : List V) : Bool := xs.any fun y => eqV y x
def rIn (K : PySem.W.Frag) (neg : Bool) : R2 := fun x y H Q => ∃ p xs, y = .ref p ∧ (SqL K H p xs ∨ SqT K H p xs) ∧ flatV x = true ∧ xs.all flatV = true ∧ Q (.bl (if neg then !inV x xs else inV x xs)) H
theorem op_in_seq : OpR X (compareOp .In) (rIn X.K false) := by
  intro pins s σ H x y v u Q I rx ry h
  obtain ⟨p, xs, rfl, hq, fx, fs, q⟩ := h
  cases ry
  rcases hq with hq | hq
  · obtain ⟨its, r, pl, hz⟩ := I.list hq
    refine SeqAt.in_listAt (eqU x) pl.isList (fun w hw => mem_eqAt rx fx r fs w (by simpa using hw)) ⟨.bl _, H, I, rfl, ?_⟩
    rw [show its.toArray.any (eqU x) = its.any (eqU x) by simp, any_eqU r fs]
    exact q
  · obtain ⟨its, r, pl, hz⟩ := I.tuple hq
    refine SeqAt.in_tupleAt (eqU x) pl (fun w hw => mem_eqAt rx fx r fs w (by simpa using hw)) ⟨.bl _, H, I, rfl, ?_⟩
    rw [show its.toArray.any (eqU x) = its.any (eqU x) by simp, any_eqU r fs]
    exact q
theorem op_notIn_seq : OpR X (compareOp .NotIn) (rIn X.K true) := by
  intro pins s σ H x y v u Q I rx ry h
  obtain ⟨p, xs, rfl, hq, fx, fs, q⟩ := h
  cases ry
  rcases hq with hq | hq
  · obtain ⟨its, r, pl, hz⟩ := I.list hq
    refine SeqAt.notIn_listAt (eqU x) pl.isList (fun w hw => mem_eqAt rx fx r fs w (by simpa using hw)) ⟨.bl _, H, I, rfl, ?_⟩
    rw [show its.toArray.any (eqU x) = its.any (eqU x) by simp, any_eqU r fs]
    exact q
  · obtain ⟨its, r, pl, hz⟩ := I.tuple hq
    refine SeqAt.notIn_tupleAt (eqU x) pl (fun w hw => mem_eqAt rx fx r fs w (by simpa using hw)) ⟨.bl _, H, I, rfl, ?_⟩
    rw [show its.toArray.any (eqU x) = its.any (eqU x) by simp, any_eqU r fs]
    exact q
theorem call_len_seq : CallR X (.builtin "len") (fun xs H Q => ∃ p ys, xs = [.ref p] ∧ (SqL X.K H p ys ∨ SqT X.K H p ys) ∧ Q (.int ys.length) H) := by
  intro pins s σ H xs us Q I r h
  obtain ⟨p, ys, rfl, hq, q⟩ := h
  obtain ⟨u, rfl, rx⟩ := vals1 r
  cases rx
  have hn := line63
  rcases hq with hq | hq
  · obtain ⟨its, r', pl, hz⟩ := I.list hq
    have hlen := r'.length
    exact Calls.call_len_list pl.isList (by simp only [List.size_toArray] <;> omega) ⟨.int ys.length, H, I.tok _, ⟨s.toks + 1, by rw [List.size_toArray, hlen]⟩, q⟩
  · obtain ⟨its, r', pl, hz⟩ := I.tuple hq
    have hlen := r'.length
    exact len_tuple pl (by simp only [List.size_toArray] <;> omega) ⟨.int ys.length, H, I.tok _, ⟨s.toks + 1, by rw [List.size_toArray, hlen]⟩, q⟩
theorem call_list_of : CallR X (.type "list") (fun xs H Q => ∃ p ys, xs = [.ref p] ∧ (SqL X.K H p ys ∨ SqT X.K H p ys) ∧ ∀ l, H l = none → Q (.ref l) (upd H l (.lst ys))) := by
  intro pins s σ H xs us Q I r h
  obtain ⟨p, ys, rfl, hq, q⟩ := h
  obtain ⟨u, rfl, rx⟩ := vals1 r
  cases rx
  have fin : ∀ (its : List Value), Vals ys its → ys.length ≤ sizeLine → ∀ (h' : Heap) (c' : Nat), (∀ b o', s.heap.get? b = some o' → h'.get? b = some o') →
      h'.get? s.heap.objs.size = some { cls := .type "list", dict := none, data := .seq its.toArray c', slots := #[] } → EP X pins σ Q (.ref s.heap.objs.size) { s with heap := h' } := fun its r' hz h' c' kp e =>
    ⟨.ref s.heap.objs.size, _, I.laid (t' := s.toks) kp (Nat.le_refl _) (show ObjOk X.prog X.w _ h' _ (.lst ys) from ⟨hz, its, c', r', e⟩), rfl, q _ (I.hok.fresh (Nat.le_refl _))⟩
  rcases hq with hq | hq
  · obtain ⟨its, r', pl, hz⟩ := I.list hq
    have hlen := r'.length
    obtain ⟨o, ho, hc, n, hd⟩ := pl.isList
    exact call_list_seq p (.inl rfl) ho hc hd (fun h' c' kp e => fin its r' hz h' c' kp e) (by simp only [List.size_toArray] <;> omega)
  · obtain ⟨its, r', pl, hz⟩ := I.tuple hq
    have hlen := r'.length
    obtain ⟨o, ho, hc, n, hd⟩ := pl
    exact call_list_seq p (.inr rfl) ho hc hd (fun h' c' kp e => fin its r' hz h' c' kp e) (by simp only [List.size_toArray] <;> omega)
def tyV (K : PySem.W.Frag) (T : String) (x : V) (H : Hp) : Prop := match x with
  | .str _ => T = "str"
  | .int _ => T = "int"
  | .ref p => (T = "list" ∧ ∃ xs, SqL K H p xs) ∨ (T = "tuple" ∧ ∃ o, K.lookup p = some o ∧ o.cls = .type "tuple" ∧ o.dict = none) ∨
      (T = "dict" ∧ ((∃ kvs, H p = some (.dK kvs)) ∨ ∃ kvs, H p = some (.dT kvs))) ∨ (T = "set" ∧ ∃ S n, H p = some (.set S n))
  | _ => False
theorem tyV_is {pins : List (Addr × Obj)} {σ : St} {H : Hp} {s : Shared} {T : String} {x : V} {v : Value} (I : Inv X pins σ H s) (r : RelV x v) (ty : tyV X.K T x H) :
    s.TypeIs v T ∧ ∀ a, v = .ref a → ∃ ob, s.heap.get? a = some ob ∧ ob.dict = none := by
  cases x with
  | str z =>
    obtain ⟨t, rfl⟩ := r
    cases (show T = "str" from ty)
    exact ⟨typeIs_str s z t, fun _ e => nomatch e⟩
  | int i =>
    obtain ⟨t, rfl⟩ := r
    cases (show T = "int" from ty)
    exact ⟨typeIs_int s i t, fun _ e => nomatch e⟩
  | ref p =>
    cases r
    rcases ty with ⟨rfl, xs, hq⟩ | ⟨rfl, o, hk, hc, hd⟩ | ⟨rfl, hk⟩ | ⟨rfl, S, n, hk⟩
    · obtain ⟨its, _, pl, _⟩ := I.list hq
      refine ⟨pl.isList.typeIs, fun a e => ?_⟩
      cases e
      obtain ⟨o, n, e, c, hd, _⟩ := pl
      exact ⟨o, e, hd⟩
    · refine ⟨⟨o, I.kIn p o hk, hc⟩, fun a e => ?_⟩
      cases e
      exact ⟨o, I.kIn _ o hk, hd⟩
    · have z : ∃ o, s.heap.get? p = some o ∧ o.ExactDict := by
        rcases hk with ⟨kvs, hk⟩ | ⟨kvs, hk⟩
        · obtain ⟨_, _, _, _, o, _, _, e, ex, _⟩ := I.hok p _ hk
          exact ⟨o, e, ex⟩
        · obtain ⟨_, _, _, _, o, _, _, e, ex, _⟩ := I.hok p _ hk
          exact ⟨o, e, ex⟩
      obtain ⟨o, e, ex⟩ := z
      refine ⟨⟨o, e, ex.1⟩, fun a e2 => ?_⟩
      cases e2
      exact ⟨o, e, ex.2.1⟩
    · obtain ⟨o, _, _, _, e, ex, _⟩ := I.hok p _ hk
      refine ⟨⟨o, e, ex.1⟩, fun a e2 => ?_⟩
      cases e2
      exact ⟨o, e, ex.2.1⟩
  | _ => exact False.elim ty
def tBM0 (K : PySem.W.Frag) (T : String) (r : V → List V → Hp → VK → Prop) (to : TE) : TE := fun σ H Q => to σ H fun x H1 => tyV K T x H1 ∧ r x [] H1 Q
def tBM (K : PySem.W.Frag) (T : String) (r : V → List V → Hp → VK → Prop) (to : TE) (t : TA) : TE := fun σ H Q => to σ H fun x H1 => tyV K T x H1 ∧ t σ H1 fun xs H2 => r x xs H2 Q
variable {o e : Expr} {es : List Expr} {to : TE} {t : TA} {name : Str} {apos cpos : Pos} {T id : String} {r : V → List V → Hp → VK → Prop}
theorem pe_bm0 (pa : PlainAttrs T) (slot : Slot T name id) (hty : typeOf (.builtin id) = pure (.type "method_descriptor")) (hm : MtR X id r) (ho : PE X o to)
    (hbase : attributeBase o name X.env (eval o X.env) = eval o X.env := by rfl) (hline : (apos.endLine == cpos.line) = true := by rfl) : PE X (.Call (.Attribute o name apos) [] [] cpos) (tBM0 X.K T r to) := by
  intro pins s σ H Q I h
  refine wpAny_Call_method0_late hbase hline (thn (ho pins s σ H _ I h) fun v s1 ⟨x, H1, I1, r1, ty, q1⟩ => ?_)
  obtain ⟨h1, h2⟩ := tyV_is I1 r1 ty
  exact ⟨T, id, pa, slot, hty, h1, h2, Calls.callWith_builtin rfl (PySem.evalArgs_none (hm pins s1 σ H1 x [] v [] Q I1 r1 .nil q1))⟩
theorem pe_bm (pa : PlainAttrs T) (slot : Slot T name id) (hty : typeOf (.builtin id) = pure (.type "method_descriptor")) (hm : MtR X id r) (ho : PE X o to) (ha : PA X (e :: es) t)
    (hbase : attributeBase o name X.env (eval o X.env) = eval o X.env := by rfl)
    (hfew : ((backTo cpos (starEach (e :: es) X.env)).all (fun x => !x.1) && (backToKw cpos (keywordEach [] X.env)).all (fun x => x.1.isSome)
      && decide ((e :: es).length + ([] : List Keyword).length + (if ([] : List Keyword).isEmpty then 0 else 1) < 30)) = true := by rfl)
    (hline : (apos.endLine == cpos.line) = true := by rfl) (hs : starEach (e :: es) X.env = (false, eval e X.env) :: starEach es X.env := by rfl) (hplain : (backTo cpos (starEach es X.env)).any (·.1) = false := by rfl) :
    PE X (.Call (.Attribute o name apos) (e :: es) [] cpos) (tBM X.K T r to t) := by
  intro pins s σ H Q I h
  refine wpAny_Call_method_late hbase hfew hline rfl (thn (ho pins s σ H _ I h) fun v s1 ⟨x, H1, I1, r1, ty, q1⟩ => ?_)
  obtain ⟨h1, h2⟩ := tyV_is I1 r1 ty
  refine ⟨T, id, pa, slot, hty, h1, h2, ?_⟩
  have hA := ha cpos pins s1 σ H1 _ I1 q1
  rw [hs] at hA ⊢
  refine Calls.callWith_builtin (by show (false || (backTo cpos (starEach es X.env)).any (·.1)) = false; rw [hplain] <;> rfl) (Calls.evalArgs_plain ?_)
  exact thn hA fun us s2 ⟨vs, H2, I2, r2, q2⟩ => hm pins s2 σ H2 x vs v us Q I2 r1 r2 q2
/- xs.append(e), list.index on a module's tuple .. are MtR facts of 06m -/
end
end L2

namespace L2
open PySem PySem.Spec PyProof.Rows

def MtM (X : Cx) (id : String) (r : V → List V → Hp → VK → Prop) : Prop :=
  ∀ (pins : List (Addr × Obj)) (s : Shared) (σ : St) (H : Hp) (x : V) (xs : List V) (v : Value) (us : List Value) (Q : VK), Inv X pins σ H s → RelV x v → Vals xs us → r x xs H Q →
    wpAny (model X.prog X.w) X.A (call (.builtin id) (v :: us)) (EP X pins σ Q) X.xe s

theorem Vals.one : ∀ {x : V} {us : List Value}, Vals [x] us → ∃ u, us = [u] ∧ RelV x u
  | _, _, .cons r .nil => ⟨_, rfl, r⟩
theorem Vals.two : ∀ {x y : V} {us : List Value}, Vals [x, y] us → ∃ u v, us = [u, v] ∧ RelV x u ∧ RelV y v
  | _, _, _, .cons r (.cons q .nil) => ⟨_, _, rfl, r, q⟩
theorem Vals.zero : ∀ {us : List Value}, Vals [] us → us = []
  | _, .nil => rfl
theorem Vals.dropLast {xs : List V} {us : List Value} (h : Vals xs us) : Vals xs.dropLast us.dropLast := by
  induction h with
  | nil => exact .nil
  | cons r t ih =>
    cases t with
    | nil => exact .nil
    | cons q t' => exact .cons r ih
theorem Vals.eraseIdx : ∀ {xs : List V} {us : List Value} (i : Nat), Vals xs us → Vals (xs.eraseIdx i) (us.eraseIdx i)
  | _, _, _, .nil => .nil
  | _, _, 0, .cons _ t => t
  | _, _, i + 1, .cons r t => .cons r (Vals.eraseIdx i t)
theorem Vals.reverse {xs : List V} {us : List Value} (h : Vals xs us) : Vals xs.reverse us.reverse := by
  induction h with
  | nil => exact .nil
  | cons r t ih => rw [List.reverse_cons, List.reverse_cons]; exact Vals.append ih (.cons r .nil)
theorem erase_last {α : Type} (l : List α) : l.eraseIdx (l.length - 1) = l.dropLast := by
  induction l with
  | nil => rfl
  | cons a r ih =>
    cases r with
    | nil => rfl
    | cons b r =>
      have e : (a :: b :: r).length - 1 = ((b :: r).length - 1) + 1 := by
        have h1 : (a :: b :: r).length = r.length + 2 := rfl
        have h2 : (b :: r).length = r.length + 1 := rfl
        omega
      rw [e, List.eraseIdx_cons_succ, ih]
      all_goals rfl
theorem len_erase {α : Type} : ∀ (l : List α) (i : Nat), (l.eraseIdx i).length ≤ l.length
  | [], _ => Nat.le_refl _
  | _ :: _, 0 => Nat.le_succ _
  | _ :: r, i + 1 => Nat.succ_le_succ (len_erase r i)
section
variable {X : Cx} {pins : List (Addr × Obj)} {σ : St} {H : Hp} {s : Shared} {l b : Addr} {xs ys zs : List V}

theorem Inv.lset {its its' : List Value} {n : Nat} {f : Array Value → Array Value} {t' : Nat} (I : Inv X pins σ H s) (hH : H l = some (.lst xs))
    (e : s.heap.get? l = some { cls := .type "list", data := .seq its.toArray n }) (hf : f its.toArray = its'.toArray) (hv : Vals ys its') (hz : ys.length ≤ sizeLine) :
    Inv X pins σ (upd H l (.lst ys)) { s with heap := s.heap.update l (Obj.mapSeq f), toks := t' } := by
  have q := PySem.IsL.update e f
  rw [hf] at q
  refine I.write (x := l) (e := l) (by rw [hH]; exact trivial) (.inl rfl) (fun b' u hb hu => (Heap.get?_update_other s.heap (Obj.mapSeq f) (Ne.symm hb)).trans hu) ⟨_, q⟩ ?_
  exact ⟨hz, its', _, hv, q⟩
theorem Inv.lnew {its : List Value} {t' : Nat} (I : Inv X pins σ H s) (hv : Vals ys its) (hz : ys.length ≤ sizeLine) :
    Inv X pins σ (upd H s.heap.objs.size (.lst ys)) { s with heap := s.heap.push { cls := .type "list", data := .seq its.toArray }, toks := t' } :=
  I.laid (fun _ _ q => Heap.get?_push_of_some _ q) (Nat.le_refl _) ⟨hz, its, 0, hv, Heap.get?_push_size _ rfl⟩
theorem Inv.fresh (I : Inv X pins σ H s) : H s.heap.objs.size = none := I.hok.fresh (Nat.le_refl _)
theorem Inv.lstM (I : Inv X pins σ H s) (hH : H l = some (.lst xs)) : xs.length ≤ sizeLine ∧ ∃ (its : List Value) (n : Nat), Vals xs its ∧ xs.length = its.length ∧ s.heap.get? l = some { cls := .type "list", data := .seq its.toArray n } := by
  obtain ⟨z, its, n, r, e⟩ := I.hok l _ hH
  exact ⟨z, its, n, r, r.length, e⟩

theorem notLongL {n : Nat} (h : n ≤ sizeLine) : Builtin.List.listTooLong n = false := by
  unfold Builtin.List.listTooLong
  exact decide_eq_false (by omega)
end

section
variable {X : Cx}

def rAppend : V → List V → Hp → VK → Prop := fun x vs H Q => ∃ l xs y, x = .ref l ∧ vs = [y] ∧ H l = some (.lst xs) ∧ xs.length < sizeLine ∧ Q .non (upd H l (.lst (xs ++ [y])))
theorem mt_append : MtM X "list.append" rAppend := by
  intro pins s σ H x vs v us Q I rx rv h
  obtain ⟨l, xs, y, rfl, rfl, hH, hz, q⟩ := h
  cases rx
  obtain ⟨u, rfl, ru⟩ := rv.one
  obtain ⟨z, its, n, r, hl, e⟩ := I.lstM hH
  refine call_meets F.slot_list_append ⟨_, e, rfl⟩ F.entry_list_append (F.args_list_append_2 _ _) (PySem.list_append l its.toArray n u (by rw [List.size_toArray]; omega)) ⟨e, ?_⟩
  refine ⟨.non, _, I.lset (its' := its ++ [u]) hH e (by simp) (r.append (.cons ru .nil)) ?_, rfl, q⟩
  rw [List.length_append, List.length_singleton]
  omega

def rExtend : V → List V → Hp → VK → Prop := fun x vs H Q => ∃ l b xs zs, x = .ref l ∧ vs = [.ref b] ∧ H l = some (.lst xs) ∧ H b = some (.lst zs) ∧ xs.length + zs.length ≤ sizeLine ∧ Q .non (upd H l (.lst (xs ++ zs)))
theorem mt_extend : MtM X "list.extend" rExtend := by
  intro pins s σ H x vs v us Q I rx rv h
  obtain ⟨l, b, xs, zs, rfl, rfl, hH, hB, hz, q⟩ := h
  cases rx
  obtain ⟨u, rfl, ru⟩ := rv.one
  cases ru
  obtain ⟨z, its, n, r, hl, e⟩ := I.lstM hH
  obtain ⟨z2, its2, n2, r2, hl2, e2⟩ := I.lstM hB
  have hsz : its.toArray.size + its2.toArray.size ≤ sizeLine := by rw [List.size_toArray, List.size_toArray]; omega
  have hlong : ¬ (!its.toArray.isEmpty && Builtin.List.listTooLong (its.toArray.size + its2.toArray.size)) = true := by
    rw [notLongL hsz, Bool.and_false]
    exact Bool.false_ne_true
  refine call_meets F.slot_list_extend ⟨_, e, rfl⟩ F.entry_list_extend (F.args_list_extend_2 _ _)
    (AutoSeq1.list_extend_list_list_0 l its.toArray n b its2.toArray n2 hlong (by rw [List.size_toArray]; omega) (by omega)) ⟨e, e2, ?_⟩
  refine ⟨.non, _, I.lset (its' := its ++ its2) hH e (by simp) (r.append r2) ?_, rfl, q⟩
  rw [List.length_append]
  omega

def rPop : V → List V → Hp → VK → Prop := fun x vs H Q => ∃ l xs y, x = .ref l ∧ vs = [] ∧ H l = some (.lst xs) ∧ xs[xs.length - 1]? = some y ∧ Q y (upd H l (.lst xs.dropLast))
theorem mt_pop : MtM X "list.pop" rPop := by
  intro pins s σ H x vs v us Q I rx rv h
  obtain ⟨l, xs, y, rfl, rfl, hH, hy, q⟩ := h
  cases rx
  have hus := rv.zero
  subst hus
  obtain ⟨z, its, n, r, hl, e⟩ := I.lstM hH
  obtain ⟨u, hu, ru⟩ := r.get hy
  have hy' : its.toArray[its.toArray.size - 1]? = some u := by
    show its.toArray[its.length - 1]? = some u
    rw [← Array.getElem?_toList, ← hl]
    exact hu
  refine call_meets F.slot_list_pop ⟨_, e, rfl⟩ F.entry_list_pop (F.args_list_pop_1 _) (MeetsSeq.list_pop_last l its.toArray n u hy' (by rw [List.size_toArray]; omega)) ⟨e, ?_⟩
  refine ⟨y, _, I.lset (its' := its.dropLast) hH e ?_ r.dropLast ?_, ru, q⟩
  · show its.toArray.eraseIdxIfInBounds (its.toArray.size - 1) = its.dropLast.toArray
    rw [List.size_toArray, List.eraseIdxIfInBounds_toArray, erase_last]
  · rw [List.length_dropLast]
    omega

def rPopAt : V → List V → Hp → VK → Prop := fun x vs H Q => ∃ l xs i k y, x = .ref l ∧ vs = [.int i] ∧ H l = some (.lst xs) ∧ -(2 ^ 63) ≤ i ∧ i < 2 ^ 63 ∧ seqIndex? i xs.length = some k ∧ xs[k]? = some y ∧ Q y (upd H l (.lst (xs.eraseIdx k)))
theorem mt_popAt : MtM X "list.pop" rPopAt := by
  intro pins s σ H x vs v us Q I rx rv h
  obtain ⟨l, xs, i, k, y, rfl, rfl, hH, h1, h2, hk, hy, q⟩ := h
  cases rx
  obtain ⟨u, rfl, ru⟩ := rv.one
  obtain ⟨t, rfl⟩ := ru
  obtain ⟨z, its, n, r, hl, e⟩ := I.lstM hH
  obtain ⟨w, hw, rw'⟩ := r.get hy
  refine call_meets F.slot_list_pop ⟨_, e, rfl⟩ F.entry_list_pop (F.args_list_pop_2 _ _)
    (MeetsSeq.list_pop_at l its.toArray n i t k w (fitsIndex_both h1 h2) (by rw [List.size_toArray, ← hl]; exact hk) (by rw [← Array.getElem?_toList]; exact hw) (by rw [List.size_toArray]; omega)) ⟨e, ?_⟩
  refine ⟨y, _, I.lset (its' := its.eraseIdx k) hH e ?_ (r.eraseIdx k) ?_, rw', q⟩
  · show its.toArray.eraseIdxIfInBounds k = (its.eraseIdx k).toArray
    rw [List.eraseIdxIfInBounds_toArray]
  · have := len_erase xs k
    omega

def rReverse : V → List V → Hp → VK → Prop := fun x vs H Q => ∃ l xs, x = .ref l ∧ vs = [] ∧ H l = some (.lst xs) ∧ Q .non (upd H l (.lst xs.reverse))
def rClear : V → List V → Hp → VK → Prop := fun x vs H Q => ∃ l xs, x = .ref l ∧ vs = [] ∧ H l = some (.lst xs) ∧ Q .non (upd H l (.lst []))
theorem mt_clear : MtM X "list.clear" rClear := by
  intro pins s σ H x vs v us Q I rx rv h
  obtain ⟨l, xs, rfl, rfl, hH, q⟩ := h
  cases rx
  have hus := rv.zero
  subst hus
  obtain ⟨z, its, n, r, hl, e⟩ := I.lstM hH
  refine call_meets F.slot_list_clear ⟨_, e, rfl⟩ F.entry_list_clear (F.args_list_clear_1 _) (AutoSeq1.list_clear_list_0 l its.toArray n (by rw [List.size_toArray]; omega)) ⟨e, ?_⟩
  exact ⟨.non, _, I.lset (its' := []) (ys := []) hH e rfl .nil (Nat.zero_le _), rfl, q⟩

def rCat : R2 := fun x y H Q => ∃ l b xs zs, x = .ref l ∧ y = .ref b ∧ H l = some (.lst xs) ∧ H b = some (.lst zs) ∧ xs.length + zs.length ≤ sizeLine ∧ ∀ p, H p = none → Q (.ref p) (upd H p (.lst (xs ++ zs)))
theorem op_cat : OpR X (binaryOp .Add) rCat := by
  intro pins s σ H x y v u Q I rx ry h
  obtain ⟨l, b, xs, zs, rfl, rfl, hH, hB, hz, q⟩ := h
  cases rx
  cases ry
  obtain ⟨z, its, n, r, hl, e⟩ := I.lstM hH
  obtain ⟨z2, its2, n2, r2, hl2, e2⟩ := I.lstM hB
  refine PySem.P.add_list e e2 ?_ (by rw [List.size_toArray, List.size_toArray]; omega)
  have ea : its.toArray ++ its2.toArray = (its ++ its2).toArray := by simp
  rw [ea]
  exact ⟨.ref _, _, I.lnew (t' := s.toks) (r.append r2) (by rw [List.length_append]; omega), rfl, q _ I.fresh⟩
def rRep : R2 := fun x y H Q => ∃ l k xs, x = .ref l ∧ y = .int k ∧ H l = some (.lst xs) ∧ -(2 ^ 63) ≤ k ∧ k < 2 ^ 63 ∧ xs.length * k.toNat ≤ sizeLine ∧
  ∀ p, H p = none → Q (.ref p) (upd H p (.lst (List.replicate k.toNat xs).flatten))
end

section
variable {prog : Program} {w : World} {A : Around} {E : Value → Shared → Prop} {s : Shared}
end

section
variable {X : Cx}
end
end L2

namespace Att
open PySem PySem.W PySem.Calls PyProof.Rows

theorem ints_of_wellAll {P : Params} {h : Heap} : ∀ (ns : List Int) (vs : List Value), WellAll P h vs (ns.map WData.int) → IntsAre vs ns := by
  intro ns
  induction ns with
  | nil =>
    intro vs w
    rw [List.map_nil] at w
    cases w
    exact .nil
  | cons n ns ih =>
    intro vs w
    rw [List.map_cons] at w
    cases w with
    | cons a b =>
      cases a
      exact .cons _ _ (ih _ b)

theorem script_of {l : OpenLaw} {n : Nat} (hn : l.most = some n) {P : Params} {h : Heap} {args : List WData} {vals : List Value}
    (hpre : l.row.toRowW.claim.pre args = true) (hwl : WellAll P h vals args) :
    ∃ a vs ns, vals = [Value.ref a] ∧ args = [WData.list (ns.map WData.int)] ∧ h.get? a = some { cls := .type "list", data := .seq vs.toArray } ∧ IntsAre vs ns ∧ ns.length ≤ n := by
  have hsh : WShape.hasAll [] args [.list .int] = true := (pre_splitW hpre).1
  have hc : l.pre.holds [] { args := args } = true := (pre_splitW hpre).2
  obtain ⟨d, r, rfl, h1, h2⟩ := hasAllW_cons hsh
  obtain rfl := hasAllW_nil h2
  obtain ⟨xs, rfl, h3⟩ := hasW_list h1
  obtain ⟨ns, rfl⟩ := items_int h3
  have hlen : ns.length ≤ n := by
    unfold OpenLaw.pre at hc
    have h4 : (WTm.not (.lt (.lit (.int (n : Int))) (.len (.arg 0)))).holds [] { args := [.list (ns.map .int)] } = true := by
      have h4 := (holds_andW hc).1
      rw [hn] at h4
      exact h4
    have h5 := condW_of h4 (w_not (w_lt w_lit (w_len_list (w_arg rfl))))
    rw [List.length_map] at h5
    refine Nat.le_of_not_lt fun q => ?_
    have q' : (n : Int) < ((ns.length : Nat) : Int) := by omega
    first
      | (rw [decide_eq_true q'] at h5; exact absurd h5 (by decide))
      | (simp at h5; omega)
  cases hwl with
  | cons w1 w2 =>
    cases w2
    cases w1 with
    | list ho hall => exact ⟨_, _, ns, rfl, rfl, ho, ints_of_wellAll ns _ hall, hlen⟩

theorem post_true (l : OpenLaw) (args : List WData) : l.row.toRowW.claim.post args (.bool true) args = true :=
  postW_of (r := l.row.toRowW) (X := (true == true))
    (show WShape.has [] (.bool true) .bool = true by first | rfl | decide | simp [WShape.has, WShape.arms, WShape.armsAll])
    (show (WTm.eq .res (.lit (.bool true))).value [] { args := args, res := some (.bool true), after := args } = some (.bool (true == true)) from w_eq_bool (w_res rfl) w_lit) rfl

theorem attach_call {l : OpenLaw} {n : Nat} {q : Program} {loose : List Str} {XP : (Str → Option Value) → Heap → Prop} {YP : World → Heap → Prop} {d : DefRec}
    (hn : l.most = some n) (hdf : d.params.defaults = [])
    (call : ∀ (w : World) (s₀ s₁ : Shared) (mg mb : Str → Option Value) (fa : Addr) (o : Obj) (pm cd doc : Value) (a : Addr) (vs : List Value) (ns : List Int),
      Ground q loose [] XP w s₀ mg mb s₁.heap → YP w s₁.heap →
      s₁.heap.get? fa = some o → o.data = .func (docDef d.name d.params d.body d.scope pm cd doc) → s₁.heap.CodeRec cd d.name → mg d.name = some (.ref fa) →
      s₁.heap.get? a = some { cls := .type "list", data := .seq vs.toArray } → IntsAre vs ns → ns.length ≤ n → s₁.gens = #[] →
      codeAny (model l.prog w) callerA (.call (.ref fa) ⟨[.ref a], []⟩) (fun r s' => r = .ok (.ret (.bool true)) ∧ OldK s₁.heap s'.heap ∧ s'.os = s₁.os ∧ AllBare s'.gens) s₁) :
    WalkO q loose XP YP l.row.toRowW d [] (fun f vs => PySem.call f vs) := by
  intro w s₀ s₁ mg mb G Y fa o pm cd doc dV kV ho hd hcd hD hmg hg args vals as hpre hlay hrd hwl hlo
  obtain rfl : dV = .none := Dflts.none hD hdf
  obtain rfl : kV = .none := Dflts.noKw hD
  obtain ⟨a, vs, ns, rfl, rfl, hobj, hints, hlen⟩ := script_of hn hpre hwl
  refine enter_call (codeAny_mono (call w s₀ s₁ mg mb fa o pm cd doc a vs ns G Y ho (fd_plain hd) hcd hmg hobj hints hlen hg) fun r s' hq => ?_)
  obtain ⟨rfl, h2, h3, h4⟩ := hq
  exact ⟨.inl ⟨.bool true, .bool true, [], rfl, fun _ => rfl, .bool true, post_true l _, fun _ => ⟨List.Pairwise.nil, fun _ hm => (nomatch hm)⟩⟩, h2, h3, h4⟩

section
variable {prog : Program} {w : World} {A : Around} {E : Value → Shared → Prop} {s : Shared} {K : Frag}

def noObjs (h : Heap) : Heap := { h with objs := #[] }
def ledger (h : Heap) (L d : Addr) : List (Addr × Obj) := (List.range h.objs.size).filterMap fun a => if a = L ∨ a = d then none else (h.get? a).map fun o => (a, o)
end
end Att

namespace L2
open PySem PySem.Spec PyProof.Rows

theorem vals_ints : ∀ {vs : List Value} {ns : List Int}, IntsAre vs ns → Vals (ns.map V.int) vs
  | _, _, .nil => .nil
  | _, _, .cons n t h => .cons ⟨t, rfl⟩ (vals_ints h)

def Only (H : Hp) : Prop := ∀ b, H b = none ∨ ∃ o xs, H b = some (.frz o (.lst xs))

theorem law_call {P : Program} {w : World} {K : PySem.W.Frag} {mg mb : Str → Option Value} {CX : CXT} {k : Nat} {fa a : Addr} {fd : FuncData} {x : Str} {sp : Sp} {s₁ : Shared} {vs : List Value} {ns : List Int}
    (KX : K.In s₁.heap) (hns : s₁.heap.Ns mainGlobals mg) (hb : s₁.heap.Ns builtinsNs mb) (hbb : ∀ x : Str, x ≠ "__name__" → mb x = bootBuiltins x) (hlim : s₁.heap.NoLimit) (hg : s₁.gens = #[])
    (ha : s₁.heap.get? a = some { cls := .type "list", data := .seq vs.toArray }) (hi : IntsAre vs ns) (hl : ns.length ≤ sizeLine) (hr : Room k callerA)
    (F : ∀ base : Heap, K.In base → base.Ns mainGlobals mg → FnOk P w K mg base CX k fa fd [x] sp) (hbind : ∀ (s : Shared) (u : Value), BindsTo s fd ⟨[u], []⟩ [(x, u)])
    (hsp : ∀ H : Hp, Only H → SqL K H a (ns.map V.int) → sp [.ref a] H (fun v _ => v = .bl true) fun _ _ _ => False)
    (hCX : ∀ H e s', CX [] H s₁ (fun _ _ _ => False) e s' → False) :
    codeAny (model P w) callerA (.call (.ref fa) ⟨[.ref a], []⟩) (fun r s' => r = .ok (.ret (.bool true)) ∧ OldK s₁.heap s'.heap ∧ s'.os = s₁.os ∧ AllBare s'.gens) s₁ := by
  have rv := vals_ints hi
  have lenV := hi.length
  -- from an abstract heap in which nothing but the script may be tracked
  have core : ∀ H : Hp, Only H → SqL K H a (ns.map V.int) → HOk P w H s₁.heap → (∀ b, H b ≠ none → b = a) → (H a ≠ none → K.lookup a = none) →
      codeAny (model P w) callerA (.call (.ref fa) ⟨[.ref a], []⟩) (fun r s' => r = .ok (.ret (.bool true)) ∧ OldK s₁.heap s'.heap ∧ s'.os = s₁.os ∧ AllBare s'.gens) s₁ := by
    intro H hO hS hok hA hK
    have base_of : ∀ {b : Addr} {o : Obj}, s₁.heap.get? b = some o → H b = none → (hidT s₁.heap H).get? b = some o := fun e n => hidT_get e n
    have noA : ∀ {b : Addr} {o : Obj} {es : Array DictEntry} {ep : Nat}, s₁.heap.get? b = some o → o.data = .dict es ep → H b = none := fun {b o es ep} e d => by
      cases q : H b with
      | none => rfl
      | some u =>
        have e' : b = a := hA b (by rw [q]; simp)
        subst e'
        rw [ha] at e; cases e
        have d' : Data.seq vs.toArray _ = Data.dict es ep := d
        cases d'
    have nsK : ∀ {b : Addr} {m : Str → Option Value}, s₁.heap.Ns b m → (hidT s₁.heap H).Ns b m := fun {b m} ⟨o, es, ep, e, d, r⟩ => ⟨o, es, ep, base_of e (noA e d), d, r⟩
    have hKb : K.In (hidT s₁.heap H) := fun b o e => base_of (KX b o e) (by
      cases q : H b with
      | none => rfl
      | some u =>
        have e' : b = a := hA b (by rw [q]; simp)
        subst e'
        rw [hK (by rw [q]; simp)] at e; cases e)
    have hM : Mod K mg (hidT s₁.heap H) := ⟨hKb, nsK hns, ⟨mb, nsK hb, hbb⟩, let ⟨mc, h1, h2⟩ := hlim; ⟨mc, nsK h1, h2⟩⟩
    have e0 : Env0 P w K mg (hidT s₁.heap H) callerA [] s₁ H := ⟨rfl, hM, fun b o e => of_hidT e, Nat.le_of_eq (hidT_size _ _), trivial, fun b hb => absurd (show b ∈ ([] : List Addr) from hb) (by simp), hok, .of_eq hg⟩
    refine codeAny_mono ((F _ hKb (nsK hns)).run callerA [] s₁ H ⟨[.ref a], []⟩ [.ref a] [.ref a] _ _ hr e0 (hbind s₁ (.ref a)) (.cons rfl .nil) (hsp H hO hS)) fun r s' h => ?_
    cases r with
    | error e => exact (hCX H e s' h).elim
    | ok fl =>
      cases fl with
      | next => exact False.elim h
      | brk => exact False.elim h
      | cont => exact False.elim h
      | ret u =>
        obtain ⟨v, H', os, bare, un, hok', r', q⟩ := h
        have q' : v = .bl true := q
        subst q'
        obtain rfl : u = Value.bool true := r'
        refine ⟨rfl, OldK.of_keep fun b o e => ?_, os, bare⟩
        cases q : H b with
        | none => exact un.keep b o e q (by intro z; exact absurd (show b ∈ ([] : List Addr) from z) (by simp)) (by simp)
        | some u =>
          rcases hO b with z | ⟨ob, xs, z⟩
          · rw [q] at z; cases z
          · have z2 := un.frzs b ob _ z
            obtain ⟨e1, _⟩ := hok b _ z
            obtain ⟨e2, _⟩ := hok' b _ z2
            rw [e] at e1; cases e1
            exact e2
  cases hk : K.lookup a with
  | some o =>
    -- the script is one of the module's own objects
    have e := KX a o hk
    rw [ha] at e
    cases e
    refine core (fun _ => none) (fun _ => .inl rfl) (.inr ⟨_, vs.toArray, _, hk, rfl, rfl, rfl, by rw [List.size_toArray, lenV]; exact hl, by simpa using rv⟩) (fun b u z => by have z' : (none : Option HO) = some u := z; cases z') (fun b z => absurd rfl z) fun z => absurd rfl z
  | none =>
    refine core (fun b => if b = a then some (.frz { cls := .type "list", data := .seq vs.toArray } (.lst (ns.map V.int))) else none) (fun b => ?_) (.inl (.inr ⟨{ cls := .type "list", data := .seq vs.toArray }, if_pos rfl⟩)) (fun b u z => ?_) (fun b z => ?_) fun _ => hk
    · by_cases hb : b = a
      · exact .inr ⟨_, _, if_pos hb⟩
      · exact .inl (if_neg hb)
    · by_cases hb : b = a
      · have z' := (if_pos hb).symm.trans z
        cases z'
        subst hb
        exact ⟨ha, by rw [List.length_map]; exact hl, vs, _, rv, ha⟩
      · have z' := (if_neg hb).symm.trans z
        cases z'
    · by_cases hb : b = a
      · exact hb
      · exact absurd (if_neg hb) z
end L2

namespace L2
open PySem PySem.Spec PyProof.Rows

abbrev KOf {K : PySem.W.Frag} {h : Heap} (_ : K.In h) : PySem.W.Frag := K

theorem walk_of {l : PySem.W.OpenLaw} {n k : Nat} {q : Program} {loose : List Str} {XP : (Str → Option Value) → Heap → Prop} {YP : World → Heap → Prop} {d : DefRec} {K : Params → PySem.W.Frag} {CX : World → CXT} {sp : World → Sp} {x : Str}
    (hn : l.most = some n) (hn2 : n ≤ sizeLine) (hdf : d.params.defaults = []) (hr : Room k callerA)
    (hY : ∀ (w : World) (h : Heap), YP w h → (K w.params).In h)
    (F : ∀ (w : World) (mg : Str → Option Value) (fa : Addr) (h : Heap), (K w.params).In h → h.Ns mainGlobals mg → mg d.name = some (.ref fa) →
      ∃ fd : FuncData, (∀ (s : Shared) (u : Value), BindsTo s fd ⟨[u], []⟩ [(x, u)]) ∧
        ∀ base : Heap, (K w.params).In base → base.Ns mainGlobals mg → FnOk l.prog w (K w.params) mg base (CX w) k fa fd [x] (sp w))
    (hsp : ∀ (w : World) (H : Hp) (a : Addr) (ns : List Int), ns.length ≤ n → Only H → SqL (K w.params) H a (ns.map V.int) → sp w [.ref a] H (fun v _ => v = .bl true) fun _ _ _ => False)
    (hCX : ∀ (w : World) (H : Hp) (s : Shared) (e : Value) (s' : Shared), CX w [] H s (fun _ _ _ => False) e s' → False) :
    PySem.W.WalkO q loose XP YP l.row.toRowW d [] (fun f vs => PySem.call f vs) := by
  refine Att.attach_call hn hdf fun w s₀ s₁ mg mb fa o pm cd doc a vs ns G Y ho hd hcd hmg hobj hints hlen hg => ?_
  have KX := hY w _ Y
  obtain ⟨fd, hb, hF⟩ := F w mg fa _ KX G.T.g hmg
  exact law_call KX G.T.g G.T.b G.T.builtins G.T.nolimit hg hobj hints (Nat.le_trans hlen hn2) hr hF hb (fun H hO hS => hsp w H a ns hlen hO hS) fun H e s' => hCX w H s₁ e s'
end L2

/- THE LAST THEOREM (shape; LID, My.* are yours):
   My.Adr: a structure of the addresses that your layer names (classes, functions); My.Txt K t: a structure (Prop) of the equations over K;
   My.txt_mk : {K} {implicit addresses ..} (e1 : nsIn K mainGlobals "law" = some (some (.ref f))) (e2 : K.lookup f = some ⟨oc, od, .func (fnOf "law" "law" params body scope dV kV doc pm an cdv ct), sl⟩) (e3 : codeIn K cdv "law" = true) .. : ∃ t, My.Txt K t

set_option maxRecDepth 100000 in
set_option maxHeartbeats 0 in
theorem PySem.Challenge.cw_LID_holds : PySem.Challenge.rw_LID.Holds := by
  w_on; o_law; k_head; (case hw => w_witness2)
  k_fill
  refine L2.walk_of (l := PySem.Challenge.rw_LID) (n := 63) (k := 40) (x := "script") (CX := fun w => ..) (sp := fun _ => My.sp_law) rfl (by decide) rfl ⟨rfl, by decide, by decide⟩ (fun w h Y => PySem.W.kIn_of Y) ?F ?S ?C
  case F =>
    intro w mg fa h KX G hmg
    have T : ∃ t, My.Txt (L2.KOf KX) t := by
      dsimp only [L2.KOf]                          -- K must stand as «<heap const> w.params» for k_is
      refine' My.txt_mk ?e1 ?e2 ?e3 ..
      (case e1 => PySem.W.k_is)                    -- in the order: a name -> its address -> its object -> its parts
      (case e2 => PySem.W.k_is)
      ..
    obtain ⟨t, T⟩ := T
    have e0 := hmg.symm.trans (PySem.W.mg_of KX G T.law)
    cases e0                                       -- fa is the law's own address
    exact ⟨_, fun s u => .of_eq rfl, fun base kb nb => My.law_fn T kb nb⟩     -- if «.of_eq rfl» comes too early: refine' ⟨_, ?b, fun base kb nb => My.law_fn T kb nb⟩; exact fun s u => .of_eq rfl
  case S => exact fun w H a ns hl hO hS => ..
  case C => exact ..
(the tactic k_is has no namespace: write k_is) -/

namespace L2
open PySem PySem.Spec PyProof.Rows

def inClass (s : Stmt) (j : Nat) : Stmt := match s with
  | .ClassDef _ _ _ body _ _ _ _ _ _ _ => body.getD j (.Pass ⟨0, 0, 0, 0⟩)
  | _ => .Pass ⟨0, 0, 0, 0⟩
def defArgs (s : Stmt) : Arguments := match s with
  | .FunctionDef _ a _ _ _ _ _ _ _ _ => a
  | _ => { posonlyargs := [], args := [], vararg := none, kwonlyargs := [], kw_defaults := [], kwarg := none, defaults := [] }
def defBody (s : Stmt) : List Stmt := match s with
  | .FunctionDef _ _ b _ _ _ _ _ _ _ => b
  | _ => []
def defScope (s : Stmt) : Scope := match s with
  | .FunctionDef _ _ _ _ _ _ sc _ _ _ => sc
  | _ => { kind := .function, names := [], isGenerator := false, isCoroutine := false }

abbrev CX0 : CXT := fun _ _ _ _ _ _ => False
abbrev E0 : XK := fun _ _ _ => False
theorem pass0 {X : Cx} : Passes CX0 X E0 := fun _ _ _ _ _ _ _ h => h.elim

structure Fun (K : PySem.W.Frag) (x qual : Str) (st : Stmt) (f : Addr) (fd : FuncData) : Prop where
  ex : ∃ (oc : Value) (od : Option Addr) (kV doc pm : Value) (an : Option Addr) (cdv ct : Value) (osl : Array (Option Value)),
    fd = PySem.W.fnOf x qual (defArgs st) (defBody st) (defScope st) .none kV doc pm an cdv ct ∧ K.lookup f = some ⟨oc, od, .func fd, osl⟩ ∧ PySem.W.codeIn K cdv qual = true
  kp : PySem.W.keepIn K (.ref f) = true
section
variable {P : Program} {w : World} {K : PySem.W.Frag} {mg : Str → Option Value} {base : Heap}
theorem Fun.ok {x qual : Str} {st : Stmt} {f : Addr} {fd : FuncData} {N ps : List Str} {k : Nat} {sp : Sp} (F : Fun K x qual st f fd) (S : FnScope N ps (defScope st)) (len : ∀ vs H Q E, sp vs H Q E → vs.length = ps.length)
    (hbody : ∀ (cdv : Value) (A : Around) (outer : List Env) (s : Shared) (H : Hp) (vs : List V) (Q : VK) (E : XK), Room k (A.deeper (envOfC qual (defScope st) s.heap.objs.size f cdv)) → sp vs H Q E →
      ∃ t, PSs (cxOf CX0 P w K mg base N qual (defScope st) f cdv A outer s H E).nox (defBody st) t ∧ t { nx := fun _ H' => Q .non H', rt := Q } (start N vs) H) : FnOk P w K mg base CX0 (k + 1) f fd ps sp := by
  obtain ⟨oc, od, kV, doc, pm, an, cdv, ct, osl, rfl, lk, hcd⟩ := F.ex
  refine fn_of lk hcd S len fun A outer s H vs Q E hr hsp => ?_
  obtain ⟨t, h, q⟩ := hbody cdv A outer s H vs Q E hr hsp
  exact ⟨t, h.nox, q⟩
theorem Fun.binds {x qual : Str} {st : Stmt} {f : Addr} {fd : FuncData} {ps : List Str} (F : Fun K x qual st f fd)
    (h : ∀ (kV doc pm : Value) (an : Option Addr) (cdv ct : Value) (us : List Value), us.length = ps.length → bindArgs (PySem.W.fnOf x qual (defArgs st) (defBody st) (defScope st) .none kV doc pm an cdv ct) ⟨us, []⟩ = pure (ps.zip us)) : Binds K fd ps [] := by
  obtain ⟨oc, od, kV, doc, pm, an, cdv, ct, osl, rfl, lk, hcd⟩ := F.ex
  exact .all (h kV doc pm an cdv ct)
theorem fun_mk {x qual : Str} {st : Stmt} {f : Addr} {oc : Value} {od an : Option Addr} {osl : Array (Option Value)} {kV doc pm cdv ct : Value} (l : K.lookup f = some ⟨oc, od, .func (PySem.W.fnOf x qual (defArgs st) (defBody st) (defScope st) .none kV doc pm an cdv ct), osl⟩)
    (c : PySem.W.codeIn K cdv qual = true) (k : PySem.W.keepIn K (.ref f) = true) : Fun K x qual st f (PySem.W.fnOf x qual (defArgs st) (defBody st) (defScope st) .none kV doc pm an cdv ct) := ⟨⟨oc, od, kV, doc, pm, an, cdv, ct, osl, rfl, l, c⟩, k⟩
end
section
variable {X : Cx}
theorem pv (i : Nat) {x : Str} {pos : Pos} (hN : X.N[i]? = some x := by rfl) (hv : Vis X.env.scope x := by first | exact Or.inl rfl | exact Or.inr (Or.inl rfl) | exact Or.inr (Or.inr rfl)) (hd : (x == ("__debug__" : Str)) = false := by decide)
    (hcd : (x == ("__classdict__" : Str)) = false := by decide) : PE X (.Name x pos) (tVar i) := pe_var hN hv hd hcd
end

theorem iteF {A B : Prop} (h : B) : if false = true then A else B := by
  rw [if_neg Bool.false_ne_true]
  exact h
theorem iteT {A B : Prop} (h : A) : if true = true then A else B := by
  rw [if_pos rfl]
  exact h
theorem ite2 {c A B : Prop} [Decidable c] (h1 : c → A) (h2 : ¬ c → B) : if c then A else B := by
  by_cases h : c
  · rw [if_pos h]
    exact h1 h
  · rw [if_neg h]
    exact h2 h
def Same (H H' : Hp) : Prop := ∀ b o, H b = some o → H' b = some o
theorem Same.refl (H : Hp) : Same H H := fun _ _ h => h
theorem Same.trans {H H1 H2 : Hp} (a : Same H H1) (b : Same H1 H2) : Same H H2 := fun c o h => b c o (a c o h)
theorem Same.free {H H' : Hp} (e : Same H H') {l : Addr} (h : H' l = Option.none) : H l = Option.none := by
  cases q : H l with
  | none => rfl
  | some o =>
    rw [e l o q] at h
    cases h
theorem Same.seq {K : PySem.W.Frag} {H H' : Hp} {a : Addr} {xs : List V} (e : Same H H') (h : SqL K H a xs) : SqL K H' a xs := by
  rcases h with (h | ⟨o, h⟩) | h
  · exact .inl (.inl (e _ _ h))
  · exact .inl (.inr ⟨o, e _ _ h⟩)
  · exact .inr h

end L2

set_option Elab.async false
set_option linter.all false
set_option maxRecDepth 100000
set_option maxHeartbeats 4000000
namespace L2
open PySem PySem.Spec PyProof.Rows

def clOf (cells : List (Str × Addr)) : List (Str × NameKind) → List (Str × Addr) → List (Str × Addr)
  | [], cs => cs
  | x :: r, cs => clOf cells r (if x.2 = .free then ((cells.lookup x.1).map fun c => (x.1, c)).toList ++ cs else cs)

theorem closureFor_ok {scope : Scope} {env : Env} (h : ∀ x ∈ scope.names, x.2 = .free → ∃ c, env.cells.lookup x.1 = some c) :
    closureFor scope env = pure (clOf env.cells scope.names []) := by
  have key : ∀ (l : List (Str × NameKind)) (cs : List (Str × Addr)) (f : Str × NameKind → List (Str × Addr) → Sem (ForInStep (List (Str × Addr)))),
      (∀ x ∈ l, x.2 = .free → ∃ c, env.cells.lookup x.1 = some c) →
      (∀ x cs, f x cs = if (x.2 == NameKind.free) = true then (cellOf env x.1 >>= fun a => pure (ForInStep.yield ((x.1, a) :: cs))) else pure (ForInStep.yield cs)) →
      forIn l cs f = pure (clOf env.cells l cs) := by
    intro l
    induction l with
    | nil => intro cs f _ _; rfl
    | cons x r ih =>
      intro cs f hx hf
      rw [List.forIn_cons, hf]
      by_cases hk : x.2 = .free
      · obtain ⟨c, hc⟩ := hx x List.mem_cons_self hk
        rw [if_pos (by simp [hk])]
        have e : cellOf env x.1 = pure c := by unfold cellOf; rw [hc]
        rw [e]
        simp only [pure_bind]
        rw [ih _ f (fun y hy => hx y (List.mem_cons_of_mem _ hy)) hf]
        show _ = pure (clOf env.cells r (if x.2 = .free then ((env.cells.lookup x.1).map fun c => (x.1, c)).toList ++ cs else cs))
        rw [if_pos hk, hc]
        rfl
      · rw [if_neg (by simp [hk])]
        simp only [pure_bind]
        rw [ih _ f (fun y hy => hx y (List.mem_cons_of_mem _ hy)) hf]
        show _ = pure (clOf env.cells r (if x.2 = .free then ((env.cells.lookup x.1).map fun c => (x.1, c)).toList ++ cs else cs))
        rw [if_neg hk]
  simp only [closureFor]
  rw [key scope.names [] _ h (fun x cs => by obtain ⟨n, k⟩ := x; rfl)]
  first | rfl | simp only [pure_bind]

theorem clOf_in {cells : List (Str × Addr)} : ∀ (l : List (Str × NameKind)) (cs : List (Str × Addr)) {x : Str} {c : Addr}, (clOf cells l cs).lookup x = some c → cs.lookup x = some c ∨ cells.lookup x = some c
  | [], _, _, _, h => .inl h
  | y :: r, cs, x, c, h => by
    have h' : (clOf cells r (if y.2 = .free then ((cells.lookup y.1).map fun c => (y.1, c)).toList ++ cs else cs)).lookup x = some c := h
    rcases clOf_in r _ h' with q | q
    · by_cases hk : y.2 = .free
      · rw [if_pos hk] at q
        cases hl : cells.lookup y.1 with
        | none => rw [hl] at q; exact .inl q
        | some d =>
          rw [hl] at q
          have q' : (((y.1, d) :: cs).lookup x) = some c := q
          rw [List.lookup_cons] at q'
          cases hb : x == y.1 with
          | true =>
            rw [hb] at q'
            have e := eq_of_beq hb
            subst e
            right
            rw [hl]
            exact q'
          | false => rw [hb] at q'; exact .inl q'
      · rw [if_neg hk] at q
        exact .inl q
    · exact .inr q

theorem clOf_has {cells : List (Str × Addr)} : ∀ (l : List (Str × NameKind)) (cs : List (Str × Addr)) (x : Str), ((x, NameKind.free) ∈ l ∧ ∃ c, cells.lookup x = some c) ∨ (∃ c, cs.lookup x = some c) → ∃ c, (clOf cells l cs).lookup x = some c
  | [], cs, x, h => by
    rcases h with ⟨q, _⟩ | q
    · cases q
    · exact q
  | y :: r, cs, x, h => by
    show ∃ c, (clOf cells r (if y.2 = .free then ((cells.lookup y.1).map fun c => (y.1, c)).toList ++ cs else cs)).lookup x = some c
    apply clOf_has r
    rcases h with ⟨q, c, hc⟩ | ⟨c, hc⟩
    · rcases List.mem_cons.mp q with q | q
      · right
        subst q
        rw [if_pos rfl, hc]
        refine ⟨c, ?_⟩
        show ((x, c) :: cs).lookup x = some c
        rw [List.lookup_cons]
        simp
      · exact .inl ⟨q, c, hc⟩
    · right
      by_cases hk : y.2 = .free
      · rw [if_pos hk]
        cases hl : cells.lookup y.1 with
        | none => exact ⟨c, hc⟩
        | some d =>
          show ∃ c, ((y.1, d) :: cs).lookup x = some c
          rw [List.lookup_cons]
          cases hb : x == y.1 with
          | true => exact ⟨d, rfl⟩
          | false => exact ⟨c, hc⟩
      · rw [if_neg hk]; exact ⟨c, hc⟩

theorem relabel_of {env : Env} : ∀ {names : List (Str × NameKind)} {x : Str} {k' : NameKind},
    (names.map fun (n, k) => if (k == NameKind.free && env.scope.kind == .function && env.kindOf n == some .cell) then (n, NameKind.cell) else (n, k)).lookup x = some k' →
    ∃ k, (x, k) ∈ names ∧ (k = k' ∨ (k = .free ∧ k' = .cell))
  | [], _, _, h => by simp at h
  | (n, k) :: r, x, k', h => by
    have ih := @relabel_of env r x k'
    have h' : List.lookup x ((if (k == NameKind.free && env.scope.kind == .function && env.kindOf n == some .cell) = true then (n, NameKind.cell) else (n, k)) :: _) = some k' := h
    by_cases hc : (k == NameKind.free && env.scope.kind == .function && env.kindOf n == some .cell) = true
    · rw [if_pos hc, List.lookup_cons] at h'
      cases hb : x == n with
      | true =>
        rw [hb] at h'
        have e := eq_of_beq hb
        subst e
        cases h'
        refine ⟨k, List.mem_cons_self, .inr ⟨?_, rfl⟩⟩
        simp only [Bool.and_eq_true] at hc
        exact eq_of_beq hc.1.1
      | false =>
        rw [hb] at h'
        obtain ⟨k2, q, z⟩ := ih h'
        exact ⟨k2, List.mem_cons_of_mem _ q, z⟩
    · rw [if_neg hc, List.lookup_cons] at h'
      cases hb : x == n with
      | true =>
        rw [hb] at h'
        have e := eq_of_beq hb
        subst e
        cases h'
        exact ⟨k, List.mem_cons_self, .inl rfl⟩
      | false =>
        rw [hb] at h'
        obtain ⟨k2, q, z⟩ := ih h'
        exact ⟨k2, List.mem_cons_of_mem _ q, z⟩

theorem relabel_free {env : Env} : ∀ {names : List (Str × NameKind)} {x : Str}, names.lookup x = some .free →
    (names.map fun (n, k) => if (k == NameKind.free && env.scope.kind == .function && env.kindOf n == some .cell) then (n, NameKind.cell) else (n, k)).lookup x = some .cell ∨
    (names.map fun (n, k) => if (k == NameKind.free && env.scope.kind == .function && env.kindOf n == some .cell) then (n, NameKind.cell) else (n, k)).lookup x = some .free
  | [], _, h => by simp at h
  | (n, k) :: r, x, h => by
    have ih := @relabel_free env r x
    show List.lookup x ((if (k == NameKind.free && env.scope.kind == .function && env.kindOf n == some .cell) = true then (n, NameKind.cell) else (n, k)) :: _) = some .cell ∨
      List.lookup x ((if (k == NameKind.free && env.scope.kind == .function && env.kindOf n == some .cell) = true then (n, NameKind.cell) else (n, k)) :: _) = some .free
    rw [List.lookup_cons] at h
    by_cases hc : (k == NameKind.free && env.scope.kind == .function && env.kindOf n == some .cell) = true
    · rw [if_pos hc]
      simp only [List.lookup_cons]
      cases hb : x == n with
      | true => exact .inl rfl
      | false => rw [hb] at h; exact ih h
    · rw [if_neg hc]
      simp only [List.lookup_cons]
      cases hb : x == n with
      | true => rw [hb] at h; exact .inr h
      | false => rw [hb] at h; exact ih h

def Cx.comp (X : Cx) (N : List Str) (scope : Scope) (cl : List (Str × Addr)) (C : Addr) (fp : List Addr) (s : Shared) (H : Hp) : Cx :=
  { prog := X.prog, w := X.w, K := X.K, mg := X.mg, base := X.base, A := X.A, N := N, s₀ := s, H₀ := H, env := compEnvC scope cl C X.env, outer := X.stack, stack := X.stack, ex := fp, fn := fun _ => false,
    calm := X.calm, pn := [], xe := fun _ _ => False }

def inner (js : List (Option Nat)) (σ : St) : St := js.map fun o => match o with
  | none => none
  | some j => (σ[j]?).getD none

def jsOk (N : List Str) (scope : Scope) : List Str → List (Option Nat) → Bool
  | [], [] => true
  | x :: r, o :: q => (match o with | none => true | some j => N[j]? == some x && scope.names.lookup x == some .free) && jsOk N scope r q
  | _, _ => false

theorem jsOk_len {N : List Str} {scope : Scope} : ∀ {N' : List Str} {js : List (Option Nat)}, jsOk N scope N' js = true → js.length = N'.length
  | [], [], _ => rfl
  | _ :: r, _ :: q, h => by
    have h' := (Bool.and_eq_true_iff.mp h).2
    rw [List.length_cons, List.length_cons, jsOk_len h']
theorem jsOk_at {N : List Str} {scope : Scope} : ∀ {N' : List Str} {js : List (Option Nat)} {i : Nat} {x : Str} {j : Nat}, jsOk N scope N' js = true → N'[i]? = some x → js[i]? = some (some j) → N[j]? = some x ∧ scope.names.lookup x = some .free
  | [], [], _, _, _, _, h, _ => by simp at h
  | y :: r, o :: q, 0, x, j, h, h1, h2 => by
    have h' := (Bool.and_eq_true_iff.mp h).1
    simp at h1 h2
    subst h1 h2
    have h'' := Bool.and_eq_true_iff.mp h'
    exact ⟨eq_of_beq h''.1, eq_of_beq h''.2⟩
  | y :: r, o :: q, i + 1, x, j, h, h1, h2 => by
    have h' := (Bool.and_eq_true_iff.mp h).2
    exact jsOk_at (i := i) h' (by simpa using h1) (by simpa using h2)

theorem inner_at {js : List (Option Nat)} {σ : St} {i : Nat} {v : V} (h : (inner js σ)[i]? = some (some v)) : ∃ j, js[i]? = some (some j) ∧ σ[j]? = some (some v) := by
  unfold inner at h
  rw [List.getElem?_map] at h
  cases e : js[i]? with
  | none => rw [e] at h; cases h
  | some o =>
    rw [e] at h
    cases o with
    | none => cases h
    | some j =>
      refine ⟨j, rfl, ?_⟩
      have h' : (σ[j]?).getD none = some v := by simpa using h
      cases q : σ[j]? with
      | none => rw [q] at h'; cases h'
      | some z => rw [q] at h'; simp at h'; rw [h']

structure Fills (σ σ' : St) : Prop where
  len : σ.length = σ'.length
  at_ : ∀ (i : Nat) v, σ[i]? = some (some v) → σ'[i]? = some (some v)
theorem Fills.refl (σ : St) : Fills σ σ := ⟨rfl, fun _ _ h => h⟩
theorem Fills.set {σ σ' : St} (f : Fills σ σ') {i : Nat} (x : V) (h : σ[i]? = some none) : Fills σ (σ'.set i (some x)) := by
  refine ⟨by rw [List.length_set]; exact f.len, fun j v q => ?_⟩
  by_cases e : i = j
  · subst e; rw [h] at q; cases q
  · rw [List.getElem?_set_ne e]; exact f.at_ j v q

section
variable {X : Cx} {pins : List (Addr × Obj)} {σ : St} {H : Hp} {s : Shared}

theorem comp_inv {N' : List Str} {js : List (Option Nat)} {scope : Scope} {fp : List Addr} {m : Str → Option Value} {h1 : Heap} {tk : Nat} (I : Inv X pins σ H s)
    (hk : scope.kind = .function) (hcell : ∀ y ∈ scope.names, y.2 ≠ .cell) (hfree : ∀ y ∈ scope.names, y.2 = .free → X.env.kindOf y.1 = some .cell ∨ X.env.kindOf y.1 = some .free) (hjs : jsOk X.N scope N' js = true)
    (fpok : ∀ b ∈ fp, FpOk X pins H b) (fpl : ∀ b ∈ fp, b < s.heap.objs.size) (hns : h1.Ns s.heap.objs.size m) (hsb : ∀ b o, s.heap.get? b = some o → h1.get? b = some o) :
    Inv (X.comp N' scope (clOf X.env.cells scope.names []) s.heap.objs.size fp s H) [] (inner js σ) H { s with heap := h1, toks := tk } := by
  have incl : ∀ {x c}, (clOf X.env.cells scope.names []).lookup x = some c → X.env.cells.lookup x = some c := fun {x c} q => by
    rcases clOf_in _ _ q with z | z
    · simp at z
    · exact z
  have inn : ∀ {x : Str}, (x, NameKind.free) ∈ scope.names → ∃ c, (clOf X.env.cells scope.names []).lookup x = some c := fun {x} q => clOf_has _ _ _ (.inl ⟨q, I.ok.has x (hfree _ q rfl)⟩)
  have fnot : ∀ b ∈ fp, b ∉ frs X.stack := fun b hb z => (List.mem_cons.mp (I.stkSub b z)).elim (fpok b hb).2.1 (fpok b hb).2.2.1
  refine ⟨⟨I.ok.mod, ?_, I.ok.glob, I.ok.blt, Nat.le_refl _, ?_, ?_, ?_, I.ok.hd, I.ok.frames, .inl rfl, ?_, I.bs, Nat.le_trans I.ok.bsz I.sz, ?_, fnot, I.stack, I.stkFree⟩, rfl, I.bare, Un.kept hsb, ⟨m, hns, ?_⟩, ?_, I.fresh, ?_, ?_, I.hok.kept hsb, ?_⟩
  · exact hk
  · intro x y c e1 e2
    exact I.ok.inj x y c (incl e1) (incl e2)
  · intro x h
    have q : ∃ k, (x, k) ∈ scope.names ∧ k = .free := by
      rcases h with h | h
      · obtain ⟨k, q1, q2⟩ := relabel_of (env := X.env) h
        rcases q2 with rfl | ⟨q2, _⟩
        · exact absurd rfl (hcell _ q1)
        · exact ⟨k, q1, q2⟩
      · obtain ⟨k, q1, q2⟩ := relabel_of (env := X.env) h
        rcases q2 with rfl | ⟨_, q2⟩
        · exact ⟨_, q1, rfl⟩
        · cases q2
    obtain ⟨k, q1, rfl⟩ := q
    exact inn q1
  · intro x c h _
    cases h
  · intro b hb
    exact ⟨Nat.ne_of_lt (fpl b hb), fun x c e => (fpok b hb).2.2.2.2.1 x c (incl e)⟩
  · intro b o e hb
    rcases (fpok b hb).2.2.2.1 with z | z
    · exact I.ok.noex b o e z
    · exact absurd (Nat.lt_of_lt_of_le (Heap.lt_size e) (Nat.le_trans I.ok.bsz z)) (Nat.lt_irrefl _)
  · intro i x v e1 e2 _
    obtain ⟨j, q1, q2⟩ := inner_at e2
    obtain ⟨q3, q4⟩ := jsOk_at hjs e1 q1
    have q5 : (x, NameKind.free) ∈ scope.names := by
      have : ∀ {l : List (Str × NameKind)}, l.lookup x = some .free → (x, NameKind.free) ∈ l := by
        intro l
        induction l with
        | nil => intro z; simp at z
        | cons y r ih =>
          intro z
          obtain ⟨n, k⟩ := y
          rw [List.lookup_cons] at z
          cases hb : x == n with
          | true => rw [hb] at z; have e := eq_of_beq hb; subst e; cases z; exact List.mem_cons_self
          | false => rw [hb] at z; exact List.mem_cons_of_mem _ (ih z)
      exact this q4
    have kf := hfree _ q5 rfl
    obtain ⟨m0, hn0, hl0⟩ := id I.loc
    obtain ⟨u, r, lk⟩ := hl0 j x v q3 q2 (kf.elim (fun z => .inr (.inl z)) fun z => .inr (.inr z))
    refine ⟨u, r, ?_⟩
    rcases lk with ⟨z, _⟩ | ⟨_, c, hc, o, ho, hd⟩
    · rcases kf with k | k
      · rw [k] at z; cases z
      · rw [k] at z; cases z
    · obtain ⟨c', hc'⟩ := inn q5
      have e := incl hc'
      rw [hc] at e; cases e
      exact .inr ⟨relabel_free q4, c, hc', o, hsb _ _ ho, hd⟩
  · intro x c e
    obtain ⟨v, o, ho, hd⟩ := I.cell x c (incl e)
    exact ⟨v, o, hsb _ _ ho, hd⟩
  · intro x c e
    exact I.freeC x c (incl e)
  · intro p hp
    cases hp
  · show (inner js σ).length = N'.length
    unfold inner
    rw [List.length_map]
    exact jsOk_len hjs

def PF (X : Cx) (ifs : List Expr) (t : TT) : Prop :=
  ∀ (pins : List (Addr × Obj)) (s : Shared) (σ : St) (H : Hp) (Q : Bool → Hp → Prop), Inv X pins σ H s → t σ H Q →
    wpAny (model X.prog X.w) X.A (forIn ifs true fun c r => if r = true then do let ok ← isTrue c X.env (eval c X.env); pure (ForInStep.yield ok) else pure (ForInStep.yield r)) (TP X pins σ Q) X.xe s
def tTrue : TT := fun _ H Q => Q true H
theorem pf_nil : PF X [] tTrue := fun _ _ _ H _ I h => wpAny_tests_nil ⟨H, I, h⟩
theorem pf_one {c : Expr} {t : TT} (h : PT X c t) : PF X [c] t := fun pins s σ H Q I hw => wpAny_tests_one (h pins s σ H Q I hw)
end

section
variable {prog : Program} {w : World} {A : Around} {E : Value → Shared → Prop} {R : Result → Shared → Prop} {s : Shared}
theorem compLoop_go {elt target iter : Expr} {ifs : List Expr} {scope : Scope} {pos : Pos} {it acc : Value} {env : Env} (I : Nat → Shared → Prop)
    (turn : ∀ n s, I n s → wpAny (model prog w) A (pyNext it) (fun r s₁ => match r with
      | none => R (.ok .next) s₁
      | some v => wpAny (model prog w) A (letOwnedTupleGo target it v) (fun _ s₀ => wpAny (model prog w) A (assign target env v) (fun _ s₂ =>
          wpAny (model prog w) A (forIn ifs true fun c r => if r = true then do let ok ← isTrue c env (eval c env); pure (ForInStep.yield ok) else pure (ForInStep.yield r)) (fun ok s₃ =>
            if ok = true then wpAny (model prog w) A (eval elt env) (fun x s₄ =>
              wpAny (model prog w) A (call (.builtin "list.append") [acc, x]) (fun _ s₅ => ∃ m, m < n ∧ I m s₅) (fun _ _ => False) s₄) (fun _ _ => False) s₃
            else ∃ m, m < n ∧ I m s₃) (fun _ _ => False) s₂) (fun _ _ => False) s₀) (fun _ _ => False) s₁) (fun _ _ => False) s)
    (n : Nat) (h : I n s) :
    codeAny (model prog w) A (.compLoop (.ListComp elt [⟨target, iter, ifs, 0⟩] scope pos) 0 it acc env) R s := by
  refine codeAny_loop rfl I (fun n s hI => ?_) n h
  show wpAny _ A ((compTurn (.ListComp elt [⟨target, iter, ifs, 0⟩] scope pos) 0 it acc env).onRaise (fun x => do noteFrame x env; theTreesLotGoes x)) _ _ s
  refine wpAny_noted ?_
  rw [compTurn_list]
  refine wpAny_bind (wpAny_standAt (wpAny_bind (wpAny_mono (turn n s hI) (fun r s₁ h₁ => ?_) fun _ _ h' => h'.elim)))
  cases r with
  | none => exact wpAny_pure h₁
  | some v =>
    refine wpAny_bind (wpAny_mono h₁ (fun _ s₀ h₀ => ?_) fun _ _ h' => h'.elim)
    refine wpAny_bind (wpAny_mono h₀ (fun _ s₂ h₂ => wpAny_bind (wpAny_mono h₂ (fun ok s₃ h₃ => ?_) fun _ _ h' => h'.elim)) fun _ _ h' => h'.elim)
    cases ok with
    | false => exact wpAny_pure ⟨rfl, h₃⟩
    | true =>
      exact wpAny_bind (wpAny_bind (wpAny_mono h₃ (fun x s₄ h₄ => wpAny_bind (wpAny_mono h₄ (fun _ s₅ h₅ => wpAny_pure (wpAny_pure ⟨rfl, h₅⟩)) fun _ _ h' => h'.elim)) fun _ _ h' => h'.elim))
end

section
variable {X : Cx}
def tComp (js : List (Option Nat)) (wi : TI) (g : TG) (tc : TT) (te : TE) : TE := fun σ H Q => wi σ H fun J H1 => ∀ D, H1 D = none → ∃ W : Nat → Nat → List V → Hp → Prop, (∃ m, W 0 m [] (upd H1 D (.lst []))) ∧
  ∀ i m ys H, W i m ys H → (J.stop i H ∧ Q (.ref D) H) ∨ (J.go i H ∧ ∃ N : List V → Hp → Prop, (∀ ys' H', N ys' H' → ∃ m', m' < m ∧ W (i + 1) m' ys' H') ∧ ∀ x H', J.yld i H x H' → g x (inner js σ) H' fun σ2 H2 => Fills (inner js σ) σ2 ∧ tc σ2 H2 fun b H3 =>
    if b = true then te σ2 H3 fun y H4 => H4 D = some (.lst ys) ∧ ys.length < sizeLine ∧ N (ys ++ [y]) (upd H4 D (.lst (ys ++ [y]))) else N ys H3)

theorem comp_block {N' : List Str} {js : List (Option Nat)} {scope : Scope} {target iter elt : Expr} {ifs : List Expr} {pos : Pos} {g : TG} {tc : TT} {te : TE} {pins : List (Addr × Obj)} {σ : St} {H : Hp} {s : Shared} {Q : VK} {E : Value → Shared → Prop}
    {RR : Value → Addr → Result → Shared → Prop} {it : Addr} {fp : List Addr} {tn : Nat → Heap → Prop} {J : It} (I : Inv X pins σ H s) (T : Turn X.prog X.w X.K target J fp it tn) (st : tn 0 s.heap) (f : ∀ b ∈ fp, FpOk X pins H b) (hc : X.calm = true)
    (q : ∀ D, H D = none → ∃ W : Nat → Nat → List V → Hp → Prop, (∃ m, W 0 m [] (upd H D (.lst []))) ∧
      ∀ i m ys H, W i m ys H → (J.stop i H ∧ Q (.ref D) H) ∨ (J.go i H ∧ ∃ N : List V → Hp → Prop, (∀ ys' H', N ys' H' → ∃ m', m' < m ∧ W (i + 1) m' ys' H') ∧ ∀ x H', J.yld i H x H' → g x (inner js σ) H' fun σ2 H2 => Fills (inner js σ) σ2 ∧ tc σ2 H2 fun b H3 =>
    if b = true then te σ2 H3 fun y H4 => H4 D = some (.lst ys) ∧ ys.length < sizeLine ∧ N (ys ++ [y]) (upd H4 D (.lst (ys ++ [y]))) else N ys H3))
    (hg : ∀ cl C fp s H, PG (X.comp N' scope cl C fp s H) target g) (hf : ∀ cl C fp s H, PF (X.comp N' scope cl C fp s H) ifs tc) (he : ∀ cl C fp s H, PE (X.comp N' scope cl C fp s H) elt te)
    (hk : scope.kind = .function) (hcell : ∀ y ∈ scope.names, y.2 ≠ .cell) (hfree : ∀ y ∈ scope.names, y.2 = .free → X.env.kindOf y.1 = some .cell ∨ X.env.kindOf y.1 = some .free) (hjs : jsOk X.N scope N' js = true)
    (hRR : ∀ D C H' s', Inv X pins σ H' s' → Q (.ref D) H' → (∃ m, s'.heap.Ns C m) → H' C = none → C ≠ X.env.locals → X.s₀.heap.objs.size ≤ C → C ∉ X.fs → (∀ x c, X.env.cells.lookup x = some c → c ≠ C) → (∀ p ∈ X.pn ++ pins, p.1 ≠ C) →
      RR (.ref D) C (.ok .next) s') :
    wpAny (model X.prog X.w) X.A (newList []) (fun acc s₃ => wpAny (model X.prog X.w) X.A (newFunctionEnv scope X.env.globals (clOf X.env.cells scope.names []) [] X.env.qual none .none (some X.env)) (fun cenv s₄ =>
      codeAny (model X.prog X.w) X.A (.compStart (.ListComp elt [⟨target, iter, ifs, 0⟩] scope pos) 0 (.ref it) acc { cenv with scope := relabel scope X.env }) (RR acc cenv.locals) s₄) E s₃) E s := by
  refine wpAny_newObj_type (wpAny_newFunctionEnv hcell (by intro y hy; simp at hy) (fun h₁ hns₁ hsb₁ => ?_) hk)
  dsimp only at hns₁ hsb₁ ⊢
  have I3 : Inv X pins σ (upd H s.heap.objs.size (.lst [])) { s with heap := s.heap.push { cls := .type "list", dict := none, data := .seq ([] : List Value).toArray } } := I.lnew (its := []) (ys := []) (t' := s.toks) .nil (Nat.zero_le _)
  obtain ⟨W, ⟨m0, w0⟩, turn⟩ := q s.heap.objs.size I.fresh
  generalize hD : s.heap.objs.size = D at I3 turn w0 ⊢
  have hsz : (s.heap.push { cls := .type "list", dict := none, data := .seq ([] : List Value).toArray }).objs.size = D + 1 := by rw [Heap.size_push, hD]
  have fpl : ∀ b ∈ fp, b < D := fun b hb => by
    obtain ⟨o, e, _⟩ := T.obj _ _ st b hb
    rw [← hD]; exact Heap.lt_size e
  generalize hs3 : ({ s with heap := s.heap.push { cls := .type "list", dict := none, data := .seq ([] : List Value).toArray } } : Shared) = s3 at I3
  have eh : s.heap.push { cls := .type "list", dict := none, data := .seq ([] : List Value).toArray } = s3.heap := by rw [← hs3]
  rw [eh] at hns₁ hsb₁ hsz ⊢
  have f3 : ∀ b ∈ fp, FpOk X pins (upd H D (.lst [])) b := fun b hb => ⟨by rw [upd_ne (Nat.ne_of_lt (fpl b hb))]; exact (f b hb).1, (f b hb).2⟩
  have keep1 : ∀ b o, s3.heap.get? b = some o → h₁.get? b = some o := fun b o e => hsb₁.extBut b o (Nat.ne_of_lt (Heap.lt_size e)) (Heap.get?_push_of_some _ e)
  have I4 := comp_inv (N' := N') (js := js) (tk := s.toks + ([] : List (Str × Value)).length) I3 hk hcell hfree hjs f3 (fun b hb => by rw [hsz]; exact Nat.lt_succ_of_lt (fpl b hb)) hns₁ keep1
  have es : ({ s with heap := h₁, toks := s.toks + ([] : List (Str × Value)).length } : Shared) = { s3 with heap := h₁, toks := s.toks + ([] : List (Str × Value)).length } := by rw [← hs3]
  rw [show ({ s with heap := h₁, toks := s.toks + ([] : List (Str × Value)).length } : Shared) = { s3 with heap := h₁, toks := s.toks + ([] : List (Str × Value)).length } from es]
  have st4 : tn 0 h₁ := T.keep _ _ _ st fun b hb o e => keep1 b o (eh ▸ Heap.get?_push_of_some _ e)
  have hCne : s3.heap.objs.size ≠ X.env.locals := Nat.ne_of_gt I3.lt
  have loop : ∀ s4 : Shared, tn 0 s4.heap → Inv (X.comp N' scope (clOf X.env.cells scope.names []) s3.heap.objs.size fp s3 (upd H D (.lst []))) [] (inner js σ) (upd H D (.lst [])) s4 →
      codeAny (model X.prog X.w) X.A (.compLoop (.ListComp elt [⟨target, iter, ifs, 0⟩] scope pos) 0 (.ref it) (.ref D) (compEnvC scope (clOf X.env.cells scope.names []) s3.heap.objs.size X.env)) (RR (.ref D) s3.heap.objs.size) s4 := by
    intro s4 st4 I4
    generalize hX : X.comp N' scope (clOf X.env.cells scope.names []) s3.heap.objs.size fp s3 (upd H D (.lst [])) = X' at I4
    have xprog : X'.prog = X.prog := by rw [← hX]; rfl
    have stat : ∀ {H' : Hp}, (∀ b ∈ fp, H' b = none) → ∀ b ∈ fp, FpOk X' [] H' b := fun hn b hb => by
      rw [← hX]
      refine ⟨hn b hb, ?_, ?_, .inl hb, ?_, fun p hp => nomatch hp⟩
      · exact Nat.ne_of_lt (by show b < s3.heap.objs.size; rw [hsz]; exact Nat.lt_succ_of_lt (fpl b hb))
      · exact fun z => (List.mem_cons.mp (I3.stkSub b z)).elim (f3 b hb).2.1 (f3 b hb).2.2.1
      · intro x c e
        rcases clOf_in _ _ e with z | z
        · simp at z
        · exact (f3 b hb).2.2.2.2.1 x c z
    have hg' := hg (clOf X.env.cells scope.names []) s3.heap.objs.size fp s3 (upd H D (.lst []))
    have hf' := hf (clOf X.env.cells scope.names []) s3.heap.objs.size fp s3 (upd H D (.lst []))
    have he' := he (clOf X.env.cells scope.names []) s3.heap.objs.size fp s3 (upd H D (.lst []))
    rw [hX] at hg' hf' he'
    have xA : X'.A = X.A := by rw [← hX]; rfl
    have xw : X'.w = X.w := by rw [← hX]; rfl
    have xK : X'.K = X.K := by rw [← hX]; rfl
    have xc : X'.calm = true := by rw [← hX]; exact hc
    have xe : X'.env = compEnvC scope (clOf X.env.cells scope.names []) s3.heap.objs.size X.env := by rw [← hX]; rfl
    have xx : X'.xe = fun _ _ => False := by rw [← hX]; rfl
    have T' : Turn X'.prog X'.w X'.K target J fp it tn := by rw [xprog, xw, xK]; exact T
    rw [← xA, ← xw, ← xprog, ← xe]
    refine compLoop_go (fun n s' => ∃ i ys H', Inv X' [] (inner js σ) H' s' ∧ tn i s'.heap ∧ (∀ b ∈ fp, H' b = none) ∧ W i n ys H') ?_ m0 ⟨0, [], _, I4, st4, fun b hb => (f3 b hb).1, w0⟩
    rintro n s5 ⟨i, ys, H5, I5, st5, fr5, w5⟩
    rcases turn i n ys H5 w5 with ⟨stop, q⟩ | ⟨go, N, hN, step⟩
    · refine thn (T'.done X' rfl rfl rfl xc i [] s5 _ H5 _ I5 (stat fr5) st5 stop) fun r s6 ⟨hr, I6⟩ => ?_
      subst hr
      subst hX
      have I7 : Inv X pins σ H5 s6 := I3.call' (s' := s6) I6.os I6.base I6.hok I6.bare fun b hb => ⟨(f3 b hb).2.2.2.1, (f3 b hb).2.1, (f3 b hb).2.2.2.2.1, (f3 b hb).2.2.2.2.2⟩
      obtain ⟨m6, hn6, _⟩ := I6.loc
      refine hRR D s3.heap.objs.size H5 s6 I7 q ⟨m6, hn6⟩ I6.free hCne I3.sz (I3.nofs (Nat.le_refl _)) (fun x c e z => ?_) (fun p hp z => ?_)
      · obtain ⟨v, y⟩ := I3.cell x c e
        exact absurd (Nat.lt_of_lt_of_le y.lt (by rw [z]; exact Nat.le_refl _)) (Nat.lt_irrefl _)
      · exact absurd (Nat.lt_of_lt_of_le (Heap.lt_size (I3.pin p hp).1) (by rw [z]; exact Nat.le_refl _)) (Nat.lt_irrefl _)
    · refine thn (T'.item X' rfl rfl rfl xc i [] s5 _ H5 _ I5 (stat fr5) st5 go) fun r s6 ⟨u, hr, h6⟩ => ?_
      subst hr
      refine thn h6 fun _ s7 ⟨x, H7, I7, r7, y7, st7, fr7⟩ => ?_
      have I7' := I7.pinned (stat fr7) (T.obj _ _ st7)
      refine wpAny_mono (hg' _ s7 _ H7 x u _ I7' r7 (step x H7 y7)) (fun _ s8 ⟨σ8, H8, I8, fill8, q8⟩ => ?_) (fun _ _ z => by rw [xx] at z; exact z)
      refine wpAny_mono (hf' _ s8 σ8 H8 _ I8 q8) (fun b s9 ⟨H9, I9, q9⟩ => ?_) (fun _ _ z => by rw [xx] at z; exact z)
      have again : ∀ {H' : Hp} {s' : Shared} {ys' : List V}, Inv X' ([] ++ pinsAt fp s7.heap) σ8 H' s' → N ys' H' → ∃ m, m < n ∧ ∃ i ys H', Inv X' [] (inner js σ) H' s' ∧ tn i s'.heap ∧ (∀ b ∈ fp, H' b = none) ∧ W i m ys H' := fun {H' s' ys'} I' n' => by
        obtain ⟨m', hm, w'⟩ := hN ys' H' n'
        refine ⟨m', hm, i + 1, ys', H', I'.unpinned.weak fill8.len fill8.at_, T.keep _ _ _ st7 fun b hb o e => (I'.pin (b, o) (List.mem_append_right _ (List.mem_append_right _ (mem_pinsAt hb e)))).1, fun b hb => ?_, w'⟩
        obtain ⟨o, e, d⟩ := T.obj _ _ st7 b hb
        exact (I'.pin (b, o) (List.mem_append_right _ (List.mem_append_right _ (mem_pinsAt hb e)))).2.1
      cases b with
      | false => exact again I9 q9
      | true =>
        refine wpAny_mono (he' _ s9 σ8 H9 _ I9 q9) (fun yv s10 ⟨y, H10, I10, ry, hD10, hz, q10⟩ => ?_) (fun _ _ z => by rw [xx] at z; exact z)
        refine wpAny_mono (mt_append (X := X') _ s10 σ8 H10 (.ref D) [y] (.ref D) [yv] (fun _ H' => H' = upd H10 D (.lst (ys ++ [y]))) I10 rfl (.cons ry .nil) ⟨D, ys, y, rfl, rfl, hD10, hz, rfl⟩) (fun _ s11 ⟨_, H11, I11, _, e11⟩ => ?_) (fun _ _ z => by rw [xx] at z; exact z)
        subst e11
        exact again I11 q10
  have l4 := loop { s3 with heap := h₁, toks := s.toks + ([] : List (Str × Value)).length } st4 I4
  exact codeAny_compStart_list l4 (T.self _ 0 _ _ _ st4 l4)

theorem pe_comp {N' : List Str} {js : List (Option Nat)} {scope : Scope} {target iter elt : Expr} {ifs : List Expr} {pos : Pos} {wi : TI} {g : TG} {tc : TT} {te : TE} (hc : X.calm = true) (hi : PI X target iter wi)
    (hg : ∀ cl C fp s H, PG (X.comp N' scope cl C fp s H) target g) (hf : ∀ cl C fp s H, PF (X.comp N' scope cl C fp s H) ifs tc) (he : ∀ cl C fp s H, PE (X.comp N' scope cl C fp s H) elt te)
    (hk : scope.kind = .function := by rfl) (hcell : (scope.names.all fun y => y.2 != .cell) = true := by rfl) (hfree : (scope.names.all fun y => y.2 != .free || (X.env.kindOf y.1 == some .cell || X.env.kindOf y.1 == some .free)) = true := by rfl)
    (hnames : (scope.names.all fun y => y.2 != .local || scope.names.lookup y.1 == some .local) = true := by rfl) (hjs : jsOk X.N scope N' js = true := by rfl) (hs : ∀ x, foldedSetIterable iter X.env x = pure x := by intro _; rfl) :
    PE X (.ListComp elt [⟨target, iter, ifs, 0⟩] scope pos) (tComp js wi g tc te) := by
  have hcell' : ∀ y ∈ scope.names, y.2 ≠ .cell := fun y hy z => by have := List.all_eq_true.mp hcell y hy; simp [z] at this
  have hfree' : ∀ y ∈ scope.names, y.2 = .free → X.env.kindOf y.1 = some .cell ∨ X.env.kindOf y.1 = some .free := fun y hy z => by have := List.all_eq_true.mp hfree y hy; simpa [z] using this
  have hnames' : ∀ y ∈ scope.names, y.2 = .local → scope.names.lookup y.1 = some .local := fun y hy z => by have := List.all_eq_true.mp hnames y hy; simpa [z] using this
  intro pins s σ H Q I h
  rw [eval_ListComp]
  refine wpAny_comprehension_free (use := none) rfl hs (closureFor_ok fun x hx z => I.ok.has x.1 (hfree' x hx z)) hk hnames' ?_
  refine thn (hi pins s σ H _ I h) fun v s1 h1 => thn h1 fun itv s2 h2 => ?_
  obtain ⟨it, fp, tn, J, H2, e, I2, T, st2, f2, q2⟩ := h2
  subst e
  refine comp_block (RR := fun acc C => compPost (model X.prog X.w) X.A X.xe none (EP X pins σ Q) acc C) I2 T st2 f2 hc q2 hg hf he hk hcell' hfree' hjs ?_
  intro D C H' s' I' q ⟨m, hn⟩ c0 c1 c2 c3 c4 c5
  exact ⟨m, hn, fun h' hs' => ⟨.ref D, H', I'.turned (t' := s'.toks) (fun b o hb e => (hs'.2 b hb).trans e) c0 c1 (.inr c2) c4 c5, rfl, q⟩⟩

theorem ps_setComp {N' : List Str} {js : List (Option Nat)} {scope : Scope} {target iter elt : Expr} {ifs : List Expr} {pos pos' spos : Pos} {x : Str} {i : Nat} {wi : TI} {g : TG} {tc : TT} {te : TE} (hN : X.N.Nodup) (hi' : X.N[i]? = some x) (hx : Loc X.env.scope x) (hc : X.calm = true) (hi : PI X target iter wi)
    (hg : ∀ cl C fp s H, PG (X.comp N' scope cl C fp s H) target g) (hf : ∀ cl C fp s H, PF (X.comp N' scope cl C fp s H) ifs tc) (he : ∀ cl C fp s H, PE (X.comp N' scope cl C fp s H) elt te)
    (hsw : swapsWith (.ListComp elt [⟨target, iter, ifs, 0⟩] scope pos) (some (.Name x pos')) spos.line X.env = pure true := by rfl)
    (hk : scope.kind = .function := by rfl) (hcell : (scope.names.all fun y => y.2 != .cell) = true := by rfl) (hfree : (scope.names.all fun y => y.2 != .free || (X.env.kindOf y.1 == some .cell || X.env.kindOf y.1 == some .free)) = true := by rfl)
    (hnames : (scope.names.all fun y => y.2 != .local || scope.names.lookup y.1 == some .local) = true := by rfl) (hjs : jsOk X.N scope N' js = true := by rfl) (hs : ∀ x, foldedSetIterable iter X.env x = pure x := by intro _; rfl)
    (hfn : X.fn x = true ∨ X.env.scope.names.lookup x = some .local := by first | exact .inl rfl | exact .inr rfl | assumption) :
    PS X (.Assign [.Name x pos'] (.ListComp elt [⟨target, iter, ifs, 0⟩] scope pos) spos) (tAsg (tComp js wi g tc te) (gName i)) := by
  have hcell' : ∀ y ∈ scope.names, y.2 ≠ .cell := fun y hy z => by have := List.all_eq_true.mp hcell y hy; simp [z] at this
  have hfree' : ∀ y ∈ scope.names, y.2 = .free → X.env.kindOf y.1 = some .cell ∨ X.env.kindOf y.1 = some .free := fun y hy z => by have := List.all_eq_true.mp hfree y hy; simpa [z] using this
  have hnames' : ∀ y ∈ scope.names, y.2 = .local → scope.names.lookup y.1 = some .local := fun y hy z => by have := List.all_eq_true.mp hnames y hy; simpa [z] using this
  intro pins s σ H D I h
  rw [exec_Assign_Name_used _ _ _ _ hsw]
  refine wpAny_bind (wpAny_standAt (wpAny_bind ?_))
  show wpAny _ X.A (do let _ ← comprehension (.ListComp elt [⟨target, iter, ifs, 0⟩] scope pos) scope X.env _ (newList []) false (eval iter X.env) (some (assign (.Name x pos') X.env))) _ _ s
  refine wpAny_bind (wpAny_mono (wpAny_comprehension_free (use := some (assign (.Name x pos') X.env)) (Q := fun _ s' => SP X pins D .next s') rfl hs (closureFor_ok fun x hx z => I.ok.has x.1 (hfree' x hx z)) hk hnames' ?_) (fun _ s' hq => wpAny_pure (wpAny_pure hq)) fun _ _ e => e)
  refine thn (hi pins s σ H _ I h) fun v s1 h1 => thn h1 fun itv s2 h2 => ?_
  obtain ⟨it, fp, tn, J, H2, e, I2, T, st2, f2, q2⟩ := h2
  subst e
  refine comp_block (Q := fun x H1 => gName i x σ H1 D.nx) (RR := fun acc C => compPost (model X.prog X.w) X.A X.xe (some (assign (.Name x pos') X.env)) (fun _ s' => SP X pins D .next s') acc C) I2 T st2 f2 hc q2 hg hf he hk hcell' hfree' hjs ?_
  intro D' C H' s' I' q ⟨m, hn⟩ c0 c1 c2 c3 c4 c5
  obtain ⟨oC, es, ep, hoC, hdC, rC⟩ := id hn
  have I'' : Inv X (pins ++ [(C, oC)]) σ H' s' := I'.pins_of fun p hp => (List.mem_append.mp hp).elim (fun z => I'.pin p (List.mem_append_right _ z)) fun z => by
    have e := List.mem_singleton.mp z
    subst e
    exact ⟨hoC, c0, c1, c3, fun v z => by rw [hdC] at z; cases z⟩
  show wpAny _ X.A (assign (.Name x pos') X.env (.ref D')) _ _ _
  refine wpAny_assign_Name (store_ok I'' hN hi' hx (v := .ref D') rfl (fun s3 I3 => ?_) hfn)
  have hC3 := I3.pin (C, oC) (List.mem_append_right _ (List.mem_append_right _ (List.mem_singleton.mpr rfl)))
  refine ⟨m, ⟨oC, es, ep, hC3.1, hdC, rC⟩, fun h' hs' => ?_⟩
  exact ⟨_, H', I3.unpinned.turned (t' := s3.toks) (fun b o hb e => (hs'.2 b hb).trans e) c0 c1 (.inr c2) c4 c5, q⟩
end

theorem comp_by {J : It} {js : List (Option Nat)} {σ : St} {H1 : Hp} {R : Hp → Prop} {D : Addr} {g : TG} {tc : TT} {te : TE} (n : Nat) (Pv : Nat → List V → Hp → Prop) (h0 : Pv 0 [] (upd H1 D (.lst [])))
    (hs : ∀ i ys H, i < n → Pv i ys H → J.go i H ∧ ∀ x H', J.yld i H x H' → g x (inner js σ) H' fun σ2 H2 => Fills (inner js σ) σ2 ∧ tc σ2 H2 fun b H3 =>
      if b = true then te σ2 H3 fun y H4 => H4 D = some (.lst ys) ∧ ys.length < sizeLine ∧ Pv (i + 1) (ys ++ [y]) (upd H4 D (.lst (ys ++ [y]))) else Pv (i + 1) ys H3)
    (hd : ∀ ys H, Pv n ys H → J.stop n H ∧ R H) :
    ∃ W : Nat → Nat → List V → Hp → Prop, (∃ m, W 0 m [] (upd H1 D (.lst []))) ∧
      ∀ i m ys H, W i m ys H → (J.stop i H ∧ R H) ∨ (J.go i H ∧ ∃ N : List V → Hp → Prop, (∀ ys' H', N ys' H' → ∃ m', m' < m ∧ W (i + 1) m' ys' H') ∧ ∀ x H', J.yld i H x H' → g x (inner js σ) H' fun σ2 H2 => Fills (inner js σ) σ2 ∧ tc σ2 H2 fun b H3 =>
        if b = true then te σ2 H3 fun y H4 => H4 D = some (.lst ys) ∧ ys.length < sizeLine ∧ N (ys ++ [y]) (upd H4 D (.lst (ys ++ [y]))) else N ys H3) := by
  refine ⟨fun i m ys H => m = n - i ∧ i ≤ n ∧ Pv i ys H, ⟨n, by simp, Nat.zero_le _, h0⟩, ?_⟩
  rintro i m ys H ⟨rfl, hi, p⟩
  by_cases hlt : i < n
  · obtain ⟨go, step⟩ := hs i ys H hlt p
    exact .inr ⟨go, Pv (i + 1), fun ys' H' p' => ⟨n - (i + 1), by omega, rfl, hlt, p'⟩, step⟩
  · have e : i = n := by omega
    subst e
    exact .inl (hd ys H p)
theorem comp_map {J : It} {js : List (Option Nat)} {σ : St} {H1 : Hp} {R : Hp → Prop} {D : Addr} {g : TG} {te : TE} (n : Nat) (Pv : Nat → List V → Hp → Prop) (h0 : Pv 0 [] (upd H1 D (.lst [])))
    (hs : ∀ i ys H, i < n → Pv i ys H → J.go i H ∧ ∀ x H', J.yld i H x H' → g x (inner js σ) H' fun σ2 H2 => Fills (inner js σ) σ2 ∧ te σ2 H2 fun y H4 => H4 D = some (.lst ys) ∧ ys.length < sizeLine ∧ Pv (i + 1) (ys ++ [y]) (upd H4 D (.lst (ys ++ [y]))))
    (hd : ∀ ys H, Pv n ys H → J.stop n H ∧ R H) :
    ∃ W : Nat → Nat → List V → Hp → Prop, (∃ m, W 0 m [] (upd H1 D (.lst []))) ∧
      ∀ i m ys H, W i m ys H → (J.stop i H ∧ R H) ∨ (J.go i H ∧ ∃ N : List V → Hp → Prop, (∀ ys' H', N ys' H' → ∃ m', m' < m ∧ W (i + 1) m' ys' H') ∧ ∀ x H', J.yld i H x H' → g x (inner js σ) H' fun σ2 H2 => Fills (inner js σ) σ2 ∧ tTrue σ2 H2 fun b H3 =>
        if b = true then te σ2 H3 fun y H4 => H4 D = some (.lst ys) ∧ ys.length < sizeLine ∧ N (ys ++ [y]) (upd H4 D (.lst (ys ++ [y]))) else N ys H3) := by
  refine comp_by n Pv h0 ?_ hd
  simp only [tTrue, if_true]
  exact hs
end L2

set_option Elab.async false
set_option linter.all false
set_option maxRecDepth 100000
set_option maxHeartbeats 4000000
namespace L2
open PySem PySem.Spec PyProof.Rows

def Itr3 (lo c : Int) (n : Nat) : It := ⟨fun i _ => i < n, fun i H x H' => H' = H ∧ x = .int (lo + i * c), fun i _ => n ≤ i⟩
section
variable {X : Cx} {tg : Expr}
def iRng3 (ta : TA) : TI := fun σ H R => ta σ H fun vs H1 => ∃ n : Nat, vs = [.int 0, .int (2 * n), .int 2] ∧ n < 1000000 ∧ R (Itr3 0 2 n) H1
end

section
variable {X : Cx} {pins : List (Addr × Obj)} {σ : St} {H : Hp} {s : Shared} {h' : Heap}
theorem Inv.turnedNew {t' : Nat} {ch : List Addr} {T : Addr} {o : HO} (I : Inv X pins σ H s) (k : ∀ b u, b ∉ ch → s.heap.get? b = some u → h'.get? b = some u) (there : ∀ b u, s.heap.get? b = some u → ∃ u', h'.get? b = some u') (hT : s.heap.objs.size ≤ T)
    (hf : ∀ b ∈ ch, FpOk X pins H b) (new : ObjOk X.prog X.w (upd H T o) h' T o) : Inv X pins σ (upd H T o) { s with heap := h', toks := t' } := by
  have hn := I.hok.fresh hT
  have nit : ∀ b u, H b = some u → b ∉ ch := fun b u e z => by rw [(hf b z).1] at e; cases e
  refine I.step (g' := s.gens) (d' := s.drawn) (ch := ch) (fun b hb => ?_) (fun b o _ _ hc e _ => k b o hc e) (fun b o _ _ hc e _ => ⟨o.slots, k b o hc e⟩) (fun b u hc e n => ?_) (fun b u hc e => there b u e)
    (fun b xs e => ?_) (fun b ob u e => ?_) (fun b ps e => ⟨#[], ?_⟩) (fun m hm => ?_) (fun b u e => ?_) I.bare
  · exact ⟨(hf b hb).2.2.2.1, (hf b hb).2.1, (hf b hb).2.2.2.2.1, (hf b hb).2.2.2.2.2⟩
  · rw [upd_ne (Nat.ne_of_lt (Nat.lt_of_lt_of_le (Heap.lt_size e) hT))]; exact n
  · rw [upd_ne (ne_of_none e hn)]; exact e
  · rw [upd_ne (ne_of_none e hn)]; exact e
  · rw [upd_ne (ne_of_none e hn), e]; simp
  · obtain ⟨ob, es, ep, ho, r⟩ := hm
    exact ⟨ob, es, ep, k _ ob (fun z => (hf _ z).2.1 rfl) ho, r⟩
  · by_cases hb : b = T
    · subst hb; rw [upd_same] at e; cases e; exact new
    · rw [upd_ne hb] at e
      refine (I.hok b u e).stay (fun c v hc q => k c v ?_ q) (fun c q => by rw [upd_ne (ne_of_none q hn)]; exact q) fun c xs q => by rw [upd_ne (ne_of_none q hn)]; exact q
      rcases hc with z | z
      · rw [z]; exact nit b u e
      · exact nit c _ z
end

def Ite (K : PySem.W.Frag) (a : Addr) : It :=
  ⟨fun i H => ∃ xs x, SqL K H a xs ∧ xs[i]? = some x, fun i H v H' => ∃ T x, v = .ref T ∧ H T = none ∧ H' = upd H T (.tup [.int i, x]) ∧ ∀ xs, SqL K H a xs → xs[i]? = some x, fun i H => ∃ xs, SqL K H a xs ∧ xs.length ≤ i⟩
theorem turn_enum {P : Program} {w : World} {K : PySem.W.Frag} {elts : List Expr} {k : Nat} {pos : Pos} (a e it : Addr) (hei : e ≠ it) : Turn P w K (.Tuple elts k pos) (Ite K a) [e, it] e (fun i h => (∃ old, IsEnum h e it i old) ∧ h.IsListIter it a i) where
  mem := by simp
  obj := fun i h st b hb => by
    obtain ⟨⟨old, he⟩, o, ho, hc, hd⟩ := st
    rcases List.mem_cons.mp hb with rfl | hb
    · exact ⟨_, he, fun v z => by
        have z' : Data.fields _ = Data.cell v := z
        cases z'⟩
    · have e' := List.mem_singleton.mp hb
      subst e'
      exact ⟨o, ho, fun v z => by rw [hd] at z; cases z⟩
  keep := fun i h h' st k => by
    obtain ⟨⟨old, he⟩, hit⟩ := st
    exact ⟨⟨old, k e (by simp) _ he⟩, hit.at fun o x => k it (by simp) o x⟩
  item := by
    intro X hP hw hK hc i pins s σ H E I hf st hg
    subst hP hw hK
    obtain ⟨⟨old, he⟩, hit⟩ := st
    obtain ⟨xs, x, hq, hx⟩ := hg
    obtain ⟨its, rv, pl, hz⟩ := I.list hq
    obtain ⟨u, hu, ru⟩ := rv.get hx
    have hux : its.toArray[i]? = some u := by simpa using hu
    refine wpAny_pyNext_enum_item he hit pl.isList hux hei fun h' ho hit' hT hsz hk => ?_
    refine ⟨_, rfl, ?_⟩
    have kk : ∀ b v, b ∉ [e, it] → s.heap.get? b = some v → h'.get? b = some v := fun b v hb q => hk b v (fun z => hb (by simp [z])) (fun z => hb (by simp [z])) q
    have th : ∀ b v, s.heap.get? b = some v → ∃ v', h'.get? b = some v' := fun b v q => by
      by_cases h1 : b = e
      · subst h1; exact ⟨_, ho⟩
      · by_cases h2 : b = it
        · subst h2; obtain ⟨o, q1, _⟩ := hit'; exact ⟨_, q1⟩
        · exact ⟨v, hk b v h1 h2 q⟩
    have I1 : Inv X pins σ (upd H s.heap.objs.size (.tup [.int i, x])) { s with heap := h', toks := s.toks + 1 } :=
      I.turnedNew (ch := [e, it]) kk th (Nat.le_refl _) hf ⟨by show 2 ≤ sizeLine; decide, [.int i s.toks, u], .cons ⟨_, rfl⟩ (.cons ru .nil), ⟨_, hT, rfl, _, rfl⟩⟩
    refine wpAny_letOwnedTupleGo_enum ho fun h2 he2 hs2 => ?_
    have fe := hf e (by simp)
    have fi := hf it (by simp)
    have hTe : e ≠ s.heap.objs.size := Nat.ne_of_lt (Heap.lt_size he)
    have hTi : it ≠ s.heap.objs.size := by obtain ⟨o, q1, _⟩ := hit; exact Nat.ne_of_lt (Heap.lt_size q1)
    have I2 : Inv X pins σ (upd H s.heap.objs.size (.tup [.int i, x])) { s with heap := h2, toks := s.toks + 1 } :=
      Inv.turned (s := { s with heap := h', toks := s.toks + 1 }) (h' := h2) (t' := s.toks + 1) (it := e) I1 (fun b o hb q => (hs2.2 b hb).trans q) (by rw [upd_ne hTe]; exact fe.1) fe.2.1 fe.2.2.2.1 fe.2.2.2.2.1 fe.2.2.2.2.2
    refine ⟨.ref s.heap.objs.size, _, I2, rfl, ⟨s.heap.objs.size, x, rfl, I.fresh, rfl, fun ys hys => by rw [I.list_inj hys hq]; exact hx⟩, ⟨⟨_, by simpa using he2⟩, hit'.at fun o q => (hs2.2 it hei.symm).trans q⟩, fun b hb => ?_⟩
    rcases List.mem_cons.mp hb with rfl | hb
    · rw [upd_ne hTe]; exact fe.1
    · have e' := List.mem_singleton.mp hb
      subst e'
      rw [upd_ne hTi]; exact fi.1
  done := by
    intro X hP hw hK hc i pins s σ H E I hf st hg
    subst hP hw hK
    obtain ⟨⟨old, he⟩, hit⟩ := st
    obtain ⟨xs, hq, hl⟩ := hg
    obtain ⟨its, rv, pl, hz⟩ := I.list hq
    have hlen := rv.length
    obtain ⟨f0, f1, f2, f3, f4, f5⟩ := hf it (by simp)
    refine wpAny_pyNext_enum_end (I.ok.hd hc) he hit pl.isList (by simp; omega) fun h' eb => ⟨rfl, ?_⟩
    exact I.turned (t' := s.toks) (fun b o hb q => eb b o hb q) f0 f1 f3 f4 f5
  self := fun _ _ _ _ _ st h => by
    obtain ⟨⟨old, he⟩, _⟩ := st
    exact wpAny_pyIter_enum he h

section
variable {X : Cx}
def iEnum (K : PySem.W.Frag) (ta : TA) : TI := fun σ H R => ta σ H fun vs H1 => ∃ a, vs = [.ref a] ∧ (∃ xs, SqL K H1 a xs) ∧ R (Ite K a) H1
theorem pi_enum {a : Expr} {ta : TA} {p pos : Pos} {elts : List Expr} {k : Nat} {tpos : Pos} (hg : Gl X "enumerate") (hm : X.mg "enumerate" = none) (ha : PA X [a] ta) (hs : starEach [a] X.env = [(false, eval a X.env)] := by rfl) :
    PI X (.Tuple elts k tpos) (.Call (.Name "enumerate" p) [a] [] pos) (iEnum X.K ta) := by
  intro pins s σ H R I h
  refine Call_ (ld_blt I hg hm (show bootBuiltins "enumerate" = some (.type "enumerate") by decide +kernel) (PyProof.Rows.callWith_type1 (thn (ha pos pins s σ H _ I h) fun us s1 ⟨vs, H1, I1, r1, q1⟩ => ?_) hs rfl))
  obtain ⟨l, e, ⟨xs, hq⟩, q⟩ := q1
  subst e
  cases r1 with
  | cons r rr =>
    cases rr
    cases r
    obtain ⟨its, rv, pl, hz⟩ := I1.list hq
    refine call_enumerate_list pl.isList fun h' he hit hsz hk => ?_
    refine wpAny_pyIter_enum he ?_
    have I2 : Inv X pins σ H1 { s1 with heap := h' } := I1.kept (t' := s1.toks) hk
    refine ⟨s1.heap.objs.size + 1, [s1.heap.objs.size + 1, s1.heap.objs.size], _, _, H1, rfl, I2, turn_enum l _ _ (Nat.succ_ne_self _), ⟨⟨_, by simpa using he⟩, hit⟩, fun b hb => ?_, q⟩
    rcases List.mem_cons.mp hb with rfl | hb
    · exact I1.fpOk (Nat.le_succ _) (I1.hok.fresh (Nat.le_succ _))
    · have e' := List.mem_singleton.mp hb
      subst e'
      exact I1.fpOk (Nat.le_refl _) (I1.hok.fresh (Nat.le_refl _))
end

mutual
inductive Bd (K : PySem.W.Frag) (H : Hp) : V → PyData → Prop
  | int (i : Int) : Bd K H (.int i) (.int i)
  | non : Bd K H .non .none
  | bl (b : Bool) : Bd K H (.bl b) (.bool b)
  | lst {a : Addr} {xs : List V} {ds : List PyData} : SqL K H a xs → Bds K H xs ds → Bd K H (.ref a) (.list ds)
  | tup {a : Addr} {xs : List V} {ds : List PyData} : SqT K H a xs → Bds K H xs ds → Bd K H (.ref a) (.tuple ds)
inductive Bds (K : PySem.W.Frag) (H : Hp) : List V → List PyData → Prop
  | nil : Bds K H [] []
  | cons {x : V} {xs : List V} {d : PyData} {ds : List PyData} : Bd K H x d → Bds K H xs ds → Bds K H (x :: xs) (d :: ds)
end
theorem Bds.ints {K : PySem.W.Frag} {H : Hp} : ∀ ns : List Int, Bds K H (ns.map V.int) (ns.map PyData.int)
  | [] => .nil
  | n :: ns => .cons (.int n) (Bds.ints ns)
section
variable {X : Cx} {pins : List (Addr × Obj)} {σ : St} {H : Hp} {s : Shared}
mutual
theorem Bd.reads (I : Inv X pins σ H s) : ∀ {x : V} {d : PyData} {u : Value}, Bd X.K H x d → RelV x u → ∃ as, Reads s.heap u d as
  | _, _, u, .int i, r => by obtain ⟨t, rfl⟩ := r; exact ⟨_, .int i t⟩
  | _, _, u, .non, r => by cases r; exact ⟨_, .none⟩
  | _, _, u, .bl b, r => by cases r; exact ⟨_, .bool b⟩
  | _, _, u, .lst hq b, r => by
    cases r
    obtain ⟨its, rv, ⟨o, n, e, hc, _, hd⟩, hz⟩ := I.list hq
    obtain ⟨as, h⟩ := Bds.reads I b rv
    exact ⟨_, .list e hc hd (by simpa using h)⟩
  | _, _, u, .tup hq b, r => by
    cases r
    obtain ⟨its, rv, ⟨o, e, hc, n, hd⟩, hz⟩ := I.tuple hq
    obtain ⟨as, h⟩ := Bds.reads I b rv
    exact ⟨_, .tuple e hc hd (by simpa using h)⟩
theorem Bds.reads (I : Inv X pins σ H s) : ∀ {xs : List V} {ds : List PyData} {us : List Value}, Bds X.K H xs ds → Vals xs us → ∃ as, ReadsAll s.heap us ds as
  | _, _, _, .nil, r => by cases r; exact ⟨_, .nil⟩
  | _, _, _, .cons b bs, r => by
    cases r with
    | cons r rr =>
      obtain ⟨as, h⟩ := Bd.reads I b r
      obtain ⟨bs', h'⟩ := Bds.reads I bs rr
      exact ⟨_, .cons h h'⟩
end
end
section
variable {X : Cx}
def rEqD (K : PySem.W.Frag) (neg : Bool) : R2 := fun x y H Q => ∃ dx dy, Bd K H x dx ∧ Bd K H y dy ∧ SeqAt.shaped dx = true ∧ SeqAt.shaped dy = true ∧ Q (.bl (PyData.eqv dx dy ^^ neg)) H
theorem op_eqD (hu : X.A.units + 64 < cLine) : OpR X (compareOp .Eq) (rEqD X.K false) := by
  intro pins s σ H x y v u Q I rx ry h
  obtain ⟨dx, dy, bx, b_y, sx, sy, q⟩ := h
  obtain ⟨as, r1⟩ := bx.reads I rx
  obtain ⟨bs, r2⟩ := b_y.reads I ry
  exact eq_dataH r1 r2 sx sy hu ⟨.bl _, H, I, rfl, by simpa using q⟩
theorem op_neD (hu : X.A.units + 64 < cLine) : OpR X (compareOp .NotEq) (rEqD X.K true) := by
  intro pins s σ H x y v u Q I rx ry h
  obtain ⟨dx, dy, bx, b_y, sx, sy, q⟩ := h
  obtain ⟨as, r1⟩ := bx.reads I rx
  obtain ⟨bs, r2⟩ := b_y.reads I ry
  exact ne_dataH r1 r2 sx sy hu ⟨.bl _, H, I, rfl, by simpa using q⟩
end

section
variable {X : Cx}
def kindV (H : Hp) : V → String → Prop
  | .non, T => T = "NoneType"
  | .bl _, T => T = "bool"
  | .int _, T => T = "int"
  | .ref a, T => (T = "list" ∧ ∃ xs, H a = some (.lst xs)) ∨ (T = "tuple" ∧ ∃ xs, H a = some (.tup xs))
  | _, _ => False
theorem kindV.ty {K : PySem.W.Frag} {H : Hp} {x : V} {T : String} (h : kindV H x T) : TyOf K H x (.type T) := by
  cases x with
  | non => cases (show T = "NoneType" from h); exact .non
  | bl b => cases (show T = "bool" from h); exact .bl b
  | int i => cases (show T = "int" from h); exact .int i
  | ref a =>
    rcases h with ⟨rfl, xs, e⟩ | ⟨rfl, xs, e⟩
    · exact .lst e
    · exact .tup e
  | _ => exact False.elim h
def isT (T c : String) : Bool := T == c || (T == "bool" && c == "int")
theorem kind_in {H : Hp} {x : V} {T : String} (h : kindV H x T) : T = "NoneType" ∨ T = "bool" ∨ T = "int" ∨ T = "list" ∨ T = "tuple" := by
  cases x with
  | non => exact .inl h
  | bl b => exact .inr (.inl h)
  | int i => exact .inr (.inr (.inl h))
  | ref a =>
    rcases h with ⟨rfl, xs, e⟩ | ⟨rfl, xs, e⟩
    · exact .inr (.inr (.inr (.inl rfl)))
    · exact .inr (.inr (.inr (.inr rfl)))
  | _ => exact False.elim h
theorem kit_T {K : PySem.W.Frag} {T n : String} (hT : T = "NoneType" ∨ T = "bool" ∨ T = "int" ∨ T = "list" ∨ T = "tuple") (hn : n = "list" ∨ n = "tuple" ∨ n = "int" ∨ n = "bool") : PySem.W.kitOne K (.type T) (.type n) = some (isT T n) := by
  rcases hT with rfl | rfl | rfl | rfl | rfl <;> rcases hn with rfl | rfl | rfl | rfl <;> first | rfl | decide
def rIsi (H0 : Unit) : List V → Hp → VK → Prop := fun xs H Q => ∃ x T n, xs = [x, .ty n] ∧ kindV H x T ∧ (n = "list" ∨ n = "tuple" ∨ n = "int" ∨ n = "bool") ∧ Q (.bl (isT T n)) H
theorem call_isi : CallR X (.builtin "isinstance") (rIsi ()) := by
  intro pins s σ H xs us Q I r h
  obtain ⟨x, T, n, rfl, k, hn, q⟩ := h
  obtain ⟨u, v, rfl, ru, rv⟩ := vals2 r
  cases (show v = Value.type n from rv)
  exact isinst_ok I ru k.ty (kit_T (kind_in k) hn) fun tk => ⟨.bl _, H, I.tok tk, rfl, q⟩
def rIsi2 : List V → Hp → VK → Prop := fun xs H Q => ∃ x T p, xs = [x, .ref p] ∧ kindV H x T ∧ H p = some (.tup [.ty "list", .ty "tuple"]) ∧ Q (.bl (isT T "list" || isT T "tuple")) H
end
end L2
namespace L2
open PySem PySem.Spec PyProof.Rows
theorem iteFb {c : Bool} {A B : Prop} (hc : c = false) (h : B) : if c = true then A else B := by subst hc; exact iteF h
theorem iteTb {c : Bool} {A B : Prop} (hc : c = true) (h : A) : if c = true then A else B := by subst hc; exact iteT h
theorem same_new {H : Hp} {p : Addr} (h : H p = none) (o : HO) : Same H (upd H p o) := fun b u q => by rw [upd_ne (ne_of_none q h)]; exact q
def SameBut1 (r : Addr) (H H' : Hp) : Prop := ∀ b o, b ≠ r → H b = some o → H' b = some o
end L2
namespace L2
open PySem PySem.Spec PyProof.Rows
end L2
namespace L2
open PySem PySem.Spec PyProof.Rows
section
variable {X : Cx} {K : PySem.W.Frag}
theorem kix_list (h : X.K = K) : IxR X (rIxL K) := by subst h; exact ix_list
theorem kix_tup (h : X.K = K) : IxR X (rIxT K) := by subst h; exact ix_tup
theorem kcall_list (h : X.K = K) : CallR X (.type "list") (fun xs H Q => ∃ p ys, xs = [.ref p] ∧ (SqL K H p ys ∨ SqT K H p ys) ∧ ∀ l, H l = none → Q (.ref l) (upd H l (.lst ys))) := by subst h; exact call_list_of
theorem kop_notIn (h : X.K = K) : OpR X (compareOp .NotIn) (rIn K true) := by subst h; exact op_notIn_seq
end
end L2

namespace MM
def oth (e : Nat) : Nat := if e % 2 = 0 then e + 1 else e - 1
theorem oth_lt {n e : Nat} (h : e < 2 * n) : oth e < 2 * n := by unfold oth; split <;> omega
theorem oth_oth (e : Nat) : oth (oth e) = e := by unfold oth; split <;> split <;> omega
theorem oth_inj {a b : Nat} (h : oth a = oth b) : a = b := by rw [← oth_oth a, ← oth_oth b, h]
theorem oth_half (e : Nat) : oth e / 2 = e / 2 := by unfold oth; split <;> omega
theorem oth_mod (e : Nat) : oth e % 2 = 1 - e % 2 := by unfold oth; split <;> omega

theorem nodup_bound : ∀ (N : Nat) (l : List Nat), l.Nodup → (∀ x ∈ l, x < N) → l.length ≤ N
  | 0, [], _, _ => Nat.le_refl _
  | 0, x :: _, _, h => absurd (h x List.mem_cons_self) (Nat.not_lt_zero _)
  | N + 1, l, nd, h => by
    have ih := nodup_bound N (l.erase N) (nd.erase N) (fun x hx => by
      have h1 := (nd.mem_erase_iff).mp hx
      have h2 := h x h1.2
      omega)
    have hl := List.length_erase (a := N) (l := l)
    split at hl <;> omega

def iter (f : Nat → Nat) : Nat → Nat → Nat
  | 0, e => e
  | n + 1, e => f (iter f n e)
structure Maps (f : Nat → Nat) (N : Nat) : Prop where
  lt : ∀ e, e < N → f e < N
  inj : ∀ a b, a < N → b < N → f a = f b → a = b
theorem iter_lt {f : Nat → Nat} {N : Nat} (m : Maps f N) {e : Nat} (h : e < N) : ∀ k, iter f k e < N
  | 0 => h
  | k + 1 => m.lt _ (iter_lt m h k)
theorem iter_add (f : Nat → Nat) (e : Nat) (i : Nat) : ∀ k, iter f (i + k) e = iter f k (iter f i e)
  | 0 => rfl
  | k + 1 => by show f (iter f (i + k) e) = f (iter f k (iter f i e)); rw [iter_add f e i k]
theorem iter_inj {f : Nat → Nat} {N : Nat} (m : Maps f N) {a b : Nat} (ha : a < N) (hb : b < N) : ∀ k, iter f k a = iter f k b → a = b
  | 0, h => h
  | k + 1, h => iter_inj m ha hb k (m.inj _ _ (iter_lt m ha k) (iter_lt m hb k) h)
def path (f : Nat → Nat) (e k : Nat) : List Nat := (List.range k).map fun i => iter f i e
theorem path_len (f : Nat → Nat) (e k : Nat) : (path f e k).length = k := by unfold path; simp
theorem path_succ (f : Nat → Nat) (e k : Nat) : path f e (k + 1) = path f e k ++ [iter f k e] := by unfold path; rw [List.range_succ, List.map_append]; rfl
theorem mem_path {f : Nat → Nat} {e k x : Nat} : x ∈ path f e k ↔ ∃ i, i < k ∧ iter f i e = x := by
  unfold path
  simp [List.mem_map, List.mem_range]
theorem path_nodup {f : Nat → Nat} {N : Nat} (m : Maps f N) {e : Nat} (he : e < N) : ∀ k, (∀ j, 0 < j → j < k → iter f j e ≠ e) → (path f e k).Nodup
  | 0, _ => List.nodup_nil
  | k + 1, h => by
    rw [path_succ]
    have ih := path_nodup m he k (fun j h0 h1 => h j h0 (by omega))
    rw [List.nodup_append]
    refine ⟨ih, by simp, ?_⟩
    intro a ha b hb e1
    have hb' : b = iter f k e := by simpa using hb
    obtain ⟨i, hi, rfl⟩ := mem_path.mp ha
    have q : iter f i e = iter f k e := e1.trans hb'
    have hk : k = (k - i) + i := by omega
    have q2 : iter f i e = iter f i (iter f (k - i) e) := by
      rw [← iter_add, Nat.sub_add_cancel (Nat.le_of_lt hi)]; exact q
    have q3 := iter_inj m he (iter_lt m he _) i q2
    exact h (k - i) (by omega) (by omega) q3.symm
theorem path_lt {f : Nat → Nat} {N : Nat} (m : Maps f N) {e : Nat} (he : e < N) (k : Nat) : ∀ x ∈ path f e k, x < N := fun x hx => by
  obtain ⟨i, _, rfl⟩ := mem_path.mp hx
  exact iter_lt m he i
theorem comes_round {f : Nat → Nat} {N : Nat} (m : Maps f N) {e : Nat} (he : e < N) : ∃ k, 0 < k ∧ k ≤ N ∧ iter f k e = e := by
  refine Classical.byContradiction fun h => ?_
  have no : ∀ j, 0 < j → j < N + 1 → iter f j e ≠ e := fun j h0 h1 q => h ⟨j, h0, by omega, q⟩
  have nd := path_nodup m he (N + 1) no
  have b := nodup_bound N _ nd (path_lt m he _)
  rw [path_len] at b
  omega
def Round (f : Nat → Nat) (e k : Nat) : Prop := 0 < k ∧ iter f k e = e ∧ ∀ j, 0 < j → j < k → iter f j e ≠ e
theorem round_ex {f : Nat → Nat} {N : Nat} (m : Maps f N) {e : Nat} (he : e < N) : ∃ k, Round f e k ∧ k ≤ N := by
  obtain ⟨k, h0, h1, h2⟩ := comes_round m he
  have : ∀ n k, k ≤ n → 0 < k → iter f k e = e → ∃ k', Round f e k' ∧ k' ≤ k := by
    intro n
    induction n with
    | zero => intro k h1 h2; omega
    | succ n ih =>
      intro k h1 h2 h3
      by_cases q : ∃ j, 0 < j ∧ j < k ∧ iter f j e = e
      · obtain ⟨j, j0, j1, j2⟩ := q
        obtain ⟨k', r, l⟩ := ih j (by omega) j0 j2
        exact ⟨k', r, by omega⟩
      · exact ⟨k, ⟨h2, h3, fun j j0 j1 j2 => q ⟨j, j0, j1, j2⟩⟩, Nat.le_refl _⟩
  obtain ⟨k', r, l⟩ := this k k (Nat.le_refl _) h0 h2
  exact ⟨k', r, by omega⟩
theorem round_uniq {f : Nat → Nat} {e k k' : Nat} (a : Round f e k) (b : Round f e k') : k = k' := by
  rcases Nat.lt_trichotomy k k' with h | h | h
  · exact absurd a.2.1 (b.2.2 k a.1 h)
  · exact h
  · exact absurd b.2.1 (a.2.2 k' b.1 h)
theorem round_more {f : Nat → Nat} {e k j : Nat} (r : Round f e k) (h0 : 0 < j) (hj : j ≤ k) (h : iter f j e ≠ e) : j < k := by
  rcases Nat.lt_or_ge j k with q | q
  · exact q
  · have : j = k := by omega
    subst this
    exact absurd r.2.1 h
end MM
namespace MM
abbrev Ties := List (Nat × Nat)
abbrev Ords := List (List Nat)
def place (ts : Ties) (e : Nat) : Nat := if e % 2 = 0 then (ts.getD (e / 2) (0, 0)).1 else (ts.getD (e / 2) (0, 0)).2
def row (os : Ords) (p : Nat) : List Nat := os.getD p []
structure GoodP (pl : Nat → Nat) (M : Nat) (os : Ords) : Prop where
  ends : ∀ p e, e ∈ row os p → e < M ∧ pl e = p
  has : ∀ e, e < M → pl e < os.length ∧ e ∈ row os (pl e)
  nd : ∀ p, (row os p).Nodup
  full : ∀ p, p < os.length → row os p ≠ []
  four : ∀ p, (row os p).length ≤ 4
structure Good (ts : Ties) (os : Ords) : Prop where
  g : GoodP (place ts) (2 * ts.length) os
  one : 1 ≤ ts.length
theorem GoodP.congr {pl pl' : Nat → Nat} {M : Nat} {os : Ords} (g : GoodP pl M os) (h : ∀ e, e < M → pl' e = pl e) : GoodP pl' M os where
  ends := fun p e he => by
    have q := g.ends p e he
    exact ⟨q.1, (h e q.1).trans q.2⟩
  has := fun e he => by rw [h e he]; exact g.has e he
  nd := g.nd
  full := g.full
  four := g.four
theorem row_set_same {os : Ords} {a : Nat} {l : List Nat} (h : a < os.length) : row (os.set a l) a = l := by
  unfold row
  simp [List.getD, h]
theorem row_set_ne {os : Ords} {a p : Nat} {l : List Nat} (h : p ≠ a) : row (os.set a l) p = row os p := by
  unfold row
  simp [List.getD, List.getElem?_set_ne (Ne.symm h)]
theorem GoodP.add {pl : Nat → Nat} {M : Nat} {os : Ords} (g : GoodP pl M os) {a : Nat} (ha : a < os.length) (hp : pl M = a) {l : List Nat} (hm : ∀ x, x ∈ l ↔ x = M ∨ x ∈ row os a) (hn : l.Nodup) (h4 : l.length ≤ 4) : GoodP pl (M + 1) (os.set a l) where
  ends := fun p e he => by
    by_cases hpa : p = a
    · subst hpa
      rw [row_set_same ha] at he
      rcases (hm e).mp he with rfl | he
      · exact ⟨Nat.lt_succ_self _, hp⟩
      · have q := g.ends _ e he
        exact ⟨by omega, q.2⟩
    · rw [row_set_ne hpa] at he
      have q := g.ends p e he
      exact ⟨by omega, q.2⟩
  has := fun e he => by
    rw [List.length_set]
    rcases Nat.lt_or_ge e M with h | h
    · have q := g.has e h
      refine ⟨q.1, ?_⟩
      by_cases hpa : pl e = a
      · rw [hpa, row_set_same ha]
        exact (hm e).mpr (.inr (hpa ▸ q.2))
      · rw [row_set_ne hpa]; exact q.2
    · have e' : e = M := by omega
      subst e'
      rw [hp, row_set_same ha]
      exact ⟨ha, (hm e).mpr (.inl rfl)⟩
  nd := fun p => by
    by_cases hpa : p = a
    · subst hpa; rw [row_set_same ha]; exact hn
    · rw [row_set_ne hpa]; exact g.nd p
  full := fun p hp' => by
    rw [List.length_set] at hp'
    by_cases hpa : p = a
    · subst hpa
      rw [row_set_same ha]
      intro z
      have : M ∈ l := (hm M).mpr (.inl rfl)
      rw [z] at this
      cases this
    · rw [row_set_ne hpa]; exact g.full p hp'
  four := fun p => by
    by_cases hpa : p = a
    · subst hpa; rw [row_set_same ha]; exact h4
    · rw [row_set_ne hpa]; exact g.four p
theorem row_app {os : Ords} {l : List Nat} (p : Nat) : row (os ++ [l]) p = if p = os.length then l else row os p := by
  unfold row
  rcases Nat.lt_trichotomy p os.length with h | h | h
  · rw [if_neg (by omega)]; simp [List.getD, List.getElem?_append_left h]
  · subst h; simp [List.getD]
  · rw [if_neg (by omega)]
    have h1 : (os ++ [l])[p]? = none := List.getElem?_eq_none (by rw [List.length_append]; simp; omega)
    have h2 : os[p]? = none := List.getElem?_eq_none (by omega)
    simp [List.getD, h1, h2]
theorem GoodP.new {pl : Nat → Nat} {M : Nat} {os : Ords} (g : GoodP pl M os) (hp : pl M = os.length) : GoodP pl (M + 1) (os ++ [[M]]) where
  ends := fun p e he => by
    rw [row_app] at he
    split at he
    · rename_i h
      have e' : e = M := by simpa using he
      subst e'
      exact ⟨Nat.lt_succ_self _, by rw [hp, h]⟩
    · have q := g.ends p e he
      exact ⟨by omega, q.2⟩
  has := fun e he => by
    rw [List.length_append, row_app]
    rcases Nat.lt_or_ge e M with h | h
    · have q := g.has e h
      rw [if_neg (by omega)]
      exact ⟨by simp; omega, q.2⟩
    · have e' : e = M := by omega
      subst e'
      rw [if_pos hp]
      exact ⟨by simp; omega, by simp⟩
  nd := fun p => by
    rw [row_app]
    split
    · simp
    · exact g.nd p
  full := fun p hp' => by
    rw [row_app]
    split
    · simp
    · rw [List.length_append] at hp'
      simp at hp'
      exact g.full p (by omega)
  four := fun p => by
    rw [row_app]
    split
    · simp
    · exact g.four p
def prevIn (l : List Nat) (x : Nat) : Nat := l.getD ((l.idxOf x + l.length - 1) % l.length) 0
theorem prevIn_mem {l : List Nat} {x : Nat} (h : x ∈ l) : prevIn l x ∈ l := by
  have h1 := List.idxOf_lt_length_of_mem h
  have h2 : (l.idxOf x + l.length - 1) % l.length < l.length := Nat.mod_lt _ (by omega)
  unfold prevIn
  simp only [List.getD, List.getElem?_eq_getElem h2, Option.getD_some]
  exact List.getElem_mem h2
theorem prev_ix {i j n : Nat} (hi : i < n) (hj : j < n) (h : (i + n - 1) % n = (j + n - 1) % n) : i = j := by
  have f : ∀ k, k < n → (k + n - 1) % n = if k = 0 then n - 1 else k - 1 := fun k hk => by
    split
    · rename_i h; subst h; rw [Nat.zero_add]; exact Nat.mod_eq_of_lt (by omega)
    · have : k + n - 1 = (k - 1) + n := by omega
      rw [this, Nat.add_mod_right]; exact Nat.mod_eq_of_lt (by omega)
  rw [f i hi, f j hj] at h
  split at h <;> split at h <;> omega
theorem prevIn_inj {l : List Nat} (nd : l.Nodup) {x y : Nat} (hx : x ∈ l) (hy : y ∈ l) (h : prevIn l x = prevIn l y) : x = y := by
  have h1 := List.idxOf_lt_length_of_mem hx
  have h2 := List.idxOf_lt_length_of_mem hy
  have m1 : (l.idxOf x + l.length - 1) % l.length < l.length := Nat.mod_lt _ (by omega)
  have m2 : (l.idxOf y + l.length - 1) % l.length < l.length := Nat.mod_lt _ (by omega)
  unfold prevIn at h
  simp only [List.getD, List.getElem?_eq_getElem m1, List.getElem?_eq_getElem m2, Option.getD_some] at h
  have e := (List.getElem_inj nd).mp h
  have e' := prev_ix h1 h2 e
  have g1 : l[l.idxOf x] = x := List.getElem_idxOf h1
  have g2 : l[l.idxOf y] = y := List.getElem_idxOf h2
  rw [← g1, ← g2]
  simp only [e']
def behind (ts : Ties) (os : Ords) (e : Nat) : Nat := prevIn (row os (place ts (oth e))) (oth e)
theorem Good.behind {ts : Ties} {os : Ords} (g : Good ts os) {e : Nat} (he : e < 2 * ts.length) : behind ts os e < 2 * ts.length ∧ place ts (behind ts os e) = place ts (oth e) := by
  have h := g.g.has (oth e) (oth_lt he)
  exact g.g.ends _ _ (prevIn_mem h.2)
theorem Good.maps {ts : Ties} {os : Ords} (g : Good ts os) : Maps (MM.behind ts os) (2 * ts.length) where
  lt := fun e he => (g.behind he).1
  inj := fun a b ha hb h => by
    have pa := (g.behind ha).2
    have pb := (g.behind hb).2
    rw [h, pb] at pa
    have ma := (g.g.has (oth a) (oth_lt ha)).2
    have mb := (g.g.has (oth b) (oth_lt hb)).2
    unfold MM.behind at h
    rw [← pa] at h ma
    exact oth_inj (prevIn_inj (g.g.nd _) ma mb h)
end MM
namespace MM
open Classical in
noncomputable def per (f : Nat → Nat) (e : Nat) : Nat := if h : ∃ k, Round f e k then Classical.choose h else 1
noncomputable def landOf (f : Nat → Nat) (e : Nat) : List Nat := path f e (per f e)
theorem per_eq {f : Nat → Nat} {e k : Nat} (r : Round f e k) : per f e = k := by
  unfold per
  rw [dif_pos ⟨k, r⟩]
  exact round_uniq (Classical.choose_spec (⟨k, r⟩ : ∃ k, Round f e k)) r
theorem per_round {f : Nat → Nat} {N : Nat} (m : Maps f N) {e : Nat} (he : e < N) : Round f e (per f e) ∧ per f e ≤ N := by
  obtain ⟨k, r, l⟩ := round_ex m he
  rw [per_eq r]
  exact ⟨r, l⟩
theorem iter_mul {f : Nat → Nat} {e k : Nat} (h : iter f k e = e) : ∀ n, iter f (k * n) e = e
  | 0 => rfl
  | n + 1 => by rw [Nat.mul_succ, Nat.add_comm, iter_add, h]; exact iter_mul h n
theorem iter_mod {f : Nat → Nat} {e k : Nat} (h : iter f k e = e) (j : Nat) : iter f j e = iter f (j % k) e := by
  have e1 : j = k * (j / k) + j % k := (Nat.div_add_mod j k).symm
  have e2 : iter f j e = iter f (k * (j / k) + j % k) e := congrArg (fun z => iter f z e) e1
  rw [e2, iter_add, iter_mul h]
theorem mem_land {f : Nat → Nat} {N : Nat} (m : Maps f N) {x y : Nat} (hx : x < N) : y ∈ landOf f x ↔ ∃ k, iter f k x = y := by
  obtain ⟨r, _⟩ := per_round m hx
  unfold landOf
  rw [mem_path]
  constructor
  · rintro ⟨i, _, h⟩; exact ⟨i, h⟩
  · rintro ⟨k, h⟩
    exact ⟨k % per f x, Nat.mod_lt _ r.1, by rw [← iter_mod r.2.1]; exact h⟩
theorem self_land {f : Nat → Nat} {N : Nat} (m : Maps f N) {x : Nat} (hx : x < N) : x ∈ landOf f x := (mem_land m hx).mpr ⟨0, rfl⟩
theorem land_lt {f : Nat → Nat} {N : Nat} (m : Maps f N) {x : Nat} (hx : x < N) : ∀ y ∈ landOf f x, y < N := path_lt m hx _
theorem land_nodup {f : Nat → Nat} {N : Nat} (m : Maps f N) {x : Nat} (hx : x < N) : (landOf f x).Nodup := path_nodup m hx _ (per_round m hx).1.2.2
theorem land_len {f : Nat → Nat} {N : Nat} (m : Maps f N) {x : Nat} (hx : x < N) : 0 < (landOf f x).length ∧ (landOf f x).length ≤ N := by
  unfold landOf
  rw [path_len]
  exact ⟨(per_round m hx).1.1, (per_round m hx).2⟩
theorem land_symm {f : Nat → Nat} {N : Nat} (m : Maps f N) {x y : Nat} (hx : x < N) (h : y ∈ landOf f x) : x ∈ landOf f y := by
  have hy := land_lt m hx y h
  obtain ⟨k, rfl⟩ := (mem_land m hx).mp h
  obtain ⟨r, _⟩ := per_round m hx
  refine (mem_land m hy).mpr ⟨per f x * (k + 1) - k, ?_⟩
  have hk : k ≤ per f x * (k + 1) := by
    have := Nat.le_mul_of_pos_left (k + 1) r.1
    omega
  rw [← iter_add, Nat.add_sub_cancel' hk]
  exact iter_mul r.2.1 _
theorem land_trans {f : Nat → Nat} {N : Nat} (m : Maps f N) {x y z : Nat} (hx : x < N) (h1 : y ∈ landOf f x) (h2 : z ∈ landOf f y) : z ∈ landOf f x := by
  have hy := land_lt m hx y h1
  obtain ⟨k, rfl⟩ := (mem_land m hx).mp h1
  obtain ⟨j, rfl⟩ := (mem_land m hy).mp h2
  exact (mem_land m hx).mpr ⟨k + j, iter_add f x k j⟩

noncomputable def landsFrom (f : Nat → Nat) : Nat → List Nat → List (List Nat)
  | 0, _ => []
  | _, [] => []
  | n + 1, e :: r => landOf f e :: landsFrom f n ((e :: r).filter fun x => decide (x ∉ landOf f e))
theorem landsFrom_nil (f : Nat → Nat) (n : Nat) : landsFrom f n [] = [] := by cases n <;> rfl
theorem filter_shorter {f : Nat → Nat} {N : Nat} (m : Maps f N) {e : Nat} (he : e < N) (r : List Nat) : ((e :: r).filter fun x => decide (x ∉ landOf f e)).length ≤ r.length := by
  rw [List.filter_cons, if_neg (by simp [self_land m he])]
  exact List.length_filter_le _ _
theorem landsFrom_fuel {f : Nat → Nat} {N : Nat} (m : Maps f N) : ∀ (n : Nat) (k : Nat) (l : List Nat), (∀ x ∈ l, x < N) → l.length ≤ n → l.length ≤ k → landsFrom f n l = landsFrom f k l
  | 0, k, l, _, h, _ => by
    have e : l = [] := List.length_eq_zero_iff.mp (by omega)
    subst e
    rw [landsFrom_nil, landsFrom_nil]
  | n + 1, k, [], _, _, _ => by rw [landsFrom_nil, landsFrom_nil]
  | n + 1, 0, e :: r, _, _, h => by simp at h
  | n + 1, k + 1, e :: r, hl, h1, h2 => by
    have he := hl e List.mem_cons_self
    have s := filter_shorter m he r
    simp only [List.length_cons] at h1 h2
    show landOf f e :: landsFrom f n _ = landOf f e :: landsFrom f k _
    rw [landsFrom_fuel m n k _ (fun x hx => hl x (List.mem_filter.mp hx).1) (by omega) (by omega)]
noncomputable def lf (f : Nat → Nat) (l : List Nat) : List (List Nat) := landsFrom f l.length l
theorem lf_nil (f : Nat → Nat) : lf f [] = [] := rfl
theorem lf_cons {f : Nat → Nat} {N : Nat} (m : Maps f N) {e : Nat} {r : List Nat} (hl : ∀ x ∈ e :: r, x < N) : lf f (e :: r) = landOf f e :: lf f ((e :: r).filter fun x => decide (x ∉ landOf f e)) := by
  unfold lf
  show landOf f e :: landsFrom f r.length _ = _
  rw [landsFrom_fuel m r.length _ _ (fun x hx => hl x (List.mem_filter.mp hx).1) (filter_shorter m (hl e List.mem_cons_self) r) (Nat.le_refl _)]
noncomputable def landsOf (f : Nat → Nat) (N : Nat) : List (List Nat) := lf f (List.range N)
theorem lf_mem {f : Nat → Nat} {N : Nat} (m : Maps f N) : ∀ (n : Nat) (l : List Nat), l.length ≤ n → (∀ x ∈ l, x < N) → ∀ d ∈ lf f l, ∃ e ∈ l, d = landOf f e
  | 0, l, h, _, d, hd => by
    have e : l = [] := List.length_eq_zero_iff.mp (by omega)
    subst e
    cases hd
  | n + 1, [], _, _, d, hd => by cases hd
  | n + 1, e :: r, h, hl, d, hd => by
    rw [lf_cons m hl] at hd
    rcases List.mem_cons.mp hd with rfl | hd
    · exact ⟨e, List.mem_cons_self, rfl⟩
    · have s := filter_shorter m (hl e List.mem_cons_self) r
      simp only [List.length_cons] at h
      obtain ⟨x, hx, q⟩ := lf_mem m n _ (by omega) (fun x hx => hl x (List.mem_filter.mp hx).1) d hd
      exact ⟨x, (List.mem_filter.mp hx).1, q⟩
theorem lf_len {f : Nat → Nat} {N : Nat} (m : Maps f N) : ∀ (n : Nat) (l : List Nat), l.length ≤ n → (∀ x ∈ l, x < N) → (lf f l).length ≤ l.length
  | 0, l, h, _ => by
    have e : l = [] := List.length_eq_zero_iff.mp (by omega)
    subst e
    exact Nat.le_refl _
  | n + 1, [], _, _ => Nat.le_refl _
  | n + 1, e :: r, h, hl => by
    rw [lf_cons m hl]
    have s := filter_shorter m (hl e List.mem_cons_self) r
    simp only [List.length_cons] at h ⊢
    have ih := lf_len m n _ (Nat.le_trans s (by omega)) (fun x hx => hl x (List.mem_filter.mp hx).1)
    omega
theorem lf_one {f : Nat → Nat} {N : Nat} (m : Maps f N) : ∀ (n : Nat) (l : List Nat), l.length ≤ n → (∀ x ∈ l, x < N) → ∀ x ∈ l, ∃ (k : Nat) (d : List Nat), (lf f l)[k]? = some d ∧ x ∈ d ∧ ∀ (j : Nat) (d' : List Nat), (lf f l)[j]? = some d' → x ∈ d' → j = k
  | 0, l, h, _, x, hx => by
    have e : l = [] := List.length_eq_zero_iff.mp (by omega)
    subst e
    cases hx
  | n + 1, [], _, _, x, hx => by cases hx
  | n + 1, e :: r, h, hl, x, hx => by
    have he := hl e List.mem_cons_self
    have hxN := hl x hx
    have s := filter_shorter m he r
    simp only [List.length_cons] at h
    rw [lf_cons m hl]
    by_cases q : x ∈ landOf f e
    · refine ⟨0, _, rfl, q, fun j d' hj hd => ?_⟩
      cases j with
      | zero => rfl
      | succ j =>
        rw [List.getElem?_cons_succ] at hj
        obtain ⟨y, hy, rfl⟩ := lf_mem m _ _ (Nat.le_refl _) (fun z hz => hl z (List.mem_filter.mp hz).1) d' (List.mem_of_getElem? hj)
        obtain ⟨hy1, hy2⟩ := List.mem_filter.mp hy
        have hy2' : y ∉ landOf f e := by simpa using hy2
        exact absurd (land_trans m he q (land_symm m (hl y hy1) hd)) hy2'
    · have hx' : x ∈ (e :: r).filter fun z => decide (z ∉ landOf f e) := List.mem_filter.mpr ⟨hx, by simpa using q⟩
      obtain ⟨k, d, h1, h2, h3⟩ := lf_one m n _ (by omega) (fun z hz => hl z (List.mem_filter.mp hz).1) x hx'
      refine ⟨k + 1, d, by rw [List.getElem?_cons_succ]; exact h1, h2, fun j d' hj hd => ?_⟩
      cases j with
      | zero =>
        rw [List.getElem?_cons_zero] at hj
        cases hj
        exact absurd hd q
      | succ j =>
        rw [List.getElem?_cons_succ] at hj
        rw [h3 j d' hj hd]
end MM

set_option Elab.async false
set_option linter.all false
set_option maxRecDepth 100000
set_option maxHeartbeats 4000000
namespace L2
open PySem PySem.Spec PyProof.Rows
abbrev vn (n : Nat) : V := .int (n : Int)
abbrev vns (l : List Nat) : List V := l.map vn
section
variable {X : Cx}
def rIndex : V → List V → Hp → VK → Prop := fun x vs H Q => ∃ (l : Addr) (ns : List Nat) (v : Nat), x = .ref l ∧ vs = [vn v] ∧ H l = some (.lst (vns ns)) ∧ v ∈ ns ∧ Q (vn (ns.idxOf v)) H
theorem mt_index : MtM X "list.index" rIndex := by
  intro pins s σ H x vs v us Q I rx rv h
  obtain ⟨l, ns, k, rfl, rfl, hH, hm, q⟩ := h
  cases rx
  obtain ⟨u, rfl, t, rfl⟩ := rv.one
  obtain ⟨z, its, n, r, hl, e⟩ := I.lstM hH
  have hlen : its.length = ns.length := by rw [← hl]; simp
  have hj : ns.idxOf k < ns.length := List.idxOf_lt_length_of_mem hm
  have item : ∀ (m : Nat) (hm : m < its.toArray.size), eqU (vn k) its.toArray[m] = (ns[m]'(by simpa [hlen] using hm) == k) := fun m hm' => by
    have hm2 : m < ns.length := by simpa [hlen] using hm'
    have hx : (vns ns)[m]? = some (vn ns[m]) := by rw [List.getElem?_map, List.getElem?_eq_getElem hm2]; rfl
    obtain ⟨u', hu', ru'⟩ := r.get hx
    have e1 : its.toArray[m] = u' := by
      have : its[m]? = some its.toArray[m] := by simp at hm' ⊢
      rw [this] at hu'; exact Option.some.inj hu'
    rw [e1, eqU_of ru' rfl]
    show ((ns[m] : Int) == (k : Int)) = (ns[m] == k)
    rw [Bool.eq_iff_iff]
    simp only [beq_iff_eq]
    omega
  have hsm : ((ns.idxOf k : Nat) : Int) < 2 ^ 63 - 1 := by
    have h1 := line63
    have h2 : (vns ns).length = ns.length := by simp
    omega
  refine call_meets F.slot_list_index ⟨_, e, rfl⟩ F.entry_list_index (F.args_list_index_2 _ _) (SeqAt.list_indexAt l its.toArray n none #[] (.int k t) (eqU (vn k)) (ns.idxOf k) (by simpa [hlen] using hj) hsm ?_ ?_) ⟨e, fun y hy => ?_, ?_⟩
  · rw [item]
    simp
  · intro m hm' hlt
    rw [item]
    have := List.not_of_lt_findIdx (p := (· == k)) (xs := ns) (i := m) hlt
    simpa using this
  · have fl : (vns ns).all flatV = true := by rw [List.all_eq_true]; intro y hy; obtain ⟨n, _, rfl⟩ := List.mem_map.mp hy; rfl
    exact mem_eqAt (x := vn k) ⟨t, rfl⟩ rfl r fl y (by simpa using hy)
  · exact ⟨vn (ns.idxOf k), H, I.tok _, ⟨_, rfl⟩, q⟩
def insAt {α : Type} (l : List α) (i : Nat) (x : α) : List α := l.take i ++ x :: l.drop i
def rInsert : V → List V → Hp → VK → Prop := fun x vs H Q => ∃ (l : Addr) (xs : List V) (i : Nat) (y : V), x = .ref l ∧ vs = [vn i, y] ∧ H l = some (.lst xs) ∧ i ≤ xs.length ∧ xs.length < sizeLine ∧ Q .non (upd H l (.lst (insAt xs i y)))
theorem mt_insert : MtM X "list.insert" rInsert := by
  intro pins s σ H x vs v us Q I rx rv h
  obtain ⟨l, xs, i, y, rfl, rfl, hH, hi, hz, q⟩ := h
  cases rx
  obtain ⟨u1, u2, rfl, ⟨t, rfl⟩, r2⟩ := rv.two
  obtain ⟨z, its, n, r, hl, e⟩ := I.lstM hH
  have hfit : Builtin.List.listFitsIndex (i : Int) = true := by
    unfold Builtin.List.listFitsIndex
    have := line63
    simp only [Bool.and_eq_true, decide_eq_true_eq]
    omega
  have hc0 : ¬(!Builtin.List.listFitsIndex (i : Int)) = true := by rw [hfit]; exact Bool.false_ne_true
  have hz1 : its.toArray.size ≤ sizeLine := by rw [List.size_toArray]; omega
  obtain ⟨w, hw⟩ : ∃ w : Int, w = (i : Int) := ⟨_, rfl⟩
  rw [← hw] at hc0
  have mm := PySem.AutoSeq1.list_insert_list_int_val_1 l its.toArray n w t u2 hc0 hz1
  rw [← hw]
  refine call_meets F.slot_list_insert ⟨_, e, rfl⟩ F.entry_list_insert (F.args_list_insert_3 _ _ _) mm ⟨e, ?_⟩
  refine ⟨.non, _, I.lset (its' := insAt its i u2) (ys := insAt xs i y) (t' := s.toks) hH e ?_ ?_ ?_, rfl, q⟩
  · have hk : (if w < 0 then (w + (its.toArray.size : Int)).toNat else min w.toNat its.toArray.size) = i := by
      rw [if_neg (by omega), List.size_toArray]
      omega
    show (its.toArray.extract 0 (if w < 0 then (w + (its.toArray.size : Int)).toNat else min w.toNat its.toArray.size)).push u2 ++ its.toArray.extract (if w < 0 then (w + (its.toArray.size : Int)).toNat else min w.toNat its.toArray.size) = _
    rw [hk]
    unfold insAt
    simp
    exact List.take_of_length_le (by simp)
  · unfold insAt
    exact Vals.append (r.take _) (.cons r2 (r.drop _))
  · unfold insAt
    rw [List.length_append, List.length_cons, List.length_take, List.length_drop]
    omega
theorem vals_by : ∀ {xs : List V} {us : List Value}, xs.length = us.length → (∀ (j : Nat) x u, xs[j]? = some x → us[j]? = some u → RelV x u) → Vals xs us
  | [], [], _, _ => .nil
  | x :: xs, u :: us, hl, h => .cons (h 0 x u rfl rfl) (vals_by (by simpa using hl) fun j y v h1 h2 => h (j + 1) y v (by simpa using h1) (by simpa using h2))
theorem call_range1 : CallR X (.type "range") (fun xs H Q => ∃ j : Int, xs = [.int j] ∧ ∀ p, H p = none → Q (.ref p) (upd H p (.rng 0 j))) := by
  intro pins s σ H xs us Q I r h
  obtain ⟨j, rfl, q⟩ := h
  obtain ⟨u, rfl, t, rfl⟩ := vals1 r
  refine call_range_1 ?_
  refine ⟨.ref s.heap.objs.size, _, I.laid (o := .rng 0 j) (fun b o e => Heap.get?_push_of_some _ e) (Nat.le_refl _) ⟨_, _, _, Heap.get?_push_size _ rfl⟩, rfl, q _ I.fresh⟩
theorem call_list_rng (hc : X.calm = true) : CallR X (.type "list") (fun xs H Q => ∃ (p : Addr) (n : Nat), xs = [.ref p] ∧ H p = some (.rng 0 n) ∧ n ≤ 10000 ∧ ∀ l, H l = none → Q (.ref l) (upd H l (.lst (vns (List.range n))))) := by
  intro pins s σ H xs us Q I r h
  obtain ⟨p, n, rfl, hp, hn, q⟩ := h
  obtain ⟨u, rfl, rx⟩ := vals1 r
  cases rx
  obtain ⟨t, u, v, e⟩ := (show ObjOk X.prog X.w H s.heap p (.rng 0 n) from I.hok p _ hp)
  have hsz : Builtin.Range.rangeSize 0 (n : Int) 1 = n := by rw [rangeSize_one]; split <;> omega
  refine call_list_range (I.ok.hd hc) (show IsRange s.heap p 0 n 1 t u v from e) (small_one (by omega) (by omega) (by omega) (by omega)) hsz (by omega) fun h' tk acc c' k e' it => ?_
  have hv : Vals (vns (List.range n)) acc.toList := by
    refine vals_by (by simp [it.1]) fun j x u hx hu => ?_
    rw [List.getElem?_map] at hx
    obtain ⟨m, hm, rfl⟩ := Option.map_eq_some_iff.mp hx
    obtain ⟨hj, rfl⟩ := List.getElem?_eq_some_iff.mp hm
    obtain ⟨t, rfl⟩ := it.2 j u (by simpa using hu)
    exact ⟨t, by simp⟩
  exact ⟨.ref s.heap.objs.size, _, I.laid (t' := tk) k (Nat.le_refl _) (show ObjOk X.prog X.w _ h' _ (.lst (vns (List.range n))) from ⟨by simp; exact Nat.le_trans hn (by decide), acc.toList, c', hv, by rw [e']⟩), rfl, q _ I.fresh⟩
end
def TsAt (H : Hp) (a : Addr) (ts : MM.Ties) : Prop := ∃ tr : List Addr, H a = some (.lst (tr.map V.ref)) ∧ tr.length = ts.length ∧ ∀ (i : Nat) t, ts[i]? = some t → ∃ r, tr[i]? = some r ∧ H r = some (.tup [vn t.1, vn t.2])
def OsAt (H : Hp) (a : Addr) (os : MM.Ords) : Prop := ∃ rr : List Addr, H a = some (.lst (rr.map V.ref)) ∧ rr.length = os.length ∧ ∀ (i : Nat) l, os[i]? = some l → ∃ r, rr[i]? = some r ∧ H r = some (.lst (vns l))
theorem Same.ts {H H' : Hp} (g : Same H H') {a : Addr} {ts : MM.Ties} (h : TsAt H a ts) : TsAt H' a ts := by
  obtain ⟨tr, h1, h2, h3⟩ := h
  exact ⟨tr, g _ _ h1, h2, fun i t ht => by obtain ⟨r, q1, q2⟩ := h3 i t ht; exact ⟨r, q1, g _ _ q2⟩⟩
theorem Same.os {H H' : Hp} (g : Same H H') {a : Addr} {os : MM.Ords} (h : OsAt H a os) : OsAt H' a os := by
  obtain ⟨tr, h1, h2, h3⟩ := h
  exact ⟨tr, g _ _ h1, h2, fun i t ht => by obtain ⟨r, q1, q2⟩ := h3 i t ht; exact ⟨r, q1, g _ _ q2⟩⟩
theorem TsAt.item {H : Hp} {a : Addr} {ts : MM.Ties} (h : TsAt H a ts) {i : Nat} (hi : i < ts.length) : ∃ xs r, H a = some (.lst xs) ∧ xs.length = ts.length ∧ atI xs (i : Int) = some (.ref r) ∧ H r = some (.tup [vn (ts.getD i (0, 0)).1, vn (ts.getD i (0, 0)).2]) := by
  obtain ⟨tr, h1, h2, h3⟩ := h
  obtain ⟨r, q1, q2⟩ := h3 i ts[i] (List.getElem?_eq_getElem hi)
  refine ⟨_, r, h1, by rw [List.length_map]; exact h2, atI_nat (by rw [List.getElem?_map, q1]; rfl), ?_⟩
  simp only [List.getD, List.getElem?_eq_getElem hi, Option.getD_some]
  exact q2
theorem OsAt.item {H : Hp} {a : Addr} {os : MM.Ords} (h : OsAt H a os) {i : Nat} (hi : i < os.length) : ∃ xs r, H a = some (.lst xs) ∧ xs.length = os.length ∧ atI xs (i : Int) = some (.ref r) ∧ H r = some (.lst (vns (MM.row os i))) := by
  obtain ⟨tr, h1, h2, h3⟩ := h
  obtain ⟨r, q1, q2⟩ := h3 i os[i] (List.getElem?_eq_getElem hi)
  refine ⟨_, r, h1, by rw [List.length_map]; exact h2, atI_nat (by rw [List.getElem?_map, q1]; rfl), ?_⟩
  unfold MM.row
  simp only [List.getD, List.getElem?_eq_getElem hi, Option.getD_some]
  exact q2
theorem at_vns {l : List Nat} {j : Nat} (h : j < l.length) {k : Int} (hk : k = (j : Int)) : atI (vns l) k = some (vn (l.getD j 0)) := by
  subst hk
  exact atI_nat (by rw [List.getElem?_map, List.getElem?_eq_getElem h]; simp [List.getD, h])
theorem at_prev {l : List Nat} {x : Nat} (h : x ∈ l) : atI (vns l) ((l.idxOf x : Nat) - 1 : Int) = some (vn (MM.prevIn l x)) := by
  have h1 := List.idxOf_lt_length_of_mem h
  unfold MM.prevIn
  rcases Nat.eq_zero_or_pos (l.idxOf x) with q | q
  · have e : (l.idxOf x + l.length - 1) % l.length = l.length - 1 := by rw [q, Nat.zero_add]; exact Nat.mod_eq_of_lt (by omega)
    rw [e]
    unfold atI ixN
    rw [if_neg (by omega), if_pos (by simp; omega)]
    have e2 : ((l.idxOf x : Nat) - 1 + ((vns l).length : Int)).toNat = l.length - 1 := by simp; omega
    show (vns l)[((l.idxOf x : Nat) - 1 + ((vns l).length : Int)).toNat]? = _
    rw [e2, List.getElem?_map, List.getElem?_eq_getElem (by omega)]
    have : l.length - 1 < l.length := by omega
    simp [List.getD, this]
  · have e : (l.idxOf x + l.length - 1) % l.length = l.idxOf x - 1 := by
      have : l.idxOf x + l.length - 1 = (l.idxOf x - 1) + l.length := by omega
      rw [this, Nat.add_mod_right]; exact Nat.mod_eq_of_lt (by omega)
    rw [e]
    exact at_vns (by omega) (by omega)
end L2

set_option linter.all false
set_option maxRecDepth 100000
set_option maxHeartbeats 4000000

namespace L2
open PySem PySem.Spec PyProof.Rows
theorem comp_rel {J : It} {js : List (Option Nat)} {σ : St} {H1 : Hp} {R : Hp → Prop} {D : Addr} {g : TG} {te : TE} (n : Nat) (Pe : Nat → V → Prop) (hD : H1 D = none) (hn : n ≤ 100000)
    (go : ∀ i H', i < n → Same H1 H' → J.go i H') (stop : ∀ H', Same H1 H' → J.stop n H')
    (hs : ∀ i H' x H'' (k : V → Hp → Prop), i < n → Same H1 H' → J.yld i H' x H'' → (∀ v H4, Pe i v → Same H' H4 → k v H4) → g x (inner js σ) H'' fun σ2 H2 => Fills (inner js σ) σ2 ∧ te σ2 H2 k)
    (hd : ∀ vs H', vs.length = n → (∀ (i : Nat) v, vs[i]? = some v → Pe i v) → Same H1 H' → H' D = some (.lst vs) → R H') :
    ∃ W : Nat → Nat → List V → Hp → Prop, (∃ m, W 0 m [] (upd H1 D (.lst []))) ∧
      ∀ i m ys H, W i m ys H → (J.stop i H ∧ R H) ∨ (J.go i H ∧ ∃ N : List V → Hp → Prop, (∀ ys' H', N ys' H' → ∃ m', m' < m ∧ W (i + 1) m' ys' H') ∧ ∀ x H', J.yld i H x H' → g x (inner js σ) H' fun σ2 H2 => Fills (inner js σ) σ2 ∧ tTrue σ2 H2 fun b H3 =>
        if b = true then te σ2 H3 fun y H4 => H4 D = some (.lst ys) ∧ ys.length < sizeLine ∧ N (ys ++ [y]) (upd H4 D (.lst (ys ++ [y]))) else N ys H3) := by
  refine comp_map n (fun i ys H' => ys.length = i ∧ (∀ (j : Nat) v, ys[j]? = some v → Pe j v) ∧ Same H1 H' ∧ H' D = some (.lst ys)) ⟨rfl, fun j v h => by simp at h, same_new hD _, upd_same⟩ ?_ ?_
  · rintro i ys H' hi ⟨hl, hp, g1, hD'⟩
    refine ⟨go i H' hi g1, fun x H'' hy => hs i H' x H'' _ hi g1 hy fun v H4 hv g4 => ⟨g4 _ _ hD', ?_, ?_, ?_, ?_, upd_same⟩⟩
    · rw [hl]; exact Nat.lt_of_lt_of_le hi (Nat.le_trans hn (by decide))
    · rw [List.length_append, hl]; rfl
    · intro j v' h
      by_cases hj : j < ys.length
      · rw [List.getElem?_append_left hj] at h; exact hp j v' h
      · rw [List.getElem?_append_right (by omega)] at h
        have hj2 : j - ys.length = 0 := by
          have := (List.getElem?_eq_some_iff.mp h).1
          simp at this; omega
        rw [hj2] at h
        simp at h
        subst h
        have : j = i := by omega
        subst this
        exact hv
    · exact fun b o h => by rw [upd_ne (ne_of_none h hD)]; exact g4 _ _ (g1 _ _ h)
  · rintro ys H' ⟨hl, hp, g1, hD'⟩
    exact ⟨stop H' g1, hd ys H' hl hp g1 hD'⟩
theorem rel_fun {vs : List V} {n : Nat} {fs : Nat → V} (hl : vs.length = n) (h : ∀ (i : Nat) v, vs[i]? = some v → v = fs i) : vs = (List.range n).map fs := by
  apply List.ext_getElem?
  intro i
  by_cases hi : i < n
  · rw [List.getElem?_map, List.getElem?_range hi]
    obtain ⟨v, hv⟩ : ∃ v, vs[i]? = some v := ⟨vs[i], List.getElem?_eq_getElem (by omega)⟩
    rw [hv, h i v hv]; rfl
  · rw [List.getElem?_eq_none (by omega), List.getElem?_eq_none (by simp; omega)]
theorem comp_pure {J : It} {js : List (Option Nat)} {σ : St} {H1 : Hp} {R : Hp → Prop} {D : Addr} {g : TG} {te : TE} (n : Nat) (fs : Nat → V) (hD : H1 D = none) (hn : n ≤ 100000)
    (go : ∀ i H', i < n → Same H1 H' → J.go i H') (stop : ∀ H', Same H1 H' → J.stop n H')
    (hs : ∀ i H' x H'' (k : V → Hp → Prop), i < n → Same H1 H' → J.yld i H' x H'' → (∀ H4, Same H' H4 → k (fs i) H4) → g x (inner js σ) H'' fun σ2 H2 => Fills (inner js σ) σ2 ∧ te σ2 H2 k)
    (hd : ∀ H', Same H1 H' → H' D = some (.lst ((List.range n).map fs)) → R H') :
    ∃ W : Nat → Nat → List V → Hp → Prop, (∃ m, W 0 m [] (upd H1 D (.lst []))) ∧
      ∀ i m ys H, W i m ys H → (J.stop i H ∧ R H) ∨ (J.go i H ∧ ∃ N : List V → Hp → Prop, (∀ ys' H', N ys' H' → ∃ m', m' < m ∧ W (i + 1) m' ys' H') ∧ ∀ x H', J.yld i H x H' → g x (inner js σ) H' fun σ2 H2 => Fills (inner js σ) σ2 ∧ tTrue σ2 H2 fun b H3 =>
        if b = true then te σ2 H3 fun y H4 => H4 D = some (.lst ys) ∧ ys.length < sizeLine ∧ N (ys ++ [y]) (upd H4 D (.lst (ys ++ [y]))) else N ys H3) :=
  comp_rel n (fun i v => v = fs i) hD hn go stop (fun i H' x H'' k hi g1 hy hk => hs i H' x H'' k hi g1 hy fun H4 g4 => hk _ _ rfl g4)
    fun vs H' hl hp g1 e => hd H' g1 (by rw [e, rel_fun hl hp])
def at0 (ls : List Int) (j : Nat) : Int := ls.getD j 0
theorem at_get {ls : List Int} {j : Nat} (h : j < ls.length) : (ls.map V.int)[j]? = some (.int (at0 ls j)) := by
  unfold at0
  rw [List.getElem?_map, List.getElem?_eq_getElem h]
  simp [List.getD, h]
theorem at0_mem {ls : List Int} {j : Nat} (h : j < ls.length) : at0 ls j ∈ ls := by
  unfold at0; simp [List.getD, h]
theorem atI_get0 {ls : List Int} {j : Nat} (h : j < ls.length) {k : Int} (hk : k = (j : Int)) : atI (ls.map V.int) k = some (.int (at0 ls j)) := by
  subst hk; exact atI_nat (at_get h)
def vo : Option Int → V
  | none => .non
  | some i => .int i
abbrev vos (l : List (Option Int)) : List V := l.map vo
def ov (l : List (Option Int)) (j : Nat) : Option Int := l.getD j none
theorem ixN_ok {n j : Nat} {k : Int} (h : j < n) (hk : k = (j : Int)) : ixN n k = some j := by
  subst hk
  unfold ixN
  rw [if_pos (by omega), if_pos (by omega)]
  simp
def dvo : Option Int → PyData
  | none => .none
  | some i => .int i
theorem bd_ints {K : PySem.W.Frag} {H : Hp} {a : Addr} {ns : List Int} (h : H a = some (.lst (ns.map V.int))) : Bd K H (.ref a) (.list (ns.map PyData.int)) := .lst (SqL.of h) (Bds.ints ns)
theorem lay_all {ds : List PyData} (n : Nat) (h : ∀ d ∈ ds, d.canLay0 = true ∧ d.depth ≤ n) : PyData.canLayAll0 ds = true ∧ PyData.depthAll ds ≤ n := by
  induction ds with
  | nil => exact ⟨rfl, Nat.zero_le _⟩
  | cons d ds ih =>
    have h1 := h d List.mem_cons_self
    have h2 := ih fun x hx => h x (List.mem_cons_of_mem _ hx)
    refine ⟨by rw [PyData.canLayAll0, h1.1, h2.1]; rfl, ?_⟩
    rw [PyData.depthAll]
    exact Nat.max_le.mpr ⟨h1.2, h2.2⟩
theorem lay_ints (ns : List Int) : PyData.canLayAll0 (ns.map PyData.int) = true ∧ PyData.depthAll (ns.map PyData.int) ≤ 2 := lay_all 2 fun d hd => by
  obtain ⟨n, _, rfl⟩ := List.mem_map.mp hd
  exact ⟨rfl, by simp [PyData.depth]⟩
theorem shaped_ints (ns : List Int) : SeqAt.shaped (.list (ns.map PyData.int)) = true := by
  have h := lay_ints ns
  unfold SeqAt.shaped
  rw [Bool.and_eq_true]
  refine ⟨h.1, decide_eq_true ?_⟩
  rw [PyData.depth]
  omega
theorem for_enum {K : PySem.W.Frag} {a : Addr} {xs : List V} {g : TG} {tb : TS} {D : Ends} {σ : St} {H : Hp} (Pv : Nat → St → Hp → Prop) (h0 : Pv 0 σ H) (hl : ∀ i σ H, i ≤ xs.length → Pv i σ H → SqL K H a xs)
    (hs : ∀ (i : Nat) x σ H T, xs[i]? = some x → Pv i σ H → H T = none → g (.ref T) σ (upd H T (.tup [vn i, x])) fun σ2 H2 => tb { D with nx := Pv (i + 1), ct := Pv (i + 1), bk := D.nx } σ2 H2) (hd : ∀ σ H, Pv xs.length σ H → D.nx σ H) :
    ∃ W : Nat → Nat → St → Hp → Prop, (∃ m, W 0 m σ H) ∧ ∀ i m σ H, W i m σ H →
      ((Ite K a).stop i H ∧ D.nx σ H) ∨ ((Ite K a).go i H ∧ ∃ N : St → Hp → Prop, (∀ σ' H', N σ' H' → ∃ m', m' < m ∧ W (i + 1) m' σ' H') ∧ ∀ x H', (Ite K a).yld i H x H' → g x σ H' fun σ2 H2 => tb { D with nx := N, ct := N, bk := D.nx } σ2 H2) := by
  refine ⟨fun i m σ H => m = xs.length - i ∧ i ≤ xs.length ∧ Pv i σ H, ⟨xs.length, by simp, Nat.zero_le _, h0⟩, ?_⟩
  rintro i m σ H ⟨rfl, hi, p⟩
  have q := hl i σ H hi p
  by_cases hlt : i < xs.length
  · refine .inr ⟨⟨xs, xs[i], q, by simp [hlt]⟩, Pv (i + 1), fun σ' H' p' => ⟨xs.length - (i + 1), by omega, rfl, hlt, p'⟩, fun x H' y => ?_⟩
    obtain ⟨T, x', rfl, hT, rfl, y⟩ := y
    exact hs i x' σ _ T (y xs q) p hT
  · have e : i = xs.length := by omega
    subst e
    exact .inl ⟨⟨xs, q, Nat.le_refl _⟩, hd σ H p⟩
end L2

namespace L2
open PySem PySem.Spec PyProof.Rows
theorem preSum_at0 (ns : List Int) : ∀ k, k ≤ ns.length → PySem.preSum (at0 ns) k = (ns.take k).sum
  | 0, _ => by simp [PySem.preSum]
  | k + 1, h => by
    rw [PySem.preSum, preSum_at0 ns k (by omega), List.take_succ, List.sum_append]
    have hk : k < ns.length := by omega
    unfold at0
    simp [List.getD, hk]
section
variable {X : Cx} {pins : List (Addr × Obj)} {σ : St} {H : Hp} {s : Shared}
theorem listIter_st {p : Addr} {its : List Value} (pl : PlainL s.heap p its.toArray) :
    (s.heap.push { cls := .type "list_iterator", data := .fields #[.ref p, .int 0 0] }).IsListIter s.heap.objs.size p 0 ∧ (s.heap.push { cls := .type "list_iterator", data := .fields #[.ref p, .int 0 0] }).IsList p its.toArray := by
  obtain ⟨o, n, e, hc, hd, hs⟩ := pl
  exact ⟨⟨_, Heap.get?_push_size _ rfl, rfl, rfl⟩, o, Heap.get?_push_of_some _ e, hc, n, hs⟩
theorem plain_ne {p : Addr} {its : List Value} (pl : PlainL s.heap p its.toArray) : p < s.heap.objs.size := by
  obtain ⟨o, n, e, _⟩ := pl
  exact Heap.lt_size e
theorem call_sumI (hc : X.calm = true) : CallR X (.builtin "sum") (fun xs H Q => ∃ (p : Addr) (ns : List Int), xs = [.ref p] ∧ SqL X.K H p (ns.map V.int) ∧ Q (.int ns.sum) H) := by
  intro pins s σ H xs us Q I r h
  obtain ⟨p, ns, rfl, hq, q⟩ := h
  obtain ⟨u, rfl, rx⟩ := vals1 r
  cases rx
  obtain ⟨its, rv, pl, hz⟩ := I.list hq
  have hl := rv.length
  rw [List.length_map] at hl
  have hp := plain_ne pl
  refine call_sum_walkG (wpAny_pyIter_list pl.isList ?_)
  refine ⟨s.heap.objs.size, [s.heap.objs.size, p], [s.heap.objs.size], its.toArray.size, _, _, at0 ns, rfl, Walks.list (show X.A.in1.handled = none from I.ok.hd hc) _ p (Nat.ne_of_lt hp) its.toArray, listIter_st pl, fun b hb => ?_, fun i v hv => ?_, fun h' tk t' hk => ?_⟩
  · have := Heap.lt_size (Heap.get?_push_size s.heap (o := { cls := .type "list_iterator", data := .fields #[.ref p, .int 0 0] }) rfl)
    simp only [List.mem_cons, List.not_mem_nil, or_false] at hb
    rcases hb with rfl | rfl
    · exact this
    · exact Nat.lt_trans hp this
  · have hi : its[i]? = some v := by simpa using hv
    have hi2 : i < ns.length := by rw [hl]; exact (List.getElem?_eq_some_iff.mp hi).1
    obtain ⟨u', hu, ru⟩ := rv.get (at_get hi2)
    rw [hi] at hu
    cases hu
    exact ru
  · refine ⟨.int ns.sum, H, I.kept (h' := h') (t' := tk) fun b o e => ?_, ⟨t', ?_⟩, q⟩
    · refine hk b o ?_ (Heap.get?_push_of_some _ e)
      simp only [List.mem_cons, List.not_mem_nil, or_false]
      exact Nat.ne_of_lt (Heap.lt_size e)
    · rw [List.size_toArray, ← hl, preSum_at0 ns _ (Nat.le_refl _), List.take_length]
end
end L2
namespace L2
open PySem PySem.Spec PyProof.Rows
theorem all_range (bs : List Bool) : (List.range bs.length).all (fun i => bs.getD i true) = bs.all id := by
  rw [Bool.eq_iff_iff, List.all_eq_true, List.all_eq_true]
  constructor
  · intro h b hb
    obtain ⟨i, hi, rfl⟩ := List.getElem_of_mem hb
    have := h i (by simpa using hi)
    simpa [List.getD, hi] using this
  · intro h i hi
    have hi' : i < bs.length := by simpa using hi
    have := h bs[i] (List.getElem_mem hi')
    simpa [List.getD, hi'] using this
section
variable {X : Cx}
theorem call_allB (hc : X.calm = true) : CallR X (.builtin "all") (fun xs H Q => ∃ (p : Addr) (bs : List Bool), xs = [.ref p] ∧ SqL X.K H p (bs.map V.bl) ∧ Q (.bl (bs.all id)) H) := by
  intro pins s σ H xs us Q I r h
  obtain ⟨p, bs, rfl, hq, q⟩ := h
  obtain ⟨u, rfl, rx⟩ := vals1 r
  cases rx
  obtain ⟨its, rv, pl, hz⟩ := I.list hq
  have hl := rv.length
  rw [List.length_map] at hl
  have hp := plain_ne pl
  refine call_all_walk (wpAny_pyIter_list pl.isList ?_)
  refine ⟨s.heap.objs.size, [s.heap.objs.size, p], [s.heap.objs.size], its.toArray.size, _, _, fun i => bs.getD i true, rfl, Walks.list (show X.A.in1.handled = none from I.ok.hd hc) _ p (Nat.ne_of_lt hp) its.toArray, listIter_st pl, fun i v s' Q' E' hv hQ => ?_, fun h' tk hk => ?_⟩
  · have hi : its[i]? = some v := by simpa using hv
    have hi2 : i < bs.length := by rw [hl]; exact (List.getElem?_eq_some_iff.mp hi).1
    obtain ⟨u', hu, ru⟩ := rv.get (show (bs.map V.bl)[i]? = some (.bl (bs.getD i true)) by rw [List.getElem?_map, List.getElem?_eq_getElem hi2]; simp [List.getD, hi2])
    rw [hi] at hu
    cases hu
    cases ru
    exact wpAny_truthy_bool hQ
  · refine ⟨.bl (bs.all id), H, I.kept (h' := h') (t' := tk) fun b o e => ?_, ?_, q⟩
    · refine hk b o ?_ (Heap.get?_push_of_some _ e)
      simp only [List.mem_cons, List.not_mem_nil, or_false]
      exact Nat.ne_of_lt (Heap.lt_size e)
    · show Value.bool _ = Value.bool _
      rw [List.size_toArray, ← hl, all_range]
end
end L2

namespace L2
open PySem PySem.Spec PyProof.Rows
section
variable {X : Cx}
theorem call_minL (hc : X.calm = true) : CallR X (.builtin "min") (fun xs H Q => ∃ (p : Addr) (ns : List Int), xs = [.ref p] ∧ SqL X.K H p (ns.map V.int) ∧ 0 < ns.length ∧ ∀ m : Int, m ∈ ns → (∀ x ∈ ns, m ≤ x) → Q (.int m) H) := by
  intro pins s σ H xs us Q I r h
  obtain ⟨p, ns, rfl, hq, h0, q⟩ := h
  obtain ⟨u, rfl, rx⟩ := vals1 r
  cases rx
  obtain ⟨its, rv, pl, hz⟩ := I.list hq
  have hl := rv.length
  rw [List.length_map] at hl
  have hp := plain_ne pl
  have hv : ∀ (i : Nat) (v : Value), its.toArray[i]? = some v → ∃ t, v = Value.int (at0 ns i) t := fun i v hv => by
    have hi : its[i]? = some v := by simpa using hv
    have hi2 : i < ns.length := by rw [hl]; exact (List.getElem?_eq_some_iff.mp hi).1
    obtain ⟨u', hu, ru⟩ := rv.get (at_get hi2)
    rw [hi] at hu
    cases hu
    exact ru
  have hb := argBest_lt (at0 ns) (its.toArray.size - 1)
  refine call_min_walk (wpAny_pyIter_list pl.isList ?_)
  refine ⟨s.heap.objs.size, [s.heap.objs.size, p], [s.heap.objs.size], its.toArray.size, _, _, _, rfl, Walks.list (show X.A.in1.handled = none from I.ok.hd hc) _ p (Nat.ne_of_lt hp) its.toArray, listIter_st pl, fun b hb => ?_, by simp; omega, CmpOf.ints_lt (at0 ns) hv, fun v h' tk hP hk => ?_⟩
  · have := Heap.lt_size (Heap.get?_push_size s.heap (o := { cls := .type "list_iterator", data := .fields #[.ref p, .int 0 0] }) rfl)
    simp only [List.mem_cons, List.not_mem_nil, or_false] at hb
    rcases hb with rfl | rfl
    · exact this
    · exact Nat.lt_trans hp this
  · obtain ⟨t, rfl⟩ := hv _ _ hP
    have hsz : its.toArray.size = ns.length := by simp [hl]
    refine ⟨.int _, H, I.kept (h' := h') (t' := tk) fun b o e => ?_, ⟨t, rfl⟩, q _ (at0_mem (by omega)) fun x hx => ?_⟩
    · refine hk b o ?_ (Heap.get?_push_of_some _ e)
      simp only [List.mem_cons, List.not_mem_nil, or_false]
      exact Nat.ne_of_lt (Heap.lt_size e)
    · obtain ⟨i, hi, rfl⟩ := List.getElem_of_mem hx
      have := hb.2 i (by omega)
      have e : at0 ns i = ns[i] := by unfold at0; simp [List.getD, hi]
      rw [← e]; exact this
theorem call_maxL (hc : X.calm = true) : CallR X (.builtin "max") (fun xs H Q => ∃ (p : Addr) (ns : List Int), xs = [.ref p] ∧ SqL X.K H p (ns.map V.int) ∧ 0 < ns.length ∧ ∀ m : Int, m ∈ ns → (∀ x ∈ ns, x ≤ m) → Q (.int m) H) := by
  intro pins s σ H xs us Q I r h
  obtain ⟨p, ns, rfl, hq, h0, q⟩ := h
  obtain ⟨u, rfl, rx⟩ := vals1 r
  cases rx
  obtain ⟨its, rv, pl, hz⟩ := I.list hq
  have hl := rv.length
  rw [List.length_map] at hl
  have hp := plain_ne pl
  have hv : ∀ (i : Nat) (v : Value), its.toArray[i]? = some v → ∃ t, v = Value.int (at0 ns i) t := fun i v hv => by
    have hi : its[i]? = some v := by simpa using hv
    have hi2 : i < ns.length := by rw [hl]; exact (List.getElem?_eq_some_iff.mp hi).1
    obtain ⟨u', hu, ru⟩ := rv.get (at_get hi2)
    rw [hi] at hu
    cases hu
    exact ru
  have hb := argBest_gt (at0 ns) (its.toArray.size - 1)
  refine call_max_walk (wpAny_pyIter_list pl.isList ?_)
  refine ⟨s.heap.objs.size, [s.heap.objs.size, p], [s.heap.objs.size], its.toArray.size, _, _, _, rfl, Walks.list (show X.A.in1.handled = none from I.ok.hd hc) _ p (Nat.ne_of_lt hp) its.toArray, listIter_st pl, fun b hb => ?_, by simp; omega, CmpOf.ints_gt (at0 ns) hv, fun v h' tk hP hk => ?_⟩
  · have := Heap.lt_size (Heap.get?_push_size s.heap (o := { cls := .type "list_iterator", data := .fields #[.ref p, .int 0 0] }) rfl)
    simp only [List.mem_cons, List.not_mem_nil, or_false] at hb
    rcases hb with rfl | rfl
    · exact this
    · exact Nat.lt_trans hp this
  · obtain ⟨t, rfl⟩ := hv _ _ hP
    have hsz : its.toArray.size = ns.length := by simp [hl]
    refine ⟨.int _, H, I.kept (h' := h') (t' := tk) fun b o e => ?_, ⟨t, rfl⟩, q _ (at0_mem (by omega)) fun x hx => ?_⟩
    · refine hk b o ?_ (Heap.get?_push_of_some _ e)
      simp only [List.mem_cons, List.not_mem_nil, or_false]
      exact Nat.ne_of_lt (Heap.lt_size e)
    · obtain ⟨i, hi, rfl⟩ := List.getElem_of_mem hx
      have := hb.2 i (by omega)
      have e : at0 ns i = ns[i] := by unfold at0; simp [List.getD, hi]
      rw [← e]; exact this
def unl (ns : List Int) : Nat := (firstMet (fun i => ns.getD i 0) ns.length).length
end
end L2

namespace L2
open PySem PySem.Spec PyProof.Rows
section
variable {κ : Type} [DecidableEq κ]
def valV (kvs : List (κ × V)) (k : κ) : Option V := (kvs.find? fun kv => decide (kv.1 = k)).map (·.2)
def putK (kvs : List (κ × V)) (k : κ) (v : V) : List (κ × V) :=
  if (kvs.any fun kv => decide (kv.1 = k)) = true then kvs.map (fun kv => if kv.1 = k then (kv.1, v) else kv) else kvs ++ [(k, v)]
def dropK (kvs : List (κ × V)) (k : κ) : List (κ × V) := kvs.filter fun kv => decide (kv.1 ≠ k)

theorem valV_pos {p : κ × V} {r : List (κ × V)} {k : κ} (e : p.1 = k) : valV (p :: r) k = some p.2 := by simp [valV, List.find?_cons, e]
theorem valV_neg {p : κ × V} {r : List (κ × V)} {k : κ} (e : ¬ p.1 = k) : valV (p :: r) k = valV r k := by simp [valV, List.find?_cons, e]
theorem valV_any (k : κ) : ∀ kvs : List (κ × V), (kvs.any fun kv => decide (kv.1 = k)) = (valV kvs k).isSome
  | [] => rfl
  | p :: r => by
    rw [List.any_cons]
    by_cases e : p.1 = k
    · simp only [valV_pos e, decide_eq_true e, Bool.true_or, Option.isSome_some]
    · rw [valV_neg e, decide_eq_false e, Bool.false_or]; exact valV_any k r
theorem valV_map (k j : κ) (y : V) : ∀ kvs : List (κ × V), valV (kvs.map fun kv => if kv.1 = k then (kv.1, y) else kv) j = (valV kvs j).map fun x => if j = k then y else x
  | [] => rfl
  | p :: r => by
    have ih := valV_map k j y r
    rw [List.map_cons]
    by_cases h : p.1 = k
    · rw [if_pos h]
      by_cases e : p.1 = j
      · rw [valV_pos (p := (p.1, y)) e, valV_pos e, Option.map_some, if_pos (e.symm.trans h)]
      · rw [valV_neg (p := (p.1, y)) e, valV_neg e, ih]
    · rw [if_neg h]
      by_cases e : p.1 = j
      · rw [valV_pos (p := p) e, valV_pos e, Option.map_some, if_neg (fun z => h (e.trans z))]
      · rw [valV_neg (p := p) e, valV_neg e, ih]
theorem valV_snoc (k j : κ) (y : V) : ∀ kvs : List (κ × V), valV kvs k = none → valV (kvs ++ [(k, y)]) j = if j = k then some y else valV kvs j
  | [], _ => by
    by_cases e : k = j
    · rw [if_pos e.symm]; exact valV_pos (p := (k, y)) e
    · rw [if_neg (fun z => e z.symm)]; exact valV_neg (p := (k, y)) e
  | p :: r, hn => by
    rw [List.cons_append]
    have hk : ¬ p.1 = k := fun z => by rw [valV_pos z] at hn; cases hn
    rw [valV_neg hk] at hn
    have ih := valV_snoc k j y r hn
    by_cases e : p.1 = j
    · rw [valV_pos e, valV_pos e, if_neg (fun z => hk (e.trans z))]
    · rw [valV_neg e, valV_neg e, ih]
theorem valV_put (kvs : List (κ × V)) (k j : κ) (y : V) : valV (putK kvs k y) j = if j = k then some y else valV kvs j := by
  unfold putK
  by_cases a : (kvs.any fun kv => decide (kv.1 = k)) = true
  · rw [if_pos a, valV_map]
    rw [valV_any] at a
    by_cases e : j = k
    · obtain ⟨x, hx⟩ := Option.isSome_iff_exists.mp a
      rw [if_pos e, e, hx, Option.map_some, if_pos rfl]
    · rw [if_neg e]
      cases valV kvs j with
      | none => rfl
      | some x => rw [Option.map_some, if_neg e]
  · rw [if_neg a]
    refine valV_snoc k j y kvs ?_
    rw [valV_any] at a
    cases q : valV kvs k with
    | none => rfl
    | some x => rw [q] at a; exact (a rfl).elim
theorem length_putK (kvs : List (κ × V)) (k : κ) (v : V) : (putK kvs k v).length ≤ kvs.length + 1 := by
  unfold putK
  split
  · rw [List.length_map]; omega
  · rw [List.length_append, List.length_cons, List.length_nil]; omega
theorem RelO.isSome_eq {o : Option V} {u : Option Value} (r : RelO o u) : o.isSome = u.isSome := by
  cases o with
  | none => cases u with
    | none => rfl
    | some _ => exact (show False from r).elim
  | some _ => cases u with
    | none => exact (show False from r).elim
    | some _ => rfl
theorem KV.val {kvs : List (κ × V)} {vs : List (κ × Value)} (r : KV kvs vs) (k : κ) : RelO (valV kvs k) (valueAt vs k) := by
  unfold KV at r
  induction r with
  | nil => exact True.intro
  | @cons p q ps qs h t ih =>
    obtain ⟨h1, h2⟩ := h
    by_cases e : p.1 = k
    · have e' : q.1 = k := h1.symm.trans e
      have b : valueAt (q :: qs) k = some q.2 := by simp [valueAt, List.find?_cons, e']
      rw [valV_pos e, b]; exact h2
    · have e' : ¬ q.1 = k := fun z => e (h1.trans z)
      have b : valueAt (q :: qs) k = valueAt qs k := by simp [valueAt, List.find?_cons, e']
      rw [valV_neg e, b]; exact ih
theorem KV.any {kvs : List (κ × V)} {vs : List (κ × Value)} (r : KV kvs vs) (k : κ) : (kvs.any fun kv => decide (kv.1 = k)) = vs.any fun kv => decide (kv.1 = k) := by
  unfold KV at r
  induction r with
  | nil => rfl
  | cons h t ih => rw [List.any_cons, List.any_cons, ih, h.1]
theorem KV.repl {kvs : List (κ × V)} {vs : List (κ × Value)} (r : KV kvs vs) (k : κ) {y : V} {u : Value} (ry : RelV y u) :
    KV (kvs.map fun kv => if kv.1 = k then (kv.1, y) else kv) (vs.map fun kv => if kv.1 = k then (kv.1, u) else kv) := by
  unfold KV at r ⊢
  induction r with
  | nil => exact .nil
  | @cons p q ps qs h t ih =>
    rw [List.map_cons, List.map_cons]
    refine .cons ?_ ih
    obtain ⟨h1, h2⟩ := h
    by_cases e : p.1 = k
    · rw [if_pos e, if_pos (h1.symm.trans e)]; exact ⟨h1, ry⟩
    · rw [if_neg e, if_neg (fun z => e (h1.trans z))]; exact ⟨h1, h2⟩
theorem KV.put {kvs : List (κ × V)} {vs : List (κ × Value)} (r : KV kvs vs) (k : κ) {y : V} {u : Value} (ry : RelV y u) : KV (putK kvs k y) (stored vs k u) := by
  unfold putK stored
  rw [r.any k]
  by_cases e : (vs.any fun kv => decide (kv.1 = k)) = true
  · rw [if_pos e, if_pos e]; exact r.repl k ry
  · rw [if_neg e, if_neg e]; exact Paired.snoc r ⟨rfl, ry⟩
theorem KV.length {kvs : List (κ × V)} {vs : List (κ × Value)} (r : KV kvs vs) : kvs.length = vs.length := Paired.length r
end


theorem kV_is {P : Program} {w : World} {k : Key} {u : Value} (r : RelV (kV k) u) : (mixKind P w).is k u = true := by
  cases k with
  | inl i => obtain ⟨t, e⟩ := (show ∃ t, u = Value.int i t from r); subst e; exact mixKind_int P w i t
  | inr x => obtain ⟨t, e⟩ := (show ∃ t, u = Value.str x t from r); subst e; exact mixKind_str P w x t
theorem items_are {P : Program} {w : World} : ∀ {ks : List Key} {us : List Value}, Vals (ks.map kV) us → ItemsAre (mixKind P w) ks us
  | [], _, r => by rw [List.map_nil] at r; cases r; exact .nil
  | k :: ks, _, r => by
    rw [List.map_cons] at r
    cases r with
    | cons h t => exact .cons (kV_is h) (items_are t)

abbrev KT (H : Hp) : List (List Key × V) → List (List Key × Addr × Value) → Prop := Paired fun p q => p.1 = q.1 ∧ H q.2.1 = some (.tup (p.1.map kV)) ∧ RelV p.2 q.2.2
theorem KT.val {H : Hp} {kvs : List (List Key × V)} {xs : List (List Key × Addr × Value)} (r : KT H kvs xs) (k : List Key) : RelO (valV kvs k) ((atKey xs k).map (·.2)) := by
  induction r with
  | nil => exact True.intro
  | @cons p q ps qs h t ih =>
    obtain ⟨h1, _, h2⟩ := h
    by_cases e : p.1 = k
    · have e' : q.1 = k := h1.symm.trans e
      have b : atKey (q :: qs) k = some q.2 := by simp [atKey, List.find?_cons, e']
      rw [valV_pos e, b]; exact h2
    · have e' : ¬ q.1 = k := fun z => e (h1.trans z)
      have b : atKey (q :: qs) k = atKey qs k := by simp [atKey, List.find?_cons, e']
      rw [valV_neg e, b]; exact ih
theorem KT.repl {H : Hp} {kvs : List (List Key × V)} {xs : List (List Key × Addr × Value)} (r : KT H kvs xs) (k : List Key) {y : V} {u : Value} (ry : RelV y u) :
    KT H (kvs.map fun kv => if kv.1 = k then (kv.1, y) else kv) (xs.map (putAt k u)) := by
  induction r with
  | nil => exact .nil
  | @cons p q ps qs h t ih =>
    rw [List.map_cons, List.map_cons]
    refine .cons ?_ ih
    obtain ⟨h1, h2, h3⟩ := h
    unfold putAt
    by_cases e : p.1 = k
    · rw [if_pos e, if_pos (h1.symm.trans e)]; exact ⟨h1, h2, ry⟩
    · rw [if_neg e, if_neg (fun z => e (h1.trans z))]; exact ⟨h1, h2, h3⟩
theorem KT.put {H : Hp} {kvs : List (List Key × V)} {xs : List (List Key × Addr × Value)} (r : KT H kvs xs) (k : List Key) {b : Addr} {y : V} {u : Value} (hb : H b = some (.tup (k.map kV))) (ry : RelV y u) :
    KT H (putK kvs k y) (storedH xs k b u) := by
  have e : (kvs.any fun kv => decide (kv.1 = k)) = (atKey xs k).isSome := by
    rw [valV_any, (r.val k).isSome_eq, Option.isSome_map]
  unfold putK storedH
  rw [e]
  by_cases q : (atKey xs k).isSome = true
  · rw [if_pos q, if_pos q]; exact r.repl k ry
  · rw [if_neg q, if_neg q]; exact Paired.snoc r ⟨rfl, hb, ry⟩
theorem KT.keeps {H H' : Hp} {kvs : List (List Key × V)} {xs : List (List Key × Addr × Value)} (r : KT H kvs xs) (ht : ∀ b ys, H b = some (.tup ys) → H' b = some (.tup ys)) : KT H' kvs xs :=
  Paired.mapP r fun _ _ z => ⟨z.1, ht _ _ z.2.1, z.2.2⟩

section
variable {P : Program} {w : World} {H : Hp} {h : Heap} {a : Addr}
theorem rd_of {u : HO} (ok : HOk P w H h) (e : Rd H a u) : ObjOk P w H h a u := e.ok ok
theorem dk_rd {kvs : List (Key × V)} (ok : HOk P w H h) (e : Rd H a (.dK kvs)) : kvs.length ≤ sizeLine ∧ (a == sysModules) = false ∧ ∃ vs, KV kvs vs ∧ h.DictOf (mixKind P w) a vs :=
  show ObjOk P w H h a (.dK kvs) from rd_of ok e
theorem dk_of {kvs : List (Key × V)} (ok : HOk P w H h) (e : H a = some (.dK kvs)) : kvs.length ≤ sizeLine ∧ (a == sysModules) = false ∧ ∃ vs, KV kvs vs ∧ h.DictOf (mixKind P w) a vs := dk_rd ok (.inl e)
theorem key_of {ks : List Key} (ok : HOk P w H h) (e : H a = some (.tup (ks.map kV))) : (tupleKind (mixKind P w)).is h ks a := by
  obtain ⟨_, its, r, o, h1, h2, n, h3⟩ := (show ObjOk P w H h a (.tup (ks.map kV)) from ok a _ e)
  exact ⟨o, its.toArray, n, h1, h2, h3, by simpa using items_are r⟩
theorem dt_rd {kvs : List (List Key × V)} (ok : HOk P w H h) (e : Rd H a (.dT kvs)) : kvs.length ≤ sizeLine ∧ (a == sysModules) = false ∧
    ∃ xs, KT H kvs xs ∧ h.DictOfH (tupleKind (mixKind P w)) a xs := by
  obtain ⟨z, y, xs, r, o, es, ep, h1, h2, h3, h4, h5⟩ := (show ObjOk P w H h a (.dT kvs) from rd_of ok e)
  refine ⟨z, y, xs, r, o, es, ep, h1, h2, h3, h4, fun x hx => ?_, h5⟩
  have all : ∀ {l : List (List Key × V)} {m : List (List Key × Addr × Value)}, KT H l m → ∀ x ∈ m, (tupleKind (mixKind P w)).is h x.1 x.2.1 := by
    intro l m q
    induction q with
    | nil => intro x hx; exact nomatch hx
    | @cons p q ps qs hq t ih =>
      intro x hx
      rcases List.mem_cons.mp hx with e | hx
      · subst e
        exact key_of ok (by rw [← hq.1]; exact hq.2.1)
      · exact ih x hx
  exact all r x hx
theorem dt_of {kvs : List (List Key × V)} (ok : HOk P w H h) (e : H a = some (.dT kvs)) : kvs.length ≤ sizeLine ∧ (a == sysModules) = false ∧
    ∃ xs, KT H kvs xs ∧ h.DictOfH (tupleKind (mixKind P w)) a xs := dt_rd ok (.inl e)
end

def DGet (H : Hp) (a : Addr) (y : V) (r : Option V) : Prop :=
  (∃ kvs k, Rd H a (.dK kvs) ∧ y = kV k ∧ r = valV kvs k) ∨ ∃ kvs k b, Rd H a (.dT kvs) ∧ y = .ref b ∧ H b = some (.tup (k.map kV)) ∧ r = valV kvs k
def DPut (H : Hp) (a : Addr) (y v : V) (H' : Hp) : Prop :=
  (∃ kvs k, H a = some (.dK kvs) ∧ y = kV k ∧ kvs.length < sizeLine ∧ H' = upd H a (.dK (putK kvs k v))) ∨
  ∃ kvs k b, H a = some (.dT kvs) ∧ y = .ref b ∧ H b = some (.tup (k.map kV)) ∧ kvs.length < sizeLine ∧ H' = upd H a (.dT (putK kvs k v))
theorem DGet.k {H : Hp} {a : Addr} {kvs : List (Key × V)} {k : Key} (e : H a = some (.dK kvs)) : DGet H a (kV k) (valV kvs k) := .inl ⟨kvs, k, .inl e, rfl, rfl⟩
theorem DPut.k {H : Hp} {a : Addr} {kvs : List (Key × V)} {k : Key} {v : V} (e : H a = some (.dK kvs)) (hl : kvs.length < sizeLine) : DPut H a (kV k) v (upd H a (.dK (putK kvs k v))) := .inl ⟨kvs, k, e, rfl, hl, rfl⟩
section
variable {X : Cx} {pins : List (Addr × Obj)} {σ : St} {H : Hp} {s : Shared} {a : Addr} {y v : V} {u r : Value} {o : Option V} {A : Around} {E : Value → Shared → Prop}

theorem Inv.big (I : Inv X pins σ H s) : sysModules < s.heap.objs.size := by
  have h : mainGlobals < s.heap.objs.size := (I.mod.glob.keeps I.bk).lt
  exact Nat.lt_trans (by decide) h

theorem d_getItem {Q : Value → Shared → Prop} (hu : A.units + 1 < cLine) (I : Inv X pins σ H s) (g : DGet H a y (some v)) (ry : RelV y u) (h : ∀ w' s', Inv X pins σ H s' → RelV v w' → Q w' s') :
    wpAny (model X.prog X.w) A (getItem (.ref a) u) Q E s := by
  rcases g with ⟨kvs, k, e, ey, l⟩ | ⟨kvs, k, b, e, ey, eb, l⟩
  · subst ey
    obtain ⟨z, hd, vs, rel, dd⟩ := dk_rd I.hok e
    obtain ⟨w', hw, rw'⟩ := RelO.some_of (v := v) (o := valueAt vs k) (by rw [l]; exact rel.val k)
    exact wpAny_getItem_of (kV_is ry) dd.mapOf hw (h w' _ (I.tok _) rw')
  · subst ey
    cases (show u = Value.ref b from ry)
    obtain ⟨z, hd, xs, rel, dd⟩ := dt_rd I.hok e
    obtain ⟨w', hw, rw'⟩ := RelO.some_of (v := v) (o := (atKey xs k).map (·.2)) (by rw [l]; exact rel.val k)
    obtain ⟨p, hp, hp2⟩ := Option.map_eq_some_iff.mp hw
    refine wpAny_getItem_heap (tupleKind_room_in1 hu) (key_of I.hok eb) dd hp ?_
    rw [hp2]
    exact h w' _ (I.tok _) rw'
theorem d_write {h' : Heap} {t' : Nat} {ob : HO} (I : Inv X pins σ H s) (mu : Mut (H a)) (hs : Heap.SameBut a s.heap h') (he : ∃ q, h'.get? a = some q) (new : ObjOk X.prog X.w (upd H a ob) h' a ob) :
    Inv X pins σ (upd H a ob) { s with heap := h', toks := t' } :=
  I.write (x := a) (e := a) mu (.inl rfl) (fun b q hb z => (hs.2 b hb).trans z) he new
theorem dk_new {P : Program} {w : World} {H' : Hp} {h' : Heap} {kvs : List (Key × V)} {vs : List (Key × Value)} (z : kvs.length ≤ sizeLine) (hd : (a == sysModules) = false) (rel : KV kvs vs) (dd : h'.DictOf (mixKind P w) a vs) :
    ObjOk P w H' h' a (.dK kvs) := ⟨z, hd, vs, rel, dd⟩
theorem d_setItem {H' : Hp} {Q : Unit → Shared → Prop} (hu : A.units + 1 < cLine) (I : Inv X pins σ H s) (g : DPut H a y v H') (ry : RelV y u) (rv : RelV v r) (h : ∀ s', Inv X pins σ H' s' → Q () s') :
    wpAny (model X.prog X.w) A (setItem (.ref a) u r) Q E s := by
  rcases g with ⟨kvs, k, e, ey, l, eH⟩ | ⟨kvs, k, b, e, ey, eb, l, eH⟩
  · subst ey eH
    obtain ⟨z, hd, vs, rel, dd⟩ := dk_of I.hok e
    have hz : vs.length ≤ sizeLine := by rw [← rel.length]; exact z
    have hl : (putK kvs k v).length ≤ sizeLine := by have := length_putK kvs k v; omega
    refine wpAny_setItem_pairs (hsz := hz) (kV_is ry) dd fun h' dd' hs => h _ ?_
    have he : ∃ q, h'.get? a = some q := let ⟨q, _, _, hq, _⟩ := dd'; ⟨q, hq⟩
    exact d_write I (by rw [e]; exact True.intro) hs he (dk_new hl hd (rel.put k rv) dd')
  · subst ey eH
    cases (show u = Value.ref b from ry)
    obtain ⟨z, hd, xs, rel, dd⟩ := dt_of I.hok e
    have hz : xs.length ≤ sizeLine := by rw [← Paired.length rel]; exact z
    have hl : (putK kvs k v).length ≤ sizeLine := by have := length_putK kvs k v; omega
    refine wpAny_setItem_heap (hsz := hz) (tupleKind_room_in1 hu) (key_of I.hok eb) dd fun h' dd' hs => h _ ?_
    obtain ⟨q, es, ep, hq, h2, h3, h4, _, h5⟩ := dd'
    refine d_write I (by rw [e]; exact True.intro) hs ⟨q, hq⟩ ⟨hl, hd, _, (rel.put k eb rv).keeps fun c ys ec => ?_, q, es, ep, hq, h2, h3, h4, h5⟩
    rw [upd_ne (ne_of ec e (fun z => nomatch z))]
    exact ec
end

section
variable {X : Cx} {pins : List (Addr × Obj)} {σ : St} {H : Hp} {s : Shared} {a : Addr} {kvs : List (Key × V)} {k : Key} {u : Value} {A : Around} {E : Value → Shared → Prop}
end


def NoSl (i : Expr) : Prop := ∀ ov iv, subscripted i false ov iv = operate [ov, iv] (getItem ov iv)
theorem subD_of {prog : Program} {w : World} {A : Around} {E : Value → Shared → Prop} {s : Shared} {env : Env} {value slice : Expr} {pos : Pos} {T id : String} {Q : Value → Shared → Prop}
    (hl : typeLookup (.type T) "__getitem__" = pure (some (.builtin id))) (hs : NoSl slice)
    (h : wpAny (model prog w) A (eval value env) (fun o s₁ => wpAny (model prog w) A (eval slice env) (fun i s₂ => s₂.TypeIs o T ∧ wpAny (model prog w) A (getItem o i) Q E s₂) E s₁) E s) :
    wpAny (model prog w) A (eval (.Subscript value slice pos) env) Q E s := by
  refine Subscript_ (wpAny_mono h (fun o s₁ h₁ => wpAny_mono h₁ (fun i s₂ h₂ => ?_) fun _ _ x => x) fun _ _ x => x)
  obtain ⟨hT, h₂⟩ := h₂
  unfold subscriptTail
  refine wpAny_bind ?_
  rw [getitemInPython_of_ne hT.not_modules]
  refine wpAny_bind (wpAny_specialOf hT hl ?_)
  have fin : wpAny (model prog w) A (subscripted slice false o i) (fun r s₃ => wpAny (model prog w) A (letTemporaryGo value o r >>= fun _ => pure r) Q E s₃) E s₂ := by
    rw [hs o i]
    exact wpAny_operating (wpAny_mono h₂ (fun r s₃ h₃ => wpAny_bind (wpAny_letTemporaryGo (wpAny_pure h₃))) fun _ _ x => x)
  first
    | exact wpAny_pure (wpAny_bind fin)
    | exact wpAny_bind (wpAny_pure (wpAny_bind fin))
    | exact wpAny_bind fin

theorem dict_typeIs {X : Cx} {pins : List (Addr × Obj)} {σ : St} {H : Hp} {s : Shared} {a : Addr} {y : V} {o : Option V} (I : Inv X pins σ H s) (g : DGet H a y o) : s.TypeIs (.ref a) "dict" := by
  rcases g with ⟨kvs, k, e, _, _⟩ | ⟨kvs, k, b, e, _, _, _⟩
  · obtain ⟨_, _, vs, _, dd⟩ := dk_rd I.hok e
    exact dd.typeIs
  · obtain ⟨_, _, xs, _, dd⟩ := dt_rd I.hok e
    exact dd.typeIs
def tDGet (td ty : TE) : TE := fun σ H Q => td σ H fun x H1 => ty σ H1 fun y H2 => ∃ a v, x = .ref a ∧ DGet H2 a y (some v) ∧ Q v H2
def tDIn (ty td : TE) : TE := fun σ H Q => ty σ H fun y H1 => td σ H1 fun x H2 => ∃ a o, x = .ref a ∧ DGet H2 a y o ∧ Q (.bl o.isSome) H2
def tDNotIn (ty td : TE) : TE := fun σ H Q => ty σ H fun y H1 => td σ H1 fun x H2 => ∃ a o, x = .ref a ∧ DGet H2 a y o ∧ Q (.bl (!o.isSome)) H2
def sDPut (td ty tv : TE) : TS := fun D σ H => tv σ H fun v H1 => td σ H1 fun x H2 => ty σ H2 fun y H3 => ∃ a H4, x = .ref a ∧ DPut H3 a y v H4 ∧ D.nx σ H4
def sDAug (td ty tv : TE) (rd : V → V → Hp → VK → Prop) : TS := fun D σ H => td σ H fun x H1 => ty σ H1 fun y H2 => ∃ a v, x = .ref a ∧ DGet H2 a y (some v) ∧
  tv σ H2 fun y2 H3 => rd v y2 H3 fun z H4 => ∃ H5, DPut H4 a y z H5 ∧ D.nx σ H5
def sDDel (td ty : TE) : TS := fun D σ H => td σ H fun x H1 => ty σ H1 fun y H2 => ∃ a kvs k, x = .ref a ∧ H2 a = some (.dK kvs) ∧ y = kV k ∧ (valV kvs k).isSome = true ∧ D.nx σ (upd H2 a (.dK (dropK kvs k)))

section
variable {X : Cx} {o i e value : Expr} {pos pos' tpos : Pos} {td ty tv : TE}
theorem pe_dget (hu : X.A.units + 1 < cLine) (ho : PE X o td) (hi : PE X i ty) (hs : NoSl i) : PE X (.Subscript o i pos) (tDGet td ty) := by
  intro pins s σ H Q I h
  refine subD_of PySem.F.slot_dict_getitem.lookup hs (thn (ho pins s σ H _ I h) fun u s1 ⟨x, H1, I1, rx, q1⟩ => thn (hi pins s1 σ H1 _ I1 q1) fun iv s2 ⟨y, H2, I2, ry, a, v, ex, g, q2⟩ => ?_)
  subst ex
  obtain rfl : u = Value.ref a := rx
  exact ⟨dict_typeIs I2 g, d_getItem hu I2 g ry fun w' s3 I3 rw' => ⟨v, H2, I3, rw', q2⟩⟩
theorem ps_dput (hu : X.A.units + 1 < cLine) (ho : PE X o td) (hi : PE X i ty) (hv : PE X value tv) (hs : swapsWith value (some (.Subscript o i pos')) pos.line X.env = pure false) :
    PS X (.Assign [.Subscript o i pos'] value pos) (sDPut td ty tv) := by
  intro pins s σ H D I h
  refine wpAny_Assign_Subscript (thn (hv pins s σ H _ I h) fun r s1 ⟨v, H1, I1, rv, q1⟩ => thn (ho pins s1 σ H1 _ I1 q1) fun u s2 ⟨x, H2, I2, rx, q2⟩ => thn (hi pins s2 σ H2 _ I2 q2) fun iv s3 ⟨y, H3, I3, ry, a, H4, ex, g, q3⟩ => ?_) hs
  subst ex
  obtain rfl : u = Value.ref a := rx
  exact d_setItem hu I3 g ry rv fun s4 I4 => ⟨σ, H4, I4, q3⟩
end


theorem dk_empty {P : Program} {w : World} {H : Hp} (h : Heap) (hb : sysModules < h.objs.size) : ObjOk P w H (h.push { cls := .type "dict", data := .dict #[] }) h.objs.size (.dK []) :=
  ⟨Nat.zero_le _, beq_eq_false_iff_ne.mpr (Ne.symm (Nat.ne_of_lt hb)), [], .nil, Heap.DictOf.new h⟩
def tDNewK : TE := fun _ H Q => ∀ p, H p = none → Q (.ref p) (upd H p (.dK []))
def tDNewT : TE := fun _ H Q => ∀ p, H p = none → Q (.ref p) (upd H p (.dT []))
section
variable {X : Cx} {pos : Pos}
theorem pe_dnewK : PE X (.Dict [] [] pos) tDNewK := fun pins s σ H Q I h =>
  wpAny_Dict_empty ⟨.ref s.heap.objs.size, _, I.laid (a := s.heap.objs.size) (o := .dK []) (t' := s.toks) (fun _ _ q => Heap.get?_push_of_some _ q) (Nat.le_refl _) (dk_empty s.heap I.big), rfl, h _ (I.hok.fresh (Nat.le_refl _))⟩
end

end L2

namespace L2
open PySem PySem.Spec PyProof.Rows
theorem pick_back (its : List Value) : ∀ k, k ≤ its.length → ((List.range k).map fun j : Nat => (((its.length : Int) - 1) + -1 * (j : Int)).toNat).filterMap (its.toArray[·]?) = its.reverse.take k
  | 0, _ => by simp
  | k + 1, h => by
    have e : (((its.length : Int) - 1) + -1 * (k : Int)).toNat = its.length - 1 - k := by omega
    have hk : its.length - 1 - k < its.length := by omega
    rw [List.range_succ, List.map_append, List.filterMap_append, pick_back its k (by omega), List.take_add_one, List.getElem?_reverse (by omega)]
    congr 1
    simp only [List.map_cons, List.map_nil, e]
    rw [List.getElem?_eq_getElem hk]
    simp [hk]
theorem slicePick_rev (its : List Value) : slicePick its.toArray none none (some (-1)) = its.reverse.toArray := by
  have hb : sliceBounds none none (some (-1)) its.toArray.size = ((its.length : Int) - 1, -1, -1) := by
    simp only [sliceBounds, Option.getD_some, List.size_toArray, show ¬ ((-1 : Int) > 0) by decide, if_false]
  have hs : sliceRange ((its.length : Int) - 1) (-1) (-1) = (List.range its.length).map fun j : Nat => (((its.length : Int) - 1) + -1 * (j : Int)).toNat := by
    unfold sliceRange
    simp only [show ¬ ((-1 : Int) > 0) by decide, if_false]
    have e : (if (its.length : Int) - 1 > -1 then ((its.length : Int) - 1 - -1 - -1 - 1) / - -1 else 0) = (its.length : Int) := by
      split
      · have : ((its.length : Int) - 1 - -1 - -1 - 1) = (its.length : Int) := by omega
        rw [this, show (- -1 : Int) = 1 by decide, Int.ediv_one]
      · omega
    rw [e, Int.toNat_natCast]
  unfold slicePick
  rw [hb]
  show ((sliceRange ((its.length : Int) - 1) (-1) (-1)).filterMap (its.toArray[·]?)).toArray = _
  rw [hs, pick_back its _ (Nat.le_refl _), List.take_of_length_le (by simp)]
theorem slicePick_rev1 (its : List Value) : slicePick its.toArray none (some 0) (some (-1)) = (its.drop 1).reverse.toArray := by
  have hb : sliceBounds none (some 0) (some (-1)) its.toArray.size = ((its.length : Int) - 1, max (-1) (min 0 ((its.length : Int) - 1)), -1) := by
    simp only [sliceBounds, Option.getD_some, List.size_toArray, show ¬ ((-1 : Int) > 0) by decide, if_false, show ¬ ((0 : Int) < 0) by decide]
  have hs : sliceRange ((its.length : Int) - 1) (max (-1) (min 0 ((its.length : Int) - 1))) (-1) = (List.range (its.length - 1)).map fun j : Nat => (((its.length : Int) - 1) + -1 * (j : Int)).toNat := by
    unfold sliceRange
    simp only [show ¬ ((-1 : Int) > 0) by decide, if_false]
    have e : (if (its.length : Int) - 1 > max (-1) (min 0 ((its.length : Int) - 1)) then ((its.length : Int) - 1 - max (-1) (min 0 ((its.length : Int) - 1)) - -1 - 1) / - -1 else 0) = ((its.length - 1 : Nat) : Int) := by
      rw [show (- -1 : Int) = 1 by decide]
      split
      · rw [Int.ediv_one]; omega
      · omega
    rw [e, Int.toNat_natCast]
  unfold slicePick
  rw [hb]
  show ((sliceRange ((its.length : Int) - 1) (max (-1) (min 0 ((its.length : Int) - 1))) (-1)).filterMap (its.toArray[·]?)).toArray = _
  rw [hs, pick_back its _ (by omega), List.reverse_drop]
section
variable {X : Cx} {e ste : Expr} {te : TE} {lo hi : Option Expr} {tl th tk : TO} {pos p2 : Pos}
def rSlB (K : PySem.W.Frag) : V → Option Int → Option Int → Option Int → Hp → VK → Prop := fun x lo hi st H Q => ∃ a xs k, x = .ref a ∧ SqL K H a xs ∧ lo = none ∧ st = some (-1) ∧ ((hi = none ∧ k = 0) ∨ (hi = some 0 ∧ k = 1)) ∧ ∀ p, H p = none → Q (.ref p) (upd H p (.lst (xs.drop k).reverse))
def tSlB (K : PySem.W.Frag) (te : TE) (tl th tk : TO) : TE := fun σ H Q => te σ H fun x H1 => tl σ H1 fun l H2 => th σ H2 fun u H3 => tk σ H3 fun k H4 => rSlB K x l u k H4 Q
theorem pe_sliceR (he : PE X e te) (hl : PO X lo tl) (hu : PO X hi th) (hk : PO X (some ste) tk) : PE X (.Subscript e (.Slice lo hi (some ste) p2) pos) (tSlB X.K te tl th tk) := by
  intro pins s σ H Q I h
  refine Subscript_ (thn (he pins s σ H _ I h) fun v s1 ⟨x, H1, I1, r1, q1⟩ => ?_)
  refine wpAny_Slice (thn (hl pins s1 σ H1 _ I1 q1) fun vl s2 ⟨l, H2, I2, pl, q2⟩ => thn (hu pins s2 σ H2 _ I2 q2) fun vu s3 ⟨u, H3, I3, pu, q3⟩ => thn (hk pins s3 σ H3 _ I3 q3) fun vk s4 ⟨k, H4, I4, pk, q4⟩ => ?_)
  have I5 : Inv X pins σ H4 { s4 with heap := s4.heap.push { cls := .type "slice", data := .fields #[vl, vu, vk] } } := I4.kept (t' := s4.toks) fun b ob q => Heap.get?_push_of_some _ q
  obtain ⟨a, xs, n, rfl, hx, rfl, rfl, hh, q⟩ := q4
  cases r1
  obtain ⟨its, r, ht, hz⟩ := I5.list hx
  have hlen := r.length
  show wpAny (model X.prog X.w) X.A (subscriptTail e (.Slice lo hi (some ste) p2) (.ref a) (.ref s4.heap.objs.size)) (EP X pins σ Q) X.xe { s4 with heap := s4.heap.push { cls := .type "slice", data := .fields #[vl, vu, vk] } }
  refine tail_any (ops := [.ref a, .ref s4.heap.objs.size]) ht.isList.typeIs slot_list_getitem.lookup (wpAny_getItem_list_slice ht.isList (Heap.IsSliceOf.new ..) pl pu pk (by simp) ?_ (by rw [List.size_toArray] <;> omega)) (by with_unfolding_all rfl)
  have eq : slicePick its.toArray none u (some (-1)) = ((its.drop n).reverse).toArray := by
    rcases hh with ⟨rfl, rfl⟩ | ⟨rfl, rfl⟩
    · rw [slicePick_rev, List.drop_zero]
    · exact slicePick_rev1 its
  rw [eq]
  refine ⟨.ref _, _, I5.laid (o := .lst (xs.drop n).reverse) (fun b ob q => Heap.get?_push_of_some _ q) (Nat.le_refl _) ?_, rfl, q _ (I5.hok.fresh (Nat.le_refl _))⟩
  exact ⟨by rw [List.length_reverse, List.length_drop]; omega, _, 0, (r.drop n).reverse, Heap.get?_push_size _ rfl⟩
end
theorem rng_map {α : Type} (d : List Nat) (F : Nat → α) : (List.range d.length).map (fun i => F (d.getD i 0)) = d.map F := by
  apply List.ext_getElem?
  intro i
  by_cases h : i < d.length
  · rw [List.getElem?_map, List.getElem?_map, List.getElem?_range h, List.getElem?_eq_getElem h]
    simp [List.getD, h]
  · rw [List.getElem?_eq_none (by simp; omega), List.getElem?_eq_none (by simp; omega)]
end L2

namespace L2
open PySem PyProof.Rows
theorem putK_len {κ : Type} [DecidableEq κ] (kvs : List (κ × V)) (k : κ) (v : V) : (putK kvs k v).length ≤ kvs.length + 1 := by
  unfold putK; split <;> simp
theorem vns_at {l : List Nat} {i : Nat} {x : V} (h : (vns l)[i]? = some x) : i < l.length ∧ x = vn (l.getD i 0) := by
  rw [List.getElem?_map] at h
  obtain ⟨y, h1, h2⟩ := Option.map_eq_some_iff.mp h
  obtain ⟨hi, rfl⟩ := List.getElem?_eq_some_iff.mp h1
  exact ⟨hi, by rw [← h2]; simp [List.getD, hi]⟩
theorem refs_at {rs : List Addr} {i : Nat} {x : V} (h : (rs.map V.ref)[i]? = some x) : ∃ r, rs[i]? = some r ∧ x = .ref r := by
  rw [List.getElem?_map] at h
  obtain ⟨r, h1, h2⟩ := Option.map_eq_some_iff.mp h
  exact ⟨r, h1, h2.symm⟩
end L2

namespace K05
open PySem L2
def top (i : Nat) : Stmt := PySem.Challenge.pw_fewbends_k05_shapes_looked_at.main.body.getD i (.Pass ⟨0, 0, 0, 0⟩)
abbrev s_other_end : Stmt := top 2
theorem sc_other_end : FnScope ["end"] ["end"] (defScope s_other_end) := ⟨rfl, rfl, rfl, by decide +kernel, rfl, by decide +kernel, by decide +kernel⟩
abbrev s_place_of : Stmt := top 3
theorem sc_place_of : FnScope ["web", "end"] ["web", "end"] (defScope s_place_of) := ⟨rfl, rfl, rfl, by decide +kernel, rfl, by decide +kernel, by decide +kernel⟩
abbrev s_goes_to : Stmt := top 4
theorem sc_goes_to : FnScope ["web", "end"] ["web", "end"] (defScope s_goes_to) := ⟨rfl, rfl, rfl, by decide +kernel, rfl, by decide +kernel, by decide +kernel⟩
abbrev s_behind : Stmt := top 5
theorem sc_behind : FnScope ["web", "end", "order"] ["web", "end"] (defScope s_behind) := ⟨rfl, rfl, rfl, by decide +kernel, rfl, by decide +kernel, by decide +kernel⟩
abbrev s_lands : Stmt := top 6
theorem sc_lands : FnScope ["web", "told", "seen", "first", "land", "end"] ["web"] (defScope s_lands) := ⟨rfl, rfl, rfl, by decide +kernel, rfl, by decide +kernel, by decide +kernel⟩
abbrev s_land_from : Stmt := top 7
theorem sc_land_from : FnScope ["web", "first", "land", "end"] ["web", "first"] (defScope s_land_from) := ⟨rfl, rfl, rfl, by decide +kernel, rfl, by decide +kernel, by decide +kernel⟩
abbrev s_is_shape : Stmt := top 9
theorem sc_is_shape : FnScope ["web", "outer", "shape", "corners", "lefts", "many_ends"] ["web", "outer", "shape"] (defScope s_is_shape) := ⟨rfl, rfl, rfl, by decide +kernel, rfl, by decide +kernel, by decide +kernel⟩
abbrev s_places_close : Stmt := top 10
theorem sc_places_close : FnScope ["web", "corners", "sums", "end", "corner"] ["web", "corners"] (defScope s_places_close) := ⟨rfl, rfl, rfl, by decide +kernel, rfl, by decide +kernel, by decide +kernel⟩
abbrev s_lands_close : Stmt := top 11
theorem sc_lands_close : FnScope ["web", "outer", "corners", "lefts", "number", "land"] ["web", "outer", "corners", "lefts"] (defScope s_lands_close) := ⟨rfl, rfl, rfl, by decide +kernel, rfl, by decide +kernel, by decide +kernel⟩
abbrev s_wanted_sum : Stmt := top 12
theorem sc_wanted_sum : FnScope ["number", "outer"] ["number", "outer"] (defScope s_wanted_sum) := ⟨rfl, rfl, rfl, by decide +kernel, rfl, by decide +kernel, by decide +kernel⟩
abbrev s_land_sum : Stmt := top 13
theorem sc_land_sum : FnScope ["land", "corners", "lefts"] ["land", "corners", "lefts"] (defScope s_land_sum) := ⟨rfl, rfl, rfl, by decide +kernel, rfl, by decide +kernel, by decide +kernel⟩
abbrev s_l_cell_at : Stmt := top 15
theorem sc_l_cell_at : FnScope ["_law_script", "_law_k"] ["_law_script", "_law_k"] (defScope s_l_cell_at) := ⟨rfl, rfl, rfl, by decide +kernel, rfl, by decide +kernel, by decide +kernel⟩
abbrev s_l_mix : Stmt := top 16
theorem sc_l_mix : FnScope ["_law_cell", "_law_k", "_law_turn", "_law_number"] ["_law_cell", "_law_k"] (defScope s_l_mix) := ⟨rfl, rfl, rfl, by decide +kernel, rfl, by decide +kernel, by decide +kernel⟩
abbrev s_l_digit : Stmt := top 17
theorem sc_l_digit : FnScope ["_law_number", "_law_by", "_law_k", "_law_turn"] ["_law_number", "_law_by", "_law_k"] (defScope s_l_digit) := ⟨rfl, rfl, rfl, by decide +kernel, rfl, by decide +kernel, by decide +kernel⟩
abbrev s_l_turned : Stmt := top 18
theorem sc_l_turned : FnScope ["_law_number", "_law_many", "_law_told", "_law_k"] ["_law_number", "_law_many"] (defScope s_l_turned) := ⟨rfl, rfl, rfl, by decide +kernel, rfl, by decide +kernel, by decide +kernel⟩
abbrev s_l_other : Stmt := top 19
theorem sc_l_other : FnScope ["_law_end"] ["_law_end"] (defScope s_l_other) := ⟨rfl, rfl, rfl, by decide +kernel, rfl, by decide +kernel, by decide +kernel⟩
abbrev s_l_place : Stmt := top 20
theorem sc_l_place : FnScope ["_law_ties", "_law_end"] ["_law_ties", "_law_end"] (defScope s_l_place) := ⟨rfl, rfl, rfl, by decide +kernel, rfl, by decide +kernel, by decide +kernel⟩
abbrev s_l_behind : Stmt := top 21
theorem sc_l_behind : FnScope ["_law_ties", "_law_orders", "_law_end", "_law_order"] ["_law_ties", "_law_orders", "_law_end"] (defScope s_l_behind) := ⟨rfl, rfl, rfl, by decide +kernel, rfl, by decide +kernel, by decide +kernel⟩
abbrev s_l_lands : Stmt := top 22
theorem sc_l_lands : FnScope ["_law_ties", "_law_orders", "_law_told", "_law_left", "_law_land", "_law_here"] ["_law_ties", "_law_orders"] (defScope s_l_lands) := ⟨rfl, rfl, rfl, by decide +kernel, rfl, by decide +kernel, by decide +kernel⟩
abbrev s_l_step : Stmt := top 23
theorem sc_l_step : FnScope ["_law_ties", "_law_orders", "_law_pick", "_law_most", "_law_some", "_law_land", "_law_one", "_law_other_here", "_law_a", "_law_b", "_law_end"] ["_law_ties", "_law_orders", "_law_pick", "_law_most"] (defScope s_l_step) := ⟨rfl, rfl, rfl, by decide +kernel, rfl, by decide +kernel, by decide +kernel⟩
abbrev s_l_renamed : Stmt := top 24
theorem sc_l_renamed : FnScope ["_law_ties", "_law_orders", "_law_cell", "_law_places", "_law_numbers", "_law_names", "_law_told", "_law_k", "_law_a", "_law_b", "_law_flip", "_law_rows", "_law_place_here", "_law_order", "_law_at"] ["_law_ties", "_law_orders", "_law_cell"] (defScope s_l_renamed) := ⟨rfl, rfl, rfl, by decide +kernel, rfl, by decide +kernel, by decide +kernel⟩
abbrev s_l_map : Stmt := top 25
theorem sc_l_map : FnScope ["_law_script", "_law_steps", "_law_most", "_law_cell", "_law_ties", "_law_orders", "_law_k"] ["_law_script", "_law_steps", "_law_most"] (defScope s_l_map) := ⟨rfl, rfl, rfl, by decide +kernel, rfl, by decide +kernel, by decide +kernel⟩
abbrev s_l_base : Stmt := top 26
theorem sc_l_base : FnScope ["_law_web", "_law_outer", "_law_many", "_law_ties", "_law_orders", "_law_some", "_law_corners", "_law_lefts", "_law_order", "_law_by", "_law_number", "_law_land", "_law_end", "_law_come", "_law_ways", "_law_here", "_law_there", "_law_more"] ["_law_web", "_law_outer"] (defScope s_l_base) := ⟨rfl, rfl, rfl, by decide +kernel, rfl, by decide +kernel, by decide +kernel⟩
abbrev s_l_sum : Stmt := top 27
theorem sc_l_sum : FnScope ["_law_land", "_law_corners", "_law_lefts"] ["_law_land", "_law_corners", "_law_lefts"] (defScope s_l_sum) := ⟨rfl, rfl, rfl, by decide +kernel, rfl, by decide +kernel, by decide +kernel⟩
abbrev s_l_walked : Stmt := top 28
theorem sc_l_walked : FnScope ["_law_web", "_law_shape", "_law_cell", "_law_many", "_law_corners", "_law_lefts", "_law_k", "_law_pick", "_law_end", "_law_other_here", "_law_ahead", "_law_back"] ["_law_web", "_law_shape", "_law_cell", "_law_many"] (defScope s_l_walked) := ⟨rfl, rfl, rfl, by decide +kernel, rfl, by decide +kernel, by decide +kernel⟩
abbrev s_l_is_shape : Stmt := top 29
theorem sc_l_is_shape : FnScope ["_law_web", "_law_outer", "_law_shape", "_law_corners", "_law_lefts", "_law_many", "_law_ties", "_law_orders", "_law_place_here", "_law_number", "_law_land"] ["_law_web", "_law_outer", "_law_shape"] (defScope s_l_is_shape) := ⟨rfl, rfl, rfl, by decide +kernel, rfl, by decide +kernel, by decide +kernel⟩
abbrev s_l_bent : Stmt := top 30
theorem sc_l_bent : FnScope ["_law_shape", "_law_pick", "_law_rows", "_law_row", "_law_at", "_law_other_here", "_law_way"] ["_law_shape", "_law_pick"] (defScope s_l_bent) := ⟨rfl, rfl, rfl, by decide +kernel, rfl, by decide +kernel, by decide +kernel⟩
abbrev s_l_right : Stmt := top 31
theorem sc_l_right : FnScope ["_law_web", "_law_outer", "_law_shape", "_law_handed", "_law_found"] ["_law_web", "_law_outer", "_law_shape"] (defScope s_l_right) := ⟨rfl, rfl, rfl, by decide +kernel, rfl, by decide +kernel, by decide +kernel⟩
abbrev s_law : Stmt := top 32
theorem sc_law : FnScope ["_law_script", "_law_web", "_law_cell", "_law_some", "_law_outer", "_law_shape", "_law_number", "_law_k", "_law_bent_here", "_law_none"] ["_law_script"] (defScope s_law) := ⟨rfl, rfl, rfl, by decide +kernel, rfl, by decide +kernel, by decide +kernel⟩
structure Adr where
  q_tok : Tok
  a_other_end : Addr
  d_other_end : FuncData
  a_place_of : Addr
  d_place_of : FuncData
  a_goes_to : Addr
  d_goes_to : FuncData
  a_behind : Addr
  d_behind : FuncData
  a_lands : Addr
  d_lands : FuncData
  a_land_from : Addr
  d_land_from : FuncData
  a_is_shape : Addr
  d_is_shape : FuncData
  a_places_close : Addr
  d_places_close : FuncData
  a_lands_close : Addr
  d_lands_close : FuncData
  a_wanted_sum : Addr
  d_wanted_sum : FuncData
  a_land_sum : Addr
  d_land_sum : FuncData
  a_l_cell_at : Addr
  d_l_cell_at : FuncData
  a_l_mix : Addr
  d_l_mix : FuncData
  a_l_digit : Addr
  d_l_digit : FuncData
  a_l_turned : Addr
  d_l_turned : FuncData
  a_l_other : Addr
  d_l_other : FuncData
  a_l_place : Addr
  d_l_place : FuncData
  a_l_behind : Addr
  d_l_behind : FuncData
  a_l_lands : Addr
  d_l_lands : FuncData
  a_l_step : Addr
  d_l_step : FuncData
  a_l_renamed : Addr
  d_l_renamed : FuncData
  a_l_map : Addr
  d_l_map : FuncData
  a_l_base : Addr
  d_l_base : FuncData
  a_l_sum : Addr
  d_l_sum : FuncData
  a_l_walked : Addr
  d_l_walked : FuncData
  a_l_is_shape : Addr
  d_l_is_shape : FuncData
  a_l_bent : Addr
  d_l_bent : FuncData
  a_l_right : Addr
  d_l_right : FuncData
  a_law : Addr
  d_law : FuncData
structure Txt (K : PySem.W.Frag) (mg : Str → Option Value) (t : Adr) : Prop where
  F_other_end : Fun K "other_end" "other_end" s_other_end t.a_other_end t.d_other_end
  m_other_end : mg "other_end" = some (.ref t.a_other_end)
  k_other_end : PySem.W.keepIn K (.ref t.a_other_end) = true
  b_other_end : Binds K t.d_other_end ["end"] []
  F_place_of : Fun K "place_of" "place_of" s_place_of t.a_place_of t.d_place_of
  m_place_of : mg "place_of" = some (.ref t.a_place_of)
  k_place_of : PySem.W.keepIn K (.ref t.a_place_of) = true
  b_place_of : Binds K t.d_place_of ["web", "end"] []
  F_goes_to : Fun K "goes_to" "goes_to" s_goes_to t.a_goes_to t.d_goes_to
  m_goes_to : mg "goes_to" = some (.ref t.a_goes_to)
  k_goes_to : PySem.W.keepIn K (.ref t.a_goes_to) = true
  b_goes_to : Binds K t.d_goes_to ["web", "end"] []
  F_behind : Fun K "behind" "behind" s_behind t.a_behind t.d_behind
  m_behind : mg "behind" = some (.ref t.a_behind)
  k_behind : PySem.W.keepIn K (.ref t.a_behind) = true
  b_behind : Binds K t.d_behind ["web", "end"] []
  F_lands : Fun K "lands" "lands" s_lands t.a_lands t.d_lands
  m_lands : mg "lands" = some (.ref t.a_lands)
  k_lands : PySem.W.keepIn K (.ref t.a_lands) = true
  b_lands : Binds K t.d_lands ["web"] []
  F_land_from : Fun K "land_from" "land_from" s_land_from t.a_land_from t.d_land_from
  m_land_from : mg "land_from" = some (.ref t.a_land_from)
  k_land_from : PySem.W.keepIn K (.ref t.a_land_from) = true
  b_land_from : Binds K t.d_land_from ["web", "first"] []
  F_is_shape : Fun K "is_shape" "is_shape" s_is_shape t.a_is_shape t.d_is_shape
  m_is_shape : mg "is_shape" = some (.ref t.a_is_shape)
  k_is_shape : PySem.W.keepIn K (.ref t.a_is_shape) = true
  b_is_shape : Binds K t.d_is_shape ["web", "outer", "shape"] []
  F_places_close : Fun K "places_close" "places_close" s_places_close t.a_places_close t.d_places_close
  m_places_close : mg "places_close" = some (.ref t.a_places_close)
  k_places_close : PySem.W.keepIn K (.ref t.a_places_close) = true
  b_places_close : Binds K t.d_places_close ["web", "corners"] []
  F_lands_close : Fun K "lands_close" "lands_close" s_lands_close t.a_lands_close t.d_lands_close
  m_lands_close : mg "lands_close" = some (.ref t.a_lands_close)
  k_lands_close : PySem.W.keepIn K (.ref t.a_lands_close) = true
  b_lands_close : Binds K t.d_lands_close ["web", "outer", "corners", "lefts"] []
  F_wanted_sum : Fun K "wanted_sum" "wanted_sum" s_wanted_sum t.a_wanted_sum t.d_wanted_sum
  m_wanted_sum : mg "wanted_sum" = some (.ref t.a_wanted_sum)
  k_wanted_sum : PySem.W.keepIn K (.ref t.a_wanted_sum) = true
  b_wanted_sum : Binds K t.d_wanted_sum ["number", "outer"] []
  F_land_sum : Fun K "land_sum" "land_sum" s_land_sum t.a_land_sum t.d_land_sum
  m_land_sum : mg "land_sum" = some (.ref t.a_land_sum)
  k_land_sum : PySem.W.keepIn K (.ref t.a_land_sum) = true
  b_land_sum : Binds K t.d_land_sum ["land", "corners", "lefts"] []
  F_l_cell_at : Fun K "_law_cell_at" "_law_cell_at" s_l_cell_at t.a_l_cell_at t.d_l_cell_at
  m_l_cell_at : mg "_law_cell_at" = some (.ref t.a_l_cell_at)
  k_l_cell_at : PySem.W.keepIn K (.ref t.a_l_cell_at) = true
  b_l_cell_at : Binds K t.d_l_cell_at ["_law_script", "_law_k"] []
  F_l_mix : Fun K "_law_mix" "_law_mix" s_l_mix t.a_l_mix t.d_l_mix
  m_l_mix : mg "_law_mix" = some (.ref t.a_l_mix)
  k_l_mix : PySem.W.keepIn K (.ref t.a_l_mix) = true
  b_l_mix : Binds K t.d_l_mix ["_law_cell", "_law_k"] []
  F_l_digit : Fun K "_law_digit" "_law_digit" s_l_digit t.a_l_digit t.d_l_digit
  m_l_digit : mg "_law_digit" = some (.ref t.a_l_digit)
  k_l_digit : PySem.W.keepIn K (.ref t.a_l_digit) = true
  b_l_digit : Binds K t.d_l_digit ["_law_number", "_law_by", "_law_k"] []
  F_l_turned : Fun K "_law_turned" "_law_turned" s_l_turned t.a_l_turned t.d_l_turned
  m_l_turned : mg "_law_turned" = some (.ref t.a_l_turned)
  k_l_turned : PySem.W.keepIn K (.ref t.a_l_turned) = true
  b_l_turned : Binds K t.d_l_turned ["_law_number", "_law_many"] []
  F_l_other : Fun K "_law_other" "_law_other" s_l_other t.a_l_other t.d_l_other
  m_l_other : mg "_law_other" = some (.ref t.a_l_other)
  k_l_other : PySem.W.keepIn K (.ref t.a_l_other) = true
  b_l_other : Binds K t.d_l_other ["_law_end"] []
  F_l_place : Fun K "_law_place" "_law_place" s_l_place t.a_l_place t.d_l_place
  m_l_place : mg "_law_place" = some (.ref t.a_l_place)
  k_l_place : PySem.W.keepIn K (.ref t.a_l_place) = true
  b_l_place : Binds K t.d_l_place ["_law_ties", "_law_end"] []
  F_l_behind : Fun K "_law_behind" "_law_behind" s_l_behind t.a_l_behind t.d_l_behind
  m_l_behind : mg "_law_behind" = some (.ref t.a_l_behind)
  k_l_behind : PySem.W.keepIn K (.ref t.a_l_behind) = true
  b_l_behind : Binds K t.d_l_behind ["_law_ties", "_law_orders", "_law_end"] []
  F_l_lands : Fun K "_law_lands" "_law_lands" s_l_lands t.a_l_lands t.d_l_lands
  m_l_lands : mg "_law_lands" = some (.ref t.a_l_lands)
  k_l_lands : PySem.W.keepIn K (.ref t.a_l_lands) = true
  b_l_lands : Binds K t.d_l_lands ["_law_ties", "_law_orders"] []
  F_l_step : Fun K "_law_step" "_law_step" s_l_step t.a_l_step t.d_l_step
  m_l_step : mg "_law_step" = some (.ref t.a_l_step)
  k_l_step : PySem.W.keepIn K (.ref t.a_l_step) = true
  b_l_step : Binds K t.d_l_step ["_law_ties", "_law_orders", "_law_pick", "_law_most"] []
  F_l_renamed : Fun K "_law_renamed" "_law_renamed" s_l_renamed t.a_l_renamed t.d_l_renamed
  m_l_renamed : mg "_law_renamed" = some (.ref t.a_l_renamed)
  k_l_renamed : PySem.W.keepIn K (.ref t.a_l_renamed) = true
  b_l_renamed : Binds K t.d_l_renamed ["_law_ties", "_law_orders", "_law_cell"] []
  F_l_map : Fun K "_law_map" "_law_map" s_l_map t.a_l_map t.d_l_map
  m_l_map : mg "_law_map" = some (.ref t.a_l_map)
  k_l_map : PySem.W.keepIn K (.ref t.a_l_map) = true
  b_l_map : Binds K t.d_l_map ["_law_script", "_law_steps", "_law_most"] []
  F_l_base : Fun K "_law_base" "_law_base" s_l_base t.a_l_base t.d_l_base
  m_l_base : mg "_law_base" = some (.ref t.a_l_base)
  k_l_base : PySem.W.keepIn K (.ref t.a_l_base) = true
  b_l_base : Binds K t.d_l_base ["_law_web", "_law_outer"] []
  F_l_sum : Fun K "_law_sum" "_law_sum" s_l_sum t.a_l_sum t.d_l_sum
  m_l_sum : mg "_law_sum" = some (.ref t.a_l_sum)
  k_l_sum : PySem.W.keepIn K (.ref t.a_l_sum) = true
  b_l_sum : Binds K t.d_l_sum ["_law_land", "_law_corners", "_law_lefts"] []
  F_l_walked : Fun K "_law_walked" "_law_walked" s_l_walked t.a_l_walked t.d_l_walked
  m_l_walked : mg "_law_walked" = some (.ref t.a_l_walked)
  k_l_walked : PySem.W.keepIn K (.ref t.a_l_walked) = true
  b_l_walked : Binds K t.d_l_walked ["_law_web", "_law_shape", "_law_cell", "_law_many"] []
  F_l_is_shape : Fun K "_law_is_shape" "_law_is_shape" s_l_is_shape t.a_l_is_shape t.d_l_is_shape
  m_l_is_shape : mg "_law_is_shape" = some (.ref t.a_l_is_shape)
  k_l_is_shape : PySem.W.keepIn K (.ref t.a_l_is_shape) = true
  b_l_is_shape : Binds K t.d_l_is_shape ["_law_web", "_law_outer", "_law_shape"] []
  F_l_bent : Fun K "_law_bent" "_law_bent" s_l_bent t.a_l_bent t.d_l_bent
  m_l_bent : mg "_law_bent" = some (.ref t.a_l_bent)
  k_l_bent : PySem.W.keepIn K (.ref t.a_l_bent) = true
  b_l_bent : Binds K t.d_l_bent ["_law_shape", "_law_pick"] []
  F_l_right : Fun K "_law_right" "_law_right" s_l_right t.a_l_right t.d_l_right
  m_l_right : mg "_law_right" = some (.ref t.a_l_right)
  k_l_right : PySem.W.keepIn K (.ref t.a_l_right) = true
  b_l_right : Binds K t.d_l_right ["_law_web", "_law_outer", "_law_shape"] []
  F_law : Fun K "law" "law" s_law t.a_law t.d_law
  m_law : mg "law" = some (.ref t.a_law)
  k_law : PySem.W.keepIn K (.ref t.a_law) = true
  b_law : Binds K t.d_law ["_law_script"] []
  z_all : mg "all" = none
  z_bool : mg "bool" = none
  z_enumerate : mg "enumerate" = none
  z_int : mg "int" = none
  z_isinstance : mg "isinstance" = none
  z_len : mg "len" = none
  z_list : mg "list" = none
  z_max : mg "max" = none
  z_min : mg "min" = none
  z_range : mg "range" = none
  z_sum : mg "sum" = none
  g_QUARTERS_ROUND : mg "QUARTERS_ROUND" = some (.int 4 t.q_tok)
end K05

abbrev K05.lawK : Nat := 60

namespace K05
open PySem L2 PyProof.Rows
variable {P : Program} {w : World} {K : PySem.W.Frag} {mg : Str → Option Value} {base : Heap} {t : Adr}
def spCell (K : PySem.W.Frag) : Sp := fun vs H Q _ => ∃ (a : Addr) (ns : List Int) (k : Int), vs = [.ref a, .int k] ∧ SqL K H a (ns.map V.int) ∧ 0 ≤ k ∧ ∀ c : Int, Q (.int c) H
theorem at_int {ns : List Int} {k : Int} (h0 : 0 ≤ k) (h : k < (ns.length : Int)) : ∃ v : Int, atI (ns.map V.int) k = some (.int v) := by
  have hk : k.toNat < ns.length := by omega
  have ek : k = ((k.toNat : Nat) : Int) := by omega
  have q : atI (ns.map V.int) ((k.toNat : Nat) : Int) = some (.int ns[k.toNat]) := atI_nat (by rw [List.getElem?_map, List.getElem?_eq_getElem hk] <;> rfl)
  rw [← ek] at q
  exact ⟨_, q⟩
theorem ok_cell (T : Txt K mg t) : FnOk P w K mg base CX0 1 t.a_l_cell_at t.d_l_cell_at ["_law_script", "_law_k"] (spCell K) := by
  refine T.F_l_cell_at.ok sc_l_cell_at (fun vs H Q E h => ?_) (fun cdv A outer s H vs Q E hr h => ?_)
  · obtain ⟨a, ns, k, rfl, _⟩ := h; rfl
  obtain ⟨a, ns, k, rfl, hS, h0, q⟩ := h
  refine ⟨_, (pss_cons (ps_if (pt_cmpR op_lt (pv 1) (pe_callB call_len_seq rfl T.z_len PySem.boot_len (pa_cons (pv 0) pa_nil)) (nomark _)) (pss_one (ps_ret (pe_ix ix_list (pv 0) (pv 1) (fun _ _ => rfl)))) pss_nil)
    (pss_one (ps_ret pe_int))), ?_⟩
  refine ⟨_, rfl, _, rfl, a, _, rfl, .inl hS, _, _, rfl, rfl, _, rfl, ?_⟩
  refine ite2 (fun c => ?_) (fun c => ?_)
  · have c' : k < (((ns.map V.int).length : Nat) : Int) := of_decide_eq_true c
    rw [List.length_map] at c'
    obtain ⟨v, hv⟩ := at_int h0 c'
    exact ⟨_, rfl, _, rfl, a, _, _, _, rfl, rfl, hS, hv, q v⟩
  · exact q 0

def spMix : Sp := fun vs H Q _ => ∃ c k : Int, vs = [.int c, .int k] ∧ 0 ≤ k ∧ k ≤ 1000 ∧ ∀ m : Int, 0 ≤ m → m < 1000000000 → Q (.int m) H
theorem ok_mix (T : Txt K mg t) : FnOk P w K mg base CX0 1 t.a_l_mix t.d_l_mix ["_law_cell", "_law_k"] spMix := by
  refine T.F_l_mix.ok sc_l_mix (fun vs H Q E h => ?_) (fun cdv A outer s H vs Q E hr h => ?_)
  · obtain ⟨a, k, rfl, _⟩ := h; rfl
  obtain ⟨c, k, rfl, h0, h1, q⟩ := h
  have nd := sc_l_mix.nd
  refine ⟨_, (pss_cons (ps_if (pt_cmpR op_ge (pv 0) (pe_op op_pow pe_int pe_int) (nomark _)) (pss_cons (ps_for PassesOwn.never rfl (pi_range1 rfl T.z_range (pa_cons (pv 1) pa_nil)) (pg_name (i := 2) nd rfl (Or.inl rfl)) (pss_one (ps_set (i := 0) nd rfl (Or.inl rfl) (pe_op op_fdiv (pv 0) (pe_op op_pow pe_int pe_int)))))
    (pss_one (ps_ret (pe_op op_mod (pv 0) (pe_op op_pow pe_int pe_int))))) pss_nil)
    (pss_cons (ps_set (i := 3) nd rfl (Or.inl rfl) (pe_op op_mod (pe_op op_mul (pe_op op_add (pe_op op_add (pe_op op_mod (pv 0) pe_int) (pe_op op_mul (pe_op op_mul (pv 1) (pv 1)) pe_int)) (pv 1)) pe_int) pe_int))
    (pss_cons (ps_set (i := 3) nd rfl (Or.inl rfl) (pe_op op_mod (pe_op op_mul (pv 3) (pv 3)) pe_int))
    (pss_one (ps_ret (pe_op op_fdiv (pe_op op_mod (pe_op op_mul (pv 3) (pe_op op_add (pv 3) pe_int)) pe_int) pe_int)))))), ?_⟩
  have p18 : CPow 10 18 := ⟨by decide, by decide, by decide⟩
  have p6 : CPow 10 6 := ⟨by decide, by decide, by decide⟩
  refine ⟨_, rfl, _, _, rfl, rfl, p18, _, _, rfl, rfl, _, rfl, ?_⟩
  refine ite2 (fun _ => ?_) (fun _ => ?_)
  · refine ⟨_, rfl, k, rfl, by omega, by omega, for_range (lo := 0) (n := k.toNat) (fun _ σ H' => H' = H ∧ ∃ (c' : Int) (o : Option V), σ = [some (.int c'), some (.int k), o, none]) ⟨rfl, c, none, rfl⟩ ?_ ?_⟩
    · rintro i σ H' hi ⟨rfl, c', o, rfl⟩
      exact ⟨_, rfl, _, _, rfl, rfl, p6, _, _, rfl, rfl, ⟨by decide, by decide⟩, rfl, _, _, rfl⟩
    · rintro σ H' ⟨rfl, c', o, rfl⟩
      refine ⟨_, rfl, _, _, rfl, rfl, p6, _, _, rfl, rfl, (by show (0 : Int) < 10 ^ 6; decide), q _ (Int.emod_nonneg _ (by decide)) ?_⟩
      exact Int.lt_trans (Int.emod_lt_of_pos _ (by decide)) (by decide)
  · refine ⟨_, rfl, _, _, rfl, rfl, (by show (0 : Int) < 1000003; decide), _, rfl, _, rfl, _, _, rfl, rfl, .inl ⟨by omega, by omega⟩, _, _, rfl, rfl, .inr ⟨by decide, by decide⟩, _, _, rfl, rfl, _, rfl, _, _, rfl, rfl, _, _, rfl, rfl, .inr ⟨by decide, by decide⟩, _, _, rfl, rfl, (by show (0 : Int) < 2147483629; decide), ?_⟩
    have b1 : ∀ x : Int, 0 ≤ x % 2147483629 ∧ x % 2147483629 < 2147483629 := fun x => ⟨Int.emod_nonneg _ (by decide), Int.emod_lt_of_pos _ (by decide)⟩
    have b2 : ∀ x : Int, 0 ≤ x % 2147483587 ∧ x % 2147483587 < 2147483587 := fun x => ⟨Int.emod_nonneg _ (by decide), Int.emod_lt_of_pos _ (by decide)⟩
    have b3 : ∀ x : Int, 0 ≤ x % 2147483579 ∧ x % 2147483579 < 2147483579 := fun x => ⟨Int.emod_nonneg _ (by decide), Int.emod_lt_of_pos _ (by decide)⟩
    generalize hn1 : ((c % 1000003 + k * k * 7919 + k) * 48271 % 2147483629 : Int) = n1
    have r1 := b1 ((c % 1000003 + k * k * 7919 + k) * 48271)
    rw [hn1] at r1
    refine ⟨_, rfl, _, rfl, _, _, rfl, rfl, .inl ⟨by omega, by omega⟩, _, _, rfl, rfl, (by show (0 : Int) < 2147483587; decide), ?_⟩
    have r2 := b2 (n1 * n1)
    generalize n1 * n1 % 2147483587 = n2 at r2 ⊢
    refine ⟨_, rfl, _, rfl, _, _, rfl, rfl, _, _, rfl, rfl, .inl ⟨by omega, by omega⟩, _, _, rfl, rfl, (by show (0 : Int) < 2147483579; decide), _, _, rfl, rfl, ⟨by decide, by decide⟩, ?_⟩
    have r3 := b3 (n2 * (n2 + 2))
    generalize n2 * (n2 + 2) % 2147483579 = n3 at r3 ⊢
    exact q _ (by omega) (by omega)
end K05

namespace K05
open PySem L2 PyProof.Rows
variable {P : Program} {w : World} {K : PySem.W.Frag} {mg : Str → Option Value} {base : Heap} {t : Adr}
def spOth : Sp := fun vs H Q _ => ∃ e : Nat, vs = [vn e] ∧ Q (vn (MM.oth e)) H
theorem ok_lother (T : Txt K mg t) : FnOk P w K mg base CX0 1 t.a_l_other t.d_l_other ["_law_end"] spOth := by
  refine T.F_l_other.ok sc_l_other (fun vs H Q E h => ?_) (fun cdv A outer s H vs Q E hr h => ?_)
  · obtain ⟨e, rfl, _⟩ := h; rfl
  obtain ⟨e, rfl, q⟩ := h
  refine ⟨_, (pss_one (ps_ret (pe_op op_sub (pe_op op_add (pv 0) pe_int) (pe_op op_mul pe_int (pe_op op_mod (pv 0) pe_int))))), ?_⟩
  refine ⟨_, rfl, _, _, rfl, rfl, _, rfl, _, _, rfl, rfl, (by show (0 : Int) < 2; decide), _, _, rfl, rfl, .inl ⟨by decide, by decide⟩, _, _, rfl, rfl, ?_⟩
  have e1 : (e : Int) + 1 - 2 * ((e : Int) % 2) = ((MM.oth e : Nat) : Int) := by unfold MM.oth; split <;> omega
  show Q (.int ((e : Int) + 1 - 2 * ((e : Int) % 2))) H
  rw [e1]
  exact q
def spPlace : Sp := fun vs H Q _ => ∃ (a : Addr) (ts : MM.Ties) (e : Nat), vs = [.ref a, vn e] ∧ TsAt H a ts ∧ e < 2 * ts.length ∧ Q (vn (MM.place ts e)) H
theorem at_pair {x y : Nat} (e : Nat) : atI [vn x, vn y] ((e : Int) % 2) = some (vn (if e % 2 = 0 then x else y)) := by
  rcases Nat.mod_two_eq_zero_or_one e with h | h
  · rw [show (e : Int) % 2 = 0 by omega, if_pos h]; rfl
  · rw [show (e : Int) % 2 = 1 by omega, if_neg (by omega)]; rfl
theorem ok_lplace (T : Txt K mg t) : FnOk P w K mg base CX0 1 t.a_l_place t.d_l_place ["_law_ties", "_law_end"] spPlace := by
  refine T.F_l_place.ok sc_l_place (fun vs H Q E h => ?_) (fun cdv A outer s H vs Q E hr h => ?_)
  · obtain ⟨a, ts, e, rfl, _⟩ := h; rfl
  obtain ⟨a, ts, e, rfl, ht, he, q⟩ := h
  refine ⟨_, (pss_one (ps_ret (pe_ix ix_seq (pe_ix ix_list (pv 0) (pe_op op_fdiv (pv 1) pe_int) (fun _ _ => rfl)) (pe_op op_mod (pv 1) pe_int) (fun _ _ => rfl)))), ?_⟩
  obtain ⟨xs, r, h1, h2, h3, h4⟩ := ht.item (i := e / 2) (by omega)
  refine ⟨_, rfl, _, rfl, _, _, rfl, rfl, ⟨by decide, by decide⟩, a, xs, _, _, rfl, rfl, SqL.of h1, (by show atI xs ((e : Int) / 2) = _; rw [show (e : Int) / 2 = ((e / 2 : Nat) : Int) by omega]; exact h3), ?_⟩
  refine ⟨_, rfl, _, _, rfl, rfl, (by show (0 : Int) < 2; decide), .inr (.inl ⟨r, _, _, _, rfl, rfl, SqT.of h4, at_pair e, ?_⟩)⟩
  unfold MM.place at q
  split
  · rename_i h; rw [if_pos h] at q; exact q
  · rename_i h; rw [if_neg h] at q; exact q
def spBeh : Sp := fun vs H Q _ => ∃ (a o : Addr) (ts : MM.Ties) (os : MM.Ords) (e : Nat), vs = [.ref a, .ref o, vn e] ∧ TsAt H a ts ∧ OsAt H o os ∧ MM.Good ts os ∧ e < 2 * ts.length ∧ Q (vn (MM.behind ts os e)) H
theorem ok_lbehind (T : Txt K mg t) : FnOk P w K mg base CX0 2 t.a_l_behind t.d_l_behind ["_law_ties", "_law_orders", "_law_end"] spBeh := by
  have G_l_other := ok_lother (P := P) (w := w) (base := base) T
  have G_l_place := ok_lplace (P := P) (w := w) (base := base) T
  refine T.F_l_behind.ok sc_l_behind (fun vs H Q E h => ?_) (fun cdv A outer s H vs Q E hr h => ?_)
  · obtain ⟨a, o, ts, os, e, rfl, _⟩ := h; rfl
  obtain ⟨a, o, ts, os, e, rfl, ht, ho, g, he, q⟩ := h
  have nd := sc_l_behind.nd
  refine ⟨_, (pss_cons (ps_set (i := 3) nd rfl (Or.inl rfl) (pe_ix ix_list (pv 1) (pe_call G_l_place (hr.mono (by decide)) rfl T.m_l_place T.k_l_place T.b_l_place .nil pass0 (pa_cons (pv 0) (pa_cons (pe_call G_l_other (hr.mono (by decide)) rfl T.m_l_other T.k_l_other T.b_l_other .nil pass0 (pa_cons (pv 2) pa_nil)) pa_nil))) (fun _ _ => rfl)))
    (pss_one (ps_ret (pe_ix ix_list (pv 3) (pe_op op_sub (pe_bm PySem.F.plainAttrs_list PySem.F.slot_list_index PySem.F.type_list_index mt_index (pv 3) (pa_cons (pe_call G_l_other (hr.mono (by decide)) rfl T.m_l_other T.k_l_other T.b_l_other .nil pass0 (pa_cons (pv 2) pa_nil)) pa_nil)) pe_int) (fun _ _ => rfl))))), ?_⟩
  have hp := g.g.has (MM.oth e) (MM.oth_lt he)
  obtain ⟨xs, r, h1, h2, h3, h4⟩ := ho.item hp.1
  refine ⟨_, rfl, _, rfl, _, rfl, e, rfl, a, ts, MM.oth e, rfl, ht, MM.oth_lt he, o, xs, _, _, rfl, rfl, SqL.of h1, h3, ?_⟩
  refine ⟨_, rfl, _, rfl, .inl ⟨rfl, _, SqL.of h4⟩, _, rfl, e, rfl, r, _, _, rfl, rfl, h4, hp.2, _, _, rfl, rfl, r, _, _, _, rfl, rfl, SqL.of h4, at_prev hp.2, q⟩
end K05

namespace L2
open PySem PyProof.Rows
structure NewOs (H H' : Hp) (r : Addr) (rr : List Addr) (ls : MM.Ords) : Prop where
  at_ : H' r = some (.lst (rr.map V.ref))
  len : rr.length = ls.length
  row : ∀ (i : Nat) l, ls[i]? = some l → ∃ x, rr[i]? = some x ∧ H' x = some (.lst (vns l))
  nd : rr.Nodup
  nin : r ∉ rr
  new : H r = none
  news : ∀ x ∈ rr, H x = none
theorem NewOs.os {H H' : Hp} {r : Addr} {rr : List Addr} {ls : MM.Ords} (n : NewOs H H' r rr ls) : OsAt H' r ls := ⟨rr, n.at_, n.len, n.row⟩
theorem NewOs.keep {H H' H2 : Hp} {r : Addr} {rr : List Addr} {ls : MM.Ords} (n : NewOs H H' r rr ls) (g : ∀ b o, b = r ∨ b ∈ rr → H' b = some o → H2 b = some o) : NewOs H H2 r rr ls :=
  ⟨g _ _ (.inl rfl) n.at_, n.len, fun i l h => by obtain ⟨x, h1, h2⟩ := n.row i l h; exact ⟨x, h1, g _ _ (.inr (List.mem_of_getElem? h1)) h2⟩, n.nd, n.nin, n.new, n.news⟩
theorem NewOs.ex {H H' : Hp} {r : Addr} {rr : List Addr} {ls : MM.Ords} (n : NewOs H H' r rr ls) {x : Addr} (hx : x ∈ rr) : ∃ l, H' x = some (.lst (vns l)) := by
  obtain ⟨i, hi, rfl⟩ := List.mem_iff_getElem.mp hx
  have hi' : i < ls.length := by rw [← n.len]; exact hi
  obtain ⟨y, h1, h2⟩ := n.row i (ls[i]'hi') (List.getElem?_eq_getElem hi')
  rw [List.getElem?_eq_getElem hi] at h1
  cases h1
  exact ⟨_, h2⟩
theorem NewOs.push {H H' H2 : Hp} {r x : Addr} {rr : List Addr} {ls : MM.Ords} {l : List Nat} (n : NewOs H H' r rr ls) (hx : H x = none) (hxr : x ∉ rr) (hxn : x ≠ r) (at2 : H2 r = some (.lst ((rr ++ [x]).map V.ref))) (ax : H2 x = some (.lst (vns l)))
    (g : ∀ b o, b ∈ rr → H' b = some o → H2 b = some o) : NewOs H H2 r (rr ++ [x]) (ls ++ [l]) where
  at_ := at2
  len := by rw [List.length_append, List.length_append, n.len]; rfl
  row := fun i m h => by
    rcases Nat.lt_or_ge i ls.length with q | q
    · rw [List.getElem?_append_left q] at h
      obtain ⟨y, h1, h2⟩ := n.row i m h
      exact ⟨y, by rw [List.getElem?_append_left (by rw [n.len]; exact q)]; exact h1, g _ _ (List.mem_of_getElem? h1) h2⟩
    · have hi : i = ls.length := by
        obtain ⟨z, _⟩ := List.getElem?_eq_some_iff.mp h
        rw [List.length_append] at z
        simp at z
        omega
      subst hi
      rw [List.getElem?_concat_length] at h
      cases h
      exact ⟨x, by rw [← n.len, List.getElem?_concat_length], ax⟩
  nd := by
    rw [List.nodup_append]
    refine ⟨n.nd, by simp, fun a ha b hb z => ?_⟩
    have e : b = x := by simpa using hb
    subst e
    subst z
    exact hxr ha
  nin := fun z => by
    rcases List.mem_append.mp z with z | z
    · exact n.nin z
    · have e : r = x := by simpa using z
      exact hxn e.symm
  new := n.new
  news := fun y hy => by
    rcases List.mem_append.mp hy with z | z
    · exact n.news y z
    · have e : y = x := by simpa using z
      subst e
      exact hx
theorem vns_app (l m : List Nat) : vns (l ++ m) = vns l ++ vns m := List.map_append
theorem inV_nat (x : Nat) (l : List Nat) : inV (vn x) (vns l) = decide (x ∈ l) := by
  unfold inV
  rw [Bool.eq_iff_iff, List.any_eq_true, decide_eq_true_iff]
  constructor
  · rintro ⟨y, hy, h⟩
    obtain ⟨n, hn, rfl⟩ := List.mem_map.mp hy
    have h' : ((n : Int) == (x : Int)) = true := h
    have : n = x := by have := beq_iff_eq.mp h'; omega
    subst this
    exact hn
  · intro h
    exact ⟨vn x, List.mem_map.mpr ⟨x, h, rfl⟩, by show ((x : Int) == (x : Int)) = true; simp⟩
theorem vns_flat (l : List Nat) : (vns l).all flatV = true := by rw [List.all_eq_true]; intro y hy; obtain ⟨n, _, rfl⟩ := List.mem_map.mp hy; rfl
theorem bds_vns {K : PySem.W.Frag} {H : Hp} : ∀ l : List Nat, Bds K H (vns l) (l.map fun n : Nat => PyData.int (n : Int))
  | [] => .nil
  | n :: l => .cons (.int n) (bds_vns l)
theorem shaped_nats (l : List Nat) : SeqAt.shaped (.list (l.map fun n : Nat => PyData.int (n : Int))) = true := by
  have e : (l.map fun n : Nat => PyData.int (n : Int)) = (l.map fun n : Nat => (n : Int)).map PyData.int := by rw [List.map_map]; rfl
  rw [e]
  generalize (l.map fun n : Nat => (n : Int)) = ns
  simp [SeqAt.shaped, PyData.canLay0, PyData.canLayAll0, PyData.depth, PyData.depthAll, PySem.W.ke_canLayAll0, PySem.W.ke_depthAll]
theorem eqv_nats (l m : List Nat) : PyData.eqv (.list (l.map fun n : Nat => PyData.int (n : Int))) (.list (m.map fun n : Nat => PyData.int (n : Int))) = decide (l = m) := by
  have e : ∀ l : List Nat, (l.map fun n : Nat => PyData.int (n : Int)) = (l.map fun n : Nat => (n : Int)).map PyData.int := fun l => by rw [List.map_map]; rfl
  rw [e, e]
  unfold PyData.eqv
  rw [PySem.W.ked_eqvAll]
  have inj : ∀ l m : List Nat, (l.map fun n : Nat => (n : Int)) = (m.map fun n : Nat => (n : Int)) → l = m := by
    intro l
    induction l with
    | nil => intro m h; cases m with
      | nil => rfl
      | cons _ _ => simp at h
    | cons a l ih => intro m h; cases m with
      | nil => simp at h
      | cons b m =>
        simp only [List.map_cons, List.cons.injEq] at h
        rw [ih m h.2, show a = b by omega]
  by_cases h : l = m
  · subst h; simp
  · rw [decide_eq_false h, decide_eq_false (fun z => h (inj l m z))]
end L2
namespace K05
open PySem L2 PyProof.Rows
variable {P : Program} {w : World} {K : PySem.W.Frag} {mg : Str → Option Value} {base : Heap} {t : Adr}
def spLandsL : Sp := fun vs H Q _ => ∃ (a o : Addr) (ts : MM.Ties) (os : MM.Ords), vs = [.ref a, .ref o] ∧ TsAt H a ts ∧ OsAt H o os ∧ MM.Good ts os ∧ ts.length ≤ 500 ∧
  ∀ (r : Addr) (rr : List Addr) (H' : Hp), Same H H' → NewOs H H' r rr (MM.landsOf (MM.behind ts os) (2 * ts.length)) → Q (.ref r) H'
theorem ok_llands (T : Txt K mg t) : FnOk P w K mg base CX0 3 t.a_l_lands t.d_l_lands ["_law_ties", "_law_orders"] spLandsL := by
  have G_l_behind := ok_lbehind (P := P) (w := w) (base := base) T
  refine T.F_l_lands.ok sc_l_lands (fun vs H Q E h => ?_) (fun cdv A outer s H vs Q E hr h => ?_)
  · obtain ⟨a, o, ts, os, rfl, _⟩ := h; rfl
  obtain ⟨a, o, ts, os, rfl, ht, ho, g, h500, q⟩ := h
  have nd := sc_l_lands.nd
  have nd_l_end_l_land : (["_law_end", "_law_land"] : List Str).Nodup := by decide
  refine ⟨_, (pss_cons (ps_set (i := 2) nd rfl (Or.inl rfl) (pe_lst pa_nil))
    (pss_cons (ps_set (i := 3) nd rfl (Or.inl rfl) (pe_callTy (call_list_rng rfl) rfl T.z_list boot_list (pa_cons (pe_callTy call_range1 rfl T.z_range boot_range (pa_cons (pe_op op_mul pe_int (pe_callB call_len_seq rfl T.z_len PySem.boot_len (pa_cons (pv 0) pa_nil))) pa_nil)) pa_nil)))
    (pss_cons (ps_while PassesOwn.never (pt_cmpR (op_neD hr.units) (pv 3) (pe_lst pa_nil) (nomark _)) (pss_cons (ps_set (i := 4) nd rfl (Or.inr rfl) (pe_lst (pa_cons (pe_ix ix_list (pv 3) pe_int (fun _ _ => rfl)) pa_nil)))
    (pss_cons (ps_set (i := 5) nd rfl (Or.inl rfl) (pe_call G_l_behind (hr.mono (by decide)) rfl T.m_l_behind T.k_l_behind T.b_l_behind .nil pass0 (pa_cons (pv 0) (pa_cons (pv 1) (pa_cons (pe_ix ix_list (pv 3) pe_int (fun _ _ => rfl)) pa_nil)))))
    (pss_cons (ps_while PassesOwn.never (pt_cmpR op_ne (pv 5) (pe_ix ix_list (pv 4) pe_int (fun _ _ => rfl)) (nomark _)) (pss_cons (ps_expr (pe_bm PySem.F.plainAttrs_list PySem.F.slot_list_append PySem.F.type_list_append mt_append (pv 4) (pa_cons (pv 5) pa_nil)))
    (pss_one (ps_set (i := 5) nd rfl (Or.inl rfl) (pe_call G_l_behind (hr.mono (by decide)) rfl T.m_l_behind T.k_l_behind T.b_l_behind .nil pass0 (pa_cons (pv 0) (pa_cons (pv 1) (pa_cons (pv 5) pa_nil))))))))
    (pss_cons (ps_expr (pe_bm PySem.F.plainAttrs_list PySem.F.slot_list_append PySem.F.type_list_append mt_append (pv 2) (pa_cons (pv 4) pa_nil)))
    (pss_one (ps_setComp (i := 3) nd rfl (Or.inl rfl)  (N' := ["_law_end", "_law_land"]) (js := [none, some 4]) rfl (pi_list (pv 3)) (fun _ _ _ _ _ => (pg_name (i := 0) nd_l_end_l_land rfl (Or.inl rfl))) (fun _ _ _ _ _ => (pf_one (pt_cmpR (kop_notIn (K := K) rfl) (pv 0) (pv 1) rfl))) (fun _ _ _ _ _ => (pv 0)))))))))
    (pss_one (ps_ret (pv 2)))))), ?_⟩
  have m := g.maps
  obtain ⟨tr0, hta, htl, _⟩ := id ht
  -- told = []
  refine ⟨(by show 0 ≤ sizeLine; decide), fun tr htr => ?_⟩
  have g1 := same_new htr (.lst [])
  -- left = list(range(..))
  refine ⟨_, rfl, a, _, rfl, .inl (SqL.of (g1 _ _ hta)), _, _, rfl, rfl, .inl ⟨by decide, by decide⟩, _, rfl, fun p hp => ?_⟩
  have e2 : (2 : Int) * ((tr0.map V.ref).length : Nat) = ((2 * ts.length : Nat) : Int) := by rw [List.length_map, htl]; push_cast; rfl
  rw [e2] at *
  have g2 := same_new hp (.rng 0 ((2 * ts.length : Nat) : Int))
  refine ⟨p, 2 * ts.length, rfl, upd_same, by omega, fun lr hlr => ?_⟩
  have g3 := same_new hlr (.lst (vns (List.range (2 * ts.length))))
  have ntl : tr ≠ lr := ne_of_none (g2 _ _ upd_same) hlr
  generalize hf : MM.behind ts os = f at m q
  generalize hN : 2 * ts.length = N at m q hlr g3 g2 hp
  have n0 : NewOs H (upd (upd (upd H tr (.lst [])) p (.rng 0 (N : Int))) lr (.lst (vns (List.range N)))) tr [] [] :=
    ⟨g3 _ _ (g2 _ _ upd_same), rfl, fun i l h => by simp at h, List.nodup_nil, by simp, htr, fun x hx => by cases hx⟩
  refine ⟨fun k σ H1 => ∃ (lr : Addr) (left : List Nat) (rr : List Addr) (done : MM.Ords) (o4 o5 : Option V), k = left.length ∧ σ = [some (.ref a), some (.ref o), some (.ref tr), some (.ref lr), o4, o5] ∧ Same H H1 ∧ H1 lr = some (.lst (vns left)) ∧
    NewOs H H1 tr rr done ∧ lr ≠ tr ∧ done ++ MM.lf f left = MM.landsOf f N ∧ (∀ x ∈ left, x < N) ∧ left.length ≤ N, ⟨_, lr, List.range N, [], [], none, none, rfl, rfl, (g1.trans g2).trans g3, upd_same, n0, Ne.symm ntl, rfl, fun x hx => List.mem_range.mp hx, by simp⟩, ?_⟩
  clear n0 g3 g2 hp hlr ntl lr p g1
  rintro k σ H1 ⟨lr, left, rr, done, o4, o5, rfl, rfl, g1, el, n1, nlt, eq, hlt, hll⟩
  refine ⟨_, rfl, (by show 0 ≤ sizeLine; decide), fun p hp => ?_⟩
  have gp := same_new hp (.lst [])
  refine ⟨_, _, .lst (SqL.of (gp _ _ el)) (bds_vns left), .lst (SqL.of upd_same) (bds_vns []), shaped_nats left, shaped_nats [], _, rfl, ?_⟩
  rw [eqv_nats]
  have n2 : NewOs H (upd H1 p (.lst [])) tr rr done := n1.keep fun b o' _ h => gp _ _ h
  have g2 := g1.trans gp
  have el2 := gp _ _ el
  generalize upd H1 p (.lst []) = H2 at n2 g2 el2 gp
  clear hp
  cases left with
  | nil =>
    refine iteFb rfl ?_
    rw [MM.lf_nil, List.append_nil] at eq
    exact ⟨_, rfl, q tr rr H2 g2 (eq ▸ n2)⟩
  | cons e r =>
    refine iteTb (by simp) ?_
    have heN : e < N := hlt e List.mem_cons_self
    obtain ⟨rd, rdN⟩ := MM.per_round m heN
    have hdl : done.length ≤ N := by
      have h1 := MM.lf_len m _ (List.range N) (Nat.le_refl _) (fun x hx => List.mem_range.mp hx)
      have h2 : (done ++ MM.lf f (e :: r)).length = (MM.landsOf f N).length := by rw [eq]
      rw [List.length_append] at h2
      unfold MM.landsOf at h2
      rw [List.length_range] at h1
      omega
    have p1 : atI (vns (e :: r)) 0 = some (vn e) := at_vns (l := e :: r) (j := 0) (by simp) rfl
    -- land = [left[0]]
    refine ⟨_, fun σ' H' h => h, ?_⟩
    refine ⟨_, rfl, lr, _, _, _, rfl, rfl, SqL.of el2, p1, (by show 1 ≤ sizeLine; decide), fun la hla => ?_⟩
    have g3 := same_new hla (.lst [vn e])
    have nla : la ≠ tr ∧ la ≠ lr ∧ la ∉ rr := by
      refine ⟨(ne_of_none n2.at_ hla).symm, (ne_of_none el2 hla).symm, fun z => ?_⟩
      obtain ⟨l, hl⟩ := n2.ex z
      rw [hla] at hl; cases hl
    refine ⟨_, rfl, _, rfl, _, rfl, lr, _, _, _, rfl, rfl, SqL.of (g3 _ _ el2), p1, a, o, ts, os, e, rfl, (g2.trans g3).ts ht, (g2.trans g3).os ho, g, by rw [hN]; exact heN, ?_⟩
    rw [hf]
    -- the way round
    refine ⟨fun k σ H4 => ∃ j, k = MM.per f e - j ∧ 0 < j ∧ j ≤ MM.per f e ∧ σ = [some (.ref a), some (.ref o), some (.ref tr), some (.ref lr), some (.ref la), some (vn (MM.iter f j e))] ∧ (∀ b o, b ≠ la → H2 b = some o → H4 b = some o) ∧ H4 la = some (.lst (vns (MM.path f e j))),
      ⟨_, 1, rfl, Nat.one_pos, rd.1, rfl, fun b o' hb h => g3 _ _ h, upd_same⟩, ?_⟩
    rintro k σ H4 ⟨j, rfl, hj0, hj, rfl, b4, e4⟩
    have hH : ∀ b o', H b = some o' → H4 b = some o' := fun b o' h => b4 b o' (ne_of_none (g2 _ _ h) hla) (g2 _ _ h)
    have p0 : atI (vns (MM.path f e j)) 0 = some (vn e) := by
      have hl : 0 < (MM.path f e j).length := by rw [MM.path_len]; exact hj0
      refine (at_vns hl (k := 0) rfl).trans ?_
      congr 2
      unfold MM.path
      simp [List.getD, hj0]
      rfl
    refine ⟨_, rfl, _, rfl, la, _, _, _, rfl, rfl, SqL.of e4, p0, rfl, _, rfl, ?_⟩
    by_cases hc : MM.iter f j e = e
    · refine iteFb (by rw [hc]; simp) ?_
      have ej : j = MM.per f e := by
        rcases Nat.lt_or_ge j (MM.per f e) with z | z
        · exact absurd hc (rd.2.2 j hj0 z)
        · omega
      subst ej
      -- told.append(land)
      have n4 : NewOs H H4 tr rr done := n2.keep fun b o' hb h => b4 b o' (by rcases hb with rfl | hb; exact Ne.symm nla.1; rintro rfl; exact nla.2.2 hb) h
      refine ⟨_, rfl, .inl ⟨rfl, _, SqL.of n4.at_⟩, _, rfl, tr, _, _, rfl, rfl, n4.at_, ?_, ?_⟩
      · rw [List.length_map, n4.len]; exact Nat.lt_of_le_of_lt (by omega : done.length ≤ 1000) (by decide)
      have el5 : (upd H4 tr (.lst (rr.map V.ref ++ [.ref la]))) lr = some (.lst (vns (e :: r))) := by rw [upd_ne nlt]; exact b4 _ _ (Ne.symm nla.2.1) el2
      have la5 : (upd H4 tr (.lst (rr.map V.ref ++ [.ref la]))) la = some (.lst (vns (MM.landOf f e))) := by rw [upd_ne nla.1]; exact e4
      have hH5 : Same H (upd H4 tr (.lst (rr.map V.ref ++ [.ref la]))) := fun b o' h => by rw [upd_ne (ne_of_none h htr)]; exact hH b o' h
      have n5 : NewOs H (upd H4 tr (.lst (rr.map V.ref ++ [.ref la]))) tr (rr ++ [la]) (done ++ [MM.landOf f e]) :=
        n4.push (g2.free hla) nla.2.2 nla.1 (by rw [upd_same, List.map_append]; rfl) la5 fun b o' hb h => by rw [upd_ne (show b ≠ tr from fun z => n4.nin (z ▸ hb))]; exact h
      generalize upd H4 tr (.lst (rr.map V.ref ++ [.ref la])) = H5 at el5 la5 hH5 n5
      refine ⟨_, rfl, lr, rfl, ⟨_, SqL.of el5⟩, fun D hD => ?_⟩
      refine comp_by (e :: r).length (fun i ys H' => ys = vns (((e :: r).take i).filter fun x => decide (x ∉ MM.landOf f e)) ∧ H' = upd H5 D (.lst ys)) ⟨by simp, rfl⟩ ?_ ?_
      · rintro i ys H' hi ⟨rfl, rfl⟩
        have gD := same_new hD (.lst (vns (((e :: r).take i).filter fun x => decide (x ∉ MM.landOf f e))))
        have hx : (vns (e :: r))[i]? = some (vn (e :: r)[i]) := by rw [List.getElem?_map, List.getElem?_eq_getElem hi]; rfl
        refine ⟨⟨_, _, SqL.of (gD _ _ el5), hx⟩, ?_⟩
        rintro x' H'' ⟨rfl, hx'⟩
        have e6 := hx' _ (SqL.of (gD _ _ el5))
        rw [hx] at e6
        cases e6
        refine ⟨(Fills.refl _).set _ rfl, ?_⟩
        refine ⟨_, rfl, _, rfl, la, _, rfl, .inl (SqL.of (gD _ _ la5)), rfl, vns_flat _, _, rfl, ?_⟩
        rw [inV_nat]
        have ts1 := take_succ_filter (fun x => decide (x ∉ MM.landOf f e)) (e :: r) i _ (List.getElem?_eq_getElem hi)
        have hfl : ((List.take i (e :: r)).filter fun x => decide (x ∉ MM.landOf f e)).length ≤ 1000 := by
          have h1 := List.length_filter_le (fun x => decide (x ∉ MM.landOf f e)) (List.take i (e :: r))
          have h2 : (List.take i (e :: r)).length ≤ (e :: r).length := List.length_take_le' _ _
          omega
        by_cases hxm : (e :: r)[i] ∈ MM.landOf f e
        · refine iteFb (by simp [hxm]) ?_
          rw [ts1, if_neg (by simp [hxm]), List.append_nil]
          exact ⟨rfl, rfl⟩
        · refine iteTb (by simp [hxm]) ?_
          refine ⟨_, rfl, upd_same, ?_, ?_, ?_⟩
          · rw [List.length_map]; exact Nat.lt_of_le_of_lt hfl (by decide)
          · rw [ts1, if_pos (by simp [hxm]), vns_app]; rfl
          · rw [upd_upd]
      · rintro ys H' ⟨rfl, rfl⟩
        have gD := same_new hD (.lst (vns (((e :: r).take (e :: r).length).filter fun x => decide (x ∉ MM.landOf f e))))
        refine ⟨⟨_, SqL.of (gD _ _ el5), by rw [List.length_map]; exact Nat.le_refl _⟩, ?_⟩
        have sh := MM.filter_shorter m heN r
        refine ⟨_, ?_, D, _, rr ++ [la], done ++ [MM.landOf f e], _, _, rfl, rfl, hH5.trans gD, upd_same, n5.keep fun b o' _ h => gD _ _ h, (ne_of_none n5.at_ hD).symm, ?_, ?_, ?_⟩
        · rw [List.take_length]; simp only [List.length_cons]; omega
        · rw [List.take_length, List.append_assoc]
          rw [MM.lf_cons m hlt] at eq
          exact eq
        · intro x hx
          rw [List.take_length] at hx
          exact hlt x (List.mem_filter.mp hx).1
        · rw [List.take_length]; simp only [List.length_cons] at hll; omega
    · refine iteTb (by simp; omega) ?_
      have hjp := MM.round_more rd hj0 hj hc
      refine ⟨_, fun σ' H' h => h, ?_⟩
      refine ⟨_, rfl, .inl ⟨rfl, _, SqL.of e4⟩, _, rfl, la, _, _, rfl, rfl, e4, ?_, ?_⟩
      · rw [List.length_map, MM.path_len]; exact Nat.lt_of_le_of_lt (by omega : j ≤ 1000) (by decide)
      have e7 : vns (MM.path f e j) ++ [vn (MM.iter f j e)] = vns (MM.path f e (j + 1)) := by rw [MM.path_succ, vns_app]; rfl
      rw [e7]
      have hH5 : Same H (upd H4 la (.lst (vns (MM.path f e (j + 1))))) := fun b o' h => by rw [upd_ne (ne_of_none (g2 _ _ h) hla)]; exact hH b o' h
      refine ⟨_, rfl, _, rfl, _, rfl, a, o, ts, os, MM.iter f j e, rfl, hH5.ts ht, hH5.os ho, g, by rw [hN]; exact MM.iter_lt m heN j, ?_⟩
      rw [hf]
      exact ⟨MM.per f e - (j + 1), by omega, j + 1, rfl, by omega, by omega, rfl, fun b o' hb h => by rw [upd_ne hb]; exact b4 b o' hb h, upd_same⟩
end K05

namespace MM
theorem insAt_mem {l : List Nat} {i x y : Nat} : y ∈ L2.insAt l i x ↔ y = x ∨ y ∈ l := by
  unfold L2.insAt
  rw [List.mem_append, List.mem_cons]
  have h : y ∈ l ↔ y ∈ l.take i ∨ y ∈ l.drop i := by rw [← List.mem_append, List.take_append_drop]
  rw [h]
  constructor
  · rintro (h | h | h)
    · exact .inr (.inl h)
    · exact .inl h
    · exact .inr (.inr h)
  · rintro (h | h | h)
    · exact .inr (.inl h)
    · exact .inl h
    · exact .inr (.inr h)
theorem insAt_nodup {l : List Nat} (nd : l.Nodup) {i x : Nat} (h : x ∉ l) : (L2.insAt l i x).Nodup := by
  unfold L2.insAt
  have p : (l.take i ++ x :: l.drop i).Perm (x :: l) := by
    have q := List.perm_middle (a := x) (l₁ := l.take i) (l₂ := l.drop i)
    rw [List.take_append_drop] at q
    exact q
  exact (p.nodup_iff).mpr (List.nodup_cons.mpr ⟨h, nd⟩)
theorem insAt_len {α : Type} (l : List α) (i : Nat) (x : α) : (L2.insAt l i x).length = l.length + 1 := by
  unfold L2.insAt
  rw [List.length_append, List.length_cons, ← Nat.add_assoc, ← List.length_append, List.take_append_drop]
theorem insAt_vns (l : List Nat) (i x : Nat) : L2.insAt (L2.vns l) i (L2.vn x) = L2.vns (L2.insAt l i x) := by
  unfold L2.insAt L2.vns
  rw [List.map_append, List.map_cons, List.map_take, List.map_drop]
end MM
namespace K05
open PySem L2 PyProof.Rows
variable {P : Program} {w : World} {K : PySem.W.Frag} {mg : Str → Option Value} {base : Heap} {t : Adr}
def spTurned : Sp := fun vs H Q _ => ∃ (num : Int) (n : Nat), vs = [.int num, vn n] ∧ 0 ≤ num ∧ n ≤ 400 ∧ ∀ (r : Addr) (ps : List Nat), H r = none → ps.Nodup → (∀ x ∈ ps, x < n) → ps.length = n → Q (.ref r) (upd H r (.lst (vns ps)))
theorem ok_lturned (T : Txt K mg t) : FnOk P w K mg base CX0 1 t.a_l_turned t.d_l_turned ["_law_number", "_law_many"] spTurned := by
  refine T.F_l_turned.ok sc_l_turned (fun vs H Q E h => ?_) (fun cdv A outer s H vs Q E hr h => ?_)
  · obtain ⟨num, n, rfl, _⟩ := h; rfl
  obtain ⟨num, n, rfl, h0, hn, q⟩ := h
  have nd := sc_l_turned.nd
  refine ⟨_, (pss_cons (ps_set (i := 2) nd rfl (Or.inl rfl) (pe_lst pa_nil))
    (pss_cons (ps_for PassesOwn.never rfl (pi_range1 rfl T.z_range (pa_cons (pv 1) pa_nil)) (pg_name (i := 3) nd rfl (Or.inl rfl)) (pss_cons (ps_expr (pe_bm PySem.F.plainAttrs_list PySem.F.slot_list_insert PySem.F.type_list_insert mt_insert (pv 2) (pa_cons (pe_op op_mod (pv 0) (pe_op op_add (pv 3) pe_int)) (pa_cons (pv 3) pa_nil))))
    (pss_one (ps_set (i := 0) nd rfl (Or.inl rfl) (pe_op op_fdiv (pv 0) (pe_op op_add (pv 3) pe_int))))))
    (pss_one (ps_ret (pv 2))))), ?_⟩
  refine ⟨(by show 0 ≤ sizeLine; decide), fun r hr0 => ?_⟩
  refine ⟨_, rfl, n, rfl, by omega, by omega, for_range (lo := 0) (n := (n : Int).toNat) (fun i σ H' => ∃ (num' : Int) (ps : List Nat) (o : Option V), 0 ≤ num' ∧ σ = [some (.int num'), some (vn n), some (.ref r), o] ∧ H' = upd H r (.lst (vns ps)) ∧ ps.Nodup ∧ (∀ x ∈ ps, x < i) ∧ ps.length = i)
    ⟨num, [], none, h0, rfl, rfl, List.nodup_nil, (fun x hx => by cases hx), rfl⟩ ?_ ?_⟩
  · rintro i σ H' hi ⟨num', ps, o, h0', rfl, rfl, hnd, hlt, hl⟩
    have hi' : i < 400 := by omega
    have e1 : num' % (0 + (i : Int) + 1) = (((num' % (0 + (i : Int) + 1)).toNat : Nat) : Int) := by
      have := Int.emod_nonneg num' (show (0 + (i : Int) + 1) ≠ 0 by omega)
      omega
    have e2 : (num' % (0 + (i : Int) + 1)).toNat ≤ i := by
      have := Int.emod_lt_of_pos num' (show 0 < (0 + (i : Int) + 1) by omega)
      omega
    refine ⟨_, rfl, .inl ⟨rfl, _, SqL.of upd_same⟩, _, rfl, _, rfl, _, _, rfl, rfl, _, _, rfl, rfl, (by show (0 : Int) < 0 + (i : Int) + 1; omega), _, rfl, r, _, (num' % (0 + (i : Int) + 1)).toNat, vn i, rfl, ?_, upd_same, ?_, ?_, ?_⟩
    · show [V.int (num' % (0 + (i : Int) + 1)), V.int (0 + (i : Int))] = [V.int (((num' % (0 + (i : Int) + 1)).toNat : Nat) : Int), V.int (i : Int)]
      rw [← e1, Int.zero_add]
    · rw [List.length_map]; omega
    · rw [List.length_map]; exact Nat.lt_of_le_of_lt (by omega : ps.length ≤ 1000) (by decide)
    refine ⟨_, rfl, _, rfl, _, _, rfl, rfl, _, _, rfl, rfl, ⟨by show (0 : Int) < 0 + (i : Int) + 1; omega, by show 0 + (i : Int) + 1 < 1073741824; omega⟩, ?_⟩
    refine ⟨_, insAt ps (num' % (0 + (i : Int) + 1)).toNat i, _, ?_, rfl, ?_, ?_, ?_, ?_⟩
    · exact Int.ediv_nonneg h0' (by omega)
    · rw [upd_upd, MM.insAt_vns]
    · exact MM.insAt_nodup hnd fun z => Nat.lt_irrefl _ (hlt i z)
    · intro x hx
      rcases MM.insAt_mem.mp hx with rfl | hx
      · omega
      · have := hlt x hx; omega
    · rw [MM.insAt_len, hl]
  · rintro σ H' ⟨num', ps, o, h0', rfl, rfl, hnd, hlt, hl⟩
    exact ⟨_, rfl, q r ps hr0 hnd (fun x hx => by have := hlt x hx; omega) (by omega)⟩
def spDigit : Sp := fun vs H Q _ => ∃ num by_ k : Int, vs = [.int num, .int by_, .int k] ∧ 0 < by_ ∧ by_ < 1000 ∧ 0 ≤ k ∧ k ≤ 1000 ∧ ∀ d : Int, 0 ≤ d → d < by_ → Q (.int d) H
theorem ok_ldigit (T : Txt K mg t) : FnOk P w K mg base CX0 1 t.a_l_digit t.d_l_digit ["_law_number", "_law_by", "_law_k"] spDigit := by
  refine T.F_l_digit.ok sc_l_digit (fun vs H Q E h => ?_) (fun cdv A outer s H vs Q E hr h => ?_)
  · obtain ⟨num, b, k, rfl, _⟩ := h; rfl
  obtain ⟨num, b, k, rfl, hb0, hb, hk0, hk, q⟩ := h
  have nd := sc_l_digit.nd
  refine ⟨_, (pss_cons (ps_for PassesOwn.never rfl (pi_range1 rfl T.z_range (pa_cons (pv 2) pa_nil)) (pg_name (i := 3) nd rfl (Or.inl rfl)) (pss_one (ps_set (i := 0) nd rfl (Or.inl rfl) (pe_op op_fdiv (pv 0) (pv 1)))))
    (pss_one (ps_ret (pe_op op_mod (pv 0) (pv 1))))), ?_⟩
  refine ⟨_, rfl, k, rfl, by omega, by omega, for_range (lo := 0) (n := k.toNat) (fun _ σ H' => H' = H ∧ ∃ (c' : Int) (o : Option V), σ = [some (.int c'), some (.int b), some (.int k), o]) ⟨rfl, num, none, rfl⟩ ?_ ?_⟩
  · rintro i σ H' hi ⟨rfl, c', o, rfl⟩
    exact ⟨_, rfl, _, rfl, _, _, rfl, rfl, ⟨hb0, by omega⟩, rfl, _, _, rfl⟩
  · rintro σ H' ⟨rfl, c', o, rfl⟩
    exact ⟨_, rfl, _, rfl, _, _, rfl, rfl, hb0, q _ (Int.emod_nonneg _ (by omega)) (Int.emod_lt_of_pos _ hb0)⟩
end K05

namespace MM
theorem mod_ix (pick : Int) {n : Nat} (h : 0 < n) : ∃ i : Nat, i < n ∧ pick % (n : Int) = (i : Int) := by
  have h1 := Int.emod_nonneg pick (show (n : Int) ≠ 0 by omega)
  have h2 := Int.emod_lt_of_pos pick (show 0 < (n : Int) by omega)
  exact ⟨(pick % (n : Int)).toNat, by omega, by omega⟩
theorem place_old {ts : Ties} {t : Nat × Nat} {e : Nat} (h : e < 2 * ts.length) : place (ts ++ [t]) e = place ts e := by
  unfold place
  have : e / 2 < ts.length := by omega
  simp only [List.getD, List.getElem?_append_left this]
theorem place_first (ts : Ties) (t : Nat × Nat) : place (ts ++ [t]) (2 * ts.length) = t.1 := by
  unfold place
  rw [if_pos (by omega), show 2 * ts.length / 2 = ts.length by omega]
  simp [List.getD]
theorem place_second (ts : Ties) (t : Nat × Nat) : place (ts ++ [t]) (2 * ts.length + 1) = t.2 := by
  unfold place
  rw [if_neg (by omega), show (2 * ts.length + 1) / 2 = ts.length by omega]
  simp [List.getD]
theorem Good.newPlace {ts : Ties} {os : Ords} (g : Good ts os) {a i : Nat} (ha : a < os.length) (h3 : (row os a).length < 4) :
    Good (ts ++ [(a, os.length)]) ((os.set a (L2.insAt (row os a) i (2 * ts.length))) ++ [[2 * ts.length + 1]]) := by
  have nm : 2 * ts.length ∉ row os a := fun z => by have := (g.g.ends a _ z).1; omega
  have g1 := g.g.congr (pl' := place (ts ++ [(a, os.length)])) fun e he => place_old he
  have g2 := g1.add ha (place_first ts _) (l := L2.insAt (row os a) i (2 * ts.length)) (fun x => insAt_mem) (insAt_nodup (g.g.nd a) nm) (by rw [insAt_len]; omega)
  have g3 := g2.new (by rw [List.length_set]; exact place_second ts _)
  refine ⟨?_, by rw [List.length_append]; simp⟩
  rw [List.length_append]
  exact g3
theorem Good.newTie {ts : Ties} {os : Ords} (g : Good ts os) {a b i j : Nat} (ha : a < os.length) (hb : b < os.length) (h1 : (row os a).length < 4) (h2 : (row (os.set a (L2.insAt (row os a) i (2 * ts.length))) b).length < 4) :
    Good (ts ++ [(a, b)]) ((os.set a (L2.insAt (row os a) i (2 * ts.length))).set b (L2.insAt (row (os.set a (L2.insAt (row os a) i (2 * ts.length))) b) j (2 * ts.length + 1))) := by
  have nm : 2 * ts.length ∉ row os a := fun z => by have := (g.g.ends a _ z).1; omega
  have g1 := g.g.congr (pl' := place (ts ++ [(a, b)])) fun e he => place_old he
  have g2 := g1.add ha (place_first ts _) (l := L2.insAt (row os a) i (2 * ts.length)) (fun x => insAt_mem) (insAt_nodup (g.g.nd a) nm) (by rw [insAt_len]; omega)
  have nm2 : 2 * ts.length + 1 ∉ row (os.set a (L2.insAt (row os a) i (2 * ts.length))) b := fun z => by have := (g2.ends b _ z).1; omega
  have g3 := g2.add (a := b) (by rw [List.length_set]; exact hb) (place_second ts _) (l := L2.insAt (row (os.set a (L2.insAt (row os a) i (2 * ts.length))) b) j (2 * ts.length + 1)) (fun x => insAt_mem) (insAt_nodup (g2.nd b) nm2) (by rw [insAt_len]; omega)
  refine ⟨?_, by rw [List.length_append]; simp⟩
  rw [List.length_append]
  exact g3
theorem landsOf_pos {f : Nat → Nat} {N : Nat} (m : Maps f N) (h : 0 < N) : 0 < (landsOf f N).length := by
  unfold landsOf
  cases N with
  | zero => omega
  | succ N =>
    have e : List.range (N + 1) = 0 :: (List.range N).map Nat.succ := List.range_succ_eq_map
    have hl : ∀ x ∈ List.range (N + 1), x < N + 1 := fun x hx => List.mem_range.mp hx
    rw [e] at hl ⊢
    rw [lf_cons m hl]
    simp
theorem landsOf_mem {f : Nat → Nat} {N : Nat} (m : Maps f N) {d : List Nat} (h : d ∈ landsOf f N) : 0 < d.length ∧ ∀ x ∈ d, x < N := by
  obtain ⟨e, he, rfl⟩ := lf_mem m _ _ (Nat.le_refl _) (fun x hx => List.mem_range.mp hx) d h
  have heN := List.mem_range.mp he
  exact ⟨(land_len m heN).1, land_lt m heN⟩
end MM
namespace L2
open PySem PyProof.Rows
theorem TsAt.other {H : Hp} {a x : Addr} {ts : MM.Ties} {zs : List V} (h : TsAt H a ts) (hx : H x = some (.lst zs)) (ne : x ≠ a) (o : HO) : TsAt (upd H x o) a ts := by
  obtain ⟨tr, h1, h2, h3⟩ := h
  refine ⟨tr, by rw [upd_ne (Ne.symm ne)]; exact h1, h2, fun i t ht => ?_⟩
  obtain ⟨r, q1, q2⟩ := h3 i t ht
  exact ⟨r, q1, by rw [upd_ne (ne_of q2 hx (fun z => nomatch z))]; exact q2⟩
theorem TsAt.push {H : Hp} {a r : Addr} {ts : MM.Ties} {xs : List V} {t : Nat × Nat} (h : TsAt H a ts) (hx : H a = some (.lst xs)) (hr : H r = some (.tup [vn t.1, vn t.2])) : TsAt (upd H a (.lst (xs ++ [.ref r]))) a (ts ++ [t]) := by
  obtain ⟨tr, h1, h2, h3⟩ := h
  have ex : xs = tr.map V.ref := by rw [hx] at h1; cases h1; rfl
  subst ex
  refine ⟨tr ++ [r], by rw [upd_same, List.map_append]; rfl, by rw [List.length_append, List.length_append, h2]; rfl, fun i u hu => ?_⟩
  rcases Nat.lt_or_ge i ts.length with q | q
  · rw [List.getElem?_append_left q] at hu
    obtain ⟨y, q1, q2⟩ := h3 i u hu
    exact ⟨y, by rw [List.getElem?_append_left (by rw [h2]; exact q)]; exact q1, by rw [upd_ne (ne_of q2 hx (fun z => nomatch z))]; exact q2⟩
  · have hi : i = ts.length := by
      obtain ⟨z, _⟩ := List.getElem?_eq_some_iff.mp hu
      rw [List.length_append] at z
      simp at z
      omega
    subst hi
    rw [List.getElem?_concat_length] at hu
    cases hu
    exact ⟨r, by rw [← h2, List.getElem?_concat_length], by rw [upd_ne (ne_of hr hx (fun z => nomatch z))]; exact hr⟩
theorem NewOs.set {H0 H : Hp} {o x : Addr} {rr : List Addr} {os : MM.Ords} (n : NewOs H0 H o rr os) {p : Nat} {l : List Nat} (hx : rr[p]? = some x) : NewOs H0 (upd H x (.lst (vns l))) o rr (os.set p l) where
  at_ := by rw [upd_ne (show o ≠ x from fun z => n.nin (z ▸ List.mem_of_getElem? hx))]; exact n.at_
  len := by rw [List.length_set]; exact n.len
  row := fun i m h => by
    by_cases e : p = i
    · subst e
      have hp : p < os.length := by rw [← n.len]; exact (List.getElem?_eq_some_iff.mp hx).1
      rw [List.getElem?_set_self hp] at h
      cases h
      exact ⟨x, hx, upd_same⟩
    · rw [List.getElem?_set_ne e] at h
      obtain ⟨y, h1, h2⟩ := n.row i m h
      refine ⟨y, h1, ?_⟩
      have ne : y ≠ x := by
        rintro rfl
        obtain ⟨a1, b1⟩ := List.getElem?_eq_some_iff.mp h1
        obtain ⟨a2, b2⟩ := List.getElem?_eq_some_iff.mp hx
        exact e ((List.getElem_inj n.nd).mp (b2.trans b1.symm))
      rw [upd_ne ne]; exact h2
  nd := n.nd
  nin := n.nin
  new := n.new
  news := n.news
theorem NewOs.item {H0 H : Hp} {o : Addr} {rr : List Addr} {os : MM.Ords} (n : NewOs H0 H o rr os) {p : Nat} (hp : p < os.length) : ∃ x, rr[p]? = some x ∧ x ∈ rr ∧ H x = some (.lst (vns (MM.row os p))) ∧ atI (rr.map V.ref) (p : Int) = some (.ref x) := by
  obtain ⟨x, h1, h2⟩ := n.row p os[p] (List.getElem?_eq_getElem hp)
  refine ⟨x, h1, List.mem_of_getElem? h1, ?_, atI_nat (by rw [List.getElem?_map, h1]; rfl)⟩
  unfold MM.row
  simp only [List.getD, List.getElem?_eq_getElem hp, Option.getD_some]
  exact h2
structure MapM (H0 H : Hp) (a o : Addr) (rr : List Addr) (ts : MM.Ties) (os : MM.Ords) : Prop where
  ts : TsAt H a ts
  os : NewOs H0 H o rr os
  an : H0 a = none
  ao : a ≠ o
  ar : a ∉ rr
theorem MapM.keep {H0 H H' : Hp} {a o : Addr} {rr : List Addr} {ts : MM.Ties} {os : MM.Ords} (m : MapM H0 H a o rr ts os) (g : Same H H') : MapM H0 H' a o rr ts os := ⟨g.ts m.ts, m.os.keep fun b u _ h => g _ _ h, m.an, m.ao, m.ar⟩
end L2

namespace MM
structure Reps (f : Nat → Nat) (l R : List Nat) : Prop where
  nd : R.Nodup
  of : ∀ r ∈ R, r ∈ l
  all : ∀ x ∈ l, ∃ r ∈ R, x ∈ landOf f r
  sep : ∀ r ∈ R, ∀ r' ∈ R, r' ∈ landOf f r → r = r'
theorem reps_nil (f : Nat → Nat) : ∃ R, Reps f [] R ∧ R.length = (lf f []).length := by
  refine ⟨[], ⟨List.nodup_nil, ?_, ?_, ?_⟩, rfl⟩ <;> · intro r h; cases h
theorem lf_reps {f : Nat → Nat} {N : Nat} (m : Maps f N) : ∀ (n : Nat) (l : List Nat), l.length ≤ n → (∀ x ∈ l, x < N) → ∃ R, Reps f l R ∧ R.length = (lf f l).length
  | 0, l, h, _ => by
    have e : l = [] := List.length_eq_zero_iff.mp (by omega)
    subst e
    exact reps_nil f
  | n + 1, [], _, _ => reps_nil f
  | n + 1, e :: r, h, hl => by
    have he := hl e List.mem_cons_self
    have s := filter_shorter m he r
    simp only [List.length_cons] at h
    obtain ⟨R, q, ql⟩ := lf_reps m n ((e :: r).filter fun x => decide (x ∉ landOf f e)) (by omega) (fun x hx => hl x (List.mem_filter.mp hx).1)
    have out : ∀ x ∈ R, x ∈ e :: r ∧ x ∉ landOf f e := fun x hx => by
      have := List.mem_filter.mp (q.of x hx)
      exact ⟨this.1, by simpa using this.2⟩
    refine ⟨e :: R, ⟨?_, ?_, ?_, ?_⟩, by rw [lf_cons m hl, List.length_cons, List.length_cons, ql]⟩
    · exact List.nodup_cons.mpr ⟨fun z => (out e z).2 (self_land m he), q.nd⟩
    · intro x hx
      rcases List.mem_cons.mp hx with rfl | hx
      · exact List.mem_cons_self
      · exact (out x hx).1
    · intro x hx
      by_cases z : x ∈ landOf f e
      · exact ⟨e, List.mem_cons_self, z⟩
      · obtain ⟨y, y1, y2⟩ := q.all x (List.mem_filter.mpr ⟨hx, by simpa using z⟩)
        exact ⟨y, List.mem_cons_of_mem _ y1, y2⟩
    · intro x hx y hy z
      rcases List.mem_cons.mp hx with h1 | h1 <;> rcases List.mem_cons.mp hy with h2 | h2
      · rw [h1, h2]
      · rw [h1] at z
        exact absurd z (out y h2).2
      · rw [h2] at z
        exact absurd (land_symm m (hl x (out x h1).1) z) (out x h1).2
      · exact q.sep x h1 y h2 z
theorem reps_le {f : Nat → Nat} {N : Nat} (m : Maps f N) {R S : List Nat} (a : Reps f (List.range N) R) (b : Reps f (List.range N) S) : R.length ≤ S.length := by
  have lt : ∀ r ∈ R, r < N := fun r h => List.mem_range.mp (a.of r h)
  have hg : ∀ r : Nat, ∃ s, r ∈ R → s ∈ S ∧ r ∈ landOf f s := fun r => by
    by_cases h : r ∈ R
    · obtain ⟨s, h1, h2⟩ := b.all r (a.of r h)
      exact ⟨s, fun _ => ⟨h1, h2⟩⟩
    · exact ⟨0, fun z => absurd z h⟩
  obtain ⟨g, hg⟩ := Classical.axiomOfChoice hg
  have nd : (R.map fun r => S.idxOf (g r)).Nodup := by
    refine List.Pairwise.map (R := fun x y => x ∈ R ∧ y ∈ R ∧ x ≠ y) _ ?_ ?_
    · rintro x y ⟨hx, hy, hne⟩ z
      have e : g x = g y := by
        have h1 := List.getElem_idxOf (List.idxOf_lt_length_iff.mpr (hg x hx).1)
        have h2 := List.getElem_idxOf (List.idxOf_lt_length_iff.mpr (hg y hy).1)
        rw [← h1, ← h2]
        congr 1
      have hs := List.mem_range.mp (b.of _ (hg x hx).1)
      have h3 := (hg y hy).2
      rw [← e] at h3
      exact hne (a.sep x hx y hy (land_trans m (lt x hx) (land_symm m hs (hg x hx).2) h3))
    · have := a.nd
      rw [List.nodup_iff_pairwise_ne] at this
      exact List.Pairwise.imp_of_mem (fun hx hy h => ⟨hx, hy, h⟩) this
  have := nodup_bound S.length _ nd (fun x hx => by
    obtain ⟨r, hr, rfl⟩ := List.mem_map.mp hx
    exact List.idxOf_lt_length_iff.mpr (hg r hr).1)
  rwa [List.length_map] at this
theorem count_lands {f : Nat → Nat} {N : Nat} (m : Maps f N) {R : List Nat} (a : Reps f (List.range N) R) : (landsOf f N).length = R.length := by
  obtain ⟨S, b, l⟩ := lf_reps m _ (List.range N) (Nat.le_refl _) (fun x hx => List.mem_range.mp hx)
  have h1 := reps_le m a b
  have h2 := reps_le m b a
  show (lf f (List.range N)).length = _
  omega
theorem reps_ex {f : Nat → Nat} {N : Nat} (m : Maps f N) : ∃ R, Reps f (List.range N) R ∧ R.length = (landsOf f N).length := lf_reps m _ (List.range N) (Nat.le_refl _) (fun x hx => List.mem_range.mp hx)
theorem lands_renamed {f g : Nat → Nat} {N : Nat} (m : Maps f N) (k : Maps g N) {φ : Nat → Nat} (hφ : Maps φ N) (h : ∀ x, x < N → g (φ x) = φ (f x)) : (landsOf g N).length = (landsOf f N).length := by
  obtain ⟨R, q, l⟩ := reps_ex m
  have it : ∀ n x, x < N → iter g n (φ x) = φ (iter f n x) := by
    intro n
    induction n with
    | zero => intro x _; rfl
    | succ n ih => intro x hx; show g (iter g n (φ x)) = φ (f (iter f n x)); rw [ih x hx, h _ (iter_lt m hx n)]
  have sur : ∀ y, y < N → ∃ x, x < N ∧ φ x = y := fun y hy => by
    obtain ⟨n, h0, _, hn⟩ := comes_round hφ hy
    refine ⟨iter φ (n - 1) y, iter_lt hφ hy _, ?_⟩
    have e : n = (n - 1) + 1 := by omega
    rw [e] at hn
    exact hn
  have lt : ∀ r ∈ R, r < N := fun r h => List.mem_range.mp (q.of r h)
  have a : Reps g (List.range N) (R.map φ) := by
    refine ⟨?_, ?_, ?_, ?_⟩
    · refine List.Pairwise.map (R := fun x y => x ∈ R ∧ y ∈ R ∧ x ≠ y) _ ?_ ?_
      · rintro x y ⟨hx, hy, hne⟩ z
        exact hne (hφ.inj _ _ (lt x hx) (lt y hy) z)
      · have := q.nd
        rw [List.nodup_iff_pairwise_ne] at this
        exact List.Pairwise.imp_of_mem (fun hx hy h => ⟨hx, hy, h⟩) this
    · intro r hr
      obtain ⟨x, hx, rfl⟩ := List.mem_map.mp hr
      exact List.mem_range.mpr (hφ.lt _ (lt x hx))
    · intro y hy
      obtain ⟨x, hx, rfl⟩ := sur y (List.mem_range.mp hy)
      obtain ⟨r, r1, r2⟩ := q.all x (List.mem_range.mpr hx)
      obtain ⟨n, rfl⟩ := (mem_land m (lt r r1)).mp r2
      exact ⟨φ r, List.mem_map.mpr ⟨r, r1, rfl⟩, (mem_land k (hφ.lt _ (lt r r1))).mpr ⟨n, it n r (lt r r1)⟩⟩
    · intro r hr r' hr' z
      obtain ⟨x, hx, rfl⟩ := List.mem_map.mp hr
      obtain ⟨y, hy, rfl⟩ := List.mem_map.mp hr'
      obtain ⟨n, hn⟩ := (mem_land k (hφ.lt _ (lt x hx))).mp z
      rw [it n x (lt x hx)] at hn
      have e := hφ.inj _ _ (iter_lt m (lt x hx) n) (lt y hy) hn
      rw [q.sep x hx y hy ((mem_land m (lt x hx)).mpr ⟨n, e⟩)]
  rw [count_lands k a, List.length_map, l]
end MM

namespace MM
theorem land_in {f : Nat → Nat} {N : Nat} (m : Maps f N) {S : Nat → Prop} (h : ∀ x, x < N → S x → S (f x)) {x : Nat} (hx : x < N) (sx : S x) : ∀ y ∈ landOf f x, S y := by
  intro y hy
  obtain ⟨n, rfl⟩ := (mem_land m hx).mp hy
  clear hy
  induction n with
  | zero => exact sx
  | succ n ih => exact h _ (iter_lt m hx n) ih
theorem iter_alike {f g : Nat → Nat} {x : Nat} : ∀ n, (∀ i, i < n → g (iter f i x) = f (iter f i x)) → iter g n x = iter f n x
  | 0, _ => rfl
  | n + 1, h => by show g (iter g n x) = f (iter f n x); rw [iter_alike n (fun i hi => h i (by omega)), h n (by omega)]
theorem round_once {f : Nat → Nat} {N : Nat} (m : Maps f N) {e k : Nat} (he : e < N) (r : Round f e k) {i j : Nat} (hi : i < k) (hj : j < k) (h : iter f i e = iter f j e) : i = j := by
  rcases Nat.lt_trichotomy i j with q | q | q
  · have e1 : iter f i e = iter f i (iter f (j - i) e) := by rw [← iter_add, Nat.sub_add_cancel (Nat.le_of_lt q)]; exact h
    exact absurd (iter_inj m he (iter_lt m he _) i e1).symm (r.2.2 (j - i) (by omega) (by omega))
  · exact q
  · have e1 : iter f j e = iter f j (iter f (i - j) e) := by rw [← iter_add, Nat.sub_add_cancel (Nat.le_of_lt q)]; exact h.symm
    exact absurd (iter_inj m he (iter_lt m he _) j e1).symm (r.2.2 (i - j) (by omega) (by omega))
theorem reps_less {f : Nat → Nat} {N : Nat} (m : Maps f N) {R : List Nat} (q : Reps f (List.range N) R) {u : Nat} (hu : u < N) : ∃ S : List Nat, S.length + 1 = R.length ∧ S.Nodup ∧ (∀ s ∈ S, s < N ∧ s ∉ landOf f u) ∧ (∀ x, x < N → x ∉ landOf f u → ∃ s ∈ S, x ∈ landOf f s) ∧ (∀ r ∈ S, ∀ r' ∈ S, r' ∈ landOf f r → r = r') := by
  obtain ⟨r0, h1, h2⟩ := q.all u (List.mem_range.mpr hu)
  have lt : ∀ r ∈ R, r < N := fun r h => List.mem_range.mp (q.of r h)
  have h0 : 0 < R.length := List.length_pos_of_mem h1
  refine ⟨R.erase r0, ?_, q.nd.erase _, ?_, ?_, ?_⟩
  · rw [List.length_erase_of_mem h1]; omega
  · intro s hs
    have := (q.nd.mem_erase_iff).mp hs
    refine ⟨lt s this.2, fun z => this.1 ?_⟩
    exact (q.sep r0 h1 s this.2 (land_trans m (lt r0 h1) h2 z)).symm
  · intro x hx z
    obtain ⟨s, s1, s2⟩ := q.all x (List.mem_range.mpr hx)
    refine ⟨s, (q.nd.mem_erase_iff).mpr ⟨fun e => z ?_, s1⟩, s2⟩
    rw [e] at s2
    exact land_trans m hu (land_symm m (lt r0 h1) h2) s2
  · intro r hr r' hr' z
    exact q.sep r (List.mem_of_mem_erase hr) r' (List.mem_of_mem_erase hr') z
theorem land_stays {f g : Nat → Nat} {N M : Nat} (m : Maps f N) (k : Maps g M) (hNM : N ≤ M) {u : Nat} (hu : u < N) (same : ∀ x, x < N → x ∉ landOf f u → g x = f x) {s : Nat} (hs : s < N) (hsu : s ∉ landOf f u) (y : Nat) : y ∈ landOf g s ↔ y ∈ landOf f s := by
  have off : ∀ i, iter f i s ∉ landOf f u := fun i z => hsu (land_trans m hu z (land_symm m hs ((mem_land m hs).mpr ⟨i, rfl⟩)))
  have it : ∀ n, iter g n s = iter f n s := fun n => iter_alike n fun i _ => same _ (iter_lt m hs i) (off i)
  rw [mem_land k (by omega), mem_land m hs]
  exact ⟨fun ⟨n, h⟩ => ⟨n, by rw [← it]; exact h⟩, fun ⟨n, h⟩ => ⟨n, by rw [it]; exact h⟩⟩
structure Put (f g : Nat → Nat) (N u j : Nat) : Prop where
  j0 : 0 < j
  jk : j ≤ per f u
  same : ∀ x, x < N → x ≠ u → x ≠ iter f j u → g x = f x
  v : g (iter f j u) = N + 1
  n1 : g (N + 1) = f u
  n0 : j < per f u → g N = f (iter f j u) ∧ g u = N
  n0' : j = per f u → g N = N
theorem put_tie {f g : Nat → Nat} {N u j : Nat} (m : Maps f N) (k : Maps g (N + 2)) (hu : u < N) (p : Put f g N u j) : (landsOf g (N + 2)).length = (landsOf f N).length + 1 := by
  obtain ⟨R, q, ql⟩ := reps_ex m
  obtain ⟨S, l, nd, out, all, sep⟩ := reps_less m q hu
  obtain ⟨r, hk⟩ := per_round m hu
  generalize hP : per f u = P at r hk p
  have j0 := p.j0
  have jk : j ≤ P := by have := p.jk; omega
  have off : ∀ x, x < N → x ∉ landOf f u → x ≠ u ∧ x ≠ iter f j u := fun x hx z => ⟨fun e => z (by rw [e]; exact self_land m hu), fun e => z (by rw [e]; exact (mem_land m hu).mpr ⟨j, rfl⟩)⟩
  have same : ∀ x, x < N → x ∉ landOf f u → g x = f x := fun x hx z => p.same x hx (off x hx z).1 (off x hx z).2
  have inO : ∀ x, x ∈ landOf f u → ∃ i, 0 < i ∧ i ≤ P ∧ iter f i u = x := fun x hx => by
    unfold landOf at hx
    rw [hP] at hx
    obtain ⟨i, h1, h2⟩ := mem_path.mp hx
    rcases Nat.eq_zero_or_pos i with z | z
    · subst z
      exact ⟨P, r.1, Nat.le_refl _, r.2.1.trans h2⟩
    · exact ⟨i, z, by omega, h2⟩
  -- one side: from N + 1
  have A : ∀ i, 0 < i → i ≤ j → iter g i (N + 1) = iter f i u := by
    intro i h0
    induction i with
    | zero => omega
    | succ i ih =>
      intro h1
      rcases Nat.eq_zero_or_pos i with z | z
      · subst z; exact p.n1
      · show g (iter g i (N + 1)) = f (iter f i u)
        rw [ih z (by omega)]
        refine p.same _ (iter_lt m hu i) (fun e => ?_) (fun e => ?_)
        · exact r.2.2 i z (by omega) e
        · rcases Nat.lt_or_ge j P with c | c
          · have := round_once m hu r (by omega) c e; omega
          · have : j = P := by omega
            rw [this, r.2.1] at e
            exact r.2.2 i z (by omega) e
  have B : j < P → ∀ i, 0 < i → i ≤ P - j → iter g i N = iter f (j + i) u := by
    intro hj i h0
    induction i with
    | zero => omega
    | succ i ih =>
      intro h1
      rcases Nat.eq_zero_or_pos i with z | z
      · subst z; exact (p.n0 (by omega)).1
      · show g (iter g i N) = f (iter f (j + i) u)
        rw [ih z (by omega)]
        refine p.same _ (iter_lt m hu _) (fun e => ?_) (fun e => ?_)
        · exact r.2.2 (j + i) (by omega) (by omega) e
        · have := round_once m hu r (by omega) hj e; omega
  have a : Reps g (List.range (N + 2)) (S ++ [N, N + 1]) := by
    -- closed
    have cA : ∀ y ∈ landOf g (N + 1), y = N + 1 ∨ ∃ i, 0 < i ∧ i ≤ j ∧ iter f i u = y := land_in k (S := fun y => y = N + 1 ∨ ∃ i, 0 < i ∧ i ≤ j ∧ iter f i u = y) (fun x hx h => by
      rcases h with rfl | ⟨i, h0, h1, rfl⟩
      · exact .inr ⟨1, by omega, j0, p.n1.symm⟩
      · rcases Nat.lt_or_ge i j with c | c
        · refine .inr ⟨i + 1, by omega, c, ?_⟩
          have e1 := A i h0 h1
          have e2 := A (i + 1) (by omega) c
          rw [← e2, ← e1]; rfl
        · have e : i = j := by omega
          rw [e]; exact .inl p.v) (by omega) (.inl rfl)
    have cB : ∀ y ∈ landOf g N, y = N ∨ ∃ i, j < i ∧ i ≤ P ∧ iter f i u = y := land_in k (S := fun y => y = N ∨ ∃ i, j < i ∧ i ≤ P ∧ iter f i u = y) (fun x hx h => by
      rcases Nat.lt_or_ge j P with c | c
      · rcases h with rfl | ⟨i, h0, h1, rfl⟩
        · exact .inr ⟨j + 1, by omega, c, (p.n0 (by omega)).1.symm⟩
        · rcases Nat.lt_or_ge i P with d | d
          · refine .inr ⟨i + 1, by omega, d, ?_⟩
            have e1 := B c (i - j) (by omega) (by omega)
            have e2 := B c (i - j + 1) (by omega) (by omega)
            rw [show j + (i - j) = i by omega] at e1
            rw [show j + (i - j + 1) = i + 1 by omega] at e2
            rw [← e2, ← e1]; rfl
          · have e : i = P := by omega
            rw [e, r.2.1]; exact .inl (p.n0 (by omega)).2
      · rcases h with rfl | ⟨i, h0, h1, rfl⟩
        · exact .inl (p.n0' (by omega))
        · omega) (by omega) (.inl rfl)
    refine ⟨?_, ?_, ?_, ?_⟩
    · rw [List.nodup_append]
      refine ⟨nd, by simp, fun x hx y hy e => ?_⟩
      have := (out x hx).1
      simp only [List.mem_cons, List.not_mem_nil, or_false] at hy
      omega
    · intro x hx
      rw [List.mem_range]
      rcases List.mem_append.mp hx with h | h
      · have := (out x h).1; omega
      · simp only [List.mem_cons, List.not_mem_nil, or_false] at h; omega
    · intro x hx
      have hx := List.mem_range.mp hx
      rcases Nat.lt_or_ge x N with c | c
      · by_cases z : x ∈ landOf f u
        · obtain ⟨i, h0, h1, rfl⟩ := inO x z
          rcases Nat.lt_or_ge j i with d | d
          · refine ⟨N, by simp, (mem_land k (by omega)).mpr ⟨i - j, ?_⟩⟩
            rw [B (by omega) (i - j) (by omega) (by omega), show j + (i - j) = i by omega]
          · exact ⟨N + 1, by simp, (mem_land k (by omega)).mpr ⟨i, A i h0 d⟩⟩
        · obtain ⟨s, s1, s2⟩ := all x c z
          exact ⟨s, List.mem_append_left _ s1, (land_stays m k (by omega) hu same (out s s1).1 (out s s1).2 x).mpr s2⟩
      · rcases Nat.lt_or_ge N x with d | d
        · have e : x = N + 1 := by omega
          subst e
          exact ⟨N + 1, by simp, self_land k (by omega)⟩
        · have e : x = N := by omega
          subst e
          exact ⟨x, by simp, self_land k (by omega)⟩
    · intro x hx y hy z
      have hin : ∀ i, iter f i u ∈ landOf f u := fun i => (mem_land m hu).mpr ⟨i, rfl⟩
      have hlt : ∀ i, iter f i u < N := fun i => iter_lt m hu i
      rcases List.mem_append.mp hx with h1 | h1 <;> rcases List.mem_append.mp hy with h2 | h2
      · exact sep x h1 y h2 ((land_stays m k (by omega) hu same (out x h1).1 (out x h1).2 y).mp z)
      · have := land_lt m (out x h1).1 y ((land_stays m k (by omega) hu same (out x h1).1 (out x h1).2 y).mp z)
        simp only [List.mem_cons, List.not_mem_nil, or_false] at h2
        omega
      · have hy1 := (out y h2).1
        simp only [List.mem_cons, List.not_mem_nil, or_false] at h1
        rcases h1 with rfl | rfl
        · rcases cB y z with e | ⟨i, _, _, e⟩
          · omega
          · exact absurd (e ▸ hin i) (out y h2).2
        · rcases cA y z with e | ⟨i, _, _, e⟩
          · omega
          · exact absurd (e ▸ hin i) (out y h2).2
      · simp only [List.mem_cons, List.not_mem_nil, or_false] at h1 h2
        rcases h1 with rfl | rfl <;> rcases h2 with rfl | rfl
        · rfl
        · rcases cB _ z with e | ⟨i, _, _, e⟩
          · omega
          · have := hlt i; omega
        · rcases cA _ z with e | ⟨i, _, _, e⟩
          · omega
          · have := hlt i; omega
        · rfl
  rw [count_lands k a, List.length_append, ← ql]
  show S.length + 2 = _
  omega
structure Hang (f g : Nat → Nat) (N u : Nat) : Prop where
  same : ∀ x, x < N → x ≠ u → g x = f x
  at_ : g u = N
  n : g N = N + 1
  n1 : g (N + 1) = f u
theorem put_place {f g : Nat → Nat} {N u : Nat} (m : Maps f N) (k : Maps g (N + 2)) (hu : u < N) (p : Hang f g N u) : (landsOf g (N + 2)).length = (landsOf f N).length := by
  obtain ⟨R, q, ql⟩ := reps_ex m
  obtain ⟨S, l, nd, out, all, sep⟩ := reps_less m q hu
  obtain ⟨r, hk⟩ := per_round m hu
  generalize hP : per f u = P at r hk
  have off : ∀ x, x < N → x ∉ landOf f u → x ≠ u := fun x hx z e => z (by rw [e]; exact self_land m hu)
  have same : ∀ x, x < N → x ∉ landOf f u → g x = f x := fun x hx z => p.same x hx (off x hx z)
  have inO : ∀ x, x ∈ landOf f u → ∃ i, 0 < i ∧ i ≤ P ∧ iter f i u = x := fun x hx => by
    unfold landOf at hx
    rw [hP] at hx
    obtain ⟨i, h1, h2⟩ := mem_path.mp hx
    rcases Nat.eq_zero_or_pos i with z | z
    · subst z
      exact ⟨P, r.1, Nat.le_refl _, r.2.1.trans h2⟩
    · exact ⟨i, z, by omega, h2⟩
  have A : ∀ i, 0 < i → i ≤ P → iter g (i + 1) N = iter f i u := by
    intro i h0
    induction i with
    | zero => omega
    | succ i ih =>
      intro h1
      rcases Nat.eq_zero_or_pos i with z | z
      · subst z
        show g (g N) = f u
        rw [p.n, p.n1]
      · show g (iter g (i + 1) N) = f (iter f i u)
        rw [ih z (by omega)]
        exact p.same _ (iter_lt m hu i) (fun e => r.2.2 i z (by omega) e)
  have a : Reps g (List.range (N + 2)) (S ++ [N]) := by
    have cA : ∀ y ∈ landOf g N, y = N ∨ y = N + 1 ∨ ∃ i, 0 < i ∧ i ≤ P ∧ iter f i u = y := land_in k (S := fun y => y = N ∨ y = N + 1 ∨ ∃ i, 0 < i ∧ i ≤ P ∧ iter f i u = y) (fun x hx h => by
      rcases h with rfl | rfl | ⟨i, h0, h1, rfl⟩
      · exact .inr (.inl p.n)
      · exact .inr (.inr ⟨1, by omega, r.1, p.n1.symm⟩)
      · rcases Nat.lt_or_ge i P with c | c
        · refine .inr (.inr ⟨i + 1, by omega, c, ?_⟩)
          have e1 := A i h0 h1
          have e2 := A (i + 1) (by omega) c
          rw [← e2, ← e1]; rfl
        · have e : i = P := by omega
          rw [e, r.2.1]; exact .inl p.at_) (by omega) (.inl rfl)
    refine ⟨?_, ?_, ?_, ?_⟩
    · rw [List.nodup_append]
      refine ⟨nd, by simp, fun x hx y hy e => ?_⟩
      have := (out x hx).1
      simp only [List.mem_cons, List.not_mem_nil, or_false] at hy
      omega
    · intro x hx
      rw [List.mem_range]
      rcases List.mem_append.mp hx with h | h
      · have := (out x h).1; omega
      · simp only [List.mem_cons, List.not_mem_nil, or_false] at h; omega
    · intro x hx
      have hx := List.mem_range.mp hx
      rcases Nat.lt_or_ge x N with c | c
      · by_cases z : x ∈ landOf f u
        · obtain ⟨i, h0, h1, rfl⟩ := inO x z
          exact ⟨N, by simp, (mem_land k (by omega)).mpr ⟨i + 1, A i h0 h1⟩⟩
        · obtain ⟨s, s1, s2⟩ := all x c z
          exact ⟨s, List.mem_append_left _ s1, (land_stays m k (by omega) hu same (out s s1).1 (out s s1).2 x).mpr s2⟩
      · rcases Nat.lt_or_ge N x with d | d
        · have e : x = N + 1 := by omega
          subst e
          exact ⟨N, by simp, (mem_land k (by omega)).mpr ⟨1, p.n⟩⟩
        · have e : x = N := by omega
          subst e
          exact ⟨x, by simp, self_land k (by omega)⟩
    · intro x hx y hy z
      have hin : ∀ i, iter f i u ∈ landOf f u := fun i => (mem_land m hu).mpr ⟨i, rfl⟩
      rcases List.mem_append.mp hx with h1 | h1 <;> rcases List.mem_append.mp hy with h2 | h2
      · exact sep x h1 y h2 ((land_stays m k (by omega) hu same (out x h1).1 (out x h1).2 y).mp z)
      · have := land_lt m (out x h1).1 y ((land_stays m k (by omega) hu same (out x h1).1 (out x h1).2 y).mp z)
        simp only [List.mem_cons, List.not_mem_nil, or_false] at h2
        omega
      · have hy1 := (out y h2).1
        simp only [List.mem_cons, List.not_mem_nil, or_false] at h1
        subst h1
        rcases cA y z with e | e | ⟨i, _, _, e⟩
        · omega
        · omega
        · exact absurd (e ▸ hin i) (out y h2).2
      · simp only [List.mem_cons, List.not_mem_nil, or_false] at h1 h2
        omega
  rw [count_lands k a, List.length_append, ← ql]
  show S.length + 1 = _
  omega
end MM

namespace MM
def Cn (f : Nat → Nat) (N : Nat) : Prop := ∀ S : Nat → Prop, (∀ x, x < N → S x → S (f x)) → (∀ x, x < N → S x → S (oth x)) → ∀ x y, x < N → y < N → S x → S y
def Conn (ts : Ties) (os : Ords) : Prop := Cn (behind ts os) (2 * ts.length)
theorem othE (n : Nat) : oth (2 * n) = 2 * n + 1 := by unfold oth; rw [if_pos (by omega)]
theorem othO (n : Nat) : oth (2 * n + 1) = 2 * n := by unfold oth; rw [if_neg (by omega)]; omega
theorem cn_more {f g : Nat → Nat} {T : Nat} (c : Cn f (2 * T)) (h : ∀ S : Nat → Prop, (∀ x, x < 2 * T + 2 → S x → S (g x)) → (∀ x, x < 2 * T + 2 → S x → S (oth x)) → (∀ x, x < 2 * T → S x → S (f x)) ∧ (S (2 * T + 1) → ∃ z, z < 2 * T ∧ S z) ∧ ((∀ y, y < 2 * T → S y) → S (2 * T + 1))) : Cn g (2 * T + 2) := by
  intro S h1 h2 x y hx hy sx
  obtain ⟨a, b, d⟩ := h S h1 h2
  have up : S (2 * T) → S (2 * T + 1) := fun s => by have := h2 _ (by omega) s; rwa [othE] at this
  have dn : S (2 * T + 1) → S (2 * T) := fun s => by have := h2 _ (by omega) s; rwa [othO] at this
  have old : ∃ z, z < 2 * T ∧ S z := by
    rcases Nat.lt_or_ge x (2 * T) with h | h
    · exact ⟨x, h, sx⟩
    · have : x = 2 * T ∨ x = 2 * T + 1 := by omega
      rcases this with rfl | rfl
      · exact b (up sx)
      · exact b sx
  obtain ⟨z, hz, sz⟩ := old
  have all : ∀ y, y < 2 * T → S y := fun y hy => c S a (fun x hx s => h2 x (by omega) s) z y hz hy sz
  have s1 := d all
  rcases Nat.lt_or_ge y (2 * T) with h | h
  · exact all y h
  · have : y = 2 * T ∨ y = 2 * T + 1 := by omega
    rcases this with rfl | rfl
    · exact dn s1
    · exact s1
theorem hang_both {f g : Nat → Nat} {T u : Nat} (m : Maps f (2 * T)) (k : Maps g (2 * T + 2)) (hu : u < 2 * T) (p : Hang f g (2 * T) u) : (landsOf g (2 * T + 2)).length = (landsOf f (2 * T)).length ∧ (Cn f (2 * T) → Cn g (2 * T + 2)) := by
  refine ⟨put_place m k hu p, fun c => cn_more c fun S h1 h2 => ?_⟩
  have up : S (2 * T) → S (2 * T + 1) := fun s => by have := h2 _ (by omega) s; rwa [othE] at this
  have s1 : S (2 * T + 1) → S (f u) := fun s => by have := h1 _ (by omega) s; rwa [p.n1] at this
  have su : S u → S (2 * T) := fun s => by have := h1 u (by omega) s; rwa [p.at_] at this
  refine ⟨fun x hx s => ?_, fun s => ⟨f u, m.lt u hu, s1 s⟩, fun all => up (su (all u hu))⟩
  by_cases q : x = u
  · subst q; exact s1 (up (su s))
  · rw [← p.same x hx q]; exact h1 x (by omega) s
theorem put_both {f g : Nat → Nat} {T u j : Nat} (m : Maps f (2 * T)) (k : Maps g (2 * T + 2)) (hu : u < 2 * T) (p : Put f g (2 * T) u j) : (landsOf g (2 * T + 2)).length = (landsOf f (2 * T)).length + 1 ∧ (Cn f (2 * T) → Cn g (2 * T + 2)) := by
  refine ⟨put_tie m k hu p, fun c => cn_more c fun S h1 h2 => ?_⟩
  have hv : iter f j u < 2 * T := iter_lt m hu j
  have up : S (2 * T) → S (2 * T + 1) := fun s => by have := h2 _ (by omega) s; rwa [othE] at this
  have dn : S (2 * T + 1) → S (2 * T) := fun s => by have := h2 _ (by omega) s; rwa [othO] at this
  have s1 : S (2 * T + 1) → S (f u) := fun s => by have := h1 _ (by omega) s; rwa [p.n1] at this
  have sv : S (iter f j u) → S (2 * T + 1) := fun s => by have := h1 _ (by omega) s; rwa [p.v] at this
  have jk := p.jk
  refine ⟨fun x hx s => ?_, fun s => ⟨f u, m.lt u hu, s1 s⟩, fun all => sv (all _ hv)⟩
  by_cases q2 : x = iter f j u
  · rcases Nat.lt_or_ge j (per f u) with z | z
    · have := h1 _ (by omega) (dn (sv (q2 ▸ s)))
      rw [(p.n0 z).1] at this
      rw [q2]; exact this
    · have e : j = per f u := by omega
      have e2 : iter f j u = u := by rw [e]; exact (per_round m hu).1.2.1
      rw [q2, e2]
      exact s1 (sv (q2 ▸ s))
  · by_cases q : x = u
    · subst q
      rcases Nat.lt_or_ge j (per f x) with z | z
      · have := h1 x (by omega) s
        rw [(p.n0 z).2] at this
        exact s1 (up this)
      · have e : j = per f x := by omega
        exact absurd (by rw [e]; exact (per_round m hu).1.2.1.symm) q2
    · rw [← p.same x hx q q2]; exact h1 x (by omega) s
theorem ren_both {f g : Nat → Nat} {N : Nat} (m : Maps f N) (k : Maps g N) {φ : Nat → Nat} (hφ : Maps φ N) (ho : ∀ x, oth (φ x) = φ (oth x)) (h : ∀ x, x < N → g (φ x) = φ (f x)) : (landsOf g N).length = (landsOf f N).length ∧ (Cn f N → Cn g N) := by
  refine ⟨lands_renamed m k hφ h, fun c S h1 h2 x y hx hy sx => ?_⟩
  have sj : ∀ {y : Nat}, y < N → ∃ x, x < N ∧ φ x = y := fun {y} hy => by
    obtain ⟨k, h0, _, h⟩ := comes_round hφ hy
    refine ⟨iter φ (k - 1) y, iter_lt hφ hy _, ?_⟩
    have e : k = (k - 1) + 1 := by omega
    have : iter φ (k - 1 + 1) y = y := by rw [← e]; exact h
    exact this
  obtain ⟨x', hx', rfl⟩ := sj hx
  obtain ⟨y', hy', rfl⟩ := sj hy
  exact c (fun z => S (φ z)) (fun z hz s => by rw [← h z hz]; exact h1 _ (hφ.lt z hz) s) (fun z hz s => by rw [← ho z]; exact h2 _ (hφ.lt z hz) s) x' y' hx' hy' sx
end MM

namespace MM
theorem prevIn_ix {l : List Nat} (nd : l.Nodup) {k y : Nat} (h : l[k]? = some y) : prevIn l y = l.getD (if k = 0 then l.length - 1 else k - 1) 0 := by
  obtain ⟨hk, e⟩ := List.getElem?_eq_some_iff.mp h
  have hm : y ∈ l := List.mem_of_getElem? h
  have h1 := List.idxOf_lt_length_of_mem hm
  have e2 : l[l.idxOf y] = l[k] := (List.getElem_idxOf h1).trans e.symm
  have e3 : l.idxOf y = k := (List.getElem_inj nd).mp e2
  unfold prevIn
  rw [e3]
  congr 1
  split
  · rename_i z; subst z; rw [Nat.zero_add]; exact Nat.mod_eq_of_lt (by omega)
  · have : k + l.length - 1 = (k - 1) + l.length := by omega
    rw [this, Nat.add_mod_right]; exact Nat.mod_eq_of_lt (by omega)
theorem ins_get {l : List Nat} {i M : Nat} (hi : i ≤ l.length) (k : Nat) : (L2.insAt l i M)[k]? = if k < i then l[k]? else if k = i then some M else l[k - 1]? := by
  unfold L2.insAt
  have hl : (l.take i).length = i := by rw [List.length_take]; omega
  split
  · rename_i h
    rw [List.getElem?_append_left (by omega), List.getElem?_take_of_lt h]
  · rename_i h
    rw [List.getElem?_append_right (by omega), hl]
    split
    · rename_i z; subst z; simp
    · rename_i z
      rw [show k - i = (k - i - 1) + 1 by omega, List.getElem?_cons_succ, List.getElem?_drop]
      congr 1
      omega
theorem prev_ins {l : List Nat} (nd : l.Nodup) {x M : Nat} (hx : x ∈ l) (hM : M ∉ l) :
    prevIn (L2.insAt l (l.idxOf x) M) M = prevIn l x ∧ ∀ y ∈ l, prevIn (L2.insAt l (l.idxOf x) M) y = if y = x then M else prevIn l y := by
  have h1 := List.idxOf_lt_length_of_mem hx
  have gx : l[l.idxOf x]? = some x := by rw [List.getElem?_eq_getElem h1, List.getElem_idxOf h1]
  generalize l.idxOf x = i at h1 gx
  have nd' := insAt_nodup nd (i := i) hM
  have len := insAt_len l i M
  have G := ins_get (l := l) (i := i) (M := M) (by omega)
  constructor
  · rw [prevIn_ix nd' (k := i) (y := M) (by rw [G, if_neg (by omega), if_pos rfl]), prevIn_ix nd gx, len]
    rw [List.getD_eq_getElem?_getD, List.getD_eq_getElem?_getD, G]
    by_cases z : i = 0
    · rw [if_pos z, if_pos z, if_neg (by omega), if_neg (by omega)]; rfl
    · rw [if_neg z, if_neg z, if_pos (by omega)]
  · intro y hy
    obtain ⟨k, hk, ek⟩ := List.mem_iff_getElem.mp hy
    have gy : l[k]? = some y := by rw [List.getElem?_eq_getElem hk, ek]
    by_cases hyx : y = x
    · rw [if_pos hyx, hyx, prevIn_ix nd' (k := i + 1) (y := x) (by rw [G, if_neg (by omega), if_neg (by omega)]; exact gx), if_neg (by omega), List.getD_eq_getElem?_getD, G, if_neg (by omega), if_pos (by omega)]
      rfl
    · have hki : k ≠ i := fun z => by subst z; rw [gx] at gy; cases gy; exact hyx rfl
      rw [if_neg hyx, prevIn_ix nd gy]
      rcases Nat.lt_or_ge k i with c | c
      · rw [prevIn_ix nd' (k := k) (y := y) (by rw [G, if_pos c]; exact gy), len, List.getD_eq_getElem?_getD, List.getD_eq_getElem?_getD, G]
        by_cases z : k = 0
        · rw [if_pos z, if_pos z, if_neg (by omega), if_neg (by omega)]; rfl
        · rw [if_neg z, if_neg z, if_pos (by omega)]
      · rw [prevIn_ix nd' (k := k + 1) (y := y) (by rw [G, if_neg (by omega), if_neg (by omega)]; exact gy), if_neg (by omega), if_neg (by omega), List.getD_eq_getElem?_getD, List.getD_eq_getElem?_getD, G, if_neg (by omega), if_neg (by omega)]
        rfl
theorem row_set_self {os : Ords} {a : Nat} (ha : a < os.length) (l : List Nat) : row (os.set a l) a = l := by
  unfold row; rw [List.getD_eq_getElem?_getD, List.getElem?_set_self ha]; rfl
theorem row_set_other {os : Ords} {a p : Nat} (h : a ≠ p) (l : List Nat) : row (os.set a l) p = row os p := by
  unfold row; rw [List.getD_eq_getElem?_getD, List.getElem?_set_ne h, ← List.getD_eq_getElem?_getD]
theorem prev_put {os : Ords} {a x M : Nat} (ha : a < os.length) (nd : (row os a).Nodup) (hx : x ∈ row os a) (hM : M ∉ row os a) (only : ∀ p, x ∈ row os p → p = a) :
    prevIn (row (os.set a (L2.insAt (row os a) ((row os a).idxOf x) M)) a) M = prevIn (row os a) x ∧
    ∀ p y, y ∈ row os p → prevIn (row (os.set a (L2.insAt (row os a) ((row os a).idxOf x) M)) p) y = if y = x then M else prevIn (row os p) y := by
  obtain ⟨h1, h2⟩ := prev_ins nd hx hM
  refine ⟨by rw [row_set_self ha]; exact h1, fun p y hy => ?_⟩
  by_cases e : a = p
  · subst e
    rw [row_set_self ha]
    exact h2 y hy
  · rw [row_set_other e, if_neg]
    rintro rfl
    exact e (only p hy).symm
theorem mem_put {os : Ords} {a M i p y : Nat} (ha : a < os.length) : y ∈ row (os.set a (L2.insAt (row os a) i M)) p ↔ (y = M ∧ p = a) ∨ y ∈ row os p := by
  by_cases e : a = p
  · subst e
    rw [row_set_self ha, insAt_mem]
    simp
  · rw [row_set_other e]
    constructor
    · exact .inr
    · rintro (⟨_, h⟩ | h)
      · exact absurd h.symm e
      · exact h
theorem oth_even (n : Nat) : oth (2 * n) = 2 * n + 1 := by unfold oth; rw [if_pos (by omega)]
theorem oth_odd (n : Nat) : oth (2 * n + 1) = 2 * n := by unfold oth; rw [if_neg (by omega)]; omega
noncomputable def nLands (ts : Ties) (os : Ords) : Nat := (landsOf (behind ts os) (2 * ts.length)).length
theorem lands_newPlace {ts : Ties} {os : Ords} (g : Good ts os) {u : Nat} (hu : u < 2 * ts.length) (h3 : (row os (place ts (oth u))).length < 4) :
    nLands (ts ++ [(place ts (oth u), os.length)]) ((os.set (place ts (oth u)) (L2.insAt (row os (place ts (oth u))) ((row os (place ts (oth u))).idxOf (oth u)) (2 * ts.length))) ++ [[2 * ts.length + 1]]) = nLands ts os ∧ (Conn ts os → Conn (ts ++ [(place ts (oth u), os.length)]) ((os.set (place ts (oth u)) (L2.insAt (row os (place ts (oth u))) ((row os (place ts (oth u))).idxOf (oth u)) (2 * ts.length))) ++ [[2 * ts.length + 1]])) := by
  have ho := oth_lt hu
  obtain ⟨ha, hin⟩ := g.g.has (oth u) ho
  have good := g.newPlace (i := (row os (place ts (oth u))).idxOf (oth u)) ha h3
  have m' := good.maps
  unfold nLands Conn
  rw [show 2 * (ts ++ [(place ts (oth u), os.length)]).length = 2 * ts.length + 2 by rw [List.length_append]; rfl] at m' ⊢
  generalize hA : place ts (oth u) = a at ha hin good m' ⊢
  have nm : 2 * ts.length ∉ row os a := fun z => by have := (g.g.ends a _ z).1; omega
  obtain ⟨p1, p2⟩ := prev_put (M := 2 * ts.length) ha (g.g.nd a) hin nm (fun p hp => by rw [← (g.g.ends p _ hp).2, hA])
  have rowOld : ∀ p, p < os.length → row ((os.set a (L2.insAt (row os a) ((row os a).idxOf (oth u)) (2 * ts.length))) ++ [[2 * ts.length + 1]]) p = row (os.set a (L2.insAt (row os a) ((row os a).idxOf (oth u)) (2 * ts.length))) p := fun p hp => by
    unfold row; rw [List.getD_eq_getElem?_getD, List.getElem?_append_left (by rw [List.length_set]; exact hp), ← List.getD_eq_getElem?_getD]
  have rowNew : row ((os.set a (L2.insAt (row os a) ((row os a).idxOf (oth u)) (2 * ts.length))) ++ [[2 * ts.length + 1]]) os.length = [2 * ts.length + 1] := by
    unfold row; rw [List.getD_eq_getElem?_getD, List.getElem?_append_right (by rw [List.length_set]; exact Nat.le_refl _), List.length_set, Nat.sub_self]; rfl
  have old : ∀ e, e < 2 * ts.length → behind (ts ++ [(a, os.length)]) ((os.set a (L2.insAt (row os a) ((row os a).idxOf (oth u)) (2 * ts.length))) ++ [[2 * ts.length + 1]]) e = if e = u then 2 * ts.length else behind ts os e := fun e he => by
    have q := g.g.has (oth e) (oth_lt he)
    unfold behind
    rw [place_old (oth_lt he), rowOld _ q.1, p2 _ _ q.2]
    by_cases z : e = u
    · rw [if_pos z, z, if_pos rfl]
    · rw [if_neg z, if_neg (fun h => z (oth_inj h))]
  refine hang_both g.maps m' hu ⟨fun x hx hne => by rw [old x hx, if_neg hne], by rw [old u hu, if_pos rfl], ?_, ?_⟩
  · unfold behind
    rw [oth_even, place_second, rowNew]
    unfold prevIn
    simp
  · unfold behind
    rw [oth_odd, place_first, rowOld _ ha, p1]
    show prevIn _ _ = prevIn (row os (place ts (oth u))) (oth u)
    rw [hA]
theorem lands_newTie {ts : Ties} {os : Ords} (g : Good ts os) {u v : Nat} (hu : u < 2 * ts.length) (hv : v ∈ landOf (behind ts os) u) {a b : Nat} (ea : place ts (oth u) = a) (eb : place ts (oth v) = b) (h1 : (row os a).length < 4)
    (h2 : (row (os.set a (L2.insAt (row os a) ((row os a).idxOf (oth u)) (2 * ts.length))) b).length < 4) :
    nLands (ts ++ [(a, b)]) ((os.set a (L2.insAt (row os a) ((row os a).idxOf (oth u)) (2 * ts.length))).set b (L2.insAt (row (os.set a (L2.insAt (row os a) ((row os a).idxOf (oth u)) (2 * ts.length))) b) ((row (os.set a (L2.insAt (row os a) ((row os a).idxOf (oth u)) (2 * ts.length))) b).idxOf (oth v)) (2 * ts.length + 1))) = nLands ts os + 1 ∧ (Conn ts os → Conn (ts ++ [(a, b)]) ((os.set a (L2.insAt (row os a) ((row os a).idxOf (oth u)) (2 * ts.length))).set b (L2.insAt (row (os.set a (L2.insAt (row os a) ((row os a).idxOf (oth u)) (2 * ts.length))) b) ((row (os.set a (L2.insAt (row os a) ((row os a).idxOf (oth u)) (2 * ts.length))) b).idxOf (oth v)) (2 * ts.length + 1)))) := by
  have m := g.maps
  have hvN := land_lt m hu v hv
  have ho := oth_lt hu
  have hov := oth_lt hvN
  obtain ⟨ha, hin⟩ := g.g.has (oth u) ho
  obtain ⟨hb, hinv⟩ := g.g.has (oth v) hov
  rw [ea] at ha hin
  rw [eb] at hb hinv
  have good := g.newTie (i := (row os a).idxOf (oth u)) (j := (row (os.set a (L2.insAt (row os a) ((row os a).idxOf (oth u)) (2 * ts.length))) b).idxOf (oth v)) ha hb h1 h2
  have m' := good.maps
  unfold nLands Conn
  rw [show 2 * (ts ++ [(a, b)]).length = 2 * ts.length + 2 by rw [List.length_append]; rfl] at m' ⊢
  have nm : 2 * ts.length ∉ row os a := fun z => by have := (g.g.ends a _ z).1; omega
  obtain ⟨p1, p2⟩ := prev_put (M := 2 * ts.length) ha (g.g.nd a) hin nm (fun p hp => by rw [← (g.g.ends p _ hp).2, ea])
  have mem1 : ∀ p y, y ∈ row (os.set a (L2.insAt (row os a) ((row os a).idxOf (oth u)) (2 * ts.length))) p ↔ (y = 2 * ts.length ∧ p = a) ∨ y ∈ row os p := fun p y => mem_put ha
  have g2 : (row (os.set a (L2.insAt (row os a) ((row os a).idxOf (oth u)) (2 * ts.length))) b).Nodup := by
    by_cases e : a = b
    · subst e; rw [row_set_self ha]; exact insAt_nodup (g.g.nd a) nm
    · rw [row_set_other e]; exact g.g.nd b
  have nm2 : 2 * ts.length + 1 ∉ row (os.set a (L2.insAt (row os a) ((row os a).idxOf (oth u)) (2 * ts.length))) b := fun z => by
    rcases (mem1 _ _).mp z with ⟨z, _⟩ | z
    · omega
    · have := (g.g.ends b _ z).1; omega
  obtain ⟨q1, q2⟩ := prev_put (os := os.set a (L2.insAt (row os a) ((row os a).idxOf (oth u)) (2 * ts.length))) (a := b) (x := oth v) (M := 2 * ts.length + 1) (by rw [List.length_set]; exact hb) g2 ((mem1 _ _).mpr (.inr hinv)) nm2 (fun p hp => by
    rcases (mem1 _ _).mp hp with ⟨z, _⟩ | z
    · omega
    · rw [← (g.g.ends p _ z).2, eb])
  generalize hO1 : os.set a (L2.insAt (row os a) ((row os a).idxOf (oth u)) (2 * ts.length)) = os1 at p1 p2 mem1 q1 q2 good m' ⊢
  generalize hO2 : os1.set b (L2.insAt (row os1 b) ((row os1 b).idxOf (oth v)) (2 * ts.length + 1)) = os2 at q1 q2 good m' ⊢
  have old : ∀ e, e < 2 * ts.length → behind (ts ++ [(a, b)]) os2 e = if e = v then 2 * ts.length + 1 else if e = u then 2 * ts.length else behind ts os e := fun e he => by
    have q := g.g.has (oth e) (oth_lt he)
    unfold behind
    rw [place_old (oth_lt he), q2 _ _ ((mem1 _ _).mpr (.inr q.2)), p2 _ _ q.2]
    by_cases z : e = v
    · rw [if_pos z, z, if_pos rfl]
    · rw [if_neg z, if_neg (fun h => z (oth_inj h))]
      by_cases z : e = u
      · rw [if_pos z, z, if_pos rfl]
      · rw [if_neg z, if_neg (fun h => z (oth_inj h))]
  have atN : behind (ts ++ [(a, b)]) os2 (2 * ts.length) = if v = u then 2 * ts.length else behind ts os v := by
    show prevIn (row os2 (place (ts ++ [(a, b)]) (oth (2 * ts.length)))) (oth (2 * ts.length)) = _
    rw [oth_even, place_second, q1, p2 _ _ hinv]
    by_cases z : v = u
    · rw [if_pos z, z, if_pos rfl]
    · rw [if_neg z, if_neg (fun h => z (oth_inj h))]
      unfold behind
      rw [eb]
  have atN1 : behind (ts ++ [(a, b)]) os2 (2 * ts.length + 1) = behind ts os u := by
    show prevIn (row os2 (place (ts ++ [(a, b)]) (oth (2 * ts.length + 1)))) (oth (2 * ts.length + 1)) = _
    rw [oth_odd, place_first, q2 _ _ ((mem1 _ _).mpr (.inl ⟨rfl, rfl⟩)), if_neg (by omega), p1]
    unfold behind
    rw [ea]
  obtain ⟨r, hk⟩ := per_round m hu
  by_cases hvu : v = u
  · have e : iter (behind ts os) (per (behind ts os) u) u = u := r.2.1
    refine put_both (j := per (behind ts os) u) m m' hu ⟨r.1, Nat.le_refl _, fun x hx z1 z2 => ?_, ?_, atN1, fun h => by omega, fun _ => by rw [atN, if_pos hvu]⟩
    · rw [e] at z2
      rw [old x hx, if_neg (by rw [hvu]; exact z1), if_neg z1]
    · rw [e, old u hu, if_pos hvu.symm]
  · unfold landOf at hv
    obtain ⟨j, hj, ej⟩ := mem_path.mp hv
    have j0 : 0 < j := Nat.pos_of_ne_zero fun z => by subst z; exact hvu ej.symm
    refine put_both (j := j) m m' hu ⟨j0, by omega, fun x hx z1 z2 => ?_, ?_, atN1, fun h => ⟨?_, ?_⟩, fun h => by omega⟩
    · rw [ej] at z2
      rw [old x hx, if_neg z2, if_neg z1]
    · rw [ej, old v hvN, if_pos rfl]
    · rw [atN, if_neg hvu, ej]
    · rw [old u hu, if_neg (Ne.symm hvu), if_pos rfl]
end MM

namespace MM
theorem surj {f : Nat → Nat} {N : Nat} (m : Maps f N) {y : Nat} (hy : y < N) : ∃ x, x < N ∧ f x = y := by
  obtain ⟨k, h0, _, h⟩ := comes_round m hy
  refine ⟨iter f (k - 1) y, iter_lt m hy _, ?_⟩
  have e : k = (k - 1) + 1 := by omega
  rw [e] at h
  exact h
theorem maps_of {l : List Nat} (nd : l.Nodup) (h : ∀ x ∈ l, x < l.length) : Maps (fun i => l.getD i 0) l.length where
  lt := fun e he => h _ (by simp only [List.getD, List.getElem?_eq_getElem he, Option.getD_some]; exact List.getElem_mem he)
  inj := fun a b ha hb q => by
    simp only [List.getD, List.getElem?_eq_getElem ha, List.getElem?_eq_getElem hb, Option.getD_some] at q
    exact (List.getElem_inj nd).mp q
def nmF (U F : Nat → Nat) (e : Nat) : Nat := 2 * U (e / 2) + (if e % 2 = 0 then F (e / 2) else 1 - F (e / 2))
theorem nmF_half (U F : Nat → Nat) (hF : ∀ k, F k ≤ 1) (e : Nat) : nmF U F e / 2 = U (e / 2) ∧ nmF U F e % 2 = (if e % 2 = 0 then F (e / 2) else 1 - F (e / 2)) := by
  have := hF (e / 2)
  unfold nmF
  split <;> omega
theorem nmF_maps {U F : Nat → Nat} {T : Nat} (hU : Maps U T) (hF : ∀ k, F k ≤ 1) : Maps (nmF U F) (2 * T) where
  lt := fun e he => by
    have h1 := hU.lt (e / 2) (by omega)
    have h2 := hF (e / 2)
    unfold nmF
    split <;> omega
  inj := fun a b ha hb h => by
    have ⟨a1, a2⟩ := nmF_half U F hF a
    have ⟨b1, b2⟩ := nmF_half U F hF b
    rw [h] at a1 a2
    have e := hU.inj (a / 2) (b / 2) (by omega) (by omega) (a1.symm.trans b1)
    rw [b2, e] at a2
    have := hF (b / 2)
    split at a2 <;> split at a2 <;> omega
theorem place_eq (ts : Ties) (e : Nat) : place ts e = if e % 2 = 0 then (ts.getD (e / 2) (0, 0)).1 else (ts.getD (e / 2) (0, 0)).2 := rfl
theorem renamed_good {ts told : Ties} {os rows : Ords} (g : Good ts os) {U F Pl : Nat → Nat} (hU : Maps U ts.length) (hF : ∀ k, F k ≤ 1) (hP : Maps Pl os.length) (ht : told.length = ts.length) (hr : rows.length = os.length)
    (hv : ∀ k, k < ts.length → told.getD (U k) (0, 0) = if F k = 0 then (Pl (ts.getD k (0, 0)).1, Pl (ts.getD k (0, 0)).2) else (Pl (ts.getD k (0, 0)).2, Pl (ts.getD k (0, 0)).1))
    (hw : ∀ p, p < os.length → ∃ l : List Nat, row rows (Pl p) = l.map (nmF U F) ∧ l.Perm (row os p)) : Good told rows := by
  have mN := nmF_maps hU hF
  have pl : ∀ e, e < 2 * ts.length → place told (nmF U F e) = Pl (place ts e) := fun e he => by
    have ⟨h1, h2⟩ := nmF_half U F hF e
    have hk := hv (e / 2) (by omega)
    have hf := hF (e / 2)
    rw [place_eq told, place_eq ts, h1, h2, hk]
    by_cases q : e % 2 = 0
    · by_cases z : F (e / 2) = 0
      · simp [q, z]
      · have z1 : F (e / 2) = 1 := by omega
        simp [q, z1]
    · by_cases z : F (e / 2) = 0
      · simp [q, z]
      · have z1 : F (e / 2) = 1 := by omega
        simp [q, z1]
  have out : ∀ p, rows.length ≤ p → row rows p = [] := fun p hp => by
    unfold row
    simp [List.getD, List.getElem?_eq_none hp]
  refine ⟨⟨fun p e he => ?_, fun e he => ?_, fun p => ?_, fun p hp => ?_, fun p => ?_⟩, by rw [ht]; exact g.one⟩
  · rcases Nat.lt_or_ge p rows.length with hp | hp
    · obtain ⟨p0, hp0, rfl⟩ := surj hP (hr ▸ hp)
      obtain ⟨l, h1, h2⟩ := hw p0 hp0
      rw [h1] at he
      obtain ⟨x, hx, rfl⟩ := List.mem_map.mp he
      have q := g.g.ends p0 x (h2.mem_iff.mp hx)
      rw [ht]
      exact ⟨mN.lt x q.1, by rw [pl x q.1, q.2]⟩
    · rw [out p hp] at he; cases he
  · rw [ht] at he
    obtain ⟨x, hx, rfl⟩ := surj mN he
    have q := g.g.has x hx
    rw [pl x hx, hr]
    refine ⟨hP.lt _ q.1, ?_⟩
    obtain ⟨l, h1, h2⟩ := hw _ q.1
    rw [h1]
    exact List.mem_map.mpr ⟨x, h2.mem_iff.mpr q.2, rfl⟩
  · rcases Nat.lt_or_ge p rows.length with hp | hp
    · obtain ⟨p0, hp0, rfl⟩ := surj hP (hr ▸ hp)
      obtain ⟨l, h1, h2⟩ := hw p0 hp0
      rw [h1]
      have ndl : l.Nodup := h2.nodup_iff.mpr (g.g.nd p0)
      have hl : ∀ x ∈ l, x < 2 * ts.length := fun x hx => (g.g.ends p0 x (h2.mem_iff.mp hx)).1
      clear h1 h2
      induction l with
      | nil => exact List.nodup_nil
      | cons a l ih =>
        rw [List.map_cons, List.nodup_cons]
        obtain ⟨n1, n2⟩ := List.nodup_cons.mp ndl
        refine ⟨fun z => ?_, ih n2 fun x hx => hl x (List.mem_cons_of_mem _ hx)⟩
        obtain ⟨y, hy, e⟩ := List.mem_map.mp z
        have := mN.inj y a (hl y (List.mem_cons_of_mem _ hy)) (hl a List.mem_cons_self) e
        subst this
        exact n1 hy
    · rw [out p hp]; exact List.nodup_nil
  · obtain ⟨p0, hp0, rfl⟩ := surj hP (hr ▸ hp)
    obtain ⟨l, h1, h2⟩ := hw p0 hp0
    rw [h1]
    intro z
    have : l = [] := List.map_eq_nil_iff.mp z
    subst this
    exact g.g.full p0 hp0 (h2.symm.eq_nil)
  · rcases Nat.lt_or_ge p rows.length with hp | hp
    · obtain ⟨p0, hp0, rfl⟩ := surj hP (hr ▸ hp)
      obtain ⟨l, h1, h2⟩ := hw p0 hp0
      rw [h1, List.length_map, h2.length_eq]
      exact g.g.four p0
    · rw [out p hp]; simp
end MM

namespace MM
def Rot (l m : List Nat) : Prop := ∃ k, l = m.drop k ++ m.take k
theorem Rot.perm {l m : List Nat} (h : Rot l m) : l.Perm m := by
  obtain ⟨k, rfl⟩ := h
  have := (List.perm_append_comm : (m.drop k ++ m.take k).Perm (m.take k ++ m.drop k))
  rwa [List.take_append_drop] at this
theorem rot_get {l : List Nat} {k : Nat} (hk : k ≤ l.length) (j : Nat) (hj : j < l.length) : (l.drop k ++ l.take k)[j]? = if j < l.length - k then l[k + j]? else l[j - (l.length - k)]? := by
  have hl : (l.drop k).length = l.length - k := List.length_drop
  split
  · rename_i h
    rw [List.getElem?_append_left (by omega), List.getElem?_drop]
  · rename_i h
    rw [List.getElem?_append_right (by omega), hl, List.getElem?_take_of_lt (by omega)]
theorem prevIn_rot {l : List Nat} (nd : l.Nodup) {x k : Nat} (hx : x ∈ l) : prevIn (l.drop k ++ l.take k) x = prevIn l x := by
  rcases Nat.lt_or_ge l.length k with h | hk
  · rw [List.drop_eq_nil_of_le (by omega), List.take_of_length_le (by omega)]; rfl
  obtain ⟨i, hi, ei⟩ := List.mem_iff_getElem.mp hx
  have gx : l[i]? = some x := by rw [List.getElem?_eq_getElem hi, ei]
  have pm : (l.drop k ++ l.take k).Perm l := Rot.perm ⟨k, rfl⟩
  have nd' := pm.nodup_iff.mpr nd
  have len := pm.length_eq
  have G := rot_get (l := l) hk
  rw [prevIn_ix nd gx]
  rcases Nat.lt_or_ge i k with c | c
  · have g' : (l.drop k ++ l.take k)[l.length - k + i]? = some x := by
      rw [G _ (by omega), if_neg (by omega), show l.length - k + i - (l.length - k) = i by omega]; exact gx
    rw [prevIn_ix nd' g', len, List.getD_eq_getElem?_getD, List.getD_eq_getElem?_getD]
    by_cases z : i = 0
    · rw [if_pos z]
      by_cases y : l.length - k + i = 0
      · rw [if_pos y, G _ (by omega), if_neg (by omega)]; congr 2; omega
      · rw [if_neg y, G _ (by omega), if_pos (by omega)]; congr 2; omega
    · rw [if_neg z, if_neg (by omega), G _ (by omega), if_neg (by omega)]; congr 2; omega
  · have g' : (l.drop k ++ l.take k)[i - k]? = some x := by
      rw [G _ (by omega), if_pos (by omega), show k + (i - k) = i by omega]; exact gx
    rw [prevIn_ix nd' g', len, List.getD_eq_getElem?_getD, List.getD_eq_getElem?_getD]
    by_cases z : i = 0
    · rw [if_pos z, if_pos (by omega), G _ (by omega), if_pos (by omega)]; congr 2; omega
    · rw [if_neg z]
      by_cases y : i - k = 0
      · rw [if_pos y, G _ (by omega), if_neg (by omega)]; congr 2; omega
      · rw [if_neg y, G _ (by omega), if_pos (by omega)]; congr 2; omega
theorem prevIn_map {l : List Nat} (nd : l.Nodup) {φ : Nat → Nat} (nd' : (l.map φ).Nodup) {x : Nat} (hx : x ∈ l) : prevIn (l.map φ) (φ x) = φ (prevIn l x) := by
  obtain ⟨i, hi, ei⟩ := List.mem_iff_getElem.mp hx
  have gx : l[i]? = some x := by rw [List.getElem?_eq_getElem hi, ei]
  have gx' : (l.map φ)[i]? = some (φ x) := by rw [List.getElem?_map, gx]; rfl
  rw [prevIn_ix nd gx, prevIn_ix nd' gx', List.length_map]
  generalize hj : (if i = 0 then l.length - 1 else i - 1) = j
  have hj' : j < l.length := by split at hj <;> omega
  rw [List.getD_eq_getElem?_getD, List.getD_eq_getElem?_getD, List.getElem?_map, List.getElem?_eq_getElem hj']; rfl
theorem nmF_oth {U F : Nat → Nat} (hF : ∀ k, F k ≤ 1) (e : Nat) : oth (nmF U F e) = nmF U F (oth e) := by
  have h := hF (e / 2)
  have h1 := oth_half e
  have h2 := oth_mod e
  have ⟨a1, a2⟩ := nmF_half U F hF e
  have ⟨b1, b2⟩ := nmF_half U F hF (oth e)
  rw [h1] at b1 b2
  rw [h2] at b2
  have c1 := oth_half (nmF U F e)
  have c2 := oth_mod (nmF U F e)
  have hm : e % 2 = 0 ∨ e % 2 = 1 := by omega
  rcases hm with z | z
  · rw [z, if_pos rfl] at a2
    rw [z, if_neg (by omega)] at b2
    omega
  · rw [z, if_neg (by omega)] at a2
    rw [z, if_pos (by omega)] at b2
    omega
theorem renamed_lands {ts told : Ties} {os rows : Ords} (g : Good ts os) {U F Pl : Nat → Nat} (hU : Maps U ts.length) (hF : ∀ k, F k ≤ 1) (hP : Maps Pl os.length) (ht : told.length = ts.length) (hr : rows.length = os.length)
    (hv : ∀ k, k < ts.length → told.getD (U k) (0, 0) = if F k = 0 then (Pl (ts.getD k (0, 0)).1, Pl (ts.getD k (0, 0)).2) else (Pl (ts.getD k (0, 0)).2, Pl (ts.getD k (0, 0)).1))
    (hw : ∀ p, p < os.length → ∃ l : List Nat, row rows (Pl p) = l.map (nmF U F) ∧ Rot l (row os p)) : nLands told rows = nLands ts os ∧ (Conn ts os → Conn told rows) := by
  have good := renamed_good g hU hF hP ht hr hv fun p hp => by obtain ⟨l, h1, h2⟩ := hw p hp; exact ⟨l, h1, h2.perm⟩
  have mN := nmF_maps hU hF
  have pl : ∀ e, e < 2 * ts.length → place told (nmF U F e) = Pl (place ts e) := fun e he => by
    have ⟨h1, h2⟩ := nmF_half U F hF e
    have hk := hv (e / 2) (by omega)
    have hf := hF (e / 2)
    rw [place_eq told, place_eq ts, h1, h2, hk]
    by_cases q : e % 2 = 0
    · by_cases z : F (e / 2) = 0
      · simp [q, z]
      · have z1 : F (e / 2) = 1 := by omega
        simp [q, z1]
    · by_cases z : F (e / 2) = 0
      · simp [q, z]
      · have z1 : F (e / 2) = 1 := by omega
        simp [q, z1]
  have m' := good.maps
  unfold nLands Conn
  rw [ht] at m' ⊢
  refine ren_both g.maps m' mN (fun e => nmF_oth hF e) fun e he => ?_
  have ho := oth_lt he
  have q := g.g.has (oth e) ho
  obtain ⟨l, h1, h2⟩ := hw _ q.1
  unfold behind
  rw [nmF_oth hF, pl _ ho, h1]
  have nd' := good.g.nd (Pl (place ts (oth e)))
  rw [h1] at nd'
  have pm := h2.perm
  rw [prevIn_map (pm.nodup_iff.mpr (g.g.nd _)) nd' (pm.mem_iff.mpr q.2)]
  obtain ⟨k, rfl⟩ := h2
  rw [prevIn_rot (g.g.nd _) q.2]
def Grew (ts : Ties) (os : Ords) (ts' : Ties) (os' : Ords) : Prop := (ts' = ts ∧ os' = os) ∨ (ts'.length = ts.length + 1 ∧ ((os'.length = os.length + 1 ∧ (nLands ts' os' = nLands ts os ∧ (Conn ts os → Conn ts' os'))) ∨ (os'.length = os.length ∧ (nLands ts' os' = nLands ts os + 1 ∧ (Conn ts os → Conn ts' os')))))
def Flat (ts : Ties) (os : Ords) : Prop := os.length + nLands ts os = ts.length + 2
structure FC (ts : Ties) (os : Ords) : Prop where
  flat : Flat ts os
  conn : Conn ts os
theorem Grew.fc {ts ts' : Ties} {os os' : Ords} (h : Grew ts os ts' os') (f : FC ts os) : FC ts' os' := by
  have fl := f.flat
  have c := f.conn
  rcases h with ⟨rfl, rfl⟩ | ⟨h1, ⟨h2, h3, h4⟩ | ⟨h2, h3, h4⟩⟩
  · exact f
  · exact ⟨by unfold Flat at *; omega, h4 c⟩
  · exact ⟨by unfold Flat at *; omega, h4 c⟩
theorem conn_two {ts : Ties} {os : Ords} (h : ts.length = 1) : Conn ts os := by
  intro S h1 h2 x y hx hy sx
  rw [h] at hx hy
  have e0 : oth 0 = 1 := rfl
  have e1 : oth 1 = 0 := rfl
  by_cases q : x = y
  · exact q ▸ sx
  · have := h2 x (by omega) sx
    have hx' : (x = 0 ∧ y = 1) ∨ (x = 1 ∧ y = 0) := by omega
    rcases hx' with ⟨rfl, rfl⟩ | ⟨rfl, rfl⟩
    · rwa [e0] at this
    · rwa [e1] at this
end MM

namespace MM
theorem lands_flat {f : Nat → Nat} {N : Nat} (m : Maps f N) : (landsOf f N).flatten.Perm (List.range N) := by
  have one := fun {x : Nat} (hx : x < N) => lf_one m _ (List.range N) (Nat.le_refl _) (fun z hz => List.mem_range.mp hz) x (List.mem_range.mpr hx)
  have mem := fun (d : List Nat) (hd : d ∈ landsOf f N) => lf_mem m _ (List.range N) (Nat.le_refl _) (fun z hz => List.mem_range.mp hz) d hd
  have lt : ∀ d ∈ landsOf f N, ∀ x ∈ d, x < N := fun d hd x hx => by
    obtain ⟨e, he, rfl⟩ := mem d hd
    exact land_lt m (List.mem_range.mp he) x hx
  refine (List.perm_ext_iff_of_nodup ?_ List.nodup_range).mpr fun x => ?_
  · rw [List.nodup_iff_pairwise_ne, List.pairwise_flatten]
    refine ⟨fun d hd => ?_, ?_⟩
    · obtain ⟨e, he, rfl⟩ := mem d hd
      have := land_nodup m (List.mem_range.mp he)
      rwa [List.nodup_iff_pairwise_ne] at this
    · rw [List.pairwise_iff_getElem]
      intro i j hi hj hij x hx y hy e
      subst e
      obtain ⟨k, d, _, _, h3⟩ := one (lt _ (List.getElem_mem hi) x hx)
      have e1 := h3 i _ (List.getElem?_eq_getElem hi) hx
      have e2 := h3 j _ (List.getElem?_eq_getElem hj) hy
      omega
  · rw [List.mem_flatten, List.mem_range]
    constructor
    · rintro ⟨d, hd, hx⟩
      exact lt d hd x hx
    · intro hx
      obtain ⟨k, d, h1, h2, _⟩ := one hx
      exact ⟨d, List.mem_of_getElem? h1, h2⟩
end MM

namespace MM
def su (l : List Nat) (f : Nat → Int) : Int := (l.map f).sum
theorem su_nil (f : Nat → Int) : su [] f = 0 := rfl
theorem su_cons (x : Nat) (l : List Nat) (f : Nat → Int) : su (x :: l) f = f x + su l f := by unfold su; rw [List.map_cons, List.sum_cons]
theorem su_app (f : Nat → Int) : ∀ a b : List Nat, su (a ++ b) f = su a f + su b f
  | [], b => by rw [su_nil, List.nil_append]; omega
  | x :: a, b => by rw [List.cons_append, su_cons, su_cons, su_app f a b]; omega
theorem su_perm {f : Nat → Int} {a b : List Nat} (h : a.Perm b) : su a f = su b f := by
  induction h with
  | nil => rfl
  | cons x _ ih => rw [su_cons, su_cons, ih]
  | swap x y l => rw [su_cons, su_cons, su_cons, su_cons]; omega
  | trans _ _ h1 h2 => exact h1.trans h2
theorem su_congr {f g : Nat → Int} : ∀ {l : List Nat}, (∀ x ∈ l, f x = g x) → su l f = su l g
  | [], _ => rfl
  | x :: l, h => by rw [su_cons, su_cons, h x List.mem_cons_self, su_congr fun y hy => h y (List.mem_cons_of_mem _ hy)]
theorem su_add (f g : Nat → Int) : ∀ l : List Nat, su l (fun x => f x + g x) = su l f + su l g
  | [] => rfl
  | x :: l => by rw [su_cons, su_cons, su_cons, su_add f g l]; omega
theorem su_sub (f g : Nat → Int) : ∀ l : List Nat, su l (fun x => f x - g x) = su l f - su l g
  | [] => rfl
  | x :: l => by rw [su_cons, su_cons, su_cons, su_sub f g l]; omega
theorem su_const (k : Int) : ∀ l : List Nat, su l (fun _ => k) = k * (l.length : Int)
  | [] => by rw [su_nil]; simp
  | x :: l => by rw [su_cons, su_const k l, List.length_cons, Int.natCast_add, Int.mul_add]; simp; omega
theorem su_map (f : Nat → Int) (φ : Nat → Nat) (l : List Nat) : su (l.map φ) f = su l fun x => f (φ x) := by unfold su; rw [List.map_map]; rfl
theorem su_ite {e : Nat} (A : Int) : ∀ {l : List Nat}, l.Nodup → su l (fun z => if z = e then A else 0) = if e ∈ l then A else 0
  | [], _ => by rw [su_nil]; simp
  | x :: l, nd => by
    have h := List.nodup_cons.mp nd
    rw [su_cons, su_ite A h.2]
    by_cases q : x = e
    · subst q; simp [h.1]
    · have q' : ¬ e = x := fun z => q z.symm
      simp [q, q']
theorem su_nonneg {f : Nat → Int} : ∀ {l : List Nat}, (∀ x ∈ l, 0 ≤ f x) → 0 ≤ su l f
  | [], _ => by rw [su_nil]; exact Int.le_refl _
  | x :: l, h => by
    have h1 := h x List.mem_cons_self
    have h2 := su_nonneg (l := l) fun y hy => h y (List.mem_cons_of_mem _ hy)
    rw [su_cons]; omega
theorem su_one {f : Nat → Int} : ∀ {l : List Nat} {x : Nat}, (∀ x ∈ l, 0 ≤ f x) → x ∈ l → f x ≤ su l f
  | y :: l, x, h, hx => by
    rw [su_cons]
    have h1 := h y List.mem_cons_self
    have h2 := su_nonneg (l := l) fun z hz => h z (List.mem_cons_of_mem _ hz)
    rcases List.mem_cons.mp hx with rfl | hx
    · omega
    · have := su_one (l := l) (fun z hz => h z (List.mem_cons_of_mem _ hz)) hx
      omega
theorem su_two {f : Nat → Int} : ∀ {l : List Nat} {x y : Nat}, (∀ x ∈ l, 0 ≤ f x) → x ∈ l → y ∈ l → x ≠ y → f x + f y ≤ su l f
  | z :: l, x, y, h, hx, hy, hne => by
    rw [su_cons]
    have h1 := h z List.mem_cons_self
    have h' : ∀ w ∈ l, 0 ≤ f w := fun w hw => h w (List.mem_cons_of_mem _ hw)
    rcases List.mem_cons.mp hx with ex | hx1
    · subst ex
      rcases List.mem_cons.mp hy with ey | hy1
      · exact absurd ey.symm hne
      · have := su_one h' hy1; omega
    · rcases List.mem_cons.mp hy with ey | hy1
      · subst ey
        have := su_one h' hx1; omega
      · have := su_two h' hx1 hy1 hne; omega
theorem su_flat (f : Nat → Int) : ∀ ll : List (List Nat), su ll.flatten f = (ll.map fun d => su d f).sum
  | [] => rfl
  | d :: ll => by rw [List.flatten_cons, su_app, su_flat f ll, List.map_cons, List.sum_cons]
theorem perm_of {a b : List Nat} (ha : a.Nodup) (hb : b.Nodup) (h : ∀ x, x ∈ a ↔ x ∈ b) : a.Perm b := (List.perm_ext_iff_of_nodup ha hb).mpr h
theorem oth_perm (T : Nat) : ((List.range (2 * T)).map oth).Perm (List.range (2 * T)) := by
  refine perm_of ?_ List.nodup_range fun x => ?_
  · rw [List.Nodup, List.pairwise_map]
    exact List.Pairwise.imp (fun h z => h (oth_inj z)) (List.nodup_range (n := 2 * T))
  · rw [List.mem_map, List.mem_range]
    constructor
    · rintro ⟨y, hy, rfl⟩; exact oth_lt (List.mem_range.mp hy)
    · intro h; exact ⟨oth x, List.mem_range.mpr (oth_lt h), oth_oth x⟩
theorem flat_nodup : ∀ (ll : List (List Nat)), (∀ i, (row ll i).Nodup) → (∀ i j x, x ∈ row ll i → x ∈ row ll j → i = j) → ll.flatten.Nodup
  | [], _, _ => List.nodup_nil
  | d :: ll, h1, h2 => by
    rw [List.flatten_cons, List.nodup_append]
    refine ⟨h1 0, flat_nodup ll (fun i => h1 (i + 1)) (fun i j x hi hj => ?_), fun a ha b hb e => ?_⟩
    · have := h2 (i + 1) (j + 1) x hi hj; omega
    · subst e
      obtain ⟨r, hr, hx⟩ := List.mem_flatten.mp hb
      obtain ⟨i, hi, rfl⟩ := List.mem_iff_getElem.mp hr
      have : a ∈ row (d :: ll) (i + 1) := by
        unfold row
        rw [List.getD_eq_getElem?_getD, List.getElem?_cons_succ, List.getElem?_eq_getElem hi]
        exact hx
      have := h2 0 (i + 1) a ha this
      omega
theorem ords_perm {ts : Ties} {os : Ords} (g : Good ts os) : os.flatten.Perm (List.range (2 * ts.length)) := by
  refine perm_of (flat_nodup os g.g.nd fun i j x hi hj => ?_) List.nodup_range fun x => ?_
  · rw [← (g.g.ends i x hi).2, ← (g.g.ends j x hj).2]
  · rw [List.mem_range, List.mem_flatten]
    constructor
    · rintro ⟨r, hr, hx⟩
      obtain ⟨i, hi, rfl⟩ := List.mem_iff_getElem.mp hr
      exact (g.g.ends i x (by unfold row; rw [List.getD_eq_getElem?_getD, List.getElem?_eq_getElem hi]; exact hx)).1
    · intro h
      have q := g.g.has x h
      refine ⟨os[place ts x], List.getElem_mem q.1, ?_⟩
      have q2 := q.2
      unfold row at q2
      rw [List.getD_eq_getElem?_getD, List.getElem?_eq_getElem q.1] at q2
      exact q2
def trm (c l : Nat → Int) (e : Nat) : Int := 2 - c e + l e - l (oth e)
noncomputable abbrev lls (ts : Ties) (os : Ords) : List (List Nat) := landsOf (behind ts os) (2 * ts.length)
structure Plc (ts : Ties) (os : Ords) (c : Nat → Int) : Prop where
  lo : ∀ e, e < 2 * ts.length → 1 ≤ c e
  hi : ∀ e, e < 2 * ts.length → c e ≤ 4
  at_ : ∀ p, p < os.length → su (row os p) (fun e => c (oth e)) = 4
structure Shp (ts : Ties) (os : Ords) (o : Nat) (c l : Nat → Int) : Prop where
  pl : Plc ts os c
  pos : ∀ e, e < 2 * ts.length → 0 ≤ l e
  ld : ∀ (k : Nat) (d : List Nat), (lls ts os)[k]? = some d → su d (trm c l) = if k = o then -4 else 4
theorem sum_all4 : ∀ (xs : List Int), (∀ x ∈ xs, x = 4) → xs.sum = 4 * (xs.length : Int)
  | [], _ => rfl
  | x :: xs, h => by
    rw [List.sum_cons, h x List.mem_cons_self, sum_all4 xs fun y hy => h y (List.mem_cons_of_mem _ hy), List.length_cons]
    omega
theorem sum_but : ∀ (xs : List Int) (o : Nat), o < xs.length → (∀ k, k < xs.length → k ≠ o → xs.getD k 0 = 4) → xs.sum = 4 * (xs.length : Int) - 4 + xs.getD o 0
  | [], o, h, _ => by simp at h
  | x :: xs, 0, h, q => by
    rw [List.sum_cons, sum_all4 xs, List.length_cons]
    · simp; omega
    · intro y hy
      obtain ⟨i, hi, rfl⟩ := List.mem_iff_getElem.mp hy
      have := q (i + 1) (by simp; omega) (by omega)
      rw [List.getD_eq_getElem?_getD, List.getElem?_cons_succ, List.getElem?_eq_getElem hi] at this
      exact this
  | x :: xs, o + 1, h, q => by
    have h0 := q 0 (by simp) (by omega)
    have e0 : x = 4 := by simpa using h0
    have ih := sum_but xs o (by simpa using h) fun k hk hne => by
      have := q (k + 1) (by simp; omega) (by omega)
      simpa using this
    rw [List.sum_cons, ih, List.length_cons, e0]
    simp
    omega
theorem total {ts : Ties} {os : Ords} {c l : Nat → Int} (g : Good ts os) (fl : Flat ts os) (h4 : ∀ p, p < os.length → su (row os p) (fun e => c (oth e)) = 4) : ((lls ts os).map fun d => su d (trm c l)).sum = 4 * ((lls ts os).length : Int) - 8 := by
  rw [← su_flat, su_perm (lands_flat g.maps)]
  have e1 : su (List.range (2 * ts.length)) (trm c l) = su (List.range (2 * ts.length)) (fun _ => 2) - su (List.range (2 * ts.length)) c + su (List.range (2 * ts.length)) l - su (List.range (2 * ts.length)) (fun e => l (oth e)) := by
    have : trm c l = fun e => ((2 - c e) + l e) - l (oth e) := rfl
    rw [this, su_sub, su_add, su_sub]
  have eo : ∀ f : Nat → Int, su (List.range (2 * ts.length)) (fun e => f (oth e)) = su (List.range (2 * ts.length)) f := fun f => by
    rw [← su_map, su_perm (oth_perm ts.length)]
  have e2 : su (List.range (2 * ts.length)) c = 4 * (os.length : Int) := by
    rw [← eo c, ← su_perm (ords_perm g), su_flat, sum_all4]
    · rw [List.length_map]
    · intro x hx
      obtain ⟨d, hd, rfl⟩ := List.mem_map.mp hx
      obtain ⟨i, hi, rfl⟩ := List.mem_iff_getElem.mp hd
      have := h4 i hi
      unfold row at this
      rw [List.getD_eq_getElem?_getD, List.getElem?_eq_getElem hi] at this
      exact this
  rw [e1, eo l, e2, su_const, List.length_range]
  unfold Flat nLands at fl
  show _ = 4 * ((landsOf (behind ts os) (2 * ts.length)).length : Int) - 8
  omega
theorem shp_outer {ts : Ties} {os : Ords} {o : Nat} {c l : Nat → Int} (g : Good ts os) (fl : Flat ts os) (pl : Plc ts os c) (pos : ∀ e, e < 2 * ts.length → 0 ≤ l e) (ho : o < (lls ts os).length)
    (h : ∀ (k : Nat) (d : List Nat), (lls ts os)[k]? = some d → k ≠ o → su d (trm c l) = 4) : Shp ts os o c l := by
  refine ⟨pl, pos, fun k d hk => ?_⟩
  by_cases q : k = o
  · rw [if_pos q]
    subst q
    have t := total (l := l) g fl pl.at_
    have s := sum_but ((lls ts os).map fun d => su d (trm c l)) k (by rw [List.length_map]; exact ho) fun j hj hne => by
      rw [List.length_map] at hj
      rw [List.getD_eq_getElem?_getD, List.getElem?_map, List.getElem?_eq_getElem hj]
      exact h j _ (List.getElem?_eq_getElem hj) hne
    rw [List.length_map, List.getD_eq_getElem?_getD, List.getElem?_map, hk] at s
    have s' : ((lls ts os).map fun d => su d (trm c l)).sum = 4 * ((lls ts os).length : Int) - 4 + su d (trm c l) := s
    omega
  · rw [if_neg q]; exact h k d hk q
theorem eq_oth {z e : Nat} : oth z = e ↔ z = oth e := ⟨fun h => by rw [← h, oth_oth], fun h => by rw [h, oth_oth]⟩
theorem oth_ne (e : Nat) : oth e ≠ e := by unfold oth; split <;> omega
theorem su_lefts {c l l' : Nat → Int} {e : Nat} {x y : Int} {d : List Nat} (nd : d.Nodup) (h : ∀ z, l' z = l z + (if z = e then x else 0) + (if z = oth e then y else 0)) : su d (trm c l') = su d (trm c l) + (if e ∈ d then x - y else 0) - (if oth e ∈ d then x - y else 0) := by
  have e1 : ∀ z, trm c l' z = (trm c l z + (if z = e then x - y else 0)) - (if z = oth e then x - y else 0) := fun z => by
    unfold trm
    rw [h z, h (oth z)]
    have a1 : (oth z = e) = (z = oth e) := propext eq_oth
    have a2 : (oth z = oth e) = (z = e) := propext ⟨oth_inj, fun h => by rw [h]⟩
    simp only [a1, a2]
    by_cases q : z = e
    · have q' : ¬ z = oth e := fun z' => oth_ne e (by rw [← z', q])
      simp only [if_pos q, if_neg q']
      omega
    · by_cases q' : z = oth e
      · simp only [if_neg q, if_pos q']; omega
      · simp only [if_neg q, if_neg q']; omega
  rw [su_congr fun z _ => e1 z, su_sub, su_add, su_ite _ nd, su_ite _ nd]
theorem su_corners {c c' l : Nat → Int} {a b : Nat} {d : List Nat} (nd : d.Nodup) (h : ∀ z, c' z = c z - (if z = a then 1 else 0) + (if z = b then 1 else 0)) : su d (trm c' l) = su d (trm c l) + (if a ∈ d then 1 else 0) - (if b ∈ d then 1 else 0) := by
  have e1 : ∀ z, trm c' l z = (trm c l z + (if z = a then 1 else 0)) - (if z = b then 1 else 0) := fun z => by
    unfold trm
    rw [h z]
    omega
  rw [su_congr fun z _ => e1 z, su_sub, su_add, su_ite _ nd, su_ite _ nd]
theorem lls_land {ts : Ties} {os : Ords} (g : Good ts os) {k : Nat} {d : List Nat} (h : (lls ts os)[k]? = some d) : d.Nodup ∧ (∀ x ∈ d, x < 2 * ts.length) ∧ (∀ x, x < 2 * ts.length → (behind ts os x ∈ d ↔ x ∈ d)) ∧ d ≠ [] := by
  have m := g.maps
  obtain ⟨e, he, rfl⟩ := lf_mem m _ (List.range (2 * ts.length)) (Nat.le_refl _) (fun z hz => List.mem_range.mp hz) d (List.mem_of_getElem? h)
  have he := List.mem_range.mp he
  refine ⟨land_nodup m he, land_lt m he, fun x hx => ?_, fun z => ?_⟩
  · have h1 : behind ts os x ∈ landOf (behind ts os) x := (mem_land m hx).mpr ⟨1, rfl⟩
    have hb := m.lt x hx
    constructor
    · intro q; exact land_trans m he q (land_symm m hx h1)
    · intro q; exact land_trans m he q h1
  · have := self_land m he
    rw [z] at this
    cases this
theorem walk_turn {ts : Ties} {os : Ords} {o : Nat} {c l l' : Nat → Int} {e : Nat} (g : Good ts os) (s : Shp ts os o c l) (h : ∀ z, l' z = l z + (if z = e then 1 else 0) + (if z = oth e then 1 else 0)) : Shp ts os o c l' := by
  refine ⟨s.pl, fun z hz => ?_, fun k d hk => ?_⟩
  · have := s.pos z hz
    rw [h z]
    split <;> split <;> omega
  · rw [su_lefts (lls_land g hk).1 h]
    have := s.ld k d hk
    simp only [Int.sub_self, ite_self]
    omega
theorem walk_quarter {ts : Ties} {os : Ords} {o : Nat} {c c' l l' : Nat → Int} {e a : Nat} {b : Int} (g : Good ts os) (s : Shp ts os o c l) (he : e < 2 * ts.length) (ha : a < 2 * ts.length) (hb : behind ts os a = e) (h1 : 1 < c (oth e))
    (hc : ∀ z, c' z = c z - (if z = oth e then 1 else 0) + (if z = a then 1 else 0)) (hl : ∀ z, l' z = l z + (if z = e then 1 - b else 0) + (if z = oth e then -b else 0)) (hb0 : b = if 0 < l (oth e) then 1 else 0) : Shp ts os o c' l' := by
  have ho := oth_lt he
  have hoa := oth_lt ha
  have pe : place ts e = place ts (oth a) := by rw [← hb]; exact (g.behind ha).2
  have in1 := g.g.has e he
  have in2 := g.g.has (oth a) hoa
  rw [← pe] at in2
  refine ⟨⟨fun z hz => ?_, fun z hz => ?_, fun p hp => ?_⟩, fun z hz => ?_, fun k d hk => ?_⟩
  · have := s.pl.lo z hz
    rw [hc z]
    by_cases q : z = oth e
    · subst q; rw [if_pos rfl]; split <;> omega
    · rw [if_neg q]; split <;> omega
  · have := s.pl.hi z hz
    rw [hc z]
    by_cases q : z = a
    · by_cases q2 : z = oth e
      · rw [if_pos q, if_pos q2]; omega
      · rw [if_pos q, if_neg q2]
        have hs := s.pl.at_ _ in1.1
        have t := su_two (f := fun e => c (oth e)) (l := row os (place ts e)) (x := e) (y := oth a) (fun x hx => by
          have := s.pl.lo (oth x) (oth_lt (g.g.ends _ x hx).1)
          show 0 ≤ c (oth x)
          omega) in1.2 in2.2 (fun z' => q2 (by rw [q, z', oth_oth]))
        rw [hs, oth_oth] at t
        rw [q]
        omega
    · rw [if_neg q]; split <;> omega
  · have e1 : ∀ z, c' (oth z) = (c (oth z) - (if z = e then 1 else 0)) + (if z = oth a then 1 else 0) := fun z => by
      rw [hc (oth z)]
      have a1 : (oth z = oth e) = (z = e) := propext ⟨oth_inj, fun h => by rw [h]⟩
      have a2 : (oth z = a) = (z = oth a) := propext eq_oth
      simp only [a1, a2]
    rw [su_congr fun z _ => e1 z, su_add, su_sub, su_ite _ (g.g.nd p), su_ite _ (g.g.nd p), s.pl.at_ p hp]
    have : (e ∈ row os p) = (oth a ∈ row os p) := propext ⟨fun h => by
      have := (g.g.ends p e h).2
      rw [← this]; exact in2.2, fun h => by
      have := (g.g.ends p _ h).2
      rw [← this, ← pe]; exact in1.2⟩
    simp only [this]
    omega
  · have h0 := s.pos z hz
    rw [hl z]
    by_cases q : z = oth e
    · have q' : ¬ z = e := fun z' => oth_ne e (by rw [← q, z'])
      rw [if_neg q', if_pos q]
      rw [q] at h0 ⊢
      rw [hb0]
      split <;> omega
    · rw [if_neg q, hb0]
      by_cases q2 : z = e
      · rw [if_pos q2]; split <;> omega
      · rw [if_neg q2]; omega
  · have L := lls_land g hk
    have k1 := su_corners (l := l') L.1 hc
    have k2 := su_lefts (c := c) L.1 hl
    rw [k1, k2]
    have k3 := s.ld k d hk
    have k4 : (a ∈ d) = (e ∈ d) := propext (by rw [← hb]; exact (L.2.2.1 a ha).symm)
    have k5 : (1 - b - -b) = 1 := by omega
    simp only [k4, k5]
    omega
def cB (ts : Ties) (os : Ords) (e : Nat) : Int := if (row os (place ts (oth e))).getD 0 0 = oth e then 5 - ((row os (place ts (oth e))).length : Int) else 1
theorem plc_base {ts : Ties} {os : Ords} (g : Good ts os) {c : Nat → Int} (h : ∀ e, e < 2 * ts.length → c e = cB ts os e) : Plc ts os c := by
  have bd : ∀ e, e < 2 * ts.length → 1 ≤ cB ts os e ∧ cB ts os e ≤ 4 := fun e he => by
    unfold cB
    have h4 := g.g.four (place ts (oth e))
    have h0 : 0 < (row os (place ts (oth e))).length := List.length_pos_of_mem (g.g.has (oth e) (oth_lt he)).2
    split <;> omega
  refine ⟨fun e he => by rw [h e he]; exact (bd e he).1, fun e he => by rw [h e he]; exact (bd e he).2, fun p hp => ?_⟩
  have ne := g.g.full p hp
  have nd := g.g.nd p
  have en := g.g.ends p
  have e1 : ∀ z ∈ row os p, c (oth z) = if (row os p).getD 0 0 = z then 5 - ((row os p).length : Int) else 1 := fun z hz => by
    have q := en z hz
    rw [h _ (oth_lt q.1)]
    unfold cB
    rw [oth_oth, q.2]
  rw [su_congr e1]
  generalize row os p = r at ne nd
  match r, ne with
  | x :: r, _ =>
    have nx := (List.nodup_cons.mp nd).1
    rw [su_cons, if_pos (show (x :: r).getD 0 0 = x from rfl), su_congr (g := fun _ => 1) fun z hz => ?_, su_const, List.length_cons]
    · omega
    · rw [if_neg]
      intro q
      have : x = z := q
      exact nx (this ▸ hz)
structure Come (ts : Ties) (os : Ords) (nm : Nat → Nat) (o : Nat) (come : List Nat) (ways : Nat → Nat) : Prop where
  nd : come.Nodup
  lt : ∀ k ∈ come, k < (lls ts os).length
  hd : come[0]? = some o
  way : ∀ (i k : Nat), come[i]? = some k → 0 < i → ways k < 2 * ts.length ∧ nm (ways k) = k ∧ ∃ j, j < i ∧ come[j]? = some (nm (oth (ways k)))
def Num (ts : Ties) (os : Ords) (nm : Nat → Nat) : Prop := ∀ (k : Nat) (d : List Nat) (x : Nat), (lls ts os)[k]? = some d → x ∈ d → nm x = k
theorem num_at {ts : Ties} {os : Ords} {nm : Nat → Nat} (g : Good ts os) (n : Num ts os nm) {x : Nat} (hx : x < 2 * ts.length) : ∃ d, (lls ts os)[nm x]? = some d ∧ x ∈ d := by
  obtain ⟨k, d, h1, h2, _⟩ := lf_one g.maps _ _ (Nat.le_refl _) (fun y hy => List.mem_range.mp hy) x (List.mem_range.mpr hx)
  rw [n k d x h1 h2]
  exact ⟨d, h1, h2⟩
theorem num_mem {ts : Ties} {os : Ords} {nm : Nat → Nat} (g : Good ts os) (n : Num ts os nm) {x k : Nat} {d : List Nat} (hx : x < 2 * ts.length) (hk : (lls ts os)[k]? = some d) : x ∈ d ↔ nm x = k := by
  constructor
  · exact n k d x hk
  · intro h
    obtain ⟨d', h1, h2⟩ := num_at g n hx
    rw [h, hk] at h1
    cases h1
    exact h2
theorem Come.push {ts : Ties} {os : Ords} {nm : Nat → Nat} {o : Nat} {come : List Nat} {ways ways' : Nat → Nat} (g : Good ts os) (n : Num ts os nm) (c : Come ts os nm o come ways) {e : Nat} (he : e < 2 * ts.length) (h1 : nm e ∉ come) (h2 : nm (oth e) ∈ come)
    (hw : ∀ k, ways' k = if k = nm e then e else ways k) : Come ts os nm o (come ++ [nm e]) ways' := by
  have hl : 0 < come.length := by have := (List.getElem?_eq_some_iff.mp c.hd).1; exact this
  refine ⟨?_, fun k hk => ?_, by rw [List.getElem?_append_left hl]; exact c.hd, fun i k hi h0 => ?_⟩
  · rw [List.nodup_append]
    exact ⟨c.nd, by simp, fun a ha b hb z => h1 (by have : b = nm e := by simpa using hb
                                                    rw [← this, ← z]; exact ha)⟩
  · rcases List.mem_append.mp hk with hk | hk
    · exact c.lt k hk
    · have : k = nm e := by simpa using hk
      subst this
      obtain ⟨d, q, _⟩ := num_at g n he
      exact (List.getElem?_eq_some_iff.mp q).1
  · rcases Nat.lt_or_ge i come.length with z | z
    · rw [List.getElem?_append_left z] at hi
      have hk : k ∈ come := List.mem_of_getElem? hi
      have ne : ¬ k = nm e := fun q => h1 (q ▸ hk)
      rw [hw k, if_neg ne]
      obtain ⟨q1, q2, j, q3, q4⟩ := c.way i k hi h0
      exact ⟨q1, q2, j, q3, by rw [List.getElem?_append_left (by omega)]; exact q4⟩
    · rw [List.getElem?_append_right z] at hi
      have z' : i - come.length = 0 := by have := (List.getElem?_eq_some_iff.mp hi).1; simp at this; omega
      rw [z'] at hi
      have : k = nm e := by simpa using hi.symm
      subst this
      rw [hw, if_pos rfl]
      obtain ⟨j, hj, ej⟩ := List.mem_iff_getElem.mp h2
      exact ⟨he, rfl, j, by omega, by rw [List.getElem?_append_left hj, List.getElem?_eq_getElem hj, ej]⟩
theorem Come.first {ts : Ties} {os : Ords} {nm : Nat → Nat} {o : Nat} (ho : o < (lls ts os).length) (ways : Nat → Nat) : Come ts os nm o [o] ways := by
  refine ⟨by simp, fun k hk => ?_, rfl, fun i k hi h0 => ?_⟩
  · have : k = o := by simpa using hk
    subst this; exact ho
  · have := (List.getElem?_eq_some_iff.mp hi).1
    simp at this
    omega
theorem Come.len {ts : Ties} {os : Ords} {nm : Nat → Nat} {o : Nat} {come : List Nat} {ways : Nat → Nat} (c : Come ts os nm o come ways) : come.length ≤ (lls ts os).length := nodup_bound _ _ c.nd c.lt
theorem come_more {ts : Ties} {os : Ords} {nm : Nat → Nat} (g : Good ts os) (cn : Conn ts os) (n : Num ts os nm) {o : Nat} {come : List Nat} (ho : o < (lls ts os).length) (hc : o ∈ come) : (∀ k, k < (lls ts os).length → k ∈ come) ∨ ∃ e, e < 2 * ts.length ∧ nm e ∉ come ∧ nm (oth e) ∈ come := by
  by_cases q : ∃ e, e < 2 * ts.length ∧ nm e ∉ come ∧ nm (oth e) ∈ come
  · exact .inr q
  · left
    have ex : ∀ k, k < (lls ts os).length → ∃ x, x < 2 * ts.length ∧ nm x = k := fun k hk => by
      have h := List.getElem?_eq_getElem hk
      obtain ⟨_, h2, _, h4⟩ := lls_land g h
      obtain ⟨x, hx⟩ := List.exists_mem_of_ne_nil _ h4
      exact ⟨x, h2 x hx, n k _ x h hx⟩
    obtain ⟨x0, hx0, e0⟩ := ex o ho
    intro k hk
    obtain ⟨x, hx, e1⟩ := ex k hk
    have := cn (fun z => nm z ∈ come) (fun z hz s => ?_) (fun z hz s => ?_) x0 x hx0 hx (by rw [e0]; exact hc)
    · rw [← e1]; exact this
    · obtain ⟨d, h1, h2⟩ := num_at g n hz
      have := n _ d (behind ts os z) h1 (((lls_land g h1).2.2.1 z hz).mpr h2)
      rw [this]; exact s
    · refine Classical.byContradiction fun w => q ⟨oth z, oth_lt hz, w, by rw [oth_oth]; exact s⟩
def Fixed (ts : Ties) (os : Ords) (c l : Nat → Int) (come : List Nat) (i : Nat) : Prop := ∀ (j k : Nat) (d : List Nat), i ≤ j → come[j]? = some k → (lls ts os)[k]? = some d → su d (trm c l) = 4
theorem Fixed.step {ts : Ties} {os : Ords} {nm : Nat → Nat} {o : Nat} {come : List Nat} {ways : Nat → Nat} {c l l' : Nat → Int} {i k : Nat} {d : List Nat} (g : Good ts os) (n : Num ts os nm) (cm : Come ts os nm o come ways) (f : Fixed ts os c l come (i + 1)) (h0 : 0 < i) (hi : come[i]? = some k) (hd : (lls ts os)[k]? = some d)
    (hl : ∀ z, l' z = l z + (if z = ways k then max (4 - su d (trm c l)) 0 else 0) + (if z = oth (ways k) then max (0 - (4 - su d (trm c l))) 0 else 0)) : Fixed ts os c l' come i := by
  intro j k' d' hj hk' hd'
  obtain ⟨w1, w2, j0, w3, w4⟩ := cm.way i k hi h0
  have hk := num_mem g n w1 hd'
  have hko := num_mem g n (oth_lt w1) hd'
  rw [su_lefts (lls_land g hd').1 hl]
  have uniq : ∀ {a b x : Nat}, come[a]? = some x → come[b]? = some x → a = b := fun {a b x} h1 h2 => by
    obtain ⟨ha, ea⟩ := List.getElem?_eq_some_iff.mp h1
    obtain ⟨hb, eb⟩ := List.getElem?_eq_some_iff.mp h2
    exact (List.getElem_inj cm.nd).mp (ea.trans eb.symm)
  have no : oth (ways k) ∉ d' := fun z => by
    have q := hko.mp z
    rw [q] at w4
    have := uniq w4 hk'
    omega
  rw [if_neg no]
  by_cases q : j = i
  · subst q
    rw [hi] at hk'
    cases hk'
    rw [hd] at hd'
    cases hd'
    rw [if_pos (hk.mpr w2)]
    omega
  · have ne : ways k ∉ d' := fun z => by
      have q2 := hk.mp z
      rw [w2] at q2
      subst q2
      exact q (uniq hk' hi)
    rw [if_neg ne]
    have := f j k' d' (by omega) hk' hd'
    omega
theorem shp_base {ts : Ties} {os : Ords} {nm : Nat → Nat} {o : Nat} {come : List Nat} {ways : Nat → Nat} {c l : Nat → Int} (g : Good ts os) (fl : Flat ts os) (cm : Come ts os nm o come ways) (all : ∀ k, k < (lls ts os).length → k ∈ come) (ho : o < (lls ts os).length) (pl : Plc ts os c) (pos : ∀ e, e < 2 * ts.length → 0 ≤ l e)
    (f : Fixed ts os c l come 1) : Shp ts os o c l := by
  refine shp_outer g fl pl pos ho fun k d hk hne => ?_
  obtain ⟨i, hi, ei⟩ := List.mem_iff_getElem.mp (all k (List.getElem?_eq_some_iff.mp hk).1)
  have hi' : come[i]? = some k := by rw [List.getElem?_eq_getElem hi, ei]
  refine f i k d ?_ hi' hk
  rcases Nat.eq_zero_or_pos i with z | z
  · subst z
    rw [cm.hd] at hi'
    cases hi'
    exact absurd rfl hne
  · exact z
end MM
namespace MM
theorem num_fn {ts : Ties} {os : Ords} (g : Good ts os) : ∃ nm, Num ts os nm := by
  have h : ∀ x : Nat, ∃ k : Nat, ∀ (j : Nat) (d : List Nat), (lls ts os)[j]? = some d → x ∈ d → j = k := fun x => by
    by_cases hx : x < 2 * ts.length
    · obtain ⟨k, _, _, _, u⟩ := lf_one g.maps _ _ (Nat.le_refl _) (fun y hy => List.mem_range.mp hy) x (List.mem_range.mpr hx)
      exact ⟨k, u⟩
    · exact ⟨0, fun j d hj hd => absurd ((lls_land g hj).2.1 x hd) hx⟩
  exact ⟨fun x => Classical.choose (h x), fun k d x hk hx => (Classical.choose_spec (h x) k d hk hx).symm⟩
theorem lls_uniq {ts : Ties} {os : Ords} (g : Good ts os) {k k' : Nat} {d d' : List Nat} {x : Nat} (h : (lls ts os)[k]? = some d) (hx : x ∈ d) (h' : (lls ts os)[k']? = some d') (hx' : x ∈ d') : k = k' := by
  obtain ⟨nm, n⟩ := num_fn g
  rw [← n k d x h hx, ← n k' d' x h' hx']
theorem lls_len {ts : Ties} {os : Ords} (g : Good ts os) : (lls ts os).length ≤ 2 * ts.length := by
  have := lf_len g.maps _ (List.range (2 * ts.length)) (Nat.le_refl _) (fun z hz => List.mem_range.mp hz)
  rw [List.length_range] at this
  exact this
theorem max0 (i : Int) : (if (0 : Int) > i then 0 else i) = max i 0 := by split <;> omega
end MM

namespace K05
open PySem L2 PyProof.Rows
variable {P : Program} {w : World} {K : PySem.W.Frag} {mg : Str → Option Value} {base : Heap} {t : Adr}
def spStep : Sp := fun vs H Q _ => ∃ (H0 : Hp) (ta oa : Addr) (pick most : Int) (rr : List Addr) (ts : MM.Ties) (os : MM.Ords), vs = [.ref ta, .ref oa, .int pick, .int most] ∧ Same H0 H ∧ MapM H0 H ta oa rr ts os ∧ MM.Good ts os ∧ ts.length ≤ 100 ∧ os.length ≤ 100 ∧ 0 ≤ pick ∧
  ∀ (H' : Hp) (rr' : List Addr) (ts' : MM.Ties) (os' : MM.Ords), Same H0 H' → MapM H0 H' ta oa rr' ts' os' → MM.Good ts' os' → ts'.length ≤ ts.length + 1 → os'.length ≤ os.length + 1 → MM.Grew ts os ts' os' → Q .non H'
theorem ok_lstep (T : Txt K mg t) : FnOk P w K mg base CX0 4 t.a_l_step t.d_l_step ["_law_ties", "_law_orders", "_law_pick", "_law_most"] spStep := by
  have G_l_other := ok_lother (P := P) (w := w) (base := base) T
  have G_l_place := ok_lplace (P := P) (w := w) (base := base) T
  have G_l_lands := ok_llands (P := P) (w := w) (base := base) T
  refine T.F_l_step.ok sc_l_step (fun vs H Q E h => ?_) (fun cdv A outer s H vs Q E hr h => ?_)
  · obtain ⟨H0, ta, oa, pick, most, rr, ts, os, rfl, _⟩ := h; rfl
  obtain ⟨H0, ta, oa, pick, most, rr, ts, os, rfl, g0, hm, g, ht100, ho100, hp0, q⟩ := h
  have nd := sc_l_step.nd
  refine ⟨_, (pss_cons (ps_set (i := 4) nd rfl (Or.inl rfl) (pe_call G_l_lands (hr.mono (by decide)) rfl T.m_l_lands T.k_l_lands T.b_l_lands .nil pass0 (pa_cons (pv 0) (pa_cons (pv 1) pa_nil))))
    (pss_cons (ps_set (i := 5) nd rfl (Or.inl rfl) (pe_ix ix_list (pv 4) (pe_op op_mod (pv 2) (pe_callB call_len_seq rfl T.z_len PySem.boot_len (pa_cons (pv 4) pa_nil))) (fun _ _ => rfl)))
    (pss_cons (ps_set (i := 6) nd rfl (Or.inl rfl) (pe_call G_l_other (hr.mono (by decide)) rfl T.m_l_other T.k_l_other T.b_l_other .nil pass0 (pa_cons (pe_ix ix_list (pv 5) (pe_op op_mod (pe_op op_fdiv (pv 2) pe_int) (pe_callB call_len_seq rfl T.z_len PySem.boot_len (pa_cons (pv 5) pa_nil))) (fun _ _ => rfl)) pa_nil)))
    (pss_cons (ps_set (i := 7) nd rfl (Or.inl rfl) (pe_call G_l_other (hr.mono (by decide)) rfl T.m_l_other T.k_l_other T.b_l_other .nil pass0 (pa_cons (pe_ix ix_list (pv 5) (pe_op op_mod (pe_op op_fdiv (pv 2) pe_int) (pe_callB call_len_seq rfl T.z_len PySem.boot_len (pa_cons (pv 5) pa_nil))) (fun _ _ => rfl)) pa_nil)))
    (pss_cons (ps_set (i := 8) nd rfl (Or.inl rfl) (pe_call G_l_place (hr.mono (by decide)) rfl T.m_l_place T.k_l_place T.b_l_place .nil pass0 (pa_cons (pv 0) (pa_cons (pv 6) pa_nil))))
    (pss_cons (ps_set (i := 9) nd rfl (Or.inl rfl) (pe_call G_l_place (hr.mono (by decide)) rfl T.m_l_place T.k_l_place T.b_l_place .nil pass0 (pa_cons (pv 0) (pa_cons (pv 7) pa_nil))))
    (pss_cons (ps_set (i := 10) nd rfl (Or.inl rfl) (pe_op op_mul pe_int (pe_callB call_len_seq rfl T.z_len PySem.boot_len (pa_cons (pv 0) pa_nil))))
    (pss_one (ps_if (PW.pt (pw_and (pt_cmpR op_eq (pe_op op_mod (pe_op op_fdiv (pv 2) pe_int) pe_int) pe_int (nomark _)) (pw_and (pt_cmpR op_lt (pe_callB call_len_seq rfl T.z_len PySem.boot_len (pa_cons (pv 1) pa_nil)) (pv 3) (nomark _)) (pw_and1 (pt_cmpR op_lt (pe_callB call_len_seq rfl T.z_len PySem.boot_len (pa_cons (pe_ix ix_list (pv 1) (pv 8) (fun _ _ => rfl)) pa_nil)) pe_int (nomark _)))))) (pss_cons (ps_expr (pe_bm PySem.F.plainAttrs_list PySem.F.slot_list_insert PySem.F.type_list_insert mt_insert (pe_ix ix_list (pv 1) (pv 8) (fun _ _ => rfl)) (pa_cons (pe_bm PySem.F.plainAttrs_list PySem.F.slot_list_index PySem.F.type_list_index mt_index (pe_ix ix_list (pv 1) (pv 8) (fun _ _ => rfl)) (pa_cons (pv 6) pa_nil)) (pa_cons (pv 10) pa_nil))))
    (pss_cons (ps_expr (pe_bm PySem.F.plainAttrs_list PySem.F.slot_list_append PySem.F.type_list_append mt_append (pv 0) (pa_cons (pe_tup (pa_cons (pv 8) (pa_cons (pe_callB call_len_seq rfl T.z_len PySem.boot_len (pa_cons (pv 1) pa_nil)) pa_nil))) pa_nil)))
    (pss_one (ps_expr (pe_bm PySem.F.plainAttrs_list PySem.F.slot_list_append PySem.F.type_list_append mt_append (pv 1) (pa_cons (pe_lst (pa_cons (pe_op op_add (pv 10) pe_int) pa_nil)) pa_nil)))))) (pss_one (ps_if (PW.pt (pw_and (pt_cmpR op_lt (pe_callB call_len_seq rfl T.z_len PySem.boot_len (pa_cons (pe_ix ix_list (pv 1) (pv 8) (fun _ _ => rfl)) pa_nil)) (pe_op op_sub pe_int (pe_callTy call_int1 rfl T.z_int boot_int (pa_cons (pe_cmpR op_eq (pv 8) (pv 9) (nomark _)) pa_nil))) (nomark _)) (pw_and1 (pt_cmpR op_lt (pe_callB call_len_seq rfl T.z_len PySem.boot_len (pa_cons (pe_ix ix_list (pv 1) (pv 9) (fun _ _ => rfl)) pa_nil)) (pe_op op_sub pe_int (pe_callTy call_int1 rfl T.z_int boot_int (pa_cons (pe_cmpR op_eq (pv 8) (pv 9) (nomark _)) pa_nil))) (nomark _))))) (pss_cons (ps_expr (pe_bm PySem.F.plainAttrs_list PySem.F.slot_list_insert PySem.F.type_list_insert mt_insert (pe_ix ix_list (pv 1) (pv 8) (fun _ _ => rfl)) (pa_cons (pe_bm PySem.F.plainAttrs_list PySem.F.slot_list_index PySem.F.type_list_index mt_index (pe_ix ix_list (pv 1) (pv 8) (fun _ _ => rfl)) (pa_cons (pv 6) pa_nil)) (pa_cons (pv 10) pa_nil))))
    (pss_cons (ps_expr (pe_bm PySem.F.plainAttrs_list PySem.F.slot_list_insert PySem.F.type_list_insert mt_insert (pe_ix ix_list (pv 1) (pv 9) (fun _ _ => rfl)) (pa_cons (pe_bm PySem.F.plainAttrs_list PySem.F.slot_list_index PySem.F.type_list_index mt_index (pe_ix ix_list (pv 1) (pv 9) (fun _ _ => rfl)) (pa_cons (pv 7) pa_nil)) (pa_cons (pe_op op_add (pv 10) pe_int) pa_nil))))
    (pss_one (ps_expr (pe_bm PySem.F.plainAttrs_list PySem.F.slot_list_append PySem.F.type_list_append mt_append (pv 0) (pa_cons (pe_tup (pa_cons (pv 8) (pa_cons (pv 9) pa_nil))) pa_nil)))))) pss_nil))))))))))), ?_⟩
  have m := g.maps
  refine ⟨_, rfl, _, rfl, ta, oa, ts, os, rfl, hm.ts, hm.os.os, g, by omega, fun r1 rr1 H1 g1 n1 => ?_⟩
  have hm1 := hm.keep g1
  have lpos := MM.landsOf_pos m (by have := g.one; omega)
  -- land
  have rl1 : (rr1.map V.ref).length = (MM.landsOf (MM.behind ts os) (2 * ts.length)).length := by rw [List.length_map]; exact n1.len
  obtain ⟨k1, hk1, ek1⟩ := MM.mod_ix pick (n := (rr1.map V.ref).length) (by omega)
  obtain ⟨x1, x11, x12, x13, x14⟩ := n1.item (p := k1) (by omega)
  obtain ⟨lp, ll⟩ := MM.landsOf_mem m (d := MM.row (MM.landsOf (MM.behind ts os) (2 * ts.length)) k1) (by
    unfold MM.row
    have : k1 < (MM.landsOf (MM.behind ts os) (2 * ts.length)).length := by omega
    simp only [List.getD, List.getElem?_eq_getElem this, Option.getD_some]
    exact List.getElem_mem this)
  have lsame : ∀ x ∈ MM.row (MM.landsOf (MM.behind ts os) (2 * ts.length)) k1, ∀ y ∈ MM.row (MM.landsOf (MM.behind ts os) (2 * ts.length)) k1, y ∈ MM.landOf (MM.behind ts os) x := by
    have hk : k1 < (MM.landsOf (MM.behind ts os) (2 * ts.length)).length := by omega
    have hd : MM.row (MM.landsOf (MM.behind ts os) (2 * ts.length)) k1 ∈ MM.landsOf (MM.behind ts os) (2 * ts.length) := by
      unfold MM.row
      simp only [List.getD, List.getElem?_eq_getElem hk, Option.getD_some]
      exact List.getElem_mem hk
    obtain ⟨e, he, hde⟩ := MM.lf_mem m _ (List.range (2 * ts.length)) (Nat.le_refl _) (fun x hx => List.mem_range.mp hx) _ hd
    have heN := List.mem_range.mp he
    intro x hx y hy
    rw [hde] at hx hy
    exact MM.land_trans m (MM.land_lt m heN x hx) (MM.land_symm m heN hx) hy
  generalize MM.row (MM.landsOf (MM.behind ts os) (2 * ts.length)) k1 = land at x13 lp ll lsame
  have ll1 : (vns land).length = land.length := List.length_map _
  refine ⟨_, rfl, _, rfl, _, rfl, r1, _, rfl, .inl (SqL.of n1.at_), _, _, rfl, rfl, (by show (0 : Int) < ((rr1.map V.ref).length : Nat); omega), r1, _, _, _, rfl, rfl, SqL.of n1.at_, (by show atI _ (pick % ((rr1.map V.ref).length : Nat)) = _; rw [ek1]; exact x14), ?_⟩
  -- one, other_here
  obtain ⟨k2, hk2, ek2⟩ := MM.mod_ix (pick / 8) (n := (vns land).length) (by omega)
  obtain ⟨k3, hk3, ek3⟩ := MM.mod_ix (pick / 128) (n := (vns land).length) (by omega)
  have e2 := ll (land.getD k2 0) (by simp only [List.getD, List.getElem?_eq_getElem (show k2 < land.length by omega), Option.getD_some]; exact List.getElem_mem _)
  have e3 := ll (land.getD k3 0) (by simp only [List.getD, List.getElem?_eq_getElem (show k3 < land.length by omega), Option.getD_some]; exact List.getElem_mem _)
  refine ⟨_, rfl, _, rfl, _, _, rfl, rfl, ⟨by decide, by decide⟩, _, rfl, x1, _, rfl, .inl (SqL.of x13), _, _, rfl, rfl, (by show (0 : Int) < ((vns land).length : Nat); omega), x1, _, _, _, rfl, rfl, SqL.of x13, (by show atI _ (pick / 8 % ((vns land).length : Nat)) = _; rw [ek2]; exact at_vns (by omega) rfl), _, rfl, ?_⟩
  refine ⟨_, rfl, _, rfl, _, _, rfl, rfl, ⟨by decide, by decide⟩, _, rfl, x1, _, rfl, .inl (SqL.of x13), _, _, rfl, rfl, (by show (0 : Int) < ((vns land).length : Nat); omega), x1, _, _, _, rfl, rfl, SqL.of x13, (by show atI _ (pick / 128 % ((vns land).length : Nat)) = _; rw [ek3]; exact at_vns (by omega) rfl), _, rfl, ?_⟩
  have e23 := lsame (land.getD k2 0) (by simp only [List.getD, List.getElem?_eq_getElem (show k2 < land.length by omega), Option.getD_some]; exact List.getElem_mem _) (land.getD k3 0) (by simp only [List.getD, List.getElem?_eq_getElem (show k3 < land.length by omega), Option.getD_some]; exact List.getElem_mem _)
  generalize land.getD k2 0 = u1 at e2 e23
  generalize land.getD k3 0 = u2 at e3 e23
  have o1 := g.g.has (MM.oth u1) (MM.oth_lt e2)
  have o2 := g.g.has (MM.oth u2) (MM.oth_lt e3)
  have lt1 := MM.oth_lt e2
  have lt2 := MM.oth_lt e3
  generalize ho1 : MM.oth u1 = one at o1 lt1
  generalize ho2 : MM.oth u2 = two at o2 lt2
  refine ⟨_, rfl, _, rfl, ta, ts, one, rfl, hm1.ts, lt1, ?_⟩
  refine ⟨_, rfl, _, rfl, ta, ts, two, rfl, hm1.ts, lt2, ?_⟩
  obtain ⟨ha0, ha1⟩ := o1
  obtain ⟨hb0, hb1⟩ := o2
  generalize hpa : MM.place ts one = a at ha0 ha1
  generalize hpb : MM.place ts two = b at hb0 hb1
  -- end
  obtain ⟨tr, tr1, tr2, tr3⟩ := id hm1.ts
  refine ⟨_, rfl, ta, _, rfl, .inl (SqL.of tr1), _, _, rfl, rfl, .inl ⟨by decide, by decide⟩, ?_⟩
  have eE : (2 : Int) * ((tr.map V.ref).length : Nat) = ((2 * ts.length : Nat) : Int) := by rw [List.length_map, tr2]; push_cast; rfl
  show gName 10 (V.int ((2 : Int) * ((tr.map V.ref).length : Nat))) _ _ _
  rw [eE]
  have n2 := hm1.os
  have g2 := g0.trans g1
  obtain ⟨xa, xa1, xa2, xa3, xa4⟩ := n2.item ha0
  have hra : ((vns (MM.row os a)).length : Int) = ((MM.row os a).length : Nat) := by rw [List.length_map]
  have hro : ((rr.map V.ref).length : Int) = (os.length : Nat) := by rw [List.length_map, n2.len]
  have nta : ta ≠ xa := fun z => hm1.ar (z ▸ xa2)
  have noa : oa ≠ xa := fun z => n2.nin (z ▸ xa2)
  have ia := List.idxOf_lt_length_of_mem ha1
  -- nothing is put in
  have noneC : Q .non H1 := q H1 rr ts os g2 hm1 g (by omega) (by omega) (.inl ⟨rfl, rfl⟩)
  refine ⟨_, rfl, _, _, rfl, rfl, ⟨by decide, by decide⟩, _, _, rfl, rfl, (by show (0 : Int) < 3; decide), rfl, _, rfl, ?_⟩
  refine ite2 (fun c1 => ?_) (fun c1 => ?_)
  · refine ⟨_, rfl, oa, _, rfl, .inl (SqL.of n2.at_), _, rfl, _, _, rfl, rfl, _, rfl, ?_⟩
    refine ite2 (fun c2 => ?_) (fun c2 => ?_)
    · refine ⟨_, rfl, _, rfl, oa, _, _, _, rfl, rfl, SqL.of n2.at_, xa4, xa, _, rfl, .inl (SqL.of xa3), _, _, rfl, rfl, _, rfl, ?_⟩
      refine ite2 (fun c3 => ?_) (fun c3 => ?_)
      · have c3' : ((vns (MM.row os a)).length : Int) < 4 := of_decide_eq_true c3
        rw [hra] at c3'
        have h3 : (MM.row os a).length < 4 := by omega
        refine ⟨_, rfl, _, rfl, oa, _, _, _, rfl, rfl, SqL.of n2.at_, xa4, .inl ⟨rfl, _, SqL.of xa3⟩, _, rfl, _, rfl, oa, _, _, _, rfl, rfl, SqL.of n2.at_, xa4, .inl ⟨rfl, _, SqL.of xa3⟩, _, rfl, xa, _, one, rfl, rfl, xa3, ha1, _, rfl, xa, _, _, _, rfl, rfl, xa3, ?_, ?_, ?_⟩
        · rw [List.length_map]; omega
        · rw [List.length_map]; exact Nat.lt_of_le_of_lt (g.g.four a) (by decide)
        rw [MM.insAt_vns]
        have n3 := n2.set (l := insAt (MM.row os a) ((MM.row os a).idxOf one) (2 * ts.length)) xa1
        have t3 := hm1.ts.other xa3 (Ne.symm nta) (.lst (vns (insAt (MM.row os a) ((MM.row os a).idxOf one) (2 * ts.length))))
        have s3 : Same H0 (upd H1 xa (.lst (vns (insAt (MM.row os a) ((MM.row os a).idxOf one) (2 * ts.length))))) := fun c u h => by rw [upd_ne (ne_of_none h (n2.news _ xa2))]; exact g2 _ _ h
        have gd := g.newPlace (i := (MM.row os a).idxOf one) ha0 h3
        have ct := MM.lands_newPlace g e2 (by rw [ho1, hpa]; exact h3)
        rw [ho1, hpa] at ct
        have hol : (os.set a (insAt (MM.row os a) ((MM.row os a).idxOf one) (2 * ts.length))).length = os.length := List.length_set
        generalize upd H1 xa (.lst (vns (insAt (MM.row os a) ((MM.row os a).idxOf one) (2 * ts.length)))) = H3 at n3 t3 s3
        generalize os.set a (insAt (MM.row os a) ((MM.row os a).idxOf one) (2 * ts.length)) = os1 at n3 gd ct hol
        obtain ⟨tq, tq1, tq2, tq3⟩ := id t3
        refine ⟨_, rfl, .inl ⟨rfl, _, SqL.of tq1⟩, _, rfl, _, rfl, oa, _, rfl, .inl (SqL.of n3.at_), (by show 2 ≤ sizeLine; decide), fun tp htp => ?_⟩
        have e0 : (V.int ((rr.map V.ref).length : Nat)) = vn os.length := by rw [List.length_map, n2.len]
        rw [e0] at *
        have g5 := same_new htp (.tup [vn a, vn os.length])
        refine ⟨ta, _, _, rfl, rfl, g5 _ _ tq1, ?_, ?_⟩
        · rw [List.length_map, tq2]; exact Nat.lt_of_le_of_lt ht100 (by decide)
        have t5 := (g5.ts t3).push (t := (a, os.length)) (g5 _ _ tq1) upd_same
        have n5 : NewOs H0 (upd (upd H3 tp (.tup [vn a, vn os.length])) ta (.lst (tq.map V.ref ++ [.ref tp]))) oa rr os1 := n3.keep fun c u hc h => by
          rw [upd_ne (show c ≠ ta by rcases hc with rfl | hc; exact Ne.symm hm1.ao; rintro rfl; exact hm1.ar hc)]
          exact g5 _ _ h
        have s5 : Same H0 (upd (upd H3 tp (.tup [vn a, vn os.length])) ta (.lst (tq.map V.ref ++ [.ref tp]))) := fun c u h => by rw [upd_ne (ne_of_none h hm1.an)]; exact g5 _ _ (s3 _ _ h)
        generalize upd (upd H3 tp (.tup [vn a, vn os.length])) ta (.lst (tq.map V.ref ++ [.ref tp])) = H5 at t5 n5 s5
        refine ⟨_, rfl, .inl ⟨rfl, _, SqL.of n5.at_⟩, _, rfl, _, _, rfl, rfl, (by show 1 ≤ sizeLine; decide), fun nl hnl => ?_⟩
        have e1 : (fun i j : Int => V.int (i + j)) ((2 * ts.length : Nat) : Int) 1 = vn (2 * ts.length + 1) := rfl
        rw [e1] at *
        have g6 := same_new hnl (.lst [vn (2 * ts.length + 1)])
        refine ⟨oa, _, _, rfl, rfl, g6 _ _ n5.at_, ?_, ?_⟩
        · rw [List.length_map, n5.len, hol]; exact Nat.lt_of_le_of_lt ho100 (by decide)
        have nlr : nl ∉ rr := fun z => by obtain ⟨l, hl⟩ := n5.ex z; rw [hnl] at hl; cases hl
        have nlo : nl ≠ oa := (ne_of_none n5.at_ hnl).symm
        have n6 := n5.push (x := nl) (l := [2 * ts.length + 1]) (H2 := upd (upd H5 nl (.lst [vn (2 * ts.length + 1)])) oa (.lst (rr.map V.ref ++ [.ref nl]))) (s5.free hnl) nlr nlo (by rw [upd_same, List.map_append]; rfl) (by rw [upd_ne nlo]; exact upd_same) (fun c u hc h => by rw [upd_ne (show c ≠ oa from fun z => n5.nin (z ▸ hc))]; exact g6 _ _ h)
        have t6 := (g6.ts t5).other (g6 _ _ n5.at_) (Ne.symm hm1.ao) (.lst (rr.map V.ref ++ [.ref nl]))
        have s6 : Same H0 (upd (upd H5 nl (.lst [vn (2 * ts.length + 1)])) oa (.lst (rr.map V.ref ++ [.ref nl]))) := fun c u h => by rw [upd_ne (ne_of_none h n2.new)]; exact g6 _ _ (s5 _ _ h)
        have tnl : ta ≠ nl := by obtain ⟨tq', z1, _⟩ := id t5; exact ne_of_none z1 hnl
        exact q _ (rr ++ [nl]) _ _ s6 ⟨t6, n6, hm1.an, hm1.ao, fun z => (List.mem_append.mp z).elim hm1.ar fun z => tnl (by simpa using z)⟩ gd (by rw [List.length_append]; exact Nat.le_refl _) (by rw [List.length_append, hol]; exact Nat.le_refl _) (.inr ⟨by rw [List.length_append]; rfl, .inl ⟨by rw [List.length_append, hol]; rfl, ct⟩⟩)
      · obtain ⟨xb, xb1, xb2, xb3, xb4⟩ := n2.item hb0
        refine ⟨_, rfl, _, rfl, oa, _, _, _, rfl, rfl, SqL.of n2.at_, xa4, xa, _, rfl, .inl (SqL.of xa3), _, rfl, _, rfl, rfl, .inr ⟨_, rfl, ?_⟩⟩
        refine ⟨_, _, rfl, rfl, _, _, rfl, rfl, _, rfl, ?_⟩
        refine ite2 (fun d1 => ?_) (fun d1 => iteFb rfl noneC)
        refine ⟨_, rfl, _, rfl, oa, _, _, _, rfl, rfl, SqL.of n2.at_, xb4, xb, _, rfl, .inl (SqL.of xb3), _, rfl, _, rfl, rfl, .inr ⟨_, rfl, ?_⟩⟩
        refine ⟨_, _, rfl, rfl, _, _, rfl, rfl, _, rfl, ?_⟩
        refine ite2 (fun d2 => ?_) (fun d2 => noneC)
        have h12 : (MM.row os a).length < 4 ∧ (MM.row (os.set a (insAt (MM.row os a) ((MM.row os a).idxOf one) (2 * ts.length))) b).length < 4 := by
          have d1' : ((vns (MM.row os a)).length : Int) < 4 - (if decide (vn a = vn b) = true then 1 else 0) := of_decide_eq_true d1
          have d2' : ((vns (MM.row os b)).length : Int) < 4 - (if decide (vn a = vn b) = true then 1 else 0) := of_decide_eq_true d2
          rw [hra] at d1'
          rw [List.length_map] at d2'
          by_cases hab : a = b
          · subst hab
            rw [if_pos (by simp)] at d1'
            rw [MM.row_set_same ha0, MM.insAt_len]
            omega
          · have nab : ¬ (decide (vn a = vn b) = true) := by
              intro z
              have z' := of_decide_eq_true z
              injection z' with z'
              exact hab (by omega)
            rw [if_neg nab] at d1' d2'
            rw [MM.row_set_ne (Ne.symm hab)]
            omega
        refine ⟨_, rfl, _, rfl, oa, _, _, _, rfl, rfl, SqL.of n2.at_, xa4, .inl ⟨rfl, _, SqL.of xa3⟩, _, rfl, _, rfl, oa, _, _, _, rfl, rfl, SqL.of n2.at_, xa4, .inl ⟨rfl, _, SqL.of xa3⟩, _, rfl, xa, _, one, rfl, rfl, xa3, ha1, _, rfl, xa, _, _, _, rfl, rfl, xa3, ?_, ?_, ?_⟩
        · rw [List.length_map]; omega
        · rw [List.length_map]; exact Nat.lt_of_le_of_lt (g.g.four a) (by decide)
        rw [MM.insAt_vns]
        have n3 := n2.set (l := insAt (MM.row os a) ((MM.row os a).idxOf one) (2 * ts.length)) xa1
        have t3 := hm1.ts.other xa3 (Ne.symm nta) (.lst (vns (insAt (MM.row os a) ((MM.row os a).idxOf one) (2 * ts.length))))
        have s3 : Same H0 (upd H1 xa (.lst (vns (insAt (MM.row os a) ((MM.row os a).idxOf one) (2 * ts.length))))) := fun c u h => by rw [upd_ne (ne_of_none h (n2.news _ xa2))]; exact g2 _ _ h
        have hb2 : two ∈ MM.row (os.set a (insAt (MM.row os a) ((MM.row os a).idxOf one) (2 * ts.length))) b := by
          by_cases hab : b = a
          · subst hab; rw [MM.row_set_same ha0]; exact MM.insAt_mem.mpr (.inr hb1)
          · rw [MM.row_set_ne hab]; exact hb1
        have gd := g.newTie (i := (MM.row os a).idxOf one) (j := (MM.row (os.set a (insAt (MM.row os a) ((MM.row os a).idxOf one) (2 * ts.length))) b).idxOf two) ha0 hb0 h12.1 h12.2
        have ct := MM.lands_newTie g e2 e23 (a := a) (b := b) (by rw [ho1]; exact hpa) (by rw [ho2]; exact hpb) h12.1 (by rw [ho1]; exact h12.2)
        rw [ho1, ho2] at ct
        have hol : (os.set a (insAt (MM.row os a) ((MM.row os a).idxOf one) (2 * ts.length))).length = os.length := List.length_set
        generalize upd H1 xa (.lst (vns (insAt (MM.row os a) ((MM.row os a).idxOf one) (2 * ts.length)))) = H3 at n3 t3 s3
        generalize os.set a (insAt (MM.row os a) ((MM.row os a).idxOf one) (2 * ts.length)) = os1 at n3 hb2 gd ct h12 hol
        obtain ⟨yb, yb1, yb2, yb3, yb4⟩ := n3.item (p := b) (by omega)
        have ib := List.idxOf_lt_length_of_mem hb2
        refine ⟨_, rfl, _, rfl, oa, _, _, _, rfl, rfl, SqL.of n3.at_, yb4, .inl ⟨rfl, _, SqL.of yb3⟩, _, rfl, _, rfl, oa, _, _, _, rfl, rfl, SqL.of n3.at_, yb4, .inl ⟨rfl, _, SqL.of yb3⟩, _, rfl, yb, _, two, rfl, rfl, yb3, hb2, _, rfl, _, _, rfl, rfl, yb, _, _, _, rfl, rfl, yb3, ?_, ?_, ?_⟩
        · rw [List.length_map]; omega
        · rw [List.length_map]; exact Nat.lt_trans h12.2 (by decide)
        have e1 : (fun i j : Int => V.int (i + j)) ((2 * ts.length : Nat) : Int) 1 = vn (2 * ts.length + 1) := rfl
        rw [e1, MM.insAt_vns]
        have n4 := n3.set (l := insAt (MM.row os1 b) ((MM.row os1 b).idxOf two) (2 * ts.length + 1)) yb1
        have t4 := t3.other yb3 (fun z => hm1.ar (z ▸ yb2)) (.lst (vns (insAt (MM.row os1 b) ((MM.row os1 b).idxOf two) (2 * ts.length + 1))))
        have s4 : Same H0 (upd H3 yb (.lst (vns (insAt (MM.row os1 b) ((MM.row os1 b).idxOf two) (2 * ts.length + 1))))) := fun c u h => by rw [upd_ne (ne_of_none h (n2.news _ yb2))]; exact s3 _ _ h
        generalize upd H3 yb (.lst (vns (insAt (MM.row os1 b) ((MM.row os1 b).idxOf two) (2 * ts.length + 1)))) = H4 at n4 t4 s4
        obtain ⟨tq, tq1, tq2, tq3⟩ := id t4
        refine ⟨_, rfl, .inl ⟨rfl, _, SqL.of tq1⟩, _, rfl, _, rfl, (by show 2 ≤ sizeLine; decide), fun tp htp => ?_⟩
        have g5 := same_new htp (.tup [vn a, vn b])
        refine ⟨ta, _, _, rfl, rfl, g5 _ _ tq1, ?_, ?_⟩
        · rw [List.length_map, tq2]; exact Nat.lt_of_le_of_lt ht100 (by decide)
        have t5 := (g5.ts t4).push (t := (a, b)) (g5 _ _ tq1) upd_same
        have n5 : NewOs H0 (upd (upd H4 tp (.tup [vn a, vn b])) ta (.lst (tq.map V.ref ++ [.ref tp]))) oa rr (os1.set b (insAt (MM.row os1 b) ((MM.row os1 b).idxOf two) (2 * ts.length + 1))) := n4.keep fun c u hc h => by
          rw [upd_ne (show c ≠ ta by rcases hc with rfl | hc; exact Ne.symm hm1.ao; rintro rfl; exact hm1.ar hc)]
          exact g5 _ _ h
        have s5 : Same H0 (upd (upd H4 tp (.tup [vn a, vn b])) ta (.lst (tq.map V.ref ++ [.ref tp]))) := fun c u h => by rw [upd_ne (ne_of_none h hm1.an)]; exact g5 _ _ (s4 _ _ h)
        exact q _ rr _ _ s5 ⟨t5, n5, hm1.an, hm1.ao, hm1.ar⟩ gd (by rw [List.length_append]; exact Nat.le_refl _) (by rw [List.length_set]; omega) (.inr ⟨by rw [List.length_append]; rfl, .inr ⟨by rw [List.length_set]; exact hol, ct⟩⟩)
    · obtain ⟨xb, xb1, xb2, xb3, xb4⟩ := n2.item hb0
      refine iteFb rfl ?_
      refine ⟨_, rfl, _, rfl, oa, _, _, _, rfl, rfl, SqL.of n2.at_, xa4, xa, _, rfl, .inl (SqL.of xa3), _, rfl, _, rfl, rfl, .inr ⟨_, rfl, ?_⟩⟩
      refine ⟨_, _, rfl, rfl, _, _, rfl, rfl, _, rfl, ?_⟩
      refine ite2 (fun d1 => ?_) (fun d1 => iteFb rfl noneC)
      refine ⟨_, rfl, _, rfl, oa, _, _, _, rfl, rfl, SqL.of n2.at_, xb4, xb, _, rfl, .inl (SqL.of xb3), _, rfl, _, rfl, rfl, .inr ⟨_, rfl, ?_⟩⟩
      refine ⟨_, _, rfl, rfl, _, _, rfl, rfl, _, rfl, ?_⟩
      refine ite2 (fun d2 => ?_) (fun d2 => noneC)
      have h12 : (MM.row os a).length < 4 ∧ (MM.row (os.set a (insAt (MM.row os a) ((MM.row os a).idxOf one) (2 * ts.length))) b).length < 4 := by
        have d1' : ((vns (MM.row os a)).length : Int) < 4 - (if decide (vn a = vn b) = true then 1 else 0) := of_decide_eq_true d1
        have d2' : ((vns (MM.row os b)).length : Int) < 4 - (if decide (vn a = vn b) = true then 1 else 0) := of_decide_eq_true d2
        rw [hra] at d1'
        rw [List.length_map] at d2'
        by_cases hab : a = b
        · subst hab
          rw [if_pos (by simp)] at d1'
          rw [MM.row_set_same ha0, MM.insAt_len]
          omega
        · have nab : ¬ (decide (vn a = vn b) = true) := by
            intro z
            have z' := of_decide_eq_true z
            injection z' with z'
            exact hab (by omega)
          rw [if_neg nab] at d1' d2'
          rw [MM.row_set_ne (Ne.symm hab)]
          omega
      refine ⟨_, rfl, _, rfl, oa, _, _, _, rfl, rfl, SqL.of n2.at_, xa4, .inl ⟨rfl, _, SqL.of xa3⟩, _, rfl, _, rfl, oa, _, _, _, rfl, rfl, SqL.of n2.at_, xa4, .inl ⟨rfl, _, SqL.of xa3⟩, _, rfl, xa, _, one, rfl, rfl, xa3, ha1, _, rfl, xa, _, _, _, rfl, rfl, xa3, ?_, ?_, ?_⟩
      · rw [List.length_map]; omega
      · rw [List.length_map]; exact Nat.lt_of_le_of_lt (g.g.four a) (by decide)
      rw [MM.insAt_vns]
      have n3 := n2.set (l := insAt (MM.row os a) ((MM.row os a).idxOf one) (2 * ts.length)) xa1
      have t3 := hm1.ts.other xa3 (Ne.symm nta) (.lst (vns (insAt (MM.row os a) ((MM.row os a).idxOf one) (2 * ts.length))))
      have s3 : Same H0 (upd H1 xa (.lst (vns (insAt (MM.row os a) ((MM.row os a).idxOf one) (2 * ts.length))))) := fun c u h => by rw [upd_ne (ne_of_none h (n2.news _ xa2))]; exact g2 _ _ h
      have hb2 : two ∈ MM.row (os.set a (insAt (MM.row os a) ((MM.row os a).idxOf one) (2 * ts.length))) b := by
        by_cases hab : b = a
        · subst hab; rw [MM.row_set_same ha0]; exact MM.insAt_mem.mpr (.inr hb1)
        · rw [MM.row_set_ne hab]; exact hb1
      have gd := g.newTie (i := (MM.row os a).idxOf one) (j := (MM.row (os.set a (insAt (MM.row os a) ((MM.row os a).idxOf one) (2 * ts.length))) b).idxOf two) ha0 hb0 h12.1 h12.2
      have ct := MM.lands_newTie g e2 e23 (a := a) (b := b) (by rw [ho1]; exact hpa) (by rw [ho2]; exact hpb) h12.1 (by rw [ho1]; exact h12.2)
      rw [ho1, ho2] at ct
      have hol : (os.set a (insAt (MM.row os a) ((MM.row os a).idxOf one) (2 * ts.length))).length = os.length := List.length_set
      generalize upd H1 xa (.lst (vns (insAt (MM.row os a) ((MM.row os a).idxOf one) (2 * ts.length)))) = H3 at n3 t3 s3
      generalize os.set a (insAt (MM.row os a) ((MM.row os a).idxOf one) (2 * ts.length)) = os1 at n3 hb2 gd ct h12 hol
      obtain ⟨yb, yb1, yb2, yb3, yb4⟩ := n3.item (p := b) (by omega)
      have ib := List.idxOf_lt_length_of_mem hb2
      refine ⟨_, rfl, _, rfl, oa, _, _, _, rfl, rfl, SqL.of n3.at_, yb4, .inl ⟨rfl, _, SqL.of yb3⟩, _, rfl, _, rfl, oa, _, _, _, rfl, rfl, SqL.of n3.at_, yb4, .inl ⟨rfl, _, SqL.of yb3⟩, _, rfl, yb, _, two, rfl, rfl, yb3, hb2, _, rfl, _, _, rfl, rfl, yb, _, _, _, rfl, rfl, yb3, ?_, ?_, ?_⟩
      · rw [List.length_map]; omega
      · rw [List.length_map]; exact Nat.lt_trans h12.2 (by decide)
      have e1 : (fun i j : Int => V.int (i + j)) ((2 * ts.length : Nat) : Int) 1 = vn (2 * ts.length + 1) := rfl
      rw [e1, MM.insAt_vns]
      have n4 := n3.set (l := insAt (MM.row os1 b) ((MM.row os1 b).idxOf two) (2 * ts.length + 1)) yb1
      have t4 := t3.other yb3 (fun z => hm1.ar (z ▸ yb2)) (.lst (vns (insAt (MM.row os1 b) ((MM.row os1 b).idxOf two) (2 * ts.length + 1))))
      have s4 : Same H0 (upd H3 yb (.lst (vns (insAt (MM.row os1 b) ((MM.row os1 b).idxOf two) (2 * ts.length + 1))))) := fun c u h => by rw [upd_ne (ne_of_none h (n2.news _ yb2))]; exact s3 _ _ h
      generalize upd H3 yb (.lst (vns (insAt (MM.row os1 b) ((MM.row os1 b).idxOf two) (2 * ts.length + 1)))) = H4 at n4 t4 s4
      obtain ⟨tq, tq1, tq2, tq3⟩ := id t4
      refine ⟨_, rfl, .inl ⟨rfl, _, SqL.of tq1⟩, _, rfl, _, rfl, (by show 2 ≤ sizeLine; decide), fun tp htp => ?_⟩
      have g5 := same_new htp (.tup [vn a, vn b])
      refine ⟨ta, _, _, rfl, rfl, g5 _ _ tq1, ?_, ?_⟩
      · rw [List.length_map, tq2]; exact Nat.lt_of_le_of_lt ht100 (by decide)
      have t5 := (g5.ts t4).push (t := (a, b)) (g5 _ _ tq1) upd_same
      have n5 : NewOs H0 (upd (upd H4 tp (.tup [vn a, vn b])) ta (.lst (tq.map V.ref ++ [.ref tp]))) oa rr (os1.set b (insAt (MM.row os1 b) ((MM.row os1 b).idxOf two) (2 * ts.length + 1))) := n4.keep fun c u hc h => by
        rw [upd_ne (show c ≠ ta by rcases hc with rfl | hc; exact Ne.symm hm1.ao; rintro rfl; exact hm1.ar hc)]
        exact g5 _ _ h
      have s5 : Same H0 (upd (upd H4 tp (.tup [vn a, vn b])) ta (.lst (tq.map V.ref ++ [.ref tp]))) := fun c u h => by rw [upd_ne (ne_of_none h hm1.an)]; exact g5 _ _ (s4 _ _ h)
      exact q _ rr _ _ s5 ⟨t5, n5, hm1.an, hm1.ao, hm1.ar⟩ gd (by rw [List.length_append]; exact Nat.le_refl _) (by rw [List.length_set]; omega) (.inr ⟨by rw [List.length_append]; rfl, .inr ⟨by rw [List.length_set]; exact hol, ct⟩⟩)
  · obtain ⟨xb, xb1, xb2, xb3, xb4⟩ := n2.item hb0
    refine iteFb rfl ?_
    refine ⟨_, rfl, _, rfl, oa, _, _, _, rfl, rfl, SqL.of n2.at_, xa4, xa, _, rfl, .inl (SqL.of xa3), _, rfl, _, rfl, rfl, .inr ⟨_, rfl, ?_⟩⟩
    refine ⟨_, _, rfl, rfl, _, _, rfl, rfl, _, rfl, ?_⟩
    refine ite2 (fun d1 => ?_) (fun d1 => iteFb rfl noneC)
    refine ⟨_, rfl, _, rfl, oa, _, _, _, rfl, rfl, SqL.of n2.at_, xb4, xb, _, rfl, .inl (SqL.of xb3), _, rfl, _, rfl, rfl, .inr ⟨_, rfl, ?_⟩⟩
    refine ⟨_, _, rfl, rfl, _, _, rfl, rfl, _, rfl, ?_⟩
    refine ite2 (fun d2 => ?_) (fun d2 => noneC)
    have h12 : (MM.row os a).length < 4 ∧ (MM.row (os.set a (insAt (MM.row os a) ((MM.row os a).idxOf one) (2 * ts.length))) b).length < 4 := by
      have d1' : ((vns (MM.row os a)).length : Int) < 4 - (if decide (vn a = vn b) = true then 1 else 0) := of_decide_eq_true d1
      have d2' : ((vns (MM.row os b)).length : Int) < 4 - (if decide (vn a = vn b) = true then 1 else 0) := of_decide_eq_true d2
      rw [hra] at d1'
      rw [List.length_map] at d2'
      by_cases hab : a = b
      · subst hab
        rw [if_pos (by simp)] at d1'
        rw [MM.row_set_same ha0, MM.insAt_len]
        omega
      · have nab : ¬ (decide (vn a = vn b) = true) := by
          intro z
          have z' := of_decide_eq_true z
          injection z' with z'
          exact hab (by omega)
        rw [if_neg nab] at d1' d2'
        rw [MM.row_set_ne (Ne.symm hab)]
        omega
    refine ⟨_, rfl, _, rfl, oa, _, _, _, rfl, rfl, SqL.of n2.at_, xa4, .inl ⟨rfl, _, SqL.of xa3⟩, _, rfl, _, rfl, oa, _, _, _, rfl, rfl, SqL.of n2.at_, xa4, .inl ⟨rfl, _, SqL.of xa3⟩, _, rfl, xa, _, one, rfl, rfl, xa3, ha1, _, rfl, xa, _, _, _, rfl, rfl, xa3, ?_, ?_, ?_⟩
    · rw [List.length_map]; omega
    · rw [List.length_map]; exact Nat.lt_of_le_of_lt (g.g.four a) (by decide)
    rw [MM.insAt_vns]
    have n3 := n2.set (l := insAt (MM.row os a) ((MM.row os a).idxOf one) (2 * ts.length)) xa1
    have t3 := hm1.ts.other xa3 (Ne.symm nta) (.lst (vns (insAt (MM.row os a) ((MM.row os a).idxOf one) (2 * ts.length))))
    have s3 : Same H0 (upd H1 xa (.lst (vns (insAt (MM.row os a) ((MM.row os a).idxOf one) (2 * ts.length))))) := fun c u h => by rw [upd_ne (ne_of_none h (n2.news _ xa2))]; exact g2 _ _ h
    have hb2 : two ∈ MM.row (os.set a (insAt (MM.row os a) ((MM.row os a).idxOf one) (2 * ts.length))) b := by
      by_cases hab : b = a
      · subst hab; rw [MM.row_set_same ha0]; exact MM.insAt_mem.mpr (.inr hb1)
      · rw [MM.row_set_ne hab]; exact hb1
    have gd := g.newTie (i := (MM.row os a).idxOf one) (j := (MM.row (os.set a (insAt (MM.row os a) ((MM.row os a).idxOf one) (2 * ts.length))) b).idxOf two) ha0 hb0 h12.1 h12.2
    have ct := MM.lands_newTie g e2 e23 (a := a) (b := b) (by rw [ho1]; exact hpa) (by rw [ho2]; exact hpb) h12.1 (by rw [ho1]; exact h12.2)
    rw [ho1, ho2] at ct
    have hol : (os.set a (insAt (MM.row os a) ((MM.row os a).idxOf one) (2 * ts.length))).length = os.length := List.length_set
    generalize upd H1 xa (.lst (vns (insAt (MM.row os a) ((MM.row os a).idxOf one) (2 * ts.length)))) = H3 at n3 t3 s3
    generalize os.set a (insAt (MM.row os a) ((MM.row os a).idxOf one) (2 * ts.length)) = os1 at n3 hb2 gd ct h12 hol
    obtain ⟨yb, yb1, yb2, yb3, yb4⟩ := n3.item (p := b) (by omega)
    have ib := List.idxOf_lt_length_of_mem hb2
    refine ⟨_, rfl, _, rfl, oa, _, _, _, rfl, rfl, SqL.of n3.at_, yb4, .inl ⟨rfl, _, SqL.of yb3⟩, _, rfl, _, rfl, oa, _, _, _, rfl, rfl, SqL.of n3.at_, yb4, .inl ⟨rfl, _, SqL.of yb3⟩, _, rfl, yb, _, two, rfl, rfl, yb3, hb2, _, rfl, _, _, rfl, rfl, yb, _, _, _, rfl, rfl, yb3, ?_, ?_, ?_⟩
    · rw [List.length_map]; omega
    · rw [List.length_map]; exact Nat.lt_trans h12.2 (by decide)
    have e1 : (fun i j : Int => V.int (i + j)) ((2 * ts.length : Nat) : Int) 1 = vn (2 * ts.length + 1) := rfl
    rw [e1, MM.insAt_vns]
    have n4 := n3.set (l := insAt (MM.row os1 b) ((MM.row os1 b).idxOf two) (2 * ts.length + 1)) yb1
    have t4 := t3.other yb3 (fun z => hm1.ar (z ▸ yb2)) (.lst (vns (insAt (MM.row os1 b) ((MM.row os1 b).idxOf two) (2 * ts.length + 1))))
    have s4 : Same H0 (upd H3 yb (.lst (vns (insAt (MM.row os1 b) ((MM.row os1 b).idxOf two) (2 * ts.length + 1))))) := fun c u h => by rw [upd_ne (ne_of_none h (n2.news _ yb2))]; exact s3 _ _ h
    generalize upd H3 yb (.lst (vns (insAt (MM.row os1 b) ((MM.row os1 b).idxOf two) (2 * ts.length + 1)))) = H4 at n4 t4 s4
    obtain ⟨tq, tq1, tq2, tq3⟩ := id t4
    refine ⟨_, rfl, .inl ⟨rfl, _, SqL.of tq1⟩, _, rfl, _, rfl, (by show 2 ≤ sizeLine; decide), fun tp htp => ?_⟩
    have g5 := same_new htp (.tup [vn a, vn b])
    refine ⟨ta, _, _, rfl, rfl, g5 _ _ tq1, ?_, ?_⟩
    · rw [List.length_map, tq2]; exact Nat.lt_of_le_of_lt ht100 (by decide)
    have t5 := (g5.ts t4).push (t := (a, b)) (g5 _ _ tq1) upd_same
    have n5 : NewOs H0 (upd (upd H4 tp (.tup [vn a, vn b])) ta (.lst (tq.map V.ref ++ [.ref tp]))) oa rr (os1.set b (insAt (MM.row os1 b) ((MM.row os1 b).idxOf two) (2 * ts.length + 1))) := n4.keep fun c u hc h => by
      rw [upd_ne (show c ≠ ta by rcases hc with rfl | hc; exact Ne.symm hm1.ao; rintro rfl; exact hm1.ar hc)]
      exact g5 _ _ h
    have s5 : Same H0 (upd (upd H4 tp (.tup [vn a, vn b])) ta (.lst (tq.map V.ref ++ [.ref tp]))) := fun c u h => by rw [upd_ne (ne_of_none h hm1.an)]; exact g5 _ _ (s4 _ _ h)
    exact q _ rr _ _ s5 ⟨t5, n5, hm1.an, hm1.ao, hm1.ar⟩ gd (by rw [List.length_append]; exact Nat.le_refl _) (by rw [List.length_set]; omega) (.inr ⟨by rw [List.length_append]; rfl, .inr ⟨by rw [List.length_set]; exact hol, ct⟩⟩)
end K05

namespace L2
open PySem PyProof.Rows
theorem TsAt.set {H : Hp} {a r : Addr} {ts : MM.Ties} {xs : List V} {t : Nat × Nat} {j : Nat} (h : TsAt H a ts) (hx : H a = some (.lst xs)) (hr : H r = some (.tup [vn t.1, vn t.2])) : TsAt (upd H a (.lst (xs.set j (.ref r)))) a (ts.set j t) := by
  obtain ⟨tr, h1, h2, h3⟩ := h
  have ex : xs = tr.map V.ref := by rw [hx] at h1; cases h1; rfl
  subst ex
  refine ⟨tr.set j r, by rw [upd_same, List.map_set], by rw [List.length_set, List.length_set, h2], fun i u hu => ?_⟩
  by_cases e : j = i
  · subst e
    have hj : j < ts.length := by
      have := (List.getElem?_eq_some_iff.mp hu).1
      rw [List.length_set] at this
      exact this
    rw [List.getElem?_set_self hj] at hu
    cases hu
    exact ⟨r, List.getElem?_set_self (by rw [h2]; exact hj), by rw [upd_ne (ne_of hr hx (fun z => nomatch z))]; exact hr⟩
  · rw [List.getElem?_set_ne e] at hu
    obtain ⟨y, q1, q2⟩ := h3 i u hu
    exact ⟨y, by rw [List.getElem?_set_ne e]; exact q1, by rw [upd_ne (ne_of q2 hx (fun z => nomatch z))]; exact q2⟩
theorem nodup_set {α : Type} {x : α} : ∀ {l : List α}, l.Nodup → x ∉ l → ∀ p, (l.set p x).Nodup
  | [], _, _, _ => by simp
  | a :: l, nd, h, 0 => by
    rw [List.set_cons_zero, List.nodup_cons]
    exact ⟨fun z => h (List.mem_cons_of_mem _ z), (List.nodup_cons.mp nd).2⟩
  | a :: l, nd, h, p + 1 => by
    rw [List.set_cons_succ, List.nodup_cons]
    refine ⟨fun z => ?_, nodup_set (List.nodup_cons.mp nd).2 (fun z => h (List.mem_cons_of_mem _ z)) p⟩
    rcases List.mem_or_eq_of_mem_set z with z | z
    · exact (List.nodup_cons.mp nd).1 z
    · subst z; exact h List.mem_cons_self
theorem NewOs.setRef {H0 H H2 : Hp} {o x : Addr} {rr : List Addr} {os : MM.Ords} {l : List Nat} {p : Nat} (n : NewOs H0 H o rr os) (hx : H0 x = none) (hxr : x ∉ rr) (hxo : x ≠ o) (at2 : H2 o = some (.lst ((rr.set p x).map V.ref))) (ax : H2 x = some (.lst (vns l)))
    (g : ∀ b u, b ∈ rr → H b = some u → H2 b = some u) : NewOs H0 H2 o (rr.set p x) (os.set p l) where
  at_ := at2
  len := by rw [List.length_set, List.length_set]; exact n.len
  row := fun i m h => by
    by_cases e : p = i
    · subst e
      have hp : p < os.length := by
        have := (List.getElem?_eq_some_iff.mp h).1
        rw [List.length_set] at this
        exact this
      rw [List.getElem?_set_self hp] at h
      cases h
      exact ⟨x, List.getElem?_set_self (by rw [n.len]; exact hp), ax⟩
    · rw [List.getElem?_set_ne e] at h
      obtain ⟨y, h1, h2⟩ := n.row i m h
      exact ⟨y, by rw [List.getElem?_set_ne e]; exact h1, g _ _ (List.mem_of_getElem? h1) h2⟩
  nd := nodup_set n.nd hxr p
  nin := fun z => by
    rcases List.mem_or_eq_of_mem_set z with z | z
    · exact n.nin z
    · exact hxo z.symm
  new := n.new
  news := fun y hy => by
    rcases List.mem_or_eq_of_mem_set hy with z | z
    · exact n.news y z
    · subst z; exact hx
theorem cut_from (l : List Nat) {k : Nat} (h : k ≤ l.length) : cutV (vns l) (some (k : Int)) none = vns (l.drop k) := by
  unfold cutV
  have e : (vns l).length = l.length := List.length_map _
  rw [HT.sIx_nat, HT.sIx_none, e, Nat.min_eq_left h]
  have e2 : (vns l).drop k = vns (l.drop k) := by unfold vns; rw [List.map_drop]
  rw [e2]
  exact List.take_of_length_le (by rw [List.length_map, List.length_drop]; exact Nat.le_refl _)
theorem cut_to (l : List Nat) {k : Nat} (h : k ≤ l.length) : cutV (vns l) none (some (k : Int)) = vns (l.take k) := by
  unfold cutV
  have e : (vns l).length = l.length := List.length_map _
  rw [HT.sIx_nat, HT.sIx_none, e, Nat.min_eq_left h, List.drop_zero, Nat.sub_zero]
  unfold vns
  rw [List.map_take]
theorem ixN_nat {n j : Nat} (h : j < n) : ixN n (j : Int) = some j := by
  unfold ixN
  rw [if_pos (by omega), if_pos (by omega)]
  simp
theorem rot_perm (l : List Nat) (k : Nat) : (l.drop k ++ l.take k).Perm l := by
  have h := List.perm_append_comm (l₁ := l.drop k) (l₂ := l.take k)
  rw [List.take_append_drop] at h
  exact h
end L2

namespace MM
theorem getD_set_ne {α : Type} {l : List α} {i j : Nat} {x d : α} (h : i ≠ j) : (l.set i x).getD j d = l.getD j d := by
  rw [List.getD_eq_getElem?_getD, List.getD_eq_getElem?_getD, List.getElem?_set_ne h]
theorem getD_set_same {α : Type} {l : List α} {i : Nat} {x d : α} (h : i < l.length) : (l.set i x).getD i d = x := by
  rw [List.getD_eq_getElem?_getD, List.getElem?_set_self h]
  rfl
theorem Good.tie {ts : Ties} {os : Ords} (g : Good ts os) {i : Nat} (hi : i < ts.length) : (ts.getD i (0, 0)).1 < os.length ∧ (ts.getD i (0, 0)).2 < os.length := by
  have h1 := (g.g.has (2 * i) (by omega)).1
  have h2 := (g.g.has (2 * i + 1) (by omega)).1
  unfold place at h1 h2
  rw [if_pos (by omega), show 2 * i / 2 = i by omega] at h1
  rw [if_neg (by omega), show (2 * i + 1) / 2 = i by omega] at h2
  exact ⟨h1, h2⟩
theorem nm_more (U : Nat → Nat) (fl : List Nat) (f : Nat) : (List.range (2 * (fl.length + 1))).map (fun e => L2.vn (nmF U (fun k => (fl ++ [f]).getD k 0) e)) =
    (List.range (2 * fl.length)).map (fun e => L2.vn (nmF U (fun k => fl.getD k 0) e)) ++ [L2.vn (2 * U fl.length + f), L2.vn (2 * U fl.length + (1 - f))] := by
  have e : 2 * (fl.length + 1) = 2 * fl.length + 1 + 1 := by omega
  rw [e, List.range_succ, List.range_succ, List.map_append, List.map_append, List.append_assoc]
  have h0 : (fl ++ [f]).getD fl.length 0 = f := by simp [List.getD]
  have e1 : nmF U (fun k => (fl ++ [f]).getD k 0) (2 * fl.length) = 2 * U fl.length + f := by
    unfold nmF
    rw [if_pos (by omega), show 2 * fl.length / 2 = fl.length by omega]
    show 2 * U fl.length + (fl ++ [f]).getD fl.length 0 = _
    rw [h0]
  have e2 : nmF U (fun k => (fl ++ [f]).getD k 0) (2 * fl.length + 1) = 2 * U fl.length + (1 - f) := by
    unfold nmF
    rw [if_neg (by omega), show (2 * fl.length + 1) / 2 = fl.length by omega]
    show 2 * U fl.length + (1 - (fl ++ [f]).getD fl.length 0) = _
    rw [h0]
  have e3 : (List.range (2 * fl.length)).map (fun e => L2.vn (nmF U (fun k => (fl ++ [f]).getD k 0) e)) = (List.range (2 * fl.length)).map (fun e => L2.vn (nmF U (fun k => fl.getD k 0) e)) := by
    refine List.map_congr_left fun x hx => ?_
    have hx' := List.mem_range.mp hx
    have q : (fl ++ [f]).getD (x / 2) 0 = fl.getD (x / 2) 0 := by
      have : x / 2 < fl.length := by omega
      simp [List.getD, List.getElem?_append_left this]
    unfold nmF
    show L2.vn (2 * U (x / 2) + (if x % 2 = 0 then (fl ++ [f]).getD (x / 2) 0 else 1 - (fl ++ [f]).getD (x / 2) 0)) = _
    rw [q]
  rw [e3]
  congr 1
  show [L2.vn _, L2.vn _] = _
  rw [e1, e2]
end MM
namespace K05
open PySem L2 PyProof.Rows
variable {P : Program} {w : World} {K : PySem.W.Frag} {mg : Str → Option Value} {base : Heap} {t : Adr}
def spRenamed : Sp := fun vs H Q _ => ∃ (ta oa : Addr) (c : Int) (ts : MM.Ties) (os : MM.Ords), vs = [.ref ta, .ref oa, .int c] ∧ TsAt H ta ts ∧ OsAt H oa os ∧ MM.Good ts os ∧ ts.length ≤ 400 ∧ os.length ≤ 400 ∧
  ∀ (r tA oA : Addr) (rr : List Addr) (ts' : MM.Ties) (os' : MM.Ords) (H' : Hp), Same H H' → H' r = some (.tup [vn os.length, .ref tA, .ref oA]) → MapM H H' tA oA rr ts' os' → MM.Good ts' os' → ts'.length = ts.length → os'.length = os.length → (MM.nLands ts' os' = MM.nLands ts os ∧ (MM.Conn ts os → MM.Conn ts' os')) → Q (.ref r) H'
theorem ok_lrenamed (T : Txt K mg t) : FnOk P w K mg base CX0 2 t.a_l_renamed t.d_l_renamed ["_law_ties", "_law_orders", "_law_cell"] spRenamed := by
  have G_l_turned := ok_lturned (P := P) (w := w) (base := base) T
  have G_l_mix := ok_mix (P := P) (w := w) (base := base) T
  have G_l_digit := ok_ldigit (P := P) (w := w) (base := base) T
  refine T.F_l_renamed.ok sc_l_renamed (fun vs H Q E h => ?_) (fun cdv A outer s H vs Q E hr h => ?_)
  · obtain ⟨ta, oa, c, ts, os, rfl, _⟩ := h; rfl
  obtain ⟨ta, oa, c, ts, os, rfl, ht, ho, g, ht400, ho400, q⟩ := h
  have nd := sc_l_renamed.nd
  have nd_l_end_l_names : (["_law_end", "_law_names"] : List Str).Nodup := by decide
  have nd_l_order : (["_law_order"] : List Str).Nodup := by decide
  have nd_l_tie : (["_law_tie"] : List Str).Nodup := by decide
  refine ⟨_, (pss_cons (ps_set (i := 3) nd rfl (Or.inl rfl) (pe_call G_l_turned (hr.mono (by decide)) rfl T.m_l_turned T.k_l_turned T.b_l_turned .nil pass0 (pa_cons (pe_call G_l_mix (hr.mono (by decide)) rfl T.m_l_mix T.k_l_mix T.b_l_mix .nil pass0 (pa_cons (pv 2) (pa_cons pe_int pa_nil))) (pa_cons (pe_callB call_len_seq rfl T.z_len PySem.boot_len (pa_cons (pv 1) pa_nil)) pa_nil))))
    (pss_cons (ps_set (i := 4) nd rfl (Or.inl rfl) (pe_call G_l_turned (hr.mono (by decide)) rfl T.m_l_turned T.k_l_turned T.b_l_turned .nil pass0 (pa_cons (pe_call G_l_mix (hr.mono (by decide)) rfl T.m_l_mix T.k_l_mix T.b_l_mix .nil pass0 (pa_cons (pv 2) (pa_cons pe_int pa_nil))) (pa_cons (pe_callB call_len_seq rfl T.z_len PySem.boot_len (pa_cons (pv 0) pa_nil)) pa_nil))))
    (pss_cons (ps_set (i := 5) nd rfl (Or.inr rfl) (pe_lst pa_nil))
    (pss_cons (ps_setComp (i := 6) nd rfl (Or.inl rfl)  (N' := ["_law_tie"]) (js := [none]) rfl (pi_list (pv 0)) (fun _ _ _ _ _ => (pg_name (i := 0) nd_l_tie rfl (Or.inl rfl))) (fun _ _ _ _ _ => pf_nil) (fun _ _ _ _ _ => (pe_tup (pa_cons pe_int (pa_cons pe_int pa_nil)))))
    (pss_cons (ps_for PassesOwn.never rfl (pi_enum rfl T.z_enumerate (pa_cons (pv 0) pa_nil)) (pg_tup rfl (pgs_cons (pg_name (i := 7) nd rfl (Or.inl rfl)) (pgs_cons (pg_tup rfl (pgs_cons (pg_name (i := 8) nd rfl (Or.inl rfl)) (pgs_cons (pg_name (i := 9) nd rfl (Or.inl rfl)) pgs_nil))) pgs_nil))) (pss_cons (ps_set (i := 10) nd rfl (Or.inl rfl) (pe_call G_l_digit (hr.mono (by decide)) rfl T.m_l_digit T.k_l_digit T.b_l_digit .nil pass0 (pa_cons (pe_call G_l_mix (hr.mono (by decide)) rfl T.m_l_mix T.k_l_mix T.b_l_mix .nil pass0 (pa_cons (pv 2) (pa_cons pe_int pa_nil))) (pa_cons pe_int (pa_cons (pv 7) pa_nil)))))
    (pss_cons (ps_asg (pe_ix ix_list (pe_lst (pa_cons (pe_tup (pa_cons (pe_ix ix_list (pv 3) (pv 8) (fun _ _ => rfl)) (pa_cons (pe_ix ix_list (pv 3) (pv 9) (fun _ _ => rfl)) pa_nil))) (pa_cons (pe_tup (pa_cons (pe_ix ix_list (pv 3) (pv 9) (fun _ _ => rfl)) (pa_cons (pe_ix ix_list (pv 3) (pv 8) (fun _ _ => rfl)) pa_nil))) pa_nil))) (pv 10) (fun _ _ => rfl)) (pg_sub (pv 6) (pe_ix ix_list (pv 4) (pv 7) (fun _ _ => rfl)) set_list))
    (pss_one (ps_set (i := 5) nd rfl (Or.inr rfl) (pe_op op_cat (pv 5) (pe_lst (pa_cons (pe_op op_add (pe_op op_mul pe_int (pe_ix ix_list (pv 4) (pv 7) (fun _ _ => rfl))) (pv 10)) (pa_cons (pe_op op_sub (pe_op op_add (pe_op op_mul pe_int (pe_ix ix_list (pv 4) (pv 7) (fun _ _ => rfl))) pe_int) (pv 10)) pa_nil)))))))))
    (pss_cons (ps_setComp (i := 11) nd rfl (Or.inl rfl)  (N' := ["_law_order"]) (js := [none]) rfl (pi_list (pv 1)) (fun _ _ _ _ _ => (pg_name (i := 0) nd_l_order rfl (Or.inl rfl))) (fun _ _ _ _ _ => pf_nil) (fun _ _ _ _ _ => (pe_lst pa_nil)))
    (pss_cons (ps_for PassesOwn.never rfl (pi_enum rfl T.z_enumerate (pa_cons (pv 1) pa_nil)) (pg_tup rfl (pgs_cons (pg_name (i := 12) nd rfl (Or.inl rfl)) (pgs_cons (pg_name (i := 13) nd rfl (Or.inl rfl)) pgs_nil))) (pss_cons (ps_set (i := 14) nd rfl (Or.inl rfl) (pe_op op_mod (pe_call G_l_digit (hr.mono (by decide)) rfl T.m_l_digit T.k_l_digit T.b_l_digit .nil pass0 (pa_cons (pe_call G_l_mix (hr.mono (by decide)) rfl T.m_l_mix T.k_l_mix T.b_l_mix .nil pass0 (pa_cons (pv 2) (pa_cons pe_int pa_nil))) (pa_cons pe_int (pa_cons (pv 12) pa_nil)))) (pe_callB call_len_seq rfl T.z_len PySem.boot_len (pa_cons (pv 13) pa_nil))))
    (pss_one (ps_asg (pe_comp (N' := ["_law_end", "_law_names"]) (js := [none, some 5]) rfl (pi_list (pe_op op_cat (pe_slice sl_list (pv 13) (po_some (pv 14)) po_none) (pe_slice sl_list (pv 13) po_none (po_some (pv 14))))) (fun _ _ _ _ _ => (pg_name (i := 0) nd_l_end_l_names rfl (Or.inl rfl))) (fun _ _ _ _ _ => pf_nil) (fun _ _ _ _ _ => (pe_ix (kix_list (K := K) rfl) (pv 1) (pv 0) (fun _ _ => rfl)))) (pg_sub (pv 11) (pe_ix ix_list (pv 3) (pv 12) (fun _ _ => rfl)) set_list)))))
    (pss_one (ps_ret (pe_tup (pa_cons (pe_callB call_len_seq rfl T.z_len PySem.boot_len (pa_cons (pv 1) pa_nil)) (pa_cons (pv 6) (pa_cons (pv 11) pa_nil))))))))))))), ?_⟩
  obtain ⟨tr, tr1, tr2, tr3⟩ := id ht
  obtain ⟨rr, rr1, rr2, rr3⟩ := id ho
  have trl : (tr.map V.ref).length = ts.length := by rw [List.length_map]; exact tr2
  have rrl : (rr.map V.ref).length = os.length := by rw [List.length_map]; exact rr2
  -- places, numbers
  refine ⟨_, rfl, c, 0, rfl, by decide, by decide, fun m0 hm0 _ => ⟨_, rfl, oa, _, rfl, .inl (SqL.of rr1), m0, (rr.map V.ref).length, rfl, hm0, by omega, fun pr ps hpr hpn hpl hpe => ?_⟩⟩
  have g1 := same_new hpr (.lst (vns ps))
  refine ⟨_, rfl, c, 1, rfl, by decide, by decide, fun m1 hm1 _ => ⟨_, rfl, ta, _, rfl, .inl (SqL.of (g1 _ _ tr1)), m1, (tr.map V.ref).length, rfl, hm1, by omega, fun nr nu hnr hnn hnl hne => ?_⟩⟩
  rw [trl] at hnl hne
  rw [rrl] at hpl hpe
  have g2 := same_new hnr (.lst (vns nu))
  have mP : MM.Maps (fun i => ps.getD i 0) os.length := by have := MM.maps_of hpn (by rw [hpe]; exact hpl); rw [hpe] at this; exact this
  have mU : MM.Maps (fun i => nu.getD i 0) ts.length := by have := MM.maps_of hnn (by rw [hne]; exact hnl); rw [hne] at this; exact this
  -- names
  refine ⟨(by show 0 ≤ sizeLine; decide), fun na0 hna0 => ?_⟩
  have g3 := same_new hna0 (.lst [])
  have k1 : (upd (upd (upd H pr (.lst (vns ps))) nr (.lst (vns nu))) na0 (.lst [])) pr = some (.lst (vns ps)) := g3 _ _ (g2 _ _ upd_same)
  have k2 : (upd (upd (upd H pr (.lst (vns ps))) nr (.lst (vns nu))) na0 (.lst [])) nr = some (.lst (vns nu)) := g3 _ _ upd_same
  have k3 : (upd (upd (upd H pr (.lst (vns ps))) nr (.lst (vns nu))) na0 (.lst [])) na0 = some (.lst []) := upd_same
  have g4 := (g1.trans g2).trans g3
  generalize upd (upd (upd H pr (.lst (vns ps))) nr (.lst (vns nu))) na0 (.lst []) = H4 at k1 k2 k3 g4
  clear g1 g2 g3 hpr hnr hna0
  have atP : ∀ x, x < os.length → atI (vns ps) (x : Int) = some (vn (ps.getD x 0)) := fun x hx => at_vns (by omega) rfl
  have atU : ∀ x, x < ts.length → atI (vns nu) (x : Int) = some (vn (nu.getD x 0)) := fun x hx => at_vns (by omega) rfl
  -- told
  refine ⟨_, rfl, ta, rfl, ⟨_, SqL.of (g4 _ _ tr1)⟩, fun D hD => ?_⟩
  refine comp_map ts.length (fun i ys H' => TsAt H' D (List.replicate i (0, 0)) ∧ H' D = some (.lst ys) ∧ Same H4 H') ⟨⟨[], upd_same, rfl, fun i t h => by simp at h⟩, upd_same, same_new hD _⟩ ?_ ?_
  · rintro i ys H' hi ⟨h1, h2, h3⟩
    have hx : (tr.map V.ref)[i]? = some (.ref (tr[i]'(by omega))) := by rw [List.getElem?_map, List.getElem?_eq_getElem (by omega)]; rfl
    refine ⟨⟨_, _, SqL.of (h3 _ _ (g4 _ _ tr1)), hx⟩, ?_⟩
    rintro x H'' ⟨rfl, hx'⟩
    refine ⟨(Fills.refl _).set _ rfl, ?_⟩
    refine ⟨(by show 2 ≤ sizeLine; decide), fun tp htp => ?_⟩
    have g5 := same_new htp (.tup [vn 0, vn 0])
    have h1' := (g5.ts h1).push (t := (0, 0)) (g5 _ _ h2) upd_same
    obtain ⟨tr', e1, e2, _⟩ := id h1
    have hyl : ys.length = i := by
      rw [h2] at e1; cases e1
      rw [List.length_map, e2, List.length_replicate]
    refine ⟨g5 _ _ h2, by rw [hyl]; exact Nat.lt_of_lt_of_le hi (Nat.le_trans ht400 (by decide)), ?_, upd_same, ?_⟩
    · rw [List.replicate_succ']
      exact h1'
    · exact fun b o h => by rw [upd_ne (ne_of_none h hD)]; exact g5 _ _ (h3 _ _ h)
  rintro ys H5 ⟨t5, d5, g5⟩
  refine ⟨⟨_, SqL.of (g5 _ _ (g4 _ _ tr1)), by rw [trl]; exact Nat.le_refl _⟩, ?_⟩
  have naD : na0 ≠ D := ne_of_none k3 hD
  -- the loop over the ties
  refine ⟨_, rfl, ta, rfl, ⟨_, SqL.of (g5 _ _ (g4 _ _ tr1))⟩, for_enum (xs := tr.map V.ref) (fun i σ H' => ∃ (na : Addr) (fl : List Nat) (td : MM.Ties) (o7 o8 o9 o10 : Option V),
      σ = [some (.ref ta), some (.ref oa), some (.int c), some (.ref pr), some (.ref nr), some (.ref na), some (.ref D), o7, o8, o9, o10, none, none, none, none] ∧ Same H4 H' ∧ fl.length = i ∧ (∀ f ∈ fl, f ≤ 1) ∧ na ≠ D ∧
      H' na = some (.lst ((List.range (2 * i)).map fun e => vn (MM.nmF (fun k => nu.getD k 0) (fun k => fl.getD k 0) e))) ∧ TsAt H' D td ∧ td.length = ts.length ∧
      ∀ k, k < i → td.getD (nu.getD k 0) (0, 0) = if fl.getD k 0 = 0 then (ps.getD (ts.getD k (0, 0)).1 0, ps.getD (ts.getD k (0, 0)).2 0) else (ps.getD (ts.getD k (0, 0)).2 0, ps.getD (ts.getD k (0, 0)).1 0))
    ⟨na0, [], _, none, none, none, none, rfl, g5, rfl, (fun f hf => by cases hf), naD, g5 _ _ k3, t5, by simp, fun k hk => absurd hk (Nat.not_lt_zero _)⟩ (fun i σ H' _ h => by obtain ⟨na, fl, td, o7, o8, o9, o10, _, h1, _⟩ := h; exact SqL.of (h1 _ _ (g4 _ _ tr1))) ?_ ?_⟩
  · rintro i x σ H6 Tt hx ⟨na, fl, td, o7, o8, o9, o10, rfl, s6, hfl, hf1, nD, en, td6, tdl, hv⟩ hTt
    have hi : i < ts.length := by have := (List.getElem?_eq_some_iff.mp hx).1; omega
    obtain ⟨rt, rt1, rt2⟩ := tr3 i _ (List.getElem?_eq_getElem hi)
    have ex : x = .ref rt := by rw [List.getElem?_map, rt1] at hx; cases hx; rfl
    subst ex
    have tab := g.tie hi
    have hget : ts.getD i (0, 0) = ts[i] := by simp only [List.getD, List.getElem?_eq_getElem hi, Option.getD_some]
    rw [← hget] at rt2
    have hUi := mU.lt i hi
    have gT := same_new hTt (.tup [vn i, .ref rt])
    refine ⟨Tt, _, rfl, SqT.of upd_same, rfl, _, _, rfl, _, _, rfl, rt, _, rfl, SqT.of (gT _ _ (s6 _ _ (g4 _ _ rt2))), rfl, _, _, rfl, _, _, rfl, rfl, rfl, ?_⟩
    refine ⟨_, rfl, c, 2, rfl, by decide, by decide, fun m2 hm2 _ => ⟨_, rfl, m2, 2, i, rfl, by decide, by decide, by omega, by omega, fun d hd0 hd1 => ?_⟩⟩
    obtain ⟨f, rfl, hf⟩ : ∃ f : Nat, d = (f : Int) ∧ f ≤ 1 := ⟨d.toNat, by omega, by omega⟩
    have s7 := s6.trans gT
    have td7 := gT.ts td6
    have en7 := gT _ _ en
    generalize upd H6 Tt (.tup [vn i, .ref rt]) = H7 at s7 td7 en7
    refine ⟨_, rfl, _, rfl, pr, _, _, _, rfl, rfl, SqL.of (s7 _ _ k1), atP _ tab.1, _, rfl, _, rfl, pr, _, _, _, rfl, rfl, SqL.of (s7 _ _ k1), atP _ tab.2, (by show 2 ≤ sizeLine; decide), fun p1 hp1 => ?_⟩
    have gp1 := same_new hp1 (.tup [vn (ps.getD (ts.getD i (0, 0)).1 0), vn (ps.getD (ts.getD i (0, 0)).2 0)])
    refine ⟨_, rfl, _, rfl, pr, _, _, _, rfl, rfl, SqL.of (gp1 _ _ (s7 _ _ k1)), atP _ tab.2, _, rfl, _, rfl, pr, _, _, _, rfl, rfl, SqL.of (gp1 _ _ (s7 _ _ k1)), atP _ tab.1, (by show 2 ≤ sizeLine; decide), fun p2 hp2 => ?_⟩
    have gp2 := same_new hp2 (.tup [vn (ps.getD (ts.getD i (0, 0)).2 0), vn (ps.getD (ts.getD i (0, 0)).1 0)])
    refine ⟨(by show 2 ≤ sizeLine; decide), fun pl hpl => ?_⟩
    have gp3 := same_new hpl (.lst [.ref p1, .ref p2])
    have hat : atI [V.ref p1, V.ref p2] (f : Int) = some (.ref (if f = 0 then p1 else p2)) := by
      have : f = 0 ∨ f = 1 := by omega
      rcases this with rfl | rfl <;> rfl
    have s8 := s7.trans ((gp1.trans gp2).trans gp3)
    have td8 := ((gp1.trans gp2).trans gp3).ts td7
    have en8 := gp3 _ _ (gp2 _ _ (gp1 _ _ en7))
    have htu : (upd (upd (upd H7 p1 (.tup [vn (ps.getD (ts.getD i (0, 0)).1 0), vn (ps.getD (ts.getD i (0, 0)).2 0)])) p2 (.tup [vn (ps.getD (ts.getD i (0, 0)).2 0), vn (ps.getD (ts.getD i (0, 0)).1 0)])) pl (.lst [.ref p1, .ref p2])) (if f = 0 then p1 else p2) =
        some (.tup [vn (if f = 0 then (ps.getD (ts.getD i (0, 0)).1 0, ps.getD (ts.getD i (0, 0)).2 0) else (ps.getD (ts.getD i (0, 0)).2 0, ps.getD (ts.getD i (0, 0)).1 0)).1, vn (if f = 0 then (ps.getD (ts.getD i (0, 0)).1 0, ps.getD (ts.getD i (0, 0)).2 0) else (ps.getD (ts.getD i (0, 0)).2 0, ps.getD (ts.getD i (0, 0)).1 0)).2]) := by
      by_cases hz : f = 0
      · rw [if_pos hz, if_pos hz]; exact gp3 _ _ (gp2 _ _ upd_same)
      · rw [if_neg hz, if_neg hz]; exact gp3 _ _ upd_same
    have epl : (upd (upd (upd H7 p1 (.tup [vn (ps.getD (ts.getD i (0, 0)).1 0), vn (ps.getD (ts.getD i (0, 0)).2 0)])) p2 (.tup [vn (ps.getD (ts.getD i (0, 0)).2 0), vn (ps.getD (ts.getD i (0, 0)).1 0)])) pl (.lst [.ref p1, .ref p2])) pl = some (.lst [.ref p1, .ref p2]) := upd_same
    generalize upd (upd (upd H7 p1 (.tup [vn (ps.getD (ts.getD i (0, 0)).1 0), vn (ps.getD (ts.getD i (0, 0)).2 0)])) p2 (.tup [vn (ps.getD (ts.getD i (0, 0)).2 0), vn (ps.getD (ts.getD i (0, 0)).1 0)])) pl (.lst [.ref p1, .ref p2]) = H8 at s8 td8 en8 htu epl
    obtain ⟨tq, tq1, tq2, _⟩ := id td8
    refine ⟨_, rfl, pl, _, _, _, rfl, rfl, SqL.of epl, hat, _, rfl, _, rfl, _, rfl, nr, _, _, _, rfl, rfl, SqL.of (s8 _ _ k2), atU _ hi, D, _, _, nu.getD i 0, rfl, rfl, tq1, ixN_nat (by rw [List.length_map, tq2, tdl]; exact hUi), ?_⟩
    have td9 := td8.set (j := nu.getD i 0) tq1 htu
    have s9 : Same H4 (upd H8 D (.lst ((tq.map V.ref).set (nu.getD i 0) (.ref (if f = 0 then p1 else p2))))) := fun b u h => by rw [upd_ne (ne_of_none h hD)]; exact s8 _ _ h
    have en9 : (upd H8 D (.lst ((tq.map V.ref).set (nu.getD i 0) (.ref (if f = 0 then p1 else p2))))) na = some (.lst ((List.range (2 * i)).map fun e => vn (MM.nmF (fun k => nu.getD k 0) (fun k => fl.getD k 0) e))) := by rw [upd_ne nD]; exact en8
    generalize upd H8 D (.lst ((tq.map V.ref).set (nu.getD i 0) (.ref (if f = 0 then p1 else p2)))) = H9 at td9 s9 en9
    refine ⟨_, rfl, _, rfl, _, rfl, nr, _, _, _, rfl, rfl, SqL.of (s9 _ _ k2), atU _ hi, _, _, rfl, rfl, .inl ⟨by decide, by decide⟩, _, rfl, _, _, rfl, rfl, _, rfl, _, rfl, nr, _, _, _, rfl, rfl, SqL.of (s9 _ _ k2), atU _ hi, _, _, rfl, rfl, .inl ⟨by decide, by decide⟩, _, _, rfl, rfl, _, rfl, _, _, rfl, rfl, (by show 2 ≤ sizeLine; decide), fun nl hnl => ?_⟩
    have v1 : V.int (2 * ((nu.getD i 0 : Nat) : Int) + (f : Int)) = vn (2 * nu.getD i 0 + f) := by show V.int _ = V.int _; congr 1
    have v2 : V.int (2 * ((nu.getD i 0 : Nat) : Int) + 1 - (f : Int)) = vn (2 * nu.getD i 0 + (1 - f)) := by show V.int _ = V.int _; congr 1; omega
    have gn1 := same_new hnl (.lst [V.int (2 * ((nu.getD i 0 : Nat) : Int) + (f : Int)), V.int (2 * ((nu.getD i 0 : Nat) : Int) + 1 - (f : Int))])
    refine ⟨na, nl, _, _, rfl, rfl, gn1 _ _ en9, upd_same, ?_, fun nb hnb => ?_⟩
    · rw [List.length_map, List.length_range]; exact Nat.le_trans (by show 2 * i + 2 ≤ 1000; omega) (by decide)
    have gn2 := same_new hnb (.lst (((List.range (2 * i)).map fun e => vn (MM.nmF (fun k => nu.getD k 0) (fun k => fl.getD k 0) e)) ++ [V.int (2 * ((nu.getD i 0 : Nat) : Int) + (f : Int)), V.int (2 * ((nu.getD i 0 : Nat) : Int) + 1 - (f : Int))]))
    obtain ⟨tq', tq1', _, _⟩ := id td9
    refine ⟨nb, fl ++ [f], _, _, _, _, _, rfl, s9.trans (gn1.trans gn2), by rw [List.length_append, hfl]; rfl, ?_, (ne_of_none (gn1 _ _ tq1') hnb).symm, ?_, (gn1.trans gn2).ts td9, by rw [List.length_set]; exact tdl, ?_⟩
    · intro z hz
      rcases List.mem_append.mp hz with hz | hz
      · exact hf1 z hz
      · have : z = f := by simpa using hz
        omega
    · rw [upd_same]
      show some (HO.lst (((List.range (2 * i)).map fun e => vn (MM.nmF (fun k => nu.getD k 0) (fun k => fl.getD k 0) e)) ++ [V.int (2 * ((nu.getD i 0 : Nat) : Int) + (f : Int)), V.int (2 * ((nu.getD i 0 : Nat) : Int) + 1 - (f : Int))])) = _
      rw [v1, v2]
      subst hfl
      rw [MM.nm_more]
    · intro k hk
      subst hfl
      rcases Nat.lt_or_ge k fl.length with hk' | hk'
      · have ne : nu.getD fl.length 0 ≠ nu.getD k 0 := fun z => by have := mU.inj _ _ hi (by omega) z; omega
        have e1 : (fl ++ [f]).getD k 0 = fl.getD k 0 := by simp [List.getD, List.getElem?_append_left hk']
        have e2 : ∀ z : Nat × Nat, (td.set (nu.getD fl.length 0) z).getD (nu.getD k 0) (0, 0) = td.getD (nu.getD k 0) (0, 0) := fun z => MM.getD_set_ne ne
        rw [e1, e2]
        exact hv k hk'
      · have ek : k = fl.length := by omega
        subst ek
        have e1 : (fl ++ [f]).getD fl.length 0 = f := by simp [List.getD]
        have e2 : ∀ z : Nat × Nat, (td.set (nu.getD fl.length 0) z).getD (nu.getD fl.length 0) (0, 0) = z := fun z => MM.getD_set_same (by rw [tdl]; exact hUi)
        rw [e1, e2]
  · rintro σ H6 ⟨na, fl, td, o7, o8, o9, o10, rfl, s6, hfl, hf1, nD, en, td6, tdl, hv⟩
    rw [trl] at hfl hv en
    have hF : ∀ k, (fun k => fl.getD k 0) k ≤ 1 := fun k => by
      show fl.getD k 0 ≤ 1
      rw [List.getD_eq_getElem?_getD]
      cases hk : fl[k]? with
      | none => simp
      | some z => exact hf1 z (List.mem_of_getElem? hk)
    have hNM := MM.nmF_maps mU hF
    generalize hnm : MM.nmF (fun k => nu.getD k 0) (fun k => fl.getD k 0) = NM at en hNM
    have s0 := g4.trans s6
    -- rows
    refine ⟨_, rfl, oa, rfl, ⟨_, SqL.of (s0 _ _ rr1)⟩, fun D2 hD2 => ?_⟩
    refine comp_map os.length (fun i ys H' => ∃ rr' : List Addr, ys = rr'.map V.ref ∧ NewOs H6 H' D2 rr' (List.replicate i []) ∧ Same H6 H') ⟨[], rfl, ⟨upd_same, rfl, fun i l h => by simp at h, List.nodup_nil, by simp, hD2, fun x hx => by cases hx⟩, same_new hD2 _⟩ ?_ ?_
    · rintro i ys H' hi ⟨rr', rfl, n', g'⟩
      have hx : (rr.map V.ref)[i]? = some (.ref (rr[i]'(by omega))) := by rw [List.getElem?_map, List.getElem?_eq_getElem (by omega)]; rfl
      refine ⟨⟨_, _, SqL.of (g' _ _ (s0 _ _ rr1)), hx⟩, ?_⟩
      rintro x H'' ⟨rfl, hx'⟩
      refine ⟨(Fills.refl _).set _ rfl, ?_⟩
      refine ⟨(by show 0 ≤ sizeLine; decide), fun nl hnl => ?_⟩
      have g5 := same_new hnl (.lst [])
      have nlr : nl ∉ rr' := fun z => by obtain ⟨l, hl⟩ := n'.ex z; rw [hnl] at hl; cases hl
      have nlo : nl ≠ D2 := (ne_of_none n'.at_ hnl).symm
      refine ⟨g5 _ _ n'.at_, ?_, rr' ++ [nl], by rw [List.map_append]; rfl, ?_, ?_⟩
      · rw [List.length_map, n'.len, List.length_replicate]; exact Nat.lt_of_lt_of_le hi (Nat.le_trans ho400 (by decide))
      · rw [List.replicate_succ']
        exact n'.push (x := nl) (l := []) (g'.free hnl) nlr nlo (by rw [upd_same, List.map_append]; rfl) (by rw [upd_ne nlo]; exact upd_same) fun b u hb h => by rw [upd_ne (show b ≠ D2 from fun z => n'.nin (z ▸ hb))]; exact g5 _ _ h
      · exact fun b o h => by rw [upd_ne (ne_of_none h hD2)]; exact g5 _ _ (g' _ _ h)
    rintro ys H7 ⟨rr7, rfl, n7, g7⟩
    refine ⟨⟨_, SqL.of (g7 _ _ (s0 _ _ rr1)), by rw [rrl]; exact Nat.le_refl _⟩, ?_⟩
    -- the loop over the orders
    refine ⟨_, rfl, oa, rfl, ⟨_, SqL.of (g7 _ _ (s0 _ _ rr1))⟩, for_enum (xs := rr.map V.ref) (fun i σ H' => ∃ (rr' : List Addr) (rows : MM.Ords) (o12 o13 o14 : Option V),
        σ = [some (.ref ta), some (.ref oa), some (.int c), some (.ref pr), some (.ref nr), some (.ref na), some (.ref D), o7, o8, o9, o10, some (.ref D2), o12, o13, o14] ∧ Same H6 H' ∧ NewOs H6 H' D2 rr' rows ∧ rows.length = os.length ∧
        ∀ p, p < i → ∃ l : List Nat, MM.row rows (ps.getD p 0) = l.map NM ∧ MM.Rot l (MM.row os p))
      ⟨rr7, _, none, none, none, rfl, g7, n7, by simp, fun p hp => absurd hp (Nat.not_lt_zero _)⟩ (fun i σ H' _ h => by obtain ⟨rr', rows, o12, o13, o14, _, h1, _⟩ := h; exact SqL.of (h1 _ _ (s0 _ _ rr1))) ?_ ?_⟩
    · rintro i x σ H8 Tt hx ⟨rr', rows, o12, o13, o14, rfl, s8, n8, rl8, hw⟩ hTt
      have hi : i < os.length := by have := (List.getElem?_eq_some_iff.mp hx).1; omega
      obtain ⟨xo, xo1, xo2⟩ := rr3 i _ (List.getElem?_eq_getElem hi)
      have ex : x = .ref xo := by rw [List.getElem?_map, xo1] at hx; cases hx; rfl
      subst ex
      have hrow : MM.row os i = os[i] := by unfold MM.row; rw [List.getD_eq_getElem?_getD, List.getElem?_eq_getElem hi]; rfl
      rw [← hrow] at xo2
      have hfull := g.g.full i hi
      have hfour := g.g.four i
      have hlt : ∀ e ∈ MM.row os i, e < 2 * ts.length := fun e he => (g.g.ends i e he).1
      generalize hord : MM.row os i = ord at xo2 hfull hfour hlt
      have hPi := mP.lt i hi
      have gT := same_new hTt (.tup [vn i, .ref xo])
      have s9 := s8.trans gT
      have n9 : NewOs H6 (upd H8 Tt (.tup [vn i, .ref xo])) D2 rr' rows := n8.keep fun b u _ h => gT _ _ h
      refine ⟨Tt, _, rfl, SqT.of upd_same, rfl, _, _, rfl, _, _, rfl, rfl, ?_⟩
      generalize upd H8 Tt (.tup [vn i, .ref xo]) = H9 at s9 n9
      have exo := s9 _ _ (s0 _ _ xo2)
      have ordl : (vns ord).length = ord.length := List.length_map _
      have ordp : 0 < ord.length := List.length_pos_iff.mpr hfull
      refine ⟨_, rfl, c, 3, rfl, by decide, by decide, fun m3 hm3 _ => ⟨_, rfl, m3, 4, i, rfl, by decide, by decide, by omega, by omega, fun d hd0 hd1 => ⟨_, rfl, xo, _, rfl, .inl (SqL.of exo), _, _, rfl, rfl, (by show (0 : Int) < ((vns ord).length : Nat); omega), ?_⟩⟩⟩
      obtain ⟨k, hk, ek⟩ := MM.mod_ix d (n := (vns ord).length) (by omega)
      show gName 14 (V.int (d % ((vns ord).length : Nat))) _ _ _
      rw [ek]
      refine ⟨_, rfl, _, rfl, _, rfl, xo, _, rfl, SqL.of exo, fun s1 hs1 => ?_⟩
      rw [cut_from ord (by omega)]
      have gs1 := same_new hs1 (.lst (vns (ord.drop k)))
      refine ⟨_, rfl, _, rfl, _, rfl, xo, _, rfl, SqL.of (gs1 _ _ exo), fun s2 hs2 => ?_⟩
      rw [cut_to ord (by omega)]
      have gs2 := same_new hs2 (.lst (vns (ord.take k)))
      refine ⟨s1, s2, _, _, rfl, rfl, gs2 _ _ upd_same, upd_same, ?_, fun rl hrl => ?_⟩
      · rw [List.length_map, List.length_map, List.length_drop, List.length_take]
        exact Nat.le_trans (by omega : _ ≤ 100) (by decide)
      rw [← vns_app]
      have gs3 := same_new hrl (.lst (vns (ord.drop k ++ ord.take k)))
      have hperm := rot_perm ord k
      have s10 := s9.trans ((gs1.trans gs2).trans gs3)
      have n10 : NewOs H6 (upd (upd (upd H9 s1 (.lst (vns (ord.drop k)))) s2 (.lst (vns (ord.take k)))) rl (.lst (vns (ord.drop k ++ ord.take k)))) D2 rr' rows := n9.keep fun b u _ h => gs3 _ _ (gs2 _ _ (gs1 _ _ h))
      have erl : (upd (upd (upd H9 s1 (.lst (vns (ord.drop k)))) s2 (.lst (vns (ord.take k)))) rl (.lst (vns (ord.drop k ++ ord.take k)))) rl = some (.lst (vns (ord.drop k ++ ord.take k))) := upd_same
      generalize upd (upd (upd H9 s1 (.lst (vns (ord.drop k)))) s2 (.lst (vns (ord.take k)))) rl (.lst (vns (ord.drop k ++ ord.take k))) = H10 at s10 n10 erl
      have hrot : MM.Rot (ord.drop k ++ ord.take k) ord := ⟨k, rfl⟩
      generalize ord.drop k ++ ord.take k = rot at erl hperm hrot
      refine ⟨rl, rfl, ⟨_, SqL.of erl⟩, fun D3 hD3 => ?_⟩
      refine comp_map rot.length (fun i ys H' => ys = vns ((rot.take i).map NM) ∧ H' = upd H10 D3 (.lst ys)) ⟨rfl, rfl⟩ ?_ ?_
      · rintro j ys H' hj ⟨rfl, rfl⟩
        have gD := same_new hD3 (.lst (vns ((rot.take j).map NM)))
        have hx : (vns rot)[j]? = some (vn rot[j]) := by rw [List.getElem?_map, List.getElem?_eq_getElem hj]; rfl
        refine ⟨⟨_, _, SqL.of (gD _ _ erl), hx⟩, ?_⟩
        rintro x' H'' ⟨rfl, hx'⟩
        have e6 := hx' _ (SqL.of (gD _ _ erl))
        rw [hx] at e6
        cases e6
        have hjl := hlt rot[j] (hperm.mem_iff.mp (List.getElem_mem hj))
        have hat : atI ((List.range (2 * ts.length)).map fun e => vn (NM e)) ((rot[j] : Nat) : Int) = some (vn (NM rot[j])) := atI_nat (by rw [List.getElem?_map, List.getElem?_range hjl]; rfl)
        have hrl5 : rot.length ≤ 4 := by rw [hperm.length_eq]; exact hfour
        refine ⟨(Fills.refl _).set _ rfl, ?_⟩
        refine ⟨_, rfl, _, rfl, na, _, _, _, rfl, rfl, SqL.of (gD _ _ (s10 _ _ en)), hat, upd_same, ?_, ?_, ?_⟩
        · rw [List.length_map, List.length_map, List.length_take]; exact Nat.lt_of_le_of_lt (by omega : _ ≤ 4) (by decide)
        · rw [List.take_add_one, List.getElem?_eq_getElem hj, List.map_append, vns_app]; rfl
        · rw [upd_upd]
      · rintro ys H' ⟨rfl, rfl⟩
        rw [List.take_length]
        have gD := same_new hD3 (.lst (vns (rot.map NM)))
        refine ⟨⟨_, SqL.of (gD _ _ erl), by rw [List.length_map]; exact Nat.le_refl _⟩, ?_⟩
        have D3r : D3 ∉ rr' := fun z => by obtain ⟨l, hl⟩ := n10.ex z; rw [hD3] at hl; cases hl
        have D3o : D3 ≠ D2 := (ne_of_none n10.at_ hD3).symm
        refine ⟨_, rfl, _, rfl, _, rfl, pr, _, _, _, rfl, rfl, SqL.of (gD _ _ (s10 _ _ (s6 _ _ k1))), atP i hi, D2, _, _, ps.getD i 0, rfl, rfl, gD _ _ n10.at_, ixN_nat (by rw [List.length_map, n10.len, rl8]; exact hPi), ?_⟩
        have n11 := n10.setRef (x := D3) (l := rot.map NM) (p := ps.getD i 0) (H2 := upd (upd H10 D3 (.lst (vns (rot.map NM)))) D2 (.lst ((rr'.map V.ref).set (ps.getD i 0) (.ref D3)))) (s10.free hD3) D3r D3o (by rw [upd_same, List.map_set]) (by rw [upd_ne D3o]; exact upd_same)
          fun b u hb h => by rw [upd_ne (show b ≠ D2 from fun z => n10.nin (z ▸ hb))]; exact gD _ _ h
        refine ⟨_, _, _, _, _, rfl, ?_, n11, by rw [List.length_set]; exact rl8, fun p hp => ?_⟩
        · exact fun b u h => by rw [upd_ne (ne_of_none h hD2)]; exact gD _ _ (s10 _ _ h)
        · rcases Nat.lt_or_ge p i with hp' | hp'
          · have ne : ps.getD p 0 ≠ ps.getD i 0 := fun z => by have := mP.inj p i (by omega) hi z; omega
            rw [MM.row_set_ne ne]
            exact hw p hp'
          · have ep : p = i := by omega
            subst ep
            rw [MM.row_set_same (by rw [rl8]; exact hPi), hord]
            exact ⟨rot, rfl, hrot⟩
    · rintro σ H8 ⟨rr', rows, o12, o13, o14, rfl, s8, n8, rl8, hw⟩
      rw [rrl] at hw
      refine ⟨_, rfl, oa, _, rfl, .inl (SqL.of (s8 _ _ (s0 _ _ rr1))), _, rfl, _, rfl, (by show 3 ≤ sizeLine; decide), fun r hr' => ?_⟩
      have gr := same_new hr' (.tup [.int ((rr.map V.ref).length : Nat), .ref D, .ref D2])
      obtain ⟨tq, tq1, _, _⟩ := id td6
      have nb : NewOs H (upd H8 r (.tup [.int ((rr.map V.ref).length : Nat), .ref D, .ref D2])) D2 rr' rows :=
        ⟨gr _ _ n8.at_, n8.len, (n8.keep (fun b u _ h => gr _ _ h)).row, n8.nd, n8.nin, s0.free n8.new, fun x hx => s0.free (n8.news x hx)⟩
      refine q r D D2 rr' td rows _ ((s0.trans s8).trans gr) (by rw [upd_same, rrl]) ⟨(s8.trans gr).ts td6, nb, g4.free hD, ne_of_none tq1 hD2, fun z => by have := n8.news D z; rw [tq1] at this; cases this⟩ ?_ tdl rl8 ?_
      · refine MM.renamed_good g mU hF mP tdl rl8 hv fun p hp => ?_
        obtain ⟨l, h1, h2⟩ := hw p hp
        rw [hnm]
        exact ⟨l, h1, h2.perm⟩
      · refine MM.renamed_lands g mU hF mP tdl rl8 hv ?_
        rw [hnm]
        exact hw
end K05

namespace MM
theorem good2 : Good [(0, 1)] [[0], [1]] where
  one := Nat.le_refl _
  g := {
    ends := fun p e he => by
      match p, he with
      | 0, he => have h : e = 0 := by simpa [row] using he
                 subst h; exact ⟨by decide, rfl⟩
      | 1, he => have h : e = 1 := by simpa [row] using he
                 subst h; exact ⟨by decide, rfl⟩
      | p + 2, he => simp [row] at he
    has := fun e he => by
      have : e = 0 ∨ e = 1 := by simp at he; omega
      rcases this with rfl | rfl <;> exact ⟨by decide, by decide⟩
    nd := fun p => by
      match p with
      | 0 => decide
      | 1 => decide
      | p + 2 => simp [row]
    full := fun p hp => by
      match p, hp with
      | 0, _ => decide
      | 1, _ => decide
      | p + 2, hp => exact absurd hp (by show ¬ p + 2 < 2; omega)
    four := fun p => by
      match p with
      | 0 => decide
      | 1 => decide
      | p + 2 => simp [row] }
theorem good1 : Good [(0, 0)] [[0, 1]] where
  one := Nat.le_refl _
  g := {
    ends := fun p e he => by
      match p, he with
      | 0, he => have h : e = 0 ∨ e = 1 := by simpa [row] using he
                 rcases h with rfl | rfl <;> exact ⟨by decide, rfl⟩
      | p + 1, he => simp [row] at he
    has := fun e he => by
      have : e = 0 ∨ e = 1 := by simp at he; omega
      rcases this with rfl | rfl <;> exact ⟨by decide, by decide⟩
    nd := fun p => by
      match p with
      | 0 => decide
      | p + 1 => simp [row]
    full := fun p hp => by
      match p, hp with
      | 0, _ => decide
      | p + 1, hp => exact absurd hp (by show ¬ p + 1 < 1; omega)
    four := fun p => by
      match p with
      | 0 => decide
      | p + 1 => simp [row] }
theorem flat2 : Flat [(0, 1)] [[0], [1]] := by
  have f0 : behind [(0, 1)] [[0], [1]] 0 = 1 := by decide
  have f1 : behind [(0, 1)] [[0], [1]] 1 = 0 := by decide
  have m := good2.maps
  have a : Reps (behind [(0, 1)] [[0], [1]]) (List.range 2) [0] := by
    refine ⟨by simp, by simp, fun x hx => ⟨0, by simp, ?_⟩, fun r hr r' hr' _ => ?_⟩
    · have hx := List.mem_range.mp hx
      rw [mem_land m (by decide)]
      match x, hx with
      | 0, _ => exact ⟨0, rfl⟩
      | 1, _ => exact ⟨1, f0⟩
    · rw [List.mem_singleton] at hr hr'; rw [hr, hr']
  have c := count_lands (N := 2) m a
  show 2 + (landsOf (behind [(0, 1)] [[0], [1]]) 2).length = 3
  rw [c]; rfl
theorem flat1 : Flat [(0, 0)] [[0, 1]] := by
  have f0 : behind [(0, 0)] [[0, 1]] 0 = 0 := by decide
  have f1 : behind [(0, 0)] [[0, 1]] 1 = 1 := by decide
  have m := good1.maps
  have i0 : ∀ k, iter (behind [(0, 0)] [[0, 1]]) k 0 = 0 := fun k => by
    induction k with
    | zero => rfl
    | succ k ih => show behind _ _ (iter _ k 0) = 0; rw [ih, f0]
  have i1 : ∀ k, iter (behind [(0, 0)] [[0, 1]]) k 1 = 1 := fun k => by
    induction k with
    | zero => rfl
    | succ k ih => show behind _ _ (iter _ k 1) = 1; rw [ih, f1]
  have a : Reps (behind [(0, 0)] [[0, 1]]) (List.range 2) [0, 1] := by
    refine ⟨by simp, by simp, fun x hx => ⟨x, ?_, self_land m (List.mem_range.mp hx)⟩, fun r hr r' hr' z => ?_⟩
    · have hx := List.mem_range.mp hx
      match x, hx with
      | 0, _ => simp
      | 1, _ => simp
    · have hr2 : r = 0 ∨ r = 1 := by simpa using hr
      rcases hr2 with rfl | rfl
      · obtain ⟨k, hk⟩ := (mem_land m (by decide)).mp z
        rw [i0] at hk; exact hk
      · obtain ⟨k, hk⟩ := (mem_land m (by decide)).mp z
        rw [i1] at hk; exact hk
  have c := count_lands (N := 2) m a
  show 1 + (landsOf (behind [(0, 0)] [[0, 1]]) 2).length = 3
  rw [c]; rfl
theorem fc2 : FC [(0, 1)] [[0], [1]] := ⟨flat2, conn_two rfl⟩
theorem fc1 : FC [(0, 0)] [[0, 1]] := ⟨flat1, conn_two rfl⟩
end MM
namespace L2
open PySem PyProof.Rows
theorem MapM.base {H0 H1 H : Hp} {a o : Addr} {rr : List Addr} {ts : MM.Ties} {os : MM.Ords} (m : MapM H1 H a o rr ts os) (g : Same H0 H1) : MapM H0 H a o rr ts os :=
  ⟨m.ts, ⟨m.os.at_, m.os.len, m.os.row, m.os.nd, m.os.nin, g.free m.os.new, fun x hx => g.free (m.os.news x hx)⟩, g.free m.an, m.ao, m.ar⟩
end L2
namespace K05
open PySem L2 PyProof.Rows
variable {P : Program} {w : World} {K : PySem.W.Frag} {mg : Str → Option Value} {base : Heap} {t : Adr}
def spMap (K : PySem.W.Frag) : Sp := fun vs H Q _ => ∃ (sa : Addr) (ns : List Int) (steps most : Int), vs = [.ref sa, .int steps, .int most] ∧ SqL K H sa (ns.map V.int) ∧ 0 ≤ steps ∧ steps ≤ 30 ∧
  ∀ (r tA oA : Addr) (rr : List Addr) (ts : MM.Ties) (os : MM.Ords) (H' : Hp), Same H H' → H' r = some (.tup [vn os.length, .ref tA, .ref oA]) → MapM H H' tA oA rr ts os → MM.Good ts os → ts.length ≤ 40 → os.length ≤ 40 → MM.FC ts os → Q (.ref r) H'
theorem ok_lmap (T : Txt K mg t) : FnOk P w K mg base CX0 5 t.a_l_map t.d_l_map ["_law_script", "_law_steps", "_law_most"] (spMap K) := by
  have G_l_cell_at := ok_cell (P := P) (w := w) (base := base) T
  have G_l_mix := ok_mix (P := P) (w := w) (base := base) T
  have G_l_step := ok_lstep (P := P) (w := w) (base := base) T
  have G_l_renamed := ok_lrenamed (P := P) (w := w) (base := base) T
  refine T.F_l_map.ok sc_l_map (fun vs H Q E h => ?_) (fun cdv A outer s H vs Q E hr h => ?_)
  · obtain ⟨sa, ns, steps, most, rfl, _⟩ := h; rfl
  obtain ⟨sa, ns, steps, most, rfl, hS, hs0, hs1, q⟩ := h
  have nd := sc_l_map.nd
  refine ⟨_, (pss_cons (ps_set (i := 3) nd rfl (Or.inl rfl) (pe_call G_l_cell_at (hr.mono (by decide)) rfl T.m_l_cell_at T.k_l_cell_at T.b_l_cell_at .nil pass0 (pa_cons (pv 0) (pa_cons pe_int pa_nil))))
    (pss_cons (ps_set (i := 4) nd rfl (Or.inl rfl) (pe_lst (pa_cons (pe_tup (pa_cons pe_int (pa_cons pe_int pa_nil))) pa_nil)))
    (pss_cons (ps_set (i := 5) nd rfl (Or.inl rfl) (pe_lst (pa_cons (pe_lst (pa_cons pe_int pa_nil)) (pa_cons (pe_lst (pa_cons pe_int pa_nil)) pa_nil))))
    (pss_cons (ps_if (pt_cmpR op_eq (pe_op op_mod (pe_call G_l_mix (hr.mono (by decide)) rfl T.m_l_mix T.k_l_mix T.b_l_mix .nil pass0 (pa_cons (pv 3) (pa_cons pe_int pa_nil))) pe_int) pe_int (nomark _)) (pss_cons (ps_set (i := 4) nd rfl (Or.inl rfl) (pe_lst (pa_cons (pe_tup (pa_cons pe_int (pa_cons pe_int pa_nil))) pa_nil)))
    (pss_one (ps_set (i := 5) nd rfl (Or.inl rfl) (pe_lst (pa_cons (pe_lst (pa_cons pe_int (pa_cons pe_int pa_nil))) pa_nil))))) pss_nil)
    (pss_cons (ps_for PassesOwn.never rfl (pi_range1 rfl T.z_range (pa_cons (pe_op op_mod (pe_call G_l_mix (hr.mono (by decide)) rfl T.m_l_mix T.k_l_mix T.b_l_mix .nil pass0 (pa_cons (pv 3) (pa_cons pe_int pa_nil))) (pe_op op_add (pv 1) pe_int)) pa_nil)) (pg_name (i := 6) nd rfl (Or.inl rfl)) (pss_one (ps_expr (pe_call G_l_step (hr.mono (by decide)) rfl T.m_l_step T.k_l_step T.b_l_step .nil pass0 (pa_cons (pv 4) (pa_cons (pv 5) (pa_cons (pe_call G_l_mix (hr.mono (by decide)) rfl T.m_l_mix T.k_l_mix T.b_l_mix .nil pass0 (pa_cons (pe_call G_l_cell_at (hr.mono (by decide)) rfl T.m_l_cell_at T.k_l_cell_at T.b_l_cell_at .nil pass0 (pa_cons (pv 0) (pa_cons (pe_op op_add pe_int (pe_op op_mod (pv 6) pe_int)) pa_nil))) (pa_cons (pe_op op_add pe_int (pv 6)) pa_nil))) (pa_cons (pv 2) pa_nil))))))))
    (pss_one (ps_ret (pe_call G_l_renamed (hr.mono (by decide)) rfl T.m_l_renamed T.k_l_renamed T.b_l_renamed .nil pass0 (pa_cons (pv 4) (pa_cons (pv 5) (pa_cons (pe_call G_l_cell_at (hr.mono (by decide)) rfl T.m_l_cell_at T.k_l_cell_at T.b_l_cell_at .nil pass0 (pa_cons (pv 0) (pa_cons pe_int pa_nil))) pa_nil))))))))))), ?_⟩
  refine ⟨_, rfl, sa, ns, 0, rfl, hS, by decide, fun c => ?_⟩
  refine ⟨(by show 2 ≤ sizeLine; decide), fun t0 ht0 => ⟨(by show 1 ≤ sizeLine; decide), fun ta hta => ?_⟩⟩
  have a1 := same_new ht0 (.tup [vn 0, vn 1])
  have a2 := same_new hta (.lst [.ref t0])
  refine ⟨(by show 1 ≤ sizeLine; decide), fun o0 ho0 => ⟨(by show 1 ≤ sizeLine; decide), fun o1 ho1 => ⟨(by show 2 ≤ sizeLine; decide), fun oa hoa => ?_⟩⟩⟩
  have a3 := same_new ho0 (.lst [vn 0])
  have a4 := same_new ho1 (.lst [vn 1])
  have a5 := same_new hoa (.lst [.ref o0, .ref o1])
  have gA := (((a1.trans a2).trans a3).trans a4).trans a5
  have n01 : o0 ≠ o1 := ne_of_none upd_same ho1
  have n0a : oa ≠ o0 := (ne_of_none (a4 _ _ upd_same) hoa).symm
  have n1a : oa ≠ o1 := (ne_of_none upd_same hoa).symm
  have mA : MapM H (upd (upd (upd (upd (upd H t0 (.tup [vn 0, vn 1])) ta (.lst [.ref t0])) o0 (.lst [vn 0])) o1 (.lst [vn 1])) oa (.lst [.ref o0, .ref o1])) ta oa [o0, o1] [(0, 1)] [[0], [1]] := by
    refine ⟨⟨[t0], a5 _ _ (a4 _ _ (a3 _ _ upd_same)), rfl, fun i u hu => ?_⟩, ⟨upd_same, rfl, fun i u hu => ?_, by simp [n01], by simp [n0a, n1a], ?_, fun x hx => ?_⟩, a1.free hta, ne_of_none (a4 _ _ (a3 _ _ upd_same)) hoa, fun z => ?_⟩
    · match i, hu with
      | 0, hu => cases hu; exact ⟨t0, rfl, a5 _ _ (a4 _ _ (a3 _ _ (a2 _ _ upd_same)))⟩
      | i + 1, hu => simp at hu
    · match i, hu with
      | 0, hu => cases hu; exact ⟨o0, rfl, a5 _ _ (a4 _ _ upd_same)⟩
      | 1, hu => cases hu; exact ⟨o1, rfl, a5 _ _ upd_same⟩
      | i + 2, hu => simp at hu
    · exact ((a1.trans a2).trans (a3.trans a4)).free hoa
    · have hx' : x = o0 ∨ x = o1 := by simpa using hx
      rcases hx' with rfl | rfl
      · exact (a1.trans a2).free ho0
      · exact ((a1.trans a2).trans a3).free ho1
    · have hz : ta = o0 ∨ ta = o1 := by simpa using z
      rcases hz with rfl | rfl
      · exact ne_of_none upd_same ho0 rfl
      · exact ne_of_none (a3 _ _ upd_same) ho1 rfl
  have gdA := MM.good2
  generalize upd (upd (upd (upd (upd H t0 (.tup [vn 0, vn 1])) ta (.lst [.ref t0])) o0 (.lst [vn 0])) o1 (.lst [vn 1])) oa (.lst [.ref o0, .ref o1]) = HA at gA mA
  clear a1 a2 a3 a4 a5 n01 n0a n1a ht0 hta ho0 ho1 hoa
  refine ⟨_, rfl, c, 0, rfl, by decide, by decide, fun m0 hm0 _ => ⟨_, _, rfl, rfl, (by show (0 : Int) < 4; decide), rfl, _, rfl, ?_⟩⟩
  refine ite2 (fun cc => ?_) (fun cc => ?_)
  · refine ⟨(by show 2 ≤ sizeLine; decide), fun t1 ht1 => ⟨(by show 1 ≤ sizeLine; decide), fun tb htb => ?_⟩⟩
    have a1 := same_new ht1 (.tup [vn 0, vn 0])
    have a2 := same_new htb (.lst [.ref t1])
    refine ⟨(by show 2 ≤ sizeLine; decide), fun o2 ho2 => ⟨(by show 1 ≤ sizeLine; decide), fun ob hob => ?_⟩⟩
    have a3 := same_new ho2 (.lst [vn 0, vn 1])
    have a4 := same_new hob (.lst [.ref o2])
    have gB := gA.trans (((a1.trans a2).trans a3).trans a4)
    have mB : MapM H (upd (upd (upd (upd HA t1 (.tup [vn 0, vn 0])) tb (.lst [.ref t1])) o2 (.lst [vn 0, vn 1])) ob (.lst [.ref o2])) tb ob [o2] [(0, 0)] [[0, 1]] := by
      refine ⟨⟨[t1], a4 _ _ (a3 _ _ upd_same), rfl, fun i u hu => ?_⟩, ⟨upd_same, rfl, fun i u hu => ?_, by simp, by simp; exact (ne_of_none upd_same hob).symm, ?_, fun x hx => ?_⟩, gA.free (a1.free htb), ne_of_none (a3 _ _ upd_same) hob, fun z => ?_⟩
      · match i, hu with
        | 0, hu => cases hu; exact ⟨t1, rfl, a4 _ _ (a3 _ _ (a2 _ _ upd_same))⟩
        | i + 1, hu => simp at hu
      · match i, hu with
        | 0, hu => cases hu; exact ⟨o2, rfl, a4 _ _ upd_same⟩
        | i + 1, hu => simp at hu
      · exact gA.free ((a1.trans (a2.trans a3)).free hob)
      · have hx' : x = o2 := by simpa using hx
        subst hx'
        exact gA.free ((a1.trans a2).free ho2)
      · have hz : tb = o2 := by simpa using z
        exact ne_of_none upd_same ho2 hz
    have gdB := MM.good1
    generalize upd (upd (upd (upd HA t1 (.tup [vn 0, vn 0])) tb (.lst [.ref t1])) o2 (.lst [vn 0, vn 1])) ob (.lst [.ref o2]) = HB at gB mB
    clear a1 a2 a3 a4 ht1 htb ho2 hob
    refine ⟨_, rfl, c, 1, rfl, by decide, by decide, fun m1 hm1 _ => ⟨_, rfl, _, _, rfl, rfl, _, _, rfl, rfl, (by show (0 : Int) < steps + 1; omega), m1 % (steps + 1), rfl, ?_, ?_, ?_⟩⟩
    · have := Int.emod_nonneg m1 (show steps + 1 ≠ 0 by omega); omega
    · have := Int.emod_lt_of_pos m1 (show 0 < steps + 1 by omega); omega
    have hn : (m1 % (steps + 1)).toNat ≤ 30 := by have := Int.emod_lt_of_pos m1 (show 0 < steps + 1 by omega); omega
    refine for_range (lo := 0) (n := (m1 % (steps + 1)).toNat) (fun i σ H' => ∃ (rr : List Addr) (ts : MM.Ties) (os : MM.Ords) (o6 : Option V), σ = [some (.ref sa), some (.int steps), some (.int most), some (.int c), some (.ref tb), some (.ref ob), o6] ∧ Same H H' ∧ MapM H H' tb ob rr ts os ∧ MM.Good ts os ∧ ts.length ≤ i + 1 ∧ os.length ≤ i + 2 ∧ MM.FC ts os)
      ⟨_, _, _, none, rfl, gB, mB, gdB, by simp, by simp, MM.fc1⟩ ?_ ?_
    · rintro i σ H1 hi ⟨rr, ts, os, o6, rfl, g1, hm, gd, l1, l2, fl⟩
      refine ⟨_, rfl, _, rfl, _, rfl, _, rfl, _, _, rfl, rfl, (by show (0 : Int) < 6; decide), _, _, rfl, rfl, sa, ns, _, rfl, g1.seq hS, by omega, fun c2 => ⟨_, rfl, _, _, rfl, rfl, _, _, rfl, by omega, by omega, fun m2 hm2 _ => ⟨_, rfl, H, tb, ob, m2, most, rr, ts, os, rfl, g1, hm, gd, by omega, by omega, hm2, ?_⟩⟩⟩
      exact fun H2 rr' ts' os' g' hm' gd' k1 k2 gw => ⟨rr', ts', os', _, rfl, g', hm', gd', by omega, by omega, gw.fc fl⟩
    · rintro σ H1 ⟨rr, ts, os, o6, rfl, g1, hm, gd, l1, l2, fl⟩
      refine ⟨_, rfl, _, rfl, _, rfl, sa, ns, 1, rfl, g1.seq hS, by decide, fun c3 => ⟨tb, ob, c3, ts, os, rfl, hm.ts, hm.os.os, gd, by omega, by omega, ?_⟩⟩
      exact fun r tA oA rr' ts' os' H2 g2 er hm2 gd2 k1 k2 k3 => q r tA oA rr' ts' os' H2 (g1.trans g2) (by rw [er, k2]) (hm2.base g1) gd2 (by omega) (by omega) ⟨by have := fl.flat; have := k3.1; unfold MM.Flat at *; omega, k3.2 fl.conn⟩
  · refine ⟨_, rfl, c, 1, rfl, by decide, by decide, fun m1 hm1 _ => ⟨_, rfl, _, _, rfl, rfl, _, _, rfl, rfl, (by show (0 : Int) < steps + 1; omega), m1 % (steps + 1), rfl, ?_, ?_, ?_⟩⟩
    · have := Int.emod_nonneg m1 (show steps + 1 ≠ 0 by omega); omega
    · have := Int.emod_lt_of_pos m1 (show 0 < steps + 1 by omega); omega
    have hn : (m1 % (steps + 1)).toNat ≤ 30 := by have := Int.emod_lt_of_pos m1 (show 0 < steps + 1 by omega); omega
    refine for_range (lo := 0) (n := (m1 % (steps + 1)).toNat) (fun i σ H' => ∃ (rr : List Addr) (ts : MM.Ties) (os : MM.Ords) (o6 : Option V), σ = [some (.ref sa), some (.int steps), some (.int most), some (.int c), some (.ref ta), some (.ref oa), o6] ∧ Same H H' ∧ MapM H H' ta oa rr ts os ∧ MM.Good ts os ∧ ts.length ≤ i + 1 ∧ os.length ≤ i + 2 ∧ MM.FC ts os)
      ⟨_, _, _, none, rfl, gA, mA, gdA, by simp, by simp, MM.fc2⟩ ?_ ?_
    · rintro i σ H1 hi ⟨rr, ts, os, o6, rfl, g1, hm, gd, l1, l2, fl⟩
      refine ⟨_, rfl, _, rfl, _, rfl, _, rfl, _, _, rfl, rfl, (by show (0 : Int) < 6; decide), _, _, rfl, rfl, sa, ns, _, rfl, g1.seq hS, by omega, fun c2 => ⟨_, rfl, _, _, rfl, rfl, _, _, rfl, by omega, by omega, fun m2 hm2 _ => ⟨_, rfl, H, ta, oa, m2, most, rr, ts, os, rfl, g1, hm, gd, by omega, by omega, hm2, ?_⟩⟩⟩
      exact fun H2 rr' ts' os' g' hm' gd' k1 k2 gw => ⟨rr', ts', os', _, rfl, g', hm', gd', by omega, by omega, gw.fc fl⟩
    · rintro σ H1 ⟨rr, ts, os, o6, rfl, g1, hm, gd, l1, l2, fl⟩
      refine ⟨_, rfl, _, rfl, _, rfl, sa, ns, 1, rfl, g1.seq hS, by decide, fun c3 => ⟨ta, oa, c3, ts, os, rfl, hm.ts, hm.os.os, gd, by omega, by omega, ?_⟩⟩
      exact fun r tA oA rr' ts' os' H2 g2 er hm2 gd2 k1 k2 k3 => q r tA oA rr' ts' os' H2 (g1.trans g2) (by rw [er, k2]) (hm2.base g1) gd2 (by omega) (by omega) ⟨by have := fl.flat; have := k3.1; unfold MM.Flat at *; omega, k3.2 fl.conn⟩
end K05

namespace L2
open PySem PyProof.Rows
def WebAt (H : Hp) (w : Addr) (n : Nat) (ts : MM.Ties) (os : MM.Ords) : Prop := ∃ tA oA : Addr, H w = some (.tup [vn n, .ref tA, .ref oA]) ∧ TsAt H tA ts ∧ OsAt H oA os
theorem Same.web {H H' : Hp} (g : Same H H') {w : Addr} {n : Nat} {ts : MM.Ties} {os : MM.Ords} (h : WebAt H w n ts os) : WebAt H' w n ts os := by
  obtain ⟨tA, oA, h1, h2, h3⟩ := h
  exact ⟨tA, oA, g _ _ h1, g.ts h2, g.os h3⟩
end L2
namespace K05
open PySem L2 PyProof.Rows
variable {P : Program} {w : World} {K : PySem.W.Frag} {mg : Str → Option Value} {base : Heap} {t : Adr}
theorem ok_other (T : Txt K mg t) : FnOk P w K mg base CX0 1 t.a_other_end t.d_other_end ["end"] spOth := by
  refine T.F_other_end.ok sc_other_end (fun vs H Q E h => ?_) (fun cdv A outer s H vs Q E hr h => ?_)
  · obtain ⟨e, rfl, _⟩ := h; rfl
  obtain ⟨e, rfl, q⟩ := h
  refine ⟨_, (pss_one (ps_ret (pe_op op_xor (pv 0) pe_int))), ?_⟩
  refine ⟨_, rfl, _, _, rfl, rfl, ?_⟩
  have e1 : Builtin.bitXor (e : Int) 1 = ((MM.oth e : Nat) : Int) := by
    rw [PyProof.Rows.bitXor_and, PyProof.Rows.bitAnd_m1]
    unfold MM.oth
    split <;> omega
  show Q (.int (Builtin.bitXor (e : Int) 1)) H
  rw [e1]
  exact q
def spWPlace : Sp := fun vs H Q _ => ∃ (wa : Addr) (n : Nat) (ts : MM.Ties) (os : MM.Ords) (e : Nat), vs = [.ref wa, vn e] ∧ WebAt H wa n ts os ∧ e < 2 * ts.length ∧ Q (vn (MM.place ts e)) H
theorem ok_place (T : Txt K mg t) : FnOk P w K mg base CX0 1 t.a_place_of t.d_place_of ["web", "end"] spWPlace := by
  refine T.F_place_of.ok sc_place_of (fun vs H Q E h => ?_) (fun cdv A outer s H vs Q E hr h => ?_)
  · obtain ⟨wa, n, ts, os, e, rfl, _⟩ := h; rfl
  obtain ⟨wa, n, ts, os, e, rfl, ⟨tA, oA, hw, ht, ho⟩, he, q⟩ := h
  refine ⟨_, (pss_one (ps_ret (pe_ix ix_seq (pe_ix ix_seq (pe_ix ix_tup (pv 0) pe_int (fun _ _ => rfl)) (pe_op op_fdiv (pv 1) pe_int) (fun _ _ => rfl)) (pe_op op_mod (pv 1) pe_int) (fun _ _ => rfl)))), ?_⟩
  obtain ⟨xs, r, h1, h2, h3, h4⟩ := ht.item (i := e / 2) (by omega)
  refine ⟨_, rfl, wa, _, _, .ref tA, rfl, rfl, SqT.of hw, rfl, _, rfl, _, _, rfl, rfl, ⟨by decide, by decide⟩, .inl ⟨tA, xs, _, _, rfl, rfl, SqL.of h1, (by show atI xs ((e : Int) / 2) = _; rw [show (e : Int) / 2 = ((e / 2 : Nat) : Int) by omega]; exact h3), ?_⟩⟩
  refine ⟨_, rfl, _, _, rfl, rfl, (by show (0 : Int) < 2; decide), .inr (.inl ⟨r, _, _, _, rfl, rfl, SqT.of h4, at_pair e, ?_⟩)⟩
  unfold MM.place at q
  split
  · rename_i h; rw [if_pos h] at q; exact q
  · rename_i h; rw [if_neg h] at q; exact q
def spGoes : Sp := fun vs H Q _ => ∃ (wa : Addr) (n : Nat) (ts : MM.Ties) (os : MM.Ords) (e : Nat), vs = [.ref wa, vn e] ∧ WebAt H wa n ts os ∧ e < 2 * ts.length ∧ Q (vn (MM.place ts (MM.oth e))) H
theorem ok_goes (T : Txt K mg t) : FnOk P w K mg base CX0 2 t.a_goes_to t.d_goes_to ["web", "end"] spGoes := by
  have G_other_end := ok_other (P := P) (w := w) (base := base) T
  have G_place_of := ok_place (P := P) (w := w) (base := base) T
  refine T.F_goes_to.ok sc_goes_to (fun vs H Q E h => ?_) (fun cdv A outer s H vs Q E hr h => ?_)
  · obtain ⟨wa, n, ts, os, e, rfl, _⟩ := h; rfl
  obtain ⟨wa, n, ts, os, e, rfl, hw, he, q⟩ := h
  refine ⟨_, (pss_one (ps_ret (pe_call G_place_of (hr.mono (by decide)) rfl T.m_place_of T.k_place_of T.b_place_of .nil pass0 (pa_cons (pv 0) (pa_cons (pe_call G_other_end (hr.mono (by decide)) rfl T.m_other_end T.k_other_end T.b_other_end .nil pass0 (pa_cons (pv 1) pa_nil)) pa_nil))))), ?_⟩
  exact ⟨_, rfl, _, rfl, e, rfl, wa, n, ts, os, MM.oth e, rfl, hw, MM.oth_lt he, q⟩
def spBehind : Sp := fun vs H Q _ => ∃ (wa : Addr) (n : Nat) (ts : MM.Ties) (os : MM.Ords) (e : Nat), vs = [.ref wa, vn e] ∧ WebAt H wa n ts os ∧ MM.Good ts os ∧ e < 2 * ts.length ∧ Q (vn (MM.behind ts os e)) H
theorem ok_behind (T : Txt K mg t) : FnOk P w K mg base CX0 3 t.a_behind t.d_behind ["web", "end"] spBehind := by
  have G_other_end := ok_other (P := P) (w := w) (base := base) T
  have G_goes_to := ok_goes (P := P) (w := w) (base := base) T
  refine T.F_behind.ok sc_behind (fun vs H Q E h => ?_) (fun cdv A outer s H vs Q E hr h => ?_)
  · obtain ⟨wa, n, ts, os, e, rfl, _⟩ := h; rfl
  obtain ⟨wa, n, ts, os, e, rfl, hw, g, he, q⟩ := h
  have nd := sc_behind.nd
  refine ⟨_, (pss_cons (ps_set (i := 2) nd rfl (Or.inl rfl) (pe_ix ix_seq (pe_ix ix_tup (pv 0) pe_int (fun _ _ => rfl)) (pe_call G_goes_to (hr.mono (by decide)) rfl T.m_goes_to T.k_goes_to T.b_goes_to .nil pass0 (pa_cons (pv 0) (pa_cons (pv 1) pa_nil))) (fun _ _ => rfl)))
    (pss_one (ps_ret (pe_ix ix_list (pv 2) (pe_op op_sub (pe_bm PySem.F.plainAttrs_list PySem.F.slot_list_index PySem.F.type_list_index mt_index (pv 2) (pa_cons (pe_call G_other_end (hr.mono (by decide)) rfl T.m_other_end T.k_other_end T.b_other_end .nil pass0 (pa_cons (pv 1) pa_nil)) pa_nil)) pe_int) (fun _ _ => rfl))))), ?_⟩
  obtain ⟨tA, oA, hw1, ht, ho⟩ := id hw
  have hp := g.g.has (MM.oth e) (MM.oth_lt he)
  obtain ⟨xs, r, h1, h2, h3, h4⟩ := ho.item hp.1
  refine ⟨_, rfl, wa, _, _, .ref oA, rfl, rfl, SqT.of hw1, rfl, _, rfl, _, rfl, wa, n, ts, os, e, rfl, hw, he, .inl ⟨oA, xs, _, _, rfl, rfl, SqL.of h1, h3, ?_⟩⟩
  exact ⟨_, rfl, _, rfl, .inl ⟨rfl, _, SqL.of h4⟩, _, rfl, e, rfl, r, _, _, rfl, rfl, h4, hp.2, _, _, rfl, rfl, r, _, _, _, rfl, rfl, SqL.of h4, at_prev hp.2, q⟩
def spLandFrom : Sp := fun vs H Q _ => ∃ (wa : Addr) (n : Nat) (ts : MM.Ties) (os : MM.Ords) (e : Nat), vs = [.ref wa, vn e] ∧ WebAt H wa n ts os ∧ MM.Good ts os ∧ ts.length ≤ 500 ∧ e < 2 * ts.length ∧ ∀ r, H r = none → Q (.ref r) (upd H r (.lst (vns (MM.landOf (MM.behind ts os) e))))
theorem ok_landfrom (T : Txt K mg t) : FnOk P w K mg base CX0 4 t.a_land_from t.d_land_from ["web", "first"] spLandFrom := by
  have G_behind := ok_behind (P := P) (w := w) (base := base) T
  refine T.F_land_from.ok sc_land_from (fun vs H Q E h => ?_) (fun cdv A outer s H vs Q E hr h => ?_)
  · obtain ⟨wa, n, ts, os, e, rfl, _⟩ := h; rfl
  obtain ⟨wa, n, ts, os, e, rfl, hw, g, h500, he, q⟩ := h
  have nd := sc_land_from.nd
  refine ⟨_, (pss_cons (ps_set (i := 2) nd rfl (Or.inl rfl) (pe_lst (pa_cons (pv 1) pa_nil)))
    (pss_cons (ps_set (i := 3) nd rfl (Or.inl rfl) (pe_call G_behind (hr.mono (by decide)) rfl T.m_behind T.k_behind T.b_behind .nil pass0 (pa_cons (pv 0) (pa_cons (pv 1) pa_nil))))
    (pss_cons (ps_while PassesOwn.never (pt_cmpR op_ne (pv 3) (pv 1) (nomark _)) (pss_cons (ps_expr (pe_bm PySem.F.plainAttrs_list PySem.F.slot_list_append PySem.F.type_list_append mt_append (pv 2) (pa_cons (pv 3) pa_nil)))
    (pss_one (ps_set (i := 3) nd rfl (Or.inl rfl) (pe_call G_behind (hr.mono (by decide)) rfl T.m_behind T.k_behind T.b_behind .nil pass0 (pa_cons (pv 0) (pa_cons (pv 3) pa_nil)))))))
    (pss_one (ps_ret (pv 2)))))), ?_⟩
  have m := g.maps
  obtain ⟨rd, rdN⟩ := MM.per_round m he
  refine ⟨_, rfl, (by show 1 ≤ sizeLine; decide), fun la hla => ?_⟩
  have g1 := same_new hla (.lst [vn e])
  refine ⟨_, rfl, _, rfl, wa, n, ts, os, e, rfl, g1.web hw, g, he, ?_⟩
  generalize hf : MM.behind ts os = f at m rd rdN q
  refine ⟨fun k σ H4 => ∃ j, k = MM.per f e - j ∧ 0 < j ∧ j ≤ MM.per f e ∧ σ = [some (.ref wa), some (vn e), some (.ref la), some (vn (MM.iter f j e))] ∧ H4 = upd H la (.lst (vns (MM.path f e j))), ⟨_, 1, rfl, Nat.one_pos, rd.1, rfl, rfl⟩, ?_⟩
  rintro k σ H4 ⟨j, rfl, hj0, hj, rfl, rfl⟩
  refine ⟨_, rfl, _, rfl, rfl, _, rfl, ?_⟩
  by_cases hc : MM.iter f j e = e
  · refine iteFb (by rw [hc]; simp) ?_
    have ej : j = MM.per f e := by
      rcases Nat.lt_or_ge j (MM.per f e) with z | z
      · exact absurd hc (rd.2.2 j hj0 z)
      · omega
    subst ej
    exact ⟨_, rfl, q la hla⟩
  · refine iteTb (by simp; omega) ?_
    have hjp := MM.round_more rd hj0 hj hc
    refine ⟨_, fun σ' H' h => h, ?_⟩
    refine ⟨_, rfl, .inl ⟨rfl, _, SqL.of upd_same⟩, _, rfl, la, _, _, rfl, rfl, upd_same, ?_, ?_⟩
    · rw [List.length_map, MM.path_len]; exact Nat.lt_of_le_of_lt (by omega : j ≤ 1000) (by decide)
    have e7 : vns (MM.path f e j) ++ [vn (MM.iter f j e)] = vns (MM.path f e (j + 1)) := by rw [MM.path_succ, vns_app]; rfl
    rw [e7, upd_upd]
    refine ⟨_, rfl, _, rfl, wa, n, ts, os, MM.iter f j e, rfl, (same_new hla _).web hw, g, MM.iter_lt m he j, ?_⟩
    rw [hf]
    exact ⟨MM.per f e - (j + 1), by omega, j + 1, rfl, by omega, by omega, rfl, rfl⟩
end K05

namespace MM
theorem filter_head {p : Nat → Bool} {N i : Nat} (hi : i < N) (h0 : ∀ j, j < i → p j = false) (h1 : p i = true) : ∃ r, (List.range N).filter p = i :: r := by
  have e : N = (i + 1) + (N - (i + 1)) := by omega
  rw [e, List.range_add, List.range_succ, List.filter_append, List.filter_append]
  have e1 : (List.range i).filter p = [] := by
    rw [List.filter_eq_nil_iff]
    intro a ha
    rw [h0 a (List.mem_range.mp ha)]
    exact Bool.false_ne_true
  rw [e1, List.nil_append, List.filter_cons, if_pos h1]
  exact ⟨_, rfl⟩
end MM
namespace K05
open PySem L2 PyProof.Rows
variable {P : Program} {w : World} {K : PySem.W.Frag} {mg : Str → Option Value} {base : Heap} {t : Adr}
def spLands : Sp := fun vs H Q _ => ∃ (wa : Addr) (n : Nat) (ts : MM.Ties) (os : MM.Ords), vs = [.ref wa] ∧ WebAt H wa n ts os ∧ MM.Good ts os ∧ ts.length ≤ 500 ∧
  ∀ (r : Addr) (rr : List Addr) (H' : Hp), Same H H' → NewOs H H' r rr (MM.landsOf (MM.behind ts os) (2 * ts.length)) → Q (.ref r) H'
theorem ok_lands (T : Txt K mg t) : FnOk P w K mg base CX0 5 t.a_lands t.d_lands ["web"] spLands := by
  have G_land_from := ok_landfrom (P := P) (w := w) (base := base) T
  refine T.F_lands.ok sc_lands (fun vs H Q E h => ?_) (fun cdv A outer s H vs Q E hr h => ?_)
  · obtain ⟨wa, n, ts, os, rfl, _⟩ := h; rfl
  obtain ⟨wa, n, ts, os, rfl, hw, g, h500, q⟩ := h
  have nd := sc_lands.nd
  have nd_end : (["end"] : List Str).Nodup := by decide
  refine ⟨_, (pss_cons (ps_set (i := 1) nd rfl (Or.inl rfl) (pe_lst pa_nil))
    (pss_cons (ps_setComp (i := 2) nd rfl (Or.inl rfl)  (N' := ["end"]) (js := [none]) rfl (pi_range1 rfl T.z_range (pa_cons (pe_op op_mul pe_int (pe_callB call_len_seq rfl T.z_len PySem.boot_len (pa_cons (pe_ix ix_tup (pv 0) pe_int (fun _ _ => rfl)) pa_nil))) pa_nil)) (fun _ _ _ _ _ => (pg_name (i := 0) nd_end rfl (Or.inl rfl))) (fun _ _ _ _ _ => pf_nil) (fun _ _ _ _ _ => pe_bl))
    (pss_cons (ps_for PassesOwn.never rfl (pi_range1 rfl T.z_range (pa_cons (pe_op op_mul pe_int (pe_callB call_len_seq rfl T.z_len PySem.boot_len (pa_cons (pe_ix ix_tup (pv 0) pe_int (fun _ _ => rfl)) pa_nil))) pa_nil)) (pg_name (i := 3) nd rfl (Or.inl rfl)) (pss_one (ps_if (pt_not (pt_truth (pe_ix ix_list (pv 2) (pv 3) (fun _ _ => rfl)) (fun _ => rfl))) (pss_cons (ps_set (i := 4) nd rfl (Or.inl rfl) (pe_call G_land_from (hr.mono (by decide)) rfl T.m_land_from T.k_land_from T.b_land_from .nil pass0 (pa_cons (pv 0) (pa_cons (pv 3) pa_nil))))
    (pss_cons (ps_for PassesOwn.never rfl (pi_list (pv 4)) (pg_name (i := 5) nd rfl (Or.inl rfl)) (pss_one (ps_asg pe_bl (pg_sub (pv 2) (pv 5) set_list))))
    (pss_one (ps_expr (pe_bm PySem.F.plainAttrs_list PySem.F.slot_list_append PySem.F.type_list_append mt_append (pv 1) (pa_cons (pv 4) pa_nil)))))) pss_nil)))
    (pss_one (ps_ret (pv 1)))))), ?_⟩
  have m := g.maps
  obtain ⟨tA, oA, hw1, ht, ho⟩ := id hw
  obtain ⟨tr, tr1, tr2, tr3⟩ := id ht
  have eN : (2 : Int) * ((tr.map V.ref).length : Nat) = ((2 * ts.length : Nat) : Int) := by rw [List.length_map, tr2]; push_cast; rfl
  -- told
  refine ⟨(by show 0 ≤ sizeLine; decide), fun D1 hD1 => ?_⟩
  have g1 := same_new hD1 (.lst [])
  -- seen
  refine ⟨_, rfl, wa, _, _, .ref tA, rfl, rfl, SqT.of (g1 _ _ hw1), rfl, tA, _, rfl, .inl (SqL.of (g1 _ _ tr1)), _, _, rfl, rfl, .inl ⟨by decide, by decide⟩, _, rfl, ?_, ?_, fun D2 hD2 => ?_⟩
  · show -(2 ^ 62) ≤ (2 : Int) * ((tr.map V.ref).length : Nat); omega
  · show (2 : Int) * ((tr.map V.ref).length : Nat) < 2 ^ 62; rw [eN]; omega
  have eN2 : ((2 : Int) * ((tr.map V.ref).length : Nat)).toNat = 2 * ts.length := by rw [eN]; exact Int.toNat_natCast _
  generalize hf : MM.behind ts os = f at m q
  generalize hN : 2 * ts.length = N at m q eN eN2
  refine comp_map N (fun i ys H' => ys = (List.replicate i false).map V.bl ∧ H' = upd (upd H D1 (.lst [])) D2 (.lst ys)) ⟨rfl, rfl⟩ ?_ ?_
  · rintro i ys H' hi ⟨rfl, rfl⟩
    refine ⟨(by show i < ((2 : Int) * ((tr.map V.ref).length : Nat)).toNat; omega), ?_⟩
    rintro x H'' ⟨rfl, rfl⟩
    refine ⟨(Fills.refl _).set _ rfl, upd_same, ?_, ?_, ?_⟩
    · rw [List.length_map, List.length_replicate]; exact Nat.lt_of_lt_of_le hi (Nat.le_trans (by omega : N ≤ 1000) (by decide))
    · rw [List.replicate_succ', List.map_append]; rfl
    · rw [upd_upd]
  rintro ys H2 ⟨rfl, rfl⟩
  refine ⟨(by show ((2 : Int) * ((tr.map V.ref).length : Nat)).toNat ≤ N; omega), ?_⟩
  have g2' := same_new hD2 (.lst ((List.replicate N false).map V.bl))
  have g2 := g1.trans g2'
  have nD : D1 ≠ D2 := ne_of_none upd_same hD2
  have n0 : NewOs H (upd (upd H D1 (.lst [])) D2 (.lst ((List.replicate N false).map V.bl))) D1 [] [] := ⟨g2' _ _ upd_same, rfl, fun i l h => by simp at h, List.nodup_nil, by simp, hD1, fun x hx => by cases hx⟩
  have e0 : (upd (upd H D1 (.lst [])) D2 (.lst ((List.replicate N false).map V.bl))) D2 = some (.lst ((List.replicate N false).map V.bl)) := upd_same
  have hD2H : H D2 = none := g1.free hD2
  generalize upd (upd H D1 (.lst [])) D2 (.lst ((List.replicate N false).map V.bl)) = H2 at g2 n0 e0
  clear g2' hD2 g1
  -- the loop
  refine ⟨_, rfl, wa, _, _, .ref tA, rfl, rfl, SqT.of (g2 _ _ hw1), rfl, tA, _, rfl, .inl (SqL.of (g2 _ _ tr1)), _, _, rfl, rfl, .inl ⟨by decide, by decide⟩, _, rfl, ?_, ?_, ?_⟩
  · show -(2 ^ 62) ≤ (2 : Int) * ((tr.map V.ref).length : Nat); omega
  · show (2 : Int) * ((tr.map V.ref).length : Nat) < 2 ^ 62; rw [eN]; omega
  refine for_range (lo := 0) (n := ((2 : Int) * ((tr.map V.ref).length : Nat)).toNat) (fun i σ H' => ∃ (rr : List Addr) (done : MM.Ords) (sn : List Bool) (o3 o4 o5 : Option V), σ = [some (.ref wa), some (.ref D1), some (.ref D2), o3, o4, o5] ∧ Same H H' ∧ NewOs H H' D1 rr done ∧ D2 ∉ rr ∧
      H' D2 = some (.lst (sn.map V.bl)) ∧ sn.length = N ∧ done ++ MM.lf f ((List.range N).filter fun x => !sn.getD x false) = MM.landsOf f N ∧ ∀ j, j < i → sn.getD j false = true)
    ⟨[], [], List.replicate N false, none, none, none, rfl, g2, n0, by simp, e0, by simp, ?_, fun j hj => absurd hj (Nat.not_lt_zero _)⟩ ?_ ?_
  · have e : (List.range N).filter (fun x => !(List.replicate N false).getD x false) = List.range N := by
      rw [List.filter_eq_self]
      intro a ha
      have := List.mem_range.mp ha
      simp [List.getD_eq_getElem?_getD, List.getElem?_replicate, this]
    rw [e]
    rfl
  · rintro i σ H3 hi ⟨rr, done, sn, o3, o4, o5, rfl, g3, n3, dr, es, sl, eq, hs⟩
    rw [eN2] at hi
    have hi0 : (0 : Int) + (i : Int) = (i : Int) := Int.zero_add _
    rw [hi0]
    have hat : atI (sn.map V.bl) (i : Int) = some (.bl (sn.getD i false)) := atI_nat (by rw [List.getElem?_map, List.getD_eq_getElem?_getD, List.getElem?_eq_getElem (show i < sn.length by omega)]; rfl)
    refine ⟨_, rfl, _, rfl, D2, _, _, _, rfl, rfl, SqL.of es, hat, _, rfl, ?_⟩
    cases hb : sn.getD i false with
    | true =>
      refine iteFb rfl ?_
      refine ⟨rr, done, sn, _, _, _, rfl, g3, n3, dr, es, sl, eq, fun j hj => ?_⟩
      rcases Nat.lt_or_ge j i with z | z
      · exact hs j z
      · have : j = i := by omega
        subst this
        exact hb
    | false =>
      refine iteTb rfl ?_
      refine ⟨_, rfl, _, rfl, wa, n, ts, os, i, rfl, g3.web hw, g, h500, by omega, fun la hla => ?_⟩
      rw [hf]
      have gl := same_new hla (.lst (vns (MM.landOf f i)))
      have lanD1 : la ≠ D1 := (ne_of_none n3.at_ hla).symm
      have lanD2 : la ≠ D2 := (ne_of_none es hla).symm
      have lar : la ∉ rr := fun z => by obtain ⟨l, hl⟩ := n3.ex z; rw [hla] at hl; cases hl
      have hll := MM.land_lt m hi
      have lan := MM.land_nodup m hi
      have lal := (MM.land_len m hi).2
      have selfl := MM.self_land m hi
      refine ⟨_, rfl, la, rfl, ⟨_, SqL.of upd_same⟩, for_list (xs := vns (MM.landOf f i)) (fun j σ H' => ∃ (sn' : List Bool) (o5 : Option V), σ = [some (.ref wa), some (.ref D1), some (.ref D2), some (vn i), some (.ref la), o5] ∧ H' = upd (upd H3 la (.lst (vns (MM.landOf f i)))) D2 (.lst (sn'.map V.bl)) ∧ sn'.length = N ∧
          ∀ x, sn'.getD x false = (sn.getD x false || decide (x ∈ (MM.landOf f i).take j)))
        ⟨sn, _, rfl, ?_, sl, fun x => by simp⟩ (fun j σ H' _ h => by obtain ⟨sn', o, _, rfl, _⟩ := h; exact SqL.of (by rw [upd_ne lanD2]; exact upd_same)) ?_ ?_⟩
      · funext b
        by_cases hb' : b = D2
        · subst hb'; rw [upd_same]; exact gl _ _ es
        · rw [upd_ne hb']
      · rintro j x σ H' hx ⟨sn', o, rfl, rfl, sl', hsn⟩
        obtain ⟨hj, ej⟩ := List.getElem?_eq_some_iff.mp hx
        rw [List.length_map] at hj
        have ex : x = vn (MM.landOf f i)[j] := by rw [← ej]; simp
        subst ex
        have hxN := hll _ (List.getElem_mem hj)
        refine ⟨_, rfl, _, rfl, D2, _, _, (MM.landOf f i)[j], rfl, rfl, upd_same, ixN_nat (by rw [List.length_map]; omega), sn'.set (MM.landOf f i)[j] true, _, rfl, ?_, by rw [List.length_set]; exact sl', fun y => ?_⟩
        · rw [upd_upd, List.map_set]
        · have hmem : y ∈ (MM.landOf f i).take (j + 1) ↔ y ∈ (MM.landOf f i).take j ∨ y = (MM.landOf f i)[j] := by
            rw [List.take_add_one, List.getElem?_eq_getElem hj, List.mem_append]; simp
          by_cases hy : (MM.landOf f i)[j] = y
          · subst hy
            rw [MM.getD_set_same (by omega)]
            simp [hmem]
          · rw [MM.getD_set_ne hy, hsn y]
            have : (y ∈ (MM.landOf f i).take (j + 1)) = (y ∈ (MM.landOf f i).take j) := by
              rw [eq_iff_iff, hmem]
              constructor
              · rintro (z | z)
                · exact z
                · exact absurd z.symm hy
              · exact .inl
            simp only [this]
      · rintro σ H' ⟨sn', o, rfl, rfl, sl', hsn⟩
        rw [List.length_map, List.take_length] at hsn
        have n4 : NewOs H (upd (upd H3 la (.lst (vns (MM.landOf f i)))) D2 (.lst (sn'.map V.bl))) D1 rr done := n3.keep fun b u hb h => by
          rw [upd_ne (show b ≠ D2 by rcases hb with rfl | hb; exact nD; rintro rfl; exact dr hb)]
          exact gl _ _ h
        have g4 : Same H (upd (upd H3 la (.lst (vns (MM.landOf f i)))) D2 (.lst (sn'.map V.bl))) := fun b u h => by rw [upd_ne (ne_of_none h hD2H)]; exact gl _ _ (g3 _ _ h)
        have la4 : (upd (upd H3 la (.lst (vns (MM.landOf f i)))) D2 (.lst (sn'.map V.bl))) la = some (.lst (vns (MM.landOf f i))) := by rw [upd_ne lanD2]; exact upd_same
        have es4 : (upd (upd H3 la (.lst (vns (MM.landOf f i)))) D2 (.lst (sn'.map V.bl))) D2 = some (.lst (sn'.map V.bl)) := upd_same
        generalize upd (upd H3 la (.lst (vns (MM.landOf f i)))) D2 (.lst (sn'.map V.bl)) = H4 at n4 g4 la4 es4
        have hdl : done.length ≤ N := by
          have h1 := MM.lf_len m _ (List.range N) (Nat.le_refl _) (fun x hx => List.mem_range.mp hx)
          have h2 := congrArg List.length eq
          rw [List.length_append] at h2
          unfold MM.landsOf at h2
          rw [List.length_range] at h1
          omega
        refine ⟨_, rfl, .inl ⟨rfl, _, SqL.of n4.at_⟩, _, rfl, D1, _, _, rfl, rfl, n4.at_, ?_, ?_⟩
        · rw [List.length_map, n4.len]; exact Nat.lt_of_le_of_lt (by omega : done.length ≤ 1000) (by decide)
        have n5 := n4.push (x := la) (l := MM.landOf f i) (H2 := upd H4 D1 (.lst (rr.map V.ref ++ [.ref la]))) (g3.free hla) lar lanD1 (by rw [upd_same, List.map_append]; rfl) (by rw [upd_ne lanD1]; exact la4) fun b u hb h => by rw [upd_ne (show b ≠ D1 from fun z => n4.nin (z ▸ hb))]; exact h
        refine ⟨rr ++ [la], done ++ [MM.landOf f i], sn', _, _, _, rfl, ?_, n5, ?_, ?_, sl', ?_, fun j hj => ?_⟩
        · exact fun b u h => by rw [upd_ne (ne_of_none h hD1)]; exact g4 _ _ h
        · intro z
          rcases List.mem_append.mp z with z | z
          · exact dr z
          · have : D2 = la := by simpa using z
            exact lanD2 this.symm
        · rw [upd_ne (Ne.symm nD)]; exact es4
        · obtain ⟨r, hr'⟩ := MM.filter_head (p := fun x => !sn.getD x false) hi (fun j hj => by rw [hs j hj]; rfl) (by rw [hb]; rfl)
          have e2 : (List.range N).filter (fun x => !sn'.getD x false) = (i :: r).filter fun x => decide (x ∉ MM.landOf f i) := by
            rw [← hr', List.filter_filter]
            refine List.filter_congr fun x _ => ?_
            rw [hsn x]
            by_cases z : x ∈ MM.landOf f i <;> simp [z]
          rw [hr', MM.lf_cons m (fun x hx => by rw [← hr'] at hx; exact List.mem_range.mp (List.mem_filter.mp hx).1)] at eq
          rw [List.append_assoc, e2]
          exact eq
        · rw [hsn j]
          rcases Nat.lt_or_ge j i with z | z
          · rw [hs j z]; rfl
          · have : j = i := by omega
            subst this
            simp [selfl]
  · rintro σ H3 ⟨rr, done, sn, o3, o4, o5, rfl, g3, n3, dr, es, sl, eq, hs⟩
    rw [eN2] at hs
    have e : (List.range N).filter (fun x => !sn.getD x false) = [] := by
      rw [List.filter_eq_nil_iff]
      intro a ha
      rw [hs a (List.mem_range.mp ha)]
      exact Bool.false_ne_true
    rw [e, MM.lf_nil, List.append_nil] at eq
    exact ⟨_, rfl, q D1 rr H3 g3 (eq ▸ n3)⟩
end K05

namespace L2
open PySem PyProof.Rows
def dT (ts : MM.Ties) : List PyData := ts.map fun t => .tuple [.int (t.1 : Int), .int (t.2 : Int)]
def dN (l : List Nat) : List PyData := l.map fun n : Nat => PyData.int (n : Int)
def dO (os : MM.Ords) : List PyData := os.map fun l => .list (dN l)
theorem bds_by {K : PySem.W.Frag} {H : Hp} : ∀ (xs : List V) (ds : List PyData), xs.length = ds.length → (∀ (i : Nat) x d, xs[i]? = some x → ds[i]? = some d → Bd K H x d) → Bds K H xs ds
  | [], [], _, _ => .nil
  | [], _ :: _, h, _ => by cases h
  | _ :: _, [], h, _ => by cases h
  | x :: xs, d :: ds, h, f => .cons (f 0 x d rfl rfl) (bds_by xs ds (by simpa using h) fun i x' d' h1 h2 => f (i + 1) x' d' h1 h2)
theorem bd_ties {K : PySem.W.Frag} {H : Hp} {a : Addr} {ts : MM.Ties} (h : TsAt H a ts) : Bd K H (.ref a) (.list (dT ts)) := by
  obtain ⟨tr, h1, h2, h3⟩ := h
  refine .lst (SqL.of h1) (bds_by _ _ (by unfold dT; rw [List.length_map, List.length_map, h2]) fun i x d hx hd => ?_)
  unfold dT at hd
  rw [List.getElem?_map] at hx hd
  cases ht : ts[i]? with
  | none => rw [ht] at hd; cases hd
  | some u =>
    rw [ht] at hd
    cases hd
    obtain ⟨r, q1, q2⟩ := h3 i u ht
    rw [q1] at hx
    cases hx
    exact .tup (SqT.of q2) (.cons (.int _) (.cons (.int _) .nil))
theorem bd_ords {K : PySem.W.Frag} {H : Hp} {a : Addr} {os : MM.Ords} (h : OsAt H a os) : Bd K H (.ref a) (.list (dO os)) := by
  obtain ⟨tr, h1, h2, h3⟩ := h
  refine .lst (SqL.of h1) (bds_by _ _ (by unfold dO; rw [List.length_map, List.length_map, h2]) fun i x d hx hd => ?_)
  unfold dO at hd
  rw [List.getElem?_map] at hx hd
  cases ht : os[i]? with
  | none => rw [ht] at hd; cases hd
  | some u =>
    rw [ht] at hd
    cases hd
    obtain ⟨r, q1, q2⟩ := h3 i u ht
    rw [q1] at hx
    cases hx
    exact .lst (SqL.of q2) (bds_vns u)
theorem dN_lay (l : List Nat) : PyData.canLayAll0 (dN l) = true ∧ PyData.depthAll (dN l) ≤ 2 := lay_all 2 fun d hd => by
  obtain ⟨n, _, rfl⟩ := List.mem_map.mp hd
  exact ⟨rfl, by simp [PyData.depth]⟩
theorem dT_lay (ts : MM.Ties) : PyData.canLayAll0 (dT ts) = true ∧ PyData.depthAll (dT ts) ≤ 3 := lay_all 3 fun d hd => by
  obtain ⟨n, _, rfl⟩ := List.mem_map.mp hd
  exact ⟨rfl, by simp [PyData.depth, PyData.depthAll]⟩
theorem dO_lay (os : MM.Ords) : PyData.canLayAll0 (dO os) = true ∧ PyData.depthAll (dO os) ≤ 3 := lay_all 3 fun d hd => by
  obtain ⟨n, _, rfl⟩ := List.mem_map.mp hd
  exact ⟨(dN_lay n).1, by rw [PyData.depth]; have := (dN_lay n).2; omega⟩
def dW (n : Nat) (ts : MM.Ties) (os : MM.Ords) : PyData := .tuple [.int (n : Int), .list (dT ts), .list (dO os)]
theorem bd_web {K : PySem.W.Frag} {H : Hp} {w : Addr} {n : Nat} {ts : MM.Ties} {os : MM.Ords} (h : WebAt H w n ts os) : Bd K H (.ref w) (dW n ts os) := by
  obtain ⟨tA, oA, h1, h2, h3⟩ := h
  exact .tup (SqT.of h1) (.cons (.int _) (.cons (bd_ties h2) (.cons (bd_ords h3) .nil)))
theorem at_refs {rr : List Addr} {i : Nat} {x : Addr} (h : rr[i]? = some x) : atI (rr.map V.ref) (i : Int) = some (.ref x) := atI_nat (by rw [List.getElem?_map, h]; rfl)
end L2
namespace MM
end MM

namespace L2
open PySem PyProof.Rows
theorem eqv_ints_iff : ∀ xs ys : List Int, PyData.eqvAll (xs.map PyData.int) (ys.map PyData.int) = decide (xs = ys)
  | [], [] => rfl
  | [], _ :: _ => rfl
  | _ :: _, [] => rfl
  | x :: xs, y :: ys => by
    simp only [List.map_cons, PyData.eqvAll, eqv_ints_iff xs ys, PyData.eqv]
    by_cases h : x = y
    · subst h; simp
    · simp [h]
theorem eqv_intsL (xs ys : List Int) : PyData.eqv (.list (xs.map PyData.int)) (.list (ys.map PyData.int)) = decide (xs = ys) := by
  rw [PyData.eqv, eqv_ints_iff]
end L2

namespace L2
open PySem PyProof.Rows
theorem at0_put {l : List Int} {j k : Nat} {v : Int} (h : j < l.length) : at0 (l.set j v) k = if k = j then v else at0 l k := by
  unfold at0
  by_cases e : k = j
  · subst e; rw [if_pos rfl, List.getD_eq_getElem?_getD, List.getElem?_set_self h]; rfl
  · rw [if_neg e, List.getD_eq_getElem?_getD, List.getElem?_set_ne (Ne.symm e), ← List.getD_eq_getElem?_getD]
theorem rep_map (m : Nat) (c : Int) : (List.range m).map (fun _ => V.int c) = (List.replicate m c).map V.int := by
  apply List.ext_getElem?
  intro i
  by_cases h : i < m
  · simp [h]
  · simp [h]
theorem at0_rep {m : Nat} {c : Int} {e : Nat} (h : e < m) : at0 (List.replicate m c) e = c := by unfold at0; simp [List.getD, h]
theorem vns_get {d : List Nat} {i : Nat} (h : i < d.length) : (vns d)[i]? = some (vn (d.getD i 0)) := by
  rw [List.getElem?_map, List.getElem?_eq_getElem h]; simp [List.getD, h]
theorem getD_mem {d : List Nat} {i : Nat} (h : i < d.length) : d.getD i 0 ∈ d := by simp [List.getD, h]
end L2
namespace K05
open PySem L2 PyProof.Rows
variable {P : Program} {w : World} {K : PySem.W.Frag} {mg : Str → Option Value} {base : Heap} {t : Adr}
def spSum : Sp := fun vs H Q _ => ∃ (da ca la : Addr) (d : List Nat) (cs ls : List Int), vs = [.ref da, .ref ca, .ref la] ∧ H da = some (.lst (vns d)) ∧ H ca = some (.lst (cs.map V.int)) ∧ H la = some (.lst (ls.map V.int)) ∧ (∀ x ∈ d, x < cs.length ∧ x < ls.length ∧ MM.oth x < ls.length) ∧ d.length ≤ 1000 ∧ ∀ H', Same H H' → Q (.int (MM.su d (MM.trm (at0 cs) (at0 ls)))) H'
theorem ok_lsum (T : Txt K mg t) : FnOk P w K mg base CX0 2 t.a_l_sum t.d_l_sum ["_law_land", "_law_corners", "_law_lefts"] spSum := by
  have G_l_other := ok_lother (P := P) (w := w) (base := base) T
  refine T.F_l_sum.ok sc_l_sum (fun vs H Q E h => ?_) (fun cdv A outer s H vs Q E hr h => ?_)
  · obtain ⟨da, ca, la, d, cs, ls, rfl, _⟩ := h; rfl
  obtain ⟨da, ca, la, d, cs, ls, rfl, hd, hc, hl, hb, h1000, q⟩ := h
  have nd_l_end_l_lefts_l_corners : (["_law_end", "_law_lefts", "_law_corners"] : List Str).Nodup := by decide
  refine ⟨_, (pss_one (ps_ret (pe_callB (call_sumI rfl) rfl T.z_sum boot_sum (pa_cons (pe_comp (N' := ["_law_end", "_law_lefts", "_law_corners"]) (js := [none, some 2, some 1]) rfl (pi_list (pv 0)) (fun _ _ _ _ _ => (pg_name (i := 0) nd_l_end_l_lefts_l_corners rfl (Or.inl rfl))) (fun _ _ _ _ _ => pf_nil) (fun _ _ _ _ _ => (pe_op op_sub (pe_op op_add (pe_op op_sub pe_int (pe_ix (kix_list (K := K) rfl) (pv 2) (pv 0) (fun _ _ => rfl))) (pe_ix (kix_list (K := K) rfl) (pv 1) (pv 0) (fun _ _ => rfl))) (pe_ix (kix_list (K := K) rfl) (pv 1) (pe_call G_l_other (hr.mono (by decide)) rfl T.m_l_other T.k_l_other T.b_l_other .nil pass0 (pa_cons (pv 0) pa_nil)) (fun _ _ => rfl))))) pa_nil)))), ?_⟩
  refine ⟨_, rfl, da, rfl, ⟨_, SqL.of hd⟩, fun D hD => ?_⟩
  refine comp_pure d.length (fun i => .int (MM.trm (at0 cs) (at0 ls) (d.getD i 0))) hD (by omega) (fun i H' hi g' => ⟨_, _, SqL.of (g' _ _ hd), vns_get hi⟩) (fun H' g' => ⟨_, SqL.of (g' _ _ hd), by rw [List.length_map]; exact Nat.le_refl _⟩) ?_ ?_
  · rintro i H' x H'' k hi g' ⟨rfl, hx⟩ hk
    have ex := hx _ (SqL.of (g' _ _ hd))
    rw [vns_get hi] at ex
    cases ex
    obtain ⟨b1, b2, b3⟩ := hb _ (getD_mem hi)
    exact ⟨(Fills.refl _).set _ rfl, _, rfl, _, rfl, ca, _, _, _, rfl, rfl, SqL.of (g' _ _ hc), atI_get0 b1 rfl, _, _, rfl, rfl, _, rfl, _, rfl, la, _, _, _, rfl, rfl, SqL.of (g' _ _ hl), atI_get0 b2 rfl, _, _, rfl, rfl,
      _, rfl, _, rfl, d.getD i 0, rfl, la, _, _, _, rfl, rfl, SqL.of (g' _ _ hl), atI_get0 b3 rfl, _, _, rfl, rfl, hk _ (Same.refl _)⟩
  intro H2 g2 eD
  rw [rng_map d (fun e => V.int (MM.trm (at0 cs) (at0 ls) e)), show d.map (fun e => V.int (MM.trm (at0 cs) (at0 ls) e)) = (d.map (MM.trm (at0 cs) (at0 ls))).map V.int by rw [List.map_map]; rfl] at eD
  exact ⟨D, _, rfl, SqL.of eD, q H2 g2⟩

def spBase : Sp := fun vs H Q _ => ∃ (wa : Addr) (n o : Nat) (ts : MM.Ties) (os : MM.Ords), vs = [.ref wa, vn o] ∧ WebAt H wa n ts os ∧ MM.Good ts os ∧ MM.FC ts os ∧ ts.length ≤ 40 ∧ o < (MM.lls ts os).length ∧
  ∀ (r cA lA : Addr) (cs ls : List Int) (H' : Hp), Same H H' → H' r = some (.tup [.ref cA, .ref lA]) → H' cA = some (.lst (cs.map V.int)) → H' lA = some (.lst (ls.map V.int)) → H cA = none → H lA = none → cA ≠ lA → cs.length = 2 * ts.length → ls.length = 2 * ts.length → MM.Shp ts os o (at0 cs) (at0 ls) → Q (.ref r) H'
theorem ok_lbase (T : Txt K mg t) : FnOk P w K mg base CX0 4 t.a_l_base t.d_l_base ["_law_web", "_law_outer"] spBase := by
  have G_l_lands := ok_llands (P := P) (w := w) (base := base) T
  have G_l_other := ok_lother (P := P) (w := w) (base := base) T
  have G_l_sum := ok_lsum (P := P) (w := w) (base := base) T
  refine T.F_l_base.ok sc_l_base (fun vs H Q E h => ?_) (fun cdv A outer s H vs Q E hr h => ?_)
  · obtain ⟨wa, n, o, ts, os, rfl, _⟩ := h; rfl
  obtain ⟨wa, n, o, ts, os, rfl, hWeb, g, fc, h40, ho, q⟩ := h
  have nd := sc_l_base.nd
  have hu := Nat.lt_of_le_of_lt (Nat.add_le_add_left (by decide : 1 ≤ 64) _) hr.units
  have nd_l_land : (["_law_land"] : List Str).Nodup := by decide
  have nd_l_end : (["_law_end"] : List Str).Nodup := by decide
  have hLN := MM.lls_len g
  refine ⟨_, (pss_cons (ps_asg (pv 0) (pg_tup rfl (pgs_cons (pg_name (i := 2) nd rfl (Or.inl rfl)) (pgs_cons (pg_name (i := 3) nd rfl (Or.inl rfl)) (pgs_cons (pg_name (i := 4) nd rfl (Or.inl rfl)) pgs_nil)))))
    (pss_cons (ps_set (i := 5) nd rfl (Or.inl rfl) (pe_call G_l_lands (hr.mono (by decide)) rfl T.m_l_lands T.k_l_lands T.b_l_lands .nil pass0 (pa_cons (pv 3) (pa_cons (pv 4) pa_nil))))
    (pss_cons (ps_setComp (i := 6) nd rfl (Or.inl rfl)  (N' := ["_law_end"]) (js := [none]) rfl (pi_range1 rfl T.z_range (pa_cons (pe_op op_mul pe_int (pe_callB call_len_seq rfl T.z_len PySem.boot_len (pa_cons (pv 3) pa_nil))) pa_nil)) (fun _ _ _ _ _ => (pg_name (i := 0) nd_l_end rfl (Or.inl rfl))) (fun _ _ _ _ _ => pf_nil) (fun _ _ _ _ _ => pe_int))
    (pss_cons (ps_setComp (i := 7) nd rfl (Or.inl rfl)  (N' := ["_law_end"]) (js := [none]) rfl (pi_range1 rfl T.z_range (pa_cons (pe_op op_mul pe_int (pe_callB call_len_seq rfl T.z_len PySem.boot_len (pa_cons (pv 3) pa_nil))) pa_nil)) (fun _ _ _ _ _ => (pg_name (i := 0) nd_l_end rfl (Or.inl rfl))) (fun _ _ _ _ _ => pf_nil) (fun _ _ _ _ _ => pe_int))
    (pss_cons (ps_for PassesOwn.never rfl (pi_list (pv 4)) (pg_name (i := 8) nd rfl (Or.inl rfl)) (pss_one (ps_asg (pe_op op_sub pe_int (pe_callB call_len_seq rfl T.z_len PySem.boot_len (pa_cons (pv 8) pa_nil))) (pg_sub (pv 6) (pe_call G_l_other (hr.mono (by decide)) rfl T.m_l_other T.k_l_other T.b_l_other .nil pass0 (pa_cons (pe_ix ix_list (pv 8) pe_int (fun _ _ => rfl)) pa_nil)) set_list))))
    (pss_cons (ps_set (i := 9) nd rfl (Or.inl rfl) pe_dnewK)
    (pss_cons (ps_for PassesOwn.never rfl (pi_enum rfl T.z_enumerate (pa_cons (pv 5) pa_nil)) (pg_tup rfl (pgs_cons (pg_name (i := 10) nd rfl (Or.inl rfl)) (pgs_cons (pg_name (i := 11) nd rfl (Or.inl rfl)) pgs_nil))) (pss_one (ps_for PassesOwn.never rfl (pi_list (pv 11)) (pg_name (i := 12) nd rfl (Or.inl rfl)) (pss_one (ps_dput hu (pv 9) (pv 12) (pv 10) rfl)))))
    (pss_cons (ps_set (i := 13) nd rfl (Or.inl rfl) (pe_lst (pa_cons (pv 1) pa_nil)))
    (pss_cons (ps_set (i := 14) nd rfl (Or.inl rfl) pe_dnewK)
    (pss_cons (ps_for PassesOwn.never rfl (pi_list (pe_comp (N' := ["_law_land"]) (js := [none]) rfl (pi_list (pv 5)) (fun _ _ _ _ _ => (pg_name (i := 0) nd_l_land rfl (Or.inl rfl))) (fun _ _ _ _ _ => pf_nil) (fun _ _ _ _ _ => pe_int))) (pg_name (i := 15) nd rfl (Or.inl rfl)) (pss_one (ps_for PassesOwn.never rfl (pi_range1 rfl T.z_range (pa_cons (pe_op op_mul pe_int (pe_callB call_len_seq rfl T.z_len PySem.boot_len (pa_cons (pv 3) pa_nil))) pa_nil)) (pg_name (i := 12) nd rfl (Or.inl rfl)) (pss_cons (ps_set (i := 16) nd rfl (Or.inl rfl) (pe_dget hu (pv 9) (pe_call G_l_other (hr.mono (by decide)) rfl T.m_l_other T.k_l_other T.b_l_other .nil pass0 (pa_cons (pv 12) pa_nil)) (fun _ _ => rfl)))
    (pss_one (ps_if (PW.pt (pw_and (pt_cmpR op_notIn_seq (pe_dget hu (pv 9) (pv 12) (fun _ _ => rfl)) (pv 13) rfl) (pw_and1 (pt_cmpR op_in_seq (pv 16) (pv 13) rfl)))) (pss_cons (ps_expr (pe_bm PySem.F.plainAttrs_list PySem.F.slot_list_append PySem.F.type_list_append mt_append (pv 13) (pa_cons (pe_dget hu (pv 9) (pv 12) (fun _ _ => rfl)) pa_nil)))
    (pss_one (ps_dput hu (pv 14) (pe_dget hu (pv 9) (pv 12) (fun _ _ => rfl)) (pv 12) rfl))) pss_nil))))))
    (pss_cons (ps_for PassesOwn.never rfl (pi_list (pe_sliceR (pv 13) po_none (po_some pe_int) (po_some (pe_un un_neg pe_int)))) (pg_name (i := 10) nd rfl (Or.inl rfl)) (pss_cons (ps_set (i := 17) nd rfl (Or.inl rfl) (pe_op op_sub pe_int (pe_call G_l_sum (hr.mono (by decide)) rfl T.m_l_sum T.k_l_sum T.b_l_sum .nil pass0 (pa_cons (pe_ix ix_list (pv 5) (pv 10) (fun _ _ => rfl)) (pa_cons (pv 6) (pa_cons (pv 7) pa_nil))))))
    (pss_cons (ps_set (i := 12) nd rfl (Or.inl rfl) (pe_dget hu (pv 14) (pv 10) (fun _ _ => rfl)))
    (pss_cons (ps_asg (pe_op op_add (pe_ix ix_list (pv 7) (pv 12) (fun _ _ => rfl)) (pe_callB (call_max2 rfl) rfl T.z_max boot_max (pa_cons (pv 17) (pa_cons pe_int pa_nil)))) (pg_sub (pv 7) (pv 12) set_list))
    (pss_one (ps_asg (pe_op op_add (pe_ix ix_list (pv 7) (pe_call G_l_other (hr.mono (by decide)) rfl T.m_l_other T.k_l_other T.b_l_other .nil pass0 (pa_cons (pv 12) pa_nil)) (fun _ _ => rfl)) (pe_callB (call_max2 rfl) rfl T.z_max boot_max (pa_cons (pe_op op_sub pe_int (pv 17)) (pa_cons pe_int pa_nil)))) (pg_sub (pv 7) (pe_call G_l_other (hr.mono (by decide)) rfl T.m_l_other T.k_l_other T.b_l_other .nil pass0 (pa_cons (pv 12) pa_nil)) set_list)))))))
    (pss_one (ps_ret (pe_tup (pa_cons (pv 6) (pa_cons (pv 7) pa_nil)))))))))))))))), ?_⟩
  obtain ⟨tA, oA, hw, hts, hos⟩ := id hWeb
  refine ⟨_, rfl, wa, _, rfl, SqT.of hw, rfl, _, _, rfl, _, _, rfl, _, _, rfl, rfl, ?_⟩
  refine ⟨_, rfl, _, rfl, tA, oA, ts, os, rfl, hts, hos, g, by omega, fun r rr H1 g1 nos => ?_⟩
  obtain ⟨trv, tv1, tv2⟩ : ∃ trv : List V, H tA = some (.lst trv) ∧ trv.length = ts.length := by
    obtain ⟨tr, q1, q2, _⟩ := hts
    exact ⟨_, q1, by rw [List.length_map]; exact q2⟩
  have eT : (2 * ((trv.length : Nat) : Int)).toNat = 2 * ts.length := by omega
  -- corners
  refine ⟨_, rfl, tA, _, rfl, .inl (SqL.of (g1 _ _ tv1)), _, _, rfl, rfl, .inl ⟨by decide, by decide⟩, _, rfl, by omega, by omega, fun cA hcA => ?_⟩
  refine comp_pure (2 * ((trv.length : Nat) : Int)).toNat (fun _ => .int 1) hcA (by omega) (fun i H' hi _ => hi) (fun H' _ => Nat.le_refl _) ?_ ?_
  · rintro i H' x H'' k hi g' ⟨rfl, rfl⟩ hk
    exact ⟨(Fills.refl _).set _ rfl, hk _ (Same.refl _)⟩
  intro H2 g2 ec
  rw [eT, rep_map] at ec
  -- lefts
  refine ⟨_, rfl, tA, _, rfl, .inl (SqL.of (g2 _ _ (g1 _ _ tv1))), _, _, rfl, rfl, .inl ⟨by decide, by decide⟩, _, rfl, by omega, by omega, fun lA hlA => ?_⟩
  refine comp_pure (2 * ((trv.length : Nat) : Int)).toNat (fun _ => .int 0) hlA (by omega) (fun i H' hi _ => hi) (fun H' _ => Nat.le_refl _) ?_ ?_
  · rintro i H' x H'' k hi g' ⟨rfl, rfl⟩ hk
    exact ⟨(Fills.refl _).set _ rfl, hk _ (Same.refl _)⟩
  intro H3 g3 el
  rw [eT, rep_map] at el
  have ncl : cA ≠ lA := ne_of_none ec hlA
  have hlA1 : H1 lA = none := g2.free hlA
  have ec3 := g3 _ _ ec
  have g13 := g2.trans g3
  have kp : ∀ {H' : Hp}, (∀ b u, b ≠ cA → H3 b = some u → H' b = some u) → Same H1 H' := fun h b u hb => h b u (ne_of_none hb hcA) (g13 _ _ hb)
  -- the first corners
  obtain ⟨orr, or1, or2, or3⟩ := id hos
  refine ⟨_, rfl, oA, rfl, ⟨_, SqL.of (g13 _ _ (g1 _ _ or1))⟩, for_list (xs := orr.map V.ref)
    (fun i σ H' => (∀ b u, b ≠ cA → H3 b = some u → H' b = some u) ∧ (∃ cs : List Int, H' cA = some (.lst (cs.map V.int)) ∧ cs.length = 2 * ts.length ∧ ∀ e, e < 2 * ts.length → at0 cs e = if MM.place ts (MM.oth e) < i then MM.cB ts os e else 1) ∧
      ∃ o8 : Option V, σ = [some (.ref wa), some (vn o), some (vn n), some (.ref tA), some (.ref oA), some (.ref r), some (.ref cA), some (.ref lA), o8, none, none, none, none, none, none, none, none, none])
    ⟨fun b u _ h => h, ⟨_, ec3, by simp, fun e he => by rw [if_neg (by omega)]; exact at0_rep he⟩, _, rfl⟩ (fun i σ H' _ h => SqL.of (kp h.1 _ _ (g1 _ _ or1))) ?_ ?_⟩
  · rintro i x σ H' hx ⟨k1, ⟨cs, e1, e2, e3⟩, o8, rfl⟩
    obtain ⟨y, hy, rfl⟩ := refs_at hx
    have hi : i < os.length := by rw [← or2]; exact (List.getElem?_eq_some_iff.mp hy).1
    obtain ⟨y', hy', ey⟩ := or3 i _ (List.getElem?_eq_getElem hi)
    rw [hy] at hy'; cases hy'
    have er : os[i] = MM.row os i := by unfold MM.row; simp [List.getD, hi]
    rw [er] at ey
    have ey' := kp k1 _ _ (g1 _ _ ey)
    have hpos : 0 < (MM.row os i).length := List.length_pos_iff.mpr (g.g.full i hi)
    have hE := g.g.ends i _ (getD_mem hpos)
    have ho' := MM.oth_lt hE.1
    refine ⟨_, rfl, y, _, rfl, .inl (SqL.of ey'), _, _, rfl, rfl, _, rfl, _, rfl, y, _, _, _, rfl, rfl, SqL.of ey', at_vns (j := 0) hpos rfl, (MM.row os i).getD 0 0, rfl, cA, _, _, MM.oth ((MM.row os i).getD 0 0), rfl, rfl, e1, ixN_ok (by rw [List.length_map]; omega) rfl, ?_⟩
    refine ⟨fun b u hb h => by rw [upd_ne hb]; exact k1 b u hb h, ⟨cs.set (MM.oth ((MM.row os i).getD 0 0)) (5 - ((MM.row os i).length : Int)), by rw [upd_same]; simp only [List.map_set, List.length_map], by rw [List.length_set]; exact e2, fun e he => ?_⟩, _, rfl⟩
    rw [at0_put (by omega), e3 e he]
    by_cases z : e = MM.oth ((MM.row os i).getD 0 0)
    · have z' : MM.oth e = (MM.row os i).getD 0 0 := by rw [z, MM.oth_oth]
      rw [if_pos z, z', hE.2, if_pos (Nat.lt_succ_self i)]
      unfold MM.cB
      rw [z', hE.2, if_pos rfl]
    · rw [if_neg z]
      by_cases z2 : MM.place ts (MM.oth e) = i
      · rw [z2, if_neg (Nat.lt_irrefl i), if_pos (Nat.lt_succ_self i)]
        unfold MM.cB
        rw [z2, if_neg (fun w => z (by rw [w, MM.oth_oth]))]
      · have : (MM.place ts (MM.oth e) < i) = (MM.place ts (MM.oth e) < i + 1) := propext ⟨fun h => by omega, fun h => by omega⟩
        simp only [this]
  rintro σ H4 ⟨k4, ⟨cs, c1, c2, c3⟩, o8, rfl⟩
  rw [List.length_map, or2] at c3
  have pl := MM.plc_base g (c := at0 cs) fun e he => by rw [c3 e he, if_pos (g.g.has _ (MM.oth_lt he)).1]
  have g4 := kp k4
  have el4 := k4 _ _ (Ne.symm ncl) el
  -- the numbers of the ends
  intro d hd
  have g4d := same_new hd (.dK [])
  refine ⟨_, rfl, r, rfl, ⟨_, SqL.of (g4d _ _ (g4 _ _ nos.at_))⟩, for_enum (xs := rr.map V.ref)
    (fun i σ H' => Same H4 H' ∧ (∃ kvs, H' d = some (.dK kvs) ∧ kvs.length ≤ 100 * i ∧ ∀ (k : Nat) l x, k < i → (MM.lls ts os)[k]? = some l → x ∈ l → valV kvs (Sum.inl ((x : Nat) : Int)) = some (vn k)) ∧
      ∃ o10 o11 o12 : Option V, σ = [some (.ref wa), some (vn o), some (vn n), some (.ref tA), some (.ref oA), some (.ref r), some (.ref cA), some (.ref lA), o8, some (.ref d), o10, o11, o12, none, none, none, none, none])
    ⟨g4d, ⟨[], upd_same, Nat.le_refl _, fun k l x hk => absurd hk (by omega)⟩, _, _, _, rfl⟩ (fun i σ H' _ h => SqL.of (h.1 _ _ (g4 _ _ nos.at_))) ?_ ?_⟩
  · rintro i x σ H5 Tp hx ⟨g5, ⟨kvs, ed, hkl, hkv⟩, o10, o11, o12, rfl⟩ hTp
    obtain ⟨y, hy, rfl⟩ := refs_at hx
    have hil : i < (MM.lls ts os).length := by rw [← nos.len]; exact (List.getElem?_eq_some_iff.mp hy).1
    have hli := List.getElem?_eq_getElem hil
    obtain ⟨y', hy', ey⟩ := nos.row i _ hli
    rw [hy] at hy'; cases hy'
    generalize (MM.lls ts os)[i] = l at hli ey
    have hll := MM.lls_land g hli
    have hl80 : l.length ≤ 80 := by have := MM.nodup_bound _ _ hll.1 hll.2.1; omega
    have g6 := same_new hTp (.tup [vn i, .ref y])
    have g56 := g5.trans g6
    refine ⟨Tp, _, rfl, SqT.of upd_same, rfl, _, _, rfl, _, _, rfl, rfl, ?_⟩
    refine ⟨_, rfl, y, rfl, ⟨_, SqL.of (g56 _ _ (g4 _ _ ey))⟩, for_list (xs := vns l)
      (fun j σ H' => Same H4 H' ∧ (∃ kvs, H' d = some (.dK kvs) ∧ kvs.length ≤ 100 * i + j ∧ (∀ (k : Nat) l x, k < i → (MM.lls ts os)[k]? = some l → x ∈ l → valV kvs (Sum.inl ((x : Nat) : Int)) = some (vn k)) ∧ ∀ x ∈ l.take j, valV kvs (Sum.inl ((x : Nat) : Int)) = some (vn i)) ∧
        ∃ o12 : Option V, σ = [some (.ref wa), some (vn o), some (vn n), some (.ref tA), some (.ref oA), some (.ref r), some (.ref cA), some (.ref lA), o8, some (.ref d), some (vn i), some (.ref y), o12, none, none, none, none, none])
      ⟨g56, ⟨kvs, g6 _ _ ed, by omega, hkv, fun x hx => by simp at hx⟩, _, rfl⟩ (fun j σ H' _ h => SqL.of (h.1 _ _ (g4 _ _ ey))) ?_ ?_⟩
    · rintro j x σ H6 hx ⟨g7, ⟨kvs, ed, hkl, hkv, hkt⟩, o12, rfl⟩
      obtain ⟨hj, rfl⟩ := vns_at hx
      have hmem := getD_mem hj
      refine ⟨_, rfl, _, rfl, _, rfl, d, _, rfl, DPut.k (k := Sum.inl ((l.getD j 0 : Nat) : Int)) ed (Nat.lt_of_le_of_lt hkl (Nat.lt_of_lt_of_le (by omega : 100 * i + j < 10000) (by decide))), ?_⟩
      refine ⟨fun b o' h => by rw [upd_ne (ne_of_none h hd)]; exact g7 _ _ h, ⟨_, upd_same, Nat.le_trans (putK_len _ _ _) (by omega), fun k l' x' hk hl' hx' => ?_, fun x' hx' => ?_⟩, _, rfl⟩
      · rw [valV_put, if_neg]
        · exact hkv k l' x' hk hl' hx'
        · intro z
          have e : x' = l.getD j 0 := by have := Sum.inl.inj z; omega
          rw [e] at hx'
          have := MM.lls_uniq g hl' hx' hli hmem
          omega
      · rw [valV_put]
        by_cases e : x' = l.getD j 0
        · rw [if_pos (by rw [e])]
        · rw [if_neg (fun z => e (by have := Sum.inl.inj z; omega))]
          rw [List.take_succ, List.getElem?_eq_getElem hj] at hx'
          rcases List.mem_append.mp hx' with h | h
          · exact hkt x' h
          · exfalso
            apply e
            simp at h
            simp [List.getD, hj, h]
    · rintro σ H6 ⟨g7, ⟨kvs, ed, hkl, hkv, hkt⟩, o12, rfl⟩
      rw [List.length_map] at hkl hkt
      rw [List.take_length] at hkt
      refine ⟨g7, ⟨kvs, ed, by omega, fun k l' x' hk hl' hx' => ?_⟩, _, _, _, rfl⟩
      by_cases e : k = i
      · subst e
        rw [hli] at hl'; cases hl'
        exact hkt x' hx'
      · exact hkv k l' x' (by omega) hl' hx'
  rintro σ H5 ⟨g5, ⟨kvs, ed, hkl, hkv⟩, o10, o11, o12, rfl⟩
  rw [List.length_map, nos.len] at hkv
  obtain ⟨nm, num⟩ := MM.num_fn g
  have hby : ∀ x, x < 2 * ts.length → valV kvs (Sum.inl ((x : Nat) : Int)) = some (vn (nm x)) := fun x hx => by
    obtain ⟨l, h1, h2⟩ := MM.num_at g num hx
    exact hkv _ l x (List.getElem?_eq_some_iff.mp h1).1 h1 h2
  -- what is come to
  refine ⟨_, rfl, (by show 1 ≤ sizeLine; decide), fun ca hca => ?_⟩
  intro wd hwd
  have g6 := same_new hca (.lst [vn o])
  have g7 := same_new hwd (.dK [])
  have nwc : ca ≠ wd := ne_of_none upd_same hwd
  have hwd5 : H5 wd = none := g6.free hwd
  have e7c : (upd (upd H5 ca (.lst [vn o])) wd (.dK [])) ca = some (.lst (vns [o])) := g7 _ _ upd_same
  have e7w : (upd (upd H5 ca (.lst [vn o])) wd (.dK [])) wd = some (.dK []) := upd_same
  have g57 := g6.trans g7
  generalize upd (upd H5 ca (.lst [vn o])) wd (.dK []) = H7 at e7c e7w g57
  clear g6 g7
  have g17 := (g4.trans g5).trans g57
  refine ⟨_, rfl, r, rfl, ⟨_, SqL.of (g17 _ _ nos.at_)⟩, fun D hD => ?_⟩
  refine comp_pure (rr.map V.ref).length (fun _ => .int 0) hD (by rw [List.length_map, nos.len]; show (MM.lls ts os).length ≤ 100000; omega) (fun i H' hi g' => ⟨_, _, SqL.of (g' _ _ (g17 _ _ nos.at_)), List.getElem?_eq_getElem hi⟩) (fun H' g' => ⟨_, SqL.of (g' _ _ (g17 _ _ nos.at_)), Nat.le_refl _⟩) ?_ ?_
  · rintro i H' x H'' k hi g' ⟨rfl, hx⟩ hk
    exact ⟨(Fills.refl _).set _ rfl, hk _ (Same.refl _)⟩
  intro H8 g8 eD
  rw [List.length_map, nos.len] at eD
  have nDc : D ≠ ca := (ne_of_none e7c hD).symm
  have nDw : D ≠ wd := (ne_of_none e7w hD).symm
  have g58 := g57.trans g8
  have kq : ∀ {H' : Hp}, (∀ b u, b ≠ ca → b ≠ wd → H8 b = some u → H' b = some u) → Same H5 H' := fun h b u hb => h b u (ne_of_none hb hca) (ne_of_none hb hwd5) (g58 _ _ hb)
  have hget : ∀ {H' : Hp}, Same H5 H' → ∀ x, x < 2 * ts.length → DGet H' d (V.int ((x : Nat) : Int)) (some (vn (nm x))) := fun gg x hx => by
    have := DGet.k (k := Sum.inl ((x : Nat) : Int)) (gg _ _ ed)
    rw [hby x hx] at this
    exact this
  refine ⟨D, rfl, ⟨_, SqL.of eD⟩, for_list (xs := (List.range (MM.lls ts os).length).map fun _ => V.int 0)
    (fun i σ H' => (∀ b u, b ≠ ca → b ≠ wd → H8 b = some u → H' b = some u) ∧ (∃ (come : List Nat) (ways : Nat → Nat) (kvw : List ((Int ⊕ Str) × V)), H' ca = some (.lst (vns come)) ∧ H' wd = some (.dK kvw) ∧ kvw.length ≤ come.length ∧ (∀ (j k : Nat), come[j]? = some k → 0 < j → valV kvw (Sum.inl ((k : Nat) : Int)) = some (vn (ways k))) ∧
        MM.Come ts os nm o come ways ∧ ((∀ k, k < (MM.lls ts os).length → k ∈ come) ∨ i + 1 ≤ come.length)) ∧
      ∃ o12 o15 o16 : Option V, σ = [some (.ref wa), some (vn o), some (vn n), some (.ref tA), some (.ref oA), some (.ref r), some (.ref cA), some (.ref lA), o8, some (.ref d), o10, o11, o12, some (.ref ca), some (.ref wd), o15, o16, none])
    ⟨fun b u _ _ h => h, ⟨[o], fun _ => 0, [], g8 _ _ e7c, g8 _ _ e7w, Nat.zero_le _, fun j k hj h0 => by have := (List.getElem?_eq_some_iff.mp hj).1; simp at this; omega, MM.Come.first ho _, .inr (Nat.le_refl _)⟩, _, _, _, rfl⟩ (fun i σ H' _ h => SqL.of (h.1 _ _ nDc nDw eD)) ?_ ?_⟩
  · rintro i x σ H9 hx ⟨k9, ⟨come0, ways0, kvw0, c9, w9, l9, v9, m9, a9⟩, o12', o15, o16, rfl⟩
    have g9 := kq k9
    have g19 := (g4.trans g5).trans g9
    refine ⟨_, rfl, tA, _, rfl, .inl (SqL.of (g19 _ _ (g1 _ _ tv1))), _, _, rfl, rfl, .inl ⟨by decide, by decide⟩, _, rfl, by omega, by omega, for_range (lo := 0) (n := (2 * ((trv.length : Nat) : Int)).toNat)
      (fun j σ H' => (∀ b u, b ≠ ca → b ≠ wd → H8 b = some u → H' b = some u) ∧ (∃ (come ext : List Nat) (ways : Nat → Nat) (kvw : List ((Int ⊕ Str) × V)), H' ca = some (.lst (vns come)) ∧ H' wd = some (.dK kvw) ∧ kvw.length ≤ come.length ∧ (∀ (j k : Nat), come[j]? = some k → 0 < j → valV kvw (Sum.inl ((k : Nat) : Int)) = some (vn (ways k))) ∧
          MM.Come ts os nm o come ways ∧ come = come0 ++ ext ∧ ∀ e, e < j → nm e ∈ come ∨ nm (MM.oth e) ∉ come0) ∧
        ∃ o12 o16 : Option V, σ = [some (.ref wa), some (vn o), some (vn n), some (.ref tA), some (.ref oA), some (.ref r), some (.ref cA), some (.ref lA), o8, some (.ref d), o10, o11, o12, some (.ref ca), some (.ref wd), some x, o16, none])
      ⟨k9, ⟨come0, [], ways0, kvw0, c9, w9, l9, v9, m9, by simp, fun e he => absurd he (by omega)⟩, _, _, rfl⟩ ?_ ?_⟩
    · rintro j σ H10 hj ⟨k10, ⟨come, ext, ways, kvw, c10, w10, l10, v10, m10, ex10, a10⟩, o12'', o16', rfl⟩
      have hj' : j < 2 * ts.length := by omega
      have hjo := MM.oth_lt hj'
      have g10 := kq k10
      show gName 12 (V.int (0 + (j : Int))) _ _ _
      rw [Int.zero_add]
      refine ⟨_, rfl, _, rfl, j, rfl, d, _, rfl, hget g10 _ hjo, ?_⟩
      refine ⟨_, rfl, _, rfl, d, _, rfl, hget g10 _ hj', _, rfl, ca, _, rfl, .inl (SqL.of c10), rfl, vns_flat _, _, rfl, ?_⟩
      rw [show (if true = true then !inV (vn (nm j)) (vns come) else inV (vn (nm j)) (vns come)) = !inV (vn (nm j)) (vns come) from rfl, inV_nat]
      have skip : (nm j ∈ come ∨ nm (MM.oth j) ∉ come0) → ∀ e, e < j + 1 → nm e ∈ come ∨ nm (MM.oth e) ∉ come0 := fun h e he => by
        rcases Nat.lt_or_ge e j with z | z
        · exact a10 e z
        · have : e = j := by omega
          subst this; exact h
      by_cases hin : nm j ∈ come
      · refine iteFb (by simp [hin]) (iteF ?_)
        exact ⟨k10, ⟨come, ext, ways, kvw, c10, w10, l10, v10, m10, ex10, skip (.inl hin)⟩, _, _, rfl⟩
      · refine iteTb (by simp [hin]) ?_
        refine ⟨_, rfl, _, rfl, ca, _, rfl, .inl (SqL.of c10), rfl, vns_flat _, _, rfl, ?_⟩
        rw [show (if false = true then !inV (vn (nm (MM.oth j))) (vns come) else inV (vn (nm (MM.oth j))) (vns come)) = inV (vn (nm (MM.oth j))) (vns come) from rfl, inV_nat]
        by_cases hth : nm (MM.oth j) ∈ come
        · refine iteTb (by simp [hth]) ?_
          have cl : come.length ≤ 80 := Nat.le_trans m10.len (by omega)
          refine ⟨_, rfl, .inl ⟨rfl, _, SqL.of c10⟩, _, rfl, _, rfl, d, _, rfl, hget g10 _ hj', ca, _, _, rfl, rfl, c10, by rw [List.length_map]; exact Nat.lt_of_le_of_lt cl (by decide), ?_⟩
          have k11 : ∀ b u, b ≠ ca → b ≠ wd → H8 b = some u → (upd H10 ca (.lst (vns come ++ [vn (nm j)]))) b = some u := fun b u h1 h2 h => by rw [upd_ne h1]; exact k10 b u h1 h2 h
          have w11 : (upd H10 ca (.lst (vns come ++ [vn (nm j)]))) wd = some (.dK kvw) := by rw [upd_ne (Ne.symm nwc)]; exact w10
          have c11 : (upd H10 ca (.lst (vns come ++ [vn (nm j)]))) ca = some (.lst (vns (come ++ [nm j]))) := by rw [upd_same, vns_app]; rfl
          generalize upd H10 ca (.lst (vns come ++ [vn (nm j)])) = H11 at k11 w11 c11
          refine ⟨_, rfl, _, rfl, _, rfl, _, rfl, d, _, rfl, hget (kq k11) _ hj', wd, _, rfl, DPut.k (k := Sum.inl ((nm j : Nat) : Int)) w11 (Nat.lt_of_le_of_lt (Nat.le_trans l10 cl) (by decide)), ?_⟩
          have mp := m10.push (ways' := fun k => if k = nm j then j else ways k) g num hj' hin hth (fun k => rfl)
          refine ⟨fun b u h1 h2 h => by rw [upd_ne h2]; exact k11 b u h1 h2 h, ⟨come ++ [nm j], ext ++ [nm j], fun k => if k = nm j then j else ways k, _, by rw [upd_ne nwc]; exact c11, upd_same, ?_, fun a k ha h0 => ?_, mp, by rw [ex10, List.append_assoc], fun e he => ?_⟩, _, _, rfl⟩
          · rw [List.length_append]; exact Nat.le_trans (putK_len _ _ _) (by simp; omega)
          · rw [valV_put]
            by_cases z : k = nm j
            · rw [if_pos (by rw [z])]
              show some (V.int ((j : Nat) : Int)) = some (vn (if k = nm j then j else ways k))
              rw [if_pos z]
            · rw [if_neg (fun h => z (by have := Sum.inl.inj h; omega))]
              show valV kvw (Sum.inl ((k : Nat) : Int)) = some (vn (if k = nm j then j else ways k))
              rw [if_neg z]
              rcases Nat.lt_or_ge a come.length with y | y
              · rw [List.getElem?_append_left y] at ha; exact v10 a k ha h0
              · rw [List.getElem?_append_right y] at ha
                have y' : a - come.length = 0 := by have := (List.getElem?_eq_some_iff.mp ha).1; simp at this; omega
                rw [y'] at ha
                exact absurd (by simpa using ha.symm) z
          · rcases Nat.lt_or_ge e j with z | z
            · rcases a10 e z with y | y
              · exact .inl (List.mem_append_left _ y)
              · exact .inr y
            · have : e = j := by omega
              subst this
              exact .inl (List.mem_append_right _ (by simp))
        · refine iteFb (by simp [hth]) ?_
          refine ⟨k10, ⟨come, ext, ways, kvw, c10, w10, l10, v10, m10, ex10, skip (.inr fun z => hth ?_)⟩, _, _, rfl⟩
          rw [ex10]; exact List.mem_append_left _ z
    · rintro σ H10 ⟨k10, ⟨come, ext, ways, kvw, c10, w10, l10, v10, m10, ex10, a10⟩, o12'', o16', rfl⟩
      rw [eT] at a10
      refine ⟨k10, ⟨come, ways, kvw, c10, w10, l10, v10, m10, ?_⟩, _, _, _, rfl⟩
      have h0 : o ∈ come0 := List.mem_of_getElem? m9.hd
      rcases a9 with y | y
      · exact .inl fun k hk => by rw [ex10]; exact List.mem_append_left _ (y k hk)
      · rcases MM.come_more g fc.conn num ho h0 with z | ⟨e, he, z1, z2⟩
        · exact .inl fun k hk => by rw [ex10]; exact List.mem_append_left _ (z k hk)
        · right
          rcases a10 e he with z3 | z3
          · rw [ex10] at z3 ⊢
            cases ext with
            | nil => rw [List.append_nil] at z3; exact absurd z3 z1
            | cons a r => rw [List.length_append, List.length_cons]; omega
          · exact absurd z2 z3
  rintro σ H9 ⟨k9, ⟨come, ways, kvw, c9, w9, l9, v9, m9, a9⟩, o12', o15, o16, rfl⟩
  rw [List.length_map, List.length_range] at a9
  have all : ∀ k, k < (MM.lls ts os).length → k ∈ come := by
    rcases a9 with y | y
    · exact y
    · have := m9.len; omega
  have g9 := kq k9
  have g19 := (g4.trans g5).trans g9
  have cl : come.length ≤ 80 := Nat.le_trans m9.len (by omega)
  have c9c := g9 _ _ (g5 _ _ c1)
  have l9l := g9 _ _ (g5 _ _ el4)
  -- the lefts
  refine ⟨_, rfl, _, rfl, _, rfl, _, rfl, ca, _, 1, rfl, SqL.of c9, rfl, rfl, .inr ⟨rfl, rfl⟩, fun sl hsl => ?_⟩
  have esl : ((vns come).drop 1).reverse = vns ((come.drop 1).reverse) := by unfold vns; rw [List.map_reverse, List.map_drop]
  rw [esl]
  have gsl := same_new hsl (.lst (vns ((come.drop 1).reverse)))
  have e10 : (upd H9 sl (.lst (vns ((come.drop 1).reverse)))) sl = some (.lst (vns ((come.drop 1).reverse))) := upd_same
  have nsl : sl ≠ lA := (ne_of_none l9l hsl).symm
  generalize upd H9 sl (.lst (vns ((come.drop 1).reverse))) = H10 at gsl e10
  have hlen : (come.drop 1).reverse.length = come.length - 1 := by rw [List.length_reverse, List.length_drop]
  have hl0 : 0 < come.length := (List.getElem?_eq_some_iff.mp m9.hd).1
  have g110 := g19.trans gsl
  refine ⟨sl, rfl, ⟨_, SqL.of e10⟩, for_list (xs := vns ((come.drop 1).reverse))
    (fun i σ H' => (∀ b u, b ≠ lA → H10 b = some u → H' b = some u) ∧ (∃ ls : List Int, H' lA = some (.lst (ls.map V.int)) ∧ ls.length = 2 * ts.length ∧ (∀ e, e < 2 * ts.length → 0 ≤ at0 ls e) ∧ MM.Fixed ts os (at0 cs) (at0 ls) come (come.length - i)) ∧
      ∃ o10 o12 o17 : Option V, σ = [some (.ref wa), some (vn o), some (vn n), some (.ref tA), some (.ref oA), some (.ref r), some (.ref cA), some (.ref lA), o8, some (.ref d), o10, o11, o12, some (.ref ca), some (.ref wd), o15, o16, o17])
    ⟨fun b u _ h => h, ⟨_, gsl _ _ l9l, by simp, fun e he => by rw [at0_rep he]; exact Int.le_refl _, fun j k dd hj hk => by have := (List.getElem?_eq_some_iff.mp hk).1; omega⟩, _, _, _, rfl⟩ (fun i σ H' _ h => SqL.of (h.1 _ _ nsl e10)) ?_ ?_⟩
  · rintro i x σ H11 hx ⟨k11, ⟨ls, e1, e2, e3, e4⟩, o10', o12'', o17, rfl⟩
    obtain ⟨hi, rfl⟩ := vns_at hx
    rw [hlen] at hi
    have hix : come[come.length - 1 - i]? = some ((come.drop 1).reverse.getD i 0) := by
      have h1 : (come.drop 1).reverse[i]? = come[come.length - 1 - i]? := by
        rw [List.getElem?_reverse (by rw [List.length_drop]; exact hi), List.length_drop, List.getElem?_drop]
        congr 1; omega
      rw [← h1, List.getD_eq_getElem?_getD, List.getElem?_eq_getElem (by omega)]
      rfl
    generalize (come.drop 1).reverse.getD i 0 = k at hix
    have hkL := m9.lt k (List.mem_of_getElem? hix)
    have hkd := List.getElem?_eq_getElem hkL
    obtain ⟨y, hy, ey⟩ := nos.row k _ hkd
    generalize (MM.lls ts os)[k] = dd at hkd ey
    have hdd := MM.lls_land g hkd
    obtain ⟨w1, w2, _⟩ := m9.way _ k hix (by omega)
    have hwo := MM.oth_lt w1
    have keep11 : ∀ {b : Addr} {u : HO}, H1 b = some u → H11 b = some u := fun h => k11 _ _ (ne_of_none h hlA1) (g110 _ _ h)
    have cA11 : H11 cA = some (.lst (cs.map V.int)) := k11 _ _ ncl (gsl _ _ c9c)
    have wd11 : H11 wd = some (.dK kvw) := k11 _ _ (ne_of (gsl _ _ w9) (gsl _ _ l9l) (fun z => nomatch z)) (gsl _ _ w9)
    have hd80 : dd.length ≤ 1000 := by have := MM.nodup_bound _ _ hdd.1 hdd.2.1; omega
    refine ⟨_, rfl, _, rfl, r, _, _, _, rfl, rfl, SqL.of (keep11 nos.at_), at_refs hy, _, rfl, _, rfl, y, cA, lA, dd, cs, ls, rfl, keep11 ey, cA11, e1, fun x hx => ⟨by have := hdd.2.1 x hx; omega, by have := hdd.2.1 x hx; omega, by have := MM.oth_lt (hdd.2.1 x hx); omega⟩, hd80, fun H12 g12 => ?_⟩
    refine ⟨_, _, rfl, rfl, ?_⟩
    have hgw : DGet H12 wd (V.int ((k : Nat) : Int)) (some (vn (ways k))) := by
      have := DGet.k (k := Sum.inl ((k : Nat) : Int)) (g12 _ _ wd11)
      rw [v9 _ k hix (by omega)] at this
      exact this
    refine ⟨_, rfl, _, rfl, wd, _, rfl, hgw, ?_⟩
    have e12 := g12 _ _ e1
    refine ⟨_, rfl, _, rfl, lA, _, _, _, rfl, rfl, SqL.of e12, atI_get0 (j := ways k) (by omega) rfl, _, rfl, _, _, rfl, _, _, rfl, rfl, _, rfl, _, rfl, lA, _, _, ways k, rfl, rfl, e12, ixN_ok (by rw [List.length_map]; omega) rfl, ?_⟩
    rw [← List.map_set, MM.max0]
    generalize hl1 : ls.set (ways k) (at0 ls (ways k) + max (4 - MM.su dd (MM.trm (at0 cs) (at0 ls))) 0) = ls1
    have ll1 : ls1.length = 2 * ts.length := by rw [← hl1, List.length_set]; exact e2
    have e13 : (upd H12 lA (.lst (ls1.map V.int))) lA = some (.lst (ls1.map V.int)) := upd_same
    refine ⟨_, rfl, _, rfl, ways k, rfl, lA, _, _, _, rfl, rfl, SqL.of e13, atI_get0 (j := MM.oth (ways k)) (by omega) rfl, _, rfl, _, _, rfl, rfl, _, _, rfl, _, _, rfl, rfl, _, rfl, _, rfl, ways k, rfl, lA, _, _, MM.oth (ways k), rfl, rfl, e13, ixN_ok (by rw [List.length_map]; omega) rfl, ?_⟩
    rw [← List.map_set, MM.max0, upd_upd]
    generalize hl2 : ls1.set (MM.oth (ways k)) (at0 ls1 (MM.oth (ways k)) + max (0 - (4 - MM.su dd (MM.trm (at0 cs) (at0 ls)))) 0) = ls2
    have hz : ∀ z, at0 ls2 z = at0 ls z + (if z = ways k then max (4 - MM.su dd (MM.trm (at0 cs) (at0 ls))) 0 else 0) + (if z = MM.oth (ways k) then max (0 - (4 - MM.su dd (MM.trm (at0 cs) (at0 ls)))) 0 else 0) := fun z => by
      rw [← hl2, at0_put (by omega), ← hl1, at0_put (by omega), at0_put (by omega)]
      have ne := MM.oth_ne (ways k)
      by_cases z1 : z = MM.oth (ways k)
      · have z2 : ¬ z = ways k := fun h => ne (by rw [← z1, h])
        rw [if_pos z1, if_neg ne, if_neg z2, if_pos z1, z1]; omega
      · rw [if_neg z1, if_neg z1]
        by_cases z2 : z = ways k
        · rw [if_pos z2, if_pos z2, z2]; omega
        · rw [if_neg z2, if_neg z2]; omega
    refine ⟨fun b u hb h => by rw [upd_ne hb]; exact g12 _ _ (k11 b u hb h), ⟨ls2, upd_same, by rw [← hl2, List.length_set]; exact ll1, fun e he => ?_, ?_⟩, _, _, _, rfl⟩
    · have := e3 e he
      rw [hz e]
      split <;> split <;> omega
    · have e5 : come.length - (i + 1) = come.length - 1 - i := by omega
      rw [e5]
      refine MM.Fixed.step g num m9 ?_ (by omega) hix hkd hz
      rw [show come.length - 1 - i + 1 = come.length - i by omega]
      exact e4
  rintro σ H11 ⟨k11, ⟨ls, e1, e2, e3, e4⟩, o10', o12'', o17, rfl⟩
  rw [List.length_map, hlen, show come.length - (come.length - 1) = 1 by omega] at e4
  refine ⟨_, rfl, _, rfl, (by show 2 ≤ sizeLine; decide), fun rt hrt => ?_⟩
  have gr := same_new hrt (.tup [.ref cA, .ref lA])
  have cA11 : H11 cA = some (.lst (cs.map V.int)) := k11 _ _ ncl (gsl _ _ c9c)
  have gF : Same H H11 := fun b u h => k11 _ _ (ne_of_none (g1 _ _ h) hlA1) (g110 _ _ (g1 _ _ h))
  exact q rt cA lA cs ls _ (gF.trans gr) upd_same (gr _ _ cA11) (gr _ _ e1) (g1.free hcA) (g1.free hlA1) ncl c2 e2 (MM.shp_base g fc.flat m9 all ho pl e3 e4)
end K05

namespace K05
open PySem L2 PyProof.Rows
variable {P : Program} {w : World} {K : PySem.W.Frag} {mg : Str → Option Value} {base : Heap} {t : Adr}
def spWalked : Sp := fun vs H Q _ => ∃ (wa sa c0 l0 : Addr) (n o : Nat) (ts : MM.Ties) (os : MM.Ords) (cs ls : List Int) (c m : Int), vs = [.ref wa, .ref sa, .int c, .int m] ∧ WebAt H wa n ts os ∧ MM.Good ts os ∧ ts.length ≤ 40 ∧ H sa = some (.tup [.ref c0, .ref l0]) ∧ H c0 = some (.lst (cs.map V.int)) ∧ H l0 = some (.lst (ls.map V.int)) ∧
  cs.length = 2 * ts.length ∧ ls.length = 2 * ts.length ∧ MM.Shp ts os o (at0 cs) (at0 ls) ∧ 0 ≤ m ∧ m ≤ 20 ∧
  ∀ (r cA lA : Addr) (cs ls : List Int) (H' : Hp), Same H H' → H' r = some (.tup [.ref cA, .ref lA]) → H' cA = some (.lst (cs.map V.int)) → H' lA = some (.lst (ls.map V.int)) → H cA = none → H lA = none → cA ≠ lA → cs.length = 2 * ts.length → ls.length = 2 * ts.length → MM.Shp ts os o (at0 cs) (at0 ls) → Q (.ref r) H'
theorem ok_lwalked (T : Txt K mg t) : FnOk P w K mg base CX0 3 t.a_l_walked t.d_l_walked ["_law_web", "_law_shape", "_law_cell", "_law_many"] spWalked := by
  have G_l_mix := ok_mix (P := P) (w := w) (base := base) T
  have G_l_other := ok_lother (P := P) (w := w) (base := base) T
  have G_l_behind := ok_lbehind (P := P) (w := w) (base := base) T
  refine T.F_l_walked.ok sc_l_walked (fun vs H Q E h => ?_) (fun cdv A outer s H vs Q E hr h => ?_)
  · obtain ⟨wa, sa, c0, l0, n, o, ts, os, cs, ls, c, m, rfl, _⟩ := h; rfl
  obtain ⟨wa, sa, c0, l0, n, o, ts, os, cs0, ls0, c, m, rfl, hWeb, g, h40, hsa, hc0, hl0, lc0, ll0, shp, hm0, hm1, q⟩ := h
  have nd := sc_l_walked.nd
  have nd_l_one_l_end_l_web : (["_law_one", "_law_end", "_law_web"] : List Str).Nodup := by decide
  refine ⟨_, (pss_cons (ps_par (i := 4) (j := 5) rfl nd rfl rfl (by decide) rfl rfl (pa_cons (pe_callTy call_list_of rfl T.z_list boot_list (pa_cons (pe_ix ix_tup (pv 1) pe_int (fun _ _ => rfl)) pa_nil)) (pa_cons (pe_callTy call_list_of rfl T.z_list boot_list (pa_cons (pe_ix ix_tup (pv 1) pe_int (fun _ _ => rfl)) pa_nil)) pa_nil)) rfl)
    (pss_cons (ps_for PassesOwn.never rfl (pi_range1 rfl T.z_range (pa_cons (pv 3) pa_nil)) (pg_name (i := 6) nd rfl (Or.inl rfl)) (pss_cons (ps_set (i := 7) nd rfl (Or.inl rfl) (pe_call G_l_mix (hr.mono (by decide)) rfl T.m_l_mix T.k_l_mix T.b_l_mix .nil pass0 (pa_cons (pv 2) (pa_cons (pe_op op_add pe_int (pv 6)) pa_nil))))
    (pss_cons (ps_set (i := 8) nd rfl (Or.inr rfl) (pe_op op_mod (pv 7) (pe_callB call_len_seq rfl T.z_len PySem.boot_len (pa_cons (pv 4) pa_nil))))
    (pss_cons (ps_set (i := 9) nd rfl (Or.inl rfl) (pe_call G_l_other (hr.mono (by decide)) rfl T.m_l_other T.k_l_other T.b_l_other .nil pass0 (pa_cons (pv 8) pa_nil)))
    (pss_cons (ps_set (i := 10) nd rfl (Or.inl rfl) (pe_ix ix_list (pe_comp (N' := ["_law_one", "_law_end", "_law_web"]) (js := [none, some 8, some 0]) rfl (pi_range1 rfl T.z_range (pa_cons (pe_callB call_len_seq rfl T.z_len PySem.boot_len (pa_cons (pv 4) pa_nil)) pa_nil)) (fun _ _ _ _ _ => (pg_name (i := 0) nd_l_one_l_end_l_web rfl (Or.inl rfl))) (fun _ _ _ _ _ => (pf_one (pt_cmpR op_eq (pe_call G_l_behind (hr.mono (by decide)) rfl T.m_l_behind T.k_l_behind T.b_l_behind .nil pass0 (pa_cons (pe_ix (kix_tup (K := K) rfl) (pv 2) pe_int (fun _ _ => rfl)) (pa_cons (pe_ix (kix_tup (K := K) rfl) (pv 2) pe_int (fun _ _ => rfl)) (pa_cons (pv 0) pa_nil)))) (pv 1) (nomark _)))) (fun _ _ _ _ _ => (pv 0))) pe_int (fun _ _ => rfl)))
    (pss_one (ps_if (pt_cmpR op_eq (pe_op op_mod (pe_op op_fdiv (pv 7) pe_int) pe_int) pe_int (nomark _)) (pss_cons (ps_asg (pe_op op_add (pe_ix ix_list (pv 5) (pv 8) (fun _ _ => rfl)) pe_int) (pg_sub (pv 5) (pv 8) set_list))
    (pss_one (ps_asg (pe_op op_add (pe_ix ix_list (pv 5) (pv 9) (fun _ _ => rfl)) pe_int) (pg_sub (pv 5) (pv 9) set_list)))) (pss_one (ps_if (pt_cmpR op_gt (pe_ix ix_list (pv 4) (pv 9) (fun _ _ => rfl)) pe_int (nomark _)) (pss_cons (ps_asg (pe_op op_sub (pe_ix ix_list (pv 4) (pv 9) (fun _ _ => rfl)) pe_int) (pg_sub (pv 4) (pv 9) set_list))
    (pss_cons (ps_asg (pe_op op_add (pe_ix ix_list (pv 4) (pv 10) (fun _ _ => rfl)) pe_int) (pg_sub (pv 4) (pv 10) set_list))
    (pss_cons (ps_set (i := 11) nd rfl (Or.inl rfl) (pe_callTy call_int1 rfl T.z_int boot_int (pa_cons (pe_cmpR op_gt (pe_ix ix_list (pv 5) (pv 9) (fun _ _ => rfl)) pe_int (nomark _)) pa_nil)))
    (pss_cons (ps_asg (pe_op op_sub (pe_ix ix_list (pv 5) (pv 9) (fun _ _ => rfl)) (pv 11)) (pg_sub (pv 5) (pv 9) set_list))
    (pss_one (ps_asg (pe_op op_sub (pe_op op_add (pe_ix ix_list (pv 5) (pv 8) (fun _ _ => rfl)) pe_int) (pv 11)) (pg_sub (pv 5) (pv 8) set_list))))))) pss_nil)))))))))
    (pss_one (ps_ret (pe_tup (pa_cons (pv 4) (pa_cons (pv 5) pa_nil))))))), ?_⟩
  obtain ⟨tA, oA, hw, hts, hos⟩ := id hWeb
  refine ⟨_, rfl, sa, _, _, _, rfl, rfl, SqT.of hsa, rfl, c0, _, rfl, .inl (SqL.of hc0), fun cA hcA => ?_⟩
  have g1 := same_new hcA (.lst (cs0.map V.int))
  refine ⟨_, rfl, sa, _, _, _, rfl, rfl, SqT.of (g1 _ _ hsa), rfl, l0, _, rfl, .inl (SqL.of (g1 _ _ hl0)), fun lA hlA => ?_⟩
  have g2 := same_new hlA (.lst (ls0.map V.int))
  refine ⟨_, _, rfl, ?_⟩
  have ncl : cA ≠ lA := ne_of_none upd_same hlA
  have hlA0 : H lA = none := g1.free hlA
  have eC := g2 _ _ (upd_same (H := H) (a := cA) (o := .lst (cs0.map V.int)))
  have eL : (upd (upd H cA (.lst (cs0.map V.int))) lA (.lst (ls0.map V.int))) lA = some (.lst (ls0.map V.int)) := upd_same
  have g03 := g1.trans g2
  generalize upd (upd H cA (.lst (cs0.map V.int))) lA (.lst (ls0.map V.int)) = H3 at eC eL g03
  clear g1 g2
  refine ⟨_, rfl, m, rfl, by omega, by omega, for_range (lo := 0) (n := m.toNat)
    (fun i σ H' => Same H H' ∧ (∃ cs ls : List Int, H' cA = some (.lst (cs.map V.int)) ∧ H' lA = some (.lst (ls.map V.int)) ∧ cs.length = 2 * ts.length ∧ ls.length = 2 * ts.length ∧ MM.Shp ts os o (at0 cs) (at0 ls)) ∧
      ∃ o6 o7 o8 o9 o10 o11 : Option V, σ = [some (.ref wa), some (.ref sa), some (.int c), some (.int m), some (.ref cA), some (.ref lA), o6, o7, o8, o9, o10, o11])
    ⟨g03, ⟨_, _, eC, eL, lc0, ll0, shp⟩, _, _, _, _, _, _, rfl⟩ ?_ ?_⟩
  · rintro i σ H4 hi ⟨g4, ⟨cs, ls, e1, e2, lc, ll, sh⟩, o6, o7, o8, o9, o10, o11, rfl⟩
    show gName 6 (V.int (0 + (i : Int))) _ _ _
    rw [Int.zero_add]
    refine ⟨_, rfl, _, rfl, _, _, rfl, rfl, _, _, rfl, by omega, by omega, fun p hp0 hp1 => ?_⟩
    have hl1 := g.one
    have lcm : (cs.map V.int).length = 2 * ts.length := by rw [List.length_map]; exact lc
    refine ⟨_, rfl, _, rfl, cA, _, rfl, .inl (SqL.of e1), _, _, rfl, rfl, (by show (0 : Int) < (((cs.map V.int).length : Nat) : Int); omega), ?_⟩
    obtain ⟨e, he, ee⟩ := MM.mod_ix p (n := (cs.map V.int).length) (by omega)
    show gName 8 (V.int (p % (((cs.map V.int).length : Nat) : Int))) _ _ _
    rw [ee]
    rw [lcm] at he
    have heo := MM.oth_lt he
    refine ⟨_, rfl, e, rfl, ?_⟩
    -- the end ahead
    refine ⟨_, rfl, cA, _, rfl, .inl (SqL.of e1), _, rfl, by omega, by omega, fun D hD => ?_⟩
    refine comp_by ((((cs.map V.int).length : Nat) : Int)).toNat (fun j ys H' => ys = vns ((List.range j).filter fun x => decide (MM.behind ts os x = e)) ∧ H' = upd H4 D (.lst ys)) ⟨rfl, rfl⟩ ?_ ?_
    · rintro j ys H' hj ⟨rfl, rfl⟩
      have hj' : j < 2 * ts.length := by omega
      refine ⟨hj, ?_⟩
      rintro x H'' ⟨rfl, rfl⟩
      have gD := same_new hD (.lst (vns ((List.range j).filter fun x => decide (MM.behind ts os x = e))))
      have gg := g4.trans gD
      have ej : (0 : Int) + (j : Int) = (j : Int) := Int.zero_add _
      rw [ej]
      refine ⟨(Fills.refl _).set _ rfl, _, rfl, wa, _, _, _, rfl, rfl, SqT.of (gg _ _ hw), rfl, _, rfl, wa, _, _, _, rfl, rfl, SqT.of (gg _ _ hw), rfl, _, rfl, tA, oA, ts, os, j, rfl, gg.ts hts, gg.os hos, g, hj', _, rfl, rfl, _, rfl, ?_⟩
      have hlen : (vns ((List.range j).filter fun x => decide (MM.behind ts os x = e))).length ≤ 80 := by
        rw [List.length_map]
        have := List.length_filter_le (fun x => decide (MM.behind ts os x = e)) (List.range j)
        rw [List.length_range] at this
        omega
      have rs : (List.range (j + 1)).filter (fun x => decide (MM.behind ts os x = e)) = (List.range j).filter (fun x => decide (MM.behind ts os x = e)) ++ (if MM.behind ts os j = e then [j] else []) := by
        rw [List.range_succ, List.filter_append, List.filter_cons, List.filter_nil]
        by_cases z : MM.behind ts os j = e <;> simp [z]
      by_cases z : MM.behind ts os j = e
      · refine iteTb (by rw [z]; simp) ?_
        refine ⟨_, rfl, upd_same, Nat.lt_of_le_of_lt hlen (by decide), ?_, by rw [upd_upd]⟩
        rw [rs, if_pos z, vns_app]; rfl
      · refine iteFb (decide_eq_false (fun h => z (by have := V.int.inj h; omega))) ?_
        rw [rs, if_neg z, List.append_nil]
        exact ⟨rfl, rfl⟩
    rintro ys H5 ⟨rfl, rfl⟩
    refine ⟨Nat.le_refl _, ?_⟩
    have eN : ((((cs.map V.int).length : Nat) : Int)).toNat = 2 * ts.length := by omega
    rw [eN]
    have gD := same_new hD (.lst (vns ((List.range (2 * ts.length)).filter fun x => decide (MM.behind ts os x = e))))
    obtain ⟨a0, ha0, hb0⟩ := MM.surj g.maps he
    have hmem : a0 ∈ (List.range (2 * ts.length)).filter fun x => decide (MM.behind ts os x = e) := List.mem_filter.mpr ⟨List.mem_range.mpr ha0, by simp [hb0]⟩
    have hpos := List.length_pos_of_mem hmem
    have hA := List.mem_filter.mp (getD_mem hpos)
    have ha := List.mem_range.mp hA.1
    have hb : MM.behind ts os (((List.range (2 * ts.length)).filter fun x => decide (MM.behind ts os x = e)).getD 0 0) = e := of_decide_eq_true hA.2
    refine ⟨D, _, _, _, rfl, rfl, SqL.of upd_same, at_vns (j := 0) hpos rfl, ?_⟩
    generalize ((List.range (2 * ts.length)).filter fun x => decide (MM.behind ts os x = e)).getD 0 0 = a at ha hb
    have g5 := g4.trans gD
    have f1 := gD _ _ e1
    have f2 := gD _ _ e2
    generalize upd H4 D (.lst (vns ((List.range (2 * ts.length)).filter fun x => decide (MM.behind ts os x = e)))) = H5 at g5 f1 f2
    have hoe := MM.oth_ne e
    have keepL : ∀ {H' : Hp} {u : HO}, Same H H' → Same H (upd H' lA u) := fun gg b v h => by rw [upd_ne (ne_of_none h hlA0)]; exact gg _ _ h
    have keepC : ∀ {H' : Hp} {u : HO}, Same H H' → Same H (upd H' cA u) := fun gg b v h => by rw [upd_ne (ne_of_none h hcA)]; exact gg _ _ h
    refine ⟨_, rfl, _, _, rfl, rfl, ⟨by decide, by decide⟩, _, _, rfl, rfl, (by show (0 : Int) < 4; decide), rfl, _, rfl, ite2 (fun _ => ?_) (fun _ => ?_)⟩
    · refine ⟨_, rfl, _, rfl, lA, _, _, _, rfl, rfl, SqL.of f2, atI_get0 (j := e) (by omega) rfl, _, _, rfl, rfl, _, rfl, _, rfl, lA, _, _, e, rfl, rfl, f2, ixN_ok (by rw [List.length_map]; omega) rfl, ?_⟩
      rw [← List.map_set]
      have f3 : (upd H5 lA (.lst ((ls.set e (at0 ls e + 1)).map V.int))) lA = some (.lst ((ls.set e (at0 ls e + 1)).map V.int)) := upd_same
      refine ⟨_, rfl, _, rfl, lA, _, _, _, rfl, rfl, SqL.of f3, atI_get0 (j := MM.oth e) (by rw [List.length_set]; omega) rfl, _, _, rfl, rfl, _, rfl, _, rfl, lA, _, _, MM.oth e, rfl, rfl, f3, ixN_ok (by rw [List.length_map, List.length_set]; omega) rfl, ?_⟩
      rw [← List.map_set, upd_upd]
      refine ⟨keepL g5, ⟨cs, _, by rw [upd_ne ncl]; exact f1, upd_same, lc, by rw [List.length_set, List.length_set]; exact ll, MM.walk_turn (e := e) g sh fun z => ?_⟩, _, _, _, _, _, _, rfl⟩
      rw [at0_put (by rw [List.length_set]; omega), at0_put (by omega), at0_put (by omega)]
      by_cases z1 : z = MM.oth e
      · have z2 : ¬ z = e := fun h => hoe (by rw [← z1, h])
        rw [if_pos z1, if_neg hoe, if_neg z2, if_pos z1, z1]; omega
      · rw [if_neg z1, if_neg z1]
        by_cases z2 : z = e
        · rw [if_pos z2, if_pos z2, z2]; omega
        · rw [if_neg z2, if_neg z2]; omega
    · refine ⟨_, rfl, _, rfl, cA, _, _, _, rfl, rfl, SqL.of f1, atI_get0 (j := MM.oth e) (by omega) rfl, _, _, rfl, rfl, _, rfl, ite2 (fun hc => ?_) (fun _ => ?_)⟩
      · have h1 : 1 < at0 cs (MM.oth e) := of_decide_eq_true hc
        refine ⟨_, rfl, _, rfl, cA, _, _, _, rfl, rfl, SqL.of f1, atI_get0 (j := MM.oth e) (by omega) rfl, _, _, rfl, rfl, _, rfl, _, rfl, cA, _, _, MM.oth e, rfl, rfl, f1, ixN_ok (by rw [List.length_map]; omega) rfl, ?_⟩
        rw [← List.map_set]
        generalize hcs1 : cs.set (MM.oth e) (at0 cs (MM.oth e) - 1) = cs1
        have l1 : cs1.length = 2 * ts.length := by rw [← hcs1, List.length_set]; exact lc
        have f3 : (upd H5 cA (.lst (cs1.map V.int))) cA = some (.lst (cs1.map V.int)) := upd_same
        refine ⟨_, rfl, _, rfl, cA, _, _, _, rfl, rfl, SqL.of f3, atI_get0 (j := a) (by omega) rfl, _, _, rfl, rfl, _, rfl, _, rfl, cA, _, _, a, rfl, rfl, f3, ixN_ok (by rw [List.length_map]; omega) rfl, ?_⟩
        rw [← List.map_set, upd_upd]
        generalize hcs2 : cs1.set a (at0 cs1 a + 1) = cs2
        have l2 : cs2.length = 2 * ts.length := by rw [← hcs2, List.length_set]; exact l1
        have f4 : (upd H5 cA (.lst (cs2.map V.int))) lA = some (.lst (ls.map V.int)) := by rw [upd_ne (Ne.symm ncl)]; exact f2
        have f4c : (upd H5 cA (.lst (cs2.map V.int))) cA = some (.lst (cs2.map V.int)) := upd_same
        have g6 : Same H (upd H5 cA (.lst (cs2.map V.int))) := keepC g5
        generalize upd H5 cA (.lst (cs2.map V.int)) = H6 at f4 f4c g6
        refine ⟨_, rfl, _, rfl, lA, _, _, _, rfl, rfl, SqL.of f4, atI_get0 (j := MM.oth e) (by omega) rfl, _, _, rfl, rfl, .inr ⟨_, rfl, ?_⟩⟩
        generalize hbk : (if decide (0 < at0 ls (MM.oth e)) = true then (1 : Int) else 0) = bk
        have hbk' : bk = if 0 < at0 ls (MM.oth e) then 1 else 0 := by rw [← hbk]; simp only [decide_eq_true_eq]
        refine ⟨_, rfl, _, rfl, lA, _, _, _, rfl, rfl, SqL.of f4, atI_get0 (j := MM.oth e) (by omega) rfl, _, rfl, _, _, rfl, rfl, _, rfl, _, rfl, lA, _, _, MM.oth e, rfl, rfl, f4, ixN_ok (by rw [List.length_map]; omega) rfl, ?_⟩
        rw [← List.map_set]
        generalize hls1 : ls.set (MM.oth e) (at0 ls (MM.oth e) - bk) = ls1
        have l3 : ls1.length = 2 * ts.length := by rw [← hls1, List.length_set]; exact ll
        have f5 : (upd H6 lA (.lst (ls1.map V.int))) lA = some (.lst (ls1.map V.int)) := upd_same
        refine ⟨_, rfl, _, rfl, lA, _, _, _, rfl, rfl, SqL.of f5, atI_get0 (j := e) (by omega) rfl, _, _, rfl, rfl, _, rfl, _, _, rfl, rfl, _, rfl, _, rfl, lA, _, _, e, rfl, rfl, f5, ixN_ok (by rw [List.length_map]; omega) rfl, ?_⟩
        rw [← List.map_set, upd_upd]
        refine ⟨keepL g6, ⟨cs2, _, by rw [upd_ne ncl]; exact f4c, upd_same, l2, by rw [List.length_set]; exact l3, MM.walk_quarter (e := e) (a := a) (b := bk) g sh he ha hb h1 (fun z => ?_) (fun z => ?_) hbk'⟩, _, _, _, _, _, _, rfl⟩
        · rw [← hcs2, at0_put (by omega), ← hcs1, at0_put (by omega), at0_put (by omega)]
          by_cases z1 : z = a
          · rw [if_pos z1, if_pos z1, z1]
            by_cases z3 : a = MM.oth e
            · rw [if_pos z3, if_pos z3, z3]
            · rw [if_neg z3, if_neg z3]; omega
          · rw [if_neg z1, if_neg z1]
            by_cases z2 : z = MM.oth e
            · rw [if_pos z2, if_pos z2, z2]; omega
            · rw [if_neg z2, if_neg z2]; omega
        · rw [at0_put (by omega), ← hls1, at0_put (by omega), at0_put (by omega)]
          by_cases z1 : z = e
          · have z2 : ¬ z = MM.oth e := fun h => hoe (by rw [← h, z1])
            rw [if_pos z1, if_neg (Ne.symm hoe), if_pos z1, if_neg z2, z1]; omega
          · rw [if_neg z1, if_neg z1]
            by_cases z2 : z = MM.oth e
            · rw [if_pos z2, if_pos z2, z2]; omega
            · rw [if_neg z2, if_neg z2]; omega
      · exact ⟨g5, ⟨cs, ls, f1, f2, lc, ll, sh⟩, _, _, _, _, _, _, rfl⟩
  rintro σ H4 ⟨g4, ⟨cs, ls, e1, e2, lc, ll, sh⟩, o6, o7, o8, o9, o10, o11, rfl⟩
  refine ⟨_, rfl, _, rfl, (by show 2 ≤ sizeLine; decide), fun r hr' => ?_⟩
  have gr := same_new hr' (.tup [.ref cA, .ref lA])
  exact q r cA lA cs ls _ (g4.trans gr) upd_same (gr _ _ e1) (gr _ _ e2) hcA hlA0 ncl lc ll sh
end K05

namespace MM
def IsPl (os : Ords) (cs : List Int) : Prop := ∀ p, p < os.length → su (row os p) (fun e => L2.at0 cs (oth e)) = 4
def IsLd (ts : Ties) (os : Ords) (o : Nat) (cs ls : List Int) : Prop := ∀ (k : Nat) (d : List Nat), (lls ts os)[k]? = some d → su d (trm (L2.at0 cs) (L2.at0 ls)) = if k = o then -4 else 4
def IsShp (ts : Ties) (os : Ords) (o : Nat) (cs ls : List Int) : Prop := cs.length = 2 * ts.length ∧ ls.length = 2 * ts.length ∧ (∀ x ∈ cs, 1 ≤ x ∧ x ≤ 4) ∧ (∀ x ∈ ls, 0 ≤ x) ∧ IsPl os cs ∧ IsLd ts os o cs ls
open Classical in
noncomputable def shB (ts : Ties) (os : Ords) (o : Nat) (cs ls : List Int) : Bool := decide (IsShp ts os o cs ls)
open Classical in
noncomputable def plB (os : Ords) (cs : List Int) : Bool := decide (IsPl os cs)
open Classical in
noncomputable def ldB (ts : Ties) (os : Ords) (o : Nat) (cs ls : List Int) : Bool := decide (IsLd ts os o cs ls)
open Classical in
theorem shB_t {ts : Ties} {os : Ords} {o : Nat} {cs ls : List Int} (h : IsShp ts os o cs ls) : shB ts os o cs ls = true := by unfold shB; exact decide_eq_true h
open Classical in
theorem shB_f {ts : Ties} {os : Ords} {o : Nat} {cs ls : List Int} (h : ¬ IsShp ts os o cs ls) : shB ts os o cs ls = false := by unfold shB; exact decide_eq_false h
open Classical in
theorem plB_t {os : Ords} {cs : List Int} (h : IsPl os cs) : plB os cs = true := by unfold plB; exact decide_eq_true h
open Classical in
theorem plB_f {os : Ords} {cs : List Int} (h : ¬ IsPl os cs) : plB os cs = false := by unfold plB; exact decide_eq_false h
open Classical in
theorem ldB_t {ts : Ties} {os : Ords} {o : Nat} {cs ls : List Int} (h : IsLd ts os o cs ls) : ldB ts os o cs ls = true := by unfold ldB; exact decide_eq_true h
open Classical in
theorem ldB_f {ts : Ties} {os : Ords} {o : Nat} {cs ls : List Int} (h : ¬ IsLd ts os o cs ls) : ldB ts os o cs ls = false := by unfold ldB; exact decide_eq_false h
theorem Shp.is {ts : Ties} {os : Ords} {o : Nat} {cs ls : List Int} (lc : cs.length = 2 * ts.length) (ll : ls.length = 2 * ts.length) (s : Shp ts os o (L2.at0 cs) (L2.at0 ls)) : IsShp ts os o cs ls := by
  have ix : ∀ {l : List Int} {x : Int}, x ∈ l → ∃ i, i < l.length ∧ x = L2.at0 l i := fun {l x} h => by
    obtain ⟨i, hi, rfl⟩ := List.mem_iff_getElem.mp h
    exact ⟨i, hi, by unfold L2.at0; simp [List.getD, hi]⟩
  refine ⟨lc, ll, fun x hx => ?_, fun x hx => ?_, s.pl.at_, s.ld⟩
  · obtain ⟨i, hi, rfl⟩ := ix hx
    exact ⟨s.pl.lo i (by omega), s.pl.hi i (by omega)⟩
  · obtain ⟨i, hi, rfl⟩ := ix hx
    exact s.pos i (by omega)
theorem su_filter (f : Nat → Int) (p : Nat → Bool) : ∀ l : List Nat, su l (fun e => if p e = true then f e else 0) = su (l.filter p) f
  | [] => rfl
  | x :: l => by
    rw [su_cons, List.filter_cons, su_filter f p l]
    by_cases h : p x = true
    · rw [if_pos h, if_pos h, su_cons]
    · rw [if_neg h, if_neg h]; omega
theorem su_row {ts : Ties} {os : Ords} (g : Good ts os) (c : Nat → Int) (p : Nat) : su (List.range (2 * ts.length)) (fun e => if place ts (oth e) = p then c e else 0) = su (row os p) (fun e => c (oth e)) := by
  have e1 : su (List.range (2 * ts.length)) (fun e => if place ts (oth e) = p then c e else 0) = su (List.range (2 * ts.length)) (fun e => if decide (place ts (oth e) = p) = true then c e else 0) := su_congr fun x _ => by simp only [decide_eq_true_eq]
  rw [e1, su_filter, ← su_map c oth]
  refine su_perm (perm_of (List.Pairwise.filter _ List.nodup_range) ?_ fun x => ?_)
  · rw [List.Nodup, List.pairwise_map]
    exact List.Pairwise.imp (fun h z => h (oth_inj z)) (g.g.nd p)
  · rw [List.mem_filter, List.mem_range, List.mem_map, decide_eq_true_eq]
    constructor
    · rintro ⟨h1, h2⟩
      have := (g.g.has (oth x) (oth_lt h1)).2
      rw [h2] at this
      exact ⟨oth x, this, oth_oth x⟩
    · rintro ⟨y, hy, rfl⟩
      have := g.g.ends p y hy
      exact ⟨oth_lt this.1, by rw [oth_oth]; exact this.2⟩
theorem su_snoc (f : Nat → Int) (n : Nat) : su (List.range (n + 1)) f = su (List.range n) f + f n := by rw [List.range_succ, su_app, su_cons, su_nil]; omega
end MM
namespace L2
open PySem PySem.Spec PyProof.Rows
section
variable {X : Cx}
def rGetL (K : PySem.W.Frag) : V → V → Hp → VK → Prop := fun o i H Q => ∃ p xs k v, o = .ref p ∧ i = .int k ∧ SqL K H p xs ∧ 0 ≤ k ∧ atI xs k = some v ∧ Q v H
theorem get_list : PGet X (rGetL X.K) := by
  intro pins s σ H o i ov iv Q I ro ri h
  obtain ⟨p, xs, k, z, rfl, rfl, hq, h0, he, q⟩ := h
  cases ro
  obtain ⟨t, rfl⟩ := ri
  obtain ⟨its, r, pl, hz⟩ := I.list hq
  obtain ⟨j, h1, h2, h3, h4, h5⟩ := atI_get he
  obtain ⟨w, ew, rw'⟩ := r.get h2
  have hl := r.length
  have hn := line63
  have hj : k.toNat = j := by
    rw [seqIndex_of h0 h5] at h1
    exact Option.some.inj h1
  exact wpAny_getItem_list pl.isList h0 (by omega) (by rw [hj]; simpa using ew) ⟨z, H, I, rw', q⟩
end
end L2
namespace K05
open PySem L2 PyProof.Rows
variable {P : Program} {w : World} {K : PySem.W.Frag} {mg : Str → Option Value} {base : Heap} {t : Adr}
def spWanted : Sp := fun vs H Q _ => ∃ (k o : Nat), vs = [vn k, vn o] ∧ Q (.int (if k = o then -4 else 4)) H
theorem ok_wanted (T : Txt K mg t) : FnOk P w K mg base CX0 1 t.a_wanted_sum t.d_wanted_sum ["number", "outer"] spWanted := by
  refine T.F_wanted_sum.ok sc_wanted_sum (fun vs H Q E h => ?_) (fun cdv A outer s H vs Q E hr h => ?_)
  · obtain ⟨k, o, rfl, _⟩ := h; rfl
  obtain ⟨k, o, rfl, q⟩ := h
  refine ⟨_, (pss_one (ps_ret (pe_ifExp (pt_cmpR op_eq (pv 0) (pv 1) (nomark _)) (pe_un un_neg (pe_glob (v := .int 4) rfl T.g_QUARTERS_ROUND ⟨_, rfl⟩)) (pe_glob (v := .int 4) rfl T.g_QUARTERS_ROUND ⟨_, rfl⟩)))), ?_⟩
  refine ⟨_, rfl, _, rfl, rfl, _, rfl, ite2 (fun c => ?_) (fun c => ?_)⟩
  · have : k = o := by
      have c' : V.int (k : Int) = V.int (o : Int) := of_decide_eq_true c
      have := V.int.inj c'
      omega
    rw [if_pos this] at q
    exact ⟨_, rfl, q⟩
  · have : ¬ k = o := fun z => c (by subst z; exact decide_eq_true rfl)
    rw [if_neg this] at q
    exact q

theorem ok_landsum (T : Txt K mg t) : FnOk P w K mg base CX0 2 t.a_land_sum t.d_land_sum ["land", "corners", "lefts"] spSum := by
  have G_other_end := ok_other (P := P) (w := w) (base := base) T
  refine T.F_land_sum.ok sc_land_sum (fun vs H Q E h => ?_) (fun cdv A outer s H vs Q E hr h => ?_)
  · obtain ⟨da, ca, la, d, cs, ls, rfl, _⟩ := h; rfl
  obtain ⟨da, ca, la, d, cs, ls, rfl, hd, hc, hl, hb, h1000, q⟩ := h
  have nd_end_lefts_corners : (["end", "lefts", "corners"] : List Str).Nodup := by decide
  refine ⟨_, (pss_one (ps_ret (pe_callB (call_sumI rfl) rfl T.z_sum boot_sum (pa_cons (pe_comp (N' := ["end", "lefts", "corners"]) (js := [none, some 2, some 1]) rfl (pi_list (pv 0)) (fun _ _ _ _ _ => (pg_name (i := 0) nd_end_lefts_corners rfl (Or.inl rfl))) (fun _ _ _ _ _ => pf_nil) (fun _ _ _ _ _ => (pe_op op_sub (pe_op op_add (pe_op op_sub pe_int (pe_ix (kix_list (K := K) rfl) (pv 2) (pv 0) (fun _ _ => rfl))) (pe_ix (kix_list (K := K) rfl) (pv 1) (pv 0) (fun _ _ => rfl))) (pe_ix (kix_list (K := K) rfl) (pv 1) (pe_call G_other_end (hr.mono (by decide)) rfl T.m_other_end T.k_other_end T.b_other_end .nil pass0 (pa_cons (pv 0) pa_nil)) (fun _ _ => rfl))))) pa_nil)))), ?_⟩
  refine ⟨_, rfl, da, rfl, ⟨_, SqL.of hd⟩, fun D hD => ?_⟩
  refine comp_pure d.length (fun i => .int (MM.trm (at0 cs) (at0 ls) (d.getD i 0))) hD (by omega) (fun i H' hi g' => ⟨_, _, SqL.of (g' _ _ hd), vns_get hi⟩) (fun H' g' => ⟨_, SqL.of (g' _ _ hd), by rw [List.length_map]; exact Nat.le_refl _⟩) ?_ ?_
  · rintro i H' x H'' k hi g' ⟨rfl, hx⟩ hk
    have ex := hx _ (SqL.of (g' _ _ hd))
    rw [vns_get hi] at ex
    cases ex
    obtain ⟨b1, b2, b3⟩ := hb _ (getD_mem hi)
    exact ⟨(Fills.refl _).set _ rfl, _, rfl, _, rfl, ca, _, _, _, rfl, rfl, SqL.of (g' _ _ hc), atI_get0 b1 rfl, _, _, rfl, rfl, _, rfl, _, rfl, la, _, _, _, rfl, rfl, SqL.of (g' _ _ hl), atI_get0 b2 rfl, _, _, rfl, rfl,
      _, rfl, _, rfl, d.getD i 0, rfl, la, _, _, _, rfl, rfl, SqL.of (g' _ _ hl), atI_get0 b3 rfl, _, _, rfl, rfl, hk _ (Same.refl _)⟩
  intro H2 g2 eD
  rw [rng_map d (fun e => V.int (MM.trm (at0 cs) (at0 ls) e)), show d.map (fun e => V.int (MM.trm (at0 cs) (at0 ls) e)) = (d.map (MM.trm (at0 cs) (at0 ls))).map V.int by rw [List.map_map]; rfl] at eD
  exact ⟨D, _, rfl, SqL.of eD, q H2 g2⟩
def spPlaces : Sp := fun vs H Q _ => ∃ (wa ca : Addr) (ts : MM.Ties) (os : MM.Ords) (cs : List Int), vs = [.ref wa, .ref ca] ∧ WebAt H wa os.length ts os ∧ MM.Good ts os ∧ ts.length ≤ 40 ∧ os.length ≤ 40 ∧ H ca = some (.lst (cs.map V.int)) ∧ cs.length = 2 * ts.length ∧ ∀ H', Same H H' → Q (.bl (MM.plB os cs)) H'
theorem ok_places (T : Txt K mg t) : FnOk P w K mg base CX0 3 t.a_places_close t.d_places_close ["web", "corners"] spPlaces := by
  have G_goes_to := ok_goes (P := P) (w := w) (base := base) T
  refine T.F_places_close.ok sc_places_close (fun vs H Q E h => ?_) (fun cdv A outer s H vs Q E hr h => ?_)
  · obtain ⟨wa, ca, ts, os, cs, rfl, _⟩ := h; rfl
  obtain ⟨wa, ca, ts, os, cs, rfl, hWeb, g, h40, o40, hc, lc, q⟩ := h
  have nd := sc_places_close.nd
  have nd_total : (["total"] : List Str).Nodup := by decide
  have nd_place : (["place"] : List Str).Nodup := by decide
  refine ⟨_, (pss_cons (ps_setComp (i := 2) nd rfl (Or.inl rfl)  (N' := ["place"]) (js := [none]) rfl (pi_range1 rfl T.z_range (pa_cons (pe_ix ix_tup (pv 0) pe_int (fun _ _ => rfl)) pa_nil)) (fun _ _ _ _ _ => (pg_name (i := 0) nd_place rfl (Or.inl rfl))) (fun _ _ _ _ _ => pf_nil) (fun _ _ _ _ _ => pe_int))
    (pss_cons (ps_for PassesOwn.never rfl (pi_enum rfl T.z_enumerate (pa_cons (pv 1) pa_nil)) (pg_tup rfl (pgs_cons (pg_name (i := 3) nd rfl (Or.inl rfl)) (pgs_cons (pg_name (i := 4) nd rfl (Or.inl rfl)) pgs_nil))) (pss_one (ps_augS (pv 2) (pe_call G_goes_to (hr.mono (by decide)) rfl T.m_goes_to T.k_goes_to T.b_goes_to .nil pass0 (pa_cons (pv 0) (pa_cons (pv 3) pa_nil))) get_list (pv 4) ip_add set_list)))
    (pss_one (ps_ret (pe_callB (call_allB rfl) rfl T.z_all boot_all (pa_cons (pe_comp (N' := ["total"]) (js := [none]) rfl (pi_list (pv 2)) (fun _ _ _ _ _ => (pg_name (i := 0) nd_total rfl (Or.inl rfl))) (fun _ _ _ _ _ => pf_nil) (fun _ _ _ _ _ => (pe_cmpR op_eq (pv 0) (pe_glob (v := .int 4) rfl T.g_QUARTERS_ROUND ⟨_, rfl⟩) (nomark _)))) pa_nil)))))), ?_⟩
  obtain ⟨tA, oA, hw, hts, hos⟩ := id hWeb
  refine ⟨_, rfl, wa, _, _, _, rfl, rfl, SqT.of hw, rfl, _, rfl, by omega, by omega, fun sA hsA => ?_⟩
  refine comp_pure ((os.length : Nat) : Int).toNat (fun _ => .int 0) hsA (by omega) (fun i H' hi _ => hi) (fun H' _ => Nat.le_refl _) ?_ ?_
  · rintro i H' x H'' k hi g' ⟨rfl, rfl⟩ hk
    exact ⟨(Fills.refl _).set _ rfl, hk _ (Same.refl _)⟩
  intro H2 g2 es
  rw [Int.toNat_natCast, rep_map] at es
  refine ⟨_, rfl, ca, rfl, ⟨_, SqL.of (g2 _ _ hc)⟩, for_enum (xs := cs.map V.int)
    (fun i σ H' => Same H H' ∧ (∃ ss : List Int, H' sA = some (.lst (ss.map V.int)) ∧ ss.length = os.length ∧ ∀ p, p < os.length → at0 ss p = MM.su (List.range i) (fun e => if MM.place ts (MM.oth e) = p then at0 cs e else 0)) ∧
      ∃ o3 o4 : Option V, σ = [some (.ref wa), some (.ref ca), some (.ref sA), o3, o4])
    ⟨g2, ⟨_, es, by simp, fun p hp => by rw [at0_rep hp]; rfl⟩, _, _, rfl⟩ (fun i σ H' _ h => SqL.of (h.1 _ _ hc)) ?_ ?_⟩
  · rintro i x σ H3 Tp hx ⟨g3, ⟨ss, e1, e2, e3⟩, o3, o4, rfl⟩ hTp
    have hi : i < cs.length := by have := (List.getElem?_eq_some_iff.mp hx).1; rwa [List.length_map] at this
    rw [at_get hi] at hx
    cases hx
    have g4 := same_new hTp (.tup [vn i, .int (at0 cs i)])
    have g34 := g3.trans g4
    have f1 := g4 _ _ e1
    refine ⟨Tp, _, rfl, SqT.of upd_same, rfl, _, _, rfl, _, _, rfl, rfl, ?_⟩
    have pl := (g.g.has (MM.oth i) (MM.oth_lt (by omega))).1
    generalize upd H3 Tp (.tup [vn i, .int (at0 cs i)]) = H4 at g4 g34 f1
    refine ⟨_, rfl, _, rfl, _, rfl, wa, _, ts, os, i, rfl, g34.web hWeb, by omega, sA, _, _, _, rfl, rfl, SqL.of f1, by omega, atI_get0 (j := MM.place ts (MM.oth i)) (by omega) rfl, _, rfl, _, _, rfl, rfl, sA, _, _, MM.place ts (MM.oth i), rfl, rfl, f1, ixN_ok (by rw [List.length_map]; omega) rfl, ?_⟩
    rw [← List.map_set]
    refine ⟨fun b u h => by rw [upd_ne (ne_of_none h hsA)]; exact g34 _ _ h, ⟨_, upd_same, by rw [List.length_set]; exact e2, fun p hp => ?_⟩, _, _, rfl⟩
    rw [at0_put (by omega), MM.su_snoc, e3 p hp]
    by_cases z : p = MM.place ts (MM.oth i)
    · rw [if_pos z, if_pos z.symm, z, e3 _ pl]
    · rw [if_neg z, if_neg (Ne.symm z)]; omega
  rintro σ H3 ⟨g3, ⟨ss, e1, e2, e3⟩, o3, o4, rfl⟩
  rw [List.length_map, lc] at e3
  refine ⟨_, rfl, sA, rfl, ⟨_, SqL.of e1⟩, fun D hD => ?_⟩
  refine comp_pure ss.length (fun i => .bl (decide (V.int (at0 ss i) = V.int 4))) hD (by omega) (fun i H' hi g' => ⟨_, _, SqL.of (g' _ _ e1), at_get hi⟩) (fun H' g' => ⟨_, SqL.of (g' _ _ e1), by rw [List.length_map]; exact Nat.le_refl _⟩) ?_ ?_
  · rintro i H' x H'' k hi g' ⟨rfl, hx⟩ hk
    have ex := hx _ (SqL.of (g' _ _ e1))
    rw [at_get hi] at ex
    cases ex
    exact ⟨(Fills.refl _).set _ rfl, _, rfl, rfl, hk _ (Same.refl _)⟩
  intro H4 g4 eD
  rw [show (List.range ss.length).map (fun i => V.bl (decide (V.int (at0 ss i) = V.int 4))) = ((List.range ss.length).map fun i => decide (V.int (at0 ss i) = V.int 4)).map V.bl by rw [List.map_map]; rfl] at eD
  refine ⟨D, _, rfl, SqL.of eD, ?_⟩
  have hB : ((List.range ss.length).map fun i => decide (V.int (at0 ss i) = V.int 4)).all id = MM.plB os cs := by
    have key : (∀ p, p < os.length → at0 ss p = 4) ↔ MM.IsPl os cs := by
      unfold MM.IsPl
      constructor
      · intro h p hp
        rw [← MM.su_row g, ← e3 p hp]; exact h p hp
      · intro h p hp
        rw [e3 p hp, MM.su_row g]; exact h p hp
    by_cases h : MM.IsPl os cs
    · rw [MM.plB_t h, List.all_eq_true]
      intro b hb
      obtain ⟨i, hi, rfl⟩ := List.mem_map.mp hb
      have := key.mpr h i (by rw [← e2]; exact List.mem_range.mp hi)
      simp [this]
    · rw [MM.plB_f h, Bool.eq_false_iff]
      intro hall
      apply h
      refine key.mp fun p hp => ?_
      have := List.all_eq_true.mp hall _ (List.mem_map.mpr ⟨p, List.mem_range.mpr (by omega), rfl⟩)
      have := of_decide_eq_true this
      exact V.int.inj this
  rw [hB]
  exact q H4 (g3.trans g4)
def spLandsC : Sp := fun vs H Q _ => ∃ (wa ca la : Addr) (n o : Nat) (ts : MM.Ties) (os : MM.Ords) (cs ls : List Int), vs = [.ref wa, vn o, .ref ca, .ref la] ∧ WebAt H wa n ts os ∧ MM.Good ts os ∧ ts.length ≤ 40 ∧ H ca = some (.lst (cs.map V.int)) ∧ H la = some (.lst (ls.map V.int)) ∧ cs.length = 2 * ts.length ∧ ls.length = 2 * ts.length ∧ ∀ H', Same H H' → Q (.bl (MM.ldB ts os o cs ls)) H'
theorem ok_landsclose (T : Txt K mg t) : FnOk P w K mg base CX0 6 t.a_lands_close t.d_lands_close ["web", "outer", "corners", "lefts"] spLandsC := by
  have G_lands := ok_lands (P := P) (w := w) (base := base) T
  have G_land_sum := ok_landsum (P := P) (w := w) (base := base) T
  have G_wanted_sum := ok_wanted (P := P) (w := w) (base := base) T
  refine T.F_lands_close.ok sc_lands_close (fun vs H Q E h => ?_) (fun cdv A outer s H vs Q E hr h => ?_)
  · obtain ⟨wa, ca, la, n, o, ts, os, cs, ls, rfl, _⟩ := h; rfl
  obtain ⟨wa, ca, la, n, o, ts, os, cs, ls, rfl, hWeb, g, h40, hc, hl, lc, ll, q⟩ := h
  have nd := sc_lands_close.nd
  refine ⟨_, (pss_cons (ps_for PassesOwn.never rfl (pi_enum rfl T.z_enumerate (pa_cons (pe_call G_lands (hr.mono (by decide)) rfl T.m_lands T.k_lands T.b_lands .nil pass0 (pa_cons (pv 0) pa_nil)) pa_nil)) (pg_tup rfl (pgs_cons (pg_name (i := 4) nd rfl (Or.inl rfl)) (pgs_cons (pg_name (i := 5) nd rfl (Or.inl rfl)) pgs_nil))) (pss_one (ps_if (pt_cmpR op_ne (pe_call G_land_sum (hr.mono (by decide)) rfl T.m_land_sum T.k_land_sum T.b_land_sum .nil pass0 (pa_cons (pv 5) (pa_cons (pv 2) (pa_cons (pv 3) pa_nil)))) (pe_call G_wanted_sum (hr.mono (by decide)) rfl T.m_wanted_sum T.k_wanted_sum T.b_wanted_sum .nil pass0 (pa_cons (pv 4) (pa_cons (pv 1) pa_nil))) (nomark _)) (pss_one (ps_ret pe_bl)) pss_nil)))
    (pss_one (ps_ret pe_bl))), ?_⟩
  refine ⟨_, rfl, wa, n, ts, os, rfl, hWeb, g, by omega, fun r rr H1 g1 nos => ?_⟩
  refine ⟨r, rfl, ⟨_, SqL.of nos.at_⟩, for_enum (xs := rr.map V.ref)
    (fun i σ H' => Same H1 H' ∧ (∀ (k : Nat) (d : List Nat), k < i → (MM.lls ts os)[k]? = some d → MM.su d (MM.trm (at0 cs) (at0 ls)) = if k = o then -4 else 4) ∧
      ∃ o4 o5 : Option V, σ = [some (.ref wa), some (vn o), some (.ref ca), some (.ref la), o4, o5])
    ⟨Same.refl _, fun k d hk => absurd hk (by omega), _, _, rfl⟩ (fun i σ H' _ h => SqL.of (h.1 _ _ nos.at_)) ?_ ?_⟩
  · rintro i x σ H2 Tp hx ⟨g2, hk, o4, o5, rfl⟩ hTp
    obtain ⟨y, hy, rfl⟩ := refs_at hx
    have hil : i < (MM.lls ts os).length := by rw [← nos.len]; exact (List.getElem?_eq_some_iff.mp hy).1
    have hli := List.getElem?_eq_getElem hil
    obtain ⟨y', hy', ey⟩ := nos.row i _ hli
    rw [hy] at hy'; cases hy'
    generalize (MM.lls ts os)[i] = d at hli ey
    have hdd := MM.lls_land g hli
    have hd80 : d.length ≤ 1000 := by have := MM.nodup_bound _ _ hdd.1 hdd.2.1; omega
    have g3 := same_new hTp (.tup [vn i, .ref y])
    have g23 := g2.trans g3
    have g03 := g1.trans g23
    refine ⟨Tp, _, rfl, SqT.of upd_same, rfl, _, _, rfl, _, _, rfl, rfl, ?_⟩
    generalize upd H2 Tp (.tup [vn i, .ref y]) = H3 at g23 g03
    refine ⟨_, rfl, _, rfl, _, rfl, y, ca, la, d, cs, ls, rfl, g23 _ _ ey, g03 _ _ hc, g03 _ _ hl, fun x hx => ⟨by have := hdd.2.1 x hx; omega, by have := hdd.2.1 x hx; omega, by have := MM.oth_lt (hdd.2.1 x hx); omega⟩, hd80, fun H4 g4 => ?_⟩
    refine ⟨_, rfl, _, rfl, i, o, rfl, ?_⟩
    refine ⟨rfl, _, rfl, ?_⟩
    by_cases z : MM.su d (MM.trm (at0 cs) (at0 ls)) = if i = o then -4 else 4
    · refine iteFb (by rw [z]; simp) ?_
      refine ⟨g23.trans g4, fun k d' hk' hd' => ?_, _, _, rfl⟩
      by_cases e : k = i
      · subst e; rw [hli] at hd'; cases hd'; exact z
      · exact hk k d' (by omega) hd'
    · refine iteTb (by simp [z]) ?_
      have := q H4 (g03.trans g4)
      rw [MM.ldB_f fun h => z (h i d hli)] at this
      exact this
  rintro σ H2 ⟨g2, hk, o4, o5, rfl⟩
  rw [List.length_map, nos.len] at hk
  have := q H2 (g1.trans g2)
  rw [MM.ldB_t fun k d hd => hk k d (List.getElem?_eq_some_iff.mp hd).1 hd] at this
  exact this
def spIsShape : Sp := fun vs H Q _ => ∃ (wa sa ca la : Addr) (o : Nat) (ts : MM.Ties) (os : MM.Ords) (cs ls : List Int), vs = [.ref wa, vn o, .ref sa] ∧ WebAt H wa os.length ts os ∧ MM.Good ts os ∧ ts.length ≤ 40 ∧ os.length ≤ 40 ∧ H sa = some (.tup [.ref ca, .ref la]) ∧ H ca = some (.lst (cs.map V.int)) ∧ H la = some (.lst (ls.map V.int)) ∧ ∀ H', Same H H' → Q (.bl (MM.shB ts os o cs ls)) H'
theorem ok_isshape (T : Txt K mg t) : FnOk P w K mg base CX0 7 t.a_is_shape t.d_is_shape ["web", "outer", "shape"] spIsShape := by
  have G_places_close := ok_places (P := P) (w := w) (base := base) T
  have G_lands_close := ok_landsclose (P := P) (w := w) (base := base) T
  refine T.F_is_shape.ok sc_is_shape (fun vs H Q E h => ?_) (fun cdv A outer s H vs Q E hr h => ?_)
  · obtain ⟨wa, sa, ca, la, o, ts, os, cs, ls, rfl, _⟩ := h; rfl
  obtain ⟨wa, sa, ca, la, o, ts, os, cs, ls, rfl, hWeb, g, h40, o40, hsa, hc, hl, q⟩ := h
  have nd := sc_is_shape.nd
  refine ⟨_, (pss_cons (ps_set (i := 3) nd rfl (Or.inl rfl) (pe_ix ix_tup (pv 2) pe_int (fun _ _ => rfl)))
    (pss_cons (ps_set (i := 4) nd rfl (Or.inl rfl) (pe_ix ix_tup (pv 2) pe_int (fun _ _ => rfl)))
    (pss_cons (ps_set (i := 5) nd rfl (Or.inl rfl) (pe_op op_mul pe_int (pe_callB call_len_seq rfl T.z_len PySem.boot_len (pa_cons (pe_ix ix_tup (pv 0) pe_int (fun _ _ => rfl)) pa_nil))))
    (pss_cons (ps_if (PW.pt (pw_or (pt_cmpR op_ne (pe_callB call_len_seq rfl T.z_len PySem.boot_len (pa_cons (pv 3) pa_nil)) (pv 5) (nomark _)) (pw_or1 (pt_cmpR op_ne (pe_callB call_len_seq rfl T.z_len PySem.boot_len (pa_cons (pv 4) pa_nil)) (pv 5) (nomark _))))) (pss_one (ps_ret pe_bl)) pss_nil)
    (pss_cons (ps_if (PW.pt (pw_or (pt_cmpR op_lt (pe_callB (call_minL rfl) rfl T.z_min boot_min (pa_cons (pv 3) pa_nil)) pe_int (nomark _)) (pw_or (pt_cmpR op_gt (pe_callB (call_maxL rfl) rfl T.z_max boot_max (pa_cons (pv 3) pa_nil)) (pe_glob (v := .int 4) rfl T.g_QUARTERS_ROUND ⟨_, rfl⟩) (nomark _)) (pw_or1 (pt_cmpR op_lt (pe_callB (call_minL rfl) rfl T.z_min boot_min (pa_cons (pv 4) pa_nil)) pe_int (nomark _)))))) (pss_one (ps_ret pe_bl)) pss_nil)
    (pss_one (ps_ret (pe_and (pe_call G_places_close (hr.mono (by decide)) rfl T.m_places_close T.k_places_close T.b_places_close .nil pass0 (pa_cons (pv 0) (pa_cons (pv 3) pa_nil))) (pe_one (pe_call G_lands_close (hr.mono (by decide)) rfl T.m_lands_close T.k_lands_close T.b_lands_close .nil pass0 (pa_cons (pv 0) (pa_cons (pv 1) (pa_cons (pv 3) (pa_cons (pv 4) pa_nil)))))))))))))), ?_⟩
  obtain ⟨tA, oA, hw, hts, hos⟩ := id hWeb
  obtain ⟨trv, tv1, tv2⟩ : ∃ trv : List V, H tA = some (.lst trv) ∧ trv.length = ts.length := by
    obtain ⟨tr, q1, q2, _⟩ := hts
    exact ⟨_, q1, by rw [List.length_map]; exact q2⟩
  have h1 := g.one
  have no : ¬ MM.IsShp ts os o cs ls → Q (.bl false) H := fun h => by
    have := q H (Same.refl _)
    rw [MM.shB_f h] at this
    exact this
  refine ⟨_, rfl, sa, _, _, _, rfl, rfl, SqT.of hsa, rfl, ?_⟩
  refine ⟨_, rfl, sa, _, _, _, rfl, rfl, SqT.of hsa, rfl, ?_⟩
  refine ⟨_, rfl, wa, _, _, _, rfl, rfl, SqT.of hw, rfl, tA, _, rfl, .inl (SqL.of tv1), _, _, rfl, rfl, .inl ⟨by decide, by decide⟩, ?_⟩
  have eM : (2 : Int) * ((trv.length : Nat) : Int) = ((2 * ts.length : Nat) : Int) := by omega
  show gName 5 (V.int (2 * ((trv.length : Nat) : Int))) _ _ _
  rw [eM]
  refine ⟨_, rfl, ca, _, rfl, .inl (SqL.of hc), _, rfl, rfl, _, rfl, ?_⟩
  rw [List.length_map]
  by_cases z1 : cs.length = 2 * ts.length
  · refine iteFb (by rw [z1]; simp) ?_
    refine ⟨_, rfl, la, _, rfl, .inl (SqL.of hl), _, rfl, rfl, _, rfl, ?_⟩
    rw [List.length_map]
    by_cases z2 : ls.length = 2 * ts.length
    · refine iteFb (by rw [z2]; simp) ?_
      refine ⟨_, rfl, ca, cs, rfl, SqL.of hc, by omega, fun m hm hmin => ?_⟩
      refine ⟨_, _, rfl, rfl, _, rfl, ?_⟩
      by_cases y1 : m < 1
      · exact iteTb (decide_eq_true y1) (iteT (no fun h => by have := (h.2.2.1 m hm).1; omega))
      refine iteFb (decide_eq_false y1) ?_
      refine ⟨_, rfl, ca, cs, rfl, SqL.of hc, by omega, fun m2 hm2 hmax => ?_⟩
      refine ⟨_, _, rfl, rfl, _, rfl, ?_⟩
      by_cases y2 : 4 < m2
      · exact iteTb (decide_eq_true y2) (iteT (no fun h => by have := (h.2.2.1 m2 hm2).2; omega))
      refine iteFb (decide_eq_false y2) ?_
      refine ⟨_, rfl, la, ls, rfl, SqL.of hl, by omega, fun m3 hm3 hmin3 => ?_⟩
      refine ⟨_, _, rfl, rfl, _, rfl, ?_⟩
      by_cases y3 : m3 < 0
      · exact iteTb (decide_eq_true y3) (no fun h => by have := h.2.2.2.1 m3 hm3; omega)
      refine iteFb (decide_eq_false y3) ?_
      have pre : MM.shB ts os o cs ls = (MM.plB os cs && MM.ldB ts os o cs ls) := by
        by_cases a : MM.IsPl os cs
        · by_cases b : MM.IsLd ts os o cs ls
          · rw [MM.plB_t a, MM.ldB_t b, MM.shB_t ⟨z1, z2, fun x hx => ⟨by have := hmin x hx; omega, by have := hmax x hx; omega⟩, fun x hx => by have := hmin3 x hx; omega, a, b⟩]; rfl
          · rw [MM.ldB_f b, MM.shB_f fun h => b h.2.2.2.2.2, Bool.and_false]
        · rw [MM.plB_f a, MM.shB_f fun h => a h.2.2.2.2.1]; rfl
      refine ⟨_, rfl, _, rfl, wa, ca, ts, os, cs, rfl, hWeb, g, h40, o40, hc, z1, fun H1 g1 => ⟨_, rfl, ?_⟩⟩
      rw [pre] at q
      cases hp : MM.plB os cs with
      | false =>
        rw [hp, Bool.false_and] at q
        exact iteF (q H1 g1)
      | true =>
        rw [hp, Bool.true_and] at q
        exact iteT ⟨_, rfl, _, rfl, _, rfl, _, rfl, wa, ca, la, _, o, ts, os, cs, ls, rfl, g1.web hWeb, g, h40, g1 _ _ hc, g1 _ _ hl, z1, z2, fun H2 g2 => q H2 (g1.trans g2)⟩
    · refine iteTb (by simp; omega) (no fun h => z2 h.2.1)
  · exact iteTb (by simp; omega) (iteT (no fun h => z1 h.1))
end K05

namespace L2
open PySem PyProof.Rows
theorem take_filterI (p : Int → Bool) (l : List Int) {i : Nat} (h : i < l.length) : (l.take (i + 1)).filter p = (l.take i).filter p ++ (if p (at0 l i) = true then [at0 l i] else []) := by
  rw [List.take_succ_eq_append_getElem h, List.filter_append]
  have e : l[i] = at0 l i := by unfold at0; simp [List.getD, h]
  rw [e, List.filter_cons, List.filter_nil]
end L2
namespace K05
open PySem L2 PyProof.Rows
variable {P : Program} {w : World} {K : PySem.W.Frag} {mg : Str → Option Value} {base : Heap} {t : Adr}
theorem ok_lisshape (T : Txt K mg t) : FnOk P w K mg base CX0 4 t.a_l_is_shape t.d_l_is_shape ["_law_web", "_law_outer", "_law_shape"] spIsShape := by
  have G_l_other := ok_lother (P := P) (w := w) (base := base) T
  have G_l_lands := ok_llands (P := P) (w := w) (base := base) T
  have G_l_sum := ok_lsum (P := P) (w := w) (base := base) T
  refine T.F_l_is_shape.ok sc_l_is_shape (fun vs H Q E h => ?_) (fun cdv A outer s H vs Q E hr h => ?_)
  · obtain ⟨wa, sa, ca, la, o, ts, os, cs, ls, rfl, _⟩ := h; rfl
  obtain ⟨wa, sa, ca, la, o, ts, os, cs, ls, rfl, hWeb, g, h40, o40, hsa, hc, hl, q⟩ := h
  have nd := sc_l_is_shape.nd
  have nd_l_end_l_corners : (["_law_end", "_law_corners"] : List Str).Nodup := by decide
  have nd_l_corner : (["_law_corner"] : List Str).Nodup := by decide
  refine ⟨_, (pss_cons (ps_asg (pv 2) (pg_tup rfl (pgs_cons (pg_name (i := 3) nd rfl (Or.inr rfl)) (pgs_cons (pg_name (i := 4) nd rfl (Or.inl rfl)) pgs_nil))))
    (pss_cons (ps_asg (pv 0) (pg_tup rfl (pgs_cons (pg_name (i := 5) nd rfl (Or.inl rfl)) (pgs_cons (pg_name (i := 6) nd rfl (Or.inl rfl)) (pgs_cons (pg_name (i := 7) nd rfl (Or.inl rfl)) pgs_nil)))))
    (pss_cons (ps_if (PW.pt (pw_or (pt_cmpR op_ne (pe_callB call_len_seq rfl T.z_len PySem.boot_len (pa_cons (pv 3) pa_nil)) (pe_op op_mul pe_int (pe_callB call_len_seq rfl T.z_len PySem.boot_len (pa_cons (pv 6) pa_nil))) (nomark _)) (pw_or1 (pt_cmpR op_ne (pe_callB call_len_seq rfl T.z_len PySem.boot_len (pa_cons (pv 4) pa_nil)) (pe_op op_mul pe_int (pe_callB call_len_seq rfl T.z_len PySem.boot_len (pa_cons (pv 6) pa_nil))) (nomark _))))) (pss_one (ps_ret pe_bl)) pss_nil)
    (pss_cons (ps_if (PW.pt (pw_or (pt_cmpR (op_neD hr.units) (pe_comp (N' := ["_law_corner"]) (js := [none]) rfl (pi_list (pv 3)) (fun _ _ _ _ _ => (pg_name (i := 0) nd_l_corner rfl (Or.inl rfl))) (fun _ _ _ _ _ => (pf_one (PW.pt (pw_or (pt_cmpR op_lt (pv 0) pe_int (nomark _)) (pw_or1 (pt_cmpR op_gt (pv 0) pe_int (nomark _))))))) (fun _ _ _ _ _ => (pv 0))) (pe_lst pa_nil) (nomark _)) (pw_or1 (pt_cmpR op_lt (pe_callB (call_minL rfl) rfl T.z_min boot_min (pa_cons (pv 4) pa_nil)) pe_int (nomark _))))) (pss_one (ps_ret pe_bl)) pss_nil)
    (pss_cons (ps_for PassesOwn.never rfl (pi_range1 rfl T.z_range (pa_cons (pv 5) pa_nil)) (pg_name (i := 8) nd rfl (Or.inl rfl)) (pss_one (ps_if (pt_cmpR op_ne (pe_callB (call_sumI rfl) rfl T.z_sum boot_sum (pa_cons (pe_comp (N' := ["_law_end", "_law_corners"]) (js := [none, some 3]) rfl (pi_list (pe_ix ix_list (pv 7) (pv 8) (fun _ _ => rfl))) (fun _ _ _ _ _ => (pg_name (i := 0) nd_l_end_l_corners rfl (Or.inl rfl))) (fun _ _ _ _ _ => pf_nil) (fun _ _ _ _ _ => (pe_ix (kix_list (K := K) rfl) (pv 1) (pe_call G_l_other (hr.mono (by decide)) rfl T.m_l_other T.k_l_other T.b_l_other .nil pass0 (pa_cons (pv 0) pa_nil)) (fun _ _ => rfl)))) pa_nil)) pe_int (nomark _)) (pss_one (ps_ret pe_bl)) pss_nil)))
    (pss_cons (ps_for PassesOwn.never rfl (pi_enum rfl T.z_enumerate (pa_cons (pe_call G_l_lands (hr.mono (by decide)) rfl T.m_l_lands T.k_l_lands T.b_l_lands .nil pass0 (pa_cons (pv 6) (pa_cons (pv 7) pa_nil))) pa_nil)) (pg_tup rfl (pgs_cons (pg_name (i := 9) nd rfl (Or.inl rfl)) (pgs_cons (pg_name (i := 10) nd rfl (Or.inl rfl)) pgs_nil))) (pss_one (ps_if (pt_cmpR op_ne (pe_call G_l_sum (hr.mono (by decide)) rfl T.m_l_sum T.k_l_sum T.b_l_sum .nil pass0 (pa_cons (pv 10) (pa_cons (pv 3) (pa_cons (pv 4) pa_nil)))) (pe_op op_sub pe_int (pe_op op_mul pe_int (pe_callTy call_int1 rfl T.z_int boot_int (pa_cons (pe_cmpR op_eq (pv 9) (pv 1) (nomark _)) pa_nil)))) (nomark _)) (pss_one (ps_ret pe_bl)) pss_nil)))
    (pss_one (ps_ret pe_bl)))))))), ?_⟩
  obtain ⟨tA, oA, hw, hts, hos⟩ := id hWeb
  obtain ⟨trv, tv1, tv2⟩ : ∃ trv : List V, H tA = some (.lst trv) ∧ trv.length = ts.length := by
    obtain ⟨tr, q1, q2, _⟩ := hts
    exact ⟨_, q1, by rw [List.length_map]; exact q2⟩
  have h1 := g.one
  have no : ∀ {H' : Hp}, Same H H' → ¬ MM.IsShp ts os o cs ls → Q (.bl false) H' := fun gg h => by
    have := q _ gg
    rw [MM.shB_f h] at this
    exact this
  refine ⟨_, rfl, sa, _, rfl, SqT.of hsa, rfl, _, _, rfl, _, _, rfl, rfl, ?_⟩
  refine ⟨_, rfl, wa, _, rfl, SqT.of hw, rfl, _, _, rfl, _, _, rfl, _, _, rfl, rfl, ?_⟩
  refine ⟨_, rfl, ca, _, rfl, .inl (SqL.of hc), _, rfl, tA, _, rfl, .inl (SqL.of tv1), _, _, rfl, rfl, .inl ⟨by decide, by decide⟩, rfl, _, rfl, ?_⟩
  rw [List.length_map]
  by_cases z1 : cs.length = 2 * ts.length
  case neg => exact iteTb (by simp; omega) (iteT (no (Same.refl _) fun h => z1 h.1))
  refine iteFb (by rw [z1, tv2]; simp) ?_
  refine ⟨_, rfl, la, _, rfl, .inl (SqL.of hl), _, rfl, tA, _, rfl, .inl (SqL.of tv1), _, _, rfl, rfl, .inl ⟨by decide, by decide⟩, rfl, _, rfl, ?_⟩
  rw [List.length_map]
  by_cases z2 : ls.length = 2 * ts.length
  case neg => exact iteTb (by simp; omega) (no (Same.refl _) fun h => z2 h.2.1)
  refine iteFb (by rw [z2, tv2]; simp) ?_
  -- corners that are none
  generalize hbad : (fun x : Int => decide (x < 1) || decide (4 < x)) = bad
  refine ⟨_, rfl, ca, rfl, ⟨_, SqL.of hc⟩, fun D hD => ?_⟩
  refine comp_by cs.length (fun i ys H' => ys = ((cs.take i).filter bad).map V.int ∧ H' = upd H D (.lst ys)) ⟨by simp, rfl⟩ ?_ ?_
  · rintro i ys H' hi ⟨rfl, rfl⟩
    have gD := same_new hD (.lst (((cs.take i).filter bad).map V.int))
    refine ⟨⟨_, _, SqL.of (gD _ _ hc), at_get hi⟩, ?_⟩
    rintro x' H'' ⟨rfl, hx'⟩
    have e6 := hx' _ (SqL.of (gD _ _ hc))
    rw [at_get hi] at e6
    cases e6
    have hlen : (((cs.take i).filter bad).map V.int).length ≤ 80 := by
      rw [List.length_map]
      have a1 := List.length_filter_le bad (cs.take i)
      have a2 : (cs.take i).length ≤ cs.length := List.length_take_le' _ _
      omega
    have tk := take_filterI bad cs hi
    have hb : bad (at0 cs i) = (decide (at0 cs i < 1) || decide (4 < at0 cs i)) := by rw [← hbad]
    refine ⟨(Fills.refl _).set _ rfl, _, rfl, _, _, rfl, rfl, _, rfl, ?_⟩
    have yes : bad (at0 cs i) = true → (fun y H4 => H4 D = some (.lst (((cs.take i).filter bad).map V.int)) ∧ (((cs.take i).filter bad).map V.int).length < sizeLine ∧ (((cs.take i).filter bad).map V.int ++ [y] = ((cs.take (i + 1)).filter bad).map V.int ∧ upd H4 D (.lst (((cs.take i).filter bad).map V.int ++ [y])) = upd H D (.lst (((cs.take i).filter bad).map V.int ++ [y])))) (V.int (at0 cs i)) (upd H D (.lst (((cs.take i).filter bad).map V.int))) := fun h => by
      refine ⟨upd_same, Nat.lt_of_le_of_lt hlen (by decide), ?_, by rw [upd_upd]⟩
      rw [tk, if_pos h, List.map_append]; rfl
    by_cases y1 : at0 cs i < 1
    · refine iteTb (decide_eq_true y1) (iteT ⟨_, rfl, yes (by rw [hb, decide_eq_true y1]; rfl)⟩)
    refine iteFb (decide_eq_false y1) ?_
    refine ⟨_, rfl, _, _, rfl, rfl, _, rfl, ?_⟩
    by_cases y2 : 4 < at0 cs i
    · exact iteTb (decide_eq_true y2) ⟨_, rfl, yes (by rw [hb, decide_eq_true y2, Bool.or_true])⟩
    refine iteFb (decide_eq_false y2) ?_
    rw [tk, if_neg (by rw [hb, decide_eq_false y1, decide_eq_false y2]; exact Bool.false_ne_true), List.append_nil]
    exact ⟨rfl, rfl⟩
  rintro ys H2 ⟨rfl, rfl⟩
  have gD := same_new hD (.lst (((cs.take cs.length).filter bad).map V.int))
  refine ⟨⟨_, SqL.of (gD _ _ hc), by rw [List.length_map]; exact Nat.le_refl _⟩, ?_⟩
  rw [List.take_length] at gD ⊢
  refine ⟨(by show 0 ≤ sizeLine; decide), fun p hp => ?_⟩
  have gp := same_new hp (.lst [])
  refine ⟨_, _, .lst (SqL.of (gp _ _ upd_same)) (Bds.ints _), .lst (SqL.of upd_same) (Bds.ints []), shaped_ints _, shaped_ints [], _, rfl, ?_⟩
  have eqb : PyData.eqv (.list ((cs.filter bad).map PyData.int)) (.list (([] : List Int).map PyData.int)) = decide (cs.filter bad = []) := eqv_intsL _ _
  rw [eqb]
  have g2 := gD.trans gp
  generalize upd (upd H D (.lst ((cs.filter bad).map V.int))) p (.lst []) = H2 at g2
  by_cases y1 : cs.filter bad = []
  case neg =>
    refine iteTb (by simp [y1]) (iteT (no g2 fun h => y1 ?_))
    rw [List.filter_eq_nil_iff]
    intro x hx
    have := h.2.2.1 x hx
    rw [← hbad]
    simp
    omega
  refine iteFb (by simp [y1]) ?_
  have hcs : ∀ x ∈ cs, 1 ≤ x ∧ x ≤ 4 := fun x hx => by
    have := List.filter_eq_nil_iff.mp y1 x hx
    rw [← hbad] at this
    simp at this
    omega
  refine ⟨_, rfl, la, ls, rfl, SqL.of (g2 _ _ hl), by omega, fun m3 hm3 hmin3 => ?_⟩
  refine ⟨_, _, rfl, rfl, _, rfl, ?_⟩
  by_cases y3 : m3 < 0
  · exact iteTb (decide_eq_true y3) (no g2 fun h => by have := h.2.2.2.1 m3 hm3; omega)
  refine iteFb (decide_eq_false y3) ?_
  have hls : ∀ x ∈ ls, 0 ≤ x := fun x hx => by have := hmin3 x hx; omega
  clear gD gp eqb
  -- the places
  refine ⟨_, rfl, _, rfl, by omega, by omega, for_range (lo := 0) (n := ((os.length : Nat) : Int).toNat)
    (fun i σ H' => Same H H' ∧ (∀ p, p < i → MM.su (MM.row os p) (fun e => at0 cs (MM.oth e)) = 4) ∧
      ∃ o8 : Option V, σ = [some (.ref wa), some (vn o), some (.ref sa), some (.ref ca), some (.ref la), some (vn os.length), some (.ref tA), some (.ref oA), o8, none, none])
    ⟨g2, fun p hp => absurd hp (by omega), _, rfl⟩ ?_ ?_⟩
  · rintro i σ H3 hi ⟨g3, hk, o8, rfl⟩
    have hi' : i < os.length := by omega
    show gName 8 (V.int (0 + (i : Int))) _ _ _
    rw [Int.zero_add]
    obtain ⟨xs, y, i1, i2, i3, i4⟩ := (g3.os hos).item hi'
    have hb4 := g.g.four i
    refine ⟨_, rfl, _, rfl, oA, _, _, _, rfl, rfl, SqL.of i1, i3, y, rfl, ⟨_, SqL.of i4⟩, fun D hD => ?_⟩
    refine comp_pure (MM.row os i).length (fun j => .int (at0 cs (MM.oth ((MM.row os i).getD j 0)))) hD (by omega) (fun j H' hj g' => ⟨_, _, SqL.of (g' _ _ i4), vns_get hj⟩) (fun H' g' => ⟨_, SqL.of (g' _ _ i4), by rw [List.length_map]; exact Nat.le_refl _⟩) ?_ ?_
    · rintro j H' x H'' k hj g' ⟨rfl, hx⟩ hk
      have ex := hx _ (SqL.of (g' _ _ i4))
      rw [vns_get hj] at ex
      cases ex
      have hE := MM.oth_lt (g.g.ends i _ (getD_mem hj)).1
      exact ⟨(Fills.refl _).set _ rfl, _, rfl, _, rfl, (MM.row os i).getD j 0, rfl, ca, _, _, _, rfl, rfl, SqL.of (g' _ _ (g3 _ _ hc)), atI_get0 (by omega) rfl, hk _ (Same.refl _)⟩
    intro H4 g4 eD
    rw [rng_map (MM.row os i) (fun e => V.int (at0 cs (MM.oth e))), show (MM.row os i).map (fun e => V.int (at0 cs (MM.oth e))) = ((MM.row os i).map fun e => at0 cs (MM.oth e)).map V.int by rw [List.map_map]; rfl] at eD
    refine ⟨D, _, rfl, SqL.of eD, rfl, _, rfl, ?_⟩
    have es : ((MM.row os i).map fun e => at0 cs (MM.oth e)).sum = MM.su (MM.row os i) (fun e => at0 cs (MM.oth e)) := rfl
    rw [es]
    by_cases z : MM.su (MM.row os i) (fun e => at0 cs (MM.oth e)) = 4
    · refine iteFb (by rw [z]; simp) ?_
      refine ⟨g3.trans g4, fun p hp => ?_, _, rfl⟩
      by_cases e : p = i
      · subst e; exact z
      · exact hk p (by omega)
    · exact iteTb (by simp [z]) (no (g3.trans g4) fun h => z (h.2.2.2.2.1 i hi'))
  rintro σ H3 ⟨g3, hk, o8, rfl⟩
  rw [Int.toNat_natCast] at hk
  -- the lands
  refine ⟨_, rfl, _, rfl, tA, oA, ts, os, rfl, g3.ts hts, g3.os hos, g, by omega, fun r rr H4 g4 nos => ?_⟩
  refine ⟨r, rfl, ⟨_, SqL.of nos.at_⟩, for_enum (xs := rr.map V.ref)
    (fun i σ H' => Same H4 H' ∧ (∀ (k : Nat) (d : List Nat), k < i → (MM.lls ts os)[k]? = some d → MM.su d (MM.trm (at0 cs) (at0 ls)) = if k = o then -4 else 4) ∧
      ∃ o9 o10 : Option V, σ = [some (.ref wa), some (vn o), some (.ref sa), some (.ref ca), some (.ref la), some (vn os.length), some (.ref tA), some (.ref oA), o8, o9, o10])
    ⟨Same.refl _, fun k d hk => absurd hk (by omega), _, _, rfl⟩ (fun i σ H' _ h => SqL.of (h.1 _ _ nos.at_)) ?_ ?_⟩
  · rintro i x σ H5 Tp hx ⟨g5, hk5, o9, o10, rfl⟩ hTp
    obtain ⟨y, hy, rfl⟩ := refs_at hx
    have hil : i < (MM.lls ts os).length := by rw [← nos.len]; exact (List.getElem?_eq_some_iff.mp hy).1
    have hli := List.getElem?_eq_getElem hil
    obtain ⟨y', hy', ey⟩ := nos.row i _ hli
    rw [hy] at hy'; cases hy'
    generalize (MM.lls ts os)[i] = d at hli ey
    have hdd := MM.lls_land g hli
    have hd80 : d.length ≤ 1000 := by have := MM.nodup_bound _ _ hdd.1 hdd.2.1; omega
    have g6 := same_new hTp (.tup [vn i, .ref y])
    have g56 := g5.trans g6
    have g06 := (g3.trans g4).trans g56
    refine ⟨Tp, _, rfl, SqT.of upd_same, rfl, _, _, rfl, _, _, rfl, rfl, ?_⟩
    generalize upd H5 Tp (.tup [vn i, .ref y]) = H6 at g56 g06
    refine ⟨_, rfl, _, rfl, _, rfl, y, ca, la, d, cs, ls, rfl, g56 _ _ ey, g06 _ _ hc, g06 _ _ hl, fun x hx => ⟨by have := hdd.2.1 x hx; omega, by have := hdd.2.1 x hx; omega, by have := MM.oth_lt (hdd.2.1 x hx); omega⟩, hd80, fun H7 g7 => ?_⟩
    refine ⟨_, rfl, _, rfl, rfl, .inr ⟨_, rfl, _, _, rfl, rfl, .inl ⟨by decide, by decide⟩, _, _, rfl, rfl, rfl, _, rfl, ?_⟩⟩
    have ev : (4 : Int) - 8 * (if decide (V.int ((i : Nat) : Int) = V.int ((o : Nat) : Int)) = true then 1 else 0) = if i = o then -4 else 4 := by
      by_cases z : i = o
      · subst z; simp
      · have z' : ¬ V.int ((i : Nat) : Int) = V.int ((o : Nat) : Int) := fun h => z (by have := V.int.inj h; omega)
        rw [decide_eq_false z', if_neg Bool.false_ne_true, if_neg z]; rfl
    show if (!decide (V.int (MM.su d (MM.trm (at0 cs) (at0 ls))) = V.int ((4 : Int) - 8 * (if decide (V.int ((i : Nat) : Int) = V.int ((o : Nat) : Int)) = true then 1 else 0)))) = true then _ else _
    rw [ev]
    by_cases z : MM.su d (MM.trm (at0 cs) (at0 ls)) = if i = o then -4 else 4
    · refine iteFb (by rw [z]; simp) ?_
      refine ⟨g56.trans g7, fun k d' hk' hd' => ?_, _, _, rfl⟩
      by_cases e : k = i
      · subst e; rw [hli] at hd'; cases hd'; exact z
      · exact hk5 k d' (by omega) hd'
    · exact iteTb (by simp [z]) (no (g06.trans g7) fun h => z (h.2.2.2.2.2 i d hli))
  rintro σ H5 ⟨g5, hk5, o9, o10, rfl⟩
  rw [List.length_map, nos.len] at hk5
  have := q H5 ((g3.trans g4).trans g5)
  rw [MM.shB_t ⟨z1, z2, hcs, hls, hk, fun k d hd => hk5 k d (List.getElem?_eq_some_iff.mp hd).1 hd⟩] at this
  exact this
end K05

namespace L2
theorem map_erase {α β : Type} (f : α → β) : ∀ (l : List α) (k : Nat), (l.map f).eraseIdx k = (l.eraseIdx k).map f
  | [], _ => rfl
  | _ :: _, 0 => rfl
  | x :: l, k + 1 => by
    show f x :: (l.map f).eraseIdx k = f x :: (l.eraseIdx k).map f
    rw [map_erase f l k]
end L2
namespace K05
open PySem L2 PyProof.Rows
variable {P : Program} {w : World} {K : PySem.W.Frag} {mg : Str → Option Value} {base : Heap} {t : Adr}
def BentI (sa ra rA qA aA bA : Addr) (at_ ot N : Nat) (pick way : Int) (H : Hp) (k : Int) (σ : L2.St) (H' : Hp) : Prop := σ = [some (.ref sa), some (.int pick), some (.ref ra), some (.ref rA), some (vn at_), some (vn ot), some (.int way)] ∧ Same H H' ∧ ∃ xs ys : List Int, H' rA = some (.lst (xs.map V.int)) ∧ H' qA = some (.lst (ys.map V.int)) ∧ H' ra = some (.lst [.ref aA, .ref bA]) ∧ (k ≤ way → xs.length = N)
def spBent : Sp := fun vs H Q _ => ∃ (sa ca la : Addr) (cs ls : List Int) (N : Nat) (pick : Int), vs = [.ref sa, .int pick] ∧ H sa = some (.tup [.ref ca, .ref la]) ∧ H ca = some (.lst (cs.map V.int)) ∧ H la = some (.lst (ls.map V.int)) ∧ cs.length = N ∧ ls.length = N ∧ 0 < N ∧ N ≤ 80 ∧ 0 ≤ pick ∧
  ∀ (r xA yA : Addr) (xs ys : List Int) (H' : Hp), Same H H' → H' r = some (.tup [.ref xA, .ref yA]) → H' xA = some (.lst (xs.map V.int)) → H' yA = some (.lst (ys.map V.int)) → Q (.ref r) H'
theorem ok_lbent (T : Txt K mg t) : FnOk P w K mg base CX0 1 t.a_l_bent t.d_l_bent ["_law_shape", "_law_pick"] spBent := by
  refine T.F_l_bent.ok sc_l_bent (fun vs H Q E h => ?_) (fun cdv A outer s H vs Q E hr h => ?_)
  · obtain ⟨sa, ca, la, cs, ls, N, pick, rfl, _⟩ := h; rfl
  obtain ⟨sa, ca, la, cs, ls, N, pick, rfl, hsa, hc, hl, lc, ll, hN, hN80, hp0, q⟩ := h
  have nd := sc_l_bent.nd
  have p30 : CPow 10 30 := ⟨by decide, by decide, by decide⟩
  refine ⟨_, (pss_cons (ps_set (i := 2) nd rfl (Or.inl rfl) (pe_lst (pa_cons (pe_callTy call_list_of rfl T.z_list boot_list (pa_cons (pe_ix ix_tup (pv 0) pe_int (fun _ _ => rfl)) pa_nil)) (pa_cons (pe_callTy call_list_of rfl T.z_list boot_list (pa_cons (pe_ix ix_tup (pv 0) pe_int (fun _ _ => rfl)) pa_nil)) pa_nil))))
    (pss_cons (ps_set (i := 3) nd rfl (Or.inl rfl) (pe_ix ix_list (pv 2) (pe_op op_mod (pv 1) pe_int) (fun _ _ => rfl)))
    (pss_cons (ps_set (i := 4) nd rfl (Or.inl rfl) (pe_op op_mod (pe_op op_fdiv (pv 1) pe_int) (pe_callB call_len_seq rfl T.z_len PySem.boot_len (pa_cons (pv 3) pa_nil))))
    (pss_cons (ps_set (i := 5) nd rfl (Or.inl rfl) (pe_op op_mod (pe_op op_fdiv (pv 1) pe_int) (pe_callB call_len_seq rfl T.z_len PySem.boot_len (pa_cons (pv 3) pa_nil))))
    (pss_cons (ps_set (i := 6) nd rfl (Or.inl rfl) (pe_op op_mod (pe_op op_fdiv (pv 1) pe_int) pe_int))
    (pss_cons (ps_if (pt_cmpR op_eq (pv 6) pe_int (nomark _)) (pss_one (ps_asg (pe_op op_add (pe_ix ix_list (pv 3) (pv 4) (fun _ _ => rfl)) pe_int) (pg_sub (pv 3) (pv 4) set_list))) pss_nil)
    (pss_cons (ps_if (pt_cmpR op_eq (pv 6) pe_int (nomark _)) (pss_one (ps_asg (pe_op op_sub (pe_ix ix_list (pv 3) (pv 4) (fun _ _ => rfl)) pe_int) (pg_sub (pv 3) (pv 4) set_list))) pss_nil)
    (pss_cons (ps_if (pt_cmpR op_eq (pv 6) pe_int (nomark _)) (pss_one (ps_asg (pe_ix ix_list (pe_lst (pa_cons pe_int (pa_cons pe_int (pa_cons (pe_op op_sub pe_int pe_int) (pa_cons (pe_op op_pow pe_int pe_int) pa_nil))))) (pe_op op_mod (pe_op op_fdiv (pv 1) pe_int) pe_int) (fun _ _ => rfl)) (pg_sub (pv 3) (pv 4) set_list))) pss_nil)
    (pss_cons (ps_if (pt_cmpR op_eq (pv 6) pe_int (nomark _)) (pss_one (ps_asg (pe_tup (pa_cons (pe_ix ix_list (pv 3) (pv 5) (fun _ _ => rfl)) (pa_cons (pe_ix ix_list (pv 3) (pv 4) (fun _ _ => rfl)) pa_nil))) (pg_tup rfl (pgs_cons (pg_sub (pv 3) (pv 4) set_list) (pgs_cons (pg_sub (pv 3) (pv 5) set_list) pgs_nil))))) pss_nil)
    (pss_cons (ps_if (pt_cmpR op_eq (pv 6) pe_int (nomark _)) (pss_one (ps_expr (pe_bm PySem.F.plainAttrs_list PySem.F.slot_list_pop PySem.F.type_list_pop mt_popAt (pv 3) (pa_cons (pv 4) pa_nil)))) pss_nil)
    (pss_cons (ps_if (pt_cmpR op_eq (pv 6) pe_int (nomark _)) (pss_one (ps_expr (pe_bm PySem.F.plainAttrs_list PySem.F.slot_list_insert PySem.F.type_list_insert mt_insert (pv 3) (pa_cons (pv 4) (pa_cons (pe_ix ix_list (pv 3) (pv 5) (fun _ _ => rfl)) pa_nil))))) pss_nil)
    (pss_cons (ps_if (pt_cmpR op_eq (pv 6) pe_int (nomark _)) (pss_cons (ps_asg (pe_op op_add (pe_ix ix_list (pv 3) (pv 4) (fun _ _ => rfl)) pe_int) (pg_sub (pv 3) (pv 4) set_list))
    (pss_one (ps_asg (pe_op op_sub (pe_ix ix_list (pv 3) (pv 5) (fun _ _ => rfl)) pe_int) (pg_sub (pv 3) (pv 5) set_list)))) pss_nil)
    (pss_cons (ps_if (pt_cmpR op_eq (pv 6) pe_int (nomark _)) (pss_one (ps_expr (pe_bm0 PySem.F.plainAttrs_list PySem.F.slot_list_clear PySem.F.type_list_clear mt_clear (pv 3)))) pss_nil)
    (pss_one (ps_ret (pe_tup (pa_cons (pe_ix ix_list (pv 2) pe_int (fun _ _ => rfl)) (pa_cons (pe_ix ix_list (pv 2) pe_int (fun _ _ => rfl)) pa_nil)))))))))))))))))), ?_⟩
  refine ⟨_, rfl, sa, _, _, _, rfl, rfl, SqT.of hsa, rfl, ca, _, rfl, .inl (SqL.of hc), fun aA haA => ?_⟩
  have g1 := same_new haA (.lst (cs.map V.int))
  refine ⟨_, rfl, sa, _, _, _, rfl, rfl, SqT.of (g1 _ _ hsa), rfl, la, _, rfl, .inl (SqL.of (g1 _ _ hl)), fun bA hbA => ?_⟩
  have g2 := same_new hbA (.lst (ls.map V.int))
  refine ⟨(by show 2 ≤ sizeLine; decide), fun ra hra => ?_⟩
  have g3 := same_new hra (.lst [.ref aA, .ref bA])
  have nab : aA ≠ bA := ne_of_none upd_same hbA
  have eA := g3 _ _ (g2 _ _ (upd_same (H := H) (a := aA) (o := .lst (cs.map V.int))))
  have eB := g3 _ _ (upd_same (H := upd H aA (.lst (cs.map V.int))) (a := bA) (o := .lst (ls.map V.int)))
  have eR : (upd (upd (upd H aA (.lst (cs.map V.int))) bA (.lst (ls.map V.int))) ra (.lst [.ref aA, .ref bA])) ra = some (.lst [.ref aA, .ref bA]) := upd_same
  have nra1 : ra ≠ aA := (ne_of_none (g2 _ _ upd_same) hra).symm
  have nra2 : ra ≠ bA := (ne_of_none upd_same hra).symm
  have g03 := (g1.trans g2).trans g3
  have hbA0 := g1.free hbA
  generalize upd (upd (upd H aA (.lst (cs.map V.int))) bA (.lst (ls.map V.int))) ra (.lst [.ref aA, .ref bA]) = H3 at eA eB eR g03
  clear g1 g2 g3 hra hbA
  obtain ⟨rA, qA, sel, hix, xs0, ys0, eX, eY, lX, hrA, nrq, nra⟩ : ∃ (rA qA : Addr) (sel : (rA = aA ∧ qA = bA) ∨ (rA = bA ∧ qA = aA)) (hix : atI [V.ref aA, V.ref bA] (pick % 2) = some (.ref rA)) (xs0 ys0 : List Int), H3 rA = some (.lst (xs0.map V.int)) ∧ H3 qA = some (.lst (ys0.map V.int)) ∧ xs0.length = N ∧ H rA = none ∧ rA ≠ qA ∧ ra ≠ rA := by
    have h2 : pick % 2 = 0 ∨ pick % 2 = 1 := by omega
    rcases h2 with h2 | h2
    · exact ⟨aA, bA, .inl ⟨rfl, rfl⟩, by rw [h2]; rfl, cs, ls, eA, eB, lc, haA, nab, nra1⟩
    · exact ⟨bA, aA, .inr ⟨rfl, rfl⟩, by rw [h2]; rfl, ls, cs, eB, eA, ll, hbA0, Ne.symm nab, nra2⟩
  refine ⟨_, rfl, _, rfl, _, _, rfl, rfl, (by show (0 : Int) < 2; decide), ra, _, _, _, rfl, rfl, SqL.of eR, hix, ?_⟩
  have lXm : (xs0.map V.int).length = N := by rw [List.length_map]; exact lX
  refine ⟨_, rfl, _, _, rfl, rfl, ⟨by decide, by decide⟩, _, rfl, rA, _, rfl, .inl (SqL.of eX), _, _, rfl, rfl, (by show (0 : Int) < (((xs0.map V.int).length : Nat) : Int); omega), ?_⟩
  obtain ⟨at_, hat, eat⟩ := MM.mod_ix (pick / 2) (n := (xs0.map V.int).length) (by omega)
  show gName 4 (V.int (pick / 2 % (((xs0.map V.int).length : Nat) : Int))) _ _ _
  rw [eat]
  refine ⟨_, rfl, _, _, rfl, rfl, ⟨by decide, by decide⟩, _, rfl, rA, _, rfl, .inl (SqL.of eX), _, _, rfl, rfl, (by show (0 : Int) < (((xs0.map V.int).length : Nat) : Int); omega), ?_⟩
  obtain ⟨ot, hot, eot⟩ := MM.mod_ix (pick / 64) (n := (xs0.map V.int).length) (by omega)
  show gName 5 (V.int (pick / 64 % (((xs0.map V.int).length : Nat) : Int))) _ _ _
  rw [eot]
  refine ⟨_, rfl, _, _, rfl, rfl, ⟨by decide, by decide⟩, _, _, rfl, rfl, (by show (0 : Int) < 9; decide), ?_⟩
  show gName 6 (V.int (pick / 2048 % 9)) _ _ _
  have hw0 := Int.emod_nonneg (pick / 2048) (show (9 : Int) ≠ 0 by decide)
  have hw9 := Int.emod_lt_of_pos (pick / 2048) (show (0 : Int) < 9 by decide)
  generalize pick / 2048 % 9 = way at hw0 hw9 ⊢
  have hway : way = 0 ∨ way = 1 ∨ way = 2 ∨ way = 3 ∨ way = 4 ∨ way = 5 ∨ way = 6 ∨ way = 7 ∨ way = 8 := by omega
  have set1 : ∀ xs : List Int, Same H (upd H3 rA (.lst (xs.map V.int))) ∧ (upd H3 rA (.lst (xs.map V.int))) qA = some (.lst (ys0.map V.int)) ∧ (upd H3 rA (.lst (xs.map V.int))) ra = some (.lst [.ref aA, .ref bA]) := fun xs =>
    ⟨fun b u h => by rw [upd_ne (ne_of_none h hrA)]; exact g03 _ _ h, by rw [upd_ne (Ne.symm nrq)]; exact eY, by rw [upd_ne nra]; exact eR⟩
  have fin : ∀ (H' : Hp) (xs ys : List Int), Same H H' → H' rA = some (.lst (xs.map V.int)) → H' qA = some (.lst (ys.map V.int)) → H' ra = some (.lst [.ref aA, .ref bA]) → ∀ r, H' r = none → Q (.ref r) (upd H' r (.tup [.ref aA, .ref bA])) := fun H' xs ys gg e1 e2 e3 r hr1 => by
    have gr := same_new hr1 (.tup [.ref aA, .ref bA])
    rcases sel with ⟨rfl, rfl⟩ | ⟨rfl, rfl⟩
    · exact q r _ _ xs ys _ (gg.trans gr) upd_same (gr _ _ e1) (gr _ _ e2)
    · exact q r _ _ ys xs _ (gg.trans gr) upd_same (gr _ _ e2) (gr _ _ e1)
  obtain ⟨v4, hv⟩ : ∃ v : Int, atI [V.int 0, V.int 5, V.int (0 - 1), V.int (10 ^ 30)] (pick / 64 % 4) = some (.int v) := by
    obtain ⟨k, hk, ek⟩ := MM.mod_ix (pick / 64) (n := 4) (by decide)
    have ek' : pick / 64 % 4 = (k : Int) := ek
    rw [ek']
    have : k = 0 ∨ k = 1 ∨ k = 2 ∨ k = 3 := by omega
    rcases this with rfl | rfl | rfl | rfl
    · exact ⟨_, rfl⟩
    · exact ⟨_, rfl⟩
    · exact ⟨_, rfl⟩
    · exact ⟨_, rfl⟩
  rcases hway with rfl | rfl | rfl | rfl | rfl | rfl | rfl | rfl | rfl
  · refine ⟨_, rfl, rfl, _, rfl, iteTb rfl ?_⟩
    refine ⟨_, rfl, _, rfl, rA, _, _, _, rfl, rfl, SqL.of eX, atI_get0 (j := at_) (by omega) rfl, _, _, rfl, rfl, _, rfl, _, rfl, rA, _, _, at_, rfl, rfl, eX, ixN_ok (by rw [List.length_map]; omega) rfl, ?_⟩
    rw [← List.map_set]
    refine ⟨_, rfl, rfl, _, rfl, iteFb rfl ?_⟩
    refine ⟨_, rfl, rfl, _, rfl, iteFb rfl ?_⟩
    refine ⟨_, rfl, rfl, _, rfl, iteFb rfl ?_⟩
    refine ⟨_, rfl, rfl, _, rfl, iteFb rfl ?_⟩
    refine ⟨_, rfl, rfl, _, rfl, iteFb rfl ?_⟩
    refine ⟨_, rfl, rfl, _, rfl, iteFb rfl ?_⟩
    refine ⟨_, rfl, rfl, _, rfl, iteFb rfl ?_⟩
    obtain ⟨u1, u2, u3⟩ := set1 (xs0.set at_ (at0 xs0 at_ + 1))
    exact ⟨_, rfl, ra, _, _, _, rfl, rfl, SqL.of u3, rfl, _, rfl, ra, _, _, _, rfl, rfl, SqL.of u3, rfl, (by show 2 ≤ sizeLine; decide), fun r hr1 => fin _ _ _ u1 upd_same u2 u3 r hr1⟩
  · refine ⟨_, rfl, rfl, _, rfl, iteFb rfl ?_⟩
    refine ⟨_, rfl, rfl, _, rfl, iteTb rfl ?_⟩
    refine ⟨_, rfl, _, rfl, rA, _, _, _, rfl, rfl, SqL.of eX, atI_get0 (j := at_) (by omega) rfl, _, _, rfl, rfl, _, rfl, _, rfl, rA, _, _, at_, rfl, rfl, eX, ixN_ok (by rw [List.length_map]; omega) rfl, ?_⟩
    rw [← List.map_set]
    refine ⟨_, rfl, rfl, _, rfl, iteFb rfl ?_⟩
    refine ⟨_, rfl, rfl, _, rfl, iteFb rfl ?_⟩
    refine ⟨_, rfl, rfl, _, rfl, iteFb rfl ?_⟩
    refine ⟨_, rfl, rfl, _, rfl, iteFb rfl ?_⟩
    refine ⟨_, rfl, rfl, _, rfl, iteFb rfl ?_⟩
    refine ⟨_, rfl, rfl, _, rfl, iteFb rfl ?_⟩
    obtain ⟨u1, u2, u3⟩ := set1 (xs0.set at_ (at0 xs0 at_ - 1))
    exact ⟨_, rfl, ra, _, _, _, rfl, rfl, SqL.of u3, rfl, _, rfl, ra, _, _, _, rfl, rfl, SqL.of u3, rfl, (by show 2 ≤ sizeLine; decide), fun r hr1 => fin _ _ _ u1 upd_same u2 u3 r hr1⟩
  · refine ⟨_, rfl, rfl, _, rfl, iteFb rfl ?_⟩
    refine ⟨_, rfl, rfl, _, rfl, iteFb rfl ?_⟩
    refine ⟨_, rfl, rfl, _, rfl, iteTb rfl ?_⟩
    refine ⟨_, _, rfl, rfl, _, _, rfl, rfl, p30, (by show 4 ≤ sizeLine; decide), fun lp hlp => ?_⟩
    have glp := same_new hlp (.lst [V.int 0, V.int 5, V.int (0 - 1), V.int (10 ^ 30)])
    have f1 := glp _ _ eX
    have f2 := glp _ _ eY
    have f3 := glp _ _ eR
    refine ⟨_, rfl, _, _, rfl, rfl, ⟨by decide, by decide⟩, _, _, rfl, rfl, (by show (0 : Int) < 4; decide), lp, _, _, _, rfl, rfl, SqL.of upd_same, hv, _, rfl, _, rfl, rA, _, _, at_, rfl, rfl, f1, ixN_ok (by rw [List.length_map]; omega) rfl, ?_⟩
    rw [← List.map_set]
    have u1 : Same H (upd (upd H3 lp (.lst [V.int 0, V.int 5, V.int (0 - 1), V.int (10 ^ 30)])) rA (.lst ((xs0.set at_ v4).map V.int))) := fun b u h => by rw [upd_ne (ne_of_none h hrA)]; exact glp _ _ (g03 _ _ h)
    have u2 : (upd (upd H3 lp (.lst [V.int 0, V.int 5, V.int (0 - 1), V.int (10 ^ 30)])) rA (.lst ((xs0.set at_ v4).map V.int))) qA = some (.lst (ys0.map V.int)) := by rw [upd_ne (Ne.symm nrq)]; exact f2
    have u3 : (upd (upd H3 lp (.lst [V.int 0, V.int 5, V.int (0 - 1), V.int (10 ^ 30)])) rA (.lst ((xs0.set at_ v4).map V.int))) ra = some (.lst [.ref aA, .ref bA]) := by rw [upd_ne nra]; exact f3
    refine ⟨_, rfl, rfl, _, rfl, iteFb rfl ?_⟩
    refine ⟨_, rfl, rfl, _, rfl, iteFb rfl ?_⟩
    refine ⟨_, rfl, rfl, _, rfl, iteFb rfl ?_⟩
    refine ⟨_, rfl, rfl, _, rfl, iteFb rfl ?_⟩
    refine ⟨_, rfl, rfl, _, rfl, iteFb rfl ?_⟩
    exact ⟨_, rfl, ra, _, _, _, rfl, rfl, SqL.of u3, rfl, _, rfl, ra, _, _, _, rfl, rfl, SqL.of u3, rfl, (by show 2 ≤ sizeLine; decide), fun r hr1 => fin _ _ _ u1 upd_same u2 u3 r hr1⟩
  · refine ⟨_, rfl, rfl, _, rfl, iteFb rfl ?_⟩
    refine ⟨_, rfl, rfl, _, rfl, iteFb rfl ?_⟩
    refine ⟨_, rfl, rfl, _, rfl, iteFb rfl ?_⟩
    refine ⟨_, rfl, rfl, _, rfl, iteTb rfl ?_⟩
    refine ⟨_, rfl, _, rfl, rA, _, _, _, rfl, rfl, SqL.of eX, atI_get0 (j := ot) (by omega) rfl, _, rfl, _, rfl, rA, _, _, _, rfl, rfl, SqL.of eX, atI_get0 (j := at_) (by omega) rfl, (by show 2 ≤ sizeLine; decide), fun tp htp => ?_⟩
    have gtp := same_new htp (.tup [.int (at0 xs0 ot), .int (at0 xs0 at_)])
    have f1 := gtp _ _ eX
    have f2 := gtp _ _ eY
    have f3 := gtp _ _ eR
    refine ⟨tp, _, rfl, SqT.of upd_same, rfl, _, _, rfl, _, rfl, _, rfl, rA, _, _, at_, rfl, rfl, f1, ixN_ok (by rw [List.length_map]; omega) rfl, ?_⟩
    rw [← List.map_set]
    have k1 : (upd (upd H3 tp (.tup [.int (at0 xs0 ot), .int (at0 xs0 at_)])) rA (.lst ((xs0.set at_ (at0 xs0 ot)).map V.int))) rA = some (.lst ((xs0.set at_ (at0 xs0 ot)).map V.int)) := upd_same
    refine ⟨_, _, rfl, _, rfl, _, rfl, rA, _, _, ot, rfl, rfl, k1, ixN_ok (by rw [List.length_map, List.length_set]; omega) rfl, rfl, ?_⟩
    rw [← List.map_set, upd_upd]
    have u1 : Same H (upd (upd H3 tp (.tup [.int (at0 xs0 ot), .int (at0 xs0 at_)])) rA (.lst (((xs0.set at_ (at0 xs0 ot)).set ot (at0 xs0 at_)).map V.int))) := fun b u h => by rw [upd_ne (ne_of_none h hrA)]; exact gtp _ _ (g03 _ _ h)
    have u2 : (upd (upd H3 tp (.tup [.int (at0 xs0 ot), .int (at0 xs0 at_)])) rA (.lst (((xs0.set at_ (at0 xs0 ot)).set ot (at0 xs0 at_)).map V.int))) qA = some (.lst (ys0.map V.int)) := by rw [upd_ne (Ne.symm nrq)]; exact f2
    have u3 : (upd (upd H3 tp (.tup [.int (at0 xs0 ot), .int (at0 xs0 at_)])) rA (.lst (((xs0.set at_ (at0 xs0 ot)).set ot (at0 xs0 at_)).map V.int))) ra = some (.lst [.ref aA, .ref bA]) := by rw [upd_ne nra]; exact f3
    refine ⟨_, rfl, rfl, _, rfl, iteFb rfl ?_⟩
    refine ⟨_, rfl, rfl, _, rfl, iteFb rfl ?_⟩
    refine ⟨_, rfl, rfl, _, rfl, iteFb rfl ?_⟩
    refine ⟨_, rfl, rfl, _, rfl, iteFb rfl ?_⟩
    exact ⟨_, rfl, ra, _, _, _, rfl, rfl, SqL.of u3, rfl, _, rfl, ra, _, _, _, rfl, rfl, SqL.of u3, rfl, (by show 2 ≤ sizeLine; decide), fun r hr1 => fin _ _ _ u1 upd_same u2 u3 r hr1⟩
  · refine ⟨_, rfl, rfl, _, rfl, iteFb rfl ?_⟩
    refine ⟨_, rfl, rfl, _, rfl, iteFb rfl ?_⟩
    refine ⟨_, rfl, rfl, _, rfl, iteFb rfl ?_⟩
    refine ⟨_, rfl, rfl, _, rfl, iteFb rfl ?_⟩
    refine ⟨_, rfl, rfl, _, rfl, iteTb rfl ?_⟩
    refine ⟨_, rfl, .inl ⟨rfl, _, SqL.of eX⟩, _, rfl, rA, _, _, at_, _, rfl, rfl, eX, by omega, by omega, (by rw [seqIndex_of (by omega) (by rw [List.length_map]; omega)]; rfl), at_get (by omega), ?_⟩
    rw [map_erase]
    refine ⟨_, rfl, rfl, _, rfl, iteFb rfl ?_⟩
    refine ⟨_, rfl, rfl, _, rfl, iteFb rfl ?_⟩
    refine ⟨_, rfl, rfl, _, rfl, iteFb rfl ?_⟩
    obtain ⟨u1, u2, u3⟩ := set1 (xs0.eraseIdx at_)
    exact ⟨_, rfl, ra, _, _, _, rfl, rfl, SqL.of u3, rfl, _, rfl, ra, _, _, _, rfl, rfl, SqL.of u3, rfl, (by show 2 ≤ sizeLine; decide), fun r hr1 => fin _ _ _ u1 upd_same u2 u3 r hr1⟩
  · refine ⟨_, rfl, rfl, _, rfl, iteFb rfl ?_⟩
    refine ⟨_, rfl, rfl, _, rfl, iteFb rfl ?_⟩
    refine ⟨_, rfl, rfl, _, rfl, iteFb rfl ?_⟩
    refine ⟨_, rfl, rfl, _, rfl, iteFb rfl ?_⟩
    refine ⟨_, rfl, rfl, _, rfl, iteFb rfl ?_⟩
    refine ⟨_, rfl, rfl, _, rfl, iteTb rfl ?_⟩
    refine ⟨_, rfl, .inl ⟨rfl, _, SqL.of eX⟩, _, rfl, _, rfl, _, rfl, rA, _, _, _, rfl, rfl, SqL.of eX, atI_get0 (j := ot) (by omega) rfl, rA, _, at_, _, rfl, rfl, eX, by rw [List.length_map]; omega, by rw [List.length_map]; exact Nat.lt_of_le_of_lt (by omega : xs0.length ≤ 80) (by decide), ?_⟩
    have ei : insAt (xs0.map V.int) at_ (V.int (at0 xs0 ot)) = (insAt xs0 at_ (at0 xs0 ot)).map V.int := by unfold insAt; simp [List.map_take, List.map_drop]
    rw [ei]
    refine ⟨_, rfl, rfl, _, rfl, iteFb rfl ?_⟩
    refine ⟨_, rfl, rfl, _, rfl, iteFb rfl ?_⟩
    obtain ⟨u1, u2, u3⟩ := set1 (insAt xs0 at_ (at0 xs0 ot))
    exact ⟨_, rfl, ra, _, _, _, rfl, rfl, SqL.of u3, rfl, _, rfl, ra, _, _, _, rfl, rfl, SqL.of u3, rfl, (by show 2 ≤ sizeLine; decide), fun r hr1 => fin _ _ _ u1 upd_same u2 u3 r hr1⟩
  · refine ⟨_, rfl, rfl, _, rfl, iteFb rfl ?_⟩
    refine ⟨_, rfl, rfl, _, rfl, iteFb rfl ?_⟩
    refine ⟨_, rfl, rfl, _, rfl, iteFb rfl ?_⟩
    refine ⟨_, rfl, rfl, _, rfl, iteFb rfl ?_⟩
    refine ⟨_, rfl, rfl, _, rfl, iteFb rfl ?_⟩
    refine ⟨_, rfl, rfl, _, rfl, iteFb rfl ?_⟩
    refine ⟨_, rfl, rfl, _, rfl, iteTb rfl ?_⟩
    refine ⟨_, rfl, _, rfl, rA, _, _, _, rfl, rfl, SqL.of eX, atI_get0 (j := at_) (by omega) rfl, _, _, rfl, rfl, _, rfl, _, rfl, rA, _, _, at_, rfl, rfl, eX, ixN_ok (by rw [List.length_map]; omega) rfl, ?_⟩
    rw [← List.map_set]
    have k1 : (upd H3 rA (.lst ((xs0.set at_ (at0 xs0 at_ + 1)).map V.int))) rA = some (.lst ((xs0.set at_ (at0 xs0 at_ + 1)).map V.int)) := upd_same
    refine ⟨_, rfl, _, rfl, rA, _, _, _, rfl, rfl, SqL.of k1, atI_get0 (j := ot) (by rw [List.length_set]; omega) rfl, _, _, rfl, rfl, _, rfl, _, rfl, rA, _, _, ot, rfl, rfl, k1, ixN_ok (by rw [List.length_map, List.length_set]; omega) rfl, ?_⟩
    rw [← List.map_set, upd_upd]
    refine ⟨_, rfl, rfl, _, rfl, iteFb rfl ?_⟩
    obtain ⟨u1, u2, u3⟩ := set1 ((xs0.set at_ (at0 xs0 at_ + 1)).set ot (at0 (xs0.set at_ (at0 xs0 at_ + 1)) ot - 1))
    exact ⟨_, rfl, ra, _, _, _, rfl, rfl, SqL.of u3, rfl, _, rfl, ra, _, _, _, rfl, rfl, SqL.of u3, rfl, (by show 2 ≤ sizeLine; decide), fun r hr1 => fin _ _ _ u1 upd_same u2 u3 r hr1⟩
  · refine ⟨_, rfl, rfl, _, rfl, iteFb rfl ?_⟩
    refine ⟨_, rfl, rfl, _, rfl, iteFb rfl ?_⟩
    refine ⟨_, rfl, rfl, _, rfl, iteFb rfl ?_⟩
    refine ⟨_, rfl, rfl, _, rfl, iteFb rfl ?_⟩
    refine ⟨_, rfl, rfl, _, rfl, iteFb rfl ?_⟩
    refine ⟨_, rfl, rfl, _, rfl, iteFb rfl ?_⟩
    refine ⟨_, rfl, rfl, _, rfl, iteFb rfl ?_⟩
    refine ⟨_, rfl, rfl, _, rfl, iteTb rfl ?_⟩
    refine ⟨_, rfl, .inl ⟨rfl, _, SqL.of eX⟩, rA, _, rfl, rfl, eX, ?_⟩
    obtain ⟨u1, u2, u3⟩ := set1 (([] : List Int))
    exact ⟨_, rfl, ra, _, _, _, rfl, rfl, SqL.of u3, rfl, _, rfl, ra, _, _, _, rfl, rfl, SqL.of u3, rfl, (by show 2 ≤ sizeLine; decide), fun r hr1 => fin _ _ _ u1 upd_same u2 u3 r hr1⟩
  · refine ⟨_, rfl, rfl, _, rfl, iteFb rfl ?_⟩
    refine ⟨_, rfl, rfl, _, rfl, iteFb rfl ?_⟩
    refine ⟨_, rfl, rfl, _, rfl, iteFb rfl ?_⟩
    refine ⟨_, rfl, rfl, _, rfl, iteFb rfl ?_⟩
    refine ⟨_, rfl, rfl, _, rfl, iteFb rfl ?_⟩
    refine ⟨_, rfl, rfl, _, rfl, iteFb rfl ?_⟩
    refine ⟨_, rfl, rfl, _, rfl, iteFb rfl ?_⟩
    refine ⟨_, rfl, rfl, _, rfl, iteFb rfl ?_⟩
    exact ⟨_, rfl, ra, _, _, _, rfl, rfl, SqL.of eR, rfl, _, rfl, ra, _, _, _, rfl, rfl, SqL.of eR, rfl, (by show 2 ≤ sizeLine; decide), fun r hr1 => fin _ _ _ g03 eX eY eR r hr1⟩
end K05

namespace L2
open PySem PyProof.Rows
def dS (cs ls : List Int) : PyData := .tuple [.list (cs.map PyData.int), .list (ls.map PyData.int)]
def dP (n : Nat) (ts : MM.Ties) (os : MM.Ords) (cs ls : List Int) : PyData := .tuple [dW n ts os, dS cs ls]
theorem bd_shape {K : PySem.W.Frag} {H : Hp} {p a b : Addr} {cs ls : List Int} (h : H p = some (.tup [.ref a, .ref b])) (h1 : H a = some (.lst (cs.map V.int))) (h2 : H b = some (.lst (ls.map V.int))) : Bd K H (.ref p) (dS cs ls) := .tup (SqT.of h) (.cons (bd_ints h1) (.cons (bd_ints h2) .nil))
theorem pair_shaped (n : Nat) (ts : MM.Ties) (os : MM.Ords) (cs ls : List Int) : SeqAt.shaped (dP n ts os cs ls) = true := by
  have h1 := dT_lay ts
  have h2 := dO_lay os
  have hw : PyData.canLayAll0 [PyData.int (n : Int), .list (dT ts), .list (dO os)] = true ∧ PyData.depthAll [PyData.int (n : Int), .list (dT ts), .list (dO os)] ≤ 4 := lay_all 4 fun d hd => by
    simp only [List.mem_cons, List.not_mem_nil, or_false] at hd
    rcases hd with rfl | rfl | rfl
    · exact ⟨rfl, by simp [PyData.depth]⟩
    · exact ⟨h1.1, by rw [PyData.depth]; omega⟩
    · exact ⟨h2.1, by rw [PyData.depth]; omega⟩
  have c1 := lay_ints cs
  have c2 := lay_ints ls
  have hs : PyData.canLayAll0 [PyData.list (cs.map PyData.int), .list (ls.map PyData.int)] = true ∧ PyData.depthAll [PyData.list (cs.map PyData.int), .list (ls.map PyData.int)] ≤ 4 := lay_all 4 fun d hd => by
    simp only [List.mem_cons, List.not_mem_nil, or_false] at hd
    rcases hd with rfl | rfl
    · exact ⟨c1.1, by rw [PyData.depth]; omega⟩
    · exact ⟨c2.1, by rw [PyData.depth]; omega⟩
  have h : PyData.canLayAll0 [dW n ts os, dS cs ls] = true ∧ PyData.depthAll [dW n ts os, dS cs ls] ≤ 5 := lay_all 5 fun d hd => by
    simp only [List.mem_cons, List.not_mem_nil, or_false] at hd
    rcases hd with rfl | rfl
    · exact ⟨hw.1, by unfold dW; rw [PyData.depth]; omega⟩
    · exact ⟨hs.1, by unfold dS; rw [PyData.depth]; omega⟩
  unfold SeqAt.shaped
  rw [Bool.and_eq_true]
  refine ⟨h.1, decide_eq_true ?_⟩
  unfold dP
  rw [PyData.depth]
  omega
theorem pair_eqv (n : Nat) (ts : MM.Ties) (os : MM.Ords) (cs ls : List Int) : PyData.eqv (dP n ts os cs ls) (dP n ts os cs ls) = true := SeqAt.eqv_refl _ (SeqAt.canLay_of_shaped (pair_shaped n ts os cs ls))
end L2
namespace K05
open PySem L2 PyProof.Rows
variable {P : Program} {w : World} {K : PySem.W.Frag} {mg : Str → Option Value} {base : Heap} {t : Adr}
def spRight : Sp := fun vs H Q _ => ∃ (wa sa ca la : Addr) (o : Nat) (ts : MM.Ties) (os : MM.Ords) (cs ls : List Int), vs = [.ref wa, vn o, .ref sa] ∧ WebAt H wa os.length ts os ∧ MM.Good ts os ∧ ts.length ≤ 40 ∧ os.length ≤ 40 ∧ H sa = some (.tup [.ref ca, .ref la]) ∧ H ca = some (.lst (cs.map V.int)) ∧ H la = some (.lst (ls.map V.int)) ∧ ∀ H', Same H H' → Q (.bl true) H'
theorem ok_lright (T : Txt K mg t) : FnOk P w K mg base CX0 8 t.a_l_right t.d_l_right ["_law_web", "_law_outer", "_law_shape"] spRight := by
  have G_is_shape := ok_isshape (P := P) (w := w) (base := base) T
  have G_l_is_shape := ok_lisshape (P := P) (w := w) (base := base) T
  refine T.F_l_right.ok sc_l_right (fun vs H Q E h => ?_) (fun cdv A outer s H vs Q E hr h => ?_)
  · obtain ⟨wa, sa, ca, la, o, ts, os, cs, ls, rfl, _⟩ := h; rfl
  obtain ⟨wa, sa, ca, la, o, ts, os, cs, ls, rfl, hWeb, g, h40, o40, hsa, hc, hl, q⟩ := h
  have nd := sc_l_right.nd
  have nd_l_order : (["_law_order"] : List Str).Nodup := by decide
  refine ⟨_, (pss_cons (ps_set (i := 3) nd rfl (Or.inl rfl) (pe_tup (pa_cons (pe_tup (pa_cons (pe_ix ix_tup (pv 0) pe_int (fun _ _ => rfl)) (pa_cons (pe_callTy call_list_of rfl T.z_list boot_list (pa_cons (pe_ix ix_tup (pv 0) pe_int (fun _ _ => rfl)) pa_nil)) (pa_cons (pe_comp (N' := ["_law_order"]) (js := [none]) rfl (pi_list (pe_ix ix_tup (pv 0) pe_int (fun _ _ => rfl))) (fun _ _ _ _ _ => (pg_name (i := 0) nd_l_order rfl (Or.inl rfl))) (fun _ _ _ _ _ => pf_nil) (fun _ _ _ _ _ => (pe_callTy (kcall_list (K := K) rfl) rfl T.z_list boot_list (pa_cons (pv 0) pa_nil)))) pa_nil)))) (pa_cons (pe_tup (pa_cons (pe_callTy call_list_of rfl T.z_list boot_list (pa_cons (pe_ix ix_tup (pv 2) pe_int (fun _ _ => rfl)) pa_nil)) (pa_cons (pe_callTy call_list_of rfl T.z_list boot_list (pa_cons (pe_ix ix_tup (pv 2) pe_int (fun _ _ => rfl)) pa_nil)) pa_nil))) pa_nil))))
    (pss_cons (ps_set (i := 4) nd rfl (Or.inl rfl) (pe_call G_is_shape (hr.mono (by decide)) rfl T.m_is_shape T.k_is_shape T.b_is_shape .nil pass0 (pa_cons (pe_ix ix_tup (pv 3) pe_int (fun _ _ => rfl)) (pa_cons (pv 1) (pa_cons (pe_ix ix_tup (pv 3) pe_int (fun _ _ => rfl)) pa_nil)))))
    (pss_one (ps_ret (pe_and (pe_callB call_isi rfl T.z_isinstance boot_isinstance (pa_cons (pv 4) (pa_cons (pe_bltn (v := .ty "bool") rfl T.z_bool boot_bool rfl) pa_nil))) (pe_and (pe_cmpR op_eq (pv 4) (pe_call G_l_is_shape (hr.mono (by decide)) rfl T.m_l_is_shape T.k_l_is_shape T.b_l_is_shape .nil pass0 (pa_cons (pv 0) (pa_cons (pv 1) (pa_cons (pv 2) pa_nil)))) (nomark _)) (pe_one (pe_cmpR (op_eqD hr.units) (pv 3) (pe_tup (pa_cons (pv 0) (pa_cons (pv 2) pa_nil))) (nomark _))))))))), ?_⟩
  obtain ⟨tA, oA, hw, hts, hos⟩ := id hWeb
  obtain ⟨tr, e1, e2, e3⟩ := id hts
  refine ⟨_, rfl, wa, _, _, _, rfl, rfl, SqT.of hw, rfl, ?_⟩
  refine ⟨_, rfl, wa, _, _, _, rfl, rfl, SqT.of hw, rfl, tA, _, rfl, .inl (SqL.of e1), fun tB htB => ?_⟩
  have k1 := same_new htB (.lst (tr.map V.ref))
  have tsB : TsAt (upd H tB (.lst (tr.map V.ref))) tB ts := ⟨tr, upd_same, e2, fun i u h => by obtain ⟨r, q1, q2⟩ := e3 i u h; exact ⟨r, q1, k1 _ _ q2⟩⟩
  generalize upd H tB (.lst (tr.map V.ref)) = H3 at k1 tsB
  have os3 := k1.os hos
  obtain ⟨rr3, o1, o2, o3⟩ := id os3
  refine ⟨_, rfl, wa, _, _, _, rfl, rfl, SqT.of (k1 _ _ hw), rfl, oA, rfl, ⟨_, SqL.of o1⟩, fun D hD => ?_⟩
  refine comp_map os.length (fun i ys H' => ∃ rr' : List Addr, ys = rr'.map V.ref ∧ NewOs H3 H' D rr' (os.take i) ∧ Same H3 H') ⟨[], rfl, ⟨upd_same, rfl, fun i l h => by simp at h, List.nodup_nil, by simp, hD, fun x hx => by cases hx⟩, same_new hD _⟩ ?_ ?_
  · rintro i ys H' hi ⟨rr', rfl, n', g'⟩
    obtain ⟨x, x1, x2⟩ := o3 i os[i] (List.getElem?_eq_getElem hi)
    have hx : (rr3.map V.ref)[i]? = some (.ref x) := by rw [List.getElem?_map, x1]; rfl
    refine ⟨⟨_, _, SqL.of (g' _ _ o1), hx⟩, ?_⟩
    rintro x' H'' ⟨rfl, hx'⟩
    have e6 := hx' _ (SqL.of (g' _ _ o1))
    rw [hx] at e6
    cases e6
    refine ⟨(Fills.refl _).set _ rfl, ?_⟩
    refine ⟨_, rfl, x, _, rfl, .inl (SqL.of (g' _ _ x2)), fun nl hnl => ?_⟩
    have g5 := same_new hnl (.lst (vns os[i]))
    have nlr : nl ∉ rr' := fun z => by obtain ⟨l, hl⟩ := n'.ex z; rw [hnl] at hl; cases hl
    have nlo : nl ≠ D := (ne_of_none n'.at_ hnl).symm
    refine ⟨g5 _ _ n'.at_, ?_, rr' ++ [nl], by rw [List.map_append]; rfl, ?_, ?_⟩
    · rw [List.length_map, n'.len, List.length_take]; exact Nat.lt_of_le_of_lt (by omega : _ ≤ 1000) (by decide)
    · rw [List.take_succ_eq_append_getElem hi]
      exact n'.push (x := nl) (l := os[i]) (g'.free hnl) nlr nlo (by rw [upd_same, List.map_append]; rfl) (by rw [upd_ne nlo]; exact upd_same) fun b u hb h => by rw [upd_ne (show b ≠ D from fun z => n'.nin (z ▸ hb))]; exact g5 _ _ h
    · exact fun b o h => by rw [upd_ne (ne_of_none h hD)]; exact g5 _ _ (g' _ _ h)
  rintro ys H4 ⟨rr4, rfl, n4, g4⟩
  refine ⟨⟨_, SqL.of (g4 _ _ o1), by rw [List.length_map, o2]; exact Nat.le_refl _⟩, ?_⟩
  rw [List.take_length] at n4
  refine ⟨(by show 3 ≤ sizeLine; decide), fun wh hwh => ?_⟩
  have k5 := same_new hwh (.tup [vn os.length, .ref tB, .ref D])
  have wb : WebAt (upd H4 wh (.tup [vn os.length, .ref tB, .ref D])) wh os.length ts os := ⟨tB, D, upd_same, k5.ts (g4.ts tsB), k5.os n4.os⟩
  have kk := k1.trans (g4.trans k5)
  generalize upd H4 wh (.tup [vn os.length, .ref tB, .ref D]) = H6 at wb kk
  clear k5 n4 g4 os3 k1 tsB
  -- the shape
  refine ⟨_, rfl, sa, _, _, _, rfl, rfl, SqT.of (kk _ _ hsa), rfl, ca, _, rfl, .inl (SqL.of (kk _ _ hc)), fun cB hcB => ?_⟩
  have g7 := same_new hcB (.lst (cs.map V.int))
  have k7 := kk.trans g7
  refine ⟨_, rfl, sa, _, _, _, rfl, rfl, SqT.of (k7 _ _ hsa), rfl, la, _, rfl, .inl (SqL.of (k7 _ _ hl)), fun lB hlB => ?_⟩
  have g8 := same_new hlB (.lst (ls.map V.int))
  refine ⟨(by show 2 ≤ sizeLine; decide), fun sB hsB => ?_⟩
  have g9 := same_new hsB (.tup [.ref cB, .ref lB])
  refine ⟨(by show 2 ≤ sizeLine; decide), fun hA hhA => ?_⟩
  have g10 := same_new hhA (.tup [.ref wh, .ref sB])
  have fc := g10 _ _ (g9 _ _ (g8 _ _ (upd_same (H := H6) (a := cB) (o := .lst (cs.map V.int)))))
  have fl := g10 _ _ (g9 _ _ (upd_same (H := upd H6 cB (.lst (cs.map V.int))) (a := lB) (o := .lst (ls.map V.int))))
  have fs := g10 _ _ (upd_same (H := upd (upd H6 cB (.lst (cs.map V.int))) lB (.lst (ls.map V.int))) (a := sB) (o := .tup [.ref cB, .ref lB]))
  have fh : (upd (upd (upd (upd H6 cB (.lst (cs.map V.int))) lB (.lst (ls.map V.int))) sB (.tup [.ref cB, .ref lB])) hA (.tup [.ref wh, .ref sB])) hA = some (.tup [.ref wh, .ref sB]) := upd_same
  have k610 := ((g7.trans g8).trans g9).trans g10
  generalize upd (upd (upd (upd H6 cB (.lst (cs.map V.int))) lB (.lst (ls.map V.int))) sB (.tup [.ref cB, .ref lB])) hA (.tup [.ref wh, .ref sB]) = H10 at fc fl fs fh k610
  have wb10 := k610.web wb
  have k10 := kk.trans k610
  clear g7 k7 g8 g9 g10 hcB hlB hsB hhA wb kk k610
  refine ⟨_, rfl, hA, _, _, _, rfl, rfl, SqT.of fh, rfl, _, rfl, _, rfl, hA, _, _, _, rfl, rfl, SqT.of fh, rfl, wh, sB, cB, lB, o, ts, os, cs, ls, rfl, wb10, g, h40, o40, fs, fc, fl, fun H11 g11 => ?_⟩
  refine ⟨_, rfl, _, "bool", "bool", rfl, rfl, .inr (.inr (.inr rfl)), _, rfl, iteTb rfl ?_⟩
  have k11 := k10.trans g11
  refine ⟨_, rfl, _, rfl, _, rfl, _, rfl, wa, sa, ca, la, o, ts, os, cs, ls, rfl, k11.web hWeb, g, h40, o40, k11 _ _ hsa, k11 _ _ hc, k11 _ _ hl, fun H12 g12 => ?_⟩
  refine ⟨rfl, _, rfl, iteTb (decide_eq_true rfl) ?_⟩
  refine ⟨_, rfl, _, rfl, _, rfl, (by show 2 ≤ sizeLine; decide), fun tq htq => ?_⟩
  have gq := same_new htq (.tup [.ref wa, .ref sa])
  have k13 := (k11.trans g12).trans gq
  have k1013 := (g11.trans g12).trans gq
  refine ⟨dP os.length ts os cs ls, dP os.length ts os cs ls, .tup (SqT.of (k1013 _ _ fh)) (.cons (bd_web (k1013.web wb10)) (.cons (bd_shape (k1013 _ _ fs) (k1013 _ _ fc) (k1013 _ _ fl)) .nil)), .tup (SqT.of upd_same) (.cons (bd_web (k13.web hWeb)) (.cons (bd_shape (k13 _ _ hsa) (k13 _ _ hc) (k13 _ _ hl)) .nil)), pair_shaped _ _ _ _ _, pair_shaped _ _ _ _ _, ?_⟩
  rw [pair_eqv]
  exact q _ k13
def spLaw (K : PySem.W.Frag) : Sp := fun vs H Q _ => ∃ (a : Addr) (ns : List Int), vs = [.ref a] ∧ SqL K H a (ns.map V.int) ∧ ns.length ≤ 63 ∧ ∀ H', Q (.bl true) H'
theorem ok_law (T : Txt K mg t) : FnOk P w K mg base CX0 lawK t.a_law t.d_law ["_law_script"] (spLaw K) := by
  have G_l_cell_at := ok_cell (P := P) (w := w) (base := base) T
  have G_l_mix := ok_mix (P := P) (w := w) (base := base) T
  have G_l_map := ok_lmap (P := P) (w := w) (base := base) T
  have G_l_lands := ok_llands (P := P) (w := w) (base := base) T
  have G_l_walked := ok_lwalked (P := P) (w := w) (base := base) T
  have G_l_base := ok_lbase (P := P) (w := w) (base := base) T
  have G_l_right := ok_lright (P := P) (w := w) (base := base) T
  have G_l_is_shape := ok_lisshape (P := P) (w := w) (base := base) T
  have G_l_bent := ok_lbent (P := P) (w := w) (base := base) T
  refine T.F_law.ok sc_law (fun vs H Q E h => ?_) (fun cdv A outer s H vs Q E hr h => ?_)
  · obtain ⟨a, ns, rfl, _⟩ := h; rfl
  obtain ⟨sa, ns, rfl, hS, h63, q⟩ := h
  have nd := sc_law.nd
  refine ⟨_, (pss_cons (ps_set (i := 1) nd rfl (Or.inl rfl) (pe_call G_l_map (hr.mono (by decide)) rfl T.m_l_map T.k_l_map T.b_l_map .nil pass0 (pa_cons (pv 0) (pa_cons pe_int (pa_cons pe_int pa_nil)))))
    (pss_cons (ps_set (i := 2) nd rfl (Or.inl rfl) (pe_call G_l_cell_at (hr.mono (by decide)) rfl T.m_l_cell_at T.k_l_cell_at T.b_l_cell_at .nil pass0 (pa_cons (pv 0) (pa_cons pe_int pa_nil))))
    (pss_cons (ps_set (i := 3) nd rfl (Or.inl rfl) (pe_call G_l_lands (hr.mono (by decide)) rfl T.m_l_lands T.k_l_lands T.b_l_lands .nil pass0 (pa_cons (pe_ix ix_tup (pv 1) pe_int (fun _ _ => rfl)) (pa_cons (pe_ix ix_tup (pv 1) pe_int (fun _ _ => rfl)) pa_nil))))
    (pss_cons (ps_set (i := 4) nd rfl (Or.inl rfl) (pe_op op_mod (pe_call G_l_mix (hr.mono (by decide)) rfl T.m_l_mix T.k_l_mix T.b_l_mix .nil pass0 (pa_cons (pv 2) (pa_cons pe_int pa_nil))) (pe_callB call_len_seq rfl T.z_len PySem.boot_len (pa_cons (pv 3) pa_nil))))
    (pss_cons (ps_set (i := 5) nd rfl (Or.inl rfl) (pe_call G_l_walked (hr.mono (by decide)) rfl T.m_l_walked T.k_l_walked T.b_l_walked .nil pass0 (pa_cons (pv 1) (pa_cons (pe_call G_l_base (hr.mono (by decide)) rfl T.m_l_base T.k_l_base T.b_l_base .nil pass0 (pa_cons (pv 1) (pa_cons (pv 4) pa_nil))) (pa_cons (pv 2) (pa_cons (pe_op op_mod (pe_call G_l_mix (hr.mono (by decide)) rfl T.m_l_mix T.k_l_mix T.b_l_mix .nil pass0 (pa_cons (pv 2) (pa_cons pe_int pa_nil))) pe_int) pa_nil))))))
    (pss_cons (ps_for PassesOwn.never rfl (pi_range1 rfl T.z_range (pa_cons (pe_callB call_len_seq rfl T.z_len PySem.boot_len (pa_cons (pv 3) pa_nil)) pa_nil)) (pg_name (i := 6) nd rfl (Or.inl rfl)) (pss_one (ps_if (pt_not (pt_truth (pe_call G_l_right (hr.mono (by decide)) rfl T.m_l_right T.k_l_right T.b_l_right .nil pass0 (pa_cons (pv 1) (pa_cons (pv 6) (pa_cons (pv 5) pa_nil)))) (fun _ => rfl))) (pss_one (ps_ret pe_bl)) pss_nil)))
    (pss_cons (ps_if (pt_not (pt_truth (pe_call G_l_is_shape (hr.mono (by decide)) rfl T.m_l_is_shape T.k_l_is_shape T.b_l_is_shape .nil pass0 (pa_cons (pv 1) (pa_cons (pv 4) (pa_cons (pv 5) pa_nil)))) (fun _ => rfl))) (pss_one (ps_ret pe_bl)) pss_nil)
    (pss_cons (ps_for PassesOwn.never rfl (pi_range1 rfl T.z_range (pa_cons pe_int pa_nil)) (pg_name (i := 7) nd rfl (Or.inl rfl)) (pss_cons (ps_set (i := 8) nd rfl (Or.inl rfl) (pe_call G_l_bent (hr.mono (by decide)) rfl T.m_l_bent T.k_l_bent T.b_l_bent .nil pass0 (pa_cons (pv 5) (pa_cons (pe_op op_add (pe_call G_l_mix (hr.mono (by decide)) rfl T.m_l_mix T.k_l_mix T.b_l_mix .nil pass0 (pa_cons (pe_call G_l_cell_at (hr.mono (by decide)) rfl T.m_l_cell_at T.k_l_cell_at T.b_l_cell_at .nil pass0 (pa_cons (pv 0) (pa_cons pe_int pa_nil))) (pa_cons (pv 7) pa_nil))) (pe_op op_mul (pe_call G_l_mix (hr.mono (by decide)) rfl T.m_l_mix T.k_l_mix T.b_l_mix .nil pass0 (pa_cons (pv 2) (pa_cons pe_int pa_nil))) (pv 7))) pa_nil))))
    (pss_one (ps_if (pt_not (pt_truth (pe_call G_l_right (hr.mono (by decide)) rfl T.m_l_right T.k_l_right T.b_l_right .nil pass0 (pa_cons (pv 1) (pa_cons (pv 4) (pa_cons (pv 8) pa_nil)))) (fun _ => rfl))) (pss_one (ps_ret pe_bl)) pss_nil))))
    (pss_cons (ps_for PassesOwn.never rfl (pi_list (pe_lst (pa_cons (pe_tup (pa_cons (pe_lst pa_nil) (pa_cons (pe_lst pa_nil) pa_nil))) (pa_cons (pe_tup (pa_cons (pe_ix ix_tup (pv 5) pe_int (fun _ _ => rfl)) (pa_cons (pe_lst pa_nil) pa_nil))) (pa_cons (pe_tup (pa_cons (pe_lst pa_nil) (pa_cons (pe_ix ix_tup (pv 5) pe_int (fun _ _ => rfl)) pa_nil))) pa_nil))))) (pg_name (i := 9) nd rfl (Or.inl rfl)) (pss_one (ps_if (pt_not (pt_truth (pe_call G_l_right (hr.mono (by decide)) rfl T.m_l_right T.k_l_right T.b_l_right .nil pass0 (pa_cons (pv 1) (pa_cons (pv 4) (pa_cons (pv 9) pa_nil)))) (fun _ => rfl))) (pss_one (ps_ret pe_bl)) pss_nil)))
    (pss_one (ps_ret pe_bl))))))))))), ?_⟩
  refine ⟨_, rfl, sa, ns, 15, 10, rfl, hS, by decide, by decide, fun wa tA oA rr ts os H1 g1 ew hm g h40 o40 fc => ?_⟩
  have hWeb : WebAt H1 wa os.length ts os := ⟨tA, oA, ew, hm.ts, hm.os.os⟩
  have hl1 := g.one
  have hLN := MM.lls_len g
  refine ⟨_, rfl, sa, ns, 8, rfl, g1.seq hS, by decide, fun c => ?_⟩
  refine ⟨_, rfl, wa, _, _, _, rfl, rfl, SqT.of ew, rfl, _, rfl, wa, _, _, _, rfl, rfl, SqT.of ew, rfl, tA, oA, ts, os, rfl, hm.ts, hm.os.os, g, by omega, fun r lr H2 g2 nos => ?_⟩
  have rlen : (lr.map V.ref).length = (MM.lls ts os).length := by rw [List.length_map]; exact nos.len
  have lpos : 0 < (MM.lls ts os).length := by
    obtain ⟨nm, num⟩ := MM.num_fn g
    obtain ⟨d, h1, _⟩ := MM.num_at g num (x := 0) (by omega)
    exact Nat.lt_of_le_of_lt (Nat.zero_le _) (List.getElem?_eq_some_iff.mp h1).1
  refine ⟨_, rfl, c, 0, rfl, by decide, by decide, fun m0 hm0 _ => ⟨_, rfl, r, _, rfl, .inl (SqL.of nos.at_), _, _, rfl, rfl, (by show (0 : Int) < (((lr.map V.ref).length : Nat) : Int); omega), ?_⟩⟩
  obtain ⟨o, ho, eo⟩ := MM.mod_ix m0 (n := (lr.map V.ref).length) (by omega)
  show gName 4 (V.int (m0 % (((lr.map V.ref).length : Nat) : Int))) _ _ _
  rw [eo]
  rw [rlen] at ho
  have w2 := g2.web hWeb
  refine ⟨_, rfl, _, rfl, _, rfl, wa, os.length, o, ts, os, rfl, w2, g, fc, h40, ho, fun sb cb lb cs0 ls0 H3 g3 esb ecb elb _ _ _ lc0 ll0 sh0 => ?_⟩
  have g13 := g2.trans g3
  refine ⟨_, rfl, _, rfl, c, 1, rfl, by decide, by decide, fun m1 hm1 _ => ⟨_, _, rfl, rfl, (by show (0 : Int) < 13; decide), ?_⟩⟩
  refine ⟨wa, sb, cb, lb, os.length, o, ts, os, cs0, ls0, c, m1 % 13, rfl, g13.web hWeb, g, h40, esb, ecb, elb, lc0, ll0, sh0, Int.emod_nonneg _ (by decide), by have := Int.emod_lt_of_pos m1 (show (0 : Int) < 13 by decide); omega, fun sh ca la cs ls H4 g4 esh eca ela _ _ _ lc ll shp => ?_⟩
  have g14 := g13.trans g4
  have isS := MM.Shp.is lc ll shp
  -- with each outer land
  refine ⟨_, rfl, r, _, rfl, .inl (SqL.of ((g3.trans g4) _ _ nos.at_)), _, rfl, by omega, by omega, for_range (lo := 0) (n := ((((lr.map V.ref).length : Nat) : Int)).toNat)
    (fun i σ H' => Same H4 H' ∧ ∃ o6 : Option V, σ = [some (.ref sa), some (.ref wa), some (.int c), some (.ref r), some (vn o), some (.ref sh), o6, none, none, none])
    ⟨Same.refl _, _, rfl⟩ ?_ ?_⟩
  · rintro i σ H5 hi ⟨g5, o6, rfl⟩
    show gName 6 (V.int (0 + (i : Int))) _ _ _
    rw [Int.zero_add]
    refine ⟨_, rfl, _, rfl, _, rfl, wa, sh, ca, la, i, ts, os, cs, ls, rfl, (g14.trans g5).web hWeb, g, h40, o40, g5 _ _ esh, g5 _ _ eca, g5 _ _ ela, fun H6 g6 => ?_⟩
    exact ⟨_, rfl, iteFb rfl ⟨g5.trans g6, _, rfl⟩⟩
  rintro σ H5 ⟨g5, o6, rfl⟩
  have g15 := g14.trans g5
  refine ⟨_, rfl, _, rfl, _, rfl, wa, sh, ca, la, o, ts, os, cs, ls, rfl, g15.web hWeb, g, h40, o40, g5 _ _ esh, g5 _ _ eca, g5 _ _ ela, fun H6 g6 => ?_⟩
  rw [MM.shB_t isS]
  refine ⟨_, rfl, iteFb rfl ?_⟩
  have g46 := g5.trans g6
  -- bent ones
  refine ⟨6, rfl, by decide, by decide, for_range (lo := 0) (n := 6)
    (fun i σ H' => Same H4 H' ∧ ∃ o7 o8 : Option V, σ = [some (.ref sa), some (.ref wa), some (.int c), some (.ref r), some (vn o), some (.ref sh), o6, o7, o8, none])
    ⟨g46, _, _, rfl⟩ ?_ ?_⟩
  · rintro i σ H7 hi ⟨g7, o7, o8, rfl⟩
    have g17 := g14.trans g7
    have g07 := (g1.trans g17)
    refine ⟨_, rfl, _, rfl, sa, ns, 9, rfl, g07.seq hS, by decide, fun c2 => ⟨_, rfl, _, _, rfl, by omega, by omega, fun m2 hm2 hm2' => ⟨_, rfl, c, 2, rfl, by decide, by decide, fun m3 hm3 hm3' => ⟨_, rfl, _, _, rfl, rfl, .inl ⟨by omega, by omega⟩, _, _, rfl, rfl, ?_⟩⟩⟩⟩
    refine ⟨sh, ca, la, cs, ls, 2 * ts.length, _, rfl, g7 _ _ esh, g7 _ _ eca, g7 _ _ ela, lc, ll, by omega, by omega, ?_, fun rb xA yA xs ys H8 g8 erb exA eyA => ?_⟩
    · have h0 : (0 : Int) ≤ 0 + (i : Int) := by omega
      have := Int.mul_nonneg hm3 h0
      omega
    · refine ⟨_, rfl, _, rfl, _, rfl, wa, rb, xA, yA, o, ts, os, xs, ys, rfl, (g17.trans g8).web hWeb, g, h40, o40, erb, exA, eyA, fun H9 g9 => ?_⟩
      exact ⟨_, rfl, iteFb rfl ⟨(g7.trans g8).trans g9, _, _, rfl⟩⟩
  rintro σ H7 ⟨g7, o7, o8, rfl⟩
  -- none
  refine ⟨(by show 0 ≤ sizeLine; decide), fun n1 hn1 => ⟨(by show 0 ≤ sizeLine; decide), fun n2 hn2 => ⟨(by show 2 ≤ sizeLine; decide), fun t1 ht1 => ?_⟩⟩⟩
  have a1 := same_new hn1 (.lst [])
  have a2 := same_new hn2 (.lst [])
  have a3 := same_new ht1 (.tup [.ref n1, .ref n2])
  have f1 := a3 _ _ (a2 _ _ (upd_same (H := H7) (a := n1) (o := .lst [])))
  have f2 := a3 _ _ (upd_same (H := upd H7 n1 (.lst [])) (a := n2) (o := .lst []))
  have f3 : (upd (upd (upd H7 n1 (.lst [])) n2 (.lst [])) t1 (.tup [.ref n1, .ref n2])) t1 = some (.tup [.ref n1, .ref n2]) := upd_same
  have b1 := g7.trans ((a1.trans a2).trans a3)
  generalize upd (upd (upd H7 n1 (.lst [])) n2 (.lst [])) t1 (.tup [.ref n1, .ref n2]) = H8 at f1 f2 f3 b1
  clear a1 a2 a3 hn1 hn2 ht1
  refine ⟨_, rfl, sh, _, _, _, rfl, rfl, SqT.of (b1 _ _ esh), rfl, (by show 0 ≤ sizeLine; decide), fun n3 hn3 => ⟨(by show 2 ≤ sizeLine; decide), fun t2 ht2 => ?_⟩⟩
  have a1 := same_new hn3 (.lst [])
  have a2 := same_new ht2 (.tup [.ref ca, .ref n3])
  have a12 := a1.trans a2
  have f4 := a2 _ _ (upd_same (H := H8) (a := n3) (o := .lst []))
  have f5 : (upd (upd H8 n3 (.lst [])) t2 (.tup [.ref ca, .ref n3])) t2 = some (.tup [.ref ca, .ref n3]) := upd_same
  generalize upd (upd H8 n3 (.lst [])) t2 (.tup [.ref ca, .ref n3]) = H9 at a12 f4 f5
  clear a1 a2 hn3 ht2
  have b2 := b1.trans a12
  refine ⟨(by show 0 ≤ sizeLine; decide), fun n4 hn4 => ⟨_, rfl, sh, _, _, _, rfl, rfl, SqT.of (same_new hn4 _ _ _ (b2 _ _ esh)), rfl, (by show 2 ≤ sizeLine; decide), fun t3 ht3 => ⟨(by show 3 ≤ sizeLine; decide), fun nl hnl => ?_⟩⟩⟩
  have a1 := same_new hn4 (.lst [])
  have a2 := same_new ht3 (.tup [.ref n4, .ref la])
  have a3 := same_new hnl (.lst [.ref t1, .ref t2, .ref t3])
  have a13 := (a1.trans a2).trans a3
  have f6 := a3 _ _ (a2 _ _ (upd_same (H := H9) (a := n4) (o := .lst [])))
  have f7 := a3 _ _ (upd_same (H := upd H9 n4 (.lst [])) (a := t3) (o := .tup [.ref n4, .ref la]))
  have f8 : (upd (upd (upd H9 n4 (.lst [])) t3 (.tup [.ref n4, .ref la])) nl (.lst [.ref t1, .ref t2, .ref t3])) nl = some (.lst [.ref t1, .ref t2, .ref t3]) := upd_same
  generalize upd (upd (upd H9 n4 (.lst [])) t3 (.tup [.ref n4, .ref la])) nl (.lst [.ref t1, .ref t2, .ref t3]) = H10 at a13 f6 f7 f8
  clear a1 a2 a3 hn4 ht3 hnl
  have b3 := b2.trans a13
  refine ⟨nl, rfl, ⟨_, SqL.of f8⟩, for_list (xs := [.ref t1, .ref t2, .ref t3])
    (fun i σ H' => Same H10 H' ∧ ∃ o9 : Option V, σ = [some (.ref sa), some (.ref wa), some (.int c), some (.ref r), some (vn o), some (.ref sh), o6, o7, o8, o9])
    ⟨Same.refl _, _, rfl⟩ (fun i σ H' _ h => SqL.of (h.1 _ _ f8)) ?_ ?_⟩
  · rintro i x σ H11 hx ⟨g11, o9, rfl⟩
    have b4 := b3.trans g11
    have hw11 := (g14.trans b4).web hWeb
    obtain ⟨tx, p1, p2, xs, ys, rfl, e1, e2, e3⟩ : ∃ (tx p1 p2 : Addr) (xs ys : List Int), x = .ref tx ∧ H11 tx = some (.tup [.ref p1, .ref p2]) ∧ H11 p1 = some (.lst (xs.map V.int)) ∧ H11 p2 = some (.lst (ys.map V.int)) := by
      match i, hx with
      | 0, hx =>
        have e : x = .ref t1 := by simpa using hx.symm
        subst e
        exact ⟨t1, n1, n2, [], [], rfl, g11 _ _ (a13 _ _ (a12 _ _ f3)), g11 _ _ (a13 _ _ (a12 _ _ f1)), g11 _ _ (a13 _ _ (a12 _ _ f2))⟩
      | 1, hx =>
        have e : x = .ref t2 := by simpa using hx.symm
        subst e
        exact ⟨t2, ca, n3, cs, [], rfl, g11 _ _ (a13 _ _ f5), b4 _ _ eca, g11 _ _ (a13 _ _ f4)⟩
      | 2, hx =>
        have e : x = .ref t3 := by simpa using hx.symm
        subst e
        exact ⟨t3, n4, la, [], ls, rfl, g11 _ _ f7, g11 _ _ f6, b4 _ _ ela⟩
      | i + 3, hx => simp at hx
    refine ⟨_, rfl, _, rfl, _, rfl, wa, tx, p1, p2, o, ts, os, xs, ys, rfl, hw11, g, h40, o40, e1, e2, e3, fun H12 g12 => ?_⟩
    exact ⟨_, rfl, iteFb rfl ⟨g11.trans g12, _, rfl⟩⟩
  rintro σ H11 ⟨g11, o9, rfl⟩
  exact q _
end K05

namespace K05
open PySem L2
theorem all_mk {l : PySem.W.OpenLaw} {w : World} {K : PySem.W.Frag} {h : Heap} {mg : Str → Option Value} {fa f0 f1 f2 f3 f4 f5 f6 f7 f8 f9 f10 f11 f12 f13 f14 f15 f16 f17 f18 f19 f20 f21 f22 f23 f24 f25 f26 f27 f28 : Addr} (X : K.In h) (G : h.Ns mainGlobals mg) (hfa : mg "law" = some (.ref fa)) {qt : Tok}
    {od0 an0 od1 an1 od2 an2 od3 an3 od4 an4 od5 an5 od6 an6 od7 an7 od8 an8 od9 an9 od10 an10 od11 an11 od12 an12 od13 an13 od14 an14 od15 an15 od16 an16 od17 an17 od18 an18 od19 an19 od20 an20 od21 an21 od22 an22 od23 an23 od24 an24 od25 an25 od26 an26 od27 an27 od28 an28 : Option Addr} {sl0 sl1 sl2 sl3 sl4 sl5 sl6 sl7 sl8 sl9 sl10 sl11 sl12 sl13 sl14 sl15 sl16 sl17 sl18 sl19 sl20 sl21 sl22 sl23 sl24 sl25 sl26 sl27 sl28 : Array (Option Value)} {oc0 kV0 dc0 pm0 cd0 ct0 oc1 kV1 dc1 pm1 cd1 ct1 oc2 kV2 dc2 pm2 cd2 ct2 oc3 kV3 dc3 pm3 cd3 ct3 oc4 kV4 dc4 pm4 cd4 ct4 oc5 kV5 dc5 pm5 cd5 ct5 oc6 kV6 dc6 pm6 cd6 ct6 oc7 kV7 dc7 pm7 cd7 ct7 oc8 kV8 dc8 pm8 cd8 ct8 oc9 kV9 dc9 pm9 cd9 ct9 oc10 kV10 dc10 pm10 cd10 ct10 oc11 kV11 dc11 pm11 cd11 ct11 oc12 kV12 dc12 pm12 cd12 ct12 oc13 kV13 dc13 pm13 cd13 ct13 oc14 kV14 dc14 pm14 cd14 ct14 oc15 kV15 dc15 pm15 cd15 ct15 oc16 kV16 dc16 pm16 cd16 ct16 oc17 kV17 dc17 pm17 cd17 ct17 oc18 kV18 dc18 pm18 cd18 ct18 oc19 kV19 dc19 pm19 cd19 ct19 oc20 kV20 dc20 pm20 cd20 ct20 oc21 kV21 dc21 pm21 cd21 ct21 oc22 kV22 dc22 pm22 cd22 ct22 oc23 kV23 dc23 pm23 cd23 ct23 oc24 kV24 dc24 pm24 cd24 ct24 oc25 kV25 dc25 pm25 cd25 ct25 oc26 kV26 dc26 pm26 cd26 ct26 oc27 kV27 dc27 pm27 cd27 ct27 oc28 kV28 dc28 pm28 cd28 ct28 : Value}
    (a0 : PySem.W.nsIn K mainGlobals "other_end" = some (some (.ref f0))) (l0 : K.lookup f0 = some ⟨oc0, od0, .func (PySem.W.fnOf "other_end" "other_end" (defArgs s_other_end) (defBody s_other_end) (defScope s_other_end) .none kV0 dc0 pm0 an0 cd0 ct0), sl0⟩) (c0 : PySem.W.codeIn K cd0 "other_end" = true) (k0 : PySem.W.keepIn K (.ref f0) = true)
    (a1 : PySem.W.nsIn K mainGlobals "place_of" = some (some (.ref f1))) (l1 : K.lookup f1 = some ⟨oc1, od1, .func (PySem.W.fnOf "place_of" "place_of" (defArgs s_place_of) (defBody s_place_of) (defScope s_place_of) .none kV1 dc1 pm1 an1 cd1 ct1), sl1⟩) (c1 : PySem.W.codeIn K cd1 "place_of" = true) (k1 : PySem.W.keepIn K (.ref f1) = true)
    (a2 : PySem.W.nsIn K mainGlobals "goes_to" = some (some (.ref f2))) (l2 : K.lookup f2 = some ⟨oc2, od2, .func (PySem.W.fnOf "goes_to" "goes_to" (defArgs s_goes_to) (defBody s_goes_to) (defScope s_goes_to) .none kV2 dc2 pm2 an2 cd2 ct2), sl2⟩) (c2 : PySem.W.codeIn K cd2 "goes_to" = true) (k2 : PySem.W.keepIn K (.ref f2) = true)
    (a3 : PySem.W.nsIn K mainGlobals "behind" = some (some (.ref f3))) (l3 : K.lookup f3 = some ⟨oc3, od3, .func (PySem.W.fnOf "behind" "behind" (defArgs s_behind) (defBody s_behind) (defScope s_behind) .none kV3 dc3 pm3 an3 cd3 ct3), sl3⟩) (c3 : PySem.W.codeIn K cd3 "behind" = true) (k3 : PySem.W.keepIn K (.ref f3) = true)
    (a4 : PySem.W.nsIn K mainGlobals "lands" = some (some (.ref f4))) (l4 : K.lookup f4 = some ⟨oc4, od4, .func (PySem.W.fnOf "lands" "lands" (defArgs s_lands) (defBody s_lands) (defScope s_lands) .none kV4 dc4 pm4 an4 cd4 ct4), sl4⟩) (c4 : PySem.W.codeIn K cd4 "lands" = true) (k4 : PySem.W.keepIn K (.ref f4) = true)
    (a5 : PySem.W.nsIn K mainGlobals "land_from" = some (some (.ref f5))) (l5 : K.lookup f5 = some ⟨oc5, od5, .func (PySem.W.fnOf "land_from" "land_from" (defArgs s_land_from) (defBody s_land_from) (defScope s_land_from) .none kV5 dc5 pm5 an5 cd5 ct5), sl5⟩) (c5 : PySem.W.codeIn K cd5 "land_from" = true) (k5 : PySem.W.keepIn K (.ref f5) = true)
    (a6 : PySem.W.nsIn K mainGlobals "is_shape" = some (some (.ref f6))) (l6 : K.lookup f6 = some ⟨oc6, od6, .func (PySem.W.fnOf "is_shape" "is_shape" (defArgs s_is_shape) (defBody s_is_shape) (defScope s_is_shape) .none kV6 dc6 pm6 an6 cd6 ct6), sl6⟩) (c6 : PySem.W.codeIn K cd6 "is_shape" = true) (k6 : PySem.W.keepIn K (.ref f6) = true)
    (a7 : PySem.W.nsIn K mainGlobals "places_close" = some (some (.ref f7))) (l7 : K.lookup f7 = some ⟨oc7, od7, .func (PySem.W.fnOf "places_close" "places_close" (defArgs s_places_close) (defBody s_places_close) (defScope s_places_close) .none kV7 dc7 pm7 an7 cd7 ct7), sl7⟩) (c7 : PySem.W.codeIn K cd7 "places_close" = true) (k7 : PySem.W.keepIn K (.ref f7) = true)
    (a8 : PySem.W.nsIn K mainGlobals "lands_close" = some (some (.ref f8))) (l8 : K.lookup f8 = some ⟨oc8, od8, .func (PySem.W.fnOf "lands_close" "lands_close" (defArgs s_lands_close) (defBody s_lands_close) (defScope s_lands_close) .none kV8 dc8 pm8 an8 cd8 ct8), sl8⟩) (c8 : PySem.W.codeIn K cd8 "lands_close" = true) (k8 : PySem.W.keepIn K (.ref f8) = true)
    (a9 : PySem.W.nsIn K mainGlobals "wanted_sum" = some (some (.ref f9))) (l9 : K.lookup f9 = some ⟨oc9, od9, .func (PySem.W.fnOf "wanted_sum" "wanted_sum" (defArgs s_wanted_sum) (defBody s_wanted_sum) (defScope s_wanted_sum) .none kV9 dc9 pm9 an9 cd9 ct9), sl9⟩) (c9 : PySem.W.codeIn K cd9 "wanted_sum" = true) (k9 : PySem.W.keepIn K (.ref f9) = true)
    (a10 : PySem.W.nsIn K mainGlobals "land_sum" = some (some (.ref f10))) (l10 : K.lookup f10 = some ⟨oc10, od10, .func (PySem.W.fnOf "land_sum" "land_sum" (defArgs s_land_sum) (defBody s_land_sum) (defScope s_land_sum) .none kV10 dc10 pm10 an10 cd10 ct10), sl10⟩) (c10 : PySem.W.codeIn K cd10 "land_sum" = true) (k10 : PySem.W.keepIn K (.ref f10) = true)
    (a11 : PySem.W.nsIn K mainGlobals "_law_cell_at" = some (some (.ref f11))) (l11 : K.lookup f11 = some ⟨oc11, od11, .func (PySem.W.fnOf "_law_cell_at" "_law_cell_at" (defArgs s_l_cell_at) (defBody s_l_cell_at) (defScope s_l_cell_at) .none kV11 dc11 pm11 an11 cd11 ct11), sl11⟩) (c11 : PySem.W.codeIn K cd11 "_law_cell_at" = true) (k11 : PySem.W.keepIn K (.ref f11) = true)
    (a12 : PySem.W.nsIn K mainGlobals "_law_mix" = some (some (.ref f12))) (l12 : K.lookup f12 = some ⟨oc12, od12, .func (PySem.W.fnOf "_law_mix" "_law_mix" (defArgs s_l_mix) (defBody s_l_mix) (defScope s_l_mix) .none kV12 dc12 pm12 an12 cd12 ct12), sl12⟩) (c12 : PySem.W.codeIn K cd12 "_law_mix" = true) (k12 : PySem.W.keepIn K (.ref f12) = true)
    (a13 : PySem.W.nsIn K mainGlobals "_law_digit" = some (some (.ref f13))) (l13 : K.lookup f13 = some ⟨oc13, od13, .func (PySem.W.fnOf "_law_digit" "_law_digit" (defArgs s_l_digit) (defBody s_l_digit) (defScope s_l_digit) .none kV13 dc13 pm13 an13 cd13 ct13), sl13⟩) (c13 : PySem.W.codeIn K cd13 "_law_digit" = true) (k13 : PySem.W.keepIn K (.ref f13) = true)
    (a14 : PySem.W.nsIn K mainGlobals "_law_turned" = some (some (.ref f14))) (l14 : K.lookup f14 = some ⟨oc14, od14, .func (PySem.W.fnOf "_law_turned" "_law_turned" (defArgs s_l_turned) (defBody s_l_turned) (defScope s_l_turned) .none kV14 dc14 pm14 an14 cd14 ct14), sl14⟩) (c14 : PySem.W.codeIn K cd14 "_law_turned" = true) (k14 : PySem.W.keepIn K (.ref f14) = true)
    (a15 : PySem.W.nsIn K mainGlobals "_law_other" = some (some (.ref f15))) (l15 : K.lookup f15 = some ⟨oc15, od15, .func (PySem.W.fnOf "_law_other" "_law_other" (defArgs s_l_other) (defBody s_l_other) (defScope s_l_other) .none kV15 dc15 pm15 an15 cd15 ct15), sl15⟩) (c15 : PySem.W.codeIn K cd15 "_law_other" = true) (k15 : PySem.W.keepIn K (.ref f15) = true)
    (a16 : PySem.W.nsIn K mainGlobals "_law_place" = some (some (.ref f16))) (l16 : K.lookup f16 = some ⟨oc16, od16, .func (PySem.W.fnOf "_law_place" "_law_place" (defArgs s_l_place) (defBody s_l_place) (defScope s_l_place) .none kV16 dc16 pm16 an16 cd16 ct16), sl16⟩) (c16 : PySem.W.codeIn K cd16 "_law_place" = true) (k16 : PySem.W.keepIn K (.ref f16) = true)
    (a17 : PySem.W.nsIn K mainGlobals "_law_behind" = some (some (.ref f17))) (l17 : K.lookup f17 = some ⟨oc17, od17, .func (PySem.W.fnOf "_law_behind" "_law_behind" (defArgs s_l_behind) (defBody s_l_behind) (defScope s_l_behind) .none kV17 dc17 pm17 an17 cd17 ct17), sl17⟩) (c17 : PySem.W.codeIn K cd17 "_law_behind" = true) (k17 : PySem.W.keepIn K (.ref f17) = true)
    (a18 : PySem.W.nsIn K mainGlobals "_law_lands" = some (some (.ref f18))) (l18 : K.lookup f18 = some ⟨oc18, od18, .func (PySem.W.fnOf "_law_lands" "_law_lands" (defArgs s_l_lands) (defBody s_l_lands) (defScope s_l_lands) .none kV18 dc18 pm18 an18 cd18 ct18), sl18⟩) (c18 : PySem.W.codeIn K cd18 "_law_lands" = true) (k18 : PySem.W.keepIn K (.ref f18) = true)
    (a19 : PySem.W.nsIn K mainGlobals "_law_step" = some (some (.ref f19))) (l19 : K.lookup f19 = some ⟨oc19, od19, .func (PySem.W.fnOf "_law_step" "_law_step" (defArgs s_l_step) (defBody s_l_step) (defScope s_l_step) .none kV19 dc19 pm19 an19 cd19 ct19), sl19⟩) (c19 : PySem.W.codeIn K cd19 "_law_step" = true) (k19 : PySem.W.keepIn K (.ref f19) = true)
    (a20 : PySem.W.nsIn K mainGlobals "_law_renamed" = some (some (.ref f20))) (l20 : K.lookup f20 = some ⟨oc20, od20, .func (PySem.W.fnOf "_law_renamed" "_law_renamed" (defArgs s_l_renamed) (defBody s_l_renamed) (defScope s_l_renamed) .none kV20 dc20 pm20 an20 cd20 ct20), sl20⟩) (c20 : PySem.W.codeIn K cd20 "_law_renamed" = true) (k20 : PySem.W.keepIn K (.ref f20) = true)
    (a21 : PySem.W.nsIn K mainGlobals "_law_map" = some (some (.ref f21))) (l21 : K.lookup f21 = some ⟨oc21, od21, .func (PySem.W.fnOf "_law_map" "_law_map" (defArgs s_l_map) (defBody s_l_map) (defScope s_l_map) .none kV21 dc21 pm21 an21 cd21 ct21), sl21⟩) (c21 : PySem.W.codeIn K cd21 "_law_map" = true) (k21 : PySem.W.keepIn K (.ref f21) = true)
    (a22 : PySem.W.nsIn K mainGlobals "_law_base" = some (some (.ref f22))) (l22 : K.lookup f22 = some ⟨oc22, od22, .func (PySem.W.fnOf "_law_base" "_law_base" (defArgs s_l_base) (defBody s_l_base) (defScope s_l_base) .none kV22 dc22 pm22 an22 cd22 ct22), sl22⟩) (c22 : PySem.W.codeIn K cd22 "_law_base" = true) (k22 : PySem.W.keepIn K (.ref f22) = true)
    (a23 : PySem.W.nsIn K mainGlobals "_law_sum" = some (some (.ref f23))) (l23 : K.lookup f23 = some ⟨oc23, od23, .func (PySem.W.fnOf "_law_sum" "_law_sum" (defArgs s_l_sum) (defBody s_l_sum) (defScope s_l_sum) .none kV23 dc23 pm23 an23 cd23 ct23), sl23⟩) (c23 : PySem.W.codeIn K cd23 "_law_sum" = true) (k23 : PySem.W.keepIn K (.ref f23) = true)
    (a24 : PySem.W.nsIn K mainGlobals "_law_walked" = some (some (.ref f24))) (l24 : K.lookup f24 = some ⟨oc24, od24, .func (PySem.W.fnOf "_law_walked" "_law_walked" (defArgs s_l_walked) (defBody s_l_walked) (defScope s_l_walked) .none kV24 dc24 pm24 an24 cd24 ct24), sl24⟩) (c24 : PySem.W.codeIn K cd24 "_law_walked" = true) (k24 : PySem.W.keepIn K (.ref f24) = true)
    (a25 : PySem.W.nsIn K mainGlobals "_law_is_shape" = some (some (.ref f25))) (l25 : K.lookup f25 = some ⟨oc25, od25, .func (PySem.W.fnOf "_law_is_shape" "_law_is_shape" (defArgs s_l_is_shape) (defBody s_l_is_shape) (defScope s_l_is_shape) .none kV25 dc25 pm25 an25 cd25 ct25), sl25⟩) (c25 : PySem.W.codeIn K cd25 "_law_is_shape" = true) (k25 : PySem.W.keepIn K (.ref f25) = true)
    (a26 : PySem.W.nsIn K mainGlobals "_law_bent" = some (some (.ref f26))) (l26 : K.lookup f26 = some ⟨oc26, od26, .func (PySem.W.fnOf "_law_bent" "_law_bent" (defArgs s_l_bent) (defBody s_l_bent) (defScope s_l_bent) .none kV26 dc26 pm26 an26 cd26 ct26), sl26⟩) (c26 : PySem.W.codeIn K cd26 "_law_bent" = true) (k26 : PySem.W.keepIn K (.ref f26) = true)
    (a27 : PySem.W.nsIn K mainGlobals "_law_right" = some (some (.ref f27))) (l27 : K.lookup f27 = some ⟨oc27, od27, .func (PySem.W.fnOf "_law_right" "_law_right" (defArgs s_l_right) (defBody s_l_right) (defScope s_l_right) .none kV27 dc27 pm27 an27 cd27 ct27), sl27⟩) (c27 : PySem.W.codeIn K cd27 "_law_right" = true) (k27 : PySem.W.keepIn K (.ref f27) = true)
    (a28 : PySem.W.nsIn K mainGlobals "law" = some (some (.ref f28))) (l28 : K.lookup f28 = some ⟨oc28, od28, .func (PySem.W.fnOf "law" "law" (defArgs s_law) (defBody s_law) (defScope s_law) .none kV28 dc28 pm28 an28 cd28 ct28), sl28⟩) (c28 : PySem.W.codeIn K cd28 "law" = true) (k28 : PySem.W.keepIn K (.ref f28) = true)
    (z0 : PySem.W.nsIn K mainGlobals "all" = some none)
    (z1 : PySem.W.nsIn K mainGlobals "bool" = some none)
    (z2 : PySem.W.nsIn K mainGlobals "enumerate" = some none)
    (z3 : PySem.W.nsIn K mainGlobals "int" = some none)
    (z4 : PySem.W.nsIn K mainGlobals "isinstance" = some none)
    (z5 : PySem.W.nsIn K mainGlobals "len" = some none)
    (z6 : PySem.W.nsIn K mainGlobals "list" = some none)
    (z7 : PySem.W.nsIn K mainGlobals "max" = some none)
    (z8 : PySem.W.nsIn K mainGlobals "min" = some none)
    (z9 : PySem.W.nsIn K mainGlobals "range" = some none)
    (z10 : PySem.W.nsIn K mainGlobals "sum" = some none)
    (gq : PySem.W.nsIn K mainGlobals "QUARTERS_ROUND" = some (some (.int 4 qt)))
    : ∃ fd : FuncData, (∀ (s : Shared) (v : Value), BindsTo s fd ⟨[v], []⟩ [("_law_script", v)]) ∧ ∀ base : Heap, K.In base → base.Ns mainGlobals mg → FnOk l.prog w K mg base CX0 lawK fa fd ["_law_script"] (spLaw K) := by
  have e := hfa.symm.trans (PySem.W.mg_of X G a28)
  cases e
  have F0 := fun_mk (st := s_other_end) l0 c0 k0
  have b0 := F0.binds (ps := ["end"]) fun _ _ _ _ _ _ us hl => match us, hl with | [_], _ => rfl
  have F1 := fun_mk (st := s_place_of) l1 c1 k1
  have b1 := F1.binds (ps := ["web", "end"]) fun _ _ _ _ _ _ us hl => match us, hl with | [_, _], _ => rfl
  have F2 := fun_mk (st := s_goes_to) l2 c2 k2
  have b2 := F2.binds (ps := ["web", "end"]) fun _ _ _ _ _ _ us hl => match us, hl with | [_, _], _ => rfl
  have F3 := fun_mk (st := s_behind) l3 c3 k3
  have b3 := F3.binds (ps := ["web", "end"]) fun _ _ _ _ _ _ us hl => match us, hl with | [_, _], _ => rfl
  have F4 := fun_mk (st := s_lands) l4 c4 k4
  have b4 := F4.binds (ps := ["web"]) fun _ _ _ _ _ _ us hl => match us, hl with | [_], _ => rfl
  have F5 := fun_mk (st := s_land_from) l5 c5 k5
  have b5 := F5.binds (ps := ["web", "first"]) fun _ _ _ _ _ _ us hl => match us, hl with | [_, _], _ => rfl
  have F6 := fun_mk (st := s_is_shape) l6 c6 k6
  have b6 := F6.binds (ps := ["web", "outer", "shape"]) fun _ _ _ _ _ _ us hl => match us, hl with | [_, _, _], _ => rfl
  have F7 := fun_mk (st := s_places_close) l7 c7 k7
  have b7 := F7.binds (ps := ["web", "corners"]) fun _ _ _ _ _ _ us hl => match us, hl with | [_, _], _ => rfl
  have F8 := fun_mk (st := s_lands_close) l8 c8 k8
  have b8 := F8.binds (ps := ["web", "outer", "corners", "lefts"]) fun _ _ _ _ _ _ us hl => match us, hl with | [_, _, _, _], _ => rfl
  have F9 := fun_mk (st := s_wanted_sum) l9 c9 k9
  have b9 := F9.binds (ps := ["number", "outer"]) fun _ _ _ _ _ _ us hl => match us, hl with | [_, _], _ => rfl
  have F10 := fun_mk (st := s_land_sum) l10 c10 k10
  have b10 := F10.binds (ps := ["land", "corners", "lefts"]) fun _ _ _ _ _ _ us hl => match us, hl with | [_, _, _], _ => rfl
  have F11 := fun_mk (st := s_l_cell_at) l11 c11 k11
  have b11 := F11.binds (ps := ["_law_script", "_law_k"]) fun _ _ _ _ _ _ us hl => match us, hl with | [_, _], _ => rfl
  have F12 := fun_mk (st := s_l_mix) l12 c12 k12
  have b12 := F12.binds (ps := ["_law_cell", "_law_k"]) fun _ _ _ _ _ _ us hl => match us, hl with | [_, _], _ => rfl
  have F13 := fun_mk (st := s_l_digit) l13 c13 k13
  have b13 := F13.binds (ps := ["_law_number", "_law_by", "_law_k"]) fun _ _ _ _ _ _ us hl => match us, hl with | [_, _, _], _ => rfl
  have F14 := fun_mk (st := s_l_turned) l14 c14 k14
  have b14 := F14.binds (ps := ["_law_number", "_law_many"]) fun _ _ _ _ _ _ us hl => match us, hl with | [_, _], _ => rfl
  have F15 := fun_mk (st := s_l_other) l15 c15 k15
  have b15 := F15.binds (ps := ["_law_end"]) fun _ _ _ _ _ _ us hl => match us, hl with | [_], _ => rfl
  have F16 := fun_mk (st := s_l_place) l16 c16 k16
  have b16 := F16.binds (ps := ["_law_ties", "_law_end"]) fun _ _ _ _ _ _ us hl => match us, hl with | [_, _], _ => rfl
  have F17 := fun_mk (st := s_l_behind) l17 c17 k17
  have b17 := F17.binds (ps := ["_law_ties", "_law_orders", "_law_end"]) fun _ _ _ _ _ _ us hl => match us, hl with | [_, _, _], _ => rfl
  have F18 := fun_mk (st := s_l_lands) l18 c18 k18
  have b18 := F18.binds (ps := ["_law_ties", "_law_orders"]) fun _ _ _ _ _ _ us hl => match us, hl with | [_, _], _ => rfl
  have F19 := fun_mk (st := s_l_step) l19 c19 k19
  have b19 := F19.binds (ps := ["_law_ties", "_law_orders", "_law_pick", "_law_most"]) fun _ _ _ _ _ _ us hl => match us, hl with | [_, _, _, _], _ => rfl
  have F20 := fun_mk (st := s_l_renamed) l20 c20 k20
  have b20 := F20.binds (ps := ["_law_ties", "_law_orders", "_law_cell"]) fun _ _ _ _ _ _ us hl => match us, hl with | [_, _, _], _ => rfl
  have F21 := fun_mk (st := s_l_map) l21 c21 k21
  have b21 := F21.binds (ps := ["_law_script", "_law_steps", "_law_most"]) fun _ _ _ _ _ _ us hl => match us, hl with | [_, _, _], _ => rfl
  have F22 := fun_mk (st := s_l_base) l22 c22 k22
  have b22 := F22.binds (ps := ["_law_web", "_law_outer"]) fun _ _ _ _ _ _ us hl => match us, hl with | [_, _], _ => rfl
  have F23 := fun_mk (st := s_l_sum) l23 c23 k23
  have b23 := F23.binds (ps := ["_law_land", "_law_corners", "_law_lefts"]) fun _ _ _ _ _ _ us hl => match us, hl with | [_, _, _], _ => rfl
  have F24 := fun_mk (st := s_l_walked) l24 c24 k24
  have b24 := F24.binds (ps := ["_law_web", "_law_shape", "_law_cell", "_law_many"]) fun _ _ _ _ _ _ us hl => match us, hl with | [_, _, _, _], _ => rfl
  have F25 := fun_mk (st := s_l_is_shape) l25 c25 k25
  have b25 := F25.binds (ps := ["_law_web", "_law_outer", "_law_shape"]) fun _ _ _ _ _ _ us hl => match us, hl with | [_, _, _], _ => rfl
  have F26 := fun_mk (st := s_l_bent) l26 c26 k26
  have b26 := F26.binds (ps := ["_law_shape", "_law_pick"]) fun _ _ _ _ _ _ us hl => match us, hl with | [_, _], _ => rfl
  have F27 := fun_mk (st := s_l_right) l27 c27 k27
  have b27 := F27.binds (ps := ["_law_web", "_law_outer", "_law_shape"]) fun _ _ _ _ _ _ us hl => match us, hl with | [_, _, _], _ => rfl
  have F28 := fun_mk (st := s_law) l28 c28 k28
  have b28 := F28.binds (ps := ["_law_script"]) fun _ _ _ _ _ _ us hl => match us, hl with | [_], _ => rfl
  have T : Txt K mg { q_tok := qt, a_other_end := f0, d_other_end := _, a_place_of := f1, d_place_of := _, a_goes_to := f2, d_goes_to := _, a_behind := f3, d_behind := _, a_lands := f4, d_lands := _, a_land_from := f5, d_land_from := _, a_is_shape := f6, d_is_shape := _, a_places_close := f7, d_places_close := _, a_lands_close := f8, d_lands_close := _, a_wanted_sum := f9, d_wanted_sum := _, a_land_sum := f10, d_land_sum := _, a_l_cell_at := f11, d_l_cell_at := _, a_l_mix := f12, d_l_mix := _, a_l_digit := f13, d_l_digit := _, a_l_turned := f14, d_l_turned := _, a_l_other := f15, d_l_other := _, a_l_place := f16, d_l_place := _, a_l_behind := f17, d_l_behind := _, a_l_lands := f18, d_l_lands := _, a_l_step := f19, d_l_step := _, a_l_renamed := f20, d_l_renamed := _, a_l_map := f21, d_l_map := _, a_l_base := f22, d_l_base := _, a_l_sum := f23, d_l_sum := _, a_l_walked := f24, d_l_walked := _, a_l_is_shape := f25, d_l_is_shape := _, a_l_bent := f26, d_l_bent := _, a_l_right := f27, d_l_right := _, a_law := fa, d_law := _ } := { g_QUARTERS_ROUND := PySem.W.mg_of X G gq, F_other_end := F0, m_other_end := PySem.W.mg_of X G a0, k_other_end := k0, b_other_end := b0, F_place_of := F1, m_place_of := PySem.W.mg_of X G a1, k_place_of := k1, b_place_of := b1, F_goes_to := F2, m_goes_to := PySem.W.mg_of X G a2, k_goes_to := k2, b_goes_to := b2, F_behind := F3, m_behind := PySem.W.mg_of X G a3, k_behind := k3, b_behind := b3, F_lands := F4, m_lands := PySem.W.mg_of X G a4, k_lands := k4, b_lands := b4, F_land_from := F5, m_land_from := PySem.W.mg_of X G a5, k_land_from := k5, b_land_from := b5, F_is_shape := F6, m_is_shape := PySem.W.mg_of X G a6, k_is_shape := k6, b_is_shape := b6, F_places_close := F7, m_places_close := PySem.W.mg_of X G a7, k_places_close := k7, b_places_close := b7, F_lands_close := F8, m_lands_close := PySem.W.mg_of X G a8, k_lands_close := k8, b_lands_close := b8, F_wanted_sum := F9, m_wanted_sum := PySem.W.mg_of X G a9, k_wanted_sum := k9, b_wanted_sum := b9, F_land_sum := F10, m_land_sum := PySem.W.mg_of X G a10, k_land_sum := k10, b_land_sum := b10, F_l_cell_at := F11, m_l_cell_at := PySem.W.mg_of X G a11, k_l_cell_at := k11, b_l_cell_at := b11, F_l_mix := F12, m_l_mix := PySem.W.mg_of X G a12, k_l_mix := k12, b_l_mix := b12, F_l_digit := F13, m_l_digit := PySem.W.mg_of X G a13, k_l_digit := k13, b_l_digit := b13, F_l_turned := F14, m_l_turned := PySem.W.mg_of X G a14, k_l_turned := k14, b_l_turned := b14, F_l_other := F15, m_l_other := PySem.W.mg_of X G a15, k_l_other := k15, b_l_other := b15, F_l_place := F16, m_l_place := PySem.W.mg_of X G a16, k_l_place := k16, b_l_place := b16, F_l_behind := F17, m_l_behind := PySem.W.mg_of X G a17, k_l_behind := k17, b_l_behind := b17, F_l_lands := F18, m_l_lands := PySem.W.mg_of X G a18, k_l_lands := k18, b_l_lands := b18, F_l_step := F19, m_l_step := PySem.W.mg_of X G a19, k_l_step := k19, b_l_step := b19, F_l_renamed := F20, m_l_renamed := PySem.W.mg_of X G a20, k_l_renamed := k20, b_l_renamed := b20, F_l_map := F21, m_l_map := PySem.W.mg_of X G a21, k_l_map := k21, b_l_map := b21, F_l_base := F22, m_l_base := PySem.W.mg_of X G a22, k_l_base := k22, b_l_base := b22, F_l_sum := F23, m_l_sum := PySem.W.mg_of X G a23, k_l_sum := k23, b_l_sum := b23, F_l_walked := F24, m_l_walked := PySem.W.mg_of X G a24, k_l_walked := k24, b_l_walked := b24, F_l_is_shape := F25, m_l_is_shape := PySem.W.mg_of X G a25, k_l_is_shape := k25, b_l_is_shape := b25, F_l_bent := F26, m_l_bent := PySem.W.mg_of X G a26, k_l_bent := k26, b_l_bent := b26, F_l_right := F27, m_l_right := PySem.W.mg_of X G a27, k_l_right := k27, b_l_right := b27, F_law := F28, m_law := PySem.W.mg_of X G a28, k_law := k28, b_law := b28, z_all := PySem.W.mg_none_of X G z0, z_bool := PySem.W.mg_none_of X G z1, z_enumerate := PySem.W.mg_none_of X G z2, z_int := PySem.W.mg_none_of X G z3, z_isinstance := PySem.W.mg_none_of X G z4, z_len := PySem.W.mg_none_of X G z5, z_list := PySem.W.mg_none_of X G z6, z_max := PySem.W.mg_none_of X G z7, z_min := PySem.W.mg_none_of X G z8, z_range := PySem.W.mg_none_of X G z9, z_sum := PySem.W.mg_none_of X G z10 }
  exact ⟨_, fun s v => .of_eq rfl, fun base _ _ => ok_law T⟩
theorem walk {l : PySem.W.OpenLaw} {q : Program} {loose : List Str} {XP : (Str → Option Value) → Heap → Prop} {YP : World → Heap → Prop} {d : DefRec} {K : Params → PySem.W.Frag} (hn : l.most = some 63) (hdf : d.params.defaults = [])
    (hY : ∀ (w : World) (h : Heap), YP w h → (K w.params).In h)
    (F : ∀ (w : World) (mg : Str → Option Value) (fa : Addr) (h : Heap), (K w.params).In h → h.Ns mainGlobals mg → mg d.name = some (.ref fa) →
      ∃ fd : FuncData, (∀ (s : Shared) (u : Value), BindsTo s fd ⟨[u], []⟩ [("_law_script", u)]) ∧ ∀ base : Heap, (K w.params).In base → base.Ns mainGlobals mg → FnOk l.prog w (K w.params) mg base CX0 lawK fa fd ["_law_script"] (spLaw (K w.params))) :
    PySem.W.WalkO q loose XP YP l.row.toRowW d [] (fun f vs => PySem.call f vs) :=
  L2.walk_of (n := 63) (k := lawK) (x := "_law_script") (CX := fun _ => CX0) (sp := fun w => spLaw (K w.params)) hn (by decide) hdf ⟨rfl, by decide, by decide⟩ hY F (fun _ _ a ns hl _ hS => ⟨a, ns, rfl, hS, hl, fun _ => rfl⟩) fun _ _ _ _ _ z => z
end K05
def PySem.W.Fast.tw4497369428223689980 : Nat := 0
def PySem.W.Fast.tw3635510445382488481 : Nat := 0
def PySem.W.Fast.tw10866329708330897332 : Nat := 0
def PySem.W.Fast.tw10708941426353645739 : Nat := 0
def PySem.W.Fast.tw5093032117325818661 : Nat := 0
def PySem.W.Fast.tw18082682907042099900 : Nat := 0
def PySem.W.Fast.tw15331024447928315991 : Nat := 0
def PySem.W.Fast.tw1647589653056415591 : Nat := 0
def PySem.W.Fast.tw16683793223944534523 : Nat := 0
def PySem.W.Fast.tw6643270545850886694 : Nat := 0
def PySem.W.Fast.tw13143419198708746840 : Nat := 0
def PySem.W.Fast.tw2005704352677374111 : Nat := 0
def PySem.W.Fast.tw13485329963778375015 : Nat := 0
def PySem.W.Fast.tw14518281176442909111 : Nat := 0
def PySem.W.Fast.tw14627123407178679627 : Nat := 0
def PySem.W.Fast.tw6521523186827834674 : Nat := 0
def PySem.W.Fast.tw9282706194719763410 : Nat := 0
def PySem.W.Fast.tw17084521517619457752 : Nat := 0
def PySem.W.Fast.tw10982650837945266654 : Nat := 0
def PySem.W.Fast.tw1004059280461600541 : Nat := 0
def PySem.W.Fast.tw17495044381720445649 : Nat := 0
def PySem.W.Fast.tw18182883277950684276 : Nat := 0
def PySem.W.Fast.tw1848614159116592435 : Nat := 0
def PySem.W.Fast.tw11940813379275430721 : Nat := 0
def PySem.W.Fast.tw16855462601884225304 : Nat := 0
def PySem.W.Fast.tw17670159831366927521 : Nat := 0
def PySem.W.Fast.tw1500422794990749026 : Nat := 0
def PySem.W.Fast.tw16720169889440438301 : Nat := 0
def PySem.W.Fast.tw11125051717395971281 : Nat := 0
def PySem.W.Fast.tw1163219600070684384 : Nat := 0
def PySem.W.Fast.tw5599391802718005019 : Nat := 0
def PySem.W.Fast.tw10014460476184936736 : Nat := 0
def PySem.W.Fast.tw13802055075747081711 : Nat := 0
def PySem.W.Fast.tw4977026935686432248 : Nat := 0
def PySem.W.Fast.tw12003605302289129630 : Nat := 0
def PySem.W.Fast.tw5484492044302656994 : Nat := 0
def PySem.W.Fast.tw169003907649639538 : Nat := 0
def PySem.W.Fast.tw9919227303680928697 : Nat := 0
def PySem.W.Fast.tw17605297925015700488 : Nat := 0
open PySem PySem.W PyProof.Rows
set_option maxRecDepth 100000 in
set_option maxHeartbeats 0 in
theorem PySem.Challenge.cw_fewbends_k05_shapes_looked_at_holds : PySem.Challenge.rw_fewbends_k05_shapes_looked_at.Holds := by
  w_on; o_law; k_head; (case hw => w_witness2)
  k_fill
  refine K05.walk (l := PySem.Challenge.rw_fewbends_k05_shapes_looked_at) rfl rfl (fun w h Y => PySem.W.kIn_of Y) ?F
  case F =>
    intro w mg fa h KX G hmg
    refine' K05.all_mk KX G hmg ?a0 ?l0 ?c0 ?k0 ?a1 ?l1 ?c1 ?k1 ?a2 ?l2 ?c2 ?k2 ?a3 ?l3 ?c3 ?k3 ?a4 ?l4 ?c4 ?k4 ?a5 ?l5 ?c5 ?k5 ?a6 ?l6 ?c6 ?k6 ?a7 ?l7 ?c7 ?k7 ?a8 ?l8 ?c8 ?k8 ?a9 ?l9 ?c9 ?k9 ?a10 ?l10 ?c10 ?k10 ?a11 ?l11 ?c11 ?k11 ?a12 ?l12 ?c12 ?k12 ?a13 ?l13 ?c13 ?k13 ?a14 ?l14 ?c14 ?k14 ?a15 ?l15 ?c15 ?k15 ?a16 ?l16 ?c16 ?k16 ?a17 ?l17 ?c17 ?k17 ?a18 ?l18 ?c18 ?k18 ?a19 ?l19 ?c19 ?k19 ?a20 ?l20 ?c20 ?k20 ?a21 ?l21 ?c21 ?k21 ?a22 ?l22 ?c22 ?k22 ?a23 ?l23 ?c23 ?k23 ?a24 ?l24 ?c24 ?k24 ?a25 ?l25 ?c25 ?k25 ?a26 ?l26 ?c26 ?k26 ?a27 ?l27 ?c27 ?k27 ?a28 ?l28 ?c28 ?k28 ?z0 ?z1 ?z2 ?z3 ?z4 ?z5 ?z6 ?z7 ?z8 ?z9 ?z10 ?gq
    (case a0 => k_is); (case l0 => k_is); (case c0 => k_is); (case k0 => k_is)
    (case a1 => k_is); (case l1 => k_is); (case c1 => k_is); (case k1 => k_is)
    (case a2 => k_is); (case l2 => k_is); (case c2 => k_is); (case k2 => k_is)
    (case a3 => k_is); (case l3 => k_is); (case c3 => k_is); (case k3 => k_is)
    (case a4 => k_is); (case l4 => k_is); (case c4 => k_is); (case k4 => k_is)
    (case a5 => k_is); (case l5 => k_is); (case c5 => k_is); (case k5 => k_is)
    (case a6 => k_is); (case l6 => k_is); (case c6 => k_is); (case k6 => k_is)
    (case a7 => k_is); (case l7 => k_is); (case c7 => k_is); (case k7 => k_is)
    (case a8 => k_is); (case l8 => k_is); (case c8 => k_is); (case k8 => k_is)
    (case a9 => k_is); (case l9 => k_is); (case c9 => k_is); (case k9 => k_is)
    (case a10 => k_is); (case l10 => k_is); (case c10 => k_is); (case k10 => k_is)
    (case a11 => k_is); (case l11 => k_is); (case c11 => k_is); (case k11 => k_is)
    (case a12 => k_is); (case l12 => k_is); (case c12 => k_is); (case k12 => k_is)
    (case a13 => k_is); (case l13 => k_is); (case c13 => k_is); (case k13 => k_is)
    (case a14 => k_is); (case l14 => k_is); (case c14 => k_is); (case k14 => k_is)
    (case a15 => k_is); (case l15 => k_is); (case c15 => k_is); (case k15 => k_is)
    (case a16 => k_is); (case l16 => k_is); (case c16 => k_is); (case k16 => k_is)
    (case a17 => k_is); (case l17 => k_is); (case c17 => k_is); (case k17 => k_is)
    (case a18 => k_is); (case l18 => k_is); (case c18 => k_is); (case k18 => k_is)
    (case a19 => k_is); (case l19 => k_is); (case c19 => k_is); (case k19 => k_is)
    (case a20 => k_is); (case l20 => k_is); (case c20 => k_is); (case k20 => k_is)
    (case a21 => k_is); (case l21 => k_is); (case c21 => k_is); (case k21 => k_is)
    (case a22 => k_is); (case l22 => k_is); (case c22 => k_is); (case k22 => k_is)
    (case a23 => k_is); (case l23 => k_is); (case c23 => k_is); (case k23 => k_is)
    (case a24 => k_is); (case l24 => k_is); (case c24 => k_is); (case k24 => k_is)
    (case a25 => k_is); (case l25 => k_is); (case c25 => k_is); (case k25 => k_is)
    (case a26 => k_is); (case l26 => k_is); (case c26 => k_is); (case k26 => k_is)
    (case a27 => k_is); (case l27 => k_is); (case c27 => k_is); (case k27 => k_is)
    (case a28 => k_is); (case l28 => k_is); (case c28 => k_is); (case k28 => k_is)
    (case z0 => k_is); (case z1 => k_is); (case z2 => k_is); (case z3 => k_is); (case z4 => k_is); (case z5 => k_is); (case z6 => k_is); (case z7 => k_is); (case z8 => k_is); (case z9 => k_is); (case z10 => k_is); (case gq => k_is)

