import PyProof.Rows.All
import Wide.All
import OpenK.AllK
import Wide.FinOn
import Lean
import PyProof.EqAt
import PyProof.EqKinds
import PyProof.TupleCall
import KE.BitLaws
import KE.KSortTup
import PyProof.MeetsSeq3
import PyProof.FactsAll.list_2
import PyProof.Rows.SortRuns
import PyProof.Rows.SortShell
import PyProof.Rows.SortRev
import PyProof.Rows.SortWalk
import PyProof.FactsAll.tuple_1
import PyProof.DictItems
import KE.KDictSum
import PySem.Challenge.RW_fewbends_k57_shapes_read
set_option Elab.async false
set_option linter.all false
set_option maxRecDepth 100000
namespace L2
open PySem PySem.Spec PyProof.Rows

abbrev Key := Sum Int Str
def keyIs : Key → Value → Bool
  | .inl k, v => Value.isInt k v
  | .inr x, v => Value.isStrOf x v
def keyH (w : World) : Key → Int
  | .inl k => hashInt k
  | .inr x => hashStr w x
theorem keyIs_shape : ∀ {k : Key} {v : Value}, keyIs k v = true → (∃ i t, k = Sum.inl i ∧ v = Value.int i t) ∨ (∃ x t, k = Sum.inr x ∧ v = Value.str x t)
  | .inl i, v, h => by
    obtain ⟨t, e⟩ := Value.isInt_shape (k := i) (v := v) h
    exact .inl ⟨i, t, rfl, e⟩
  | .inr x, v, h => by
    obtain ⟨t, e⟩ := Value.isStrOf_shape (x := x) (v := v) h
    exact .inr ⟨x, t, rfl, e⟩
theorem keyIs_int (i : Int) (t : Tok) : keyIs (.inl i) (.int i t) = true := by simp [keyIs, Value.isInt]
theorem keyIs_str (x : Str) (t : Tok) : keyIs (.inr x) (.str x t) = true := by simp [keyIs, Value.isStrOf]
theorem key_ll (a b : Int) : decide ((Sum.inl a : Key) = Sum.inl b) = (a == b) := by
  by_cases e : a = b
  · subst e; simp
  · have h : ¬ (Sum.inl a : Key) = Sum.inl b := fun q => e (Sum.inl.inj q)
    rw [decide_eq_false h]
    exact (beq_eq_false_iff_ne.mpr e).symm
theorem key_rr (a b : Str) : decide ((Sum.inr a : Key) = Sum.inr b) = decide (a = b) := by
  by_cases e : a = b
  · subst e; simp
  · have h : ¬ (Sum.inr a : Key) = Sum.inr b := fun q => e (Sum.inr.inj q)
    rw [decide_eq_false h, decide_eq_false e]
theorem key_lr (a : Int) (b : Str) : decide ((Sum.inl a : Key) = Sum.inr b) = false := decide_eq_false (fun q => nomatch q)
theorem key_rl (a : Str) (b : Int) : decide ((Sum.inr a : Key) = Sum.inl b) = false := decide_eq_false (fun q => nomatch q)

def mixKind (prog : Program) (w : World) : PySem.KeyKind prog w Key where
  is := keyIs
  hash := keyH w
  inj := fun v a b ha hb => by
    rcases keyIs_shape ha with ⟨i, t, rfl, rfl⟩ | ⟨x, t, rfl, rfl⟩
    · rcases keyIs_shape hb with ⟨j, u, rfl, e⟩ | ⟨y, u, rfl, e⟩
      · injection e with e1 _; rw [e1]
      · exact nomatch e
    · rcases keyIs_shape hb with ⟨j, u, rfl, e⟩ | ⟨y, u, rfl, e⟩
      · exact nomatch e
      · injection e with e1 _; rw [e1]
  byValue := fun k v h => by
    rcases keyIs_shape h with ⟨i, t, rfl, rfl⟩ | ⟨x, t, rfl, rfl⟩ <;> rfl
  pyHash := fun hv h => by
    rcases keyIs_shape hv with ⟨i, t, rfl, rfl⟩ | ⟨x, t, rfl, rfl⟩
    · exact wpAny_pyHash_int h
    · exact wpAny_pyHash_str h
  eqBool := fun hu hv h => by
    rcases keyIs_shape hu with ⟨i, t, rfl, rfl⟩ | ⟨x, t, rfl, rfl⟩
    · rcases keyIs_shape hv with ⟨j, u, rfl, rfl⟩ | ⟨y, u, rfl, rfl⟩
      · rw [key_ll] at h; exact wpAny_eqBool_int h
      · rw [key_lr] at h; exact SeqAt.EqAt.int_str i t y u _ _ _ _ h
    · rcases keyIs_shape hv with ⟨j, u, rfl, rfl⟩ | ⟨y, u, rfl, rfl⟩
      · rw [key_rl] at h; exact SeqAt.EqAt.str_int x t j u _ _ _ _ h
      · rw [key_rr] at h; exact wpAny_eqBool_str h
  «strs» := fun k x t v h => by
    rcases keyIs_shape h with ⟨i, u, rfl, e⟩ | ⟨y, u, rfl, e⟩
    · exact nomatch e
    · injection e with e1 _
      subst e1
      cases v <;> rfl

theorem mixKind_int (prog : Program) (w : World) (i : Int) (t : Tok) : (mixKind prog w).is (.inl i) (.int i t) = true := keyIs_int i t
theorem mixKind_str (prog : Program) (w : World) (x : Str) (t : Tok) : (mixKind prog w).is (.inr x) (.str x t) = true := keyIs_str x t
end L2

namespace L2
open PySem PySem.Spec PyProof.Rows

inductive V where
  | non | bl (b : Bool) | int (i : Int) | str (x : Str) | byt (b : Array UInt8) | flt (b : UInt64) | ref (a : Addr) | ty (n : String)
  deriving DecidableEq

def RelV : V → Value → Prop
  | .non, u => u = Value.none
  | .bl b, u => u = Value.bool b
  | .int i, u => ∃ t, u = Value.int i t
  | .str x, u => ∃ t, u = Value.str x t
  | .byt b, u => ∃ t, u = Value.bytes b t
  | .flt b, u => ∃ t, u = Value.float b t
  | .ref a, u => u = Value.ref a
  | .ty n, u => u = Value.type n

abbrev Vals : List V → List Value → Prop := Paired RelV
theorem Vals.length {xs : List V} {us : List Value} (r : Vals xs us) : xs.length = us.length := Paired.length r
theorem Vals.get : ∀ {xs : List V} {us : List Value} {i : Nat} {x : V}, Vals xs us → xs[i]? = some x → ∃ u, us[i]? = some u ∧ RelV x u
  | _, _, _, _, .nil, e => by simp at e
  | _, _, 0, _, .cons r _, e => by simp at e; subst e; exact ⟨_, rfl, r⟩
  | _, _, i + 1, x, .cons _ t, e => by
    obtain ⟨u, h1, h2⟩ := Vals.get (i := i) (x := x) t (by simpa using e)
    exact ⟨u, by simpa using h1, h2⟩
theorem Vals.append : ∀ {xs ys : List V} {us ws : List Value}, Vals xs us → Vals ys ws → Vals (xs ++ ys) (us ++ ws)
  | _, _, _, _, .nil, s => s
  | _, _, _, _, .cons r t, s => .cons r (Vals.append t s)
theorem Vals.take : ∀ {xs : List V} {us : List Value} (n : Nat), Vals xs us → Vals (xs.take n) (us.take n)
  | _, _, 0, _ => .nil
  | _, _, _ + 1, .nil => .nil
  | _, _, n + 1, .cons r t => .cons r (Vals.take n t)
theorem Vals.drop : ∀ {xs : List V} {us : List Value} (n : Nat), Vals xs us → Vals (xs.drop n) (us.drop n)
  | _, _, 0, r => r
  | _, _, _ + 1, .nil => .nil
  | _, _, n + 1, .cons _ t => Vals.drop n t
def RelO : Option V → Option Value → Prop
  | some v, some u => RelV v u
  | none, none => True
  | _, _ => False
def KV {κ : Type} : List (κ × V) → List (κ × Value) → Prop := Paired fun (p : κ × V) (q : κ × Value) => p.1 = q.1 ∧ RelV p.2 q.2

def kV : Key → V
  | .inl i => .int i
  | .inr x => .str x

inductive HO where
  /-- a list -/
  | lst (xs : List V)
  /-- a tuple (never changes) -/
  | tup (xs : List V)
  /-- a dict whose keys are ints and texts; one whose keys are tuples of ints and texts (the empty one is both) -/
  | dK (kvs : List (Key × V)) | dT (kvs : List (List Key × V))
  /-- a set of ints: its members, its size -/
  | set (S : Int → Bool) (n : Nat)
  /-- an instance of the class at C, its dict at dx, its attributes -/
  | ins (C dx : Addr) (fs : List (Str × V))
  /-- the dict of the instance at x -/
  | own (x : Addr)
  /-- the dict of an exception -/
  | xd (fs : List (Str × V))
  /-- a bound method, f of x -/
  | met (f x : Addr)
  /-- a range object lo, lo + 1, .. below hi -/
  | rng (lo hi : Int)
  /-- a thing that is known to the object (the script; a dict while a loop walks it): read, never written while it is so -/
  | frz (o : Obj) (u : HO)
  /-- a code object's table -/
  | tbl (ps : Array Value)
  /-- any other thing, by what is true of its one object (a def of one's own: SetO a S n := HO.ext fun h => ..) -/
  | ext (φ : Heap → Prop)

abbrev Hp := Addr → Option HO
def upd (H : Hp) (a : Addr) (o : HO) : Hp := fun b => if b = a then some o else H b
theorem upd_same {H : Hp} {a : Addr} {o : HO} : upd H a o a = some o := by unfold upd; rw [if_pos rfl]
theorem upd_ne {H : Hp} {a b : Addr} {o : HO} (h : b ≠ a) : upd H a o b = H b := by unfold upd; rw [if_neg h]
theorem upd_upd {H : Hp} {a : Addr} {o u : HO} : upd (upd H a o) a u = upd H a u := by
  funext b; unfold upd; split <;> rfl
theorem ne_of {H : Hp} {a b : Addr} {o u : HO} (h : H a = some o) (h' : H b = some u) (d : o ≠ u) : a ≠ b := by
  intro e; subst e; rw [h] at h'; exact d (Option.some.inj h')
theorem ne_of_none {H : Hp} {a b : Addr} {o : HO} (h : H a = some o) (h' : H b = none) : a ≠ b := by
  intro e; subst e; rw [h] at h'; cases h'

section
variable (P : Program) (w : World)
def ObjOk (H : Hp) (h : Heap) (a : Addr) : HO → Prop
  | .lst xs => xs.length ≤ sizeLine ∧ ∃ (its : List Value) (n : Nat), Vals xs its ∧ h.get? a = some { cls := .type "list", data := .seq its.toArray n }
  | .tup xs => xs.length ≤ sizeLine ∧ ∃ its : List Value, Vals xs its ∧ IsTup h a its.toArray
  | .dK kvs => kvs.length ≤ sizeLine ∧ (a == sysModules) = false ∧ ∃ vs, KV kvs vs ∧ h.DictOf (mixKind P w) a vs
  | .dT kvs => kvs.length ≤ sizeLine ∧ (a == sysModules) = false ∧ ∃ xs : List (List Key × Addr × Value),
      Paired (fun (p : List Key × V) (q : List Key × Addr × Value) => p.1 = q.1 ∧ H q.2.1 = some (.tup (p.1.map kV)) ∧ RelV p.2 q.2.2) kvs xs ∧
      ∃ o es ep, h.get? a = some o ∧ o.ExactDict ∧ o.data = .dict es ep ∧ es.toList = xs.map (entryOfKey (tupleKind (mixKind P w))) ∧ (xs.map (·.1)).Nodup
  | .set S n => h.SetOf (intKind P w) a S n
  | .ins C dx fs => H dx = some (.own a) ∧ fs.length ≤ 1000 ∧ dx ≠ a ∧ h.get? a = some (PySem.W.instObj C dx) ∧
      ∃ mA, h.Ns1 dx mA ∧ (∀ f, RelO (fs.lookup f) (mA f)) ∧ PySem.Within mA (fs.map (·.1))
  | .own _ => ∃ o, h.get? a = some o
  | .xd fs => ∃ mA, h.Ns1 a mA ∧ ∀ f, RelO (fs.lookup f) (mA f)
  | .rng lo hi => ∃ t u v, h.get? a = some { cls := .type "range", data := .fields #[.int lo t, .int hi u, .int 1 v] }
  | .frz o u => h.get? a = some o ∧ ObjOk H h a u
  | .tbl ps => h.get? a = some { cls := .none, data := .fields ps }
  | .met f x => h.get? a = some (PySem.W.methodObj (.ref f) (.ref x))
  | .ext φ => φ h ∧ (∃ o, h.get? a = some o) ∧ ∀ h1 h2 : Heap, φ h1 → (∀ o, h1.get? a = some o → h2.get? a = some o) → φ h2
def HOk (H : Hp) (h : Heap) : Prop := ∀ a o, H a = some o → ObjOk P w H h a o
end

section
variable {P : Program} {w : World} {H H' : Hp} {h h' : Heap} {a : Addr} {o : HO}
theorem ObjOk.lt (x : ObjOk P w H h a o) : a < h.objs.size := by
  cases o with
  | lst xs => obtain ⟨_, _, _, _, e⟩ := x; exact Heap.lt_size e
  | tup xs => obtain ⟨_, _, _, p⟩ := x; exact p.lt
  | dK kvs => obtain ⟨_, _, _, _, o, _, _, e, _⟩ := x; exact Heap.lt_size e
  | dT kvs => obtain ⟨_, _, _, _, o, _, _, e, _⟩ := x; exact Heap.lt_size e
  | set S n => obtain ⟨o, _, _, _, e, _⟩ := x; exact Heap.lt_size e
  | ins C dx fs => obtain ⟨_, _, _, e, _⟩ := x; exact Heap.lt_size e
  | own y => obtain ⟨_, e⟩ := x; exact Heap.lt_size e
  | xd fs => obtain ⟨_, ⟨_, _, _, e, _⟩, _⟩ := x; exact Heap.lt_size e
  | rng lo hi => obtain ⟨_, _, _, e⟩ := x; exact Heap.lt_size e
  | frz ob u => obtain ⟨e, _⟩ := x; exact Heap.lt_size e
  | tbl ps => exact Heap.lt_size (show h.get? a = some _ from x)
  | met f y => exact Heap.lt_size (show h.get? a = some _ from x)
  | ext φ => obtain ⟨_, ⟨_, e⟩, _⟩ := x; exact Heap.lt_size e
theorem Paired.mapP {α β : Type} {F G : α → β → Prop} : ∀ {l₁ : List α} {l₂ : List β}, Paired F l₁ l₂ → (∀ a b, F a b → G a b) → Paired G l₁ l₂
  | _, _, .nil, _ => .nil
  | _, _, .cons r t, f => .cons (f _ _ r) (Paired.mapP t f)
theorem ObjOk.stay (x : ObjOk P w H h a o) (k : ∀ b u, (b = a ∨ H b = some (.own a)) → h.get? b = some u → h'.get? b = some u)
    (ho : ∀ b, H b = some (.own a) → H' b = some (.own a)) (ht : ∀ b xs, H b = some (.tup xs) → H' b = some (.tup xs)) : ObjOk P w H' h' a o := by
  induction o with
  | lst xs => obtain ⟨z, its, n, r, e⟩ := x; exact ⟨z, its, n, r, k _ _ (.inl rfl) e⟩
  | tup xs => obtain ⟨z, its, r, ob, e, c⟩ := x; exact ⟨z, its, r, ob, k _ _ (.inl rfl) e, c⟩
  | dK kvs => obtain ⟨z, y, vs, r, ob, es, ep, e, c⟩ := x; exact ⟨z, y, vs, r, ob, es, ep, k _ _ (.inl rfl) e, c⟩
  | dT kvs =>
    obtain ⟨z, y, xs, r, ob, es, ep, e, c⟩ := x
    exact ⟨z, y, xs, Paired.mapP r fun p q z => ⟨z.1, ht _ _ z.2.1, z.2.2⟩, ob, es, ep, k _ _ (.inl rfl) e, c⟩
  | set S n => obtain ⟨ob, es, ep, t, e, c⟩ := x; exact ⟨ob, es, ep, t, k _ _ (.inl rfl) e, c⟩
  | ins C dx fs =>
    obtain ⟨d, z, ne, e, mA, ⟨od, es, ep, e2, c⟩, r⟩ := x
    exact ⟨ho _ d, z, ne, k _ _ (.inl rfl) e, mA, ⟨od, es, ep, k _ _ (.inr d) e2, c⟩, r⟩
  | own y => obtain ⟨ob, e⟩ := x; exact ⟨ob, k _ _ (.inl rfl) e⟩
  | xd fs => obtain ⟨mA, ⟨od, es, ep, e, c⟩, r⟩ := x; exact ⟨mA, ⟨od, es, ep, k _ _ (.inl rfl) e, c⟩, r⟩
  | rng lo hi => obtain ⟨t, u, v, e⟩ := x; exact ⟨t, u, v, k _ _ (.inl rfl) e⟩
  | frz ob u ih => obtain ⟨e, q⟩ := x; exact ⟨k _ _ (.inl rfl) e, ih q⟩
  | tbl ps =>
    have e : h.get? a = some { cls := .none, data := .fields ps } := x
    show h'.get? a = some { cls := .none, data := .fields ps }
    exact k a _ (.inl rfl) e
  | met f y =>
    have e : h.get? a = some (PySem.W.methodObj (.ref f) (.ref y)) := x
    show h'.get? a = some (PySem.W.methodObj (.ref f) (.ref y))
    exact k a _ (.inl rfl) e
  | ext φ => obtain ⟨p, ⟨o, e⟩, st⟩ := x; exact ⟨st _ _ p fun o q => k _ _ (.inl rfl) q, ⟨o, k _ _ (.inl rfl) e⟩, st⟩
theorem HOk.lt (x : HOk P w H h) (e : H a = some o) : a < h.objs.size := (x a o e).lt
theorem HOk.fresh (x : HOk P w H h) (e : h.objs.size ≤ a) : H a = none := by
  cases q : H a with
  | none => rfl
  | some u => exact absurd (Nat.lt_of_lt_of_le (x.lt q) e) (Nat.lt_irrefl _)
theorem HOk.kept (x : HOk P w H h) (k : ∀ b u, h.get? b = some u → h'.get? b = some u) : HOk P w H h' := fun a o e =>
  (x a o e).stay (fun b u _ q => k b u q) (fun _ q => q) fun _ _ q => q
theorem HOk.laid (x : HOk P w H h) (k : ∀ b u, h.get? b = some u → h'.get? b = some u) (hp : h.objs.size ≤ a) (new : ObjOk P w (upd H a o) h' a o) : HOk P w (upd H a o) h' := fun b u e => by
  have hn := x.fresh hp
  by_cases hb : b = a
  · subst hb; rw [upd_same] at e; cases e; exact new
  · rw [upd_ne hb] at e
    exact (x b u e).stay (fun c v _ q => k c v q) (fun c q => by rw [upd_ne (ne_of_none q hn)]; exact q) fun c xs q => by rw [upd_ne (ne_of_none q hn)]; exact q
end

def Rd (H : Hp) (a : Addr) (u : HO) : Prop := H a = some u ∨ ∃ o, H a = some (.frz o u)
theorem Rd.ok {P : Program} {w : World} {H : Hp} {h : Heap} {a : Addr} {u : HO} (r : Rd H a u) (x : HOk P w H h) : ObjOk P w H h a u := by
  rcases r with r | ⟨o, r⟩
  · exact x a u r
  · obtain ⟨_, q⟩ := x a _ r
    exact q
def Mut : Option HO → Prop
  | some (.lst _) => True
  | some (.dK _) => True
  | some (.dT _) => True
  | some (.set _ _) => True
  | some (.ins _ _ _) => True
  | some (.ext _) => True
  | _ => False
section
variable {P : Program} {w : World} {H : Hp} {h h' : Heap} {x e : Addr} {o' : HO}
theorem HOk.write (ok : HOk P w H h) (mu : Mut (H x)) (he : e = x ∨ H e = some (.own x)) (k : ∀ b u, b ≠ e → h.get? b = some u → h'.get? b = some u) (heo : ∃ u, h'.get? e = some u)
    (new : ObjOk P w (upd H x o') h' x o') : HOk P w (upd H x o') h' := fun b u q => by
  have nown : ∀ c y, H c = some (.own y) → c ≠ x := fun c y r z => by subst z; rw [r] at mu; exact mu
  have ntup : ∀ c xs, H c = some (.tup xs) → c ≠ x := fun c xs r z => by subst z; rw [r] at mu; exact mu
  by_cases hb : b = x
  · subst hb; rw [upd_same] at q; cases q; exact new
  · rw [upd_ne hb] at q
    by_cases hbe : b = e
    · have q' : H b = some (.own x) := by
        rcases he with z | z
        · exact absurd (hbe.trans z) hb
        · rw [hbe]; exact z
      rw [q] at q'; cases q'
      obtain ⟨v, hv⟩ := heo
      exact ⟨v, by rw [hbe]; exact hv⟩
    · refine (ok b u q).stay (fun c v hc r => k c v ?_ r) (fun c r => by rw [upd_ne (nown c b r)]; exact r) fun c xs r => by rw [upd_ne (ntup c xs r)]; exact r
      rcases hc with rfl | hc
      · exact hbe
      · rintro rfl
        rcases he with z | z
        · exact nown c b hc z
        · rw [hc] at z; cases z; exact hb rfl
end

structure Un (fs ex : List Addr) (H H' : Hp) (h h' : Heap) : Prop where
  keep : ∀ b o, h.get? b = some o → H b = none → b ∉ fs → b ∉ ex → h'.get? b = some o
  slot : ∀ b o, h.get? b = some o → H b = none → b ∈ fs → b ∉ ex → ∃ sl, h'.get? b = some { o with slots := sl }
  free : ∀ b o, h.get? b = some o → H b = none → b ∉ ex → H' b = none
  there : ∀ b o, h.get? b = some o → b ∉ ex → ∃ o', h'.get? b = some o'
  tups : ∀ b xs, H b = some (.tup xs) → H' b = some (.tup xs)
  frzs : ∀ b o u, H b = some (.frz o u) → H' b = some (.frz o u)
  tbls : ∀ b ps, H b = some (.tbl ps) → ∃ more, H' b = some (.tbl (ps ++ more))
section
variable {fs fs' ex ex' : List Addr} {H H1 H2 : Hp} {h h1 h2 h' : Heap} {a x e : Addr} {o : HO}
theorem Un.any (u : Un fs ex H H1 h h1) {b : Addr} {ob : Obj} (q : h.get? b = some ob) (n : H b = none) (hx : b ∉ ex) : ∃ sl, h1.get? b = some { ob with slots := sl } := by
  by_cases hb : b ∈ fs
  · exact u.slot b ob q n hb hx
  · exact ⟨ob.slots, u.keep b ob q n hb hx⟩
theorem Un.kept (k : ∀ b u, h.get? b = some u → h'.get? b = some u) : Un fs ex H H h h' :=
  ⟨fun b ob q _ _ _ => k b ob q, fun b ob q _ _ _ => ⟨ob.slots, k b ob q⟩, fun _ _ _ n _ => n, fun b ob q _ => ⟨ob, k b ob q⟩, fun _ _ q => q, fun _ _ _ q => q, fun _ ps q => ⟨#[], by rw [q]; simp⟩⟩
theorem Un.refl : Un fs ex H H h h := Un.kept fun _ _ q => q
theorem Un.laid (k : ∀ b u, h.get? b = some u → h'.get? b = some u) (hp : h.objs.size ≤ a) (hn : H a = none) : Un fs ex H (upd H a o) h h' where
  keep := fun b u q _ _ _ => k b u q
  slot := fun b u q _ _ _ => ⟨u.slots, k b u q⟩
  free := fun b u q n _ => by rw [upd_ne (Nat.ne_of_lt (Nat.lt_of_lt_of_le (Heap.lt_size q) hp))]; exact n
  there := fun b u q _ => ⟨u, k b u q⟩
  tups := fun b xs q => by rw [upd_ne (ne_of_none q hn)]; exact q
  frzs := fun b u xs q => by rw [upd_ne (ne_of_none q hn)]; exact q
  tbls := fun b ps q => ⟨#[], by rw [upd_ne (ne_of_none q hn), q]; simp⟩
theorem Un.write (mu : Mut (H x)) (he : e = x ∨ H e = some (.own x)) (k : ∀ b u, b ≠ e → h.get? b = some u → h'.get? b = some u) (heo : ∃ u, h'.get? e = some u) : Un fs ex H (upd H x o) h h' := by
  have hx : ∀ b, H b = none → b ≠ x := fun b n z => by subst z; rw [n] at mu; exact mu
  have hb : ∀ b, H b = none → b ≠ e := fun b n z => by
    subst z
    rcases he with r | r
    · exact hx b n r
    · rw [n] at r; cases r
  have hm : ∀ b u, H b = some u → ¬ Mut (some u) → b ≠ x := fun b u q nm z => by subst z; rw [q] at mu; exact nm mu
  refine ⟨fun b u q n _ _ => k b u (hb b n) q, fun b u q n _ _ => ⟨u.slots, k b u (hb b n) q⟩, fun b u q n _ => by rw [upd_ne (hx b n)]; exact n, fun b u q _ => ?_,
    fun b xs q => by rw [upd_ne (hm b _ q fun z => z)]; exact q, fun b u xs q => by rw [upd_ne (hm b _ q fun z => z)]; exact q, fun b ps q => ⟨#[], by rw [upd_ne (hm b _ q fun z => z), q]; simp⟩⟩
  by_cases hbe : b = e
  · subst hbe; exact heo
  · exact ⟨u, k b u hbe q⟩
end

def trk (h : Heap) (H : Hp) : List Addr := (List.range h.objs.size).filter fun a => (H a).isSome
def hidT (h : Heap) (H : Hp) : Heap := PySem.W.hideAll h (trk h H)
theorem hidT_size (h : Heap) (H : Hp) : (hidT h H).objs.size = h.objs.size := PySem.W.hideAll_size _ _
theorem hidT_get {h : Heap} {H : Hp} {b : Addr} {o : Obj} (e : h.get? b = some o) (n : H b = none) : (hidT h H).get? b = some o :=
  PySem.W.hideAll_get _ e fun hm => by
    have q : (H b).isSome = true := (List.mem_filter.mp hm).2
    rw [n] at q; simp at q
theorem of_hidT {h : Heap} {H : Hp} {b : Addr} {o : Obj} (e : (hidT h H).get? b = some o) : h.get? b = some o ∧ H b = none := by
  have e' : h.get? b = some o := PySem.W.of_hideAll (trk h H) e
  refine ⟨e', ?_⟩
  cases q : H b with
  | none => rfl
  | some x =>
    have hm : b ∈ trk h H := List.mem_filter.mpr ⟨List.mem_range.mpr (Heap.lt_size e'), by simp [q]⟩
    have z : (hidT h H).get? b = none := PySem.W.hideAll_none (trk h H) hm
    rw [z] at e; cases e

end L2

namespace L2
open PySem PySem.Spec PyProof.Rows

structure Mod (K : PySem.W.Frag) (mg : Str → Option Value) (base : Heap) : Prop where
  kin : K.In base
  glob : base.Ns mainGlobals mg
  blt : ∃ mb, base.Ns builtinsNs mb ∧ ∀ x : Str, x ≠ "__name__" → mb x = bootBuiltins x
  nolimit : base.NoLimit

structure Cx where
  prog : Program
  w : World
  K : PySem.W.Frag
  mg : Str → Option Value
  base : Heap
  A : Around
  N : List Str
  s₀ : Shared
  H₀ : Hp
  env : Env
  outer : List Env
  stack : List Env
  ex : List Addr
  fn : Str → Bool
  calm : Bool
  pn : List (Addr × Obj)
  xe : Value → Shared → Prop
def frs (l : List Env) : List Addr := l.filterMap (·.frame)
abbrev Cx.fs (X : Cx) : List Addr := frs X.outer

def Vis (sc : Scope) (x : Str) : Prop := sc.names.lookup x = some .local ∨ sc.names.lookup x = some .cell ∨ sc.names.lookup x = some .free
def Loc (sc : Scope) (x : Str) : Prop := sc.names.lookup x = some .local ∨ sc.names.lookup x = some .cell
def Look (env : Env) (h : Heap) (m : Str → Option Value) (x : Str) (u : Value) : Prop :=
  (env.kindOf x = some .local ∧ m x = some u) ∨ ((env.kindOf x = some .cell ∨ env.kindOf x = some .free) ∧ ∃ c, env.cells.lookup x = some c ∧ h.IsCell c (some u))

structure Cx.Ok (X : Cx) : Prop where
  mod : Mod X.K X.mg X.base
  kind : X.env.scope.kind = .function
  glob : X.env.globals = mainGlobals
  blt : X.env.builtins = builtinsNs
  above : X.s₀.heap.objs.size ≤ X.env.locals
  inj : ∀ x y c, X.env.cells.lookup x = some c → X.env.cells.lookup y = some c → x = y
  has : ∀ x, (X.env.kindOf x = some .cell ∨ X.env.kindOf x = some .free) → ∃ c, X.env.cells.lookup x = some c
  cab : ∀ x c, X.fn x = true → X.env.cells.lookup x = some c → X.s₀.heap.objs.size ≤ c
  hd : X.calm = true → X.A.handled = none
  frames : X.A.frames = some X.stack
  stk : X.stack = X.outer ∨ (X.stack = X.env :: X.outer ∧ X.env.frame = some X.env.locals)
  exf : ∀ b ∈ X.ex, b ≠ X.env.locals ∧ ∀ x c, X.env.cells.lookup x = some c → c ≠ b
  bs : ∀ b o, X.base.get? b = some o → X.s₀.heap.get? b = some o ∧ X.H₀ b = none
  bsz : X.base.objs.size ≤ X.s₀.heap.objs.size
  noex : ∀ b o, X.base.get? b = some o → b ∉ X.ex
  exfs : ∀ b ∈ X.ex, b ∉ X.fs
  funs : X.s₀.heap.FunFrames X.base X.outer
  frf : ∀ b ∈ X.fs, X.H₀ b = none

structure Inv (X : Cx) (pins : List (Addr × Obj)) (σ : List (Option V)) (H : Hp) (s : Shared) : Prop where
  ok : X.Ok
  os : s.os = X.s₀.os
  bare : AllBare s.gens
  base : Un X.fs X.ex X.H₀ H X.s₀.heap s.heap
  loc : ∃ m, s.heap.Ns X.env.locals m ∧ ∀ (i : Nat) (x : Str) (v : V), X.N[i]? = some x → σ[i]? = some (some v) → Vis X.env.scope x → ∃ u, RelV v u ∧ Look X.env s.heap m x u
  cell : ∀ x c, X.env.cells.lookup x = some c → ∃ v, s.heap.IsCell c v
  free : H X.env.locals = none
  freeC : ∀ x c, X.env.cells.lookup x = some c → H c = none
  pin : ∀ p ∈ X.pn ++ pins, s.heap.get? p.1 = some p.2 ∧ H p.1 = none ∧ p.1 ≠ X.env.locals ∧ p.1 ∉ X.fs ∧ ∀ v, p.2.data ≠ .cell v
  hok : HOk X.prog X.w H s.heap
  len : σ.length = X.N.length

section
variable {X : Cx} {pins : List (Addr × Obj)} {σ : List (Option V)} {H H' : Hp} {s : Shared} {h' : Heap}

theorem Cx.Ok.nofr (ok : X.Ok) {b : Addr} {o : Obj} (e : X.base.get? b = some o) : b ∉ X.fs := fun hb => by
  have := (ok.funs.mem hb).1
  rw [e] at this; cases this
theorem Inv.bs (I : Inv X pins σ H s) : ∀ b o, X.base.get? b = some o → s.heap.get? b = some o ∧ H b = none := fun b o e =>
  ⟨I.base.keep b o (I.ok.bs b o e).1 (I.ok.bs b o e).2 (I.ok.nofr e) (I.ok.noex b o e), I.base.free b o (I.ok.bs b o e).1 (I.ok.bs b o e).2 (I.ok.noex b o e)⟩
theorem Inv.bk (I : Inv X pins σ H s) : ∀ b o, X.base.get? b = some o → s.heap.get? b = some o := fun b o e => (I.bs b o e).1
theorem Inv.mod (I : Inv X pins σ H s) : Mod X.K X.mg X.base := I.ok.mod
theorem Inv.kIn (I : Inv X pins σ H s) : X.K.In s.heap := I.ok.mod.kin.keeps I.bk
theorem Inv.fr (I : Inv X pins σ H s) : ∃ m, Fr X.base X.env.locals s.heap m :=
  let ⟨m, hn, _⟩ := I.loc
  ⟨m, hn, I.bk, Nat.le_trans I.ok.bsz I.ok.above⟩
theorem Inv.lt (I : Inv X pins σ H s) : X.env.locals < s.heap.objs.size := let ⟨_, hn, _⟩ := I.loc; hn.lt
theorem Inv.sz (I : Inv X pins σ H s) : X.s₀.heap.objs.size ≤ s.heap.objs.size := Nat.le_trans I.ok.above (Nat.le_of_lt I.lt)
theorem Inv.nofs (I : Inv X pins σ H s) {a : Addr} (h : s.heap.objs.size ≤ a) : a ∉ X.fs := fun hb => by
  obtain ⟨_, o, ho, _⟩ := I.ok.funs.mem hb
  exact absurd (Nat.lt_of_lt_of_le (Heap.lt_size ho) (Nat.le_trans I.sz h)) (Nat.lt_irrefl _)
theorem Inv.cne (I : Inv X pins σ H s) : ∀ x c, X.env.cells.lookup x = some c → c ≠ X.env.locals := fun x c e z => by
  obtain ⟨v, o, ho, hd⟩ := I.cell x c e
  obtain ⟨m, ⟨o', es, ep, ho', hd', _⟩, _⟩ := I.loc
  rw [z, ho'] at ho; cases ho; rw [hd'] at hd; cases hd
theorem Inv.funs (I : Inv X pins σ H s) : s.heap.FunFrames X.base X.outer := by
  have all : ∀ (l : List Env), (∀ b ∈ frs l, b ∈ X.fs) → X.s₀.heap.FunFrames X.base l → s.heap.FunFrames X.base l := by
    intro l
    induction l with
    | nil => intro _ _; trivial
    | cons env r ih =>
      intro hs hl
      obtain ⟨hk, ⟨L, o, hf, hn, ho, hd⟩, hr⟩ := hl
      have hL : L ∈ X.fs := hs L (by unfold frs; rw [List.filterMap_cons, hf]; exact List.mem_cons_self)
      obtain ⟨sl, e⟩ := I.base.slot L o ho (I.ok.frf L hL) hL fun z => I.ok.exfs L z hL
      exact ⟨hk, ⟨L, _, hf, hn, e, hd⟩, ih (fun b hb => hs b (by unfold frs; rw [List.filterMap_cons, hf]; exact List.mem_cons_of_mem _ hb)) hr⟩
  exact all X.outer (fun _ hb => hb) I.ok.funs

theorem Inv.stack (I : Inv X pins σ H s) : s.heap.FunFrames X.base X.stack := by
  rcases I.ok.stk with e | ⟨e, hf⟩
  · rw [e]; exact I.funs
  · rw [e]
    obtain ⟨m, hn, _⟩ := I.loc
    refine .cons (by rw [I.ok.kind]; decide) hf hn ?_ I.funs
    exact Heap.get?_none_of_le (Nat.le_trans I.ok.bsz I.ok.above)
theorem Inv.stkSub (I : Inv X pins σ H s) : ∀ b ∈ frs X.stack, b ∈ X.env.locals :: X.fs := fun b hb => by
  rcases I.ok.stk with e | ⟨e, hf⟩
  · rw [e] at hb; exact List.mem_cons_of_mem _ hb
  · rw [e] at hb
    unfold frs at hb
    rw [List.filterMap_cons, hf] at hb
    exact hb
theorem Inv.stkFree (I : Inv X pins σ H s) : ∀ b ∈ frs X.stack, H b = none := fun b hb => by
  rcases List.mem_cons.mp (I.stkSub b hb) with e | hb
  · rw [e]; exact I.free
  · obtain ⟨_, o, ho, _⟩ := I.ok.funs.mem hb
    exact I.base.free b o ho (I.ok.frf b hb) fun z => I.ok.exfs b z hb

theorem Inv.step {g' : Array GenState} {t' : Nat} {d' : Drawn} {ch : List Addr} (I : Inv X pins σ H s)
    (hch : ∀ b ∈ ch, (b ∈ X.ex ∨ X.s₀.heap.objs.size ≤ b) ∧ b ≠ X.env.locals ∧ (∀ x c, X.env.cells.lookup x = some c → c ≠ b) ∧ ∀ p ∈ X.pn ++ pins, p.1 ≠ b)
    (keep : ∀ b o, b ≠ X.env.locals → b ∉ X.fs → b ∉ ch → s.heap.get? b = some o → H b = none → h'.get? b = some o)
    (slot : ∀ b o, b ≠ X.env.locals → b ∈ X.fs → b ∉ ch → s.heap.get? b = some o → H b = none → ∃ sl, h'.get? b = some { o with slots := sl }) (free : ∀ b o, b ∉ ch → s.heap.get? b = some o → H b = none → H' b = none)
    (there : ∀ b o, b ∉ ch → s.heap.get? b = some o → ∃ o', h'.get? b = some o')
    (tups : ∀ b xs, H b = some (.tup xs) → H' b = some (.tup xs)) (frzs : ∀ b o u, H b = some (.frz o u) → H' b = some (.frz o u)) (tbls : ∀ b ps, H b = some (.tbl ps) → ∃ more, H' b = some (.tbl (ps ++ more)))
    (ns : ∀ m, s.heap.Ns X.env.locals m → h'.Ns X.env.locals m) (hok : HOk X.prog X.w H' h') (hg : AllBare g') :
    Inv X pins σ H' { s with heap := h', gens := g', drawn := d', toks := t' } := by
  have neL : ∀ b o, X.s₀.heap.get? b = some o → b ≠ X.env.locals := fun b o e => Nat.ne_of_lt (Nat.lt_of_lt_of_le (Heap.lt_size e) I.ok.above)
  have neC : ∀ b o, X.s₀.heap.get? b = some o → b ∉ X.ex → b ∉ ch := fun b o e hx hb => by
    rcases (hch b hb).1 with z | z
    · exact hx z
    · exact absurd (Nat.lt_of_lt_of_le (Heap.lt_size e) z) (Nat.lt_irrefl _)
  have cellK : ∀ x c, X.env.cells.lookup x = some c → ∀ v, s.heap.IsCell c v → h'.IsCell c v := fun x c e v ⟨o, ho, hd⟩ => by
    have nch : c ∉ ch := fun z => (hch c z).2.2.1 x c e rfl
    by_cases hc : c ∈ X.fs
    · obtain ⟨sl, q⟩ := slot c o (I.cne x c e) hc nch ho (I.freeC x c e)
      exact ⟨_, q, hd⟩
    · exact ⟨o, keep c o (I.cne x c e) hc nch ho (I.freeC x c e), hd⟩
  refine ⟨I.ok, I.os, hg, ⟨fun b o e n hb hx => ?_, fun b o e n hb hx => ?_, fun b o e n hx => ?_, fun b o e hx => ?_, fun b xs e => tups b xs (I.base.tups b xs e), fun b o xs e => frzs b o xs (I.base.frzs b o xs e), fun b ps e => ?_⟩, ?_, fun x c e => ?_, ?_, fun x c e => ?_, fun p hp => ?_, hok, I.len⟩
  · exact keep b o (neL b o e) hb (neC b o e hx) (I.base.keep b o e n hb hx) (I.base.free b o e n hx)
  · obtain ⟨sl, e1⟩ := I.base.slot b o e n hb hx
    obtain ⟨sl', e2⟩ := slot b _ (neL b o e) hb (neC b o e hx) e1 (I.base.free b o e n hx)
    exact ⟨sl', e2⟩
  · obtain ⟨o', e1⟩ := I.base.there b o e hx
    exact free b o' (neC b o e hx) e1 (I.base.free b o e n hx)
  · obtain ⟨o', e1⟩ := I.base.there b o e hx
    exact there b o' (neC b o e hx) e1
  · obtain ⟨m1, e1⟩ := I.base.tbls b ps e
    obtain ⟨m2, e2⟩ := tbls b _ e1
    exact ⟨m1 ++ m2, by rw [e2, Array.append_assoc]⟩
  · obtain ⟨m, hn, hl⟩ := I.loc
    refine ⟨m, ns m hn, fun i x v e1 e2 e3 => ?_⟩
    obtain ⟨u, r, l⟩ := hl i x v e1 e2 e3
    refine ⟨u, r, ?_⟩
    rcases l with l | ⟨k, c, e, z⟩
    · exact .inl l
    · exact .inr ⟨k, c, e, cellK x c e _ z⟩
  · obtain ⟨v, z⟩ := I.cell x c e
    exact ⟨v, cellK x c e v z⟩
  · obtain ⟨m, ⟨o, _, _, ho, _⟩, _⟩ := I.loc
    exact free _ o (fun z => (hch _ z).2.1 rfl) ho I.free
  · obtain ⟨v, o, ho, hd⟩ := I.cell x c e
    exact free c o (fun z => (hch c z).2.2.1 x c e rfl) ho (I.freeC x c e)
  · obtain ⟨e, n, ne, nf, d⟩ := I.pin p hp
    have nch : p.1 ∉ ch := fun z => (hch p.1 z).2.2.2 p hp rfl
    exact ⟨keep p.1 p.2 ne nf nch e n, free p.1 p.2 nch e n, ne, nf, d⟩
theorem Inv.un {t' : Nat} (I : Inv X pins σ H s) (u : Un X.fs [] H H' s.heap h') (hok : HOk X.prog X.w H' h') : Inv X pins σ H' { s with heap := h', toks := t' } := by
  obtain ⟨m, ⟨o, es, ep, ho, r⟩, _⟩ := id I.loc
  obtain ⟨sl, hL⟩ := u.any ho I.free (by simp)
  exact I.step (g' := s.gens) (d' := s.drawn) (ch := []) (fun _ z => nomatch z) (fun b o _ hb _ e n => u.keep b o e n hb (by simp)) (fun b o _ hb _ e n => u.slot b o e n hb (by simp)) (fun b o _ e n => u.free b o e n (by simp)) (fun b o _ e => u.there b o e (by simp)) u.tups u.frzs u.tbls (fun m' hm => by
    obtain ⟨o', es', ep', ho', r'⟩ := hm
    rw [ho] at ho'; cases ho'
    exact ⟨_, es', ep', hL, r'⟩) hok I.bare
theorem Inv.call {g' : Array GenState} {t' : Nat} {d' : Drawn} {ch : List Addr} (I : Inv X pins σ H s) (u : Un (frs X.stack) ch H H' s.heap h') (hok : HOk X.prog X.w H' h') (hg : AllBare g')
    (hch : ∀ b ∈ ch, (b ∈ X.ex ∨ X.s₀.heap.objs.size ≤ b) ∧ b ≠ X.env.locals ∧ (∀ x c, X.env.cells.lookup x = some c → c ≠ b) ∧ ∀ p ∈ X.pn ++ pins, p.1 ≠ b) :
    Inv X pins σ H' { s with heap := h', gens := g', drawn := d', toks := t' } := by
  obtain ⟨m, ⟨o, es, ep, ho, r⟩, _⟩ := id I.loc
  obtain ⟨sl, hL⟩ := u.any ho I.free fun z => (hch _ z).2.1 rfl
  exact I.step (ch := ch) hch (fun b o hL hb hc e n => u.keep b o e n (fun z => (List.mem_cons.mp (I.stkSub b z)).elim hL hb) hc) (fun b o _ _ hc e n => u.any e n hc) (fun b o hc e n => u.free b o e n hc) (fun b o hc e => u.there b o e hc) u.tups u.frzs u.tbls (fun m' hm => by
    obtain ⟨o', es', ep', ho', r'⟩ := hm
    rw [ho] at ho'; cases ho'
    exact ⟨_, es', ep', hL, r'⟩) hok hg
theorem Inv.turned {t' : Nat} {it : Addr} (I : Inv X pins σ H s) (k : ∀ b o, b ≠ it → s.heap.get? b = some o → h'.get? b = some o) (hn : H it = none) (hL : it ≠ X.env.locals)
    (h1 : it ∈ X.ex ∨ X.s₀.heap.objs.size ≤ it) (h2 : ∀ x c, X.env.cells.lookup x = some c → c ≠ it) (h3 : ∀ p ∈ X.pn ++ pins, p.1 ≠ it) : Inv X pins σ H { s with heap := h', toks := t' } := by
  have nit : ∀ b u, H b = some u → b ≠ it := fun b u e z => by rw [z, hn] at e; cases e
  refine I.step (g' := s.gens) (d' := s.drawn) (ch := [it]) (fun b hb => ?_) (fun b o _ _ hc e _ => k b o (fun z => hc (by simp [z])) e) (fun b o _ _ hc e _ => ⟨o.slots, k b o (fun z => hc (by simp [z])) e⟩) (fun _ _ _ _ n => n)
    (fun b o hc e => ⟨o, k b o (fun z => hc (by simp [z])) e⟩) (fun _ _ e => e) (fun _ _ _ e => e) (fun b ps e => ⟨#[], by rw [e]; simp⟩) (fun m hm => ?_) (fun b u e => ?_) I.bare
  · have e : b = it := by simpa using hb
    subst e
    exact ⟨h1, hL, h2, h3⟩
  · obtain ⟨o, es, ep, ho, r⟩ := hm
    exact ⟨o, es, ep, k _ o (Ne.symm hL) ho, r⟩
  · refine (I.hok b u e).stay (fun c v hc q => k c v ?_ q) (fun _ q => q) fun _ _ q => q
    rcases hc with z | z
    · rw [z]; exact nit b u e
    · exact nit c _ z
theorem Inv.tok (I : Inv X pins σ H s) (t : Nat) : Inv X pins σ H { s with toks := t } := I.un (h' := s.heap) (t' := t) Un.refl I.hok
theorem Inv.kept {t' : Nat} (I : Inv X pins σ H s) (k : ∀ b u, s.heap.get? b = some u → h'.get? b = some u) : Inv X pins σ H { s with heap := h', toks := t' } := I.un (Un.kept k) (I.hok.kept k)
theorem Inv.laid {a : Addr} {o : HO} {t' : Nat} (I : Inv X pins σ H s) (k : ∀ b u, s.heap.get? b = some u → h'.get? b = some u) (hp : s.heap.objs.size ≤ a) (new : ObjOk X.prog X.w (upd H a o) h' a o) :
    Inv X pins σ (upd H a o) { s with heap := h', toks := t' } := I.un (Un.laid k hp (I.hok.fresh hp)) (I.hok.laid k hp new)
theorem Inv.write {x e : Addr} {o : HO} {t' : Nat} (I : Inv X pins σ H s) (mu : Mut (H x)) (he : e = x ∨ H e = some (.own x)) (k : ∀ b u, b ≠ e → s.heap.get? b = some u → h'.get? b = some u) (heo : ∃ u, h'.get? e = some u)
    (new : ObjOk X.prog X.w (upd H x o) h' x o) : Inv X pins σ (upd H x o) { s with heap := h', toks := t' } := I.un (Un.write mu he k heo) (I.hok.write mu he k heo new)
theorem Inv.weak {σ' : List (Option V)} (I : Inv X pins σ H s) (hl : σ'.length = σ.length) (w : ∀ (i : Nat) v, σ'[i]? = some (some v) → σ[i]? = some (some v)) : Inv X pins σ' H s :=
  ⟨I.ok, I.os, I.bare, I.base, let ⟨m, hn, hl'⟩ := I.loc; ⟨m, hn, fun i x v e1 e2 e3 => hl' i x v e1 (w i v e2) e3⟩, I.cell, I.free, I.freeC, I.pin, I.hok, hl.trans I.len⟩
theorem Inv.pins_of {pins' : List (Addr × Obj)} (I : Inv X pins σ H s) (h : ∀ p ∈ pins', s.heap.get? p.1 = some p.2 ∧ H p.1 = none ∧ p.1 ≠ X.env.locals ∧ p.1 ∉ X.fs ∧ ∀ v, p.2.data ≠ .cell v) : Inv X pins' σ H s :=
  ⟨I.ok, I.os, I.bare, I.base, I.loc, I.cell, I.free, I.freeC, fun p hp => (List.mem_append.mp hp).elim (fun z => I.pin p (List.mem_append_left _ z)) (h p), I.hok, I.len⟩

theorem nodup_ix {N : List Str} (hN : N.Nodup) {i j : Nat} {x : Str} (a : N[i]? = some x) (b : N[j]? = some x) : i = j := by
  obtain ⟨h1, e1⟩ := List.getElem?_eq_some_iff.mp a
  obtain ⟨h2, e2⟩ := List.getElem?_eq_some_iff.mp b
  exact (List.getElem_inj hN).mp (e1.trans e2.symm)

theorem store_ok2 {M : Model} {A : Around} {E : Value → Shared → Prop} {i : Nat} {x : Str} {v : V} {u : Value} {Q : Unit → Shared → Prop} (I : Inv X pins σ H s) (hN : X.N.Nodup) (hi : X.N[i]? = some x) (hx : Loc X.env.scope x) (r : RelV v u)
    (h : ∀ s', Inv X pins (σ.set i (some v)) H s' → (∃ a, Heap.SameBut a s.heap s'.heap ∧ (a = X.env.locals ∨ X.env.cells.lookup x = some a)) → Q () s') (hf : X.fn x = true ∨ X.env.scope.names.lookup x = some .local := by first | exact .inl rfl | exact .inr rfl | assumption) : wpAny M A (storeName X.env x u) Q E s := by
  obtain ⟨m, hn, hl⟩ := id I.loc
  have hcls : (X.env.scope.kind == .class || (X.env.scope.kind == .module && X.env.locals != X.env.globals)) = false := by rw [I.ok.kind]; rfl
  have hiσ : i < σ.length := by rw [I.len]; exact (List.getElem?_eq_some_iff.mp hi).1
  have cne := I.cne
  have tracked : ∀ {a : Addr} {h' : Heap}, (∃ o, s.heap.get? a = some o ∧ H a = none) → Heap.SameBut a s.heap h' → HOk X.prog X.w H h' := fun {a h'} ha hs b ob e => by
    obtain ⟨_, _, hfree⟩ := ha
    refine (I.hok b ob e).stay (fun c w' hc q => (hs.2 c ?_).trans q) (fun _ q => q) fun _ _ q => q
    rintro rfl
    rcases hc with rfl | hc
    · rw [hfree] at e; cases e
    · rw [hfree] at hc; cases hc
  rcases hx with hk | hk
  · refine wpAny_storeName_local hk hn (fun h' hn' hs => ?_) hcls
    obtain ⟨oL, _, _, hoL, _⟩ := id hn
    refine h _ ⟨I.ok, I.os, I.bare, ⟨fun b o e n hb hx => ?_, fun b o e n hb hx => ?_, I.base.free, fun b o e hx => ?_, I.base.tups, I.base.frzs, I.base.tbls⟩, ⟨_, hn', fun j y v' e1 e2 e3 => ?_⟩, fun y c e => ?_, I.free, I.freeC, fun p hp => ?_, tracked ⟨oL, hoL, I.free⟩ hs, by simpa using I.len⟩ ⟨_, hs, .inl rfl⟩
    · exact (hs.2 b (Nat.ne_of_lt (Nat.lt_of_lt_of_le (Heap.lt_size e) I.ok.above))).trans (I.base.keep b o e n hb hx)
    · obtain ⟨sl, e1⟩ := I.base.slot b o e n hb hx
      exact ⟨sl, (hs.2 b (Nat.ne_of_lt (Nat.lt_of_lt_of_le (Heap.lt_size e) I.ok.above))).trans e1⟩
    · obtain ⟨o', e1⟩ := I.base.there b o e hx
      exact ⟨o', (hs.2 b (Nat.ne_of_lt (Nat.lt_of_lt_of_le (Heap.lt_size e) I.ok.above))).trans e1⟩
    · by_cases hj : j = i
      · subst hj
        rw [hi] at e1; cases e1
        rw [List.getElem?_set_self hiσ] at e2
        cases e2
        exact ⟨u, r, .inl ⟨hk, by simp⟩⟩
      · rw [List.getElem?_set_ne (Ne.symm hj)] at e2
        obtain ⟨u', r', q⟩ := hl j y v' e1 e2 e3
        refine ⟨u', r', ?_⟩
        rcases q with ⟨k, e⟩ | ⟨k, c, e, z⟩
        · refine .inl ⟨k, ?_⟩
          have : y ≠ x := fun e => hj (nodup_ix hN e1 (e ▸ hi))
          simp [this, e]
        · exact .inr ⟨k, c, e, z.sameBut hs (cne y c e)⟩
    · obtain ⟨w', z⟩ := I.cell y c e
      exact ⟨w', z.sameBut hs (cne y c e)⟩
    · obtain ⟨e, n, ne, nf, d⟩ := I.pin p hp
      exact ⟨(hs.2 p.1 ne).trans e, n, ne, nf, d⟩
  · have hfn : X.fn x = true := by
      rcases hf with z | z
      · exact z
      · rw [z] at hk; cases hk
    obtain ⟨c, hc⟩ := I.ok.has x (.inl hk)
    obtain ⟨w', z⟩ := I.cell x c hc
    refine wpAny_storeName_cell I.ok.kind hk hc z (fun h' hc' hs => ?_)
    obtain ⟨oc, hoc, hocd⟩ := id z
    refine h { s with heap := h' } ⟨I.ok, I.os, I.bare, ⟨fun b o e n hb hx => ?_, fun b o e n hb hx => ?_, I.base.free, fun b o e hx => ?_, I.base.tups, I.base.frzs, I.base.tbls⟩, ⟨m, hn.sameBut hs (Ne.symm (cne x c hc)), fun j y v' e1 e2 e3 => ?_⟩, fun y c' e => ?_, I.free, I.freeC, fun p hp => ?_, tracked ⟨oc, hoc, I.freeC x c hc⟩ hs, by simpa using I.len⟩ ⟨c, hs, .inr hc⟩
    · exact (hs.2 b (Nat.ne_of_lt (Nat.lt_of_lt_of_le (Heap.lt_size e) (I.ok.cab x c hfn hc)))).trans (I.base.keep b o e n hb hx)
    · obtain ⟨sl, e1⟩ := I.base.slot b o e n hb hx
      exact ⟨sl, (hs.2 b (Nat.ne_of_lt (Nat.lt_of_lt_of_le (Heap.lt_size e) (I.ok.cab x c hfn hc)))).trans e1⟩
    · obtain ⟨o', e1⟩ := I.base.there b o e hx
      exact ⟨o', (hs.2 b (Nat.ne_of_lt (Nat.lt_of_lt_of_le (Heap.lt_size e) (I.ok.cab x c hfn hc)))).trans e1⟩
    · by_cases hj : j = i
      · subst hj
        rw [hi] at e1; cases e1
        rw [List.getElem?_set_self hiσ] at e2
        cases e2
        exact ⟨u, r, .inr ⟨.inl hk, c, hc, hc'⟩⟩
      · rw [List.getElem?_set_ne (Ne.symm hj)] at e2
        obtain ⟨u', r', q⟩ := hl j y v' e1 e2 e3
        refine ⟨u', r', ?_⟩
        rcases q with q | ⟨k, c', e, z'⟩
        · exact .inl q
        · refine .inr ⟨k, c', e, z'.sameBut hs ?_⟩
          rintro rfl
          exact hj (nodup_ix hN e1 (I.ok.inj _ _ _ e hc ▸ hi))
    · by_cases hcc : c' = c
      · subst hcc; exact ⟨_, hc'⟩
      · obtain ⟨w2, z2⟩ := I.cell y c' e
        exact ⟨w2, z2.sameBut hs hcc⟩
    · obtain ⟨e, n, ne, nf, d⟩ := I.pin p hp
      refine ⟨(hs.2 p.1 ?_).trans e, n, ne, nf, d⟩
      intro q
      rw [q, hoc] at e
      have q' : oc = p.2 := Option.some.inj e
      exact d w' (by rw [← q']; exact hocd)
theorem store_ok {M : Model} {A : Around} {E : Value → Shared → Prop} {i : Nat} {x : Str} {v : V} {u : Value} {Q : Unit → Shared → Prop} (I : Inv X pins σ H s) (hN : X.N.Nodup) (hi : X.N[i]? = some x) (hx : Loc X.env.scope x) (r : RelV v u)
    (h : ∀ s', Inv X pins (σ.set i (some v)) H s' → Q () s') (hf : X.fn x = true ∨ X.env.scope.names.lookup x = some .local := by first | exact .inl rfl | exact .inr rfl | assumption) : wpAny M A (storeName X.env x u) Q E s :=
  store_ok2 I hN hi hx r (fun s' I' _ => h s' I') hf
theorem Inv.call' {s' : Shared} {ch : List Addr} (I : Inv X pins σ H s) (ho : s'.os = s.os) (u : Un (frs X.stack) ch H H' s.heap s'.heap) (hok : HOk X.prog X.w H' s'.heap) (hg : AllBare s'.gens)
    (hch : ∀ b ∈ ch, (b ∈ X.ex ∨ X.s₀.heap.objs.size ≤ b) ∧ b ≠ X.env.locals ∧ (∀ x c, X.env.cells.lookup x = some c → c ≠ b) ∧ ∀ p ∈ X.pn ++ pins, p.1 ≠ b) : Inv X pins σ H' s' := by
  obtain ⟨h', g', d', t', o'⟩ := s'
  have e : o' = s.os := ho
  subst e
  exact I.call (g' := g') (t' := t') (d' := d') u hok hg hch
end

abbrev XK := Value → Option Addr → Hp → Prop
abbrev St := List (Option V)
abbrev VK := V → Hp → Prop
abbrev TE := St → Hp → VK → Prop
abbrev TT := St → Hp → (Bool → Hp → Prop) → Prop
abbrev TA := St → Hp → (List V → Hp → Prop) → Prop
structure Ends where
  nx : St → Hp → Prop
  rt : VK
  bk : St → Hp → Prop := fun _ _ => False
  ct : St → Hp → Prop := fun _ _ => False
abbrev TS := Ends → St → Hp → Prop

def EP (X : Cx) (pins : List (Addr × Obj)) (σ : St) (Q : VK) (u : Value) (s' : Shared) : Prop := ∃ v H', Inv X pins σ H' s' ∧ RelV v u ∧ Q v H'
def TP (X : Cx) (pins : List (Addr × Obj)) (σ : St) (Q : Bool → Hp → Prop) (b : Bool) (s' : Shared) : Prop := ∃ H', Inv X pins σ H' s' ∧ Q b H'
def AP (X : Cx) (pins : List (Addr × Obj)) (σ : St) (Q : List V → Hp → Prop) (us : List Value) (s' : Shared) : Prop := ∃ vs H', Inv X pins σ H' s' ∧ Vals vs us ∧ Q vs H'
def SP (X : Cx) (pins : List (Addr × Obj)) (D : Ends) (f : Flow) (s' : Shared) : Prop :=
  match f with
  | .next => ∃ σ' H', Inv X pins σ' H' s' ∧ D.nx σ' H'
  | .brk => ∃ σ' H', Inv X pins σ' H' s' ∧ D.bk σ' H'
  | .cont => ∃ σ' H', Inv X pins σ' H' s' ∧ D.ct σ' H'
  | .ret u => ∃ v σ' H', Inv X pins σ' H' s' ∧ RelV v u ∧ D.rt v H'

def PE (X : Cx) (e : Expr) (t : TE) : Prop :=
  ∀ (pins : List (Addr × Obj)) (s : Shared) (σ : St) (H : Hp) (Q : VK), Inv X pins σ H s → t σ H Q → wpAny (model X.prog X.w) X.A (eval e X.env) (EP X pins σ Q) X.xe s
def PT (X : Cx) (e : Expr) (t : TT) : Prop :=
  ∀ (pins : List (Addr × Obj)) (s : Shared) (σ : St) (H : Hp) (Q : Bool → Hp → Prop), Inv X pins σ H s → t σ H Q → wpAny (model X.prog X.w) X.A (isTrue e X.env (eval e X.env)) (TP X pins σ Q) X.xe s
def PW (X : Cx) (e : Expr) (t : TT) : Prop :=
  ∀ (whole : Sem Value) (pins : List (Addr × Obj)) (s : Shared) (σ : St) (H : Hp) (Q : Bool → Hp → Prop), Inv X pins σ H s → t σ H Q → wpAny (model X.prog X.w) X.A (isTrue e X.env whole) (TP X pins σ Q) X.xe s
theorem PW.pt {X : Cx} {e : Expr} {t : TT} (h : PW X e t) : PT X e t := h _
def PA (X : Cx) (es : List Expr) (t : TA) : Prop :=
  ∀ (pos : Pos) (pins : List (Addr × Obj)) (s : Shared) (σ : St) (H : Hp) (Q : List V → Hp → Prop), Inv X pins σ H s → t σ H Q → wpAny (model X.prog X.w) X.A (spliced (backTo pos (starEach es X.env))) (AP X pins σ Q) X.xe s
def PS (X : Cx) (st : Stmt) (t : TS) : Prop :=
  ∀ (pins : List (Addr × Obj)) (s : Shared) (σ : St) (H : Hp) (D : Ends), Inv X pins σ H s → t D σ H → wpAny (model X.prog X.w) X.A (exec st X.env) (SP X pins D) X.xe s
def PSs (X : Cx) (st : List Stmt) (t : TS) : Prop :=
  ∀ (pins : List (Addr × Obj)) (s : Shared) (σ : St) (H : Hp) (D : Ends), Inv X pins σ H s → t D σ H → wpAny (model X.prog X.w) X.A (execs st X.env) (SP X pins D) X.xe s
theorem thn {α : Type} {t : Sem α} {Q Q' : α → Shared → Prop} {M : Model} {A : Around} {E : Value → Shared → Prop} {s : Shared} (h : wpAny M A t Q E s) (hQ : ∀ a s, Q a s → Q' a s) : wpAny M A t Q' E s := wpAny_mono h hQ fun _ _ x => x
end L2

namespace L2
open PySem PySem.Spec PyProof.Rows
section
variable {X : Cx}

theorem bin {a b : Expr} {ta tb : TE} (ha : PE X a ta) (hb : PE X b tb) {pins : List (Addr × Obj)} {s : Shared} {σ : St} {H : Hp} {R : V → V → Hp → Prop} (I : Inv X pins σ H s) (h : ta σ H fun x H1 => tb σ H1 fun y H2 => R x y H2)
    {α : Type} {Q : α → Shared → Prop} {f : Value → Value → Sem α}
    (hf : ∀ v u s2 x y H2, Inv X pins σ H2 s2 → RelV x v → RelV y u → R x y H2 → wpAny (model X.prog X.w) X.A (f v u) Q X.xe s2) :
    wpAny (model X.prog X.w) X.A (eval a X.env) (fun v s₁ => wpAny (model X.prog X.w) X.A (eval b X.env) (fun u s₂ => wpAny (model X.prog X.w) X.A (f v u) Q X.xe s₂) X.xe s₁) X.xe s := by
  refine thn (ha pins s σ H _ I h) fun v s1 ⟨x, H1, I1, r1, q1⟩ => ?_
  refine thn (hb pins s1 σ H1 _ I1 q1) fun u s2 ⟨y, H2, I2, r2, q2⟩ => ?_
  exact hf v u s2 x y H2 I2 r1 r2 q2

def tVar (i : Nat) : TE := fun σ H Q => ∃ v, σ[i]? = some (some v) ∧ Q v H
def tC (v : V) : TE := fun _ H Q => Q v H
theorem pe_var {i : Nat} {x : Str} {pos : Pos} (hN : X.N[i]? = some x) (hv : Vis X.env.scope x) (hd : (x == ("__debug__" : Str)) = false := by decide) (hcd : (x == ("__classdict__" : Str)) = false := by decide) : PE X (.Name x pos) (tVar i) := by
  intro pins s σ H Q I h
  obtain ⟨v, e, h⟩ := h
  obtain ⟨m, hn, hl⟩ := I.loc
  obtain ⟨u, r, l⟩ := hl i x v hN e hv
  have fin : EP X pins σ Q u s := ⟨v, H, I, r, h⟩
  rcases l with ⟨hk, hm⟩ | ⟨hk, c, hc, hcell⟩
  · exact wpAny_Name (wpAny_loadName_local I.ok.kind hk hn hm fin) hd
  · rcases hk with hk | hk
    · exact wpAny_Name (wpAny_loadName_cell I.ok.kind hk hc hcell fin) hd
    · exact wpAny_Name (wpAny_loadName_free I.ok.kind hk hc hcell fin hcd) hd
theorem pe_int {i j pos} : PE X (.Constant (.int i) j pos) (tC (.int i)) := fun _ _ _ H _ I h => wpAny_Constant_int ⟨.int i, H, I.tok _, ⟨_, rfl⟩, h⟩
theorem pe_bl {b j pos} : PE X (.Constant (.bool b) j pos) (tC (.bl b)) := fun _ _ _ H _ I h => Constant_bool ⟨.bl b, H, I, rfl, h⟩
theorem pe_non {j pos} : PE X (.Constant .none j pos) (tC .non) := fun _ _ _ H _ I h => Constant_none ⟨.non, H, I, rfl, h⟩
def Gl (X : Cx) (x : Str) : Prop := X.env.kindOf x = some .globalImplicit
theorem ld_glob {E : Value → Shared → Prop} {pins : List (Addr × Obj)} {s : Shared} {σ : St} {H : Hp} {x : Str} {u : Value} {pos : Pos} {Q : Value → Shared → Prop} (I : Inv X pins σ H s) (hg : Gl X x) (hm : X.mg x = some u) (h : Q u s)
    (hd : (x == ("__debug__" : Str)) = false := by decide) : wpAny (model X.prog X.w) X.A (eval (.Name x pos) X.env) Q E s :=
  Calls.Name_function_global I.ok.kind hg (Calls.loadGlobal_global (by rw [I.ok.glob]; exact I.mod.glob.keeps I.bk) hm h) hd
theorem ld_blt {E : Value → Shared → Prop} {pins : List (Addr × Obj)} {s : Shared} {σ : St} {H : Hp} {x : Str} {u : Value} {pos : Pos} {Q : Value → Shared → Prop} (I : Inv X pins σ H s) (hg : Gl X x) (hm : X.mg x = none) (hv : bootBuiltins x = some u) (h : Q u s)
    (hn : x ≠ "__name__" := by decide) (hd : (x == ("__debug__" : Str)) = false := by decide) : wpAny (model X.prog X.w) X.A (eval (.Name x pos) X.env) Q E s := by
  obtain ⟨mb, h1, h2⟩ := I.mod.blt
  exact Calls.Name_function_global I.ok.kind hg (Calls.loadGlobal_builtin (by rw [I.ok.glob]; exact I.mod.glob.keeps I.bk) hm (by rw [I.ok.blt]; exact h1.keeps I.bk) ((h2 x hn).trans hv) h) hd
theorem pe_glob {x : Str} {v : V} {u : Value} {pos : Pos} (hg : Gl X x) (hm : X.mg x = some u) (r : RelV v u) (hd : (x == ("__debug__" : Str)) = false := by decide) : PE X (.Name x pos) (tC v) :=
  fun _ _ _ H _ I h => ld_glob I hg hm ⟨v, H, I, r, h⟩ hd
theorem pe_bltn {x : Str} {v : V} {u : Value} {pos : Pos} (hg : Gl X x) (hm : X.mg x = none) (hv : bootBuiltins x = some u) (r : RelV v u) (hn : x ≠ "__name__" := by decide) (hd : (x == ("__debug__" : Str)) = false := by decide) : PE X (.Name x pos) (tC v) :=
  fun _ _ _ H _ I h => ld_blt I hg hm hv ⟨v, H, I, r, h⟩ hn hd

variable {a b : Expr} {ta tb : TE} {pos : Pos}
def PC (X : Cx) (op : CmpOp) (a b : Expr) (t : TE) : Prop :=
  ∀ (pins : List (Addr × Obj)) (s : Shared) (σ : St) (H : Hp) (Q : VK), Inv X pins σ H s → t σ H Q →
    wpAny (model X.prog X.w) X.A (eval a X.env) (fun v s₁ => wpAny (model X.prog X.w) X.A (eval b X.env) (fun u s₂ => wpAny (model X.prog X.w) X.A (compareOp op v u) (EP X pins σ Q) X.xe s₂) X.xe s₁) X.xe s
def tB (t : TE) : TT := fun σ H Q => t σ H fun x H1 => ∃ c, x = .bl c ∧ Q c H1
theorem pt_cmp {op : CmpOp} {t : TE} (h : PC X op a b t) (h1 : behindInMarks op b = false := by first | exact nobehind _ (by decide) (by decide) | rfl) : PT X (.Compare a [op] [b] pos) (tB t) := by
  intro pins s σ H Q I hw
  refine wpAny_isTrue_Compare1 (thn (h pins s σ H _ I hw) fun v s1 h1 => thn h1 fun u s2 h2 => thn h2 fun c s3 ⟨x, H1, I1, r1, q1⟩ => ?_) h1
  obtain ⟨d, rfl, q⟩ := q1
  cases r1
  exact wpAny_truthy_bool ⟨H1, I1, q⟩
variable {tA tB' : TT} {rest : List Expr}
def tAnd (t u : TT) : TT := fun σ H Q => t σ H fun c H1 => if c = true then u σ H1 Q else Q false H1
def tOr (t u : TT) : TT := fun σ H Q => t σ H fun c H1 => if c = true then Q true H1 else u σ H1 Q
def tNot (t : TT) : TT := fun σ H Q => t σ H fun c H1 => Q (!c) H1
theorem pw_and1 (ha : PT X a tA) : PW X (.BoolOp .And [a] pos) tA := by
  intro wh pins s σ H Q I h
  refine isTrue_and (thn (ha pins s σ H Q I h) fun c s1 e => ?_)
  cases c with
  | true => exact isTrue_and_nil e
  | false => exact e
theorem pw_or1 (ha : PT X a tA) : PW X (.BoolOp .Or [a] pos) tA := by
  intro wh pins s σ H Q I h
  refine isTrue_or (thn (ha pins s σ H Q I h) fun c s1 e => ?_)
  cases c with
  | false => exact isTrue_or_nil e
  | true => exact e
theorem pw_and (ha : PT X a tA) (hb : PW X (.BoolOp .And (b :: rest) pos) tB') : PW X (.BoolOp .And (a :: b :: rest) pos) (tAnd tA tB') := by
  intro wh pins s σ H Q I h
  refine isTrue_and (thn (ha pins s σ H _ I h) fun c s1 ⟨H1, I1, q1⟩ => ?_)
  cases c with
  | true => exact hb wh pins s1 σ H1 Q I1 q1
  | false => exact ⟨H1, I1, q1⟩
theorem pw_or (ha : PT X a tA) (hb : PW X (.BoolOp .Or (b :: rest) pos) tB') : PW X (.BoolOp .Or (a :: b :: rest) pos) (tOr tA tB') := by
  intro wh pins s σ H Q I h
  refine isTrue_or (thn (ha pins s σ H _ I h) fun c s1 ⟨H1, I1, q1⟩ => ?_)
  cases c with
  | true => exact ⟨H1, I1, q1⟩
  | false => exact hb wh pins s1 σ H1 Q I1 q1
theorem pt_not (ha : PT X a tA) : PT X (.UnaryOp .Not a pos) (tNot tA) := by
  intro pins s σ H Q I h
  exact isTrue_not (ha pins s σ H (fun c H1 => Q (!c) H1) I h)
def tAndV (ta tb : TE) : TE := fun σ H Q => ta σ H fun x H1 => ∃ c, x = .bl c ∧ if c = true then tb σ H1 Q else Q (.bl false) H1
def tNotV (ta : TE) : TE := fun σ H Q => ta σ H fun x H1 => ∃ c, x = .bl c ∧ Q (.bl (!c)) H1
theorem pe_one {op} {t : TE} (h : PE X a t) : PE X (.BoolOp op [a] pos) t := fun pins s σ H Q I hw => BoolOp_one (h pins s σ H Q I hw)
theorem pe_and (ha : PE X a ta) (hb : PE X (.BoolOp .And (b :: rest) pos) tb) : PE X (.BoolOp .And (a :: b :: rest) pos) (tAndV ta tb) := by
  intro pins s σ H Q I h
  refine BoolOp_and (thn (ha pins s σ H _ I h) fun v s1 ⟨x, H1, I1, r1, q1⟩ => ?_)
  obtain ⟨c, rfl, q1⟩ := q1
  cases r1
  refine wpAny_truthy_bool ?_
  cases c with
  | true => exact hb pins s1 σ H1 Q I1 q1
  | false => exact ⟨.bl false, H1, I1, rfl, q1⟩
theorem pe_not (ha : PE X a ta) : PE X (.UnaryOp .Not a pos) (tNotV ta) := by
  intro pins s σ H Q I h
  refine UnaryOp_ (thn (ha pins s σ H _ I h) fun v s1 ⟨x, H1, I1, r1, q1⟩ => ?_)
  obtain ⟨c, rfl, q1⟩ := q1
  cases r1
  exact not_of (wpAny_truthy_bool ⟨.bl (!c), H1, I1, rfl, q1⟩)
def tIf (t : TT) (ta tb : TE) : TE := fun σ H Q => t σ H fun c H1 => if c = true then ta σ H1 Q else tb σ H1 Q
theorem pe_ifExp {c : Expr} (hc : PT X c tA) (ha : PE X a ta) (hb : PE X b tb) : PE X (.IfExp c a b pos) (tIf tA ta tb) := by
  intro pins s σ H Q I h
  refine wpAny_IfExp (thn (hc pins s σ H _ I h) fun d s1 ⟨H1, I1, q1⟩ => ?_)
  cases d with
  | true => exact ha pins s1 σ H1 Q I1 q1
  | false => exact hb pins s1 σ H1 Q I1 q1
end
end L2

namespace L2
open PySem PySem.Spec PyProof.Rows

def SqL (K : PySem.W.Frag) (H : Hp) (a : Addr) (xs : List V) : Prop :=
  Rd H a (.lst xs) ∨
    ∃ (o : Obj) (its : Array Value) (n : Nat), K.lookup a = some o ∧ o.cls = .type "list" ∧ o.dict = none ∧ o.data = .seq its n ∧ its.size ≤ sizeLine ∧ Vals xs its.toList
def SqT (K : PySem.W.Frag) (H : Hp) (a : Addr) (xs : List V) : Prop :=
  Rd H a (.tup xs) ∨
    ∃ (o : Obj) (its : Array Value) (n : Nat), K.lookup a = some o ∧ o.cls = .type "tuple" ∧ o.data = .seq its n ∧ its.size ≤ sizeLine ∧ Vals xs its.toList
def absV : Value → Option V
  | .none => some .non
  | .bool b => some (.bl b)
  | .int i _ => some (.int i)
  | .str x _ => some (.str x)
  | .bytes b _ => some (.byt b)
  | .float b _ => some (.flt b)
  | .ref a => some (.ref a)
  | .type n => some (.ty n)
  | _ => none
theorem RelV.abs {x : V} {u : Value} (r : RelV x u) : absV u = some x := by
  cases x with
  | non => cases r; rfl
  | bl _ => cases r; rfl
  | int _ => obtain ⟨t, rfl⟩ := r; rfl
  | str _ => obtain ⟨t, rfl⟩ := r; rfl
  | byt _ => obtain ⟨t, rfl⟩ := r; rfl
  | flt _ => obtain ⟨t, rfl⟩ := r; rfl
  | ref _ => cases r; rfl
  | ty _ => cases r; rfl
theorem RelV.inj {x y : V} {u : Value} (r : RelV x u) (q : RelV y u) : x = y := Option.some.inj (r.abs.symm.trans q.abs)
theorem Vals.inj : ∀ {xs ys : List V} {us : List Value}, Vals xs us → Vals ys us → xs = ys
  | _, _, _, .nil, .nil => rfl
  | _, _, _, .cons r t, .cons r' t' => by rw [r.inj r', Vals.inj t t']
section
variable {X : Cx} {pins : List (Addr × Obj)} {σ : St} {H : Hp} {s : Shared} {a : Addr} {xs ys : List V}
theorem SqL.of {K : PySem.W.Frag} (h : H a = some (.lst xs)) : SqL K H a xs := .inl (.inl h)
theorem SqT.of {K : PySem.W.Frag} (h : H a = some (.tup xs)) : SqT K H a xs := .inl (.inl h)
theorem Inv.list (I : Inv X pins σ H s) (h : SqL X.K H a xs) : ∃ its : List Value, Vals xs its ∧ PlainL s.heap a its.toArray ∧ xs.length ≤ sizeLine := by
  rcases h with h | ⟨o, its, n, hk, hc, hd, hs, hz, r⟩
  · obtain ⟨z, its, n, r, e⟩ := h.ok I.hok
    exact ⟨its, r, ⟨_, n, e, rfl, rfl, rfl⟩, z⟩
  · refine ⟨its.toList, r, ⟨o, n, I.kIn a o hk, hc, hd, by simpa using hs⟩, ?_⟩
    have e := r.length
    simp only [Array.length_toList] at e
    omega
theorem Inv.tuple (I : Inv X pins σ H s) (h : SqT X.K H a xs) : ∃ its : List Value, Vals xs its ∧ IsTup s.heap a its.toArray ∧ xs.length ≤ sizeLine := by
  rcases h with h | ⟨o, its, n, hk, hc, hs, hz, r⟩
  · obtain ⟨z, its, r, p⟩ := h.ok I.hok
    exact ⟨its, r, p, z⟩
  · refine ⟨its.toList, r, ⟨o, I.kIn a o hk, hc, n, by simpa using hs⟩, ?_⟩
    have e := r.length
    simp only [Array.length_toList] at e
    omega
theorem Inv.list_inj (I : Inv X pins σ H s) (h : SqL X.K H a xs) (h' : SqL X.K H a ys) : xs = ys := by
  obtain ⟨its, r, ⟨o, n, e, _, _, d⟩, _⟩ := I.list h
  obtain ⟨its', r', ⟨o', n', e', _, _, d'⟩, _⟩ := I.list h'
  rw [e] at e'; cases e'
  rw [d] at d'
  injection d' with d1 _
  have : its = its' := by simpa using congrArg Array.toList d1
  subst this
  exact r.inj r'
end

abbrev Cx.wish (X : Cx) (E : Value → Shared → Prop) : Cx := { X with xe := E }
abbrev Cx.nox (X : Cx) : Cx := X.wish fun _ _ => False
theorem Cx.Ok.wish {X : Cx} (ok : X.Ok) (E : Value → Shared → Prop) : (X.wish E).Ok :=
  ⟨ok.mod, ok.kind, ok.glob, ok.blt, ok.above, ok.inj, ok.has, ok.cab, ok.hd, ok.frames, ok.stk, ok.exf, ok.bs, ok.bsz, ok.noex, ok.exfs, ok.funs, ok.frf⟩
theorem Cx.Ok.unwish {X : Cx} {E : Value → Shared → Prop} (ok : (X.wish E).Ok) : X.Ok :=
  ⟨ok.mod, ok.kind, ok.glob, ok.blt, ok.above, ok.inj, ok.has, ok.cab, ok.hd, ok.frames, ok.stk, ok.exf, ok.bs, ok.bsz, ok.noex, ok.exfs, ok.funs, ok.frf⟩
section
variable {X : Cx} {pins : List (Addr × Obj)} {σ : St} {H : Hp} {s : Shared} {E : Value → Shared → Prop}
theorem Inv.wish (I : Inv X pins σ H s) (E : Value → Shared → Prop) : Inv (X.wish E) pins σ H s := ⟨I.ok.wish E, I.os, I.bare, I.base, I.loc, I.cell, I.free, I.freeC, I.pin, I.hok, I.len⟩
theorem Inv.unwish (I : Inv (X.wish E) pins σ H s) : Inv X pins σ H s := ⟨I.ok.unwish, I.os, I.bare, I.base, I.loc, I.cell, I.free, I.freeC, I.pin, I.hok, I.len⟩
theorem SP.unwish {D : Ends} {f : Flow} {s' : Shared} (h : SP (X.wish E) pins D f s') : SP X pins D f s' := by
  cases f with
  | next => obtain ⟨σ', H', I, q⟩ := h; exact ⟨σ', H', I.unwish, q⟩
  | brk => obtain ⟨σ', H', I, q⟩ := h; exact ⟨σ', H', I.unwish, q⟩
  | cont => obtain ⟨σ', H', I, q⟩ := h; exact ⟨σ', H', I.unwish, q⟩
  | ret u => obtain ⟨v, σ', H', I, r, q⟩ := h; exact ⟨v, σ', H', I.unwish, r, q⟩
theorem PSs.nox {st : List Stmt} {t : TS} (h : PSs X.nox st t) : PSs X st t := fun pins s σ H D I hw =>
  wpAny_mono (h pins s σ H D (I.wish _) hw) (fun _ _ q => q.unwish) fun _ _ z => False.elim z
end

section
variable {X : Cx} {st : Stmt} {rest : List Stmt} {t u : TS} {e : Expr} {te : TE} {pos : Pos}
def tNext : TS := fun D σ H => D.nx σ H
def tSeq (t u : TS) : TS := fun D σ H => t { D with nx := u D } σ H
theorem pss_nil : PSs X [] tNext := fun _ _ σ H _ I h => wpAny_execs_nil ⟨σ, H, I, h⟩
theorem pss_cons (h1 : PS X st t) (h2 : PSs X rest u) : PSs X (st :: rest) (tSeq t u) := by
  intro pins s σ H D I h
  refine wpAny_execs_cons (thn (h1 pins s σ H { D with nx := u D } I h) fun f s1 q => ?_)
  cases f with
  | next =>
    obtain ⟨σ', H', I', q⟩ := q
    exact h2 pins s1 σ' H' D I' q
  | ret v => exact q
  | brk => exact q
  | cont => exact q
theorem pss_one (h1 : PS X st t) : PSs X [st] t := by
  intro pins s σ H D I h
  refine wpAny_execs_cons (thn (h1 pins s σ H D I h) fun f s1 q => ?_)
  cases f with
  | next => exact wpAny_execs_nil q
  | ret v => exact q
  | brk => exact q
  | cont => exact q
theorem Inv.quiet {pins : List (Addr × Obj)} {σ : St} {H : Hp} {s : Shared} (I : Inv X pins σ H s) : interactive X.env = false := by simp [interactive, I.ok.kind]
def tDrop (te : TE) : TS := fun D σ H => te σ H fun _ H1 => D.nx σ H1
theorem ps_expr (he : PE X e te) (hs : swapsWith e none pos.line X.env = pure false := by rfl) : PS X (.Expr e pos) (tDrop te) := by
  intro pins s σ H D I h
  exact wpAny_Expr_any (thn (he pins s σ H _ I h) fun v s1 ⟨x, H1, I1, r1, q1⟩ => ⟨σ, H1, I1, q1⟩) I.quiet hs
def tRet (te : TE) : TS := fun D σ H => te σ H D.rt
theorem ps_ret (he : PE X e te) : PS X (.Return (some e) pos) (tRet te) := by
  intro pins s σ H D I h
  exact wpAny_Return_some (thn (he pins s σ H _ I h) fun v s1 ⟨x, H1, I1, r1, q1⟩ => ⟨x, σ, H1, I1, r1, q1⟩)
def tIfS (c : TT) (t u : TS) : TS := fun D σ H => c σ H fun b H1 => if b = true then t D σ H1 else u D σ H1
theorem ps_if {c : Expr} {a b : List Stmt} {tc : TT} (hc : PT X c tc) (ha : PSs X a t) (hb : PSs X b u) : PS X (.If c a b pos) (tIfS tc t u) := by
  intro pins s σ H D I h
  refine wpAny_If (thn (hc pins s σ H _ I h) fun d s1 ⟨H1, I1, q1⟩ => ?_)
  cases d with
  | true => exact ha pins s1 σ H1 D I1 q1
  | false => exact hb pins s1 σ H1 D I1 q1
end

abbrev TG := V → St → Hp → (St → Hp → Prop) → Prop
abbrev TGs := List V → St → Hp → (St → Hp → Prop) → Prop
def PG (X : Cx) (target : Expr) (t : TG) : Prop :=
  ∀ (pins : List (Addr × Obj)) (s : Shared) (σ : St) (H : Hp) (v : V) (u : Value) (Q : St → Hp → Prop), Inv X pins σ H s → RelV v u → t v σ H Q →
    wpAny (model X.prog X.w) X.A (assign target X.env u) (fun _ s' => ∃ σ' H', Inv X pins σ' H' s' ∧ Q σ' H') X.xe s
def PGs (X : Cx) (ts : List Expr) (t : TGs) : Prop :=
  ∀ (pins : List (Addr × Obj)) (s : Shared) (σ : St) (H : Hp) (vs : List V) (us : List Value) (Q : St → Hp → Prop), Inv X pins σ H s → Vals vs us → t vs σ H Q →
    wpAny (model X.prog X.w) X.A (assignInOrder ((assignEach ts X.env).map (·.2)) us) (fun _ s' => ∃ σ' H', Inv X pins σ' H' s' ∧ Q σ' H') X.xe s
section
variable {X : Cx} {pos : Pos}
def gName (i : Nat) : TG := fun v σ H Q => Q (σ.set i (some v)) H
theorem pg_name {i : Nat} {x : Str} (hN : X.N.Nodup) (hi : X.N[i]? = some x) (hx : Loc X.env.scope x) (hf : X.fn x = true ∨ X.env.scope.names.lookup x = some .local := by first | exact .inl rfl | exact .inr rfl | assumption) : PG X (.Name x pos) (gName i) := by
  intro pins s σ H v u Q I r h
  exact wpAny_assign_Name (store_ok I hN hi hx r (fun s' I' => ⟨_, H, I', h⟩) hf)
def gNil : TGs := fun vs σ H Q => vs = [] ∧ Q σ H
def gCons (t : TG) (u : TGs) : TGs := fun vs σ H Q => ∃ v r, vs = v :: r ∧ t v σ H fun σ' H' => u r σ' H' Q
theorem pgs_nil : PGs X [] gNil := by
  intro pins s σ H vs us Q I r h
  obtain ⟨e, h⟩ := h
  subst e
  cases r
  exact assignInOrder_nil ⟨σ, H, I, h⟩
theorem pgs_cons {e : Expr} {es : List Expr} {t : TG} {u : TGs} (h1 : PG X e t) (h2 : PGs X es u)
    (hs : (assignEach (e :: es) X.env).map (·.2) = assign e X.env :: (assignEach es X.env).map (·.2) := by rfl) : PGs X (e :: es) (gCons t u) := by
  intro pins s σ H vs us Q I r h
  obtain ⟨v, vr, e1, h⟩ := h
  subst e1
  cases r with
  | cons r rr =>
    rw [hs]
    refine assignInOrder_cons (thn (h1 pins s σ H _ _ _ I r h) fun _ s1 ⟨σ1, H1, I1, q1⟩ => ?_)
    exact h2 pins s1 σ1 H1 _ _ Q I1 rr q1
def gTup (K : PySem.W.Frag) (n : Nat) (t : TGs) : TG := fun v σ H Q => ∃ a xs, v = .ref a ∧ SqT K H a xs ∧ xs.length = n ∧ t xs σ H Q
theorem pg_tup {es : List Expr} {k : Nat} {t : TGs} {n : Nat} (hc : X.calm = true) (h : PGs X es t)
    (hn : (assignEach es X.env).length = n := by rfl) (hst : (assignEach es X.env).findIdx? (·.1) = none := by rfl) : PG X (.Tuple es k pos) (gTup X.K n t) := by
  intro pins s σ H v u Q I r hw
  obtain ⟨a, xs, e1, hq, hl, hw⟩ := hw
  subst e1
  cases r
  obtain ⟨its, rv, ht, hz⟩ := I.tuple hq
  refine assign_Tuple_tuple (I.ok.hd hc) ht (by simp [hn, ← hl, rv.length]) hst fun h' hx => ?_
  have I1 : Inv X pins σ H { s with heap := h' } := I.kept (t' := s.toks) fun b o e => hx b o (Nat.ne_of_lt (Heap.lt_size e)) e
  exact h pins _ σ H xs _ Q I1 (by simpa using rv) hw
def tAsg (te : TE) (g : TG) : TS := fun D σ H => te σ H fun x H1 => g x σ H1 D.nx
theorem ps_asg {tg e : Expr} {te : TE} {g : TG} (he : PE X e te) (hg : PG X tg g) (hs : swapsWithSole [tg] e pos.line X.env = pure false := by rfl) (hw : swappedStores [tg] e X.env = pure none := by rfl)
    (h1 : (assignEach [tg] X.env).map (·.2) = [assign tg X.env] := by rfl) : PS X (.Assign [tg] e pos) (tAsg te g) := by
  intro pins s σ H D I h
  refine wpAny_Assign_stores (thn (he pins s σ H _ I h) fun v s1 ⟨x, H1, I1, r1, q1⟩ => ?_) hs hw
  rw [h1]
  exact thn (hg pins s1 σ H1 x v _ I1 r1 q1) fun _ s2 q => q
theorem ps_set {i : Nat} {x : Str} {e : Expr} {te : TE} {pos' : Pos} (hN : X.N.Nodup) (hi : X.N[i]? = some x) (hx : Loc X.env.scope x) (he : PE X e te) (hs : swapsWith e (some (.Name x pos')) pos.line X.env = pure false := by rfl) (hf : X.fn x = true ∨ X.env.scope.names.lookup x = some .local := by first | exact .inl rfl | exact .inr rfl | assumption) :
    PS X (.Assign [.Name x pos'] e pos) (tAsg te (gName i)) := by
  intro pins s σ H D I h
  refine wpAny_Assign_Name (thn (he pins s σ H _ I h) fun v s1 ⟨y, H1, I1, r1, q1⟩ => ?_) hs
  exact store_ok I1 hN hi hx r1 (fun s2 I2 => ⟨_, H1, I2, q1⟩) hf
def tPar (i j : Nat) (ta : TA) : TS := fun D σ H => ta σ H fun vs H1 => ∃ v w, vs = [v, w] ∧ D.nx ((σ.set i (some v)).set j (some w)) H1
theorem ps_par {i j : Nat} {x y : Str} {a b : Expr} {ta : TA} {px py pt : Pos} {kt k2 pt2} (hc : X.calm = true) (hN : X.N.Nodup) (hi : X.N[i]? = some x) (hj : X.N[j]? = some y) (hij : i ≠ j)
    (hx : X.env.scope.names.lookup x = some .local) (hy : X.env.scope.names.lookup y = some .local) (ha : PA X [a, b] ta)
    (hw : swappedStores [.Tuple [.Name x px, .Name y py] kt pt] (.Tuple [a, b] k2 pt2) X.env = pure (some [x, y]))
    (hs : swapsWithSole [.Tuple [.Name x px, .Name y py] kt pt] (.Tuple [a, b] k2 pt2) pos.line X.env = pure false := by rfl) :
    PS X (.Assign [.Tuple [.Name x px, .Name y py] kt pt] (.Tuple [a, b] k2 pt2) pos) (tPar i j ta) := by
  intro pins s σ H D I h
  rw [exec_Assign_arm]
  refine wpAny_bind (wpAny_standAt ?_)
  rw [hs]
  refine wpAny_bind (wpAny_pure ?_)
  rw [if_neg (by decide)]
  refine wpAny_bind (Tuple_ (thn (ha _ pins s σ H _ I h) fun us s1 ⟨vs, H1, I1, r1, q1⟩ => ?_))
  obtain ⟨v, w, e1, q1⟩ := q1
  subst e1
  obtain ⟨u1, u2, rfl, rv, rw'⟩ : ∃ u1 u2, us = [u1, u2] ∧ RelV v u1 ∧ RelV w u2 := by
    cases r1 with
    | cons p q =>
      cases q with
      | cons p' q' =>
        cases q'
        exact ⟨_, _, rfl, p, p'⟩
  refine wpAny_newObj_type ?_ (by show 2 ≤ sizeLine; decide)
  have I2 : Inv X pins σ H1 { s1 with heap := s1.heap.push { cls := .type "tuple", data := .seq [u1, u2].toArray } } := I1.kept (t' := s1.toks) fun b o e => Heap.get?_push_of_some _ e
  rw [hw]
  refine wpAny_bind (wpAny_pure ?_)
  show wpAny (model X.prog X.w) X.A (do rule "assign.swapped-stores"; let items ← unpackItems (.ref s1.heap.objs.size) 2 none; assignInOrder [fun v => bindName X.env y v, fun v => bindName X.env x v] items.reverse; pure Flow.next) _ _ _
  refine wpAny_bind (wpAny_rule (wpAny_bind (unpackItems_tuple (items := #[u1, u2]) (I.ok.hd hc) (IsTup.new s1.heap _) fun h' hx' => ?_)))
  have I3 := I2.kept (h' := h') (t' := s1.toks) fun b o e => hx' b o (Nat.ne_of_lt (Heap.lt_size e)) e
  show wpAny _ _ (assignInOrder [fun v => bindName X.env y v, fun v => bindName X.env x v] [u2, u1] >>= fun _ => pure Flow.next) _ _ _
  refine wpAny_bind (assignInOrder_cons (wpAny_bindName (store_ok I3 hN hj (.inl hy) rw' (fun s2 I4 => ?_) (.inr hy))))
  refine assignInOrder_cons (wpAny_bindName (store_ok I4 hN hi (.inl hx) rv (fun s3 I5 => assignInOrder_nil (wpAny_pure ?_)) (.inr hx)))
  rw [List.set_comm _ _ (Ne.symm hij)] at I5
  exact ⟨_, H1, I5, q1⟩
end

section
variable {X : Cx} {pos : Pos}
def tWhile (c : TT) (tb : TS) : TS := fun D σ H => ∃ W : Nat → St → Hp → Prop, (∃ m, W m σ H) ∧ ∀ m σ H, W m σ H →
  c σ H fun b H1 => if b = true then ∃ N : St → Hp → Prop, (∀ σ' H', N σ' H' → ∃ m', m' < m ∧ W m' σ' H') ∧ tb { D with nx := N, ct := N, bk := D.nx } σ H1 else D.nx σ H1
theorem ps_while {c : Expr} {body : List Stmt} {tc : TT} {tb : TS} (hp : PassesOwn (model X.prog X.w) X.A X.env X.xe) (hc : PT X c tc) (hb : PSs X body tb) : PS X (.While c body [] pos) (tWhile tc tb) := by
  intro pins s σ H D I h
  obtain ⟨W, ⟨m0, w0⟩, turn⟩ := h
  refine wpAny_While (codeAny_whileLoop (fun n s' => ∃ σ' H', Inv X pins σ' H' s' ∧ W n σ' H') ?_ m0 ⟨σ, H, I, w0⟩)
  rintro n s1 ⟨σ1, H1, I1, w1⟩
  refine wpAny_passesOwn hp (thn (hc pins s1 σ1 H1 _ I1 (turn n σ1 H1 w1)) fun b s2 ⟨H2, I2, q2⟩ => ?_)
  cases b with
  | true =>
    obtain ⟨N, hN, q2⟩ := q2
    rw [if_pos rfl]
    refine wpAny_passesOwn hp (thn (hb pins s2 σ1 H2 _ I2 q2) fun f s3 q3 => ?_)
    cases f with
    | next =>
      obtain ⟨σ3, H3, I3, n3⟩ := q3
      obtain ⟨m', hm, w3⟩ := hN σ3 H3 n3
      exact ⟨m', hm, σ3, H3, I3, w3⟩
    | cont =>
      obtain ⟨σ3, H3, I3, n3⟩ := q3
      obtain ⟨m', hm, w3⟩ := hN σ3 H3 n3
      exact ⟨m', hm, σ3, H3, I3, w3⟩
    | brk => exact q3
    | ret v => exact q3
  | false =>
    rw [if_neg Bool.false_ne_true]
    exact wpAny_execs_nil ⟨σ1, H2, I2, q2⟩
end

structure It where
  go : Nat → Hp → Prop
  yld : Nat → Hp → V → Hp → Prop
  stop : Nat → Hp → Prop
def FpOk (X : Cx) (pins : List (Addr × Obj)) (H : Hp) (b : Addr) : Prop :=
  H b = none ∧ b ≠ X.env.locals ∧ b ∉ X.fs ∧ (b ∈ X.ex ∨ X.s₀.heap.objs.size ≤ b) ∧ (∀ x c, X.env.cells.lookup x = some c → c ≠ b) ∧ ∀ p ∈ X.pn ++ pins, p.1 ≠ b
theorem Inv.fpOk {X : Cx} {pins : List (Addr × Obj)} {σ : St} {H H' : Hp} {s : Shared} {b : Addr} (I : Inv X pins σ H s) (hb : s.heap.objs.size ≤ b) (hn : H' b = none) : FpOk X pins H' b := by
  refine ⟨hn, Nat.ne_of_gt (Nat.lt_of_lt_of_le I.lt hb), I.nofs hb, .inr (Nat.le_trans I.sz hb), fun x c e z => ?_, fun p hp z => ?_⟩
  · obtain ⟨v, q⟩ := I.cell x c e
    exact absurd (Nat.lt_of_lt_of_le q.lt (by rw [z]; exact hb)) (Nat.lt_irrefl _)
  · exact absurd (Nat.lt_of_lt_of_le (Heap.lt_size (I.pin p hp).1) (by rw [z]; exact hb)) (Nat.lt_irrefl _)
structure Turn (P : Program) (w : World) (K : PySem.W.Frag) (tg : Expr) (J : It) (fp : List Addr) (it : Addr) (tn : Nat → Heap → Prop) : Prop where
  mem : it ∈ fp
  obj : ∀ i h, tn i h → ∀ b ∈ fp, ∃ o, h.get? b = some o ∧ ∀ v, o.data ≠ .cell v
  keep : ∀ i h h', tn i h → (∀ b ∈ fp, ∀ o, h.get? b = some o → h'.get? b = some o) → tn i h'
  item : ∀ (X : Cx), X.prog = P → X.w = w → X.K = K → X.calm = true → ∀ (i : Nat) (pins : List (Addr × Obj)) (s : Shared) (σ : St) (H : Hp) (E : Value → Shared → Prop), Inv X pins σ H s → (∀ b ∈ fp, FpOk X pins H b) → tn i s.heap → J.go i H →
    wpAny (model P w) X.A (pyNext (.ref it)) (fun r s1 => ∃ u, r = some u ∧
      wpAny (model P w) X.A (letOwnedTupleGo tg (.ref it) u) (fun _ s2 => ∃ x H', Inv X pins σ H' s2 ∧ RelV x u ∧ J.yld i H x H' ∧ tn (i + 1) s2.heap ∧ ∀ b ∈ fp, H' b = none) E s1) E s
  done : ∀ (X : Cx), X.prog = P → X.w = w → X.K = K → X.calm = true → ∀ (i : Nat) (pins : List (Addr × Obj)) (s : Shared) (σ : St) (H : Hp) (E : Value → Shared → Prop), Inv X pins σ H s → (∀ b ∈ fp, FpOk X pins H b) → tn i s.heap → J.stop i H →
    wpAny (model P w) X.A (pyNext (.ref it)) (fun r s1 => r = none ∧ Inv X pins σ H s1) E s
  self : ∀ (A : Around) (i : Nat) (s : Shared) (Q : Value → Shared → Prop) (E : Value → Shared → Prop), tn i s.heap → Q (.ref it) s → wpAny (model P w) A (pyIter (.ref it)) Q E s
abbrev TI := St → Hp → (It → Hp → Prop) → Prop
def PIE (X : Cx) (pins : List (Addr × Obj)) (σ : St) (tg : Expr) (R : It → Hp → Prop) (itv : Value) (s2 : Shared) : Prop :=
  ∃ (it : Addr) (fp : List Addr) (tn : Nat → Heap → Prop) (J : It) (H' : Hp), itv = .ref it ∧ Inv X pins σ H' s2 ∧ Turn X.prog X.w X.K tg J fp it tn ∧ tn 0 s2.heap ∧ (∀ b ∈ fp, FpOk X pins H' b) ∧ R J H'
def PI (X : Cx) (tg iter : Expr) (wi : TI) : Prop :=
  ∀ (pins : List (Addr × Obj)) (s : Shared) (σ : St) (H : Hp) (R : It → Hp → Prop), Inv X pins σ H s → wi σ H R →
    wpAny (model X.prog X.w) X.A (eval iter X.env) (fun v s1 => wpAny (model X.prog X.w) X.A (pyIter v) (PIE X pins σ tg R) X.xe s1) X.xe s

theorem go_of {M : Model} {A : Around} {E : Value → Shared → Prop} {s : Shared} {tg : Expr} {it : Addr} {u : Value} {o : Obj} {n : String} {vs : Array Value} {Q : Unit → Shared → Prop} (ho : s.heap.get? it = some o) (hc : o.cls = .type n) (hd : o.data = .fields vs)
    (hn : ["enumerate", "zip", "dict_itemiterator", "dict_reverseitemiterator", "odict_iterator", "itertools.zip_longest", "itertools.pairwise"].contains n = false) (hQ : Q () s) : wpAny M A (letOwnedTupleGo tg (.ref it) u) Q E s := by
  unfold letOwnedTupleGo
  cases tg <;> first
    | exact wpAny_pure hQ
    | (cases u <;> first
        | exact wpAny_pure hQ
        | (refine wpAny_bind (wpAny_load ho ?_)
           rw [hc, hd]
           show wpAny M A (if (["enumerate", "zip", "dict_itemiterator", "dict_reverseitemiterator", "odict_iterator", "itertools.zip_longest", "itertools.pairwise"].contains n && vs[0]? == some (rawInt _)) = true then _ else _) Q E s
           rw [if_neg (by intro h; rw [hn, Bool.false_and] at h; cases h)]
           exact wpAny_pure hQ))

def Itl (K : PySem.W.Frag) (a : Addr) : It :=
  ⟨fun i H => ∃ xs x, SqL K H a xs ∧ xs[i]? = some x, fun i H x H' => H' = H ∧ ∀ xs, SqL K H a xs → xs[i]? = some x, fun i H => ∃ xs, SqL K H a xs ∧ xs.length ≤ i⟩
def Itr (lo : Int) (n : Nat) : It := ⟨fun i _ => i < n, fun i H x H' => H' = H ∧ x = .int (lo + i), fun i _ => n ≤ i⟩
theorem turn_list {P : Program} {w : World} {K : PySem.W.Frag} {tg : Expr} (a it : Addr) : Turn P w K tg (Itl K a) [it] it (fun i h => h.IsListIter it a i) where
  mem := by simp
  obj := fun i h st b hb => by
    have e : b = it := by simpa using hb
    subst e
    obtain ⟨o, e, c, d⟩ := st
    exact ⟨o, e, fun v z => by rw [d] at z; cases z⟩
  keep := fun i h h' st k => st.at fun o e => k it (by simp) o e
  item := by
    intro X hP hw hK hc i pins s σ H E I hf st hg
    subst hP hw hK
    obtain ⟨xs, x, hq, hx⟩ := hg
    obtain ⟨its, rv, p, hz⟩ := I.list hq
    obtain ⟨u, hu, ru⟩ := rv.get hx
    obtain ⟨f0, f1, f2, f3, f4, f5⟩ := hf it (by simp)
    refine wpAny_pyNext_list_item st p.isList (x := u) (by simpa using hu) fun h' st' sb => ?_
    have I1 : Inv X pins σ H { s with heap := h' } := I.turned (t' := s.toks) (fun b o hb e => (sb.2 b hb).trans e) f0 f1 f3 f4 f5
    obtain ⟨o, e, c, d⟩ := id st'
    exact ⟨u, rfl, go_of (s := { s with heap := h' }) e c d (by decide) ⟨x, H, I1, ru, ⟨rfl, fun ys hy => by rw [I.list_inj hy hq]; exact hx⟩, st', fun b hb => (hf b hb).1⟩⟩
  done := by
    intro X hP hw hK hc i pins s σ H E I hf st hg
    subst hP hw hK
    obtain ⟨xs, hq, hx⟩ := hg
    obtain ⟨its, rv, p, hz⟩ := I.list hq
    obtain ⟨f0, f1, f2, f3, f4, f5⟩ := hf it (by simp)
    have hl := rv.length
    exact wpAny_pyNext_list_end (I.ok.hd hc) st p.isList (by simp; omega) fun h' eb => ⟨rfl, I.turned (t' := s.toks) (fun b o hb e => eb b o hb e) f0 f1 f3 f4 f5⟩
  self := fun _ _ _ _ _ st h => wpAny_pyIter_listiter st h
theorem turn_range {P : Program} {w : World} {K : PySem.W.Frag} {tg : Expr} (it : Addr) (lo : Int) (n : Nat) : Turn P w K tg (Itr lo n) [it] it (fun i h => IsRangeIter h it (lo + (i : Nat) * 1) ((n : Int) - (i : Nat)) 1) where
  mem := by simp
  obj := fun i h st b hb => by
    have e : b = it := by simpa using hb
    subst e
    exact ⟨_, st, fun v z => by
      have z' : Data.fields _ = Data.cell v := z
      cases z'⟩
  keep := fun i h h' st k => k it (by simp) _ st
  item := by
    intro X hP hw hK hc i pins s σ H E I hf st hg
    subst hP hw hK
    obtain ⟨f0, f1, f2, f3, f4, f5⟩ := hf it (by simp)
    have W := Walks.range (prog := X.prog) (w := X.w) (I.ok.hd hc) it lo 1 n
    refine W.item i s _ _ hg st fun v h' tk hv st' kk => ?_
    obtain ⟨t, rfl⟩ := hv
    have I1 : Inv X pins σ H { s with heap := h', toks := tk } := I.turned (fun b o hb e => kk b o (by simpa using hb) e) f0 f1 f3 f4 f5
    refine ⟨_, rfl, go_of (s := { s with heap := h', toks := tk }) (n := "range_iterator") st' rfl rfl (by decide) ⟨.int (lo + i), H, I1, ⟨t, ?_⟩, ⟨rfl, rfl⟩, st', fun b hb => (hf b hb).1⟩⟩
    rw [Int.mul_one]
  done := by
    intro X hP hw hK hc i pins s σ H E I hf st hg
    subst hP hw hK
    obtain ⟨f0, f1, f2, f3, f4, f5⟩ := hf it (by simp)
    exact wpAny_pyNext_range_end (I.ok.hd hc) st (by have : n ≤ i := hg; omega) fun h' eb => ⟨rfl, I.turned (t' := s.toks) (fun b o hb e => eb b o hb e) f0 f1 f3 f4 f5⟩
  self := fun _ _ _ _ _ st h => wpAny_pyIter_rangeiter st h
end L2

namespace L2
open PySem PySem.Spec PyProof.Rows
section
variable {X : Cx} {tg : Expr}
def iList (K : PySem.W.Frag) (tl : TE) : TI := fun σ H R => tl σ H fun x H1 => ∃ a, x = .ref a ∧ (∃ xs, SqL K H1 a xs) ∧ R (Itl K a) H1
theorem pi_list {l : Expr} {tl : TE} (hl : PE X l tl) : PI X tg l (iList X.K tl) := by
  intro pins s σ H R I h
  refine thn (hl pins s σ H _ I h) fun v s1 ⟨x, H1, I1, r1, q1⟩ => ?_
  obtain ⟨a, e, ⟨xs, hq⟩, q⟩ := q1
  subst e
  cases r1
  obtain ⟨its, rv, p, hz⟩ := I1.list hq
  refine wpAny_pyIter_list p.isList ?_
  refine ⟨s1.heap.objs.size, [s1.heap.objs.size], _, _, H1, rfl, I1.kept (t' := s1.toks) fun b o e => Heap.get?_push_of_some _ e, turn_list a _, ⟨_, Heap.get?_push_size _ rfl, rfl, rfl⟩, fun b hb => ?_, q⟩
  have e : b = s1.heap.objs.size := by simpa using hb
  subst e
  exact I1.fpOk (Nat.le_refl _) (I1.hok.fresh (Nat.le_refl _))
theorem range_it {pins : List (Addr × Obj)} {σ : St} {H : Hp} {s : Shared} {R : It → Hp → Prop} {E : Value → Shared → Prop} {lo hi : Int} {t u v : Tok} {tk : Nat} (I : Inv X pins σ H s) (h1 : -(2 ^ 62) ≤ lo) (h2 : lo < 2 ^ 62) (h3 : -(2 ^ 62) ≤ hi) (h4 : hi < 2 ^ 62)
    (q : R (Itr lo (hi - lo).toNat) H) : wpAny (model X.prog X.w) X.A (pyIter (.ref s.heap.objs.size)) (PIE X pins σ tg R) E { s with heap := s.heap.push { cls := .type "range", data := .fields #[.int lo t, .int hi u, .int 1 v] }, toks := tk } := by
  refine wpAny_pyIter_range (IsRange.new ..) (small_one h1 h2 h3 h4) ?_
  have I1 : Inv X pins σ H { s with heap := s.heap.push { cls := .type "range", data := .fields #[.int lo t, .int hi u, .int 1 v] }, toks := tk } := I.kept fun b o e => Heap.get?_push_of_some _ e
  refine ⟨(s.heap.push { cls := .type "range", data := .fields #[.int lo t, .int hi u, .int 1 v] }).objs.size, [(s.heap.push { cls := .type "range", data := .fields #[.int lo t, .int hi u, .int 1 v] }).objs.size], _, _, H, rfl,
    I1.kept (t' := tk) fun b o e => Heap.get?_push_of_some _ e, turn_range _ lo (hi - lo).toNat, ?_, fun b hb => ?_, q⟩
  · have e1 : lo + ((0 : Nat) : Int) * 1 = lo := by simp
    have e2 : (((hi - lo).toNat : Nat) : Int) - ((0 : Nat) : Int) = Builtin.Range.rangeSize lo hi 1 := by rw [rangeSize_one]; split <;> omega
    show IsRangeIter _ _ (lo + ((0 : Nat) : Int) * 1) ((((hi - lo).toNat : Nat) : Int) - ((0 : Nat) : Int)) 1
    rw [e1, e2]
    exact Heap.get?_push_size _ rfl
  · have e : b = (s.heap.push { cls := .type "range", data := .fields #[.int lo t, .int hi u, .int 1 v] }).objs.size := by simpa using hb
    subst e
    exact I1.fpOk (Nat.le_refl _) (I1.hok.fresh (Nat.le_refl _))
def iRng1 (ta : TA) : TI := fun σ H R => ta σ H fun vs H1 => ∃ j : Int, vs = [.int j] ∧ -(2 ^ 62) ≤ j ∧ j < 2 ^ 62 ∧ R (Itr 0 j.toNat) H1
def iRng2 (ta : TA) : TI := fun σ H R => ta σ H fun vs H1 => ∃ i j : Int, vs = [.int i, .int j] ∧ (-(2 ^ 62) ≤ i ∧ i < 2 ^ 62 ∧ -(2 ^ 62) ≤ j ∧ j < 2 ^ 62) ∧ R (Itr i (j - i).toNat) H1
theorem pi_range1 {a : Expr} {ta : TA} {p pos : Pos} (hg : Gl X "range") (hm : X.mg "range" = none) (ha : PA X [a] ta) (hs : starEach [a] X.env = [(false, eval a X.env)] := by rfl) : PI X tg (.Call (.Name "range" p) [a] [] pos) (iRng1 ta) := by
  intro pins s σ H R I h
  refine Call_ (ld_blt I hg hm boot_range (PyProof.Rows.callWith_type1 (thn (ha pos pins s σ H _ I h) fun us s1 ⟨vs, H1, I1, r1, q1⟩ => ?_) hs rfl))
  obtain ⟨j, e, q1, q2, q⟩ := q1
  subst e
  cases r1 with
  | cons r rr =>
    cases rr
    obtain ⟨t, rfl⟩ := r
    exact call_range_1 (range_it I1 (by omega) (by omega) q1 q2 (by simpa using q))
theorem pi_range2 {a b : Expr} {ta : TA} {p pos : Pos} (hg : Gl X "range") (hm : X.mg "range" = none) (ha : PA X [a, b] ta) (hs : starEach [a, b] X.env = [(false, eval a X.env), (false, eval b X.env)] := by rfl) (hs2 : starEach [b] X.env = [(false, eval b X.env)] := by rfl) :
    PI X tg (.Call (.Name "range" p) [a, b] [] pos) (iRng2 ta) := by
  intro pins s σ H R I h
  refine Call_ (ld_blt I hg hm boot_range (PyProof.Rows.callWith_type1 (thn (ha pos pins s σ H _ I h) fun us s1 ⟨vs, H1, I1, r1, q1⟩ => ?_) (by rw [hs, hs2]) (by rw [hs2]; rfl)))
  obtain ⟨i, j, e, ⟨q1, q2, q3, q4⟩, q⟩ := q1
  subst e
  cases r1 with
  | cons r rr =>
    cases rr with
    | cons r' rr =>
      cases rr
      obtain ⟨t, rfl⟩ := r
      obtain ⟨t', rfl⟩ := r'
      exact call_range_2 (range_it I1 q1 q2 q3 q4 q)

def tFor (wi : TI) (g : TG) (tb : TS) : TS := fun D σ H => wi σ H fun J H1 => ∃ W : Nat → Nat → St → Hp → Prop, (∃ m, W 0 m σ H1) ∧ ∀ i m σ H, W i m σ H →
  (J.stop i H ∧ D.nx σ H) ∨ (J.go i H ∧ ∃ N : St → Hp → Prop, (∀ σ' H', N σ' H' → ∃ m', m' < m ∧ W (i + 1) m' σ' H') ∧ ∀ x H', J.yld i H x H' → g x σ H' fun σ2 H2 => tb { D with nx := N, ct := N, bk := D.nx } σ2 H2)
def pinsAt (fp : List Addr) (h : Heap) : List (Addr × Obj) := fp.filterMap fun b => (h.get? b).map fun o => (b, o)
theorem mem_pinsAt {fp : List Addr} {h : Heap} {b : Addr} {o : Obj} (hb : b ∈ fp) (e : h.get? b = some o) : (b, o) ∈ pinsAt fp h := List.mem_filterMap.mpr ⟨b, hb, by rw [e]; rfl⟩
theorem of_pinsAt {fp : List Addr} {h : Heap} {p : Addr × Obj} (hp : p ∈ pinsAt fp h) : p.1 ∈ fp ∧ h.get? p.1 = some p.2 := by
  obtain ⟨b, hb, e⟩ := List.mem_filterMap.mp hp
  cases q : h.get? b with
  | none => rw [q] at e; cases e
  | some o =>
    rw [q] at e
    have e' : (b, o) = p := Option.some.inj e
    subst e'
    exact ⟨hb, q⟩
theorem Inv.pinned {pins : List (Addr × Obj)} {σ : St} {H : Hp} {s : Shared} {fp : List Addr} (I : Inv X pins σ H s) (hf : ∀ b ∈ fp, FpOk X pins H b) (ho : ∀ b ∈ fp, ∃ o, s.heap.get? b = some o ∧ ∀ v, o.data ≠ .cell v) : Inv X (pins ++ pinsAt fp s.heap) σ H s :=
  I.pins_of fun p hp => (List.mem_append.mp hp).elim (fun z => I.pin p (List.mem_append_right _ z)) fun z => by
    obtain ⟨hb, e⟩ := of_pinsAt z
    obtain ⟨f0, f1, f2, _⟩ := hf p.1 hb
    obtain ⟨o, e', d⟩ := ho p.1 hb
    rw [e] at e'; cases e'
    exact ⟨e, f0, f1, f2, d⟩
theorem Inv.unpinned {pins pl : List (Addr × Obj)} {σ : St} {H : Hp} {s : Shared} (I : Inv X (pins ++ pl) σ H s) : Inv X pins σ H s := I.pins_of fun p hp => I.pin p (List.mem_append_right _ (List.mem_append_left _ hp))
theorem ps_for {iter : Expr} {body : List Stmt} {wi : TI} {g : TG} {tb : TS} {pos : Pos} (hp : PassesOwn (model X.prog X.w) X.A X.env X.xe) (hc : X.calm = true) (hi : PI X tg iter wi) (hg : PG X tg g) (hb : PSs X body tb)
    (hs : ∀ x, foldedSetIterable iter X.env x = pure x := by intro _; rfl) : PS X (.For tg iter body [] pos) (tFor wi g tb) := by
  intro pins s σ H D I h
  refine wpAny_For (thn (hi pins s σ H _ I h) fun v s1 h1 => thn h1 fun itv s2 h2 => ?_) hs
  obtain ⟨it, fp, tn, J, H2, e, I2, T, st2, f2, W, ⟨m0, w0⟩, turn⟩ := h2
  subst e
  -- what stays true of the iterator's objects through the loop
  have stat : ∀ {H' : Hp}, (∀ b ∈ fp, H' b = none) → ∀ b ∈ fp, FpOk X pins H' b := fun hn b hb => ⟨hn b hb, (f2 b hb).2⟩
  refine codeAny_forLoop_any (fun n s' => ∃ i σ' H', Inv X pins σ' H' s' ∧ tn i s'.heap ∧ (∀ b ∈ fp, H' b = none) ∧ W i n σ' H') ?_ m0 ⟨0, σ, H2, I2, st2, fun b hb => (f2 b hb).1, w0⟩
  rintro n s3 ⟨i, σ3, H3, I3, st3, fr3, w3⟩
  rcases turn i n σ3 H3 w3 with ⟨stop, qn⟩ | ⟨go, N, hN, step⟩
  · refine wpAny_passesOwn hp (thn (T.done X rfl rfl rfl hc i pins s3 σ3 H3 X.xe I3 (stat fr3) st3 stop) fun r s4 ⟨hr, I4⟩ => ?_)
    subst hr
    exact wpAny_execs_nil ⟨σ3, H3, I4, qn⟩
  · refine wpAny_passesOwn hp (thn (T.item X rfl rfl rfl hc i pins s3 σ3 H3 X.xe I3 (stat fr3) st3 go) fun r s4 ⟨u, hr, h4⟩ => ?_)
    subst hr
    refine wpAny_passesOwn hp (thn h4 fun _ s5 ⟨x, H5, I5, r5, y5, st5, fr5⟩ => ?_)
    have I5' := I5.pinned (stat fr5) (T.obj _ _ st5)
    refine wpAny_passesOwn hp (thn (hg _ s5 σ3 H5 x u _ I5' r5 (step x H5 y5)) fun _ s6 ⟨σ6, H6, I6, q6⟩ => ?_)
    refine wpAny_passesOwn hp (thn (hb _ s6 σ6 H6 _ I6 q6) fun f s7 q7 => ?_)
    have again : ∀ {σ7 : St} {H7 : Hp}, Inv X (pins ++ pinsAt fp s5.heap) σ7 H7 s7 → N σ7 H7 → ∃ m, m < n ∧ ∃ i σ' H', Inv X pins σ' H' s7 ∧ tn i s7.heap ∧ (∀ b ∈ fp, H' b = none) ∧ W i m σ' H' := fun {σ7 H7} I7 n7 => by
      obtain ⟨m', hm, w7⟩ := hN σ7 H7 n7
      refine ⟨m', hm, i + 1, σ7, H7, I7.unpinned, T.keep _ _ _ st5 fun b hb o e => (I7.pin (b, o) (List.mem_append_right _ (List.mem_append_right _ (mem_pinsAt hb e)))).1, fun b hb => ?_, w7⟩
      obtain ⟨o, e, d⟩ := T.obj _ _ st5 b hb
      exact (I7.pin (b, o) (List.mem_append_right _ (List.mem_append_right _ (mem_pinsAt hb e)))).2.1
    cases f with
    | next => obtain ⟨σ7, H7, I7, n7⟩ := q7; exact again I7 n7
    | cont => obtain ⟨σ7, H7, I7, n7⟩ := q7; exact again I7 n7
    | brk => obtain ⟨σ7, H7, I7, q7⟩ := q7; exact ⟨σ7, H7, I7.unpinned, q7⟩
    | ret v => obtain ⟨x7, σ7, H7, I7, r7, q7⟩ := q7; exact ⟨x7, σ7, H7, I7.unpinned, r7, q7⟩
end

theorem for_list {K : PySem.W.Frag} {a : Addr} {xs : List V} {g : TG} {tb : TS} {D : Ends} {σ : St} {H : Hp} (Pv : Nat → St → Hp → Prop) (h0 : Pv 0 σ H) (hl : ∀ i σ H, i ≤ xs.length → Pv i σ H → SqL K H a xs)
    (hs : ∀ i x σ H, xs[i]? = some x → Pv i σ H → g x σ H fun σ2 H2 => tb { D with nx := Pv (i + 1), ct := Pv (i + 1), bk := D.nx } σ2 H2) (hd : ∀ σ H, Pv xs.length σ H → D.nx σ H) :
    ∃ W : Nat → Nat → St → Hp → Prop, (∃ m, W 0 m σ H) ∧ ∀ i m σ H, W i m σ H →
      ((Itl K a).stop i H ∧ D.nx σ H) ∨ ((Itl K a).go i H ∧ ∃ N : St → Hp → Prop, (∀ σ' H', N σ' H' → ∃ m', m' < m ∧ W (i + 1) m' σ' H') ∧ ∀ x H', (Itl K a).yld i H x H' → g x σ H' fun σ2 H2 => tb { D with nx := N, ct := N, bk := D.nx } σ2 H2) := by
  refine ⟨fun i m σ H => m = xs.length - i ∧ i ≤ xs.length ∧ Pv i σ H, ⟨xs.length, by simp, Nat.zero_le _, h0⟩, ?_⟩
  rintro i m σ H ⟨rfl, hi, p⟩
  have q := hl i σ H hi p
  by_cases hlt : i < xs.length
  · refine .inr ⟨⟨xs, xs[i], q, by simp [hlt]⟩, Pv (i + 1), fun σ' H' p' => ⟨xs.length - (i + 1), by omega, rfl, hlt, p'⟩, fun x H' y => ?_⟩
    obtain ⟨e, y⟩ := y
    subst e
    exact hs i x σ _ (y xs q) p
  · have e : i = xs.length := by omega
    subst e
    exact .inl ⟨⟨xs, q, Nat.le_refl _⟩, hd σ H p⟩
theorem for_range {lo : Int} {n : Nat} {g : TG} {tb : TS} {D : Ends} {σ : St} {H : Hp} (Pv : Nat → St → Hp → Prop) (h0 : Pv 0 σ H)
    (hs : ∀ i σ H, i < n → Pv i σ H → g (.int (lo + i)) σ H fun σ2 H2 => tb { D with nx := Pv (i + 1), ct := Pv (i + 1), bk := D.nx } σ2 H2) (hd : ∀ σ H, Pv n σ H → D.nx σ H) :
    ∃ W : Nat → Nat → St → Hp → Prop, (∃ m, W 0 m σ H) ∧ ∀ i m σ H, W i m σ H →
      ((Itr lo n).stop i H ∧ D.nx σ H) ∨ ((Itr lo n).go i H ∧ ∃ N : St → Hp → Prop, (∀ σ' H', N σ' H' → ∃ m', m' < m ∧ W (i + 1) m' σ' H') ∧ ∀ x H', (Itr lo n).yld i H x H' → g x σ H' fun σ2 H2 => tb { D with nx := N, ct := N, bk := D.nx } σ2 H2) := by
  refine ⟨fun i m σ H => m = n - i ∧ i ≤ n ∧ Pv i σ H, ⟨n, by simp, Nat.zero_le _, h0⟩, ?_⟩
  rintro i m σ H ⟨rfl, hi, p⟩
  by_cases hlt : i < n
  · refine .inr ⟨hlt, Pv (i + 1), fun σ' H' p' => ⟨n - (i + 1), by omega, rfl, hlt, p'⟩, fun x H' y => ?_⟩
    obtain ⟨e, y⟩ := y
    subst e y
    exact hs i σ _ hlt p
  · have e : i = n := by omega
    subst e
    exact .inl ⟨Nat.le_refl _, hd σ H p⟩
end L2

namespace L2
open PySem PySem.Spec PyProof.Rows

abbrev R2 := V → V → Hp → VK → Prop
def OpR (X : Cx) (f : Value → Value → Sem Value) (r : R2) : Prop :=
  ∀ (pins : List (Addr × Obj)) (s : Shared) (σ : St) (H : Hp) (x y : V) (v u : Value) (Q : VK), Inv X pins σ H s → RelV x v → RelV y u → r x y H Q →
    wpAny (model X.prog X.w) X.A (f v u) (EP X pins σ Q) X.xe s
def UnR (X : Cx) (f : Value → Sem Value) (r : V → Hp → VK → Prop) : Prop :=
  ∀ (pins : List (Addr × Obj)) (s : Shared) (σ : St) (H : Hp) (x : V) (v : Value) (Q : VK), Inv X pins σ H s → RelV x v → r x H Q →
    wpAny (model X.prog X.w) X.A (f v) (EP X pins σ Q) X.xe s
def CallR (X : Cx) (f : Value) (r : List V → Hp → VK → Prop) : Prop :=
  ∀ (pins : List (Addr × Obj)) (s : Shared) (σ : St) (H : Hp) (xs : List V) (us : List Value) (Q : VK), Inv X pins σ H s → Vals xs us → r xs H Q →
    wpAny (model X.prog X.w) X.A (call f us) (EP X pins σ Q) X.xe s
def TruR (X : Cx) (r : V → Hp → (Bool → Hp → Prop) → Prop) : Prop :=
  ∀ (pins : List (Addr × Obj)) (s : Shared) (σ : St) (H : Hp) (x : V) (v : Value) (Q : Bool → Hp → Prop), Inv X pins σ H s → RelV x v → r x H Q →
    wpAny (model X.prog X.w) X.A (truthy v) (TP X pins σ Q) X.xe s

def tOp (r : R2) (ta tb : TE) : TE := fun σ H Q => ta σ H fun x H1 => tb σ H1 fun y H2 => r x y H2 Q
def tUn (r : V → Hp → VK → Prop) (ta : TE) : TE := fun σ H Q => ta σ H fun x H1 => r x H1 Q
def rI (C : Int → Int → Prop) (g : Int → Int → V) : R2 := fun x y H Q => ∃ i j, x = .int i ∧ y = .int j ∧ C i j ∧ Q (g i j) H
def rI0 (g : Int → Int → V) : R2 := fun x y H Q => ∃ i j, x = .int i ∧ y = .int j ∧ Q (g i j) H
def rU (g : Int → V) : V → Hp → VK → Prop := fun x H Q => ∃ i, x = .int i ∧ Q (g i) H

section
variable {X : Cx} {a b c : Expr} {ta tb tc : TE} {pos : Pos}

theorem binT (ha : PE X a ta) (hb : PE X b tb) {pins : List (Addr × Obj)} {s : Shared} {σ : St} {H : Hp} {R : V → V → Hp → Prop} (I : Inv X pins σ H s)
    (h : ta σ H fun x H1 => tb σ H1 fun y H2 => R x y H2) {Q : Value → Shared → Prop} {f : Value → Value → Sem Value}
    (hf : ∀ v u s2 x y H2, Inv X pins σ H2 s2 → RelV x v → RelV y u → R x y H2 → wpAny (model X.prog X.w) X.A (f v u) Q X.xe s2) :
    wpAny (model X.prog X.w) X.A (eval a X.env) (fun v s₁ => wpAny (model X.prog X.w) X.A (eval b X.env) (fun u s₂ => wpAny (model X.prog X.w) X.A (f v u) Q X.xe s₂) X.xe s₁) X.xe s := by
  refine thn (ha pins s σ H _ I h) fun v s1 ⟨x, H1, I1, r1, q1⟩ => ?_
  refine thn (hb pins s1 σ H1 _ I1 q1) fun u s2 ⟨y, H2, I2, r2, q2⟩ => ?_
  exact hf v u s2 x y H2 I2 r1 r2 q2

theorem pe_op {op : Operator} {r : R2} (ho : OpR X (binaryOp op) r) (ha : PE X a ta) (hb : PE X b tb) : PE X (.BinOp a op b pos) (tOp r ta tb) := by
  intro pins s σ H Q I h
  exact wpAny_BinOp (binT ha hb I h fun v u s2 x y H2 I2 rx ry q => ho pins s2 σ H2 x y v u Q I2 rx ry q)
theorem pe_un {op : UnaryOp} {r : V → Hp → VK → Prop} (ho : UnR X (unaryOp op) r) (ha : PE X a ta) : PE X (.UnaryOp op a pos) (tUn r ta) := by
  intro pins s σ H Q I h
  exact UnaryOp_ (thn (ha pins s σ H _ I h) fun v s1 ⟨x, H1, I1, r1, q1⟩ => ho pins s1 σ H1 x v Q I1 r1 q1)
theorem opI {f : Value → Value → Sem Value} {C : Int → Int → Prop} {g : Int → Int → Int}
    (rule : ∀ (i j : Int) (t u : Tok) (s : Shared) (Q : Value → Shared → Prop) (E : Value → Shared → Prop), C i j → Q (.int (g i j) s.toks) { s with toks := s.toks + 1 } → wpAny (model X.prog X.w) X.A (f (.int i t) (.int j u)) Q E s) :
    OpR X f (rI C fun i j => .int (g i j)) := by
  intro pins s σ H x y v u Q I rx ry h
  obtain ⟨i, j, rfl, rfl, hc, q⟩ := h
  obtain ⟨t, rfl⟩ := rx
  obtain ⟨t', rfl⟩ := ry
  exact rule i j t t' s _ _ hc ⟨.int (g i j), H, I.tok _, ⟨_, rfl⟩, q⟩
theorem opI0 {f : Value → Value → Sem Value} {g : Int → Int → Int}
    (rule : ∀ (i j : Int) (t u : Tok) (s : Shared) (Q : Value → Shared → Prop) (E : Value → Shared → Prop), Q (.int (g i j) s.toks) { s with toks := s.toks + 1 } → wpAny (model X.prog X.w) X.A (f (.int i t) (.int j u)) Q E s) :
    OpR X f (rI0 fun i j => .int (g i j)) := by
  intro pins s σ H x y v u Q I rx ry h
  obtain ⟨i, j, rfl, rfl, q⟩ := h
  obtain ⟨t, rfl⟩ := rx
  obtain ⟨t', rfl⟩ := ry
  exact rule i j t t' s _ _ ⟨.int (g i j), H, I.tok _, ⟨_, rfl⟩, q⟩
theorem opB0 {f : Value → Value → Sem Value} {g : Int → Int → Bool}
    (rule : ∀ (i j : Int) (t u : Tok) (s : Shared) (Q : Value → Shared → Prop) (E : Value → Shared → Prop), Q (.bool (g i j)) s → wpAny (model X.prog X.w) X.A (f (.int i t) (.int j u)) Q E s) :
    OpR X f (rI0 fun i j => .bl (g i j)) := by
  intro pins s σ H x y v u Q I rx ry h
  obtain ⟨i, j, rfl, rfl, q⟩ := h
  obtain ⟨t, rfl⟩ := rx
  obtain ⟨t', rfl⟩ := ry
  exact rule i j t t' s _ _ ⟨.bl (g i j), H, I, rfl, q⟩

def CDiv (i j : Int) : Prop := 0 < j ∧ j < 1073741824
def CPow (i j : Int) : Prop := 0 ≤ j ∧ j ≤ 1000000 ∧ i.natAbs < 2 ^ 64
def CMul (i j : Int) : Prop := (-(2 ^ 64) < i ∧ i < 2 ^ 64) ∨ (-(2 ^ 64) < j ∧ j < 2 ^ 64)
theorem CMul.ok {i j : Int} (h : CMul i j) : IntMulOk i j := by
  rcases h with ⟨h1, h2⟩ | ⟨h1, h2⟩
  · exact .of_left (intBits_le_64 h1 h2)
  · exact .of_right (intBits_le_64 h1 h2)
theorem op_add : OpR X (binaryOp .Add) (rI0 fun i j => .int (i + j)) := opI0 fun _ _ _ _ _ _ _ q => add_int q
theorem op_sub : OpR X (binaryOp .Sub) (rI0 fun i j => .int (i - j)) := opI0 fun _ _ _ _ _ _ _ q => sub_int q
theorem op_mul : OpR X (binaryOp .Mult) (rI CMul fun i j => .int (i * j)) := opI fun _ _ _ _ _ _ _ hc q => mul_int q hc.ok
theorem op_fdiv : OpR X (binaryOp .FloorDiv) (rI CDiv fun i j => .int (i / j)) := opI fun i j _ _ _ _ _ hc q => by
  have h1 : (0 : Int) < j := hc.1
  have h2 : j < 1073741824 := hc.2
  exact floordiv_int (by omega) (by rw [Int.fdiv_eq_ediv_of_nonneg i (by omega)]; exact q) (.inl (PyProof.noPylong_small (by omega)))
theorem op_mod : OpR X (binaryOp .Mod) (rI (fun _ j => 0 < j) fun i j => .int (i % j)) := opI fun i j _ _ _ _ _ hc q => by
  have h1 : (0 : Int) < j := hc
  exact mod_int' (by omega) (by rw [Int.fmod_eq_emod_of_nonneg i (by omega)]; exact q)
theorem op_pow : OpR X (binaryOp .Pow) (rI CPow fun i j => .int (i ^ j.toNat)) := opI fun _ _ _ _ _ _ _ hc q => pow_int_small hc.1 hc.2.1 hc.2.2 q
theorem op_xor : OpR X (binaryOp .BitXor) (rI0 fun i j => .int (Builtin.bitXor i j)) := opI0 fun _ _ _ _ _ _ _ q => xor_int q

theorem unI {f : Value → Sem Value} {g : Int → Int}
    (rule : ∀ (i : Int) (t : Tok) (s : Shared) (Q : Value → Shared → Prop) (E : Value → Shared → Prop), Q (.int (g i) s.toks) { s with toks := s.toks + 1 } → wpAny (model X.prog X.w) X.A (f (.int i t)) Q E s) :
    UnR X f (rU fun i => .int (g i)) := by
  intro pins s σ H x v Q I rx h
  obtain ⟨i, rfl, q⟩ := h
  obtain ⟨t, rfl⟩ := rx
  exact rule i t s _ _ ⟨.int (g i), H, I.tok _, ⟨_, rfl⟩, q⟩
theorem un_neg : UnR X (unaryOp .USub) (rU fun i => .int (-i)) := unI fun _ _ _ _ _ q => neg_int q
end

def scal : V → V → Bool
  | .non, .non => true | .non, .int _ => true | .int _, .non => true | .non, .bl _ => true | .bl _, .non => true | .non, .str _ => true | .str _, .non => true
  | .int _, .int _ => true | .bl _, .bl _ => true | .str _, .str _ => true | .byt _, .byt _ => true
  | .int _, .str _ => true | .str _, .int _ => true | .bl _, .str _ => true | .str _, .bl _ => true
  | _, _ => false
def rEq : R2 := fun x y H Q => scal x y = true ∧ Q (.bl (decide (x = y))) H
def rNe : R2 := fun x y H Q => scal x y = true ∧ Q (.bl (!decide (x = y))) H

theorem dec_int {i j : Int} : decide (V.int i = V.int j) = (i == j) := by
  rw [Bool.eq_iff_iff]
  simp
theorem dec_bl {i j : Bool} : decide (V.bl i = V.bl j) = (i == j) := by
  rw [Bool.eq_iff_iff]
  simp
theorem dec_str {i j : Str} : decide (V.str i = V.str j) = (i == j) := by
  rw [Bool.eq_iff_iff]
  simp
theorem dec_byt {i j : Array UInt8} : decide (V.byt i = V.byt j) = (i.toList == j.toList) := by
  rw [Bool.eq_iff_iff]
  cases i
  cases j
  simp

section
variable {X : Cx} {a b c : Expr} {ta tb tc : TE} {pos : Pos}
theorem fin_bl {pins : List (Addr × Obj)} {σ : St} {H : Hp} {s : Shared} {Q : VK} {k k' : Bool} (I : Inv X pins σ H s) (q : Q (.bl k) H) (e : k = k') : EP X pins σ Q (.bool k') s := by
  subst e
  exact ⟨.bl k, H, I, rfl, q⟩
theorem op_eq : OpR X (compareOp .Eq) rEq := by
  intro pins s σ H x y v u Q I rx ry h
  obtain ⟨hs, q⟩ := h
  cases x with
  | non =>
    cases rx
    cases y with
    | non => cases ry; exact PySem.EqNone.eq_none_none (fin_bl I q (by simp))
    | bl j => cases ry; exact PySem.EqNone.eq_none_bool (fin_bl I q (by simp))
    | int j => obtain ⟨t', rfl⟩ := ry; exact PySem.EqNone.eq_none_int (fin_bl I q (by simp))
    | str j => obtain ⟨t', rfl⟩ := ry; exact PySem.EqNone.eq_none_str (fin_bl I q (by simp))
    | _ => exact absurd (show false = true from hs) Bool.false_ne_true
  | bl i =>
    cases rx
    cases y with
    | non => cases ry; exact PySem.EqNone.eq_bool_none (fin_bl I q (by simp))
    | bl j => cases ry; exact eq_bool (fin_bl I q dec_bl)
    | str j => obtain ⟨t', rfl⟩ := ry; exact PySem.EqMixed.eq_bool_str (fin_bl I q (by simp))
    | _ => exact absurd (show false = true from hs) Bool.false_ne_true
  | int i =>
    obtain ⟨t, rfl⟩ := rx
    cases y with
    | non => cases ry; exact PySem.EqNone.eq_int_none (fin_bl I q (by simp))
    | int j => obtain ⟨t', rfl⟩ := ry; exact eq_int (fin_bl I q dec_int)
    | str j => obtain ⟨t', rfl⟩ := ry; exact PySem.EqMixed.eq_int_str (fin_bl I q (by simp))
    | _ => exact absurd (show false = true from hs) Bool.false_ne_true
  | str i =>
    obtain ⟨t, rfl⟩ := rx
    cases y with
    | non => cases ry; exact PySem.EqNone.eq_str_none (fin_bl I q (by simp))
    | bl j => cases ry; exact PySem.EqMixed.eq_str_bool (fin_bl I q (by simp))
    | int j => obtain ⟨t', rfl⟩ := ry; exact PySem.EqMixed.eq_str_int (fin_bl I q (by simp))
    | str j => obtain ⟨t', rfl⟩ := ry; exact eq_str (fin_bl I q dec_str)
    | _ => exact absurd (show false = true from hs) Bool.false_ne_true
  | byt i =>
    obtain ⟨t, rfl⟩ := rx
    cases y with
    | byt j => obtain ⟨t', rfl⟩ := ry; exact PySem.W.eq_bytes (fin_bl I q dec_byt)
    | _ => exact absurd (show false = true from hs) Bool.false_ne_true
  | _ => cases y <;> exact absurd (show false = true from hs) Bool.false_ne_true
theorem op_ne : OpR X (compareOp .NotEq) rNe := by
  intro pins s σ H x y v u Q I rx ry h
  obtain ⟨hs, q⟩ := h
  cases x with
  | non =>
    cases rx
    cases y with
    | non => cases ry; exact PySem.EqNone.ne_none_none (fin_bl I q (by simp))
    | bl j => cases ry; exact PySem.EqNone.ne_none_bool (fin_bl I q (by simp))
    | int j => obtain ⟨t', rfl⟩ := ry; exact PySem.EqNone.ne_none_int (fin_bl I q (by simp))
    | str j => obtain ⟨t', rfl⟩ := ry; exact PySem.EqNone.ne_none_str (fin_bl I q (by simp))
    | _ => exact absurd (show false = true from hs) Bool.false_ne_true
  | bl i =>
    cases rx
    cases y with
    | non => cases ry; exact PySem.EqNone.ne_bool_none (fin_bl I q (by simp))
    | bl j => cases ry; exact ne_bool (fin_bl I q (congrArg not dec_bl))
    | str j => obtain ⟨t', rfl⟩ := ry; exact PySem.EqMixed.ne_bool_str (fin_bl I q (by simp))
    | _ => exact absurd (show false = true from hs) Bool.false_ne_true
  | int i =>
    obtain ⟨t, rfl⟩ := rx
    cases y with
    | non => cases ry; exact PySem.EqNone.ne_int_none (fin_bl I q (by simp))
    | int j => obtain ⟨t', rfl⟩ := ry; exact ne_int (fin_bl I q (congrArg not dec_int))
    | str j => obtain ⟨t', rfl⟩ := ry; exact PySem.EqMixed.ne_int_str (fin_bl I q (by simp))
    | _ => exact absurd (show false = true from hs) Bool.false_ne_true
  | str i =>
    obtain ⟨t, rfl⟩ := rx
    cases y with
    | non => cases ry; exact PySem.EqNone.ne_str_none (fin_bl I q (by simp))
    | bl j => cases ry; exact PySem.EqMixed.ne_str_bool (fin_bl I q (by simp))
    | int j => obtain ⟨t', rfl⟩ := ry; exact PySem.EqMixed.ne_str_int (fin_bl I q (by simp))
    | str j => obtain ⟨t', rfl⟩ := ry; exact ne_str (fin_bl I q (congrArg not dec_str))
    | _ => exact absurd (show false = true from hs) Bool.false_ne_true
  | byt i =>
    obtain ⟨t, rfl⟩ := rx
    cases y with
    | byt j => obtain ⟨t', rfl⟩ := ry; exact PySem.W.ne_bytes (fin_bl I q (congrArg not dec_byt))
    | _ => exact absurd (show false = true from hs) Bool.false_ne_true
  | _ => cases y <;> exact absurd (show false = true from hs) Bool.false_ne_true

theorem op_lt : OpR X (compareOp .Lt) (rI0 fun i j => .bl (decide (i < j))) := opB0 fun _ _ _ _ _ _ _ q => lt_int q
theorem op_gt : OpR X (compareOp .Gt) (rI0 fun i j => .bl (decide (j < i))) := opB0 fun _ _ _ _ _ _ _ q => gt_int q
theorem op_ge : OpR X (compareOp .GtE) (rI0 fun i j => .bl (decide (j ≤ i))) := opB0 fun _ _ _ _ _ _ _ q => ge_int q
theorem op_notN : OpR X (compareOp .IsNot) (fun x y H Q => y = .non ∧ Q (.bl (!decide (x = .non))) H) := by
  intro pins s σ H x y v u Q I rx ry h
  obtain ⟨rfl, q⟩ := h
  cases ry
  refine isnot_none_gen (fin_bl I q ?_)
  cases x <;> first
    | (cases rx; rfl)
    | (obtain ⟨t, rfl⟩ := rx; rfl)

theorem nomark (b : Expr) {op : CmpOp} (h : op ≠ .In := by decide) (h2 : op ≠ .NotIn := by decide) : behindInMarks op b = false := by
  have e1 : (op == CmpOp.In) = false := by cases op <;> first | rfl | exact absurd rfl h
  have e2 : (op == CmpOp.NotIn) = false := by cases op <;> first | rfl | exact absurd rfl h2
  cases b <;> simp [behindInMarks, e1, e2]
theorem pe_cmpR {op : CmpOp} {r : R2} (ho : OpR X (compareOp op) r) (ha : PE X a ta) (hb : PE X b tb) (hm : behindInMarks op b = false) : PE X (.Compare a [op] [b] pos) (tOp r ta tb) := by
  intro pins s σ H Q I h
  exact wpAny_Compare1 (binT ha hb I h fun v u s2 x y H2 I2 rx ry q => ho pins s2 σ H2 x y v u Q I2 rx ry q) hm
def tTest (t : TE) : TT := fun σ H Q => t σ H fun x H' => ∃ k, x = .bl k ∧ Q k H'
theorem pt_cmpR {op : CmpOp} {r : R2} (ho : OpR X (compareOp op) r) (ha : PE X a ta) (hb : PE X b tb) (hm : behindInMarks op b = false) : PT X (.Compare a [op] [b] pos) (tTest (tOp r ta tb)) := by
  intro pins s σ H Q I h
  refine wpAny_isTrue_Compare1 (thn (ha pins s σ H _ I h) fun v s1 ⟨x, H1, I1, r1, q1⟩ => thn (hb pins s1 σ H1 _ I1 q1) fun u s2 ⟨y, H2, I2, r2, q2⟩ =>
    thn (ho pins s2 σ H2 x y v u _ I2 r1 r2 q2) fun c s3 ⟨z, H3, I3, r3, k, e, q3⟩ => ?_) hm
  subst e
  cases r3
  exact wpAny_truthy_bool ⟨H3, I3, q3⟩
def TruV (K : PySem.W.Frag) (x : V) (H : Hp) (k : Bool) : Prop :=
  match x with
  | .non => k = false
  | .bl b => k = b
  | .int i => k = (i != 0)
  | .str y => y.length ≤ sizeLine ∧ k = ((y.length : Int) != 0)
  | .byt y => y.size ≤ sizeLine ∧ k = ((y.size : Int) != 0)
  | .ref p => (∃ xs, SqL K H p xs ∧ k = !xs.isEmpty) ∨ (∃ xs, SqT K H p xs ∧ k = !xs.isEmpty) ∨ ∃ kvs, H p = some (.dK kvs) ∧ k = !kvs.isEmpty
  | _ => False
theorem isEmpty_kv {κ : Type} {kvs : List (κ × V)} {vs : List (κ × Value)} (r : KV kvs vs) : (!vs.isEmpty) = !kvs.isEmpty := by
  cases r <;> rfl
theorem isEmpty_of {xs : List V} {its : List Value} (r : Vals xs its) : (!its.toArray.isEmpty) = !xs.isEmpty := by
  cases r <;> simp
theorem line63 : (sizeLine : Nat) < 2 ^ 63 := by rw [sizeLine_eq]; decide
theorem tru_ok : TruR X (fun x H Q => ∃ k, TruV X.K x H k ∧ Q k H) := by
  intro pins s σ H x v Q I rx h
  obtain ⟨k, e, q⟩ := h
  have hl := line63
  have hs : sizeLine = 16777216 := sizeLine_eq
  cases x with
  | non =>
    cases rx
    have e' : k = false := e
    subst e'
    exact truthy_none ⟨H, I, q⟩
  | bl b =>
    cases rx
    have e' : k = b := e
    subst e'
    exact wpAny_truthy_bool ⟨H, I, q⟩
  | int i =>
    obtain ⟨t, rfl⟩ := rx
    have e' : k = (i != 0) := e
    subst e'
    exact PySem.P.truthy_int ⟨H, I, q⟩
  | str y =>
    obtain ⟨t, rfl⟩ := rx
    obtain ⟨hy, e'⟩ : y.length ≤ sizeLine ∧ k = ((y.length : Int) != 0) := e
    subst e'
    exact PySem.P.truthy_str (by omega) ⟨H, I.tok _, q⟩
  | byt y =>
    obtain ⟨t, rfl⟩ := rx
    obtain ⟨hy, e'⟩ : y.size ≤ sizeLine ∧ k = ((y.size : Int) != 0) := e
    subst e'
    exact PySem.W.truthy_bytes (by omega) ⟨H, I.tok _, q⟩
  | ref p =>
    cases rx
    have e' : (∃ xs, SqL X.K H p xs ∧ k = !xs.isEmpty) ∨ (∃ xs, SqT X.K H p xs ∧ k = !xs.isEmpty) ∨ ∃ kvs, H p = some (.dK kvs) ∧ k = !kvs.isEmpty := e
    rcases e' with ⟨xs, hx, e'⟩ | ⟨xs, hx, e'⟩ | ⟨kvs, hx, e'⟩
    · subst e'
      obtain ⟨its, r, pl, hz⟩ := I.list hx
      have hlen := r.length
      exact wpAny_truthy_list pl.isList (by simp only [List.size_toArray]; omega) ⟨H, I.tok _, by rw [isEmpty_of r]; exact q⟩
    · subst e'
      obtain ⟨its, r, pl, hz⟩ := I.tuple hx
      have hlen := r.length
      exact truthy_tuple pl (by simp only [List.size_toArray]; omega) ⟨H, I.tok _, by rw [isEmpty_of r]; exact q⟩
    · subst e'
      obtain ⟨hz, hS, vs, r, m⟩ : kvs.length ≤ sizeLine ∧ (p == sysModules) = false ∧ ∃ vs, KV kvs vs ∧ s.heap.DictOf (mixKind X.prog X.w) p vs := I.hok p _ hx
      have hlen : kvs.length = vs.length := Paired.length r
      exact wpAny_truthy_dict hS m (by omega) ⟨H, I.tok _, by rw [isEmpty_kv r]; exact q⟩
  | _ => exact (show False from e).elim
theorem pt_truth (ha : PE X a ta) (he : ∀ whole, isTrue a X.env whole = (do let v ← whole; standAt a.pos; holding [v] (truthy v))) :
    PT X a (fun σ H Q => ta σ H fun x H' => ∃ k, TruV X.K x H' k ∧ Q k H') := by
  intro pins s σ H Q I h
  exact isTrue_plain (thn (ha pins s σ H _ I h) fun v s1 ⟨x, H1, I1, r1, q1⟩ => tru_ok pins s1 σ H1 x v Q I1 r1 q1) (he _)

theorem vals1 {x : V} {us : List Value} (r : Vals [x] us) : ∃ u, us = [u] ∧ RelV x u := by
  cases r with
  | cons r1 r2 => cases r2; exact ⟨_, rfl, r1⟩
theorem vals2 {x y : V} {us : List Value} (r : Vals [x, y] us) : ∃ u w', us = [u, w'] ∧ RelV x u ∧ RelV y w' := by
  cases r with
  | cons r1 r2 =>
    cases r2 with
    | cons r3 r4 => cases r4; exact ⟨_, _, rfl, r1, r3⟩
theorem call_int1 : CallR X (.type "int") (fun xs H Q => (∃ i, xs = [.int i] ∧ Q (.int i) H) ∨ ∃ k, xs = [.bl k] ∧ Q (.int (if k then 1 else 0)) H) := by
  intro pins s σ H xs us Q I r h
  rcases h with ⟨i, rfl, q⟩ | ⟨k, rfl, q⟩
  · obtain ⟨u, rfl, t, rfl⟩ := vals1 r
    exact call_int_int ⟨.int i, H, I, ⟨_, rfl⟩, q⟩
  · obtain ⟨u, rfl, r1⟩ := vals1 r
    cases r1
    exact call_int_bool ⟨.int (if k then 1 else 0), H, I.tok _, ⟨_, rfl⟩, q⟩
end
end L2

namespace L2
open PySem PySem.Spec PyProof.Rows

structure ObjM (h : Heap) (x dx C : Addr) (mA : Str → Option Value) : Prop where
  obj : h.get? x = some (PySem.W.instObj C dx)
  ns : h.Ns1 dx mA
  ne : dx ≠ x

theorem lookIn_ns {h : Heap} {dx : Addr} {mA : Str → Option Value} (n : h.Ns1 dx mA) : ∃ od, h.get? dx = some od ∧ ∀ name, PySem.W.lookIn name od = some (mA name) := by
  obtain ⟨o, es, ep, ho, hd, hk, _, hm⟩ := n
  refine ⟨o, ho, fun name => ?_⟩
  have e := hm name
  unfold nsFind findBy at e
  rw [← Array.find?_toList] at e
  unfold PySem.W.lookIn
  rw [hd]
  dsimp only
  split
  · rename_i y q
    rw [q] at e
    exact congrArg some e
  · rename_i q
    rw [q] at e
    have a : es.toList.any (·.refKey) = false := by
      rw [List.any_eq_false]
      intro y hy
      obtain ⟨z, t, hkey⟩ := hk y (Array.mem_toList_iff.mp hy)
      simp [DictEntry.refKey, hkey]
    have a' : ¬ es.toList.any (·.refKey) = true := by rw [a]; exact Bool.false_ne_true
    rw [if_neg a']
    exact congrArg some e

theorem ObjM.look {h : Heap} {x dx C : Addr} {mA : Str → Option Value} (I : ObjM h x dx C mA) : ∃ od, PySem.W.InstAt h x (PySem.W.instObj C dx) C (some od) ∧ ∀ name, PySem.W.lookIn name od = some (mA name) :=
  let ⟨od, ho, hl⟩ := lookIn_ns I.ns
  ⟨od, ⟨I.obj, rfl, rfl, ho⟩, hl⟩

section
variable {prog : Program} {w : World} {A : Around} {E : Value → Shared → Prop} {s : Shared} {K : PySem.W.Frag} {x dx C f : Addr} {mA : Str → Option Value} {name : Str} {v : Value}

end

theorem RelO.some_of {v : V} {o : Option Value} (r : RelO (some v) o) : ∃ u, o = some u ∧ RelV v u := by
  cases o with
  | none => exact (show False from r).elim
  | some u => exact ⟨u, rfl, r⟩
section
variable {P : Program} {w : World} {H H' : Hp} {h h' : Heap} {a C dx : Addr} {fs fs' : List (Str × V)}
theorem ins_get (hok : HOk P w H h) (e : H a = some (.ins C dx fs)) : ∃ mA, ObjM h a dx C mA ∧ (∀ f, RelO (fs.lookup f) (mA f)) ∧ PySem.Within mA (fs.map (·.1)) ∧ fs.length ≤ 1000 ∧ H dx = some (.own a) := by
  obtain ⟨d, z, ne, ob, mA, n, r, q⟩ := (show ObjOk P w H h a (.ins C dx fs) from hok a _ e)
  exact ⟨mA, ⟨ob, n, ne⟩, r, q, z, d⟩
end

structure Cls (K : PySem.W.Frag) (C : Addr) : Prop where
  pg : PySem.W.plainGet K C Str.empty = true
  hd : PySem.W.hasDictIn K C = true
  po : PySem.W.plainOver K C = true
  sa : PySem.W.findIn K (.ref C) "__setattr__" = some (some (.builtin "object.__setattr__"))
theorem Cls.get {K : PySem.W.Frag} {C : Addr} (c : Cls K C) (f : Str) : PySem.W.plainGet K C f = true := c.pg
section
variable {X : Cx} {pins : List (Addr × Obj)} {σ : St} {H : Hp} {s : Shared} {a C dx : Addr} {fs : List (Str × V)} {f : Str} {v : V} {A : Around} {E : Value → Shared → Prop}

end

section
variable {X : Cx} {o e value : Expr} {f : Str} {pos pos' tpos : Pos} {ta tv : TE}
end

section
variable {X : Cx} {pins : List (Addr × Obj)} {σ : St} {H : Hp} {s : Shared} {A : Around} {E : Value → Shared → Prop} {Q : Value → Shared → Prop} {c : Value} {b : Bool}
inductive TyOf (K : PySem.W.Frag) (H : Hp) : V → Value → Prop where
  | non : TyOf K H .non (.type "NoneType")
  | bl (x : Bool) : TyOf K H (.bl x) (.type "bool")
  | int (i : Int) : TyOf K H (.int i) (.type "int")
  | str (x : Str) : TyOf K H (.str x) (.type "str")
  | flt (x : UInt64) : TyOf K H (.flt x) (.type "float")
  | lst {a : Addr} {xs : List V} (e : H a = some (.lst xs)) : TyOf K H (.ref a) (.type "list")
  | frz {a : Addr} {o : Obj} {xs : List V} (e : H a = some (.frz o (.lst xs))) : TyOf K H (.ref a) (.type "list")
  | tup {a : Addr} {xs : List V} (e : H a = some (.tup xs)) : TyOf K H (.ref a) (.type "tuple")
  | dK {a : Addr} {kvs : List (Key × V)} (e : H a = some (.dK kvs)) : TyOf K H (.ref a) (.type "dict")
  | dT {a : Addr} {kvs : List (List Key × V)} (e : H a = some (.dT kvs)) : TyOf K H (.ref a) (.type "dict")
  | ins {a C dx : Addr} {fs : List (Str × V)} (e : H a = some (.ins C dx fs)) (cl : Cls K C) (ha : PySem.W.findIn K (.ref C) "__class__" = some (some (.builtin "object.__class__")))
      (hn : PySem.W.specialIn K (.builtin "object.__class__") "__get__" = some (some (.builtin "getset_descriptor.__get__"))) (htk : PySem.W.takesIn K (.builtin "object.__class__") = some true)
      (hm : PySem.W.mroIn K C (.type "object") = some true) : TyOf K H (.ref a) (.ref C)
theorem isinst_ok {x : V} {u t : Value} (I : Inv X pins σ H s) (rx : RelV x u) (ty : TyOf X.K H x t) (e : PySem.W.kitOne X.K t c = some b) (h : ∀ tk, Q (.bool b) { s with toks := tk }) :
    wpAny (model X.prog X.w) A (call (.builtin "isinstance") [u, c]) Q E s := by
  cases ty with
  | non => cases (show u = Value.none from rx); exact PySem.W.kia_one PySem.W.kitx_none I.kIn True.intro e (fun z => nomatch z) h
  | bl y => cases (show u = Value.bool y from rx); exact PySem.W.kia_one PySem.W.kitx_bool I.kIn True.intro e (fun z => nomatch z) h
  | int i => obtain ⟨t, q⟩ := (show ∃ t, u = Value.int i t from rx); cases q; exact PySem.W.kia_one PySem.W.kitx_int I.kIn True.intro e (fun z => nomatch z) h
  | str y => obtain ⟨t, q⟩ := (show ∃ t, u = Value.str y t from rx); cases q; exact PySem.W.kia_one PySem.W.kitx_str I.kIn True.intro e (fun z => nomatch z) h
  | flt y => obtain ⟨t, q⟩ := (show ∃ t, u = Value.float y t from rx); cases q; exact PySem.W.kia_one PySem.W.kitx_float I.kIn True.intro e (fun z => nomatch z) h
  | @lst a xs ea =>
    cases (show u = Value.ref a from rx)
    obtain ⟨_, _, n, _, h1⟩ := (show ObjOk X.prog X.w H s.heap a (.lst xs) from I.hok a _ ea)
    exact PySem.W.kia_one PySem.W.kitx_list I.kIn ⟨_, h1, rfl⟩ e (fun z => nomatch z) h
  | @frz a ob xs ea =>
    cases (show u = Value.ref a from rx)
    obtain ⟨_, _, _, n, _, h1⟩ := (show ObjOk X.prog X.w H s.heap a (.frz ob (.lst xs)) from I.hok a _ ea)
    exact PySem.W.kia_one PySem.W.kitx_list I.kIn ⟨_, h1, rfl⟩ e (fun z => nomatch z) h
  | @tup a xs ea =>
    cases (show u = Value.ref a from rx)
    obtain ⟨_, _, _, p⟩ := (show ObjOk X.prog X.w H s.heap a (.tup xs) from I.hok a _ ea)
    obtain ⟨o, h1, h2, _⟩ := p
    exact PySem.W.kia_one PySem.W.kitx_tuple I.kIn ⟨o, h1, h2⟩ e (fun z => nomatch z) h
  | @dK a kvs ea =>
    cases (show u = Value.ref a from rx)
    obtain ⟨_, _, vs, _, p⟩ := (show ObjOk X.prog X.w H s.heap a (.dK kvs) from I.hok a _ ea)
    obtain ⟨o, es, ep, h1, h2, _⟩ := p
    exact PySem.W.kia_one PySem.W.kitx_dict I.kIn ⟨o, h1, h2.1⟩ e (fun z => nomatch z) h
  | @dT a kvs ea =>
    cases (show u = Value.ref a from rx)
    obtain ⟨_, _, xs, _, o, es, ep, h1, h2, _⟩ := (show ObjOk X.prog X.w H s.heap a (.dT kvs) from I.hok a _ ea)
    exact PySem.W.kia_one PySem.W.kitx_dict I.kIn ⟨o, h1, h2.1⟩ e (fun z => nomatch z) h
  | @ins a C dx fs ea cl ha hn htk hm =>
    cases (show u = Value.ref a from rx)
    obtain ⟨mA, O, _⟩ := ins_get I.hok ea
    obtain ⟨od, J, _⟩ := O.look
    exact PySem.W.kia_one (PySem.W.kitx_own (cl.get _) cl.hd ha hn htk hm) I.kIn J e (fun z => nomatch z) h
end
end L2

namespace L2
open PySem PySem.Spec PyProof.Rows

structure Room (k : Nat) (A : Around) : Prop where
  hd : A.handled = none
  dp : A.depth + 3 * k + 5 < recursionLimit
  un : A.units + 16 * k + 200 < cLine
theorem Room.mono {j k : Nat} {A : Around} (r : Room k A) (h : j ≤ k) : Room j A := ⟨r.hd, by have := r.dp; omega, by have := r.un; omega⟩
theorem Room.deeper {k : Nat} {A : Around} (r : Room (k + 1) A) (env : Env) : Room k (A.deeper env) :=
  ⟨r.hd, by have := r.dp; show A.depth + 1 + 3 * k + 5 < _; omega, by have := r.un; show A.units + 3 + 16 * k + 200 < _; omega⟩
theorem Room.depth {k : Nat} {A : Around} (r : Room k A) : A.depth < recursionLimit := by have := r.dp; omega
theorem Room.units {k : Nat} {A : Around} (r : Room k A) : A.units + 64 < cLine := by have := r.un; omega
theorem Room.units0 {k : Nat} {A : Around} (r : Room k A) : A.units < cLine := by have := r.un; omega

def tNil : TA := fun _ H Q => Q [] H
def tCons (ta : TE) (tr : TA) : TA := fun σ H Q => ta σ H fun x H1 => tr σ H1 fun xs H2 => Q (x :: xs) H2
section
variable {X : Cx} {e : Expr} {es : List Expr} {te : TE} {t : TA} {pos : Pos}
theorem pa_nil : PA X [] tNil := fun _ _ _ _ H Q I h => Calls.spliced_nil ⟨[], H, I, .nil, h⟩
theorem pa_cons (ha : PE X e te) (hr : PA X es t) (hs : starEach (e :: es) X.env = (false, eval e X.env) :: starEach es X.env := by rfl) : PA X (e :: es) (tCons te t) := by
  intro pos pins s σ H Q I h
  rw [hs]
  show wpAny _ _ (spliced ((false, eval e X.env) :: backTo pos (starEach es X.env))) _ _ s
  refine Calls.spliced_cons (thn (ha pins s σ H _ I h) fun u s1 ⟨x, H1, I1, r1, q1⟩ => ?_)
  exact thn (hr pos pins s1 σ H1 _ I1 q1) fun us s2 ⟨xs, H2, I2, r2, q2⟩ => ⟨x :: xs, H2, I2, .cons r1 r2, q2⟩

def tTup (t : TA) : TE := fun σ H Q => t σ H fun xs H1 => xs.length ≤ sizeLine ∧ ∀ p, H1 p = none → Q (.ref p) (upd H1 p (.tup xs))
def tLst (t : TA) : TE := fun σ H Q => t σ H fun xs H1 => xs.length ≤ sizeLine ∧ ∀ p, H1 p = none → Q (.ref p) (upd H1 p (.lst xs))
theorem pe_tup {x1} (h : PA X es t) : PE X (.Tuple es x1 pos) (tTup t) := by
  intro pins s σ H Q I hq
  refine wpAny_Tuple_spliced (thn (h pos pins s σ H _ I hq) fun us s1 ⟨xs, H1, I1, r, z, q⟩ => ⟨by rw [← r.length]; exact z, ?_⟩)
  have hf : H1 s1.heap.objs.size = none := I1.hok.fresh (Nat.le_refl _)
  refine ⟨.ref s1.heap.objs.size, upd H1 s1.heap.objs.size (.tup xs), I1.laid (t' := s1.toks) (fun b u e => Heap.get?_push_of_some _ e) (Nat.le_refl _) ?_, rfl, q _ hf⟩
  exact ⟨z, us, r, ⟨_, Heap.get?_push_size _ rfl, rfl, _, rfl⟩⟩
theorem pe_lst (h : PA X es t) : PE X (.List es pos) (tLst t) := by
  intro pins s σ H Q I hq
  refine wpAny_List_spliced (thn (h pos pins s σ H _ I hq) fun us s1 ⟨xs, H1, I1, r, z, q⟩ => ⟨by rw [← r.length]; exact z, ?_⟩)
  have hf : H1 s1.heap.objs.size = none := I1.hok.fresh (Nat.le_refl _)
  refine ⟨.ref s1.heap.objs.size, upd H1 s1.heap.objs.size (.lst xs), I1.laid (t' := s1.toks) (fun b u e => Heap.get?_push_of_some _ e) (Nat.le_refl _) ?_, rfl, q _ hf⟩
  exact ⟨z, us, 0, r, Heap.get?_push_size _ rfl⟩
end

abbrev Sp := List V → Hp → VK → XK → Prop
abbrev CXT := List Env → Hp → Shared → XK → Value → Shared → Prop

structure Env0 (P : Program) (w : World) (K : PySem.W.Frag) (mg : Str → Option Value) (base : Heap) (A : Around) (outer : List Env) (s : Shared) (H : Hp) : Prop where
  frames : A.frames = some outer
  mod : Mod K mg base
  bs : ∀ b o, base.get? b = some o → s.heap.get? b = some o ∧ H b = none
  bsz : base.objs.size ≤ s.heap.objs.size
  funs : s.heap.FunFrames base outer
  frf : ∀ b ∈ frs outer, H b = none
  hok : HOk P w H s.heap
  bare : AllBare s.gens
def CE (outer : List Env) (P : Program) (w : World) (H : Hp) (s : Shared) (Q : VK) (u : Value) (s' : Shared) : Prop :=
  ∃ v H', s'.os = s.os ∧ AllBare s'.gens ∧ Un (frs outer) [] H H' s.heap s'.heap ∧ HOk P w H' s'.heap ∧ RelV v u ∧ Q v H'
def CR (CX : CXT) (outer : List Env) (P : Program) (w : World) (H : Hp) (s : Shared) (Q : VK) (E : XK) (r : Result) (s' : Shared) : Prop :=
  match r with
  | .ok (.ret u) => CE outer P w H s Q u s'
  | .ok _ => False
  | .error e => CX outer H s E e s'
structure FnOk (P : Program) (w : World) (K : PySem.W.Frag) (mg : Str → Option Value) (base : Heap) (CX : CXT) (k : Nat) (f : Addr) (fd : FuncData) (ps : List Str) (sp : Sp) : Prop where
  len : ∀ vs H Q E, sp vs H Q E → vs.length = ps.length
  run : ∀ (A : Around) (outer : List Env) (s : Shared) (H : Hp) (args : Args) (us : List Value) (vs : List V) (Q : VK) (E : XK), Room k A → Env0 P w K mg base A outer s H → BindsTo s fd args (ps.zip us) → Vals vs us → sp vs H Q E →
    codeAny (model P w) A (.call (.ref f) args) (CR CX outer P w H s Q E) s
section
variable {X : Cx} {pins : List (Addr × Obj)} {σ : St} {H : Hp} {s s' : Shared}
theorem Inv.env0 (I : Inv X pins σ H s) : Env0 X.prog X.w X.K X.mg X.base X.A X.stack s H :=
  ⟨I.ok.frames, I.ok.mod, I.bs, Nat.le_trans I.ok.bsz I.sz, I.stack, I.stkFree, I.hok, I.bare⟩
theorem Inv.after {Q : VK} {u : Value} (I : Inv X pins σ H s) (h : CE X.stack X.prog X.w H s Q u s') : EP X pins σ Q u s' := by
  obtain ⟨v, H', os, bare, un, hok, r, q⟩ := h
  obtain ⟨hh, g, d, t, os'⟩ := s'
  obtain rfl : os' = s.os := os
  exact ⟨v, H', I.call (h' := hh) (g' := g) (d' := d) (t' := t) (ch := []) un hok bare (fun b z => absurd z (by simp)), r, q⟩
end

def tCall (sp : Sp) (dvs : List V) (E : XK) (t : TA) : TE := fun σ H Q => t σ H fun vs H1 => sp (vs ++ dvs) H1 Q E
def Binds (K : PySem.W.Frag) (fd : FuncData) (ps : List Str) (ds : List Value) : Prop :=
  ∀ (s : Shared) (us : List Value), K.In s.heap → (us ++ ds).length = ps.length → BindsTo s fd ⟨us, []⟩ (ps.zip (us ++ ds))
theorem Binds.all {K : PySem.W.Frag} {fd : FuncData} {ps : List Str} (h : ∀ us : List Value, us.length = ps.length → bindArgs fd ⟨us, []⟩ = pure (ps.zip us)) : Binds K fd ps [] := fun s us _ hl => by
  rw [List.append_nil] at hl ⊢
  exact .of_eq (h us hl)

def Passes (CX : CXT) (X : Cx) (E : XK) : Prop := ∀ (pins : List (Addr × Obj)) (σ : St) (H : Hp) (s : Shared) (e : Value) (s' : Shared), Inv X pins σ H s → CX X.stack H s E e s' → X.xe e s'

section
variable {X : Cx} {CX : CXT} {k : Nat} {f C : Addr} {fd : FuncData} {ps : List Str} {sp : Sp} {dvs : List V} {ds : List Value} {E : XK} {x m : Str} {p pos apos : Pos} {e o : Expr} {es : List Expr} {ta : TE} {t : TA}

theorem run_fn {pins : List (Addr × Obj)} {σ : St} {H : Hp} {s : Shared} {Q : VK} {us : List Value} {vs : List V} (F : FnOk X.prog X.w X.K X.mg X.base CX k f fd ps sp) (hr : Room k X.A) (hb : Binds X.K fd ps ds) (hd : Vals dvs ds) (hx : Passes CX X E)
    (I : Inv X pins σ H s) (r : Vals vs us) (h : sp (vs ++ dvs) H Q E) : wpAny (model X.prog X.w) X.A (call (.ref f) us) (EP X pins σ Q) X.xe s := by
  have r2 : Vals (vs ++ dvs) (us ++ ds) := r.append hd
  have hl : (us ++ ds).length = ps.length := by rw [← r2.length]; exact F.len _ _ _ _ h
  refine wpAny_call (codeAny_mono (F.run X.A X.stack s H ⟨us, []⟩ (us ++ ds) (vs ++ dvs) Q E hr I.env0 (hb s us I.kIn hl) r2 h) fun r s' hq => ?_)
  cases r with
  | error e => exact hx pins σ H s e s' I hq
  | ok fl =>
    cases fl with
    | ret u => exact I.after hq
    | next => exact False.elim hq
    | brk => exact False.elim hq
    | cont => exact False.elim hq

theorem pe_call (F : FnOk X.prog X.w X.K X.mg X.base CX k f fd ps sp) (hr : Room k X.A) (hg : Gl X x) (hm : X.mg x = some (.ref f)) (hk : PySem.W.keepIn X.K (.ref f) = true) (hb : Binds X.K fd ps ds) (hd : Vals dvs ds) (hx : Passes CX X E)
    (ha : PA X (e :: es) t) (hdb : (x == ("__debug__" : Str)) = false := by decide) (he : starEach (e :: es) X.env = (false, eval e X.env) :: starEach es X.env := by rfl) (hpl : (backTo pos (starEach es X.env)).any (·.1) = false := by rfl) :
    PE X (.Call (.Name x p) (e :: es) [] pos) (tCall sp dvs E t) := by
  intro pins s σ H Q I h
  refine wpAny_Call_Name_kw (ld_glob I hg hm ?_ hdb)
  refine PySem.W.callWith_K (h₀ := X.base) I.ok.mod.kin hk (thn (ha pos pins s σ H _ I h) fun us s1 ⟨vs, H1, I1, r, q⟩ => ⟨I1.kIn, ?_⟩) he hpl
  exact run_fn F hr hb hd hx I1 r q
end

section
variable {X : Cx} {CX : CXT} {k : Nat} {f C : Addr} {fd : FuncData} {ps ks : List Str} {sp : Sp} {E : XK} {x m : Str} {p pos apos kpos : Pos} {e o : Expr} {es : List Expr} {kws : List Keyword} {te ta : TE} {t tk : TA} {nm : Option Str}
variable {g : List Value → List Value → List Value} {gV : List V → List V → List V}
end

structure FnScope (N P : List Str) (sc : Scope) : Prop where
  kind : sc.kind = .function
  co : sc.isCoroutine = false
  gen : sc.isGenerator = false
  nd : N.Nodup
  pre : N.take P.length = P
  par : ∀ x ∈ P, sc.names.lookup x = some .local ∨ sc.names.lookup x = some .cell
  nofree : ∀ y ∈ sc.names, y.2 ≠ .free

theorem bindL_out {kindOf : Str → Option NameKind} {x : Str} : ∀ {binds : List (Str × Value)} {m : Str → Option Value}, (∀ v, (x, v) ∉ binds) → bindL kindOf binds m x = m x
  | [], _, _ => rfl
  | (n, v) :: r, m, h => by
    unfold bindL
    rw [bindL_out fun w hw => h w (List.mem_cons_of_mem _ hw)]
    split
    · have : x ≠ n := by rintro rfl; exact h v List.mem_cons_self
      simp [this]
    · rfl
theorem bindC_out {kindOf : Str → Option NameKind} {x : Str} : ∀ {binds : List (Str × Value)} {m : Str → Option Value}, (∀ v, (x, v) ∉ binds) → bindC kindOf binds m x = m x
  | [], _, _ => rfl
  | (n, v) :: r, m, h => by
    unfold bindC
    rw [bindC_out fun w hw => h w (List.mem_cons_of_mem _ hw)]
    split
    · rfl
    · have : x ≠ n := by rintro rfl; exact h v List.mem_cons_self
      simp [this]
theorem bindL_get {kindOf : Str → Option NameKind} {x : Str} {v : Value} : ∀ {P : List Str} {vs : List Value} {i : Nat} {m : Str → Option Value}, P.Nodup → P[i]? = some x → vs[i]? = some v → kindOf x = some .local →
    bindL kindOf (P.zip vs) m x = some v
  | [], _, _, _, _, h, _, _ => by simp at h
  | _ :: _, [], _, _, _, _, h, _ => by simp at h
  | p :: P, w :: vs, 0, m, nd, h1, h2, hk => by
    simp at h1 h2; subst h1; subst h2
    show bindL kindOf ((p, w) :: P.zip vs) m p = _
    unfold bindL
    rw [bindL_out fun v hv => (List.nodup_cons.mp nd).1 (List.of_mem_zip hv).1, if_pos hk]
    simp
  | p :: P, w :: vs, i + 1, m, nd, h1, h2, hk => by
    show bindL kindOf ((p, w) :: P.zip vs) m x = _
    unfold bindL
    exact bindL_get (i := i) (List.nodup_cons.mp nd).2 (by simpa using h1) (by simpa using h2) hk
theorem bindC_get {kindOf : Str → Option NameKind} {x : Str} {v : Value} : ∀ {P : List Str} {vs : List Value} {i : Nat} {m : Str → Option Value}, P.Nodup → P[i]? = some x → vs[i]? = some v → kindOf x ≠ some .local →
    bindC kindOf (P.zip vs) m x = some v
  | [], _, _, _, _, h, _, _ => by simp at h
  | _ :: _, [], _, _, _, _, h, _ => by simp at h
  | p :: P, w :: vs, 0, m, nd, h1, h2, hk => by
    simp at h1 h2; subst h1; subst h2
    show bindC kindOf ((p, w) :: P.zip vs) m p = _
    unfold bindC
    rw [bindC_out fun v hv => (List.nodup_cons.mp nd).1 (List.of_mem_zip hv).1, if_neg hk]
    simp
  | p :: P, w :: vs, i + 1, m, nd, h1, h2, hk => by
    show bindC kindOf ((p, w) :: P.zip vs) m x = _
    unfold bindC
    exact bindC_get (i := i) (List.nodup_cons.mp nd).2 (by simpa using h1) (by simpa using h2) hk

def start (N : List Str) (vs : List V) : St := vs.map some ++ List.replicate (N.length - vs.length) none

def cxOf (CX : CXT) (P : Program) (w : World) (K : PySem.W.Frag) (mg : Str → Option Value) (base : Heap) (N : List Str) (qual : Str) (scope : Scope) (f : Addr) (cd : Value) (A : Around) (outer : List Env) (s : Shared) (H : Hp) (E : XK) : Cx where
  prog := P
  w := w
  K := K
  mg := mg
  base := base
  A := A.deeper (envOfC qual scope s.heap.objs.size f cd)
  N := N
  s₀ := s
  H₀ := H
  env := envOfC qual scope s.heap.objs.size f cd
  outer := outer
  stack := envOfC qual scope s.heap.objs.size f cd :: outer
  ex := []
  calm := true
  fn := fun _ => true
  pn := []
  xe := fun e s' => wpAny (model P w) (A.deeper (envOfC qual scope s.heap.objs.size f cd)) (leaving (envOfC qual scope s.heap.objs.size f cd) e) (fun _ s'' => CX outer H s E e s'') (fun e' s'' => CX outer H s E e' s'') s'

theorem cell_has {sc : Scope} {n : Nat} {x : Str} (h : sc.names.lookup x = some .cell) : ∃ c, (cellsFrom n sc.names []).lookup x = some c := by
  have q := PySem.W.cellsFrom_some sc.names n [] (.inl h)
  exact Option.isSome_iff_exists.mp q

theorem inv_start {CX : CXT} {P : Program} {w : World} {K : PySem.W.Frag} {mg : Str → Option Value} {base : Heap} {N ps : List Str} {qual : Str} {scope : Scope} {f : Addr} {cd : Value} {A : Around} {outer : List Env} {s s1 : Shared} {H : Hp} {E : XK} {us : List Value} {vs : List V}
    (S : FnScope N ps scope) (hd : A.handled = none) (e0 : Env0 P w K mg base A outer s H) (hl : vs.length = ps.length) (r : Vals vs us)
    (x : InCallC s s.heap.objs.size (bindL (envOfC qual scope s.heap.objs.size f cd).kindOf (ps.zip us) fun _ => none) (cellsFrom (s.heap.objs.size + 1) scope.names []) (bindC (envOfC qual scope s.heap.objs.size f cd).kindOf (ps.zip us) fun _ => none) s1) :
    Inv (cxOf CX P w K mg base N qual scope f cd A outer s H E) [] (start N vs) H s1 := by
  have hpl : ps.length ≤ N.length := by have := congrArg List.length S.pre; rw [List.length_take] at this; omega
  obtain ⟨h1, tk, rfl, hk⟩ := x.done
  have noA : ∀ b : Addr, b ∉ (cxOf CX P w K mg base N qual scope f cd A outer s H E).ex := fun b z => absurd (show b ∈ ([] : List Addr) from z) (by simp)
  refine ⟨⟨e0.mod, S.kind, rfl, rfl, Nat.le_refl _, fun y z c h1 h2 => ?_, fun y hy => ?_, fun y c _ h => ?_, fun _ => hd, Around.frames_deeper e0.frames, .inr ⟨rfl, rfl⟩, fun b z => absurd z (noA b), e0.bs, e0.bsz, fun b _ _ => noA b, fun b z => absurd z (noA b), e0.funs, e0.frf⟩,
    rfl, e0.bare, Un.kept hk, ⟨_, x.toInCall.ns, fun i y v h1 h2 h3 => ?_⟩, fun y c h => ⟨_, x.cell y c h⟩, e0.hok.fresh (Nat.le_refl _), fun y c h => ?_, fun p hp => absurd (show p ∈ ([] : List (Addr × Obj)) from hp) (by simp), e0.hok.kept hk, ?_⟩
  · exact name_of_addr x.apart (PySem.mem_of_lookup h1) (PySem.mem_of_lookup h2)
  · have hy : scope.names.lookup y = some .cell ∨ scope.names.lookup y = some .free := hy
    rcases hy with hy | hy
    · exact cell_has hy
    · exact absurd rfl (S.nofree _ (PySem.mem_of_lookup hy))
  · exact Nat.le_of_lt (x.above y c (PySem.mem_of_lookup h))
  · have hi : i < vs.length := by
      unfold start at h2
      by_cases hi : i < vs.length
      · exact hi
      · rw [List.getElem?_append_right (by simpa using hi)] at h2
        rw [List.getElem?_replicate] at h2
        split at h2 <;> cases h2
    have ha : vs[i]? = some v := by
      unfold start at h2
      rw [List.getElem?_append_left (by simpa using hi), List.getElem?_map] at h2
      cases e : vs[i]? with
      | none => rw [e] at h2; cases h2
      | some a => rw [e] at h2; cases h2; rfl
    obtain ⟨u, hu, rv⟩ := r.get ha
    have hp : ps[i]? = some y := by
      rw [← S.pre, List.getElem?_take_of_lt (by omega)]; exact h1
    have ndP : ps.Nodup := by rw [← S.pre]; exact S.nd.sublist (List.take_sublist _ _)
    refine ⟨u, rv, ?_⟩
    rcases S.par y (List.mem_of_getElem? hp) with k | k
    · exact .inl ⟨k, bindL_get ndP hp hu k⟩
    · obtain ⟨c, e⟩ := cell_has (n := s.heap.objs.size + 1) k
      refine .inr ⟨.inl k, c, e, ?_⟩
      have q := x.cell y c e
      rw [bindC_get ndP hp hu (by show scope.names.lookup y ≠ _; rw [k]; decide)] at q
      exact q
  · exact e0.hok.fresh (Nat.le_of_lt (x.above y c (PySem.mem_of_lookup h)))
  · unfold start
    show _ = N.length
    rw [List.length_append, List.length_map, List.length_replicate]
    omega

theorem fn_of {CX : CXT} {P : Program} {w : World} {K : PySem.W.Frag} {mg : Str → Option Value} {base : Heap} {k : Nat} {f : Addr} {name qual : Str} {params : Arguments} {body : List Stmt} {scope : Scope} {dV kV doc pm cdv ct oc : Value} {an od : Option Addr}
    {osl : Array (Option Value)} {N ps : List Str} {sp : Sp} (lk : K.lookup f = some ⟨oc, od, .func (PySem.W.fnOf name qual params body scope dV kV doc pm an cdv ct), osl⟩) (hcd : PySem.W.codeIn K cdv qual = true) (S : FnScope N ps scope)
    (len : ∀ vs H Q E, sp vs H Q E → vs.length = ps.length)
    (hbody : ∀ (A : Around) (outer : List Env) (s : Shared) (H : Hp) (vs : List V) (Q : VK) (E : XK), Room k (A.deeper (envOfC qual scope s.heap.objs.size f cdv)) → sp vs H Q E →
      ∃ t, PSs (cxOf CX P w K mg base N qual scope f cdv A outer s H E) body t ∧ t { nx := fun _ H' => Q .non H', rt := Q } (start N vs) H) :
    FnOk P w K mg base CX (k + 1) f (PySem.W.fnOf name qual params body scope dV kV doc pm an cdv ct) ps sp := by
  refine ⟨len, fun A outer s H args us vs Q E hr e0 hb r hsp => ?_⟩
  have hl := len _ _ _ _ hsp
  have KX : K.In s.heap := e0.mod.kin.keeps fun b o e => (e0.bs b o e).1
  have lim : s.heap.NoLimit := e0.mod.nolimit.keeps fun b o e => (e0.bs b o e).1
  have hkind : ∀ y ∈ ps.zip us, scope.names.lookup y.1 = some .local ∨ (scope.names.lookup y.1 = some .cell ∧ ((cellsFrom (s.heap.objs.size + 1) scope.names []).lookup y.1).isSome = true) := fun ⟨n, v⟩ hy => by
    rcases S.par n (List.of_mem_zip hy).1 with q | q
    · exact .inl q
    · exact .inr ⟨q, PySem.W.cellsFrom_some _ _ _ (.inl q)⟩
  refine codeAny_call_function hr.depth (KX _ _ lk) rfl S.co S.gen rfl (PySem.W.codeRec_of KX hcd) (hb _ _ _ _ ?_)
  refine wpAny_newFunctionEnv_cells S.kind hkind fun env he s1 x => ?_
  subst he
  refine ⟨lim.keeps x.toInCall.keep, codeAny_func ?_⟩
  obtain ⟨t, ht, hq⟩ := hbody A outer s H vs Q E (hr.deeper _) hsp
  have I : Inv (cxOf CX P w K mg base N qual scope f cdv A outer s H E) [] (start N vs) H s1 := inv_start S hr.hd e0 hl r x
  refine wpAny_mono (ht [] s1 (start N vs) H _ I hq) (fun fl s' hs => ?_) fun e s' hs => hs
  have fin : ∀ {σ' : St} {H' : Hp} {v : V} {u : Value}, Inv (cxOf CX P w K mg base N qual scope f cdv A outer s H E) [] σ' H' s' → RelV v u → Q v H' → CE outer P w H s Q u s' :=
    fun {σ' H' v u} J rv q => ⟨v, H', J.os, J.bare, J.base, J.hok, rv, q⟩
  cases fl with
  | ret u =>
    obtain ⟨v, σ', H', J, rv, q⟩ := hs
    exact fin J rv q
  | next =>
    obtain ⟨σ', H', J, q⟩ := hs
    exact fin (v := V.non) (u := Value.none) J rfl q
  | brk =>
    obtain ⟨_, _, _, q⟩ := hs
    exact False.elim q
  | cont =>
    obtain ⟨_, _, _, q⟩ := hs
    exact False.elim q
end L2

namespace L2
open PySem PySem.Spec PyProof.Rows
section
variable {X : Cx} {x : Str} {p pos : Pos} {e : Expr} {es : List Expr} {t : TA} {id T : String} {r : List V → Hp → VK → Prop}

def tCB (r : List V → Hp → VK → Prop) (t : TA) : TE := fun σ H Q => t σ H fun vs H1 => r vs H1 Q
theorem pe_callB (hc : CallR X (.builtin id) r) (hg : Gl X x) (hm : X.mg x = none) (hv : bootBuiltins x = some (.builtin id)) (ha : PA X (e :: es) t) (hn : x ≠ "__name__" := by decide) (hdb : (x == ("__debug__" : Str)) = false := by decide)
    (he : starEach (e :: es) X.env = (false, eval e X.env) :: starEach es X.env := by rfl) (hpl : (backTo pos (starEach es X.env)).any (·.1) = false := by rfl) : PE X (.Call (.Name x p) (e :: es) [] pos) (tCB r t) := by
  intro pins s σ H Q I h
  refine wpAny_Call_Name_kw (ld_blt I hg hm hv ?_ hn hdb)
  exact PyProof.Rows.callWith_builtin1 (thn (ha pos pins s σ H _ I h) fun us s1 ⟨vs, H1, I1, r1, q1⟩ => hc pins s1 σ H1 vs us Q I1 r1 q1) he hpl
theorem pe_callTy (hc : CallR X (.type T) r) (hg : Gl X x) (hm : X.mg x = none) (hv : bootBuiltins x = some (.type T)) (ha : PA X (e :: es) t) (hn : x ≠ "__name__" := by decide) (hdb : (x == ("__debug__" : Str)) = false := by decide)
    (he : starEach (e :: es) X.env = (false, eval e X.env) :: starEach es X.env := by rfl) (hpl : (backTo pos (starEach es X.env)).any (·.1) = false := by rfl) : PE X (.Call (.Name x p) (e :: es) [] pos) (tCB r t) := by
  intro pins s σ H Q I h
  refine wpAny_Call_Name_kw (ld_blt I hg hm hv ?_ hn hdb)
  exact PyProof.Rows.callWith_type1 (thn (ha pos pins s σ H _ I h) fun us s1 ⟨vs, H1, I1, r1, q1⟩ => hc pins s1 σ H1 vs us Q I1 r1 q1) he hpl
end
end L2

namespace HT
open PySem PyProof.Rows

def lexLt : List Int → List Int → Bool
  | [], [] => false
  | [], _ :: _ => true
  | _ :: _, [] => false
  | x :: xs, y :: ys => if x = y then lexLt xs ys else decide (x < y)
section
open PySem.SeqAt
open PySem.AutoSeq1 (wpAny_loadPart')
open PySem.MeetsSeq PySem.MeetsSeq2 PySem.MeetsSeq3

end

section
variable {prog : Program} {w : World} {A : Around} {E : Value → Shared → Prop} {s : Shared}

def sIx (n d : Nat) : Option Int → Nat
  | none => d
  | some v => if v < 0 then (v + (n : Int)).toNat else min v.toNat n
theorem clip_eq (v : Int) (n d : Nat) : (if v < 0 then max (v + (n : Int)) 0 else min v (n : Int)) = ((sIx n d (some v) : Nat) : Int) := by
  show (if v < 0 then max (v + (n : Int)) 0 else min v (n : Int)) = (((if v < 0 then (v + (n : Int)).toNat else min v.toNat n) : Nat) : Int)
  by_cases hv : v < 0
  · simp only [if_pos hv]; omega
  · simp only [if_neg hv]; omega
theorem adjust_gen (lo hi : Option Int) (n : Nat) : Builtin.Slice.sliceAdjust lo hi 1 (n : Int) = (((sIx n 0 lo : Nat) : Int), ((sIx n n hi : Nat) : Int)) := by
  have h1 : ¬ ((1 : Int) < 0) := by omega
  unfold Builtin.Slice.sliceAdjust
  simp only [h1, if_false]
  refine Prod.ext ?_ ?_
  · cases lo with
    | none => rfl
    | some v => exact clip_eq v n 0
  · cases hi with
    | none => rfl
    | some v => exact clip_eq v n n
end
end HT

namespace L2
open PySem PySem.Spec PyProof.Rows

abbrev TO := St → Hp → (Option Int → Hp → Prop) → Prop
def PO (X : Cx) (e : Option Expr) (t : TO) : Prop :=
  ∀ (pins : List (Addr × Obj)) (s : Shared) (σ : St) (H : Hp) (Q : Option Int → Hp → Prop), Inv X pins σ H s → t σ H Q →
    wpAny (model X.prog X.w) X.A (evalPart e X.env) (fun u s' => ∃ o H', Inv X pins σ H' s' ∧ IsPart u o ∧ Q o H') X.xe s
def tNoPart : TO := fun _ H Q => Q none H
def tPart (t : TE) : TO := fun σ H Q => t σ H fun x H1 => ∃ i, x = .int i ∧ Q (some i) H1

theorem intsAre_of {ns : List Int} : ∀ {us : List Value}, Vals (ns.map V.int) us → IntsAre us ns := by
  induction ns with
  | nil => intro us r; rw [List.map_nil] at r; cases r; exact .nil
  | cons n ns ih =>
    intro us r
    rw [List.map_cons] at r
    cases r with
    | cons r1 r2 =>
      obtain ⟨t, e⟩ := r1
      subst e
      exact .cons n t (ih r2)

section
variable {X : Cx} {e : Expr} {te : TE} {lo hi : Option Expr} {tl th : TO} {pos p2 : Pos}

theorem po_none : PO X none tNoPart := by
  intro pins s σ H Q I h
  rw [evalPart_none]
  exact wpAny_pure ⟨none, H, I, .none, h⟩
theorem po_some (h : PE X e te) : PO X (some e) (tPart te) := by
  intro pins s σ H Q I hw
  rw [evalPart_some]
  refine thn (h pins s σ H _ I hw) fun u s1 ⟨x, H1, I1, r1, q1⟩ => ?_
  obtain ⟨i, rfl, q⟩ := q1
  obtain ⟨t, rfl⟩ := r1
  exact ⟨some i, H1, I1, .int i t, q⟩

def SlR (X : Cx) (r : V → Option Int → Option Int → Hp → VK → Prop) : Prop :=
  ∀ (pins : List (Addr × Obj)) (s : Shared) (σ : St) (H : Hp) (x : V) (v vl vu : Value) (lo hi : Option Int) (sl : Addr) (Q : VK), Inv X pins σ H s → RelV x v → s.heap.IsSliceOf sl vl vu .none → IsPart vl lo → IsPart vu hi → r x lo hi H Q →
    ∃ T id, typeLookup (.type T) "__getitem__" = pure (some (.builtin id)) ∧ s.TypeIs v T ∧ wpAny (model X.prog X.w) X.A (getItem v (.ref sl)) (EP X pins σ Q) X.xe s
def tSl (r : V → Option Int → Option Int → Hp → VK → Prop) (te : TE) (tl th : TO) : TE := fun σ H Q => te σ H fun x H1 => tl σ H1 fun l H2 => th σ H2 fun u H3 => r x l u H3 Q
theorem pe_slice {r : V → Option Int → Option Int → Hp → VK → Prop} (hr : SlR X r) (he : PE X e te) (hl : PO X lo tl) (hu : PO X hi th) : PE X (.Subscript e (.Slice lo hi none p2) pos) (tSl r te tl th) := by
  intro pins s σ H Q I h
  refine Subscript_ (thn (he pins s σ H _ I h) fun v s1 ⟨x, H1, I1, r1, q1⟩ => ?_)
  refine wpAny_Slice (thn (hl pins s1 σ H1 _ I1 q1) fun vl s2 ⟨l, H2, I2, pl, q2⟩ => thn (hu pins s2 σ H2 _ I2 q2) fun vu s3 ⟨u, H3, I3, pu, q3⟩ => ?_)
  rw [evalPart_none]
  refine wpAny_pure ?_
  have I4 : Inv X pins σ H3 { s3 with heap := s3.heap.push { cls := .type "slice", data := .fields #[vl, vu, .none] } } := I3.kept (t' := s3.toks) fun b ob q => Heap.get?_push_of_some _ q
  obtain ⟨T, id, hT, ht, hg⟩ := hr pins { s3 with heap := s3.heap.push { cls := .type "slice", data := .fields #[vl, vu, .none] } } σ H3 x v vl vu l u s3.heap.objs.size Q I4 r1 (Heap.IsSliceOf.new ..) pl pu q3
  show wpAny (model X.prog X.w) X.A (subscriptTail e (.Slice lo hi none p2) v (.ref s3.heap.objs.size)) (EP X pins σ Q) X.xe { s3 with heap := s3.heap.push { cls := .type "slice", data := .fields #[vl, vu, .none] } }
  exact tail_any (ops := [.ref s3.heap.objs.size, v]) ht hT hg (by with_unfolding_all rfl)

def cutV (xs : List V) (lo hi : Option Int) : List V := (xs.drop (HT.sIx xs.length 0 lo)).take (HT.sIx xs.length xs.length hi - HT.sIx xs.length 0 lo)
theorem cutV_length (xs : List V) (lo hi : Option Int) : (cutV xs lo hi).length ≤ xs.length := by
  unfold cutV
  rw [List.length_take, List.length_drop]
  omega
end
end L2

namespace L2
open PySem PySem.Spec PyProof.Rows

def ixN (n : Nat) (i : Int) : Option Nat := if 0 ≤ i then (if i < n then some i.toNat else none) else if -(n : Int) ≤ i then some (i + n).toNat else none
def atI {α : Type} (xs : List α) (i : Int) : Option α := (ixN xs.length i).bind fun j => xs[j]?
theorem ixN_seq {n : Nat} {i : Int} {j : Nat} (h : ixN n i = some j) : seqIndex? i n = some j ∧ j < n ∧ -(n : Int) ≤ i ∧ i < n := by
  unfold ixN at h
  by_cases h0 : 0 ≤ i
  · rw [if_pos h0] at h
    by_cases h1 : i < n
    · rw [if_pos h1] at h
      have e : i.toNat = j := Option.some.inj h
      exact ⟨by rw [seqIndex_of h0 h1, e], by omega, by omega, h1⟩
    · rw [if_neg h1] at h; cases h
  · rw [if_neg h0] at h
    by_cases h1 : -(n : Int) ≤ i
    · rw [if_pos h1] at h
      have e : (i + n).toNat = j := Option.some.inj h
      exact ⟨by rw [seqIndex_neg (by omega) h1, e], by omega, h1, by omega⟩
    · rw [if_neg h1] at h; cases h
theorem atI_get {α : Type} {xs : List α} {i : Int} {v : α} (h : atI xs i = some v) : ∃ j, seqIndex? i xs.length = some j ∧ xs[j]? = some v ∧ j < xs.length ∧ -(xs.length : Int) ≤ i ∧ i < xs.length := by
  unfold atI at h
  cases e : ixN xs.length i with
  | none => rw [e] at h; cases h
  | some j =>
    rw [e] at h
    obtain ⟨h1, h2, h3, h4⟩ := ixN_seq e
    exact ⟨j, h1, h, h2, h3, h4⟩
theorem atI_nat {α : Type} {xs : List α} {j : Nat} {v : α} (h : xs[j]? = some v) : atI xs (j : Int) = some v := by
  have hj : j < xs.length := (List.getElem?_eq_some_iff.mp h).1
  have e : ixN xs.length (j : Int) = some j := by
    unfold ixN
    rw [if_pos (by omega), if_pos (by omega)]; simp
  unfold atI; rw [e]; exact h
def PlainIx (b : Expr) : Prop := ∀ o i, subscripted b false o i = operate [o, i] (getItem o i)
def IxR (X : Cx) (r : R2) : Prop :=
  ∀ (value slice : Expr) (pins : List (Addr × Obj)) (s : Shared) (σ : St) (H : Hp) (x y : V) (v u : Value) (Q : VK), Inv X pins σ H s → RelV x v → RelV y u → r x y H Q →
    subscripted slice false v u = operate [v, u] (getItem v u) → wpAny (model X.prog X.w) X.A (subscriptTail value slice v u) (EP X pins σ Q) X.xe s
def MtR (X : Cx) (id : String) (r : V → List V → Hp → VK → Prop) : Prop :=
  ∀ (pins : List (Addr × Obj)) (s : Shared) (σ : St) (H : Hp) (x : V) (xs : List V) (v : Value) (us : List Value) (Q : VK), Inv X pins σ H s → RelV x v → Vals xs us → r x xs H Q →
    wpAny (model X.prog X.w) X.A (call (.builtin id) (v :: us)) (EP X pins σ Q) X.xe s
section
variable {X : Cx} {a b : Expr} {ta tb : TE} {pos : Pos}
theorem IxR.or {r r' : R2} (h : IxR X r) (h' : IxR X r') : IxR X (fun x y H Q => r x y H Q ∨ r' x y H Q) := by
  intro value slice pins s σ H x y v u Q I rx ry q hs
  rcases q with q | q
  · exact h value slice pins s σ H x y v u Q I rx ry q hs
  · exact h' value slice pins s σ H x y v u Q I rx ry q hs
theorem pe_ix {r : R2} (hr : IxR X r) (ha : PE X a ta) (hb : PE X b tb) (hs : PlainIx b) : PE X (.Subscript a b pos) (tOp r ta tb) := by
  intro pins s σ H Q I h
  exact Subscript_ (binT ha hb I h fun v u s2 x y H2 I2 rx ry q => hr a b pins s2 σ H2 x y v u Q I2 rx ry q (hs _ _))

def rIxL (K : PySem.W.Frag) : R2 := fun x y H Q => ∃ p xs i v, x = .ref p ∧ y = .int i ∧ SqL K H p xs ∧ atI xs i = some v ∧ Q v H
def rIxT (K : PySem.W.Frag) : R2 := fun x y H Q => ∃ p xs i v, x = .ref p ∧ y = .int i ∧ SqT K H p xs ∧ atI xs i = some v ∧ Q v H
def rIxS : R2 := fun x y H Q => ∃ z i c, x = .str z ∧ y = .int i ∧ z.length ≤ sizeLine ∧ atI z.cps.toList i = some c ∧ Q (.str ⟨#[c]⟩) H
theorem ix_list : IxR X (rIxL X.K) := by
  intro value slice pins s σ H x y v u Q I rx ry h hs
  obtain ⟨p, xs, i, z, rfl, rfl, hq, he, q⟩ := h
  cases rx
  obtain ⟨t, rfl⟩ := ry
  obtain ⟨its, r, pl, hz⟩ := I.list hq
  obtain ⟨j, h1, h2, h3, h4, h5⟩ := atI_get he
  obtain ⟨w, ew, rw'⟩ := r.get h2
  have hl := r.length
  have hn := line63
  have fin : EP X pins σ Q w s := ⟨z, H, I, rw', q⟩
  by_cases h0 : 0 ≤ i
  · have hj : i.toNat = j := by
      rw [seqIndex_of h0 h5] at h1
      exact Option.some.inj h1
    exact item_listR pl.isList h0 (by omega) (by rw [hj]; simpa using ew) fin hs
  · have hj : (i + (its.toArray.size : Int)).toNat = j := by
      rw [seqIndex_neg (by omega) h4] at h1
      rw [List.size_toArray, ← hl]
      exact Option.some.inj h1
    exact subscriptTail_builtinR (x := w) pl.isList.typeIs slot_list_getitem.lookup
      (wpAny_getItem_list_neg (Q := fun r s' => r = w ∧ EP X pins σ Q r s') pl.isList (by omega) (by rw [List.size_toArray] <;> omega) (by omega) (by rw [hj]; simpa using ew) ⟨rfl, fin⟩) hs
theorem ix_tup : IxR X (rIxT X.K) := by
  intro value slice pins s σ H x y v u Q I rx ry h hs
  obtain ⟨p, xs, i, z, rfl, rfl, hq, he, q⟩ := h
  cases rx
  obtain ⟨t, rfl⟩ := ry
  obtain ⟨its, r, pl, hz⟩ := I.tuple hq
  obtain ⟨j, h1, h2, h3, h4, h5⟩ := atI_get he
  obtain ⟨w, ew, rw'⟩ := r.get h2
  have hl := r.length
  have hn := line63
  have fin : EP X pins σ Q w s := ⟨z, H, I, rw', q⟩
  exact subscriptTail_builtinR (x := w) pl.typeIs slot_tuple_getitem.lookup
    (getItem_tuple (j := j) (Q := fun r s' => r = w ∧ EP X pins σ Q r s') pl (by omega) (by omega) (by rw [List.size_toArray, ← hl]; exact h1) (by simpa using ew) ⟨rfl, fin⟩) hs
theorem ix_str : IxR X rIxS := by
  intro value slice pins s σ H x y v u Q I rx ry h hs
  obtain ⟨z, i, c, rfl, rfl, hz, he, q⟩ := h
  obtain ⟨t, rfl⟩ := rx
  obtain ⟨t', rfl⟩ := ry
  obtain ⟨j, h1, h2, h3, h4, h5⟩ := atI_get he
  have hl : z.cps.toList.length = z.length := by simp [Str.length]
  rw [hl] at h1 h4 h5
  have hn := line63
  exact tail_any (typeIs_str s z t) slot_str_getitem.lookup (getItem_str (c := c) (by
    have e1 : decide (i < -(2 ^ 63 : Int)) = false := decide_eq_false (by omega)
    have e2 : decide (i ≥ 2 ^ 63) = false := decide_eq_false (by omega)
    rw [e1, e2, Bool.or_false]) (by rw [h1]; simpa using h2) ⟨.str ⟨#[c]⟩, H, I.tok _, ⟨_, rfl⟩, q⟩) hs
def rIx (K : PySem.W.Frag) : R2 := fun x y H Q => rIxL K x y H Q ∨ rIxT K x y H Q ∨ rIxS x y H Q
theorem ix_seq : IxR X (rIx X.K) := ix_list.or (ix_tup.or ix_str)

theorem slice_bounds (lo hi : Option Int) (n : Nat) : (sliceBounds lo hi none n).1 = ((HT.sIx n 0 lo : Nat) : Int) ∧ (sliceBounds lo hi none n).2.1 = ((HT.sIx n n hi : Nat) : Int) ∧ (sliceBounds lo hi none n).2.2 = 1 := by
  refine ⟨?_, ?_, rfl⟩
  · cases lo with
    | none => simp [sliceBounds, HT.sIx]
    | some i =>
      simp only [sliceBounds, HT.sIx, Option.getD_none, show (1 : Int) > 0 by decide, if_true]
      by_cases h : i < 0
      · simp only [h, if_true] <;> omega
      · simp only [h, if_false] <;> omega
  · cases hi with
    | none => simp [sliceBounds, HT.sIx]
    | some i =>
      simp only [sliceBounds, HT.sIx, Option.getD_none, show (1 : Int) > 0 by decide, if_true]
      by_cases h : i < 0
      · simp only [h, if_true] <;> omega
      · simp only [h, if_false] <;> omega
theorem slicePick_cut (its : List Value) (lo hi : Option Int) : slicePick its.toArray lo hi none = ((its.drop (HT.sIx its.length 0 lo)).take (HT.sIx its.length its.length hi - HT.sIx its.length 0 lo)).toArray := by
  obtain ⟨h1, h2, h3⟩ := slice_bounds lo hi its.toArray.size
  unfold slicePick
  rw [h1, h2, h3]
  simp only [sliceRange_one, pick_run, List.size_toArray] <;> rfl
def rSlL (K : PySem.W.Frag) : V → Option Int → Option Int → Hp → VK → Prop := fun x lo hi H Q => ∃ a xs, x = .ref a ∧ SqL K H a xs ∧ ∀ p, H p = none → Q (.ref p) (upd H p (.lst (cutV xs lo hi)))
theorem sl_list : SlR X (rSlL X.K) := by
  intro pins s σ H x v vl vu lo hi sl Q I rx hs pl pu h
  obtain ⟨a, xs, rfl, hx, q⟩ := h
  cases rx
  obtain ⟨its, r, ht, hz⟩ := I.list hx
  have hlen := r.length
  refine ⟨"list", _, slot_list_getitem.lookup, ht.isList.typeIs, ?_⟩
  refine wpAny_getItem_list_slice ht.isList hs pl pu .none (by simp) ?_ (by rw [List.size_toArray] <;> omega)
  rw [slicePick_cut, ← hlen]
  refine ⟨.ref s.heap.objs.size, _, I.laid (t' := s.toks) (o := .lst (cutV xs lo hi)) (fun b ob q => Heap.get?_push_of_some _ q) (Nat.le_refl _) ?_, rfl, q _ (I.hok.fresh (Nat.le_refl _))⟩
  exact ⟨Nat.le_trans (cutV_length xs lo hi) hz, _, 0, (r.drop (HT.sIx xs.length 0 lo)).take (HT.sIx xs.length xs.length hi - HT.sIx xs.length 0 lo), Heap.get?_push_size _ rfl⟩

def flatV : V → Bool
  | .non => true
  | .bl _ => true
  | .int _ => true
  | .str _ => true
  | _ => false
def eqV : V → V → Bool
  | .non, .non => true
  | .bl a, .bl b => a == b
  | .bl a, .int b => (if a then 1 else 0) == b
  | .int a, .bl b => a == (if b then 1 else 0)
  | .int a, .int b => a == b
  | .str a, .str b => a == b
  | _, _ => false
theorem eqAt_V {A : Around} {s : Shared} {y x : V} {u v : Value} (ry : RelV y u) (rx : RelV x v) (fy : flatV y = true) (fx : flatV x = true) : SeqAt.EqAt A s u v (eqV y x) := by
  cases y with
  | non =>
    cases ry
    cases x with
    | non => cases rx; exact SeqAt.EqAt.same _
    | bl b => cases rx; exact SeqAt.EqAt.none_bool b
    | int b => obtain ⟨t, rfl⟩ := rx; exact SeqAt.EqAt.none_int b t
    | str b => obtain ⟨t, rfl⟩ := rx; exact SeqAt.EqAt.none_str b t
    | _ => exact absurd (show false = true from fx) Bool.false_ne_true
  | bl a =>
    cases ry
    cases x with
    | non => cases rx; exact SeqAt.EqAt.bool_none a
    | bl b => cases rx; exact SeqAt.EqAt.bool_bool a b
    | int b => obtain ⟨t, rfl⟩ := rx; exact SeqAt.EqAt.bool_int a b t
    | str b => obtain ⟨t, rfl⟩ := rx; exact SeqAt.EqAt.bool_str a b t
    | _ => exact absurd (show false = true from fx) Bool.false_ne_true
  | int a =>
    obtain ⟨t', rfl⟩ := ry
    cases x with
    | non => cases rx; exact SeqAt.EqAt.int_none a t'
    | bl b => cases rx; exact SeqAt.EqAt.int_bool a t' b
    | int b => obtain ⟨t, rfl⟩ := rx; exact SeqAt.EqAt.int_int a t' b t
    | str b => obtain ⟨t, rfl⟩ := rx; exact SeqAt.EqAt.int_str a t' b t
    | _ => exact absurd (show false = true from fx) Bool.false_ne_true
  | str a =>
    obtain ⟨t', rfl⟩ := ry
    cases x with
    | non => cases rx; exact SeqAt.EqAt.str_none a t'
    | bl b => cases rx; exact SeqAt.EqAt.str_bool a t' b
    | int b => obtain ⟨t, rfl⟩ := rx; exact SeqAt.EqAt.str_int a t' b t
    | str b => obtain ⟨t, rfl⟩ := rx; exact SeqAt.EqAt.str_str a t' b t
    | _ => exact absurd (show false = true from fx) Bool.false_ne_true
  | _ => exact absurd (show false = true from fy) Bool.false_ne_true
def eqU (x : V) (u : Value) : Bool := match u with
  | .none => eqV .non x
  | .bool b => eqV (.bl b) x
  | .int i _ => eqV (.int i) x
  | .str z _ => eqV (.str z) x
  | _ => false
theorem eqU_of {x y : V} {u : Value} (r : RelV y u) (f : flatV y = true) : eqU x u = eqV y x := by
  cases y with
  | non => cases r; rfl
  | bl b => cases r; rfl
  | int i => obtain ⟨t, rfl⟩ := r; rfl
  | str z => obtain ⟨t, rfl⟩ := r; rfl
  | _ => exact absurd (show false = true from f) Bool.false_ne_true
theorem any_eqU {x : V} : ∀ {xs : List V} {us : List Value}, Vals xs us → xs.all flatV = true → us.any (eqU x) = xs.any fun y => eqV y x
  | _, _, .nil, _ => rfl
  | y :: xs, u :: us, .cons r t, f => by
    rw [List.all_cons, Bool.and_eq_true] at f
    rw [List.any_cons, List.any_cons, eqU_of r f.1, any_eqU t f.2]
theorem mem_eqAt {A : Around} {s : Shared} {x : V} {v : Value} (rx : RelV x v) (fx : flatV x = true) : ∀ {xs : List V} {us : List Value}, Vals xs us → xs.all flatV = true → ∀ u ∈ us, SeqAt.EqAt A s u v (eqU x u)
  | _, _, .nil, _ => fun u hu => by cases hu
  | y :: xs, u :: us, .cons r t, f => fun u' hu => by
    rw [List.all_cons, Bool.and_eq_true] at f
    rcases List.mem_cons.mp hu with rfl | hu
    · rw [eqU_of r f.1]; exact eqAt_V r rx f.1 fx
    · exact mem_eqAt rx fx t f.2 u' hu
def inV (x : V) (xs : List V) : Bool := xs.any fun y => eqV y x
def rIn (K : PySem.W.Frag) (neg : Bool) : R2 := fun x y H Q => ∃ p xs, y = .ref p ∧ (SqL K H p xs ∨ SqT K H p xs) ∧ flatV x = true ∧ xs.all flatV = true ∧ Q (.bl (if neg then !inV x xs else inV x xs)) H
theorem op_in_seq : OpR X (compareOp .In) (rIn X.K false) := by
  intro pins s σ H x y v u Q I rx ry h
  obtain ⟨p, xs, rfl, hq, fx, fs, q⟩ := h
  cases ry
  rcases hq with hq | hq
  · obtain ⟨its, r, pl, hz⟩ := I.list hq
    refine SeqAt.in_listAt (eqU x) pl.isList (fun w hw => mem_eqAt rx fx r fs w (by simpa using hw)) ⟨.bl _, H, I, rfl, ?_⟩
    rw [show its.toArray.any (eqU x) = its.any (eqU x) by simp, any_eqU r fs]
    exact q
  · obtain ⟨its, r, pl, hz⟩ := I.tuple hq
    refine SeqAt.in_tupleAt (eqU x) pl (fun w hw => mem_eqAt rx fx r fs w (by simpa using hw)) ⟨.bl _, H, I, rfl, ?_⟩
    rw [show its.toArray.any (eqU x) = its.any (eqU x) by simp, any_eqU r fs]
    exact q
theorem op_notIn_seq : OpR X (compareOp .NotIn) (rIn X.K true) := by
  intro pins s σ H x y v u Q I rx ry h
  obtain ⟨p, xs, rfl, hq, fx, fs, q⟩ := h
  cases ry
  rcases hq with hq | hq
  · obtain ⟨its, r, pl, hz⟩ := I.list hq
    refine SeqAt.notIn_listAt (eqU x) pl.isList (fun w hw => mem_eqAt rx fx r fs w (by simpa using hw)) ⟨.bl _, H, I, rfl, ?_⟩
    rw [show its.toArray.any (eqU x) = its.any (eqU x) by simp, any_eqU r fs]
    exact q
  · obtain ⟨its, r, pl, hz⟩ := I.tuple hq
    refine SeqAt.notIn_tupleAt (eqU x) pl (fun w hw => mem_eqAt rx fx r fs w (by simpa using hw)) ⟨.bl _, H, I, rfl, ?_⟩
    rw [show its.toArray.any (eqU x) = its.any (eqU x) by simp, any_eqU r fs]
    exact q
theorem call_len_seq : CallR X (.builtin "len") (fun xs H Q => ∃ p ys, xs = [.ref p] ∧ (SqL X.K H p ys ∨ SqT X.K H p ys) ∧ Q (.int ys.length) H) := by
  intro pins s σ H xs us Q I r h
  obtain ⟨p, ys, rfl, hq, q⟩ := h
  obtain ⟨u, rfl, rx⟩ := vals1 r
  cases rx
  have hn := line63
  rcases hq with hq | hq
  · obtain ⟨its, r', pl, hz⟩ := I.list hq
    have hlen := r'.length
    exact Calls.call_len_list pl.isList (by simp only [List.size_toArray] <;> omega) ⟨.int ys.length, H, I.tok _, ⟨s.toks + 1, by rw [List.size_toArray, hlen]⟩, q⟩
  · obtain ⟨its, r', pl, hz⟩ := I.tuple hq
    have hlen := r'.length
    exact len_tuple pl (by simp only [List.size_toArray] <;> omega) ⟨.int ys.length, H, I.tok _, ⟨s.toks + 1, by rw [List.size_toArray, hlen]⟩, q⟩
theorem call_list_of : CallR X (.type "list") (fun xs H Q => ∃ p ys, xs = [.ref p] ∧ (SqL X.K H p ys ∨ SqT X.K H p ys) ∧ ∀ l, H l = none → Q (.ref l) (upd H l (.lst ys))) := by
  intro pins s σ H xs us Q I r h
  obtain ⟨p, ys, rfl, hq, q⟩ := h
  obtain ⟨u, rfl, rx⟩ := vals1 r
  cases rx
  have fin : ∀ (its : List Value), Vals ys its → ys.length ≤ sizeLine → ∀ (h' : Heap) (c' : Nat), (∀ b o', s.heap.get? b = some o' → h'.get? b = some o') →
      h'.get? s.heap.objs.size = some { cls := .type "list", dict := none, data := .seq its.toArray c', slots := #[] } → EP X pins σ Q (.ref s.heap.objs.size) { s with heap := h' } := fun its r' hz h' c' kp e =>
    ⟨.ref s.heap.objs.size, _, I.laid (t' := s.toks) kp (Nat.le_refl _) (show ObjOk X.prog X.w _ h' _ (.lst ys) from ⟨hz, its, c', r', e⟩), rfl, q _ (I.hok.fresh (Nat.le_refl _))⟩
  rcases hq with hq | hq
  · obtain ⟨its, r', pl, hz⟩ := I.list hq
    have hlen := r'.length
    obtain ⟨o, ho, hc, n, hd⟩ := pl.isList
    exact call_list_seq p (.inl rfl) ho hc hd (fun h' c' kp e => fin its r' hz h' c' kp e) (by simp only [List.size_toArray] <;> omega)
  · obtain ⟨its, r', pl, hz⟩ := I.tuple hq
    have hlen := r'.length
    obtain ⟨o, ho, hc, n, hd⟩ := pl
    exact call_list_seq p (.inr rfl) ho hc hd (fun h' c' kp e => fin its r' hz h' c' kp e) (by simp only [List.size_toArray] <;> omega)
def tyV (K : PySem.W.Frag) (T : String) (x : V) (H : Hp) : Prop := match x with
  | .str _ => T = "str"
  | .int _ => T = "int"
  | .ref p => (T = "list" ∧ ∃ xs, SqL K H p xs) ∨ (T = "tuple" ∧ ∃ o, K.lookup p = some o ∧ o.cls = .type "tuple" ∧ o.dict = none) ∨
      (T = "dict" ∧ ((∃ kvs, H p = some (.dK kvs)) ∨ ∃ kvs, H p = some (.dT kvs))) ∨ (T = "set" ∧ ∃ S n, H p = some (.set S n))
  | _ => False
theorem tyV_is {pins : List (Addr × Obj)} {σ : St} {H : Hp} {s : Shared} {T : String} {x : V} {v : Value} (I : Inv X pins σ H s) (r : RelV x v) (ty : tyV X.K T x H) :
    s.TypeIs v T ∧ ∀ a, v = .ref a → ∃ ob, s.heap.get? a = some ob ∧ ob.dict = none := by
  cases x with
  | str z =>
    obtain ⟨t, rfl⟩ := r
    cases (show T = "str" from ty)
    exact ⟨typeIs_str s z t, fun _ e => nomatch e⟩
  | int i =>
    obtain ⟨t, rfl⟩ := r
    cases (show T = "int" from ty)
    exact ⟨typeIs_int s i t, fun _ e => nomatch e⟩
  | ref p =>
    cases r
    rcases ty with ⟨rfl, xs, hq⟩ | ⟨rfl, o, hk, hc, hd⟩ | ⟨rfl, hk⟩ | ⟨rfl, S, n, hk⟩
    · obtain ⟨its, _, pl, _⟩ := I.list hq
      refine ⟨pl.isList.typeIs, fun a e => ?_⟩
      cases e
      obtain ⟨o, n, e, c, hd, _⟩ := pl
      exact ⟨o, e, hd⟩
    · refine ⟨⟨o, I.kIn p o hk, hc⟩, fun a e => ?_⟩
      cases e
      exact ⟨o, I.kIn _ o hk, hd⟩
    · have z : ∃ o, s.heap.get? p = some o ∧ o.ExactDict := by
        rcases hk with ⟨kvs, hk⟩ | ⟨kvs, hk⟩
        · obtain ⟨_, _, _, _, o, _, _, e, ex, _⟩ := I.hok p _ hk
          exact ⟨o, e, ex⟩
        · obtain ⟨_, _, _, _, o, _, _, e, ex, _⟩ := I.hok p _ hk
          exact ⟨o, e, ex⟩
      obtain ⟨o, e, ex⟩ := z
      refine ⟨⟨o, e, ex.1⟩, fun a e2 => ?_⟩
      cases e2
      exact ⟨o, e, ex.2.1⟩
    · obtain ⟨o, _, _, _, e, ex, _⟩ := I.hok p _ hk
      refine ⟨⟨o, e, ex.1⟩, fun a e2 => ?_⟩
      cases e2
      exact ⟨o, e, ex.2.1⟩
  | _ => exact False.elim ty
def tBM0 (K : PySem.W.Frag) (T : String) (r : V → List V → Hp → VK → Prop) (to : TE) : TE := fun σ H Q => to σ H fun x H1 => tyV K T x H1 ∧ r x [] H1 Q
def tBM (K : PySem.W.Frag) (T : String) (r : V → List V → Hp → VK → Prop) (to : TE) (t : TA) : TE := fun σ H Q => to σ H fun x H1 => tyV K T x H1 ∧ t σ H1 fun xs H2 => r x xs H2 Q
variable {o e : Expr} {es : List Expr} {to : TE} {t : TA} {name : Str} {apos cpos : Pos} {T id : String} {r : V → List V → Hp → VK → Prop}
theorem pe_bm0 (pa : PlainAttrs T) (slot : Slot T name id) (hty : typeOf (.builtin id) = pure (.type "method_descriptor")) (hm : MtR X id r) (ho : PE X o to)
    (hbase : attributeBase o name X.env (eval o X.env) = eval o X.env := by rfl) (hline : (apos.endLine == cpos.line) = true := by rfl) : PE X (.Call (.Attribute o name apos) [] [] cpos) (tBM0 X.K T r to) := by
  intro pins s σ H Q I h
  refine wpAny_Call_method0_late hbase hline (thn (ho pins s σ H _ I h) fun v s1 ⟨x, H1, I1, r1, ty, q1⟩ => ?_)
  obtain ⟨h1, h2⟩ := tyV_is I1 r1 ty
  exact ⟨T, id, pa, slot, hty, h1, h2, Calls.callWith_builtin rfl (PySem.evalArgs_none (hm pins s1 σ H1 x [] v [] Q I1 r1 .nil q1))⟩
theorem pe_bm (pa : PlainAttrs T) (slot : Slot T name id) (hty : typeOf (.builtin id) = pure (.type "method_descriptor")) (hm : MtR X id r) (ho : PE X o to) (ha : PA X (e :: es) t)
    (hbase : attributeBase o name X.env (eval o X.env) = eval o X.env := by rfl)
    (hfew : ((backTo cpos (starEach (e :: es) X.env)).all (fun x => !x.1) && (backToKw cpos (keywordEach [] X.env)).all (fun x => x.1.isSome)
      && decide ((e :: es).length + ([] : List Keyword).length + (if ([] : List Keyword).isEmpty then 0 else 1) < 30)) = true := by rfl)
    (hline : (apos.endLine == cpos.line) = true := by rfl) (hs : starEach (e :: es) X.env = (false, eval e X.env) :: starEach es X.env := by rfl) (hplain : (backTo cpos (starEach es X.env)).any (·.1) = false := by rfl) :
    PE X (.Call (.Attribute o name apos) (e :: es) [] cpos) (tBM X.K T r to t) := by
  intro pins s σ H Q I h
  refine wpAny_Call_method_late hbase hfew hline rfl (thn (ho pins s σ H _ I h) fun v s1 ⟨x, H1, I1, r1, ty, q1⟩ => ?_)
  obtain ⟨h1, h2⟩ := tyV_is I1 r1 ty
  refine ⟨T, id, pa, slot, hty, h1, h2, ?_⟩
  have hA := ha cpos pins s1 σ H1 _ I1 q1
  rw [hs] at hA ⊢
  refine Calls.callWith_builtin (by show (false || (backTo cpos (starEach es X.env)).any (·.1)) = false; rw [hplain] <;> rfl) (Calls.evalArgs_plain ?_)
  exact thn hA fun us s2 ⟨vs, H2, I2, r2, q2⟩ => hm pins s2 σ H2 x vs v us Q I2 r1 r2 q2
/- xs.append(e), list.index on a module's tuple .. are MtR facts of 06m -/
end
end L2

namespace L2
open PySem PySem.Spec PyProof.Rows

def MtM (X : Cx) (id : String) (r : V → List V → Hp → VK → Prop) : Prop :=
  ∀ (pins : List (Addr × Obj)) (s : Shared) (σ : St) (H : Hp) (x : V) (xs : List V) (v : Value) (us : List Value) (Q : VK), Inv X pins σ H s → RelV x v → Vals xs us → r x xs H Q →
    wpAny (model X.prog X.w) X.A (call (.builtin id) (v :: us)) (EP X pins σ Q) X.xe s

theorem Vals.one : ∀ {x : V} {us : List Value}, Vals [x] us → ∃ u, us = [u] ∧ RelV x u := by
  intro x us h
  cases h with
  | cons r h => cases h; exact ⟨_, rfl, r⟩
theorem Vals.two : ∀ {x y : V} {us : List Value}, Vals [x, y] us → ∃ u v, us = [u, v] ∧ RelV x u ∧ RelV y v := by
  intro x y us h
  cases h with
  | cons r h => cases h with
    | cons q h => cases h; exact ⟨_, _, rfl, r, q⟩
theorem Vals.zero : ∀ {us : List Value}, Vals [] us → us = []
  | _, .nil => rfl
theorem Vals.dropLast {xs : List V} {us : List Value} (h : Vals xs us) : Vals xs.dropLast us.dropLast := by
  induction h with
  | nil => exact .nil
  | cons r t ih =>
    cases t with
    | nil => exact .nil
    | cons q t' => exact .cons r ih
theorem Vals.reverse {xs : List V} {us : List Value} (h : Vals xs us) : Vals xs.reverse us.reverse := by
  induction h with
  | nil => exact .nil
  | cons r t ih => rw [List.reverse_cons, List.reverse_cons]; exact Vals.append ih (.cons r .nil)
theorem erase_last {α : Type} (l : List α) : l.eraseIdx (l.length - 1) = l.dropLast := by
  induction l with
  | nil => rfl
  | cons a r ih =>
    cases r with
    | nil => rfl
    | cons b r =>
      have e : (a :: b :: r).length - 1 = ((b :: r).length - 1) + 1 := by
        have h1 : (a :: b :: r).length = r.length + 2 := rfl
        have h2 : (b :: r).length = r.length + 1 := rfl
        omega
      rw [e, List.eraseIdx_cons_succ, ih]
      all_goals rfl
section
variable {X : Cx} {pins : List (Addr × Obj)} {σ : St} {H : Hp} {s : Shared} {l b : Addr} {xs ys zs : List V}

theorem Inv.lset {its its' : List Value} {n : Nat} {f : Array Value → Array Value} {t' : Nat} (I : Inv X pins σ H s) (hH : H l = some (.lst xs))
    (e : s.heap.get? l = some { cls := .type "list", data := .seq its.toArray n }) (hf : f its.toArray = its'.toArray) (hv : Vals ys its') (hz : ys.length ≤ sizeLine) :
    Inv X pins σ (upd H l (.lst ys)) { s with heap := s.heap.update l (Obj.mapSeq f), toks := t' } := by
  have q := PySem.IsL.update e f
  rw [hf] at q
  refine I.write (x := l) (e := l) (by rw [hH]; exact trivial) (.inl rfl) (fun b' u hb hu => (Heap.get?_update_other s.heap (Obj.mapSeq f) (Ne.symm hb)).trans hu) ⟨_, q⟩ ?_
  exact ⟨hz, its', _, hv, q⟩
theorem Inv.lnew {its : List Value} {t' : Nat} (I : Inv X pins σ H s) (hv : Vals ys its) (hz : ys.length ≤ sizeLine) :
    Inv X pins σ (upd H s.heap.objs.size (.lst ys)) { s with heap := s.heap.push { cls := .type "list", data := .seq its.toArray }, toks := t' } :=
  I.laid (fun _ _ q => Heap.get?_push_of_some _ q) (Nat.le_refl _) ⟨hz, its, 0, hv, Heap.get?_push_size _ rfl⟩
theorem Inv.fresh (I : Inv X pins σ H s) : H s.heap.objs.size = none := I.hok.fresh (Nat.le_refl _)
theorem Inv.lstM (I : Inv X pins σ H s) (hH : H l = some (.lst xs)) : xs.length ≤ sizeLine ∧ ∃ (its : List Value) (n : Nat), Vals xs its ∧ xs.length = its.length ∧ s.heap.get? l = some { cls := .type "list", data := .seq its.toArray n } := by
  obtain ⟨z, its, n, r, e⟩ := I.hok l _ hH
  exact ⟨z, its, n, r, r.length, e⟩

theorem notLongL {n : Nat} (h : n ≤ sizeLine) : Builtin.List.listTooLong n = false := by
  unfold Builtin.List.listTooLong
  exact decide_eq_false (by omega)
end

section
variable {X : Cx}

def rAppend : V → List V → Hp → VK → Prop := fun x vs H Q => ∃ l xs y, x = .ref l ∧ vs = [y] ∧ H l = some (.lst xs) ∧ xs.length < sizeLine ∧ Q .non (upd H l (.lst (xs ++ [y])))
theorem mt_append : MtM X "list.append" rAppend := by
  intro pins s σ H x vs v us Q I rx rv h
  obtain ⟨l, xs, y, rfl, rfl, hH, hz, q⟩ := h
  cases rx
  obtain ⟨u, rfl, ru⟩ := rv.one
  obtain ⟨z, its, n, r, hl, e⟩ := I.lstM hH
  refine call_meets F.slot_list_append ⟨_, e, rfl⟩ F.entry_list_append (F.args_list_append_2 _ _) (PySem.list_append l its.toArray n u (by rw [List.size_toArray]; omega)) ⟨e, ?_⟩
  refine ⟨.non, _, I.lset (its' := its ++ [u]) hH e (by simp) (r.append (.cons ru .nil)) ?_, rfl, q⟩
  rw [List.length_append, List.length_singleton]
  omega

def rExtend : V → List V → Hp → VK → Prop := fun x vs H Q => ∃ l b xs zs, x = .ref l ∧ vs = [.ref b] ∧ H l = some (.lst xs) ∧ H b = some (.lst zs) ∧ xs.length + zs.length ≤ sizeLine ∧ Q .non (upd H l (.lst (xs ++ zs)))
theorem mt_extend : MtM X "list.extend" rExtend := by
  intro pins s σ H x vs v us Q I rx rv h
  obtain ⟨l, b, xs, zs, rfl, rfl, hH, hB, hz, q⟩ := h
  cases rx
  obtain ⟨u, rfl, ru⟩ := rv.one
  cases ru
  obtain ⟨z, its, n, r, hl, e⟩ := I.lstM hH
  obtain ⟨z2, its2, n2, r2, hl2, e2⟩ := I.lstM hB
  have hsz : its.toArray.size + its2.toArray.size ≤ sizeLine := by rw [List.size_toArray, List.size_toArray]; omega
  have hlong : ¬ (!its.toArray.isEmpty && Builtin.List.listTooLong (its.toArray.size + its2.toArray.size)) = true := by
    rw [notLongL hsz, Bool.and_false]
    exact Bool.false_ne_true
  refine call_meets F.slot_list_extend ⟨_, e, rfl⟩ F.entry_list_extend (F.args_list_extend_2 _ _)
    (AutoSeq1.list_extend_list_list_0 l its.toArray n b its2.toArray n2 hlong (by rw [List.size_toArray]; omega) (by omega)) ⟨e, e2, ?_⟩
  refine ⟨.non, _, I.lset (its' := its ++ its2) hH e (by simp) (r.append r2) ?_, rfl, q⟩
  rw [List.length_append]
  omega

def rPop : V → List V → Hp → VK → Prop := fun x vs H Q => ∃ l xs y, x = .ref l ∧ vs = [] ∧ H l = some (.lst xs) ∧ xs[xs.length - 1]? = some y ∧ Q y (upd H l (.lst xs.dropLast))
theorem mt_pop : MtM X "list.pop" rPop := by
  intro pins s σ H x vs v us Q I rx rv h
  obtain ⟨l, xs, y, rfl, rfl, hH, hy, q⟩ := h
  cases rx
  have hus := rv.zero
  subst hus
  obtain ⟨z, its, n, r, hl, e⟩ := I.lstM hH
  obtain ⟨u, hu, ru⟩ := r.get hy
  have hy' : its.toArray[its.toArray.size - 1]? = some u := by
    show its.toArray[its.length - 1]? = some u
    rw [← Array.getElem?_toList, ← hl]
    exact hu
  refine call_meets F.slot_list_pop ⟨_, e, rfl⟩ F.entry_list_pop (F.args_list_pop_1 _) (MeetsSeq.list_pop_last l its.toArray n u hy' (by rw [List.size_toArray]; omega)) ⟨e, ?_⟩
  refine ⟨y, _, I.lset (its' := its.dropLast) hH e ?_ r.dropLast ?_, ru, q⟩
  · show its.toArray.eraseIdxIfInBounds (its.toArray.size - 1) = its.dropLast.toArray
    rw [List.size_toArray, List.eraseIdxIfInBounds_toArray, erase_last]
  · rw [List.length_dropLast]
    omega

def rClear : V → List V → Hp → VK → Prop := fun x vs H Q => ∃ l xs, x = .ref l ∧ vs = [] ∧ H l = some (.lst xs) ∧ Q .non (upd H l (.lst []))
theorem mt_clear : MtM X "list.clear" rClear := by
  intro pins s σ H x vs v us Q I rx rv h
  obtain ⟨l, xs, rfl, rfl, hH, q⟩ := h
  cases rx
  have hus := rv.zero
  subst hus
  obtain ⟨z, its, n, r, hl, e⟩ := I.lstM hH
  refine call_meets F.slot_list_clear ⟨_, e, rfl⟩ F.entry_list_clear (F.args_list_clear_1 _) (AutoSeq1.list_clear_list_0 l its.toArray n (by rw [List.size_toArray]; omega)) ⟨e, ?_⟩
  exact ⟨.non, _, I.lset (its' := []) (ys := []) hH e rfl .nil (Nat.zero_le _), rfl, q⟩

def rCat : R2 := fun x y H Q => ∃ l b xs zs, x = .ref l ∧ y = .ref b ∧ H l = some (.lst xs) ∧ H b = some (.lst zs) ∧ xs.length + zs.length ≤ sizeLine ∧ ∀ p, H p = none → Q (.ref p) (upd H p (.lst (xs ++ zs)))
theorem op_cat : OpR X (binaryOp .Add) rCat := by
  intro pins s σ H x y v u Q I rx ry h
  obtain ⟨l, b, xs, zs, rfl, rfl, hH, hB, hz, q⟩ := h
  cases rx
  cases ry
  obtain ⟨z, its, n, r, hl, e⟩ := I.lstM hH
  obtain ⟨z2, its2, n2, r2, hl2, e2⟩ := I.lstM hB
  refine PySem.P.add_list e e2 ?_ (by rw [List.size_toArray, List.size_toArray]; omega)
  have ea : its.toArray ++ its2.toArray = (its ++ its2).toArray := by simp
  rw [ea]
  exact ⟨.ref _, _, I.lnew (t' := s.toks) (r.append r2) (by rw [List.length_append]; omega), rfl, q _ I.fresh⟩
end

section
variable {prog : Program} {w : World} {A : Around} {E : Value → Shared → Prop} {s : Shared}
end

section
variable {X : Cx}
end
end L2

namespace Att
open PySem PySem.W PySem.Calls PyProof.Rows

theorem ints_of_wellAll {P : Params} {h : Heap} : ∀ (ns : List Int) (vs : List Value), WellAll P h vs (ns.map WData.int) → IntsAre vs ns := by
  intro ns
  induction ns with
  | nil =>
    intro vs w
    rw [List.map_nil] at w
    cases w
    exact .nil
  | cons n ns ih =>
    intro vs w
    rw [List.map_cons] at w
    cases w with
    | cons a b =>
      cases a
      exact .cons _ _ (ih _ b)

theorem script_of {l : OpenLaw} {n : Nat} (hn : l.most = some n) {P : Params} {h : Heap} {args : List WData} {vals : List Value}
    (hpre : l.row.toRowW.claim.pre args = true) (hwl : WellAll P h vals args) :
    ∃ a vs ns, vals = [Value.ref a] ∧ args = [WData.list (ns.map WData.int)] ∧ h.get? a = some { cls := .type "list", data := .seq vs.toArray } ∧ IntsAre vs ns ∧ ns.length ≤ n := by
  have hsh : WShape.hasAll [] args [.list .int] = true := (pre_splitW hpre).1
  have hc : l.pre.holds [] { args := args } = true := (pre_splitW hpre).2
  obtain ⟨d, r, rfl, h1, h2⟩ := hasAllW_cons hsh
  obtain rfl := hasAllW_nil h2
  obtain ⟨xs, rfl, h3⟩ := hasW_list h1
  obtain ⟨ns, rfl⟩ := items_int h3
  have hlen : ns.length ≤ n := by
    unfold OpenLaw.pre at hc
    have h4 : (WTm.not (.lt (.lit (.int (n : Int))) (.len (.arg 0)))).holds [] { args := [.list (ns.map .int)] } = true := by
      have h4 := (holds_andW hc).1
      rw [hn] at h4
      exact h4
    have h5 := condW_of h4 (w_not (w_lt w_lit (w_len_list (w_arg rfl))))
    rw [List.length_map] at h5
    refine Nat.le_of_not_lt fun q => ?_
    have q' : (n : Int) < ((ns.length : Nat) : Int) := by omega
    first
      | (rw [decide_eq_true q'] at h5; exact absurd h5 (by decide))
      | (simp at h5; omega)
  cases hwl with
  | cons w1 w2 =>
    cases w2
    cases w1 with
    | list ho hall => exact ⟨_, _, ns, rfl, rfl, ho, ints_of_wellAll ns _ hall, hlen⟩

theorem post_true (l : OpenLaw) (args : List WData) : l.row.toRowW.claim.post args (.bool true) args = true :=
  postW_of (r := l.row.toRowW) (X := (true == true))
    (show WShape.has [] (.bool true) .bool = true by first | rfl | decide | simp [WShape.has, WShape.arms, WShape.armsAll])
    (show (WTm.eq .res (.lit (.bool true))).value [] { args := args, res := some (.bool true), after := args } = some (.bool (true == true)) from w_eq_bool (w_res rfl) w_lit) rfl

theorem attach_call {l : OpenLaw} {n : Nat} {q : Program} {loose : List Str} {XP : (Str → Option Value) → Heap → Prop} {YP : World → Heap → Prop} {d : DefRec}
    (hn : l.most = some n) (hdf : d.params.defaults = [])
    (call : ∀ (w : World) (s₀ s₁ : Shared) (mg mb : Str → Option Value) (fa : Addr) (o : Obj) (pm cd doc : Value) (a : Addr) (vs : List Value) (ns : List Int),
      Ground q loose [] XP w s₀ mg mb s₁.heap → YP w s₁.heap →
      s₁.heap.get? fa = some o → o.data = .func (docDef d.name d.params d.body d.scope pm cd doc) → s₁.heap.CodeRec cd d.name → mg d.name = some (.ref fa) →
      s₁.heap.get? a = some { cls := .type "list", data := .seq vs.toArray } → IntsAre vs ns → ns.length ≤ n → s₁.gens = #[] →
      codeAny (model l.prog w) callerA (.call (.ref fa) ⟨[.ref a], []⟩) (fun r s' => r = .ok (.ret (.bool true)) ∧ OldK s₁.heap s'.heap ∧ s'.os = s₁.os ∧ AllBare s'.gens) s₁) :
    WalkO q loose XP YP l.row.toRowW d [] (fun f vs => PySem.call f vs) := by
  intro w s₀ s₁ mg mb G Y fa o pm cd doc dV kV ho hd hcd hD hmg hg args vals as hpre hlay hrd hwl hlo
  obtain rfl : dV = .none := Dflts.none hD hdf
  obtain rfl : kV = .none := Dflts.noKw hD
  obtain ⟨a, vs, ns, rfl, rfl, hobj, hints, hlen⟩ := script_of hn hpre hwl
  refine enter_call (codeAny_mono (call w s₀ s₁ mg mb fa o pm cd doc a vs ns G Y ho (fd_plain hd) hcd hmg hobj hints hlen hg) fun r s' hq => ?_)
  obtain ⟨rfl, h2, h3, h4⟩ := hq
  exact ⟨.inl ⟨.bool true, .bool true, [], rfl, fun _ => rfl, .bool true, post_true l _, fun _ => ⟨List.Pairwise.nil, fun _ hm => (nomatch hm)⟩⟩, h2, h3, h4⟩

section
variable {prog : Program} {w : World} {A : Around} {E : Value → Shared → Prop} {s : Shared} {K : Frag}

end
end Att

namespace L2
open PySem PySem.Spec PyProof.Rows

theorem vals_ints : ∀ {vs : List Value} {ns : List Int}, IntsAre vs ns → Vals (ns.map V.int) vs
  | _, _, .nil => .nil
  | _, _, .cons n t h => .cons ⟨t, rfl⟩ (vals_ints h)

def Only (H : Hp) : Prop := ∀ b, H b = none ∨ ∃ o xs, H b = some (.frz o (.lst xs))

theorem law_call {P : Program} {w : World} {K : PySem.W.Frag} {mg mb : Str → Option Value} {CX : CXT} {k : Nat} {fa a : Addr} {fd : FuncData} {x : Str} {sp : Sp} {s₁ : Shared} {vs : List Value} {ns : List Int}
    (KX : K.In s₁.heap) (hns : s₁.heap.Ns mainGlobals mg) (hb : s₁.heap.Ns builtinsNs mb) (hbb : ∀ x : Str, x ≠ "__name__" → mb x = bootBuiltins x) (hlim : s₁.heap.NoLimit) (hg : s₁.gens = #[])
    (ha : s₁.heap.get? a = some { cls := .type "list", data := .seq vs.toArray }) (hi : IntsAre vs ns) (hl : ns.length ≤ sizeLine) (hr : Room k callerA)
    (F : ∀ base : Heap, K.In base → base.Ns mainGlobals mg → FnOk P w K mg base CX k fa fd [x] sp) (hbind : ∀ (s : Shared) (u : Value), BindsTo s fd ⟨[u], []⟩ [(x, u)])
    (hsp : ∀ H : Hp, Only H → SqL K H a (ns.map V.int) → sp [.ref a] H (fun v _ => v = .bl true) fun _ _ _ => False)
    (hCX : ∀ H e s', CX [] H s₁ (fun _ _ _ => False) e s' → False) :
    codeAny (model P w) callerA (.call (.ref fa) ⟨[.ref a], []⟩) (fun r s' => r = .ok (.ret (.bool true)) ∧ OldK s₁.heap s'.heap ∧ s'.os = s₁.os ∧ AllBare s'.gens) s₁ := by
  have rv := vals_ints hi
  have lenV := hi.length
  -- from an abstract heap in which nothing but the script may be tracked
  have core : ∀ H : Hp, Only H → SqL K H a (ns.map V.int) → HOk P w H s₁.heap → (∀ b, H b ≠ none → b = a) → (H a ≠ none → K.lookup a = none) →
      codeAny (model P w) callerA (.call (.ref fa) ⟨[.ref a], []⟩) (fun r s' => r = .ok (.ret (.bool true)) ∧ OldK s₁.heap s'.heap ∧ s'.os = s₁.os ∧ AllBare s'.gens) s₁ := by
    intro H hO hS hok hA hK
    have base_of : ∀ {b : Addr} {o : Obj}, s₁.heap.get? b = some o → H b = none → (hidT s₁.heap H).get? b = some o := fun e n => hidT_get e n
    have noA : ∀ {b : Addr} {o : Obj} {es : Array DictEntry} {ep : Nat}, s₁.heap.get? b = some o → o.data = .dict es ep → H b = none := fun {b o es ep} e d => by
      cases q : H b with
      | none => rfl
      | some u =>
        have e' : b = a := hA b (by rw [q]; simp)
        subst e'
        rw [ha] at e; cases e
        have d' : Data.seq vs.toArray _ = Data.dict es ep := d
        cases d'
    have nsK : ∀ {b : Addr} {m : Str → Option Value}, s₁.heap.Ns b m → (hidT s₁.heap H).Ns b m := fun {b m} ⟨o, es, ep, e, d, r⟩ => ⟨o, es, ep, base_of e (noA e d), d, r⟩
    have hKb : K.In (hidT s₁.heap H) := fun b o e => base_of (KX b o e) (by
      cases q : H b with
      | none => rfl
      | some u =>
        have e' : b = a := hA b (by rw [q]; simp)
        subst e'
        rw [hK (by rw [q]; simp)] at e; cases e)
    have hM : Mod K mg (hidT s₁.heap H) := ⟨hKb, nsK hns, ⟨mb, nsK hb, hbb⟩, let ⟨mc, h1, h2⟩ := hlim; ⟨mc, nsK h1, h2⟩⟩
    have e0 : Env0 P w K mg (hidT s₁.heap H) callerA [] s₁ H := ⟨rfl, hM, fun b o e => of_hidT e, Nat.le_of_eq (hidT_size _ _), trivial, fun b hb => absurd (show b ∈ ([] : List Addr) from hb) (by simp), hok, .of_eq hg⟩
    refine codeAny_mono ((F _ hKb (nsK hns)).run callerA [] s₁ H ⟨[.ref a], []⟩ [.ref a] [.ref a] _ _ hr e0 (hbind s₁ (.ref a)) (.cons rfl .nil) (hsp H hO hS)) fun r s' h => ?_
    cases r with
    | error e => exact (hCX H e s' h).elim
    | ok fl =>
      cases fl with
      | next => exact False.elim h
      | brk => exact False.elim h
      | cont => exact False.elim h
      | ret u =>
        obtain ⟨v, H', os, bare, un, hok', r', q⟩ := h
        have q' : v = .bl true := q
        subst q'
        obtain rfl : u = Value.bool true := r'
        refine ⟨rfl, OldK.of_keep fun b o e => ?_, os, bare⟩
        cases q : H b with
        | none => exact un.keep b o e q (by intro z; exact absurd (show b ∈ ([] : List Addr) from z) (by simp)) (by simp)
        | some u =>
          rcases hO b with z | ⟨ob, xs, z⟩
          · rw [q] at z; cases z
          · have z2 := un.frzs b ob _ z
            obtain ⟨e1, _⟩ := hok b _ z
            obtain ⟨e2, _⟩ := hok' b _ z2
            rw [e] at e1; cases e1
            exact e2
  cases hk : K.lookup a with
  | some o =>
    -- the script is one of the module's own objects
    have e := KX a o hk
    rw [ha] at e
    cases e
    refine core (fun _ => none) (fun _ => .inl rfl) (.inr ⟨_, vs.toArray, _, hk, rfl, rfl, rfl, by rw [List.size_toArray, lenV]; exact hl, by simpa using rv⟩) (fun b u z => by have z' : (none : Option HO) = some u := z; cases z') (fun b z => absurd rfl z) fun z => absurd rfl z
  | none =>
    refine core (fun b => if b = a then some (.frz { cls := .type "list", data := .seq vs.toArray } (.lst (ns.map V.int))) else none) (fun b => ?_) (.inl (.inr ⟨{ cls := .type "list", data := .seq vs.toArray }, if_pos rfl⟩)) (fun b u z => ?_) (fun b z => ?_) fun _ => hk
    · by_cases hb : b = a
      · exact .inr ⟨_, _, if_pos hb⟩
      · exact .inl (if_neg hb)
    · by_cases hb : b = a
      · have z' := (if_pos hb).symm.trans z
        cases z'
        subst hb
        exact ⟨ha, by rw [List.length_map]; exact hl, vs, _, rv, ha⟩
      · have z' := (if_neg hb).symm.trans z
        cases z'
    · by_cases hb : b = a
      · exact hb
      · exact absurd (if_neg hb) z
end L2

namespace L2
open PySem PySem.Spec PyProof.Rows

theorem walk_of {l : PySem.W.OpenLaw} {n k : Nat} {q : Program} {loose : List Str} {XP : (Str → Option Value) → Heap → Prop} {YP : World → Heap → Prop} {d : DefRec} {K : Params → PySem.W.Frag} {CX : World → CXT} {sp : World → Sp} {x : Str}
    (hn : l.most = some n) (hn2 : n ≤ sizeLine) (hdf : d.params.defaults = []) (hr : Room k callerA)
    (hY : ∀ (w : World) (h : Heap), YP w h → (K w.params).In h)
    (F : ∀ (w : World) (mg : Str → Option Value) (fa : Addr) (h : Heap), (K w.params).In h → h.Ns mainGlobals mg → mg d.name = some (.ref fa) →
      ∃ fd : FuncData, (∀ (s : Shared) (u : Value), BindsTo s fd ⟨[u], []⟩ [(x, u)]) ∧
        ∀ base : Heap, (K w.params).In base → base.Ns mainGlobals mg → FnOk l.prog w (K w.params) mg base (CX w) k fa fd [x] (sp w))
    (hsp : ∀ (w : World) (H : Hp) (a : Addr) (ns : List Int), ns.length ≤ n → Only H → SqL (K w.params) H a (ns.map V.int) → sp w [.ref a] H (fun v _ => v = .bl true) fun _ _ _ => False)
    (hCX : ∀ (w : World) (H : Hp) (s : Shared) (e : Value) (s' : Shared), CX w [] H s (fun _ _ _ => False) e s' → False) :
    PySem.W.WalkO q loose XP YP l.row.toRowW d [] (fun f vs => PySem.call f vs) := by
  refine Att.attach_call hn hdf fun w s₀ s₁ mg mb fa o pm cd doc a vs ns G Y ho hd hcd hmg hobj hints hlen hg => ?_
  have KX := hY w _ Y
  obtain ⟨fd, hb, hF⟩ := F w mg fa _ KX G.T.g hmg
  exact law_call KX G.T.g G.T.b G.T.builtins G.T.nolimit hg hobj hints (Nat.le_trans hlen hn2) hr hF hb (fun H hO hS => hsp w H a ns hlen hO hS) fun H e s' => hCX w H s₁ e s'
end L2

/- THE LAST THEOREM (shape; LID, My.* are yours):
   My.Adr: a structure of the addresses that your layer names (classes, functions); My.Txt K t: a structure (Prop) of the equations over K;
   My.txt_mk : {K} {implicit addresses ..} (e1 : nsIn K mainGlobals "law" = some (some (.ref f))) (e2 : K.lookup f = some ⟨oc, od, .func (fnOf "law" "law" params body scope dV kV doc pm an cdv ct), sl⟩) (e3 : codeIn K cdv "law" = true) .. : ∃ t, My.Txt K t

set_option maxRecDepth 100000 in
set_option maxHeartbeats 0 in
theorem PySem.Challenge.cw_LID_holds : PySem.Challenge.rw_LID.Holds := by
  w_on; o_law; k_head; (case hw => w_witness2)
  k_fill
  refine L2.walk_of (l := PySem.Challenge.rw_LID) (n := 63) (k := 40) (x := "script") (CX := fun w => ..) (sp := fun _ => My.sp_law) rfl (by decide) rfl ⟨rfl, by decide, by decide⟩ (fun w h Y => PySem.W.kIn_of Y) ?F ?S ?C
  case F =>
    intro w mg fa h KX G hmg
    have T : ∃ t, My.Txt (L2.KOf KX) t := by
      dsimp only [L2.KOf]                          -- K must stand as «<heap const> w.params» for k_is
      refine' My.txt_mk ?e1 ?e2 ?e3 ..
      (case e1 => PySem.W.k_is)                    -- in the order: a name -> its address -> its object -> its parts
      (case e2 => PySem.W.k_is)
      ..
    obtain ⟨t, T⟩ := T
    have e0 := hmg.symm.trans (PySem.W.mg_of KX G T.law)
    cases e0                                       -- fa is the law's own address
    exact ⟨_, fun s u => .of_eq rfl, fun base kb nb => My.law_fn T kb nb⟩     -- if «.of_eq rfl» comes too early: refine' ⟨_, ?b, fun base kb nb => My.law_fn T kb nb⟩; exact fun s u => .of_eq rfl
  case S => exact fun w H a ns hl hO hS => ..
  case C => exact ..
(the tactic k_is has no namespace: write k_is) -/

namespace L2
open PySem PySem.Spec PyProof.Rows

def defArgs (s : Stmt) : Arguments := match s with
  | .FunctionDef _ a _ _ _ _ _ _ _ _ => a
  | _ => { posonlyargs := [], args := [], vararg := none, kwonlyargs := [], kw_defaults := [], kwarg := none, defaults := [] }
def defBody (s : Stmt) : List Stmt := match s with
  | .FunctionDef _ _ b _ _ _ _ _ _ _ => b
  | _ => []
def defScope (s : Stmt) : Scope := match s with
  | .FunctionDef _ _ _ _ _ _ sc _ _ _ => sc
  | _ => { kind := .function, names := [], isGenerator := false, isCoroutine := false }

abbrev CX0 : CXT := fun _ _ _ _ _ _ => False
abbrev E0 : XK := fun _ _ _ => False
theorem pass0 {X : Cx} : Passes CX0 X E0 := fun _ _ _ _ _ _ _ h => h.elim

structure Fun (K : PySem.W.Frag) (x qual : Str) (st : Stmt) (f : Addr) (fd : FuncData) : Prop where
  ex : ∃ (oc : Value) (od : Option Addr) (kV doc pm : Value) (an : Option Addr) (cdv ct : Value) (osl : Array (Option Value)),
    fd = PySem.W.fnOf x qual (defArgs st) (defBody st) (defScope st) .none kV doc pm an cdv ct ∧ K.lookup f = some ⟨oc, od, .func fd, osl⟩ ∧ PySem.W.codeIn K cdv qual = true
  kp : PySem.W.keepIn K (.ref f) = true
section
variable {P : Program} {w : World} {K : PySem.W.Frag} {mg : Str → Option Value} {base : Heap}
theorem Fun.ok {x qual : Str} {st : Stmt} {f : Addr} {fd : FuncData} {N ps : List Str} {k : Nat} {sp : Sp} (F : Fun K x qual st f fd) (S : FnScope N ps (defScope st)) (len : ∀ vs H Q E, sp vs H Q E → vs.length = ps.length)
    (hbody : ∀ (cdv : Value) (A : Around) (outer : List Env) (s : Shared) (H : Hp) (vs : List V) (Q : VK) (E : XK), Room k (A.deeper (envOfC qual (defScope st) s.heap.objs.size f cdv)) → sp vs H Q E →
      ∃ t, PSs (cxOf CX0 P w K mg base N qual (defScope st) f cdv A outer s H E).nox (defBody st) t ∧ t { nx := fun _ H' => Q .non H', rt := Q } (start N vs) H) : FnOk P w K mg base CX0 (k + 1) f fd ps sp := by
  obtain ⟨oc, od, kV, doc, pm, an, cdv, ct, osl, rfl, lk, hcd⟩ := F.ex
  refine fn_of lk hcd S len fun A outer s H vs Q E hr hsp => ?_
  obtain ⟨t, h, q⟩ := hbody cdv A outer s H vs Q E hr hsp
  exact ⟨t, h.nox, q⟩
theorem Fun.binds {x qual : Str} {st : Stmt} {f : Addr} {fd : FuncData} {ps : List Str} (F : Fun K x qual st f fd)
    (h : ∀ (kV doc pm : Value) (an : Option Addr) (cdv ct : Value) (us : List Value), us.length = ps.length → bindArgs (PySem.W.fnOf x qual (defArgs st) (defBody st) (defScope st) .none kV doc pm an cdv ct) ⟨us, []⟩ = pure (ps.zip us)) : Binds K fd ps [] := by
  obtain ⟨oc, od, kV, doc, pm, an, cdv, ct, osl, rfl, lk, hcd⟩ := F.ex
  exact .all (h kV doc pm an cdv ct)
theorem fun_mk {x qual : Str} {st : Stmt} {f : Addr} {oc : Value} {od an : Option Addr} {osl : Array (Option Value)} {kV doc pm cdv ct : Value} (l : K.lookup f = some ⟨oc, od, .func (PySem.W.fnOf x qual (defArgs st) (defBody st) (defScope st) .none kV doc pm an cdv ct), osl⟩)
    (c : PySem.W.codeIn K cdv qual = true) (k : PySem.W.keepIn K (.ref f) = true) : Fun K x qual st f (PySem.W.fnOf x qual (defArgs st) (defBody st) (defScope st) .none kV doc pm an cdv ct) := ⟨⟨oc, od, kV, doc, pm, an, cdv, ct, osl, rfl, l, c⟩, k⟩
end
theorem hu_of {A : Around} {k : Nat} (hr : Room k A) : A.units + 1 < cLine := Nat.lt_of_le_of_lt (Nat.add_le_add_left (by decide : 1 ≤ 64) _) hr.units
section
variable {X : Cx}
theorem pv (i : Nat) {x : Str} {pos : Pos} (hN : X.N[i]? = some x := by rfl) (hv : Vis X.env.scope x := by first | exact Or.inl rfl | exact Or.inr (Or.inl rfl) | exact Or.inr (Or.inr rfl)) (hd : (x == ("__debug__" : Str)) = false := by decide)
    (hcd : (x == ("__classdict__" : Str)) = false := by decide) : PE X (.Name x pos) (tVar i) := pe_var hN hv hd hcd
end

theorem iteF {A B : Prop} (h : B) : if false = true then A else B := by
  rw [if_neg Bool.false_ne_true]
  exact h
theorem iteT {A B : Prop} (h : A) : if true = true then A else B := by
  rw [if_pos rfl]
  exact h
theorem ite2 {c A B : Prop} [Decidable c] (h1 : c → A) (h2 : ¬ c → B) : if c then A else B := by
  by_cases h : c
  · rw [if_pos h]
    exact h1 h
  · rw [if_neg h]
    exact h2 h
def Same (H H' : Hp) : Prop := ∀ b o, H b = some o → H' b = some o
theorem Same.refl (H : Hp) : Same H H := fun _ _ h => h
theorem Same.trans {H H1 H2 : Hp} (a : Same H H1) (b : Same H1 H2) : Same H H2 := fun c o h => b c o (a c o h)
theorem Same.free {H H' : Hp} (e : Same H H') {l : Addr} (h : H' l = Option.none) : H l = Option.none := by
  cases q : H l with
  | none => rfl
  | some o =>
    rw [e l o q] at h
    cases h
theorem Same.seq {K : PySem.W.Frag} {H H' : Hp} {a : Addr} {xs : List V} (e : Same H H') (h : SqL K H a xs) : SqL K H' a xs := by
  rcases h with (h | ⟨o, h⟩) | h
  · exact .inl (.inl (e _ _ h))
  · exact .inl (.inr ⟨o, e _ _ h⟩)
  · exact .inr h

end L2

set_option Elab.async false
set_option linter.all false
set_option maxRecDepth 100000
set_option maxHeartbeats 4000000
namespace L2
open PySem PySem.Spec PyProof.Rows

def clOf (cells : List (Str × Addr)) : List (Str × NameKind) → List (Str × Addr) → List (Str × Addr)
  | [], cs => cs
  | x :: r, cs => clOf cells r (if x.2 = .free then ((cells.lookup x.1).map fun c => (x.1, c)).toList ++ cs else cs)

theorem closureFor_ok {scope : Scope} {env : Env} (h : ∀ x ∈ scope.names, x.2 = .free → ∃ c, env.cells.lookup x.1 = some c) :
    closureFor scope env = pure (clOf env.cells scope.names []) := by
  have key : ∀ (l : List (Str × NameKind)) (cs : List (Str × Addr)) (f : Str × NameKind → List (Str × Addr) → Sem (ForInStep (List (Str × Addr)))),
      (∀ x ∈ l, x.2 = .free → ∃ c, env.cells.lookup x.1 = some c) →
      (∀ x cs, f x cs = if (x.2 == NameKind.free) = true then (cellOf env x.1 >>= fun a => pure (ForInStep.yield ((x.1, a) :: cs))) else pure (ForInStep.yield cs)) →
      forIn l cs f = pure (clOf env.cells l cs) := by
    intro l
    induction l with
    | nil => intro cs f _ _; rfl
    | cons x r ih =>
      intro cs f hx hf
      rw [List.forIn_cons, hf]
      by_cases hk : x.2 = .free
      · obtain ⟨c, hc⟩ := hx x List.mem_cons_self hk
        rw [if_pos (by simp [hk])]
        have e : cellOf env x.1 = pure c := by unfold cellOf; rw [hc]
        rw [e]
        simp only [pure_bind]
        rw [ih _ f (fun y hy => hx y (List.mem_cons_of_mem _ hy)) hf]
        show _ = pure (clOf env.cells r (if x.2 = .free then ((env.cells.lookup x.1).map fun c => (x.1, c)).toList ++ cs else cs))
        rw [if_pos hk, hc]
        rfl
      · rw [if_neg (by simp [hk])]
        simp only [pure_bind]
        rw [ih _ f (fun y hy => hx y (List.mem_cons_of_mem _ hy)) hf]
        show _ = pure (clOf env.cells r (if x.2 = .free then ((env.cells.lookup x.1).map fun c => (x.1, c)).toList ++ cs else cs))
        rw [if_neg hk]
  simp only [closureFor]
  rw [key scope.names [] _ h (fun x cs => by obtain ⟨n, k⟩ := x; rfl)]
  first | rfl | simp only [pure_bind]

theorem clOf_in {cells : List (Str × Addr)} : ∀ (l : List (Str × NameKind)) (cs : List (Str × Addr)) {x : Str} {c : Addr}, (clOf cells l cs).lookup x = some c → cs.lookup x = some c ∨ cells.lookup x = some c
  | [], _, _, _, h => .inl h
  | y :: r, cs, x, c, h => by
    have h' : (clOf cells r (if y.2 = .free then ((cells.lookup y.1).map fun c => (y.1, c)).toList ++ cs else cs)).lookup x = some c := h
    rcases clOf_in r _ h' with q | q
    · by_cases hk : y.2 = .free
      · rw [if_pos hk] at q
        cases hl : cells.lookup y.1 with
        | none => rw [hl] at q; exact .inl q
        | some d =>
          rw [hl] at q
          have q' : (((y.1, d) :: cs).lookup x) = some c := q
          rw [List.lookup_cons] at q'
          cases hb : x == y.1 with
          | true =>
            rw [hb] at q'
            have e := eq_of_beq hb
            subst e
            right
            rw [hl]
            exact q'
          | false => rw [hb] at q'; exact .inl q'
      · rw [if_neg hk] at q
        exact .inl q
    · exact .inr q

theorem clOf_has {cells : List (Str × Addr)} : ∀ (l : List (Str × NameKind)) (cs : List (Str × Addr)) (x : Str), ((x, NameKind.free) ∈ l ∧ ∃ c, cells.lookup x = some c) ∨ (∃ c, cs.lookup x = some c) → ∃ c, (clOf cells l cs).lookup x = some c
  | [], cs, x, h => by
    rcases h with ⟨q, _⟩ | q
    · cases q
    · exact q
  | y :: r, cs, x, h => by
    show ∃ c, (clOf cells r (if y.2 = .free then ((cells.lookup y.1).map fun c => (y.1, c)).toList ++ cs else cs)).lookup x = some c
    apply clOf_has r
    rcases h with ⟨q, c, hc⟩ | ⟨c, hc⟩
    · rcases List.mem_cons.mp q with q | q
      · right
        subst q
        rw [if_pos rfl, hc]
        refine ⟨c, ?_⟩
        show ((x, c) :: cs).lookup x = some c
        rw [List.lookup_cons]
        simp
      · exact .inl ⟨q, c, hc⟩
    · right
      by_cases hk : y.2 = .free
      · rw [if_pos hk]
        cases hl : cells.lookup y.1 with
        | none => exact ⟨c, hc⟩
        | some d =>
          show ∃ c, ((y.1, d) :: cs).lookup x = some c
          rw [List.lookup_cons]
          cases hb : x == y.1 with
          | true => exact ⟨d, rfl⟩
          | false => exact ⟨c, hc⟩
      · rw [if_neg hk]; exact ⟨c, hc⟩

theorem relabel_of {env : Env} : ∀ {names : List (Str × NameKind)} {x : Str} {k' : NameKind},
    (names.map fun (n, k) => if (k == NameKind.free && env.scope.kind == .function && env.kindOf n == some .cell) then (n, NameKind.cell) else (n, k)).lookup x = some k' →
    ∃ k, (x, k) ∈ names ∧ (k = k' ∨ (k = .free ∧ k' = .cell))
  | [], _, _, h => by simp at h
  | (n, k) :: r, x, k', h => by
    have ih := @relabel_of env r x k'
    have h' : List.lookup x ((if (k == NameKind.free && env.scope.kind == .function && env.kindOf n == some .cell) = true then (n, NameKind.cell) else (n, k)) :: _) = some k' := h
    by_cases hc : (k == NameKind.free && env.scope.kind == .function && env.kindOf n == some .cell) = true
    · rw [if_pos hc, List.lookup_cons] at h'
      cases hb : x == n with
      | true =>
        rw [hb] at h'
        have e := eq_of_beq hb
        subst e
        cases h'
        refine ⟨k, List.mem_cons_self, .inr ⟨?_, rfl⟩⟩
        simp only [Bool.and_eq_true] at hc
        exact eq_of_beq hc.1.1
      | false =>
        rw [hb] at h'
        obtain ⟨k2, q, z⟩ := ih h'
        exact ⟨k2, List.mem_cons_of_mem _ q, z⟩
    · rw [if_neg hc, List.lookup_cons] at h'
      cases hb : x == n with
      | true =>
        rw [hb] at h'
        have e := eq_of_beq hb
        subst e
        cases h'
        exact ⟨k, List.mem_cons_self, .inl rfl⟩
      | false =>
        rw [hb] at h'
        obtain ⟨k2, q, z⟩ := ih h'
        exact ⟨k2, List.mem_cons_of_mem _ q, z⟩

theorem relabel_free {env : Env} : ∀ {names : List (Str × NameKind)} {x : Str}, names.lookup x = some .free →
    (names.map fun (n, k) => if (k == NameKind.free && env.scope.kind == .function && env.kindOf n == some .cell) then (n, NameKind.cell) else (n, k)).lookup x = some .cell ∨
    (names.map fun (n, k) => if (k == NameKind.free && env.scope.kind == .function && env.kindOf n == some .cell) then (n, NameKind.cell) else (n, k)).lookup x = some .free
  | [], _, h => by simp at h
  | (n, k) :: r, x, h => by
    have ih := @relabel_free env r x
    show List.lookup x ((if (k == NameKind.free && env.scope.kind == .function && env.kindOf n == some .cell) = true then (n, NameKind.cell) else (n, k)) :: _) = some .cell ∨
      List.lookup x ((if (k == NameKind.free && env.scope.kind == .function && env.kindOf n == some .cell) = true then (n, NameKind.cell) else (n, k)) :: _) = some .free
    rw [List.lookup_cons] at h
    by_cases hc : (k == NameKind.free && env.scope.kind == .function && env.kindOf n == some .cell) = true
    · rw [if_pos hc]
      simp only [List.lookup_cons]
      cases hb : x == n with
      | true => exact .inl rfl
      | false => rw [hb] at h; exact ih h
    · rw [if_neg hc]
      simp only [List.lookup_cons]
      cases hb : x == n with
      | true => rw [hb] at h; exact .inr h
      | false => rw [hb] at h; exact ih h

def Cx.comp (X : Cx) (N : List Str) (scope : Scope) (cl : List (Str × Addr)) (C : Addr) (fp : List Addr) (s : Shared) (H : Hp) : Cx :=
  { prog := X.prog, w := X.w, K := X.K, mg := X.mg, base := X.base, A := X.A, N := N, s₀ := s, H₀ := H, env := compEnvC scope cl C X.env, outer := X.stack, stack := X.stack, ex := fp, fn := fun _ => false,
    calm := X.calm, pn := [], xe := fun _ _ => False }

def inner (js : List (Option Nat)) (σ : St) : St := js.map fun o => match o with
  | none => none
  | some j => (σ[j]?).getD none

def jsOk (N : List Str) (scope : Scope) : List Str → List (Option Nat) → Bool
  | [], [] => true
  | x :: r, o :: q => (match o with | none => true | some j => N[j]? == some x && scope.names.lookup x == some .free) && jsOk N scope r q
  | _, _ => false

theorem jsOk_len {N : List Str} {scope : Scope} : ∀ {N' : List Str} {js : List (Option Nat)}, jsOk N scope N' js = true → js.length = N'.length
  | [], [], _ => rfl
  | _ :: r, _ :: q, h => by
    have h' := (Bool.and_eq_true_iff.mp h).2
    rw [List.length_cons, List.length_cons, jsOk_len h']
theorem jsOk_at {N : List Str} {scope : Scope} : ∀ {N' : List Str} {js : List (Option Nat)} {i : Nat} {x : Str} {j : Nat}, jsOk N scope N' js = true → N'[i]? = some x → js[i]? = some (some j) → N[j]? = some x ∧ scope.names.lookup x = some .free
  | [], [], _, _, _, _, h, _ => by simp at h
  | y :: r, o :: q, 0, x, j, h, h1, h2 => by
    have h' := (Bool.and_eq_true_iff.mp h).1
    simp at h1 h2
    subst h1 h2
    have h'' := Bool.and_eq_true_iff.mp h'
    exact ⟨eq_of_beq h''.1, eq_of_beq h''.2⟩
  | y :: r, o :: q, i + 1, x, j, h, h1, h2 => by
    have h' := (Bool.and_eq_true_iff.mp h).2
    exact jsOk_at (i := i) h' (by simpa using h1) (by simpa using h2)

theorem inner_at {js : List (Option Nat)} {σ : St} {i : Nat} {v : V} (h : (inner js σ)[i]? = some (some v)) : ∃ j, js[i]? = some (some j) ∧ σ[j]? = some (some v) := by
  unfold inner at h
  rw [List.getElem?_map] at h
  cases e : js[i]? with
  | none => rw [e] at h; cases h
  | some o =>
    rw [e] at h
    cases o with
    | none => cases h
    | some j =>
      refine ⟨j, rfl, ?_⟩
      have h' : (σ[j]?).getD none = some v := by simpa using h
      cases q : σ[j]? with
      | none => rw [q] at h'; cases h'
      | some z => rw [q] at h'; simp at h'; rw [h']

structure Fills (σ σ' : St) : Prop where
  len : σ.length = σ'.length
  at_ : ∀ (i : Nat) v, σ[i]? = some (some v) → σ'[i]? = some (some v)
theorem Fills.refl (σ : St) : Fills σ σ := ⟨rfl, fun _ _ h => h⟩
theorem Fills.set {σ σ' : St} (f : Fills σ σ') {i : Nat} (x : V) (h : σ[i]? = some none) : Fills σ (σ'.set i (some x)) := by
  refine ⟨by rw [List.length_set]; exact f.len, fun j v q => ?_⟩
  by_cases e : i = j
  · subst e; rw [h] at q; cases q
  · rw [List.getElem?_set_ne e]; exact f.at_ j v q

section
variable {X : Cx} {pins : List (Addr × Obj)} {σ : St} {H : Hp} {s : Shared}

theorem comp_inv {N' : List Str} {js : List (Option Nat)} {scope : Scope} {fp : List Addr} {m : Str → Option Value} {h1 : Heap} {tk : Nat} (I : Inv X pins σ H s)
    (hk : scope.kind = .function) (hcell : ∀ y ∈ scope.names, y.2 ≠ .cell) (hfree : ∀ y ∈ scope.names, y.2 = .free → X.env.kindOf y.1 = some .cell ∨ X.env.kindOf y.1 = some .free) (hjs : jsOk X.N scope N' js = true)
    (fpok : ∀ b ∈ fp, FpOk X pins H b) (fpl : ∀ b ∈ fp, b < s.heap.objs.size) (hns : h1.Ns s.heap.objs.size m) (hsb : ∀ b o, s.heap.get? b = some o → h1.get? b = some o) :
    Inv (X.comp N' scope (clOf X.env.cells scope.names []) s.heap.objs.size fp s H) [] (inner js σ) H { s with heap := h1, toks := tk } := by
  have incl : ∀ {x c}, (clOf X.env.cells scope.names []).lookup x = some c → X.env.cells.lookup x = some c := fun {x c} q => by
    rcases clOf_in _ _ q with z | z
    · simp at z
    · exact z
  have inn : ∀ {x : Str}, (x, NameKind.free) ∈ scope.names → ∃ c, (clOf X.env.cells scope.names []).lookup x = some c := fun {x} q => clOf_has _ _ _ (.inl ⟨q, I.ok.has x (hfree _ q rfl)⟩)
  have fnot : ∀ b ∈ fp, b ∉ frs X.stack := fun b hb z => (List.mem_cons.mp (I.stkSub b z)).elim (fpok b hb).2.1 (fpok b hb).2.2.1
  refine ⟨⟨I.ok.mod, ?_, I.ok.glob, I.ok.blt, Nat.le_refl _, ?_, ?_, ?_, I.ok.hd, I.ok.frames, .inl rfl, ?_, I.bs, Nat.le_trans I.ok.bsz I.sz, ?_, fnot, I.stack, I.stkFree⟩, rfl, I.bare, Un.kept hsb, ⟨m, hns, ?_⟩, ?_, I.fresh, ?_, ?_, I.hok.kept hsb, ?_⟩
  · exact hk
  · intro x y c e1 e2
    exact I.ok.inj x y c (incl e1) (incl e2)
  · intro x h
    have q : ∃ k, (x, k) ∈ scope.names ∧ k = .free := by
      rcases h with h | h
      · obtain ⟨k, q1, q2⟩ := relabel_of (env := X.env) h
        rcases q2 with rfl | ⟨q2, _⟩
        · exact absurd rfl (hcell _ q1)
        · exact ⟨k, q1, q2⟩
      · obtain ⟨k, q1, q2⟩ := relabel_of (env := X.env) h
        rcases q2 with rfl | ⟨_, q2⟩
        · exact ⟨_, q1, rfl⟩
        · cases q2
    obtain ⟨k, q1, rfl⟩ := q
    exact inn q1
  · intro x c h _
    cases h
  · intro b hb
    exact ⟨Nat.ne_of_lt (fpl b hb), fun x c e => (fpok b hb).2.2.2.2.1 x c (incl e)⟩
  · intro b o e hb
    rcases (fpok b hb).2.2.2.1 with z | z
    · exact I.ok.noex b o e z
    · exact absurd (Nat.lt_of_lt_of_le (Heap.lt_size e) (Nat.le_trans I.ok.bsz z)) (Nat.lt_irrefl _)
  · intro i x v e1 e2 _
    obtain ⟨j, q1, q2⟩ := inner_at e2
    obtain ⟨q3, q4⟩ := jsOk_at hjs e1 q1
    have q5 : (x, NameKind.free) ∈ scope.names := by
      have : ∀ {l : List (Str × NameKind)}, l.lookup x = some .free → (x, NameKind.free) ∈ l := by
        intro l
        induction l with
        | nil => intro z; simp at z
        | cons y r ih =>
          intro z
          obtain ⟨n, k⟩ := y
          rw [List.lookup_cons] at z
          cases hb : x == n with
          | true => rw [hb] at z; have e := eq_of_beq hb; subst e; cases z; exact List.mem_cons_self
          | false => rw [hb] at z; exact List.mem_cons_of_mem _ (ih z)
      exact this q4
    have kf := hfree _ q5 rfl
    obtain ⟨m0, hn0, hl0⟩ := id I.loc
    obtain ⟨u, r, lk⟩ := hl0 j x v q3 q2 (kf.elim (fun z => .inr (.inl z)) fun z => .inr (.inr z))
    refine ⟨u, r, ?_⟩
    rcases lk with ⟨z, _⟩ | ⟨_, c, hc, o, ho, hd⟩
    · rcases kf with k | k
      · rw [k] at z; cases z
      · rw [k] at z; cases z
    · obtain ⟨c', hc'⟩ := inn q5
      have e := incl hc'
      rw [hc] at e; cases e
      exact .inr ⟨relabel_free q4, c, hc', o, hsb _ _ ho, hd⟩
  · intro x c e
    obtain ⟨v, o, ho, hd⟩ := I.cell x c (incl e)
    exact ⟨v, o, hsb _ _ ho, hd⟩
  · intro x c e
    exact I.freeC x c (incl e)
  · intro p hp
    cases hp
  · show (inner js σ).length = N'.length
    unfold inner
    rw [List.length_map]
    exact jsOk_len hjs

def PF (X : Cx) (ifs : List Expr) (t : TT) : Prop :=
  ∀ (pins : List (Addr × Obj)) (s : Shared) (σ : St) (H : Hp) (Q : Bool → Hp → Prop), Inv X pins σ H s → t σ H Q →
    wpAny (model X.prog X.w) X.A (forIn ifs true fun c r => if r = true then do let ok ← isTrue c X.env (eval c X.env); pure (ForInStep.yield ok) else pure (ForInStep.yield r)) (TP X pins σ Q) X.xe s
def tTrue : TT := fun _ H Q => Q true H
theorem pf_nil : PF X [] tTrue := fun _ _ _ H _ I h => wpAny_tests_nil ⟨H, I, h⟩
theorem pf_one {c : Expr} {t : TT} (h : PT X c t) : PF X [c] t := fun pins s σ H Q I hw => wpAny_tests_one (h pins s σ H Q I hw)
end

section
variable {prog : Program} {w : World} {A : Around} {E : Value → Shared → Prop} {R : Result → Shared → Prop} {s : Shared}
theorem compLoop_go {elt target iter : Expr} {ifs : List Expr} {scope : Scope} {pos : Pos} {it acc : Value} {env : Env} (I : Nat → Shared → Prop)
    (turn : ∀ n s, I n s → wpAny (model prog w) A (pyNext it) (fun r s₁ => match r with
      | none => R (.ok .next) s₁
      | some v => wpAny (model prog w) A (letOwnedTupleGo target it v) (fun _ s₀ => wpAny (model prog w) A (assign target env v) (fun _ s₂ =>
          wpAny (model prog w) A (forIn ifs true fun c r => if r = true then do let ok ← isTrue c env (eval c env); pure (ForInStep.yield ok) else pure (ForInStep.yield r)) (fun ok s₃ =>
            if ok = true then wpAny (model prog w) A (eval elt env) (fun x s₄ =>
              wpAny (model prog w) A (call (.builtin "list.append") [acc, x]) (fun _ s₅ => ∃ m, m < n ∧ I m s₅) (fun _ _ => False) s₄) (fun _ _ => False) s₃
            else ∃ m, m < n ∧ I m s₃) (fun _ _ => False) s₂) (fun _ _ => False) s₀) (fun _ _ => False) s₁) (fun _ _ => False) s)
    (n : Nat) (h : I n s) :
    codeAny (model prog w) A (.compLoop (.ListComp elt [⟨target, iter, ifs, 0⟩] scope pos) 0 it acc env) R s := by
  refine codeAny_loop rfl I (fun n s hI => ?_) n h
  show wpAny _ A ((compTurn (.ListComp elt [⟨target, iter, ifs, 0⟩] scope pos) 0 it acc env).onRaise (fun x => do noteFrame x env; theTreesLotGoes x)) _ _ s
  refine wpAny_noted ?_
  rw [compTurn_list]
  refine wpAny_bind (wpAny_standAt (wpAny_bind (wpAny_mono (turn n s hI) (fun r s₁ h₁ => ?_) fun _ _ h' => h'.elim)))
  cases r with
  | none => exact wpAny_pure h₁
  | some v =>
    refine wpAny_bind (wpAny_mono h₁ (fun _ s₀ h₀ => ?_) fun _ _ h' => h'.elim)
    refine wpAny_bind (wpAny_mono h₀ (fun _ s₂ h₂ => wpAny_bind (wpAny_mono h₂ (fun ok s₃ h₃ => ?_) fun _ _ h' => h'.elim)) fun _ _ h' => h'.elim)
    cases ok with
    | false => exact wpAny_pure ⟨rfl, h₃⟩
    | true =>
      exact wpAny_bind (wpAny_bind (wpAny_mono h₃ (fun x s₄ h₄ => wpAny_bind (wpAny_mono h₄ (fun _ s₅ h₅ => wpAny_pure (wpAny_pure ⟨rfl, h₅⟩)) fun _ _ h' => h'.elim)) fun _ _ h' => h'.elim))
end

section
variable {X : Cx}
def tComp (js : List (Option Nat)) (wi : TI) (g : TG) (tc : TT) (te : TE) : TE := fun σ H Q => wi σ H fun J H1 => ∀ D, H1 D = none → ∃ W : Nat → Nat → List V → Hp → Prop, (∃ m, W 0 m [] (upd H1 D (.lst []))) ∧
  ∀ i m ys H, W i m ys H → (J.stop i H ∧ Q (.ref D) H) ∨ (J.go i H ∧ ∃ N : List V → Hp → Prop, (∀ ys' H', N ys' H' → ∃ m', m' < m ∧ W (i + 1) m' ys' H') ∧ ∀ x H', J.yld i H x H' → g x (inner js σ) H' fun σ2 H2 => Fills (inner js σ) σ2 ∧ tc σ2 H2 fun b H3 =>
    if b = true then te σ2 H3 fun y H4 => H4 D = some (.lst ys) ∧ ys.length < sizeLine ∧ N (ys ++ [y]) (upd H4 D (.lst (ys ++ [y]))) else N ys H3)

theorem comp_block {N' : List Str} {js : List (Option Nat)} {scope : Scope} {target iter elt : Expr} {ifs : List Expr} {pos : Pos} {g : TG} {tc : TT} {te : TE} {pins : List (Addr × Obj)} {σ : St} {H : Hp} {s : Shared} {Q : VK} {E : Value → Shared → Prop}
    {RR : Value → Addr → Result → Shared → Prop} {it : Addr} {fp : List Addr} {tn : Nat → Heap → Prop} {J : It} (I : Inv X pins σ H s) (T : Turn X.prog X.w X.K target J fp it tn) (st : tn 0 s.heap) (f : ∀ b ∈ fp, FpOk X pins H b) (hc : X.calm = true)
    (q : ∀ D, H D = none → ∃ W : Nat → Nat → List V → Hp → Prop, (∃ m, W 0 m [] (upd H D (.lst []))) ∧
      ∀ i m ys H, W i m ys H → (J.stop i H ∧ Q (.ref D) H) ∨ (J.go i H ∧ ∃ N : List V → Hp → Prop, (∀ ys' H', N ys' H' → ∃ m', m' < m ∧ W (i + 1) m' ys' H') ∧ ∀ x H', J.yld i H x H' → g x (inner js σ) H' fun σ2 H2 => Fills (inner js σ) σ2 ∧ tc σ2 H2 fun b H3 =>
    if b = true then te σ2 H3 fun y H4 => H4 D = some (.lst ys) ∧ ys.length < sizeLine ∧ N (ys ++ [y]) (upd H4 D (.lst (ys ++ [y]))) else N ys H3))
    (hg : ∀ cl C fp s H, PG (X.comp N' scope cl C fp s H) target g) (hf : ∀ cl C fp s H, PF (X.comp N' scope cl C fp s H) ifs tc) (he : ∀ cl C fp s H, PE (X.comp N' scope cl C fp s H) elt te)
    (hk : scope.kind = .function) (hcell : ∀ y ∈ scope.names, y.2 ≠ .cell) (hfree : ∀ y ∈ scope.names, y.2 = .free → X.env.kindOf y.1 = some .cell ∨ X.env.kindOf y.1 = some .free) (hjs : jsOk X.N scope N' js = true)
    (hRR : ∀ D C H' s', Inv X pins σ H' s' → Q (.ref D) H' → (∃ m, s'.heap.Ns C m) → H' C = none → C ≠ X.env.locals → X.s₀.heap.objs.size ≤ C → C ∉ X.fs → (∀ x c, X.env.cells.lookup x = some c → c ≠ C) → (∀ p ∈ X.pn ++ pins, p.1 ≠ C) →
      RR (.ref D) C (.ok .next) s') :
    wpAny (model X.prog X.w) X.A (newList []) (fun acc s₃ => wpAny (model X.prog X.w) X.A (newFunctionEnv scope X.env.globals (clOf X.env.cells scope.names []) [] X.env.qual none .none (some X.env)) (fun cenv s₄ =>
      codeAny (model X.prog X.w) X.A (.compStart (.ListComp elt [⟨target, iter, ifs, 0⟩] scope pos) 0 (.ref it) acc { cenv with scope := relabel scope X.env }) (RR acc cenv.locals) s₄) E s₃) E s := by
  refine wpAny_newObj_type (wpAny_newFunctionEnv hcell (by intro y hy; simp at hy) (fun h₁ hns₁ hsb₁ => ?_) hk)
  dsimp only at hns₁ hsb₁ ⊢
  have I3 : Inv X pins σ (upd H s.heap.objs.size (.lst [])) { s with heap := s.heap.push { cls := .type "list", dict := none, data := .seq ([] : List Value).toArray } } := I.lnew (its := []) (ys := []) (t' := s.toks) .nil (Nat.zero_le _)
  obtain ⟨W, ⟨m0, w0⟩, turn⟩ := q s.heap.objs.size I.fresh
  generalize hD : s.heap.objs.size = D at I3 turn w0 ⊢
  have hsz : (s.heap.push { cls := .type "list", dict := none, data := .seq ([] : List Value).toArray }).objs.size = D + 1 := by rw [Heap.size_push, hD]
  have fpl : ∀ b ∈ fp, b < D := fun b hb => by
    obtain ⟨o, e, _⟩ := T.obj _ _ st b hb
    rw [← hD]; exact Heap.lt_size e
  generalize hs3 : ({ s with heap := s.heap.push { cls := .type "list", dict := none, data := .seq ([] : List Value).toArray } } : Shared) = s3 at I3
  have eh : s.heap.push { cls := .type "list", dict := none, data := .seq ([] : List Value).toArray } = s3.heap := by rw [← hs3]
  rw [eh] at hns₁ hsb₁ hsz ⊢
  have f3 : ∀ b ∈ fp, FpOk X pins (upd H D (.lst [])) b := fun b hb => ⟨by rw [upd_ne (Nat.ne_of_lt (fpl b hb))]; exact (f b hb).1, (f b hb).2⟩
  have keep1 : ∀ b o, s3.heap.get? b = some o → h₁.get? b = some o := fun b o e => hsb₁.extBut b o (Nat.ne_of_lt (Heap.lt_size e)) (Heap.get?_push_of_some _ e)
  have I4 := comp_inv (N' := N') (js := js) (tk := s.toks + ([] : List (Str × Value)).length) I3 hk hcell hfree hjs f3 (fun b hb => by rw [hsz]; exact Nat.lt_succ_of_lt (fpl b hb)) hns₁ keep1
  have es : ({ s with heap := h₁, toks := s.toks + ([] : List (Str × Value)).length } : Shared) = { s3 with heap := h₁, toks := s.toks + ([] : List (Str × Value)).length } := by rw [← hs3]
  rw [show ({ s with heap := h₁, toks := s.toks + ([] : List (Str × Value)).length } : Shared) = { s3 with heap := h₁, toks := s.toks + ([] : List (Str × Value)).length } from es]
  have st4 : tn 0 h₁ := T.keep _ _ _ st fun b hb o e => keep1 b o (eh ▸ Heap.get?_push_of_some _ e)
  have hCne : s3.heap.objs.size ≠ X.env.locals := Nat.ne_of_gt I3.lt
  have loop : ∀ s4 : Shared, tn 0 s4.heap → Inv (X.comp N' scope (clOf X.env.cells scope.names []) s3.heap.objs.size fp s3 (upd H D (.lst []))) [] (inner js σ) (upd H D (.lst [])) s4 →
      codeAny (model X.prog X.w) X.A (.compLoop (.ListComp elt [⟨target, iter, ifs, 0⟩] scope pos) 0 (.ref it) (.ref D) (compEnvC scope (clOf X.env.cells scope.names []) s3.heap.objs.size X.env)) (RR (.ref D) s3.heap.objs.size) s4 := by
    intro s4 st4 I4
    generalize hX : X.comp N' scope (clOf X.env.cells scope.names []) s3.heap.objs.size fp s3 (upd H D (.lst [])) = X' at I4
    have xprog : X'.prog = X.prog := by rw [← hX]; rfl
    have stat : ∀ {H' : Hp}, (∀ b ∈ fp, H' b = none) → ∀ b ∈ fp, FpOk X' [] H' b := fun hn b hb => by
      rw [← hX]
      refine ⟨hn b hb, ?_, ?_, .inl hb, ?_, fun p hp => nomatch hp⟩
      · exact Nat.ne_of_lt (by show b < s3.heap.objs.size; rw [hsz]; exact Nat.lt_succ_of_lt (fpl b hb))
      · exact fun z => (List.mem_cons.mp (I3.stkSub b z)).elim (f3 b hb).2.1 (f3 b hb).2.2.1
      · intro x c e
        rcases clOf_in _ _ e with z | z
        · simp at z
        · exact (f3 b hb).2.2.2.2.1 x c z
    have hg' := hg (clOf X.env.cells scope.names []) s3.heap.objs.size fp s3 (upd H D (.lst []))
    have hf' := hf (clOf X.env.cells scope.names []) s3.heap.objs.size fp s3 (upd H D (.lst []))
    have he' := he (clOf X.env.cells scope.names []) s3.heap.objs.size fp s3 (upd H D (.lst []))
    rw [hX] at hg' hf' he'
    have xA : X'.A = X.A := by rw [← hX]; rfl
    have xw : X'.w = X.w := by rw [← hX]; rfl
    have xK : X'.K = X.K := by rw [← hX]; rfl
    have xc : X'.calm = true := by rw [← hX]; exact hc
    have xe : X'.env = compEnvC scope (clOf X.env.cells scope.names []) s3.heap.objs.size X.env := by rw [← hX]; rfl
    have xx : X'.xe = fun _ _ => False := by rw [← hX]; rfl
    have T' : Turn X'.prog X'.w X'.K target J fp it tn := by rw [xprog, xw, xK]; exact T
    rw [← xA, ← xw, ← xprog, ← xe]
    refine compLoop_go (fun n s' => ∃ i ys H', Inv X' [] (inner js σ) H' s' ∧ tn i s'.heap ∧ (∀ b ∈ fp, H' b = none) ∧ W i n ys H') ?_ m0 ⟨0, [], _, I4, st4, fun b hb => (f3 b hb).1, w0⟩
    rintro n s5 ⟨i, ys, H5, I5, st5, fr5, w5⟩
    rcases turn i n ys H5 w5 with ⟨stop, q⟩ | ⟨go, N, hN, step⟩
    · refine thn (T'.done X' rfl rfl rfl xc i [] s5 _ H5 _ I5 (stat fr5) st5 stop) fun r s6 ⟨hr, I6⟩ => ?_
      subst hr
      subst hX
      have I7 : Inv X pins σ H5 s6 := I3.call' (s' := s6) I6.os I6.base I6.hok I6.bare fun b hb => ⟨(f3 b hb).2.2.2.1, (f3 b hb).2.1, (f3 b hb).2.2.2.2.1, (f3 b hb).2.2.2.2.2⟩
      obtain ⟨m6, hn6, _⟩ := I6.loc
      refine hRR D s3.heap.objs.size H5 s6 I7 q ⟨m6, hn6⟩ I6.free hCne I3.sz (I3.nofs (Nat.le_refl _)) (fun x c e z => ?_) (fun p hp z => ?_)
      · obtain ⟨v, y⟩ := I3.cell x c e
        exact absurd (Nat.lt_of_lt_of_le y.lt (by rw [z]; exact Nat.le_refl _)) (Nat.lt_irrefl _)
      · exact absurd (Nat.lt_of_lt_of_le (Heap.lt_size (I3.pin p hp).1) (by rw [z]; exact Nat.le_refl _)) (Nat.lt_irrefl _)
    · refine thn (T'.item X' rfl rfl rfl xc i [] s5 _ H5 _ I5 (stat fr5) st5 go) fun r s6 ⟨u, hr, h6⟩ => ?_
      subst hr
      refine thn h6 fun _ s7 ⟨x, H7, I7, r7, y7, st7, fr7⟩ => ?_
      have I7' := I7.pinned (stat fr7) (T.obj _ _ st7)
      refine wpAny_mono (hg' _ s7 _ H7 x u _ I7' r7 (step x H7 y7)) (fun _ s8 ⟨σ8, H8, I8, fill8, q8⟩ => ?_) (fun _ _ z => by rw [xx] at z; exact z)
      refine wpAny_mono (hf' _ s8 σ8 H8 _ I8 q8) (fun b s9 ⟨H9, I9, q9⟩ => ?_) (fun _ _ z => by rw [xx] at z; exact z)
      have again : ∀ {H' : Hp} {s' : Shared} {ys' : List V}, Inv X' ([] ++ pinsAt fp s7.heap) σ8 H' s' → N ys' H' → ∃ m, m < n ∧ ∃ i ys H', Inv X' [] (inner js σ) H' s' ∧ tn i s'.heap ∧ (∀ b ∈ fp, H' b = none) ∧ W i m ys H' := fun {H' s' ys'} I' n' => by
        obtain ⟨m', hm, w'⟩ := hN ys' H' n'
        refine ⟨m', hm, i + 1, ys', H', I'.unpinned.weak fill8.len fill8.at_, T.keep _ _ _ st7 fun b hb o e => (I'.pin (b, o) (List.mem_append_right _ (List.mem_append_right _ (mem_pinsAt hb e)))).1, fun b hb => ?_, w'⟩
        obtain ⟨o, e, d⟩ := T.obj _ _ st7 b hb
        exact (I'.pin (b, o) (List.mem_append_right _ (List.mem_append_right _ (mem_pinsAt hb e)))).2.1
      cases b with
      | false => exact again I9 q9
      | true =>
        refine wpAny_mono (he' _ s9 σ8 H9 _ I9 q9) (fun yv s10 ⟨y, H10, I10, ry, hD10, hz, q10⟩ => ?_) (fun _ _ z => by rw [xx] at z; exact z)
        refine wpAny_mono (mt_append (X := X') _ s10 σ8 H10 (.ref D) [y] (.ref D) [yv] (fun _ H' => H' = upd H10 D (.lst (ys ++ [y]))) I10 rfl (.cons ry .nil) ⟨D, ys, y, rfl, rfl, hD10, hz, rfl⟩) (fun _ s11 ⟨_, H11, I11, _, e11⟩ => ?_) (fun _ _ z => by rw [xx] at z; exact z)
        subst e11
        exact again I11 q10
  have l4 := loop { s3 with heap := h₁, toks := s.toks + ([] : List (Str × Value)).length } st4 I4
  exact codeAny_compStart_list l4 (T.self _ 0 _ _ _ st4 l4)

theorem pe_comp {N' : List Str} {js : List (Option Nat)} {scope : Scope} {target iter elt : Expr} {ifs : List Expr} {pos : Pos} {wi : TI} {g : TG} {tc : TT} {te : TE} (hc : X.calm = true) (hi : PI X target iter wi)
    (hg : ∀ cl C fp s H, PG (X.comp N' scope cl C fp s H) target g) (hf : ∀ cl C fp s H, PF (X.comp N' scope cl C fp s H) ifs tc) (he : ∀ cl C fp s H, PE (X.comp N' scope cl C fp s H) elt te)
    (hk : scope.kind = .function := by rfl) (hcell : (scope.names.all fun y => y.2 != .cell) = true := by rfl) (hfree : (scope.names.all fun y => y.2 != .free || (X.env.kindOf y.1 == some .cell || X.env.kindOf y.1 == some .free)) = true := by rfl)
    (hnames : (scope.names.all fun y => y.2 != .local || scope.names.lookup y.1 == some .local) = true := by rfl) (hjs : jsOk X.N scope N' js = true := by rfl) (hs : ∀ x, foldedSetIterable iter X.env x = pure x := by intro _; rfl) :
    PE X (.ListComp elt [⟨target, iter, ifs, 0⟩] scope pos) (tComp js wi g tc te) := by
  have hcell' : ∀ y ∈ scope.names, y.2 ≠ .cell := fun y hy z => by have := List.all_eq_true.mp hcell y hy; simp [z] at this
  have hfree' : ∀ y ∈ scope.names, y.2 = .free → X.env.kindOf y.1 = some .cell ∨ X.env.kindOf y.1 = some .free := fun y hy z => by have := List.all_eq_true.mp hfree y hy; simpa [z] using this
  have hnames' : ∀ y ∈ scope.names, y.2 = .local → scope.names.lookup y.1 = some .local := fun y hy z => by have := List.all_eq_true.mp hnames y hy; simpa [z] using this
  intro pins s σ H Q I h
  rw [eval_ListComp]
  refine wpAny_comprehension_free (use := none) rfl hs (closureFor_ok fun x hx z => I.ok.has x.1 (hfree' x hx z)) hk hnames' ?_
  refine thn (hi pins s σ H _ I h) fun v s1 h1 => thn h1 fun itv s2 h2 => ?_
  obtain ⟨it, fp, tn, J, H2, e, I2, T, st2, f2, q2⟩ := h2
  subst e
  refine comp_block (RR := fun acc C => compPost (model X.prog X.w) X.A X.xe none (EP X pins σ Q) acc C) I2 T st2 f2 hc q2 hg hf he hk hcell' hfree' hjs ?_
  intro D C H' s' I' q ⟨m, hn⟩ c0 c1 c2 c3 c4 c5
  exact ⟨m, hn, fun h' hs' => ⟨.ref D, H', I'.turned (t' := s'.toks) (fun b o hb e => (hs'.2 b hb).trans e) c0 c1 (.inr c2) c4 c5, rfl, q⟩⟩

theorem ps_setComp {N' : List Str} {js : List (Option Nat)} {scope : Scope} {target iter elt : Expr} {ifs : List Expr} {pos pos' spos : Pos} {x : Str} {i : Nat} {wi : TI} {g : TG} {tc : TT} {te : TE} (hN : X.N.Nodup) (hi' : X.N[i]? = some x) (hx : Loc X.env.scope x) (hc : X.calm = true) (hi : PI X target iter wi)
    (hg : ∀ cl C fp s H, PG (X.comp N' scope cl C fp s H) target g) (hf : ∀ cl C fp s H, PF (X.comp N' scope cl C fp s H) ifs tc) (he : ∀ cl C fp s H, PE (X.comp N' scope cl C fp s H) elt te)
    (hsw : swapsWith (.ListComp elt [⟨target, iter, ifs, 0⟩] scope pos) (some (.Name x pos')) spos.line X.env = pure true := by rfl)
    (hk : scope.kind = .function := by rfl) (hcell : (scope.names.all fun y => y.2 != .cell) = true := by rfl) (hfree : (scope.names.all fun y => y.2 != .free || (X.env.kindOf y.1 == some .cell || X.env.kindOf y.1 == some .free)) = true := by rfl)
    (hnames : (scope.names.all fun y => y.2 != .local || scope.names.lookup y.1 == some .local) = true := by rfl) (hjs : jsOk X.N scope N' js = true := by rfl) (hs : ∀ x, foldedSetIterable iter X.env x = pure x := by intro _; rfl)
    (hfn : X.fn x = true ∨ X.env.scope.names.lookup x = some .local := by first | exact .inl rfl | exact .inr rfl | assumption) :
    PS X (.Assign [.Name x pos'] (.ListComp elt [⟨target, iter, ifs, 0⟩] scope pos) spos) (tAsg (tComp js wi g tc te) (gName i)) := by
  have hcell' : ∀ y ∈ scope.names, y.2 ≠ .cell := fun y hy z => by have := List.all_eq_true.mp hcell y hy; simp [z] at this
  have hfree' : ∀ y ∈ scope.names, y.2 = .free → X.env.kindOf y.1 = some .cell ∨ X.env.kindOf y.1 = some .free := fun y hy z => by have := List.all_eq_true.mp hfree y hy; simpa [z] using this
  have hnames' : ∀ y ∈ scope.names, y.2 = .local → scope.names.lookup y.1 = some .local := fun y hy z => by have := List.all_eq_true.mp hnames y hy; simpa [z] using this
  intro pins s σ H D I h
  rw [exec_Assign_Name_used _ _ _ _ hsw]
  refine wpAny_bind (wpAny_standAt (wpAny_bind ?_))
  show wpAny _ X.A (do let _ ← comprehension (.ListComp elt [⟨target, iter, ifs, 0⟩] scope pos) scope X.env _ (newList []) false (eval iter X.env) (some (assign (.Name x pos') X.env))) _ _ s
  refine wpAny_bind (wpAny_mono (wpAny_comprehension_free (use := some (assign (.Name x pos') X.env)) (Q := fun _ s' => SP X pins D .next s') rfl hs (closureFor_ok fun x hx z => I.ok.has x.1 (hfree' x hx z)) hk hnames' ?_) (fun _ s' hq => wpAny_pure (wpAny_pure hq)) fun _ _ e => e)
  refine thn (hi pins s σ H _ I h) fun v s1 h1 => thn h1 fun itv s2 h2 => ?_
  obtain ⟨it, fp, tn, J, H2, e, I2, T, st2, f2, q2⟩ := h2
  subst e
  refine comp_block (Q := fun x H1 => gName i x σ H1 D.nx) (RR := fun acc C => compPost (model X.prog X.w) X.A X.xe (some (assign (.Name x pos') X.env)) (fun _ s' => SP X pins D .next s') acc C) I2 T st2 f2 hc q2 hg hf he hk hcell' hfree' hjs ?_
  intro D' C H' s' I' q ⟨m, hn⟩ c0 c1 c2 c3 c4 c5
  obtain ⟨oC, es, ep, hoC, hdC, rC⟩ := id hn
  have I'' : Inv X (pins ++ [(C, oC)]) σ H' s' := I'.pins_of fun p hp => (List.mem_append.mp hp).elim (fun z => I'.pin p (List.mem_append_right _ z)) fun z => by
    have e := List.mem_singleton.mp z
    subst e
    exact ⟨hoC, c0, c1, c3, fun v z => by rw [hdC] at z; cases z⟩
  show wpAny _ X.A (assign (.Name x pos') X.env (.ref D')) _ _ _
  refine wpAny_assign_Name (store_ok I'' hN hi' hx (v := .ref D') rfl (fun s3 I3 => ?_) hfn)
  have hC3 := I3.pin (C, oC) (List.mem_append_right _ (List.mem_append_right _ (List.mem_singleton.mpr rfl)))
  refine ⟨m, ⟨oC, es, ep, hC3.1, hdC, rC⟩, fun h' hs' => ?_⟩
  exact ⟨_, H', I3.unpinned.turned (t' := s3.toks) (fun b o hb e => (hs'.2 b hb).trans e) c0 c1 (.inr c2) c4 c5, q⟩
end

theorem comp_by {J : It} {js : List (Option Nat)} {σ : St} {H1 : Hp} {R : Hp → Prop} {D : Addr} {g : TG} {tc : TT} {te : TE} (n : Nat) (Pv : Nat → List V → Hp → Prop) (h0 : Pv 0 [] (upd H1 D (.lst [])))
    (hs : ∀ i ys H, i < n → Pv i ys H → J.go i H ∧ ∀ x H', J.yld i H x H' → g x (inner js σ) H' fun σ2 H2 => Fills (inner js σ) σ2 ∧ tc σ2 H2 fun b H3 =>
      if b = true then te σ2 H3 fun y H4 => H4 D = some (.lst ys) ∧ ys.length < sizeLine ∧ Pv (i + 1) (ys ++ [y]) (upd H4 D (.lst (ys ++ [y]))) else Pv (i + 1) ys H3)
    (hd : ∀ ys H, Pv n ys H → J.stop n H ∧ R H) :
    ∃ W : Nat → Nat → List V → Hp → Prop, (∃ m, W 0 m [] (upd H1 D (.lst []))) ∧
      ∀ i m ys H, W i m ys H → (J.stop i H ∧ R H) ∨ (J.go i H ∧ ∃ N : List V → Hp → Prop, (∀ ys' H', N ys' H' → ∃ m', m' < m ∧ W (i + 1) m' ys' H') ∧ ∀ x H', J.yld i H x H' → g x (inner js σ) H' fun σ2 H2 => Fills (inner js σ) σ2 ∧ tc σ2 H2 fun b H3 =>
        if b = true then te σ2 H3 fun y H4 => H4 D = some (.lst ys) ∧ ys.length < sizeLine ∧ N (ys ++ [y]) (upd H4 D (.lst (ys ++ [y]))) else N ys H3) := by
  refine ⟨fun i m ys H => m = n - i ∧ i ≤ n ∧ Pv i ys H, ⟨n, by simp, Nat.zero_le _, h0⟩, ?_⟩
  rintro i m ys H ⟨rfl, hi, p⟩
  by_cases hlt : i < n
  · obtain ⟨go, step⟩ := hs i ys H hlt p
    exact .inr ⟨go, Pv (i + 1), fun ys' H' p' => ⟨n - (i + 1), by omega, rfl, hlt, p'⟩, step⟩
  · have e : i = n := by omega
    subst e
    exact .inl (hd ys H p)
theorem comp_map {J : It} {js : List (Option Nat)} {σ : St} {H1 : Hp} {R : Hp → Prop} {D : Addr} {g : TG} {te : TE} (n : Nat) (Pv : Nat → List V → Hp → Prop) (h0 : Pv 0 [] (upd H1 D (.lst [])))
    (hs : ∀ i ys H, i < n → Pv i ys H → J.go i H ∧ ∀ x H', J.yld i H x H' → g x (inner js σ) H' fun σ2 H2 => Fills (inner js σ) σ2 ∧ te σ2 H2 fun y H4 => H4 D = some (.lst ys) ∧ ys.length < sizeLine ∧ Pv (i + 1) (ys ++ [y]) (upd H4 D (.lst (ys ++ [y]))))
    (hd : ∀ ys H, Pv n ys H → J.stop n H ∧ R H) :
    ∃ W : Nat → Nat → List V → Hp → Prop, (∃ m, W 0 m [] (upd H1 D (.lst []))) ∧
      ∀ i m ys H, W i m ys H → (J.stop i H ∧ R H) ∨ (J.go i H ∧ ∃ N : List V → Hp → Prop, (∀ ys' H', N ys' H' → ∃ m', m' < m ∧ W (i + 1) m' ys' H') ∧ ∀ x H', J.yld i H x H' → g x (inner js σ) H' fun σ2 H2 => Fills (inner js σ) σ2 ∧ tTrue σ2 H2 fun b H3 =>
        if b = true then te σ2 H3 fun y H4 => H4 D = some (.lst ys) ∧ ys.length < sizeLine ∧ N (ys ++ [y]) (upd H4 D (.lst (ys ++ [y]))) else N ys H3) := by
  refine comp_by n Pv h0 ?_ hd
  simp only [tTrue, if_true]
  exact hs
end L2

set_option Elab.async false
set_option linter.all false
set_option maxRecDepth 100000
set_option maxHeartbeats 4000000
namespace L2
open PySem PySem.Spec PyProof.Rows

section
variable {X : Cx} {tg : Expr}
end

section
variable {X : Cx} {pins : List (Addr × Obj)} {σ : St} {H : Hp} {s : Shared} {h' : Heap}
theorem Inv.turnedNew {t' : Nat} {ch : List Addr} {T : Addr} {o : HO} (I : Inv X pins σ H s) (k : ∀ b u, b ∉ ch → s.heap.get? b = some u → h'.get? b = some u) (there : ∀ b u, s.heap.get? b = some u → ∃ u', h'.get? b = some u') (hT : s.heap.objs.size ≤ T)
    (hf : ∀ b ∈ ch, FpOk X pins H b) (new : ObjOk X.prog X.w (upd H T o) h' T o) : Inv X pins σ (upd H T o) { s with heap := h', toks := t' } := by
  have hn := I.hok.fresh hT
  have nit : ∀ b u, H b = some u → b ∉ ch := fun b u e z => by rw [(hf b z).1] at e; cases e
  refine I.step (g' := s.gens) (d' := s.drawn) (ch := ch) (fun b hb => ?_) (fun b o _ _ hc e _ => k b o hc e) (fun b o _ _ hc e _ => ⟨o.slots, k b o hc e⟩) (fun b u hc e n => ?_) (fun b u hc e => there b u e)
    (fun b xs e => ?_) (fun b ob u e => ?_) (fun b ps e => ⟨#[], ?_⟩) (fun m hm => ?_) (fun b u e => ?_) I.bare
  · exact ⟨(hf b hb).2.2.2.1, (hf b hb).2.1, (hf b hb).2.2.2.2.1, (hf b hb).2.2.2.2.2⟩
  · rw [upd_ne (Nat.ne_of_lt (Nat.lt_of_lt_of_le (Heap.lt_size e) hT))]; exact n
  · rw [upd_ne (ne_of_none e hn)]; exact e
  · rw [upd_ne (ne_of_none e hn)]; exact e
  · rw [upd_ne (ne_of_none e hn), e]; simp
  · obtain ⟨ob, es, ep, ho, r⟩ := hm
    exact ⟨ob, es, ep, k _ ob (fun z => (hf _ z).2.1 rfl) ho, r⟩
  · by_cases hb : b = T
    · subst hb; rw [upd_same] at e; cases e; exact new
    · rw [upd_ne hb] at e
      refine (I.hok b u e).stay (fun c v hc q => k c v ?_ q) (fun c q => by rw [upd_ne (ne_of_none q hn)]; exact q) fun c xs q => by rw [upd_ne (ne_of_none q hn)]; exact q
      rcases hc with z | z
      · rw [z]; exact nit b u e
      · exact nit c _ z
end

def Ite (K : PySem.W.Frag) (a : Addr) : It :=
  ⟨fun i H => ∃ xs x, SqL K H a xs ∧ xs[i]? = some x, fun i H v H' => ∃ T x, v = .ref T ∧ H T = none ∧ H' = upd H T (.tup [.int i, x]) ∧ ∀ xs, SqL K H a xs → xs[i]? = some x, fun i H => ∃ xs, SqL K H a xs ∧ xs.length ≤ i⟩
theorem turn_enum {P : Program} {w : World} {K : PySem.W.Frag} {elts : List Expr} {k : Nat} {pos : Pos} (a e it : Addr) (hei : e ≠ it) : Turn P w K (.Tuple elts k pos) (Ite K a) [e, it] e (fun i h => (∃ old, IsEnum h e it i old) ∧ h.IsListIter it a i) where
  mem := by simp
  obj := fun i h st b hb => by
    obtain ⟨⟨old, he⟩, o, ho, hc, hd⟩ := st
    rcases List.mem_cons.mp hb with rfl | hb
    · exact ⟨_, he, fun v z => by
        have z' : Data.fields _ = Data.cell v := z
        cases z'⟩
    · have e' := List.mem_singleton.mp hb
      subst e'
      exact ⟨o, ho, fun v z => by rw [hd] at z; cases z⟩
  keep := fun i h h' st k => by
    obtain ⟨⟨old, he⟩, hit⟩ := st
    exact ⟨⟨old, k e (by simp) _ he⟩, hit.at fun o x => k it (by simp) o x⟩
  item := by
    intro X hP hw hK hc i pins s σ H E I hf st hg
    subst hP hw hK
    obtain ⟨⟨old, he⟩, hit⟩ := st
    obtain ⟨xs, x, hq, hx⟩ := hg
    obtain ⟨its, rv, pl, hz⟩ := I.list hq
    obtain ⟨u, hu, ru⟩ := rv.get hx
    have hux : its.toArray[i]? = some u := by simpa using hu
    refine wpAny_pyNext_enum_item he hit pl.isList hux hei fun h' ho hit' hT hsz hk => ?_
    refine ⟨_, rfl, ?_⟩
    have kk : ∀ b v, b ∉ [e, it] → s.heap.get? b = some v → h'.get? b = some v := fun b v hb q => hk b v (fun z => hb (by simp [z])) (fun z => hb (by simp [z])) q
    have th : ∀ b v, s.heap.get? b = some v → ∃ v', h'.get? b = some v' := fun b v q => by
      by_cases h1 : b = e
      · subst h1; exact ⟨_, ho⟩
      · by_cases h2 : b = it
        · subst h2; obtain ⟨o, q1, _⟩ := hit'; exact ⟨_, q1⟩
        · exact ⟨v, hk b v h1 h2 q⟩
    have I1 : Inv X pins σ (upd H s.heap.objs.size (.tup [.int i, x])) { s with heap := h', toks := s.toks + 1 } :=
      I.turnedNew (ch := [e, it]) kk th (Nat.le_refl _) hf ⟨by show 2 ≤ sizeLine; decide, [.int i s.toks, u], .cons ⟨_, rfl⟩ (.cons ru .nil), ⟨_, hT, rfl, _, rfl⟩⟩
    refine wpAny_letOwnedTupleGo_enum ho fun h2 he2 hs2 => ?_
    have fe := hf e (by simp)
    have fi := hf it (by simp)
    have hTe : e ≠ s.heap.objs.size := Nat.ne_of_lt (Heap.lt_size he)
    have hTi : it ≠ s.heap.objs.size := by obtain ⟨o, q1, _⟩ := hit; exact Nat.ne_of_lt (Heap.lt_size q1)
    have I2 : Inv X pins σ (upd H s.heap.objs.size (.tup [.int i, x])) { s with heap := h2, toks := s.toks + 1 } :=
      Inv.turned (s := { s with heap := h', toks := s.toks + 1 }) (h' := h2) (t' := s.toks + 1) (it := e) I1 (fun b o hb q => (hs2.2 b hb).trans q) (by rw [upd_ne hTe]; exact fe.1) fe.2.1 fe.2.2.2.1 fe.2.2.2.2.1 fe.2.2.2.2.2
    refine ⟨.ref s.heap.objs.size, _, I2, rfl, ⟨s.heap.objs.size, x, rfl, I.fresh, rfl, fun ys hys => by rw [I.list_inj hys hq]; exact hx⟩, ⟨⟨_, by simpa using he2⟩, hit'.at fun o q => (hs2.2 it hei.symm).trans q⟩, fun b hb => ?_⟩
    rcases List.mem_cons.mp hb with rfl | hb
    · rw [upd_ne hTe]; exact fe.1
    · have e' := List.mem_singleton.mp hb
      subst e'
      rw [upd_ne hTi]; exact fi.1
  done := by
    intro X hP hw hK hc i pins s σ H E I hf st hg
    subst hP hw hK
    obtain ⟨⟨old, he⟩, hit⟩ := st
    obtain ⟨xs, hq, hl⟩ := hg
    obtain ⟨its, rv, pl, hz⟩ := I.list hq
    have hlen := rv.length
    obtain ⟨f0, f1, f2, f3, f4, f5⟩ := hf it (by simp)
    refine wpAny_pyNext_enum_end (I.ok.hd hc) he hit pl.isList (by simp; omega) fun h' eb => ⟨rfl, ?_⟩
    exact I.turned (t' := s.toks) (fun b o hb q => eb b o hb q) f0 f1 f3 f4 f5
  self := fun _ _ _ _ _ st h => by
    obtain ⟨⟨old, he⟩, _⟩ := st
    exact wpAny_pyIter_enum he h

section
variable {X : Cx}
def iEnum (K : PySem.W.Frag) (ta : TA) : TI := fun σ H R => ta σ H fun vs H1 => ∃ a, vs = [.ref a] ∧ (∃ xs, SqL K H1 a xs) ∧ R (Ite K a) H1
theorem pi_enum {a : Expr} {ta : TA} {p pos : Pos} {elts : List Expr} {k : Nat} {tpos : Pos} (hg : Gl X "enumerate") (hm : X.mg "enumerate" = none) (ha : PA X [a] ta) (hs : starEach [a] X.env = [(false, eval a X.env)] := by rfl) :
    PI X (.Tuple elts k tpos) (.Call (.Name "enumerate" p) [a] [] pos) (iEnum X.K ta) := by
  intro pins s σ H R I h
  refine Call_ (ld_blt I hg hm (show bootBuiltins "enumerate" = some (.type "enumerate") by decide +kernel) (PyProof.Rows.callWith_type1 (thn (ha pos pins s σ H _ I h) fun us s1 ⟨vs, H1, I1, r1, q1⟩ => ?_) hs rfl))
  obtain ⟨l, e, ⟨xs, hq⟩, q⟩ := q1
  subst e
  cases r1 with
  | cons r rr =>
    cases rr
    cases r
    obtain ⟨its, rv, pl, hz⟩ := I1.list hq
    refine call_enumerate_list pl.isList fun h' he hit hsz hk => ?_
    refine wpAny_pyIter_enum he ?_
    have I2 : Inv X pins σ H1 { s1 with heap := h' } := I1.kept (t' := s1.toks) hk
    refine ⟨s1.heap.objs.size + 1, [s1.heap.objs.size + 1, s1.heap.objs.size], _, _, H1, rfl, I2, turn_enum l _ _ (Nat.succ_ne_self _), ⟨⟨_, by simpa using he⟩, hit⟩, fun b hb => ?_, q⟩
    rcases List.mem_cons.mp hb with rfl | hb
    · exact I1.fpOk (Nat.le_succ _) (I1.hok.fresh (Nat.le_succ _))
    · have e' := List.mem_singleton.mp hb
      subst e'
      exact I1.fpOk (Nat.le_refl _) (I1.hok.fresh (Nat.le_refl _))
end

mutual
inductive Bd (K : PySem.W.Frag) (H : Hp) : V → PyData → Prop
  | int (i : Int) : Bd K H (.int i) (.int i)
  | non : Bd K H .non .none
  | bl (b : Bool) : Bd K H (.bl b) (.bool b)
  | lst {a : Addr} {xs : List V} {ds : List PyData} : SqL K H a xs → Bds K H xs ds → Bd K H (.ref a) (.list ds)
  | tup {a : Addr} {xs : List V} {ds : List PyData} : SqT K H a xs → Bds K H xs ds → Bd K H (.ref a) (.tuple ds)
inductive Bds (K : PySem.W.Frag) (H : Hp) : List V → List PyData → Prop
  | nil : Bds K H [] []
  | cons {x : V} {xs : List V} {d : PyData} {ds : List PyData} : Bd K H x d → Bds K H xs ds → Bds K H (x :: xs) (d :: ds)
end
theorem Bds.ints {K : PySem.W.Frag} {H : Hp} : ∀ ns : List Int, Bds K H (ns.map V.int) (ns.map PyData.int)
  | [] => .nil
  | n :: ns => .cons (.int n) (Bds.ints ns)
section
variable {X : Cx} {pins : List (Addr × Obj)} {σ : St} {H : Hp} {s : Shared}
mutual
theorem Bd.reads (I : Inv X pins σ H s) : ∀ {x : V} {d : PyData} {u : Value}, Bd X.K H x d → RelV x u → ∃ as, Reads s.heap u d as
  | _, _, u, .int i, r => by obtain ⟨t, rfl⟩ := r; exact ⟨_, .int i t⟩
  | _, _, u, .non, r => by cases r; exact ⟨_, .none⟩
  | _, _, u, .bl b, r => by cases r; exact ⟨_, .bool b⟩
  | _, _, u, .lst hq b, r => by
    cases r
    obtain ⟨its, rv, ⟨o, n, e, hc, _, hd⟩, hz⟩ := I.list hq
    obtain ⟨as, h⟩ := Bds.reads I b rv
    exact ⟨_, .list e hc hd (by simpa using h)⟩
  | _, _, u, .tup hq b, r => by
    cases r
    obtain ⟨its, rv, ⟨o, e, hc, n, hd⟩, hz⟩ := I.tuple hq
    obtain ⟨as, h⟩ := Bds.reads I b rv
    exact ⟨_, .tuple e hc hd (by simpa using h)⟩
theorem Bds.reads (I : Inv X pins σ H s) : ∀ {xs : List V} {ds : List PyData} {us : List Value}, Bds X.K H xs ds → Vals xs us → ∃ as, ReadsAll s.heap us ds as
  | _, _, _, .nil, r => by cases r; exact ⟨_, .nil⟩
  | _, _, _, .cons b bs, r => by
    cases r with
    | cons r rr =>
      obtain ⟨as, h⟩ := Bd.reads I b r
      obtain ⟨bs', h'⟩ := Bds.reads I bs rr
      exact ⟨_, .cons h h'⟩
end
end
section
variable {X : Cx}
def rEqD (K : PySem.W.Frag) (neg : Bool) : R2 := fun x y H Q => ∃ dx dy, Bd K H x dx ∧ Bd K H y dy ∧ SeqAt.shaped dx = true ∧ SeqAt.shaped dy = true ∧ Q (.bl (PyData.eqv dx dy ^^ neg)) H
theorem op_eqD (hu : X.A.units + 64 < cLine) : OpR X (compareOp .Eq) (rEqD X.K false) := by
  intro pins s σ H x y v u Q I rx ry h
  obtain ⟨dx, dy, bx, b_y, sx, sy, q⟩ := h
  obtain ⟨as, r1⟩ := bx.reads I rx
  obtain ⟨bs, r2⟩ := b_y.reads I ry
  exact eq_dataH r1 r2 sx sy hu ⟨.bl _, H, I, rfl, by simpa using q⟩
theorem op_neD (hu : X.A.units + 64 < cLine) : OpR X (compareOp .NotEq) (rEqD X.K true) := by
  intro pins s σ H x y v u Q I rx ry h
  obtain ⟨dx, dy, bx, b_y, sx, sy, q⟩ := h
  obtain ⟨as, r1⟩ := bx.reads I rx
  obtain ⟨bs, r2⟩ := b_y.reads I ry
  exact ne_dataH r1 r2 sx sy hu ⟨.bl _, H, I, rfl, by simpa using q⟩
end

section
variable {X : Cx}
def kindV (H : Hp) : V → String → Prop
  | .non, T => T = "NoneType"
  | .bl _, T => T = "bool"
  | .int _, T => T = "int"
  | .ref a, T => (T = "list" ∧ ∃ xs, H a = some (.lst xs)) ∨ (T = "tuple" ∧ ∃ xs, H a = some (.tup xs))
  | _, _ => False
theorem kindV.ty {K : PySem.W.Frag} {H : Hp} {x : V} {T : String} (h : kindV H x T) : TyOf K H x (.type T) := by
  cases x with
  | non => cases (show T = "NoneType" from h); exact .non
  | bl b => cases (show T = "bool" from h); exact .bl b
  | int i => cases (show T = "int" from h); exact .int i
  | ref a =>
    rcases h with ⟨rfl, xs, e⟩ | ⟨rfl, xs, e⟩
    · exact .lst e
    · exact .tup e
  | _ => exact False.elim h
def isT (T c : String) : Bool := T == c || (T == "bool" && c == "int")
theorem kind_in {H : Hp} {x : V} {T : String} (h : kindV H x T) : T = "NoneType" ∨ T = "bool" ∨ T = "int" ∨ T = "list" ∨ T = "tuple" := by
  cases x with
  | non => exact .inl h
  | bl b => exact .inr (.inl h)
  | int i => exact .inr (.inr (.inl h))
  | ref a =>
    rcases h with ⟨rfl, xs, e⟩ | ⟨rfl, xs, e⟩
    · exact .inr (.inr (.inr (.inl rfl)))
    · exact .inr (.inr (.inr (.inr rfl)))
  | _ => exact False.elim h
theorem kit_T {K : PySem.W.Frag} {T n : String} (hT : T = "NoneType" ∨ T = "bool" ∨ T = "int" ∨ T = "list" ∨ T = "tuple") (hn : n = "list" ∨ n = "tuple" ∨ n = "int" ∨ n = "bool") : PySem.W.kitOne K (.type T) (.type n) = some (isT T n) := by
  rcases hT with rfl | rfl | rfl | rfl | rfl <;> rcases hn with rfl | rfl | rfl | rfl <;> first | rfl | decide
def rIsi (H0 : Unit) : List V → Hp → VK → Prop := fun xs H Q => ∃ x T n, xs = [x, .ty n] ∧ kindV H x T ∧ (n = "list" ∨ n = "tuple" ∨ n = "int" ∨ n = "bool") ∧ Q (.bl (isT T n)) H
theorem call_isi : CallR X (.builtin "isinstance") (rIsi ()) := by
  intro pins s σ H xs us Q I r h
  obtain ⟨x, T, n, rfl, k, hn, q⟩ := h
  obtain ⟨u, v, rfl, ru, rv⟩ := vals2 r
  cases (show v = Value.type n from rv)
  exact isinst_ok I ru k.ty (kit_T (kind_in k) hn) fun tk => ⟨.bl _, H, I.tok tk, rfl, q⟩
end
end L2
namespace L2
open PySem PySem.Spec PyProof.Rows
theorem iteFb {c : Bool} {A B : Prop} (hc : c = false) (h : B) : if c = true then A else B := by subst hc; exact iteF h
theorem iteTb {c : Bool} {A B : Prop} (hc : c = true) (h : A) : if c = true then A else B := by subst hc; exact iteT h
theorem same_new {H : Hp} {p : Addr} (h : H p = none) (o : HO) : Same H (upd H p o) := fun b u q => by rw [upd_ne (ne_of_none q h)]; exact q
def SameBut1 (r : Addr) (H H' : Hp) : Prop := ∀ b o, b ≠ r → H b = some o → H' b = some o
end L2
namespace L2
open PySem PySem.Spec PyProof.Rows
end L2
namespace L2
open PySem PySem.Spec PyProof.Rows
section
variable {X : Cx} {K : PySem.W.Frag}
theorem kix_list (h : X.K = K) : IxR X (rIxL K) := by subst h; exact ix_list
theorem kix_tup (h : X.K = K) : IxR X (rIxT K) := by subst h; exact ix_tup
theorem kcall_list (h : X.K = K) : CallR X (.type "list") (fun xs H Q => ∃ p ys, xs = [.ref p] ∧ (SqL K H p ys ∨ SqT K H p ys) ∧ ∀ l, H l = none → Q (.ref l) (upd H l (.lst ys))) := by subst h; exact call_list_of
theorem kpg_tup {es : List Expr} {k : Nat} {t : TGs} {n : Nat} {pos : Pos} (e : X.K = K) (hc : X.calm = true) (h : PGs X es t)
    (hn : (assignEach es X.env).length = n := by rfl) (hst : (assignEach es X.env).findIdx? (·.1) = none := by rfl) : PG X (.Tuple es k pos) (gTup K n t) := by subst e; exact pg_tup hc h hn hst
end
end L2

namespace MM
def oth (e : Nat) : Nat := if e % 2 = 0 then e + 1 else e - 1
theorem oth_lt {n e : Nat} (h : e < 2 * n) : oth e < 2 * n := by unfold oth; split <;> omega
theorem nodup_bound : ∀ (N : Nat) (l : List Nat), l.Nodup → (∀ x ∈ l, x < N) → l.length ≤ N
  | 0, [], _, _ => Nat.le_refl _
  | 0, x :: _, _, h => absurd (h x List.mem_cons_self) (Nat.not_lt_zero _)
  | N + 1, l, nd, h => by
    have ih := nodup_bound N (l.erase N) (nd.erase N) (fun x hx => by
      have h1 := (nd.mem_erase_iff).mp hx
      have h2 := h x h1.2
      omega)
    have hl := List.length_erase (a := N) (l := l)
    split at hl <;> omega

end MM
namespace MM
abbrev Ties := List (Nat × Nat)
abbrev Ords := List (List Nat)
def place (ts : Ties) (e : Nat) : Nat := if e % 2 = 0 then (ts.getD (e / 2) (0, 0)).1 else (ts.getD (e / 2) (0, 0)).2
def row (os : Ords) (p : Nat) : List Nat := os.getD p []
def prevIn (l : List Nat) (x : Nat) : Nat := l.getD ((l.idxOf x + l.length - 1) % l.length) 0
theorem prevIn_mem {l : List Nat} {x : Nat} (h : x ∈ l) : prevIn l x ∈ l := by
  have h1 := List.idxOf_lt_length_of_mem h
  have h2 : (l.idxOf x + l.length - 1) % l.length < l.length := Nat.mod_lt _ (by omega)
  unfold prevIn
  simp only [List.getD, List.getElem?_eq_getElem h2, Option.getD_some]
  exact List.getElem_mem h2
def behind (ts : Ties) (os : Ords) (e : Nat) : Nat := prevIn (row os (place ts (oth e))) (oth e)
end MM
namespace MM
end MM

set_option Elab.async false
set_option linter.all false
set_option maxRecDepth 100000
set_option maxHeartbeats 4000000
namespace L2
open PySem PySem.Spec PyProof.Rows
abbrev vn (n : Nat) : V := .int (n : Int)
abbrev vns (l : List Nat) : List V := l.map vn
theorem vns_ints (l : List Nat) : vns l = (l.map fun n : Nat => (n : Int)).map V.int := by rw [List.map_map]; rfl
section
variable {X : Cx}
def rIndex : V → List V → Hp → VK → Prop := fun x vs H Q => ∃ (l : Addr) (ns : List Nat) (v : Nat), x = .ref l ∧ vs = [vn v] ∧ H l = some (.lst (vns ns)) ∧ v ∈ ns ∧ Q (vn (ns.idxOf v)) H
theorem mt_index : MtM X "list.index" rIndex := by
  intro pins s σ H x vs v us Q I rx rv h
  obtain ⟨l, ns, k, rfl, rfl, hH, hm, q⟩ := h
  cases rx
  obtain ⟨u, rfl, t, rfl⟩ := rv.one
  obtain ⟨z, its, n, r, hl, e⟩ := I.lstM hH
  have hlen : its.length = ns.length := by rw [← hl]; simp
  have hj : ns.idxOf k < ns.length := List.idxOf_lt_length_of_mem hm
  have item : ∀ (m : Nat) (hm : m < its.toArray.size), eqU (vn k) its.toArray[m] = (ns[m]'(by simpa [hlen] using hm) == k) := fun m hm' => by
    have hm2 : m < ns.length := by simpa [hlen] using hm'
    have hx : (vns ns)[m]? = some (vn ns[m]) := by rw [List.getElem?_map, List.getElem?_eq_getElem hm2]; rfl
    obtain ⟨u', hu', ru'⟩ := r.get hx
    have e1 : its.toArray[m] = u' := by
      have : its[m]? = some its.toArray[m] := by simp at hm' ⊢
      rw [this] at hu'; exact Option.some.inj hu'
    rw [e1, eqU_of ru' rfl]
    show ((ns[m] : Int) == (k : Int)) = (ns[m] == k)
    rw [Bool.eq_iff_iff]
    simp only [beq_iff_eq]
    omega
  have hsm : ((ns.idxOf k : Nat) : Int) < 2 ^ 63 - 1 := by
    have h1 := line63
    have h2 : (vns ns).length = ns.length := by simp
    omega
  refine call_meets F.slot_list_index ⟨_, e, rfl⟩ F.entry_list_index (F.args_list_index_2 _ _) (SeqAt.list_indexAt l its.toArray n none #[] (.int k t) (eqU (vn k)) (ns.idxOf k) (by simpa [hlen] using hj) hsm ?_ ?_) ⟨e, fun y hy => ?_, ?_⟩
  · rw [item]
    simp
  · intro m hm' hlt
    rw [item]
    have := List.not_of_lt_findIdx (p := (· == k)) (xs := ns) (i := m) hlt
    simpa using this
  · have fl : (vns ns).all flatV = true := by rw [List.all_eq_true]; intro y hy; obtain ⟨n, _, rfl⟩ := List.mem_map.mp hy; rfl
    exact mem_eqAt (x := vn k) ⟨t, rfl⟩ rfl r fl y (by simpa using hy)
  · exact ⟨vn (ns.idxOf k), H, I.tok _, ⟨_, rfl⟩, q⟩
def insAt {α : Type} (l : List α) (i : Nat) (x : α) : List α := l.take i ++ x :: l.drop i
def rInsert : V → List V → Hp → VK → Prop := fun x vs H Q => ∃ (l : Addr) (xs : List V) (i : Nat) (y : V), x = .ref l ∧ vs = [vn i, y] ∧ H l = some (.lst xs) ∧ i ≤ xs.length ∧ xs.length < sizeLine ∧ Q .non (upd H l (.lst (insAt xs i y)))
theorem mt_insert : MtM X "list.insert" rInsert := by
  intro pins s σ H x vs v us Q I rx rv h
  obtain ⟨l, xs, i, y, rfl, rfl, hH, hi, hz, q⟩ := h
  cases rx
  obtain ⟨u1, u2, rfl, ⟨t, rfl⟩, r2⟩ := rv.two
  obtain ⟨z, its, n, r, hl, e⟩ := I.lstM hH
  have hfit : Builtin.List.listFitsIndex (i : Int) = true := by
    unfold Builtin.List.listFitsIndex
    have := line63
    simp only [Bool.and_eq_true, decide_eq_true_eq]
    omega
  have hc0 : ¬(!Builtin.List.listFitsIndex (i : Int)) = true := by rw [hfit]; exact Bool.false_ne_true
  have hz1 : its.toArray.size ≤ sizeLine := by rw [List.size_toArray]; omega
  obtain ⟨w, hw⟩ : ∃ w : Int, w = (i : Int) := ⟨_, rfl⟩
  rw [← hw] at hc0
  have mm := PySem.AutoSeq1.list_insert_list_int_val_1 l its.toArray n w t u2 hc0 hz1
  rw [← hw]
  refine call_meets F.slot_list_insert ⟨_, e, rfl⟩ F.entry_list_insert (F.args_list_insert_3 _ _ _) mm ⟨e, ?_⟩
  refine ⟨.non, _, I.lset (its' := insAt its i u2) (ys := insAt xs i y) (t' := s.toks) hH e ?_ ?_ ?_, rfl, q⟩
  · have hk : (if w < 0 then (w + (its.toArray.size : Int)).toNat else min w.toNat its.toArray.size) = i := by
      rw [if_neg (by omega), List.size_toArray]
      omega
    show (its.toArray.extract 0 (if w < 0 then (w + (its.toArray.size : Int)).toNat else min w.toNat its.toArray.size)).push u2 ++ its.toArray.extract (if w < 0 then (w + (its.toArray.size : Int)).toNat else min w.toNat its.toArray.size) = _
    rw [hk]
    unfold insAt
    simp
    exact List.take_of_length_le (by simp)
  · unfold insAt
    exact Vals.append (r.take _) (.cons r2 (r.drop _))
  · unfold insAt
    rw [List.length_append, List.length_cons, List.length_take, List.length_drop]
    omega
end
def TsAt (H : Hp) (a : Addr) (ts : MM.Ties) : Prop := ∃ tr : List Addr, H a = some (.lst (tr.map V.ref)) ∧ tr.length = ts.length ∧ ∀ (i : Nat) t, ts[i]? = some t → ∃ r, tr[i]? = some r ∧ H r = some (.tup [vn t.1, vn t.2])
def OsAt (H : Hp) (a : Addr) (os : MM.Ords) : Prop := ∃ rr : List Addr, H a = some (.lst (rr.map V.ref)) ∧ rr.length = os.length ∧ ∀ (i : Nat) l, os[i]? = some l → ∃ r, rr[i]? = some r ∧ H r = some (.lst (vns l))
theorem Same.ts {H H' : Hp} (g : Same H H') {a : Addr} {ts : MM.Ties} (h : TsAt H a ts) : TsAt H' a ts := by
  obtain ⟨tr, h1, h2, h3⟩ := h
  exact ⟨tr, g _ _ h1, h2, fun i t ht => by obtain ⟨r, q1, q2⟩ := h3 i t ht; exact ⟨r, q1, g _ _ q2⟩⟩
theorem Same.os {H H' : Hp} (g : Same H H') {a : Addr} {os : MM.Ords} (h : OsAt H a os) : OsAt H' a os := by
  obtain ⟨tr, h1, h2, h3⟩ := h
  exact ⟨tr, g _ _ h1, h2, fun i t ht => by obtain ⟨r, q1, q2⟩ := h3 i t ht; exact ⟨r, q1, g _ _ q2⟩⟩
theorem TsAt.item {H : Hp} {a : Addr} {ts : MM.Ties} (h : TsAt H a ts) {i : Nat} (hi : i < ts.length) : ∃ xs r, H a = some (.lst xs) ∧ xs.length = ts.length ∧ atI xs (i : Int) = some (.ref r) ∧ H r = some (.tup [vn (ts.getD i (0, 0)).1, vn (ts.getD i (0, 0)).2]) := by
  obtain ⟨tr, h1, h2, h3⟩ := h
  obtain ⟨r, q1, q2⟩ := h3 i ts[i] (List.getElem?_eq_getElem hi)
  refine ⟨_, r, h1, by rw [List.length_map]; exact h2, atI_nat (by rw [List.getElem?_map, q1]; rfl), ?_⟩
  simp only [List.getD, List.getElem?_eq_getElem hi, Option.getD_some]
  exact q2
theorem OsAt.item {H : Hp} {a : Addr} {os : MM.Ords} (h : OsAt H a os) {i : Nat} (hi : i < os.length) : ∃ xs r, H a = some (.lst xs) ∧ xs.length = os.length ∧ atI xs (i : Int) = some (.ref r) ∧ H r = some (.lst (vns (MM.row os i))) := by
  obtain ⟨tr, h1, h2, h3⟩ := h
  obtain ⟨r, q1, q2⟩ := h3 i os[i] (List.getElem?_eq_getElem hi)
  refine ⟨_, r, h1, by rw [List.length_map]; exact h2, atI_nat (by rw [List.getElem?_map, q1]; rfl), ?_⟩
  unfold MM.row
  simp only [List.getD, List.getElem?_eq_getElem hi, Option.getD_some]
  exact q2
theorem at_vns {l : List Nat} {j : Nat} (h : j < l.length) {k : Int} (hk : k = (j : Int)) : atI (vns l) k = some (vn (l.getD j 0)) := by
  subst hk
  exact atI_nat (by rw [List.getElem?_map, List.getElem?_eq_getElem h]; simp [List.getD, h])
theorem at_prev {l : List Nat} {x : Nat} (h : x ∈ l) : atI (vns l) ((l.idxOf x : Nat) - 1 : Int) = some (vn (MM.prevIn l x)) := by
  have h1 := List.idxOf_lt_length_of_mem h
  unfold MM.prevIn
  rcases Nat.eq_zero_or_pos (l.idxOf x) with q | q
  · have e : (l.idxOf x + l.length - 1) % l.length = l.length - 1 := by rw [q, Nat.zero_add]; exact Nat.mod_eq_of_lt (by omega)
    rw [e]
    unfold atI ixN
    rw [if_neg (by omega), if_pos (by simp; omega)]
    have e2 : ((l.idxOf x : Nat) - 1 + ((vns l).length : Int)).toNat = l.length - 1 := by simp; omega
    show (vns l)[((l.idxOf x : Nat) - 1 + ((vns l).length : Int)).toNat]? = _
    rw [e2, List.getElem?_map, List.getElem?_eq_getElem (by omega)]
    have : l.length - 1 < l.length := by omega
    simp [List.getD, this]
  · have e : (l.idxOf x + l.length - 1) % l.length = l.idxOf x - 1 := by
      have : l.idxOf x + l.length - 1 = (l.idxOf x - 1) + l.length := by omega
      rw [this, Nat.add_mod_right]; exact Nat.mod_eq_of_lt (by omega)
    rw [e]
    exact at_vns (by omega) (by omega)
end L2

set_option linter.all false
set_option maxRecDepth 100000
set_option maxHeartbeats 4000000

namespace L2
open PySem PySem.Spec PyProof.Rows
theorem comp_rel {J : It} {js : List (Option Nat)} {σ : St} {H1 : Hp} {R : Hp → Prop} {D : Addr} {g : TG} {te : TE} (n : Nat) (Pe : Nat → V → Prop) (hD : H1 D = none) (hn : n ≤ 100000)
    (go : ∀ i H', i < n → Same H1 H' → J.go i H') (stop : ∀ H', Same H1 H' → J.stop n H')
    (hs : ∀ i H' x H'' (k : V → Hp → Prop), i < n → Same H1 H' → J.yld i H' x H'' → (∀ v H4, Pe i v → Same H' H4 → k v H4) → g x (inner js σ) H'' fun σ2 H2 => Fills (inner js σ) σ2 ∧ te σ2 H2 k)
    (hd : ∀ vs H', vs.length = n → (∀ (i : Nat) v, vs[i]? = some v → Pe i v) → Same H1 H' → H' D = some (.lst vs) → R H') :
    ∃ W : Nat → Nat → List V → Hp → Prop, (∃ m, W 0 m [] (upd H1 D (.lst []))) ∧
      ∀ i m ys H, W i m ys H → (J.stop i H ∧ R H) ∨ (J.go i H ∧ ∃ N : List V → Hp → Prop, (∀ ys' H', N ys' H' → ∃ m', m' < m ∧ W (i + 1) m' ys' H') ∧ ∀ x H', J.yld i H x H' → g x (inner js σ) H' fun σ2 H2 => Fills (inner js σ) σ2 ∧ tTrue σ2 H2 fun b H3 =>
        if b = true then te σ2 H3 fun y H4 => H4 D = some (.lst ys) ∧ ys.length < sizeLine ∧ N (ys ++ [y]) (upd H4 D (.lst (ys ++ [y]))) else N ys H3) := by
  refine comp_map n (fun i ys H' => ys.length = i ∧ (∀ (j : Nat) v, ys[j]? = some v → Pe j v) ∧ Same H1 H' ∧ H' D = some (.lst ys)) ⟨rfl, fun j v h => by simp at h, same_new hD _, upd_same⟩ ?_ ?_
  · rintro i ys H' hi ⟨hl, hp, g1, hD'⟩
    refine ⟨go i H' hi g1, fun x H'' hy => hs i H' x H'' _ hi g1 hy fun v H4 hv g4 => ⟨g4 _ _ hD', ?_, ?_, ?_, ?_, upd_same⟩⟩
    · rw [hl]; exact Nat.lt_of_lt_of_le hi (Nat.le_trans hn (by decide))
    · rw [List.length_append, hl]; rfl
    · intro j v' h
      by_cases hj : j < ys.length
      · rw [List.getElem?_append_left hj] at h; exact hp j v' h
      · rw [List.getElem?_append_right (by omega)] at h
        have hj2 : j - ys.length = 0 := by
          have := (List.getElem?_eq_some_iff.mp h).1
          simp at this; omega
        rw [hj2] at h
        simp at h
        subst h
        have : j = i := by omega
        subst this
        exact hv
    · exact fun b o h => by rw [upd_ne (ne_of_none h hD)]; exact g4 _ _ (g1 _ _ h)
  · rintro ys H' ⟨hl, hp, g1, hD'⟩
    exact ⟨stop H' g1, hd ys H' hl hp g1 hD'⟩
theorem rel_fun {vs : List V} {n : Nat} {fs : Nat → V} (hl : vs.length = n) (h : ∀ (i : Nat) v, vs[i]? = some v → v = fs i) : vs = (List.range n).map fs := by
  apply List.ext_getElem?
  intro i
  by_cases hi : i < n
  · rw [List.getElem?_map, List.getElem?_range hi]
    obtain ⟨v, hv⟩ : ∃ v, vs[i]? = some v := ⟨vs[i], List.getElem?_eq_getElem (by omega)⟩
    rw [hv, h i v hv]; rfl
  · rw [List.getElem?_eq_none (by omega), List.getElem?_eq_none (by simp; omega)]
theorem comp_pure {J : It} {js : List (Option Nat)} {σ : St} {H1 : Hp} {R : Hp → Prop} {D : Addr} {g : TG} {te : TE} (n : Nat) (fs : Nat → V) (hD : H1 D = none) (hn : n ≤ 100000)
    (go : ∀ i H', i < n → Same H1 H' → J.go i H') (stop : ∀ H', Same H1 H' → J.stop n H')
    (hs : ∀ i H' x H'' (k : V → Hp → Prop), i < n → Same H1 H' → J.yld i H' x H'' → (∀ H4, Same H' H4 → k (fs i) H4) → g x (inner js σ) H'' fun σ2 H2 => Fills (inner js σ) σ2 ∧ te σ2 H2 k)
    (hd : ∀ H', Same H1 H' → H' D = some (.lst ((List.range n).map fs)) → R H') :
    ∃ W : Nat → Nat → List V → Hp → Prop, (∃ m, W 0 m [] (upd H1 D (.lst []))) ∧
      ∀ i m ys H, W i m ys H → (J.stop i H ∧ R H) ∨ (J.go i H ∧ ∃ N : List V → Hp → Prop, (∀ ys' H', N ys' H' → ∃ m', m' < m ∧ W (i + 1) m' ys' H') ∧ ∀ x H', J.yld i H x H' → g x (inner js σ) H' fun σ2 H2 => Fills (inner js σ) σ2 ∧ tTrue σ2 H2 fun b H3 =>
        if b = true then te σ2 H3 fun y H4 => H4 D = some (.lst ys) ∧ ys.length < sizeLine ∧ N (ys ++ [y]) (upd H4 D (.lst (ys ++ [y]))) else N ys H3) :=
  comp_rel n (fun i v => v = fs i) hD hn go stop (fun i H' x H'' k hi g1 hy hk => hs i H' x H'' k hi g1 hy fun H4 g4 => hk _ _ rfl g4)
    fun vs H' hl hp g1 e => hd H' g1 (by rw [e, rel_fun hl hp])
def at0 (ls : List Int) (j : Nat) : Int := ls.getD j 0
theorem at_get {ls : List Int} {j : Nat} (h : j < ls.length) : (ls.map V.int)[j]? = some (.int (at0 ls j)) := by
  unfold at0
  rw [List.getElem?_map, List.getElem?_eq_getElem h]
  simp [List.getD, h]
theorem atI_get0 {ls : List Int} {j : Nat} (h : j < ls.length) {k : Int} (hk : k = (j : Int)) : atI (ls.map V.int) k = some (.int (at0 ls j)) := by
  subst hk; exact atI_nat (at_get h)
theorem bd_ints {K : PySem.W.Frag} {H : Hp} {a : Addr} {ns : List Int} (h : H a = some (.lst (ns.map V.int))) : Bd K H (.ref a) (.list (ns.map PyData.int)) := .lst (SqL.of h) (Bds.ints ns)
theorem lay_all {ds : List PyData} (n : Nat) (h : ∀ d ∈ ds, d.canLay0 = true ∧ d.depth ≤ n) : PyData.canLayAll0 ds = true ∧ PyData.depthAll ds ≤ n := by
  induction ds with
  | nil => exact ⟨rfl, Nat.zero_le _⟩
  | cons d ds ih =>
    have h1 := h d List.mem_cons_self
    have h2 := ih fun x hx => h x (List.mem_cons_of_mem _ hx)
    refine ⟨by rw [PyData.canLayAll0, h1.1, h2.1]; rfl, ?_⟩
    rw [PyData.depthAll]
    exact Nat.max_le.mpr ⟨h1.2, h2.2⟩
theorem lay_ints (ns : List Int) : PyData.canLayAll0 (ns.map PyData.int) = true ∧ PyData.depthAll (ns.map PyData.int) ≤ 2 := lay_all 2 fun d hd => by
  obtain ⟨n, _, rfl⟩ := List.mem_map.mp hd
  exact ⟨rfl, by simp [PyData.depth]⟩
theorem via {tt r : TS} {D : Ends} {σ : St} {H : Hp} (I : St → Hp → Prop) (ht : (∀ σ' H', I σ' H' → r D σ' H') → tt { D with nx := r D } σ H) (hr : ∀ σ' H', I σ' H' → r D σ' H') : tSeq tt r D σ H := ht hr
theorem for_enum {K : PySem.W.Frag} {a : Addr} {xs : List V} {g : TG} {tb : TS} {D : Ends} {σ : St} {H : Hp} (Pv : Nat → St → Hp → Prop) (h0 : Pv 0 σ H) (hl : ∀ i σ H, i ≤ xs.length → Pv i σ H → SqL K H a xs)
    (hs : ∀ (i : Nat) x σ H T, xs[i]? = some x → Pv i σ H → H T = none → g (.ref T) σ (upd H T (.tup [vn i, x])) fun σ2 H2 => tb { D with nx := Pv (i + 1), ct := Pv (i + 1), bk := D.nx } σ2 H2) (hd : ∀ σ H, Pv xs.length σ H → D.nx σ H) :
    ∃ W : Nat → Nat → St → Hp → Prop, (∃ m, W 0 m σ H) ∧ ∀ i m σ H, W i m σ H →
      ((Ite K a).stop i H ∧ D.nx σ H) ∨ ((Ite K a).go i H ∧ ∃ N : St → Hp → Prop, (∀ σ' H', N σ' H' → ∃ m', m' < m ∧ W (i + 1) m' σ' H') ∧ ∀ x H', (Ite K a).yld i H x H' → g x σ H' fun σ2 H2 => tb { D with nx := N, ct := N, bk := D.nx } σ2 H2) := by
  refine ⟨fun i m σ H => m = xs.length - i ∧ i ≤ xs.length ∧ Pv i σ H, ⟨xs.length, by simp, Nat.zero_le _, h0⟩, ?_⟩
  rintro i m σ H ⟨rfl, hi, p⟩
  have q := hl i σ H hi p
  by_cases hlt : i < xs.length
  · refine .inr ⟨⟨xs, xs[i], q, by simp [hlt]⟩, Pv (i + 1), fun σ' H' p' => ⟨xs.length - (i + 1), by omega, rfl, hlt, p'⟩, fun x H' y => ?_⟩
    obtain ⟨T, x', rfl, hT, rfl, y⟩ := y
    exact hs i x' σ _ T (y xs q) p hT
  · have e : i = xs.length := by omega
    subst e
    exact .inl ⟨⟨xs, q, Nat.le_refl _⟩, hd σ H p⟩
end L2

namespace L2
open PySem PySem.Spec PyProof.Rows
theorem preSum_at0 (ns : List Int) : ∀ k, k ≤ ns.length → PySem.preSum (at0 ns) k = (ns.take k).sum
  | 0, _ => by simp [PySem.preSum]
  | k + 1, h => by
    rw [PySem.preSum, preSum_at0 ns k (by omega), List.take_succ, List.sum_append]
    have hk : k < ns.length := by omega
    unfold at0
    simp [List.getD, hk]
section
variable {X : Cx} {pins : List (Addr × Obj)} {σ : St} {H : Hp} {s : Shared}
theorem listIter_st {p : Addr} {its : List Value} (pl : PlainL s.heap p its.toArray) :
    (s.heap.push { cls := .type "list_iterator", data := .fields #[.ref p, .int 0 0] }).IsListIter s.heap.objs.size p 0 ∧ (s.heap.push { cls := .type "list_iterator", data := .fields #[.ref p, .int 0 0] }).IsList p its.toArray := by
  obtain ⟨o, n, e, hc, hd, hs⟩ := pl
  exact ⟨⟨_, Heap.get?_push_size _ rfl, rfl, rfl⟩, o, Heap.get?_push_of_some _ e, hc, n, hs⟩
theorem plain_ne {p : Addr} {its : List Value} (pl : PlainL s.heap p its.toArray) : p < s.heap.objs.size := by
  obtain ⟨o, n, e, _⟩ := pl
  exact Heap.lt_size e
theorem call_sumI (hc : X.calm = true) : CallR X (.builtin "sum") (fun xs H Q => ∃ (p : Addr) (ns : List Int), xs = [.ref p] ∧ SqL X.K H p (ns.map V.int) ∧ Q (.int ns.sum) H) := by
  intro pins s σ H xs us Q I r h
  obtain ⟨p, ns, rfl, hq, q⟩ := h
  obtain ⟨u, rfl, rx⟩ := vals1 r
  cases rx
  obtain ⟨its, rv, pl, hz⟩ := I.list hq
  have hl := rv.length
  rw [List.length_map] at hl
  have hp := plain_ne pl
  refine call_sum_walkG (wpAny_pyIter_list pl.isList ?_)
  refine ⟨s.heap.objs.size, [s.heap.objs.size, p], [s.heap.objs.size], its.toArray.size, _, _, at0 ns, rfl, Walks.list (show X.A.in1.handled = none from I.ok.hd hc) _ p (Nat.ne_of_lt hp) its.toArray, listIter_st pl, fun b hb => ?_, fun i v hv => ?_, fun h' tk t' hk => ?_⟩
  · have := Heap.lt_size (Heap.get?_push_size s.heap (o := { cls := .type "list_iterator", data := .fields #[.ref p, .int 0 0] }) rfl)
    simp only [List.mem_cons, List.not_mem_nil, or_false] at hb
    rcases hb with rfl | rfl
    · exact this
    · exact Nat.lt_trans hp this
  · have hi : its[i]? = some v := by simpa using hv
    have hi2 : i < ns.length := by rw [hl]; exact (List.getElem?_eq_some_iff.mp hi).1
    obtain ⟨u', hu, ru⟩ := rv.get (at_get hi2)
    rw [hi] at hu
    cases hu
    exact ru
  · refine ⟨.int ns.sum, H, I.kept (h' := h') (t' := tk) fun b o e => ?_, ⟨t', ?_⟩, q⟩
    · refine hk b o ?_ (Heap.get?_push_of_some _ e)
      simp only [List.mem_cons, List.not_mem_nil, or_false]
      exact Nat.ne_of_lt (Heap.lt_size e)
    · rw [List.size_toArray, ← hl, preSum_at0 ns _ (Nat.le_refl _), List.take_length]
end
end L2
namespace L2
open PySem PySem.Spec PyProof.Rows
theorem all_range (bs : List Bool) : (List.range bs.length).all (fun i => bs.getD i true) = bs.all id := by
  rw [Bool.eq_iff_iff, List.all_eq_true, List.all_eq_true]
  constructor
  · intro h b hb
    obtain ⟨i, hi, rfl⟩ := List.getElem_of_mem hb
    have := h i (by simpa using hi)
    simpa [List.getD, hi] using this
  · intro h i hi
    have hi' : i < bs.length := by simpa using hi
    have := h bs[i] (List.getElem_mem hi')
    simpa [List.getD, hi'] using this
section
variable {X : Cx}
theorem call_allB (hc : X.calm = true) : CallR X (.builtin "all") (fun xs H Q => ∃ (p : Addr) (bs : List Bool), xs = [.ref p] ∧ SqL X.K H p (bs.map V.bl) ∧ Q (.bl (bs.all id)) H) := by
  intro pins s σ H xs us Q I r h
  obtain ⟨p, bs, rfl, hq, q⟩ := h
  obtain ⟨u, rfl, rx⟩ := vals1 r
  cases rx
  obtain ⟨its, rv, pl, hz⟩ := I.list hq
  have hl := rv.length
  rw [List.length_map] at hl
  have hp := plain_ne pl
  refine call_all_walk (wpAny_pyIter_list pl.isList ?_)
  refine ⟨s.heap.objs.size, [s.heap.objs.size, p], [s.heap.objs.size], its.toArray.size, _, _, fun i => bs.getD i true, rfl, Walks.list (show X.A.in1.handled = none from I.ok.hd hc) _ p (Nat.ne_of_lt hp) its.toArray, listIter_st pl, fun i v s' Q' E' hv hQ => ?_, fun h' tk hk => ?_⟩
  · have hi : its[i]? = some v := by simpa using hv
    have hi2 : i < bs.length := by rw [hl]; exact (List.getElem?_eq_some_iff.mp hi).1
    obtain ⟨u', hu, ru⟩ := rv.get (show (bs.map V.bl)[i]? = some (.bl (bs.getD i true)) by rw [List.getElem?_map, List.getElem?_eq_getElem hi2]; simp [List.getD, hi2])
    rw [hi] at hu
    cases hu
    cases ru
    exact wpAny_truthy_bool hQ
  · refine ⟨.bl (bs.all id), H, I.kept (h' := h') (t' := tk) fun b o e => ?_, ?_, q⟩
    · refine hk b o ?_ (Heap.get?_push_of_some _ e)
      simp only [List.mem_cons, List.not_mem_nil, or_false]
      exact Nat.ne_of_lt (Heap.lt_size e)
    · show Value.bool _ = Value.bool _
      rw [List.size_toArray, ← hl, all_range]
end
end L2

namespace L2
open PySem PySem.Spec PyProof.Rows
section
variable {X : Cx}
end
end L2

namespace L2
open PySem PySem.Spec PyProof.Rows
section
variable {X : Cx}
theorem call_sortedI : CallR X (.builtin "sorted") (fun xs H Q => ∃ p ns, xs = [.ref p] ∧ SqL X.K H p (ns.map V.int) ∧ ns.length < 64 ∧ ∀ (l : Addr) (ns' : List Int), H l = none → ns'.Perm ns → ns'.Pairwise (· ≤ ·) → Q (.ref l) (upd H l (.lst (ns'.map V.int)))) := by
  intro pins s σ H xs us Q I r h
  obtain ⟨p, ns, rfl, hq, h64, q⟩ := h
  obtain ⟨u, rfl, rx⟩ := vals1 r
  cases rx
  obtain ⟨its, r', pl, hz⟩ := I.list hq
  have hlen := r'.length
  rw [List.length_map] at hlen
  refine sorted_ints (ns := ns) (vs := its) pl.isList (intsAre_of r') (by omega) fun out ns' a1 a2 a3 => ?_
  obtain ⟨e, he⟩ := sortedAll_at s.heap its out
  have rv := vals_ints a1
  refine ⟨.ref (s.heap.objs.size + 1), _, I.laid (t' := s.toks) (fun _ _ => sortedAll_old) (Nat.le_succ _) (show ObjOk X.prog X.w _ _ _ (.lst (ns'.map V.int)) from ⟨?_, out.toList, e, rv, he⟩), rfl, q _ ns' (I.hok.fresh (Nat.le_succ _)) a2 a3⟩
  rw [List.length_map, a2.length_eq]
  exact Nat.le_trans (by omega : ns.length ≤ 64) (by decide)
end
end L2

namespace L2
open PySem PySem.Spec PyProof.Rows
section
variable {κ : Type} [DecidableEq κ]
def valV (kvs : List (κ × V)) (k : κ) : Option V := (kvs.find? fun kv => decide (kv.1 = k)).map (·.2)
def putK (kvs : List (κ × V)) (k : κ) (v : V) : List (κ × V) :=
  if (kvs.any fun kv => decide (kv.1 = k)) = true then kvs.map (fun kv => if kv.1 = k then (kv.1, v) else kv) else kvs ++ [(k, v)]
theorem valV_pos {p : κ × V} {r : List (κ × V)} {k : κ} (e : p.1 = k) : valV (p :: r) k = some p.2 := by simp [valV, List.find?_cons, e]
theorem valV_neg {p : κ × V} {r : List (κ × V)} {k : κ} (e : ¬ p.1 = k) : valV (p :: r) k = valV r k := by simp [valV, List.find?_cons, e]
theorem valV_any (k : κ) : ∀ kvs : List (κ × V), (kvs.any fun kv => decide (kv.1 = k)) = (valV kvs k).isSome
  | [] => rfl
  | p :: r => by
    rw [List.any_cons]
    by_cases e : p.1 = k
    · simp only [valV_pos e, decide_eq_true e, Bool.true_or, Option.isSome_some]
    · rw [valV_neg e, decide_eq_false e, Bool.false_or]; exact valV_any k r
theorem valV_map (k j : κ) (y : V) : ∀ kvs : List (κ × V), valV (kvs.map fun kv => if kv.1 = k then (kv.1, y) else kv) j = (valV kvs j).map fun x => if j = k then y else x
  | [] => rfl
  | p :: r => by
    have ih := valV_map k j y r
    rw [List.map_cons]
    by_cases h : p.1 = k
    · rw [if_pos h]
      by_cases e : p.1 = j
      · rw [valV_pos (p := (p.1, y)) e, valV_pos e, Option.map_some, if_pos (e.symm.trans h)]
      · rw [valV_neg (p := (p.1, y)) e, valV_neg e, ih]
    · rw [if_neg h]
      by_cases e : p.1 = j
      · rw [valV_pos (p := p) e, valV_pos e, Option.map_some, if_neg (fun z => h (e.trans z))]
      · rw [valV_neg (p := p) e, valV_neg e, ih]
theorem valV_snoc (k j : κ) (y : V) : ∀ kvs : List (κ × V), valV kvs k = none → valV (kvs ++ [(k, y)]) j = if j = k then some y else valV kvs j
  | [], _ => by
    by_cases e : k = j
    · rw [if_pos e.symm]; exact valV_pos (p := (k, y)) e
    · rw [if_neg (fun z => e z.symm)]; exact valV_neg (p := (k, y)) e
  | p :: r, hn => by
    rw [List.cons_append]
    have hk : ¬ p.1 = k := fun z => by rw [valV_pos z] at hn; cases hn
    rw [valV_neg hk] at hn
    have ih := valV_snoc k j y r hn
    by_cases e : p.1 = j
    · rw [valV_pos e, valV_pos e, if_neg (fun z => hk (e.trans z))]
    · rw [valV_neg e, valV_neg e, ih]
theorem valV_put (kvs : List (κ × V)) (k j : κ) (y : V) : valV (putK kvs k y) j = if j = k then some y else valV kvs j := by
  unfold putK
  by_cases a : (kvs.any fun kv => decide (kv.1 = k)) = true
  · rw [if_pos a, valV_map]
    rw [valV_any] at a
    by_cases e : j = k
    · obtain ⟨x, hx⟩ := Option.isSome_iff_exists.mp a
      rw [if_pos e, e, hx, Option.map_some, if_pos rfl]
    · rw [if_neg e]
      cases valV kvs j with
      | none => rfl
      | some x => rw [Option.map_some, if_neg e]
  · rw [if_neg a]
    refine valV_snoc k j y kvs ?_
    rw [valV_any] at a
    cases q : valV kvs k with
    | none => rfl
    | some x => rw [q] at a; exact (a rfl).elim
theorem length_putK (kvs : List (κ × V)) (k : κ) (v : V) : (putK kvs k v).length ≤ kvs.length + 1 := by
  unfold putK
  split
  · rw [List.length_map]; omega
  · rw [List.length_append, List.length_cons, List.length_nil]; omega
theorem RelO.isSome_eq {o : Option V} {u : Option Value} (r : RelO o u) : o.isSome = u.isSome := by
  cases o with
  | none => cases u with
    | none => rfl
    | some _ => exact (show False from r).elim
  | some _ => cases u with
    | none => exact (show False from r).elim
    | some _ => rfl
theorem RelO.getD {o : Option V} {u : Option Value} {d : V} {d' : Value} (r : RelO o u) (rd : RelV d d') : RelV (o.getD d) (u.getD d') := by
  cases o with
  | none => cases u with
    | none => exact rd
    | some _ => exact (show False from r).elim
  | some _ => cases u with
    | none => exact (show False from r).elim
    | some _ => exact r

theorem KV.val {kvs : List (κ × V)} {vs : List (κ × Value)} (r : KV kvs vs) (k : κ) : RelO (valV kvs k) (valueAt vs k) := by
  unfold KV at r
  induction r with
  | nil => exact True.intro
  | @cons p q ps qs h t ih =>
    obtain ⟨h1, h2⟩ := h
    by_cases e : p.1 = k
    · have e' : q.1 = k := h1.symm.trans e
      have b : valueAt (q :: qs) k = some q.2 := by simp [valueAt, List.find?_cons, e']
      rw [valV_pos e, b]; exact h2
    · have e' : ¬ q.1 = k := fun z => e (h1.trans z)
      have b : valueAt (q :: qs) k = valueAt qs k := by simp [valueAt, List.find?_cons, e']
      rw [valV_neg e, b]; exact ih
theorem KV.any {kvs : List (κ × V)} {vs : List (κ × Value)} (r : KV kvs vs) (k : κ) : (kvs.any fun kv => decide (kv.1 = k)) = vs.any fun kv => decide (kv.1 = k) := by
  unfold KV at r
  induction r with
  | nil => rfl
  | cons h t ih => rw [List.any_cons, List.any_cons, ih, h.1]
theorem KV.repl {kvs : List (κ × V)} {vs : List (κ × Value)} (r : KV kvs vs) (k : κ) {y : V} {u : Value} (ry : RelV y u) :
    KV (kvs.map fun kv => if kv.1 = k then (kv.1, y) else kv) (vs.map fun kv => if kv.1 = k then (kv.1, u) else kv) := by
  unfold KV at r ⊢
  induction r with
  | nil => exact .nil
  | @cons p q ps qs h t ih =>
    rw [List.map_cons, List.map_cons]
    refine .cons ?_ ih
    obtain ⟨h1, h2⟩ := h
    by_cases e : p.1 = k
    · rw [if_pos e, if_pos (h1.symm.trans e)]; exact ⟨h1, ry⟩
    · rw [if_neg e, if_neg (fun z => e (h1.trans z))]; exact ⟨h1, h2⟩
theorem KV.put {kvs : List (κ × V)} {vs : List (κ × Value)} (r : KV kvs vs) (k : κ) {y : V} {u : Value} (ry : RelV y u) : KV (putK kvs k y) (stored vs k u) := by
  unfold putK stored
  rw [r.any k]
  by_cases e : (vs.any fun kv => decide (kv.1 = k)) = true
  · rw [if_pos e, if_pos e]; exact r.repl k ry
  · rw [if_neg e, if_neg e]; exact Paired.snoc r ⟨rfl, ry⟩
theorem KV.length {kvs : List (κ × V)} {vs : List (κ × Value)} (r : KV kvs vs) : kvs.length = vs.length := Paired.length r
end


theorem kV_is {P : Program} {w : World} {k : Key} {u : Value} (r : RelV (kV k) u) : (mixKind P w).is k u = true := by
  cases k with
  | inl i => obtain ⟨t, e⟩ := (show ∃ t, u = Value.int i t from r); subst e; exact mixKind_int P w i t
  | inr x => obtain ⟨t, e⟩ := (show ∃ t, u = Value.str x t from r); subst e; exact mixKind_str P w x t
theorem items_are {P : Program} {w : World} : ∀ {ks : List Key} {us : List Value}, Vals (ks.map kV) us → ItemsAre (mixKind P w) ks us
  | [], _, r => by rw [List.map_nil] at r; cases r; exact .nil
  | k :: ks, _, r => by
    rw [List.map_cons] at r
    cases r with
    | cons h t => exact .cons (kV_is h) (items_are t)

abbrev KT (H : Hp) : List (List Key × V) → List (List Key × Addr × Value) → Prop := Paired fun p q => p.1 = q.1 ∧ H q.2.1 = some (.tup (p.1.map kV)) ∧ RelV p.2 q.2.2
theorem KT.val {H : Hp} {kvs : List (List Key × V)} {xs : List (List Key × Addr × Value)} (r : KT H kvs xs) (k : List Key) : RelO (valV kvs k) ((atKey xs k).map (·.2)) := by
  induction r with
  | nil => exact True.intro
  | @cons p q ps qs h t ih =>
    obtain ⟨h1, _, h2⟩ := h
    by_cases e : p.1 = k
    · have e' : q.1 = k := h1.symm.trans e
      have b : atKey (q :: qs) k = some q.2 := by simp [atKey, List.find?_cons, e']
      rw [valV_pos e, b]; exact h2
    · have e' : ¬ q.1 = k := fun z => e (h1.trans z)
      have b : atKey (q :: qs) k = atKey qs k := by simp [atKey, List.find?_cons, e']
      rw [valV_neg e, b]; exact ih
theorem KT.repl {H : Hp} {kvs : List (List Key × V)} {xs : List (List Key × Addr × Value)} (r : KT H kvs xs) (k : List Key) {y : V} {u : Value} (ry : RelV y u) :
    KT H (kvs.map fun kv => if kv.1 = k then (kv.1, y) else kv) (xs.map (putAt k u)) := by
  induction r with
  | nil => exact .nil
  | @cons p q ps qs h t ih =>
    rw [List.map_cons, List.map_cons]
    refine .cons ?_ ih
    obtain ⟨h1, h2, h3⟩ := h
    unfold putAt
    by_cases e : p.1 = k
    · rw [if_pos e, if_pos (h1.symm.trans e)]; exact ⟨h1, h2, ry⟩
    · rw [if_neg e, if_neg (fun z => e (h1.trans z))]; exact ⟨h1, h2, h3⟩
theorem KT.put {H : Hp} {kvs : List (List Key × V)} {xs : List (List Key × Addr × Value)} (r : KT H kvs xs) (k : List Key) {b : Addr} {y : V} {u : Value} (hb : H b = some (.tup (k.map kV))) (ry : RelV y u) :
    KT H (putK kvs k y) (storedH xs k b u) := by
  have e : (kvs.any fun kv => decide (kv.1 = k)) = (atKey xs k).isSome := by
    rw [valV_any, (r.val k).isSome_eq, Option.isSome_map]
  unfold putK storedH
  rw [e]
  by_cases q : (atKey xs k).isSome = true
  · rw [if_pos q, if_pos q]; exact r.repl k ry
  · rw [if_neg q, if_neg q]; exact Paired.snoc r ⟨rfl, hb, ry⟩
theorem KT.keeps {H H' : Hp} {kvs : List (List Key × V)} {xs : List (List Key × Addr × Value)} (r : KT H kvs xs) (ht : ∀ b ys, H b = some (.tup ys) → H' b = some (.tup ys)) : KT H' kvs xs :=
  Paired.mapP r fun _ _ z => ⟨z.1, ht _ _ z.2.1, z.2.2⟩

section
variable {P : Program} {w : World} {H : Hp} {h : Heap} {a : Addr}
theorem rd_of {u : HO} (ok : HOk P w H h) (e : Rd H a u) : ObjOk P w H h a u := e.ok ok
theorem dk_rd {kvs : List (Key × V)} (ok : HOk P w H h) (e : Rd H a (.dK kvs)) : kvs.length ≤ sizeLine ∧ (a == sysModules) = false ∧ ∃ vs, KV kvs vs ∧ h.DictOf (mixKind P w) a vs :=
  show ObjOk P w H h a (.dK kvs) from rd_of ok e
theorem dk_of {kvs : List (Key × V)} (ok : HOk P w H h) (e : H a = some (.dK kvs)) : kvs.length ≤ sizeLine ∧ (a == sysModules) = false ∧ ∃ vs, KV kvs vs ∧ h.DictOf (mixKind P w) a vs := dk_rd ok (.inl e)
theorem key_of {ks : List Key} (ok : HOk P w H h) (e : H a = some (.tup (ks.map kV))) : (tupleKind (mixKind P w)).is h ks a := by
  obtain ⟨_, its, r, o, h1, h2, n, h3⟩ := (show ObjOk P w H h a (.tup (ks.map kV)) from ok a _ e)
  exact ⟨o, its.toArray, n, h1, h2, h3, by simpa using items_are r⟩
theorem dt_rd {kvs : List (List Key × V)} (ok : HOk P w H h) (e : Rd H a (.dT kvs)) : kvs.length ≤ sizeLine ∧ (a == sysModules) = false ∧
    ∃ xs, KT H kvs xs ∧ h.DictOfH (tupleKind (mixKind P w)) a xs := by
  obtain ⟨z, y, xs, r, o, es, ep, h1, h2, h3, h4, h5⟩ := (show ObjOk P w H h a (.dT kvs) from rd_of ok e)
  refine ⟨z, y, xs, r, o, es, ep, h1, h2, h3, h4, fun x hx => ?_, h5⟩
  have all : ∀ {l : List (List Key × V)} {m : List (List Key × Addr × Value)}, KT H l m → ∀ x ∈ m, (tupleKind (mixKind P w)).is h x.1 x.2.1 := by
    intro l m q
    induction q with
    | nil => intro x hx; exact nomatch hx
    | @cons p q ps qs hq t ih =>
      intro x hx
      rcases List.mem_cons.mp hx with e | hx
      · subst e
        exact key_of ok (by rw [← hq.1]; exact hq.2.1)
      · exact ih x hx
  exact all r x hx
theorem dt_of {kvs : List (List Key × V)} (ok : HOk P w H h) (e : H a = some (.dT kvs)) : kvs.length ≤ sizeLine ∧ (a == sysModules) = false ∧
    ∃ xs, KT H kvs xs ∧ h.DictOfH (tupleKind (mixKind P w)) a xs := dt_rd ok (.inl e)
end

def DGet (H : Hp) (a : Addr) (y : V) (r : Option V) : Prop :=
  (∃ kvs k, Rd H a (.dK kvs) ∧ y = kV k ∧ r = valV kvs k) ∨ ∃ kvs k b, Rd H a (.dT kvs) ∧ y = .ref b ∧ H b = some (.tup (k.map kV)) ∧ r = valV kvs k
def DPut (H : Hp) (a : Addr) (y v : V) (H' : Hp) : Prop :=
  (∃ kvs k, H a = some (.dK kvs) ∧ y = kV k ∧ kvs.length < sizeLine ∧ H' = upd H a (.dK (putK kvs k v))) ∨
  ∃ kvs k b, H a = some (.dT kvs) ∧ y = .ref b ∧ H b = some (.tup (k.map kV)) ∧ kvs.length < sizeLine ∧ H' = upd H a (.dT (putK kvs k v))
theorem DGet.t {H : Hp} {a b : Addr} {kvs : List (List Key × V)} {k : List Key} (e : H a = some (.dT kvs)) (eb : H b = some (.tup (k.map kV))) : DGet H a (.ref b) (valV kvs k) := .inr ⟨kvs, k, b, .inl e, rfl, eb, rfl⟩
theorem DPut.t {H : Hp} {a b : Addr} {kvs : List (List Key × V)} {k : List Key} {v : V} (e : H a = some (.dT kvs)) (eb : H b = some (.tup (k.map kV))) (hl : kvs.length < sizeLine) :
    DPut H a (.ref b) v (upd H a (.dT (putK kvs k v))) := .inr ⟨kvs, k, b, e, rfl, eb, hl, rfl⟩


section
variable {X : Cx} {pins : List (Addr × Obj)} {σ : St} {H : Hp} {s : Shared} {a : Addr} {y v : V} {u r : Value} {o : Option V} {A : Around} {E : Value → Shared → Prop}

theorem Inv.big (I : Inv X pins σ H s) : sysModules < s.heap.objs.size := by
  have h : mainGlobals < s.heap.objs.size := (I.mod.glob.keeps I.bk).lt
  exact Nat.lt_trans (by decide) h

theorem d_getItem {Q : Value → Shared → Prop} (hu : A.units + 1 < cLine) (I : Inv X pins σ H s) (g : DGet H a y (some v)) (ry : RelV y u) (h : ∀ w' s', Inv X pins σ H s' → RelV v w' → Q w' s') :
    wpAny (model X.prog X.w) A (getItem (.ref a) u) Q E s := by
  rcases g with ⟨kvs, k, e, ey, l⟩ | ⟨kvs, k, b, e, ey, eb, l⟩
  · subst ey
    obtain ⟨z, hd, vs, rel, dd⟩ := dk_rd I.hok e
    obtain ⟨w', hw, rw'⟩ := RelO.some_of (v := v) (o := valueAt vs k) (by rw [l]; exact rel.val k)
    exact wpAny_getItem_of (kV_is ry) dd.mapOf hw (h w' _ (I.tok _) rw')
  · subst ey
    cases (show u = Value.ref b from ry)
    obtain ⟨z, hd, xs, rel, dd⟩ := dt_rd I.hok e
    obtain ⟨w', hw, rw'⟩ := RelO.some_of (v := v) (o := (atKey xs k).map (·.2)) (by rw [l]; exact rel.val k)
    obtain ⟨p, hp, hp2⟩ := Option.map_eq_some_iff.mp hw
    refine wpAny_getItem_heap (tupleKind_room_in1 hu) (key_of I.hok eb) dd hp ?_
    rw [hp2]
    exact h w' _ (I.tok _) rw'
theorem d_in {Q : Value → Shared → Prop} (hu : A.units + 1 < cLine) (I : Inv X pins σ H s) (g : DGet H a y o) (ry : RelV y u) (h : ∀ s', Inv X pins σ H s' → Q (.bool o.isSome) s') :
    wpAny (model X.prog X.w) A (compareOp .In u (.ref a)) Q E s := by
  rcases g with ⟨kvs, k, e, ey, l⟩ | ⟨kvs, k, b, e, ey, eb, l⟩
  · subst ey
    obtain ⟨z, hd, vs, rel, dd⟩ := dk_rd I.hok e
    refine wpAny_in_of (kV_is ry) hd dd.mapOf ?_
    rw [← (rel.val k).isSome_eq, ← l]
    exact h _ (I.tok _)
  · subst ey
    cases (show u = Value.ref b from ry)
    obtain ⟨z, hd, xs, rel, dd⟩ := dt_rd I.hok e
    refine wpAny_in_heap (tupleKind_room_in1 hu) (key_of I.hok eb) hd dd ?_
    have q := (rel.val k).isSome_eq
    rw [Option.isSome_map] at q
    rw [← q, ← l]
    exact h _ (I.tok _)
theorem d_notIn {Q : Value → Shared → Prop} (hu : A.units + 1 < cLine) (I : Inv X pins σ H s) (g : DGet H a y o) (ry : RelV y u) (h : ∀ s', Inv X pins σ H s' → Q (.bool (!o.isSome)) s') :
    wpAny (model X.prog X.w) A (compareOp .NotIn u (.ref a)) Q E s := by
  rcases g with ⟨kvs, k, e, ey, l⟩ | ⟨kvs, k, b, e, ey, eb, l⟩
  · subst ey
    obtain ⟨z, hd, vs, rel, dd⟩ := dk_rd I.hok e
    refine wpAny_notIn_of (kV_is ry) hd dd.mapOf ?_
    rw [← (rel.val k).isSome_eq, ← l]
    exact h _ (I.tok _)
  · subst ey
    cases (show u = Value.ref b from ry)
    obtain ⟨z, hd, xs, rel, dd⟩ := dt_rd I.hok e
    refine wpAny_notIn_heap (tupleKind_room_in1 hu) (key_of I.hok eb) hd dd ?_
    have q := (rel.val k).isSome_eq
    rw [Option.isSome_map] at q
    rw [← q, ← l]
    exact h _ (I.tok _)
theorem d_write {h' : Heap} {t' : Nat} {ob : HO} (I : Inv X pins σ H s) (mu : Mut (H a)) (hs : Heap.SameBut a s.heap h') (he : ∃ q, h'.get? a = some q) (new : ObjOk X.prog X.w (upd H a ob) h' a ob) :
    Inv X pins σ (upd H a ob) { s with heap := h', toks := t' } :=
  I.write (x := a) (e := a) mu (.inl rfl) (fun b q hb z => (hs.2 b hb).trans z) he new
theorem dk_new {P : Program} {w : World} {H' : Hp} {h' : Heap} {kvs : List (Key × V)} {vs : List (Key × Value)} (z : kvs.length ≤ sizeLine) (hd : (a == sysModules) = false) (rel : KV kvs vs) (dd : h'.DictOf (mixKind P w) a vs) :
    ObjOk P w H' h' a (.dK kvs) := ⟨z, hd, vs, rel, dd⟩
theorem d_setItem {H' : Hp} {Q : Unit → Shared → Prop} (hu : A.units + 1 < cLine) (I : Inv X pins σ H s) (g : DPut H a y v H') (ry : RelV y u) (rv : RelV v r) (h : ∀ s', Inv X pins σ H' s' → Q () s') :
    wpAny (model X.prog X.w) A (setItem (.ref a) u r) Q E s := by
  rcases g with ⟨kvs, k, e, ey, l, eH⟩ | ⟨kvs, k, b, e, ey, eb, l, eH⟩
  · subst ey eH
    obtain ⟨z, hd, vs, rel, dd⟩ := dk_of I.hok e
    have hz : vs.length ≤ sizeLine := by rw [← rel.length]; exact z
    have hl : (putK kvs k v).length ≤ sizeLine := by have := length_putK kvs k v; omega
    refine wpAny_setItem_pairs (hsz := hz) (kV_is ry) dd fun h' dd' hs => h _ ?_
    have he : ∃ q, h'.get? a = some q := let ⟨q, _, _, hq, _⟩ := dd'; ⟨q, hq⟩
    exact d_write I (by rw [e]; exact True.intro) hs he (dk_new hl hd (rel.put k rv) dd')
  · subst ey eH
    cases (show u = Value.ref b from ry)
    obtain ⟨z, hd, xs, rel, dd⟩ := dt_of I.hok e
    have hz : xs.length ≤ sizeLine := by rw [← Paired.length rel]; exact z
    have hl : (putK kvs k v).length ≤ sizeLine := by have := length_putK kvs k v; omega
    refine wpAny_setItem_heap (hsz := hz) (tupleKind_room_in1 hu) (key_of I.hok eb) dd fun h' dd' hs => h _ ?_
    obtain ⟨q, es, ep, hq, h2, h3, h4, _, h5⟩ := dd'
    refine d_write I (by rw [e]; exact True.intro) hs ⟨q, hq⟩ ⟨hl, hd, _, (rel.put k eb rv).keeps fun c ys ec => ?_, q, es, ep, hq, h2, h3, h4, h5⟩
    rw [upd_ne (ne_of ec e (fun z => nomatch z))]
    exact ec
end

section
variable {X : Cx} {pins : List (Addr × Obj)} {σ : St} {H : Hp} {s : Shared} {a : Addr} {kvs : List (Key × V)} {k : Key} {u : Value} {A : Around} {E : Value → Shared → Prop}
end


def NoSl (i : Expr) : Prop := ∀ ov iv, subscripted i false ov iv = operate [ov, iv] (getItem ov iv)
theorem subD_of {prog : Program} {w : World} {A : Around} {E : Value → Shared → Prop} {s : Shared} {env : Env} {value slice : Expr} {pos : Pos} {T id : String} {Q : Value → Shared → Prop}
    (hl : typeLookup (.type T) "__getitem__" = pure (some (.builtin id))) (hs : NoSl slice)
    (h : wpAny (model prog w) A (eval value env) (fun o s₁ => wpAny (model prog w) A (eval slice env) (fun i s₂ => s₂.TypeIs o T ∧ wpAny (model prog w) A (getItem o i) Q E s₂) E s₁) E s) :
    wpAny (model prog w) A (eval (.Subscript value slice pos) env) Q E s := by
  refine Subscript_ (wpAny_mono h (fun o s₁ h₁ => wpAny_mono h₁ (fun i s₂ h₂ => ?_) fun _ _ x => x) fun _ _ x => x)
  obtain ⟨hT, h₂⟩ := h₂
  unfold subscriptTail
  refine wpAny_bind ?_
  rw [getitemInPython_of_ne hT.not_modules]
  refine wpAny_bind (wpAny_specialOf hT hl ?_)
  have fin : wpAny (model prog w) A (subscripted slice false o i) (fun r s₃ => wpAny (model prog w) A (letTemporaryGo value o r >>= fun _ => pure r) Q E s₃) E s₂ := by
    rw [hs o i]
    exact wpAny_operating (wpAny_mono h₂ (fun r s₃ h₃ => wpAny_bind (wpAny_letTemporaryGo (wpAny_pure h₃))) fun _ _ x => x)
  first
    | exact wpAny_pure (wpAny_bind fin)
    | exact wpAny_bind (wpAny_pure (wpAny_bind fin))
    | exact wpAny_bind fin

theorem dict_typeIs {X : Cx} {pins : List (Addr × Obj)} {σ : St} {H : Hp} {s : Shared} {a : Addr} {y : V} {o : Option V} (I : Inv X pins σ H s) (g : DGet H a y o) : s.TypeIs (.ref a) "dict" := by
  rcases g with ⟨kvs, k, e, _, _⟩ | ⟨kvs, k, b, e, _, _, _⟩
  · obtain ⟨_, _, vs, _, dd⟩ := dk_rd I.hok e
    exact dd.typeIs
  · obtain ⟨_, _, xs, _, dd⟩ := dt_rd I.hok e
    exact dd.typeIs
def tDGet (td ty : TE) : TE := fun σ H Q => td σ H fun x H1 => ty σ H1 fun y H2 => ∃ a v, x = .ref a ∧ DGet H2 a y (some v) ∧ Q v H2
def tDIn (ty td : TE) : TE := fun σ H Q => ty σ H fun y H1 => td σ H1 fun x H2 => ∃ a o, x = .ref a ∧ DGet H2 a y o ∧ Q (.bl o.isSome) H2
def tDNotIn (ty td : TE) : TE := fun σ H Q => ty σ H fun y H1 => td σ H1 fun x H2 => ∃ a o, x = .ref a ∧ DGet H2 a y o ∧ Q (.bl (!o.isSome)) H2
def sDPut (td ty tv : TE) : TS := fun D σ H => tv σ H fun v H1 => td σ H1 fun x H2 => ty σ H2 fun y H3 => ∃ a H4, x = .ref a ∧ DPut H3 a y v H4 ∧ D.nx σ H4
section
variable {X : Cx} {o i e value : Expr} {pos pos' tpos : Pos} {td ty tv : TE}
theorem pe_dget (hu : X.A.units + 1 < cLine) (ho : PE X o td) (hi : PE X i ty) (hs : NoSl i) : PE X (.Subscript o i pos) (tDGet td ty) := by
  intro pins s σ H Q I h
  refine subD_of PySem.F.slot_dict_getitem.lookup hs (thn (ho pins s σ H _ I h) fun u s1 ⟨x, H1, I1, rx, q1⟩ => thn (hi pins s1 σ H1 _ I1 q1) fun iv s2 ⟨y, H2, I2, ry, a, v, ex, g, q2⟩ => ?_)
  subst ex
  obtain rfl : u = Value.ref a := rx
  exact ⟨dict_typeIs I2 g, d_getItem hu I2 g ry fun w' s3 I3 rw' => ⟨v, H2, I3, rw', q2⟩⟩
theorem pc_din (hu : X.A.units + 1 < cLine) (hi : PE X i ty) (ho : PE X o td) : PC X .In i o (tDIn ty td) := by
  intro pins s σ H Q I h
  refine thn (hi pins s σ H _ I h) fun iv s1 ⟨y, H1, I1, ry, q1⟩ => thn (ho pins s1 σ H1 _ I1 q1) fun u s2 ⟨x, H2, I2, rx, a, ov, ex, g, q2⟩ => ?_
  subst ex
  obtain rfl : u = Value.ref a := rx
  exact d_in hu I2 g ry fun s3 I3 => ⟨.bl ov.isSome, H2, I3, rfl, q2⟩
theorem pc_dnotin (hu : X.A.units + 1 < cLine) (hi : PE X i ty) (ho : PE X o td) : PC X .NotIn i o (tDNotIn ty td) := by
  intro pins s σ H Q I h
  refine thn (hi pins s σ H _ I h) fun iv s1 ⟨y, H1, I1, ry, q1⟩ => thn (ho pins s1 σ H1 _ I1 q1) fun u s2 ⟨x, H2, I2, rx, a, ov, ex, g, q2⟩ => ?_
  subst ex
  obtain rfl : u = Value.ref a := rx
  exact d_notIn hu I2 g ry fun s3 I3 => ⟨.bl (!ov.isSome), H2, I3, rfl, q2⟩
theorem ps_dput (hu : X.A.units + 1 < cLine) (ho : PE X o td) (hi : PE X i ty) (hv : PE X value tv) (hs : swapsWith value (some (.Subscript o i pos')) pos.line X.env = pure false) :
    PS X (.Assign [.Subscript o i pos'] value pos) (sDPut td ty tv) := by
  intro pins s σ H D I h
  refine wpAny_Assign_Subscript (thn (hv pins s σ H _ I h) fun r s1 ⟨v, H1, I1, rv, q1⟩ => thn (ho pins s1 σ H1 _ I1 q1) fun u s2 ⟨x, H2, I2, rx, q2⟩ => thn (hi pins s2 σ H2 _ I2 q2) fun iv s3 ⟨y, H3, I3, ry, a, H4, ex, g, q3⟩ => ?_) hs
  subst ex
  obtain rfl : u = Value.ref a := rx
  exact d_setItem hu I3 g ry rv fun s4 I4 => ⟨σ, H4, I4, q3⟩
end


theorem dt_empty {P : Program} {w : World} {H : Hp} (h : Heap) (hb : sysModules < h.objs.size) : ObjOk P w H (h.push { cls := .type "dict", data := .dict #[] }) h.objs.size (.dT []) :=
  ⟨Nat.zero_le _, beq_eq_false_iff_ne.mpr (Ne.symm (Nat.ne_of_lt hb)), [], .nil, _, #[], 0, Heap.get?_push_size _ rfl, ⟨rfl, rfl, rfl⟩, rfl, rfl, List.nodup_nil⟩
def tDNewT : TE := fun _ H Q => ∀ p, H p = none → Q (.ref p) (upd H p (.dT []))
section
variable {X : Cx} {pos : Pos}
theorem pe_dnewT : PE X (.Dict [] [] pos) tDNewT := fun pins s σ H Q I h =>
  wpAny_Dict_empty ⟨.ref s.heap.objs.size, _, I.laid (a := s.heap.objs.size) (o := .dT []) (t' := s.toks) (fun _ _ q => Heap.get?_push_of_some _ q) (Nat.le_refl _) (dt_empty s.heap I.big), rfl, h _ (I.hok.fresh (Nat.le_refl _))⟩
end

end L2

namespace L2
open PySem PySem.Spec PyProof.Rows
theorem pick_back (its : List Value) : ∀ k, k ≤ its.length → ((List.range k).map fun j : Nat => (((its.length : Int) - 1) + -1 * (j : Int)).toNat).filterMap (its.toArray[·]?) = its.reverse.take k
  | 0, _ => by simp
  | k + 1, h => by
    have e : (((its.length : Int) - 1) + -1 * (k : Int)).toNat = its.length - 1 - k := by omega
    have hk : its.length - 1 - k < its.length := by omega
    rw [List.range_succ, List.map_append, List.filterMap_append, pick_back its k (by omega), List.take_add_one, List.getElem?_reverse (by omega)]
    congr 1
    simp only [List.map_cons, List.map_nil, e]
    rw [List.getElem?_eq_getElem hk]
    simp [hk]
theorem slicePick_rev (its : List Value) : slicePick its.toArray none none (some (-1)) = its.reverse.toArray := by
  have hb : sliceBounds none none (some (-1)) its.toArray.size = ((its.length : Int) - 1, -1, -1) := by
    simp only [sliceBounds, Option.getD_some, List.size_toArray, show ¬ ((-1 : Int) > 0) by decide, if_false]
  have hs : sliceRange ((its.length : Int) - 1) (-1) (-1) = (List.range its.length).map fun j : Nat => (((its.length : Int) - 1) + -1 * (j : Int)).toNat := by
    unfold sliceRange
    simp only [show ¬ ((-1 : Int) > 0) by decide, if_false]
    have e : (if (its.length : Int) - 1 > -1 then ((its.length : Int) - 1 - -1 - -1 - 1) / - -1 else 0) = (its.length : Int) := by
      split
      · have : ((its.length : Int) - 1 - -1 - -1 - 1) = (its.length : Int) := by omega
        rw [this, show (- -1 : Int) = 1 by decide, Int.ediv_one]
      · omega
    rw [e, Int.toNat_natCast]
  unfold slicePick
  rw [hb]
  show ((sliceRange ((its.length : Int) - 1) (-1) (-1)).filterMap (its.toArray[·]?)).toArray = _
  rw [hs, pick_back its _ (Nat.le_refl _), List.take_of_length_le (by simp)]
theorem slicePick_rev1 (its : List Value) : slicePick its.toArray none (some 0) (some (-1)) = (its.drop 1).reverse.toArray := by
  have hb : sliceBounds none (some 0) (some (-1)) its.toArray.size = ((its.length : Int) - 1, max (-1) (min 0 ((its.length : Int) - 1)), -1) := by
    simp only [sliceBounds, Option.getD_some, List.size_toArray, show ¬ ((-1 : Int) > 0) by decide, if_false, show ¬ ((0 : Int) < 0) by decide]
  have hs : sliceRange ((its.length : Int) - 1) (max (-1) (min 0 ((its.length : Int) - 1))) (-1) = (List.range (its.length - 1)).map fun j : Nat => (((its.length : Int) - 1) + -1 * (j : Int)).toNat := by
    unfold sliceRange
    simp only [show ¬ ((-1 : Int) > 0) by decide, if_false]
    have e : (if (its.length : Int) - 1 > max (-1) (min 0 ((its.length : Int) - 1)) then ((its.length : Int) - 1 - max (-1) (min 0 ((its.length : Int) - 1)) - -1 - 1) / - -1 else 0) = ((its.length - 1 : Nat) : Int) := by
      rw [show (- -1 : Int) = 1 by decide]
      split
      · rw [Int.ediv_one]; omega
      · omega
    rw [e, Int.toNat_natCast]
  unfold slicePick
  rw [hb]
  show ((sliceRange ((its.length : Int) - 1) (max (-1) (min 0 ((its.length : Int) - 1))) (-1)).filterMap (its.toArray[·]?)).toArray = _
  rw [hs, pick_back its _ (by omega), List.reverse_drop]
section
variable {X : Cx} {e ste : Expr} {te : TE} {lo hi : Option Expr} {tl th tk : TO} {pos p2 : Pos}
def rSlB (K : PySem.W.Frag) : V → Option Int → Option Int → Option Int → Hp → VK → Prop := fun x lo hi st H Q => ∃ a xs k, x = .ref a ∧ SqL K H a xs ∧ lo = none ∧ st = some (-1) ∧ ((hi = none ∧ k = 0) ∨ (hi = some 0 ∧ k = 1)) ∧ ∀ p, H p = none → Q (.ref p) (upd H p (.lst (xs.drop k).reverse))
def tSlB (K : PySem.W.Frag) (te : TE) (tl th tk : TO) : TE := fun σ H Q => te σ H fun x H1 => tl σ H1 fun l H2 => th σ H2 fun u H3 => tk σ H3 fun k H4 => rSlB K x l u k H4 Q
theorem pe_sliceR (he : PE X e te) (hl : PO X lo tl) (hu : PO X hi th) (hk : PO X (some ste) tk) : PE X (.Subscript e (.Slice lo hi (some ste) p2) pos) (tSlB X.K te tl th tk) := by
  intro pins s σ H Q I h
  refine Subscript_ (thn (he pins s σ H _ I h) fun v s1 ⟨x, H1, I1, r1, q1⟩ => ?_)
  refine wpAny_Slice (thn (hl pins s1 σ H1 _ I1 q1) fun vl s2 ⟨l, H2, I2, pl, q2⟩ => thn (hu pins s2 σ H2 _ I2 q2) fun vu s3 ⟨u, H3, I3, pu, q3⟩ => thn (hk pins s3 σ H3 _ I3 q3) fun vk s4 ⟨k, H4, I4, pk, q4⟩ => ?_)
  have I5 : Inv X pins σ H4 { s4 with heap := s4.heap.push { cls := .type "slice", data := .fields #[vl, vu, vk] } } := I4.kept (t' := s4.toks) fun b ob q => Heap.get?_push_of_some _ q
  obtain ⟨a, xs, n, rfl, hx, rfl, rfl, hh, q⟩ := q4
  cases r1
  obtain ⟨its, r, ht, hz⟩ := I5.list hx
  have hlen := r.length
  show wpAny (model X.prog X.w) X.A (subscriptTail e (.Slice lo hi (some ste) p2) (.ref a) (.ref s4.heap.objs.size)) (EP X pins σ Q) X.xe { s4 with heap := s4.heap.push { cls := .type "slice", data := .fields #[vl, vu, vk] } }
  refine tail_any (ops := [.ref a, .ref s4.heap.objs.size]) ht.isList.typeIs slot_list_getitem.lookup (wpAny_getItem_list_slice ht.isList (Heap.IsSliceOf.new ..) pl pu pk (by simp) ?_ (by rw [List.size_toArray] <;> omega)) (by with_unfolding_all rfl)
  have eq : slicePick its.toArray none u (some (-1)) = ((its.drop n).reverse).toArray := by
    rcases hh with ⟨rfl, rfl⟩ | ⟨rfl, rfl⟩
    · rw [slicePick_rev, List.drop_zero]
    · exact slicePick_rev1 its
  rw [eq]
  refine ⟨.ref _, _, I5.laid (o := .lst (xs.drop n).reverse) (fun b ob q => Heap.get?_push_of_some _ q) (Nat.le_refl _) ?_, rfl, q _ (I5.hok.fresh (Nat.le_refl _))⟩
  exact ⟨by rw [List.length_reverse, List.length_drop]; omega, _, 0, (r.drop n).reverse, Heap.get?_push_size _ rfl⟩
end
theorem rng_map {α : Type} (d : List Nat) (F : Nat → α) : (List.range d.length).map (fun i => F (d.getD i 0)) = d.map F := by
  apply List.ext_getElem?
  intro i
  by_cases h : i < d.length
  · rw [List.getElem?_map, List.getElem?_map, List.getElem?_range h, List.getElem?_eq_getElem h]
    simp [List.getD, h]
  · rw [List.getElem?_eq_none (by simp; omega), List.getElem?_eq_none (by simp; omega)]
end L2

namespace L2
open PySem PySem.Spec PyProof.Rows
theorem kpe_sliceR {X : Cx} {K : PySem.W.Frag} {e ste : Expr} {te : TE} {lo hi : Option Expr} {tl th tk : TO} {p2 pos : Pos} (hK : X.K = K) (he : PE X e te) (hl : PO X lo tl) (hu : PO X hi th) (hk : PO X (some ste) tk) : PE X (.Subscript e (.Slice lo hi (some ste) p2) pos) (tSlB K te tl th tk) := by subst hK; exact pe_sliceR he hl hu hk
end L2

namespace L2
open PySem PyProof.Rows
theorem vns_at {l : List Nat} {i : Nat} {x : V} (h : (vns l)[i]? = some x) : i < l.length ∧ x = vn (l.getD i 0) := by
  rw [List.getElem?_map] at h
  obtain ⟨y, h1, h2⟩ := Option.map_eq_some_iff.mp h
  obtain ⟨hi, rfl⟩ := List.getElem?_eq_some_iff.mp h1
  exact ⟨hi, by rw [← h2]; simp [List.getD, hi]⟩
end L2

namespace SO
open PySem PyProof PyProof.Rows

structure Kept (k : SortKind) (z : Array Keyed) (t : SortSt) : Prop where
  kd : kindOf t = k
  pm : (arrOf t).Perm z
  nf : failedOf t = none
  np : pendingOf t = #[]

def rk (ρ : Keyed → Int) (xs : Array Keyed) (i : Nat) : Int := (xs[i]?.map ρ).getD 0
def Up (ρ : Keyed → Int) (xs : Array Keyed) (m : Nat) : Prop := ∀ i j, i ≤ j → j < m → rk ρ xs i ≤ rk ρ xs j
def Dn (ρ : Keyed → Int) (xs : Array Keyed) (m : Nat) : Prop := ∀ i j, i ≤ j → j < m → rk ρ xs j ≤ rk ρ xs i

theorem rk_eq {ρ : Keyed → Int} {xs ys : Array Keyed} {i j : Nat} (e : xs[i]? = ys[j]?) : rk ρ xs i = rk ρ ys j := by
  simp only [rk, e]

theorem rk_bubble {ρ : Keyed → Int} {xs : Array Keyed} {a d : Nat} (ha : a < xs.size) (hd : d ≤ a) (i : Nat) :
    rk ρ (bubble xs a d) i = if i = a - d then rk ρ xs a else if a - d < i ∧ i ≤ a then rk ρ xs (i - 1) else rk ρ xs i := by
  have e := getElem?_bubble ha d hd i
  split
  · next q => rw [if_pos q] at e; exact rk_eq e
  · next q =>
    rw [if_neg q] at e
    split
    · next q2 => rw [if_pos q2] at e; exact rk_eq e
    · next q2 => rw [if_neg q2] at e; exact rk_eq e

theorem rk_mirror {ρ : Keyed → Int} {xs : Array Keyed} {a b : Nat} (hb : b ≤ xs.size) (i : Nat) :
    rk ρ (mirror xs a b ((b - a) / 2)) i = if a ≤ i ∧ i < b then rk ρ xs (a + b - 1 - i) else rk ρ xs i := by
  have e := getElem?_mirror_all (i := a) hb i
  split
  · next q => rw [if_pos q] at e; exact rk_eq e
  · next q => rw [if_neg q] at e; exact rk_eq e

theorem rk_level {ρ : Keyed → Int} {xs : Array Keyed} {a b : Nat} (hb : b ≤ xs.size)
    (h : ∀ i, a ≤ i → i < b → rk ρ xs i = rk ρ xs (b - 1)) (i : Nat) : rk ρ (mirror xs a b ((b - a) / 2)) i = rk ρ xs i := by
  rw [rk_mirror hb]
  by_cases q : a ≤ i ∧ i < b
  · rw [if_pos q]
    have h1 := h (a + b - 1 - i) (by omega) (by omega)
    have h2 := h i q.1 q.2
    omega
  · rw [if_neg q]

def Tells (M : Model) (A : Around) (E : Value → Shared → Prop) (s : Shared) (k : SortKind) (z : Array Keyed) (ρ : Keyed → Int) : Prop :=
  ∀ (p q : Keyed) (t : SortSt) (Q : Option Bool → SortSt → Prop), p ∈ z.toList → q ∈ z.toList → kindOf t = k →
    Q (some (decide (ρ p < ρ q))) t → wpS M A E s (lt' p q) Q t

section
variable {M : Model} {A : Around} {E : Value → Shared → Prop} {s : Shared} {k : SortKind} {z : Array Keyed} {ρ : Keyed → Int}

theorem Kept.len {t : SortSt} (h : Kept k z t) : (arrOf t).size = z.size := h.pm.size_eq

theorem Kept.put {t : SortSt} (h : Kept k z t) {xs : Array Keyed} (q : xs.Perm (arrOf t)) : Kept k z (setArr t xs) :=
  ⟨h.kd, q.trans h.pm, h.nf, h.np⟩

theorem Kept.nth {t : SortSt} (h : Kept k z t) {i : Nat} (hi : i < z.size) :
    ∃ p, (arrOf t)[i]? = some p ∧ p ∈ z.toList ∧ rk ρ (arrOf t) i = ρ p := by
  have hi' : i < (arrOf t).size := by rw [h.len]; exact hi
  have e : (arrOf t)[i]? = some (arrOf t)[i] := getElem?_pos _ i hi'
  refine ⟨_, e, (Array.perm_iff_toList_perm.mp h.pm).mem_iff.mp (by simp), ?_⟩
  simp [rk, e]

theorem less (T : Tells M A E s k z ρ) {t : SortSt} (h : Kept k z t) {i j : Nat} (hi : i < z.size) (hj : j < z.size) {Q : Option Bool → SortSt → Prop}
    (q : Q (some (decide (rk ρ (arrOf t) i < rk ρ (arrOf t) j))) t) : wpS M A E s (ltAt' i j) Q t := by
  obtain ⟨a, ea, ma, ra⟩ := h.nth (ρ := ρ) hi
  obtain ⟨b, eb, mb, rb⟩ := h.nth (ρ := ρ) hj
  rw [ra, rb] at q
  rw [ltAt'_eq]
  refine wpS_bind (wpS_get ?_)
  have e1 : elem' (arrOf t) i = pure a := by rw [elem'_eq, ea]
  have e2 : elem' (arrOf t) j = pure b := by rw [elem'_eq, eb]
  show wpS M A E s (elem' (arrOf t) i >>= fun u => elem' (arrOf t) j >>= fun v => lt' u v) Q t
  rw [e1, e2]
  exact wpS_bind (wpS_pure (wpS_bind (wpS_pure (T a b t Q ma mb h.kd q))))

def Slot (ρ : Keyed → Int) (xs : Array Keyed) (m l r : Nat) : Prop :=
  l ≤ r ∧ r ≤ m ∧ (∀ i, i < l → rk ρ xs i ≤ rk ρ xs m) ∧ (∀ i, r ≤ i → i < m → rk ρ xs m < rk ρ xs i)

theorem Up.slotted {xs : Array Keyed} {m l : Nat} (hm : m < xs.size) (hu : Up ρ xs m) (h : Slot ρ xs m l l) : Up ρ (bubble xs m (m - l)) (m + 1) := by
  obtain ⟨_, h2, h3, h4⟩ := h
  intro i j hij hj
  have el : m - (m - l) = l := by omega
  rw [rk_bubble hm (by omega), rk_bubble hm (by omega), el]
  by_cases c1 : i < l
  · rw [if_neg (by omega), if_neg (by omega)]
    by_cases c2 : j = l
    · rw [if_pos c2]; exact h3 i c1
    · rw [if_neg c2]
      by_cases c3 : l < j ∧ j ≤ m
      · rw [if_pos c3]; exact hu _ _ (by omega) (by omega)
      · rw [if_neg c3]; exact hu _ _ hij (by omega)
  · by_cases c2 : j = l
    · have : i = l := by omega
      rw [if_pos c2, if_pos this]; exact Int.le_refl _
    · rw [if_neg c2, if_pos (show l < j ∧ j ≤ m by omega)]
      by_cases c3 : i = l
      · rw [if_pos c3]; exact Int.le_of_lt (h4 _ (by omega) (by omega))
      · rw [if_neg c3, if_pos (by omega)]; exact hu _ _ (by omega) (by omega)

theorem inserted (T : Tells M A E s k z ρ) {t : SortSt} {n d : Nat} (hn : n ≤ z.size) (hd : d ≤ n) (hK : Kept k z t) (hu : Up ρ (arrOf t) d)
    {Q : Bool → SortSt → Prop} (q : ∀ t', Kept k z t' → Up ρ (arrOf t') n → Q true t') : wpS M A E s (binarySort' 0 n d) Q t := by
  rw [binarySort'_eq]
  simp only [Nat.zero_add]
  refine wpS_bind (wpS_mono (wpS_forRange (Q := fun c t' => c = (none, ()) ∧ Kept k z t' ∧ Up ρ (arrOf t') n)
    (fun m c t' => c = (none, ()) ∧ Kept k z t' ∧ Up ρ (arrOf t') (min m n)) ?_ ?_ ?_) fun c t' h => by obtain ⟨rfl, a, b⟩ := h; exact wpS_pure (q t' a b))
  · rintro m c t' h1 h2 ⟨rfl, hK', hu'⟩
    rw [Nat.min_eq_left (by omega)] at hu'
    have hm : m < z.size := by omega
    have hm' : m < (arrOf t').size := by rw [hK'.len]; exact hm
    refine wpS_bind (wpS_mono (wpS_forRange (Q := fun c t2 => t2 = t' ∧ ∃ l, c = (none, l, l) ∧ Slot ρ (arrOf t') m l l)
      (fun x c t2 => t2 = t' ∧ ∃ l r, c = (none, l, r) ∧ r - l ≤ m - x ∧ Slot ρ (arrOf t') m l r) ?_ ?_ ?_) ?_)
    · rintro x c t2 _ hx ⟨rfl, l, r, rfl, hs, hS⟩
      dsimp only
      obtain ⟨s1, s2, s3, s4⟩ := hS
      by_cases hlr : l ≥ r
      · rw [if_pos hlr]
        exact wpS_pure ⟨rfl, l, by rw [show r = l by omega], Nat.le_refl _, by omega, s3, fun i a b => s4 i (by omega) b⟩
      · rw [if_neg hlr]
        refine wpS_bind (less T hK' hm (show (l + r) / 2 < z.size by omega) ?_)
        by_cases hc : rk ρ (arrOf t2) m < rk ρ (arrOf t2) ((l + r) / 2)
        · rw [decide_eq_true hc]
          simp only [if_true]
          refine wpS_pure ⟨rfl, l, (l + r) / 2, rfl, by omega, by omega, by omega, s3, fun i a b => ?_⟩
          exact Int.lt_of_lt_of_le hc (hu' _ _ a b)
        · rw [decide_eq_false hc]
          simp only [Bool.false_eq_true, if_false]
          refine wpS_pure ⟨rfl, (l + r) / 2 + 1, r, rfl, by omega, by omega, by omega, fun i a => ?_, s4⟩
          have := hu' i ((l + r) / 2) (by omega) (by omega)
          omega
    · rintro c t2 ⟨rfl, l, r, rfl, hs, hS⟩
      have e : r = l := by have := hS.1; omega
      subst e
      exact ⟨rfl, _, rfl, hS⟩
    · exact ⟨rfl, 0, m, rfl, by omega, by omega, by omega, fun i a => by omega, fun i a b => by omega⟩
    · rintro c t2 ⟨rfl, l, rfl, hS⟩
      dsimp only
      rw [moveDown'_eq]
      refine wpS_bind (wpS_modify (wpS_pure ⟨rfl, hK'.put (bubble_perm _ _ _), ?_⟩))
      rw [Nat.min_eq_left (by omega)]
      exact hu'.slotted hm' hS
  · rintro c t' ⟨e, hK', hu'⟩
    refine ⟨e, hK', ?_⟩
    rwa [show min (max (max d 1) n) n = n by omega] at hu'
  · refine ⟨rfl, hK, fun i j hij hj => ?_⟩
    by_cases hd0 : d = 0
    · rw [show i = j by omega]; exact Int.le_refl _
    · exact hu i j hij (by omega)
end
end SO

namespace SO
open PySem PyProof PyProof.Rows
section
variable {prog : Program} {w : World} {A : Around} {E : Value → Shared → Prop} {s : Shared} {k : SortKind} {z : Array Keyed} {ρ : Keyed → Int}

theorem Up.one (xs : Array Keyed) {m : Nat} (h : m ≤ 1) : Up ρ xs m := fun i j a b => by
  rw [show i = j by omega]; exact Int.le_refl _

theorem Up.more {xs : Array Keyed} {m : Nat} (hu : Up ρ xs m) (h : ¬ rk ρ xs m < rk ρ xs (m - 1)) : Up ρ xs (m + 1) := by
  intro i j a b
  by_cases c : j < m
  · exact hu i j a c
  · rw [show j = m by omega]
    by_cases c2 : i = m
    · rw [c2]; exact Int.le_refl _
    · have := hu i (m - 1) (by omega) (by omega); omega

theorem Dn.more {xs : Array Keyed} {m : Nat} (hu : Dn ρ xs m) (h : rk ρ xs m ≤ rk ρ xs (m - 1)) : Dn ρ xs (m + 1) := by
  intro i j a b
  by_cases c : j < m
  · exact hu i j a c
  · rw [show j = m by omega]
    by_cases c2 : i = m
    · rw [c2]; exact Int.le_refl _
    · have := hu i (m - 1) (by omega) (by omega); omega

theorem Dn.same {xs ys : Array Keyed} {m : Nat} (hu : Dn ρ xs m) (h : ∀ i, rk ρ ys i = rk ρ xs i) : Dn ρ ys m := fun i j a b => by
  rw [h, h]; exact hu i j a b

theorem Dn.turned {xs : Array Keyed} {m : Nat} (hm : m ≤ xs.size) (hu : Dn ρ xs m) : Up ρ (mirror xs 0 m ((m - 0) / 2)) m := fun i j a b => by
  rw [rk_mirror hm, rk_mirror hm, if_pos (by omega), if_pos (by omega)]
  exact hu _ _ (by omega) (by omega)

theorem rising (T : Tells (model prog w) A E s k z ρ) {t : SortSt} {a n : Nat} (hn : n ≤ z.size) (h1 : 1 ≤ a) (h2 : a ≤ n) (hK : Kept k z t) (hu : Up ρ (arrOf t) a)
    {Q : AscSt → SortSt → Prop}
    (q : ∀ m, a ≤ m → m ≤ n → Up ρ (arrOf t) m → (m = n ∨ rk ρ (arrOf t) m < rk ρ (arrOf t) (m - 1)) → Q (none, m) t) :
    wpS (model prog w) A E s (ascLoop a n) Q t := by
  unfold ascLoop
  refine wpS_forRange (fun x c t' => c = (none, x) ∧ t' = t ∧ Up ρ (arrOf t) x) ?_ ?_ ⟨rfl, rfl, hu⟩
  · rintro x c t' g1 g2 ⟨rfl, rfl, hx⟩
    dsimp only
    refine wpS_bind (less T hK (show x < z.size by omega) (show x - 1 < z.size by omega) ?_)
    by_cases c : rk ρ (arrOf t') x < rk ρ (arrOf t') (x - 1)
    · rw [decide_eq_true c]; simp only [if_true]
      exact wpS_pure (q x g1 (by omega) hx (Or.inr c))
    · rw [decide_eq_false c]; simp only [Bool.false_eq_true, if_false]
      exact wpS_pure ⟨rfl, rfl, hx.more c⟩
  · rintro c t' ⟨rfl, rfl, hx⟩
    have e : max a n = n := by omega
    rw [e] at hx ⊢
    exact q n h2 (Nat.le_refl _) hx (Or.inl rfl)

def Flat (ρ : Keyed → Int) (xs : Array Keyed) (m e : Nat) : Prop := e + 1 ≤ m ∧ ∀ i, m - (e + 1) ≤ i → i < m → rk ρ xs i = rk ρ xs (m - 1)

theorem Flat.nought (xs : Array Keyed) {m : Nat} (h : 1 ≤ m) : Flat ρ xs m 0 := ⟨h, fun i a b => by rw [show i = m - 1 by omega]⟩

theorem Flat.more {xs : Array Keyed} {m e : Nat} (h : Flat ρ xs m e) (g : rk ρ xs m = rk ρ xs (m - 1)) : Flat ρ xs (m + 1) (e + 1) :=
  ⟨by have := h.1; omega, fun i a b => by
    rw [show m + 1 - 1 = m by omega]
    by_cases c : i = m
    · rw [c]
    · rw [g]; exact h.2 i (by omega) (by omega)⟩

theorem back (T : Tells (model prog w) A E s k z ρ) {t : SortSt} {m n : Nat} (hn : n ≤ z.size) (h1 : 1 ≤ m) (h2 : m ≤ n) (hK : Kept k z t) (hd : Dn ρ (arrOf t) m)
    {Q : Option Nat → SortSt → Prop} (q : ∀ m' t', 1 ≤ m' → m' ≤ n → Kept k z t' → Up ρ (arrOf t') m' → Q (some m') t') :
    wpS (model prog w) A E s (tail3 m n) Q t := by
  unfold tail3
  have hs : m ≤ (arrOf t).size := by rw [hK.len]; omega
  refine wpS_bind (wpS_reverse ?_)
  have hK' := hK.put (mirror_perm (arrOf t) 0 m ((m - 0) / 2))
  refine wpS_bind (rising T hn h1 h2 hK' (hd.turned hs) fun m' g1 g2 g3 _ => ?_)
  exact wpS_pure (q m' _ (by omega) g2 hK' g3)

theorem falling (T : Tells (model prog w) A E s k z ρ) {t : SortSt} {m n : Nat} (hn : n ≤ z.size) (h1 : 1 ≤ m) (h2 : m ≤ n) (hK : Kept k z t) (hd : Dn ρ (arrOf t) m)
    {Q : DescSt → SortSt → Prop}
    (q : ∀ m' e t', 1 ≤ m' → m' ≤ n → Kept k z t' → Dn ρ (arrOf t') m' → Flat ρ (arrOf t') m' e → Q (none, m', e) t') :
    wpS (model prog w) A E s (descLoop m n) Q t := by
  unfold descLoop
  refine wpS_forRange (fun x c t' => ∃ e, c = (none, x, e) ∧ Kept k z t' ∧ Dn ρ (arrOf t') x ∧ Flat ρ (arrOf t') x e) ?_ ?_ ⟨0, rfl, hK, hd, Flat.nought _ h1⟩
  · rintro x c t' g1 g2 ⟨e, rfl, hK', hx, hF⟩
    dsimp only
    have hs : x ≤ (arrOf t').size := by rw [hK'.len]; omega
    refine wpS_bind (less T hK' (show x < z.size by omega) (show x - 1 < z.size by omega) ?_)
    by_cases c : rk ρ (arrOf t') x < rk ρ (arrOf t') (x - 1)
    · rw [decide_eq_true c]; simp only [if_true]
      have hm := hx.more (Int.le_of_lt c)
      by_cases c2 : e > 0
      · rw [if_pos c2]
        refine wpS_bind (wpS_reverse (wpS_pure ⟨0, rfl, hK'.put (mirror_perm _ _ _ _), hm.same (rk_level hs hF.2), Flat.nought _ (by omega)⟩))
      · rw [if_neg c2]
        exact wpS_pure ⟨0, rfl, hK', hm, Flat.nought _ (by omega)⟩
    · rw [decide_eq_false c]; simp only [Bool.false_eq_true, if_false]
      refine wpS_bind (less T hK' (show x - 1 < z.size by omega) (show x < z.size by omega) ?_)
      by_cases c2 : rk ρ (arrOf t') (x - 1) < rk ρ (arrOf t') x
      · rw [decide_eq_true c2]; simp only [if_true]
        exact wpS_pure (q x e t' (by omega) (by omega) hK' hx hF)
      · rw [decide_eq_false c2]; simp only [Bool.false_eq_true, if_false]
        have e2 : rk ρ (arrOf t') x = rk ρ (arrOf t') (x - 1) := by omega
        exact wpS_pure ⟨e + 1, rfl, hK', hx.more (by omega), hF.more e2⟩
  · rintro c t' ⟨e, rfl, hK', hx, hF⟩
    have e2 : max m n = n := by omega
    rw [e2] at hx hF ⊢
    exact q n e t' (by omega) (Nat.le_refl _) hK' hx hF

theorem fallen (T : Tells (model prog w) A E s k z ρ) {t : SortSt} {m n : Nat} (hn : n ≤ z.size) (h2 : m + 1 ≤ n) (hK : Kept k z t) (hd : Dn ρ (arrOf t) (m + 1))
    {Q : Option Nat → SortSt → Prop} (q : ∀ m' t', 1 ≤ m' → m' ≤ n → Kept k z t' → Up ρ (arrOf t') m' → Q (some m') t') :
    wpS (model prog w) A E s (descPart m n) Q t := by
  unfold descPart
  refine wpS_bind (wpS_lift (wpAny_rule ⟨rfl, ?_⟩))
  refine wpS_bind (falling T hn (by omega) h2 hK hd fun m' e t' g1 g2 g3 g4 g5 => ?_)
  dsimp only
  have hs : m' ≤ (arrOf t').size := by rw [g3.len]; omega
  by_cases c : e > 0
  · rw [if_pos c]
    exact wpS_bind (wpS_reverse (back T hn g1 g2 (g3.put (mirror_perm _ _ _ _)) (g4.same (rk_level hs g5.2)) q))
  · rw [if_neg c]
    exact back T hn g1 g2 g3 g4 q

theorem run (T : Tells (model prog w) A E s k z ρ) {t : SortSt} {n : Nat} (hn : n ≤ z.size) (h1 : 1 ≤ n) (hK : Kept k z t)
    {Q : Option Nat → SortSt → Prop} (q : ∀ m' t', 1 ≤ m' → m' ≤ n → Kept k z t' → Up ρ (arrOf t') m' → Q (some m') t') :
    wpS (model prog w) A E s (countRun' 0 n) Q t := by
  rw [countRun0_eq]
  refine wpS_bind (rising T hn (Nat.le_refl 1) h1 hK (Up.one _ (Nat.le_refl 1)) fun m g1 g2 g3 g4 => ?_)
  dsimp only
  by_cases c : m = n
  · rw [if_pos (by simpa using c)]
    exact wpS_pure (q m t g1 g2 hK g3)
  rw [if_neg (by simpa using c)]
  have lt := g4.resolve_left c
  have hs : m ≤ (arrOf t).size := by rw [hK.len]; omega
  by_cases c2 : m > 1
  · rw [if_pos c2]
    refine wpS_bind (less T hK (show 0 < z.size by omega) (show m - 1 < z.size by omega) ?_)
    by_cases c3 : rk ρ (arrOf t) 0 < rk ρ (arrOf t) (m - 1)
    · rw [decide_eq_true c3]; simp only [if_true]
      exact wpS_pure (q m t g1 g2 hK g3)
    · rw [decide_eq_false c3]; simp only [Bool.false_eq_true, if_false]
      have lev : ∀ i, 0 ≤ i → i < m → rk ρ (arrOf t) i = rk ρ (arrOf t) (m - 1) := fun i _ b => by
        have a1 := g3 0 i (by omega) b
        have a2 := g3 i (m - 1) (by omega) (by omega)
        omega
      have hd : Dn ρ (arrOf t) m := fun i j a b => by
        rw [lev i (by omega) (by omega), lev j (by omega) b]; exact Int.le_refl _
      exact wpS_bind (wpS_reverse (fallen T hn (by omega) (hK.put (mirror_perm _ _ _ _)) ((hd.more (Int.le_of_lt lt)).same (rk_level hs lev)) q))
  · rw [if_neg c2]
    have e : m = 1 := by omega
    have hd : Dn ρ (arrOf t) m := fun i j a b => by rw [show i = j by omega]; exact Int.le_refl _
    exact fallen T hn (by omega) hK (hd.more (Int.le_of_lt lt)) q
end
end SO

namespace SO
open PySem PyProof PyProof.Rows
section
variable {prog : Program} {w : World} {A : Around} {E : Value → Shared → Prop} {s : Shared} {k : SortKind} {z : Array Keyed} {ρ : Keyed → Int}

def Ended (ρ : Keyed → Int) (z : Array Keyed) (t : SortSt) : Prop :=
  (arrOf t).Perm z ∧ Up ρ (arrOf t) z.size ∧ failedOf t = none ∧ (pendingOf t).size ≤ 1

theorem Kept.ended {t : SortSt} (h : Kept k z t) (hu : Up ρ (arrOf t) z.size) (x : Nat × Nat × Nat) : Ended ρ z (setPending t ((pendingOf t).push x)) := by
  refine ⟨h.pm, hu, h.nf, ?_⟩
  show ((pendingOf t).push x).size ≤ 1
  rw [h.np]; exact Nat.le_refl 1

theorem ordered (T : Tells (model prog w) A E s k z ρ) {t : SortSt} (h2 : 2 ≤ z.size) (h64 : z.size < 64) (hK : Kept k z t)
    {Q : Unit → SortSt → Prop} (q : ∀ t', (arrOf t').Perm z → failedOf t' = none → Up ρ (arrOf t') z.size → Q () t') :
    wpS (model prog w) A E s sortRuns' Q t := by
  have least : minRun' z.size z.size 0 = z.size := by
    cases e : z.size with
    | zero => omega
    | succ f => rw [e] at h64; rw [minRun'_succ, if_pos h64]
  rw [sortRuns'_eq]
  refine wpS_bind (wpS_get ?_)
  dsimp only
  simp only [hK.len, least]
  refine wpS_bind (wpS_mono (wpS_forRange (Q := fun c t' => c = (none, z.size) ∧ Ended ρ z t')
    (fun x c t' => (x = 0 ∧ c = (none, 0) ∧ Kept k z t') ∨ (0 < x ∧ c = (none, z.size) ∧ Ended ρ z t')) ?_ ?_ ?_) ?_)
  · rintro x c t' _ hx (⟨rfl, rfl, hK'⟩ | ⟨g, rfl, hE⟩)
    · dsimp only
      rw [if_neg (by omega)]
      simp only [Nat.sub_zero, Nat.min_self, Nat.zero_add]
      refine wpS_bind (run T (Nat.le_refl _) (by omega) hK' fun m t2 g1 g2 g3 g4 => ?_)
      dsimp only
      by_cases c : m < z.size
      · rw [if_pos c]
        refine wpS_bind (wpS_lift (wpAny_rule ⟨rfl, ?_⟩))
        refine wpS_bind (inserted T (Nat.le_refl _) g2 g3 g4 fun t3 g5 g6 => ?_)
        simp only [Bool.not_true, Bool.false_eq_true, if_false]
        refine wpS_bind (wpS_get ?_)
        have e : (pendingOf t3).back? = none := by rw [g5.np]; rfl
        rw [e]
        exact wpS_bind (wpS_modify (wpS_pure (Or.inr ⟨by omega, rfl, g5.ended g6 _⟩)))
      · rw [if_neg c]
        have e1 : m = z.size := by omega
        subst e1
        refine wpS_bind (wpS_get ?_)
        have e : (pendingOf t2).back? = none := by rw [g3.np]; rfl
        rw [e]
        exact wpS_bind (wpS_modify (wpS_pure (Or.inr ⟨by omega, rfl, g3.ended g4 _⟩)))
    · dsimp only
      rw [if_pos (Nat.le_refl _)]
      exact wpS_pure ⟨rfl, hE⟩
  · rintro c t' (⟨g, _, _⟩ | ⟨_, e, hE⟩)
    · omega
    · exact ⟨e, hE⟩
  · exact Or.inl ⟨rfl, rfl, hK⟩
  · rintro c t' ⟨rfl, hE⟩
    dsimp only
    refine wpS_bind (wpS_mono (wpS_forRange (Q := fun c t2 => c = (none, ()) ∧ t2 = t') (fun _ c t2 => c = (none, ()) ∧ t2 = t') ?_ (fun _ _ h => h) ⟨rfl, rfl⟩) ?_)
    · rintro x c t2 _ _ ⟨rfl, rfl⟩
      refine wpS_bind (wpS_get ?_)
      rw [if_pos hE.2.2.2]
      exact wpS_pure ⟨rfl, rfl⟩
    · rintro c t2 ⟨rfl, rfl⟩
      exact wpS_pure (q _ hE.1 hE.2.2.1 hE.2.1)

def amid (h : Heap) (a : Addr) (vs : List Value) : Heap :=
  ((h.update a (Obj.mapSeq fun _ => #[])).push (seqObj "tuple" vs.toArray 0)).push (seqObj "list" #[] 0)

abbrev zipped (vs : List Value) : Array Keyed := vs.toArray.zip vs.toArray

theorem zipped_size (vs : List Value) : (zipped vs).size = vs.length := by simp [zipped]

theorem sort_list {a : Addr} {vs : List Value} {n : Nat} {P : Fin → Shared → Prop} (ho : s.heap.get? a = some (seqObj "list" vs.toArray n)) (h64 : vs.length < 64)
    (hk : 2 ≤ vs.length → ∀ {Q : SortKind → Shared → Prop}, Q k { s with heap := amid s.heap a vs } → wpAny (model prog w) A (keyKind' vs.toArray) Q E { s with heap := amid s.heap a vs })
    (T : Tells (model prog w) A (fun _ _ => False) { s with heap := amid s.heap a vs } k (zipped vs) ρ)
    (h : ∀ xs : Array Keyed, xs.Perm (zipped vs) → Up ρ xs vs.length → P (.done (.ret .none)) { s with heap := sortedHeap s.heap a vs (xs.map (·.2)) }) :
    wpAny (model prog w) A (Builtin.«list.sort» ⟨[.ref a], []⟩) P E s := by
  have ha : a < s.heap.objs.size := Heap.lt_size ho
  obtain ⟨n1, ho1⟩ : ∃ n1, (s.heap.update a (Obj.mapSeq fun _ => #[])).get? a = some (seqObj "list" #[] n1) := ⟨_, get?_update_seq ho (fun _ => #[])⟩
  have ho2 : (amid s.heap a vs).get? a = some (seqObj "list" #[] n1) := Heap.get?_push_of_some _ (Heap.get?_push_of_some _ ho1)
  have room : ∀ xs : Array Keyed, xs.Perm (zipped vs) → (xs.map (·.2)).size ≤ sizeLine + 1 := fun xs p => by
    rw [Array.size_map, p.size_eq, zipped_size, sizeLine_eq]; omega
  rw [list_sort_plain]
  refine wpAny_bind (listItems_at ho rfl ?_)
  refine wpAny_bind (listUpdate_at ho rfl ?_)
  refine wpAny_bind (seqEpoch_at ho1 rfl ?_)
  refine wpAny_bind (wpAny_newTuple ?_)
  refine wpAny_bind (wpAny_newList ?_)
  refine wpAny_holding ?_
  show wpAny (model prog w) A _ P E { s with heap := amid s.heap a vs }
  dsimp only
  have last : ∀ t : SortSt, (arrOf t).Perm (zipped vs) → failedOf t = none → Up ρ (arrOf t) vs.length →
      wpAny (model prog w) A (do
        let out := (arrOf t).map (·.2)
        let touched := (← seqEpoch a) != n1
        Builtin.List.listUpdate (.ref a) fun _ => out
        if let some e := failedOf t then rule "list.sort.comparison-raised"; throw e
        if touched then rule "list.sort.modified"; raiseError "ValueError" "list modified during sort"
        ret .none) P E { s with heap := amid s.heap a vs } := by
    intro t p f u
    refine wpAny_bind (seqEpoch_at ho2 rfl ?_)
    refine wpAny_bind (listUpdate_at ho2 rfl ?_ (hsz2 := room _ p))
    rw [f]
    simp only [bne_self_eq_false, Bool.false_eq_true, if_false]
    exact wpAny_pure (h _ p u)
  by_cases c : vs.length < 2
  · have c' : vs.toArray.size < 2 := by simpa using c
    rw [if_pos c', if_pos c']
    refine wpAny_bind (wpAny_pure ?_)
    rw [StateT.run_pure]
    refine wpAny_bind (wpAny_pure ?_)
    exact last (SortSt.mk' general' (zipped vs) #[] 7 none) (Array.Perm.refl _) rfl (Up.one _ (by omega))
  · have c' : ¬ vs.toArray.size < 2 := by simpa using c
    rw [if_neg c', if_neg c']
    refine wpAny_bind (hk (by omega) ?_)
    refine wpAny_bind (wpAny_mono (ordered (Q := fun _ t => (arrOf t).Perm (zipped vs) ∧ failedOf t = none ∧ Up ρ (arrOf t) (zipped vs).size) T
      (t := SortSt.mk' k (zipped vs) #[] 7 none) (by rw [zipped_size]; omega) (by rw [zipped_size]; exact h64) ⟨rfl, Array.Perm.refl _, rfl, rfl⟩
      fun t' a1 a2 a3 => ⟨a1, a2, a3⟩) ?_ fun _ _ e => e.elim)
    rintro ⟨⟨⟩, t⟩ s' ⟨rfl, p, f, u⟩
    rw [zipped_size] at u
    exact last t p f u

def ahead (h : Heap) (vs : List Value) : Heap :=
  ((h.push (seqObj "list" #[] 0)).update h.objs.size (Obj.mapSeq (· ++ vs.toArray))).push (seqObj "list" vs.toArray 0)

theorem sorted_list {l : Addr} {vs : List Value} {Q : Value → Shared → Prop} (hl : s.heap.IsList l vs.toArray) (h64 : vs.length < 64)
    (hk : 2 ≤ vs.length → ∀ {E : Value → Shared → Prop} {Q : SortKind → Shared → Prop}, Q k { s with heap := amid (ahead s.heap vs) (s.heap.objs.size + 1) vs } →
      wpAny (model prog w) A.in1.in1 (keyKind' vs.toArray) Q E { s with heap := amid (ahead s.heap vs) (s.heap.objs.size + 1) vs })
    (T : Tells (model prog w) A.in1.in1 (fun _ _ => False) { s with heap := amid (ahead s.heap vs) (s.heap.objs.size + 1) vs } k (zipped vs) ρ)
    (h : ∀ xs : Array Keyed, xs.Perm (zipped vs) → Up ρ xs vs.length → Q (.ref (s.heap.objs.size + 1)) { s with heap := sortedAll s.heap vs (xs.map (·.2)) }) :
    wpAny (model prog w) A (call (.builtin "sorted") [.ref l]) Q E s := by
  have sz : ((s.heap.push (seqObj "list" #[] 0)).update s.heap.objs.size (Obj.mapSeq (· ++ vs.toArray))).objs.size = s.heap.objs.size + 1 := by
    rw [Heap.size_update, size_push']
  have ho : (ahead s.heap vs).get? (s.heap.objs.size + 1) = some (seqObj "list" vs.toArray 0) := by
    unfold ahead; rw [← sz]; exact Heap.get?_push_size _ rfl
  refine Calls.call_function_entry kind_sorted plain_sorted entry_sorted (args_sorted1 _) ?_
  unfold Builtin.«sorted»
  refine wpAny_bind (m := checkCount "sorted" 1 1 _) (wpAny_pure ?_)
  refine wpAny_bind (collect_list hl ?_)
  refine wpAny_bind (wpAny_newList ?_)
  rw [sz]
  show wpAny (model prog w) _ _ _ _ { s with heap := ahead s.heap vs }
  refine wpAny_bind (wpAny_holding (wpAny_call_entry slot_list_sort ⟨_, ho, rfl⟩ entry_list_sort
    (sort_list (s := { s with heap := ahead s.heap vs }) (k := k) (ρ := ρ) ho h64 (fun g _ q => hk g q) T fun xs p u => ⟨_, rfl, ?_⟩) (args_list_sort _)))
  exact wpAny_pure ⟨_, rfl, h xs p u⟩
end
end SO

namespace SO
def lx : List Int → List Int → Bool
  | [], [] => false
  | [], _ :: _ => true
  | _ :: _, [] => false
  | a :: x, b :: y => if a = b then lx x y else decide (a < b)

theorem lx_self : ∀ x : List Int, lx x x = false
  | [] => rfl
  | a :: x => by unfold lx; rw [if_pos rfl]; exact lx_self x

theorem lx_trans : ∀ x y u : List Int, lx x y = true → lx y u = true → lx x u = true
  | [], [], _, h, _ => by simp [lx] at h
  | [], _ :: _, [], _, h => by simp [lx] at h
  | [], _ :: _, _ :: _, _, _ => rfl
  | _ :: _, [], _, h, _ => by simp [lx] at h
  | _ :: _, _ :: _, [], _, h => by simp [lx] at h
  | a :: x, b :: y, c :: u, h1, h2 => by
    unfold lx at h1 h2 ⊢
    by_cases e1 : a = b
    · rw [if_pos e1] at h1
      by_cases e2 : b = c
      · rw [if_pos e2] at h2; rw [if_pos (e1.trans e2)]; exact lx_trans x y u h1 h2
      · rw [if_neg e2] at h2; rw [if_neg (by omega)]; rw [e1]; exact h2
    · rw [if_neg e1] at h1
      have l1 := of_decide_eq_true h1
      by_cases e2 : b = c
      · rw [if_neg (by omega)]; exact decide_eq_true (by omega)
      · rw [if_neg e2] at h2
        have l2 := of_decide_eq_true h2
        rw [if_neg (by omega)]; exact decide_eq_true (by omega)

theorem lx_total : ∀ x y : List Int, lx x y = false → lx y x = false → x = y
  | [], [], _, _ => rfl
  | [], _ :: _, h, _ => by simp [lx] at h
  | _ :: _, [], _, h => by simp [lx] at h
  | a :: x, b :: y, h1, h2 => by
    unfold lx at h1 h2
    by_cases e : a = b
    · rw [if_pos e] at h1; rw [if_pos e.symm] at h2; rw [e, lx_total x y h1 h2]
    · rw [if_neg e] at h1; rw [if_neg (fun g => e g.symm)] at h2
      have l1 := of_decide_eq_false h1; have l2 := of_decide_eq_false h2; omega

def place (L : List (List Int)) (x : List Int) : Nat := L.countP fun y => lx y x

theorem place_le (L : List (List Int)) {x y : List Int} (h : lx x y = true) : place L x ≤ place L y :=
  List.countP_mono_left fun u _ g => lx_trans u x y g h

theorem place_lt : ∀ (L : List (List Int)) {x y : List Int}, x ∈ L → lx x y = true → place L x < place L y
  | [], _, _, m, _ => by cases m
  | u :: L, x, y, m, h => by
    unfold place
    rw [List.countP_cons, List.countP_cons]
    have a := place_le L h
    unfold place at a
    by_cases e : u = x
    · subst e
      rw [lx_self, h]; simp; omega
    · have b := place_lt L (x := x) (y := y) (by cases m with | head => exact absurd rfl e | tail _ g => exact g) h
      unfold place at b
      by_cases g : lx u x = true
      · rw [g, lx_trans _ _ _ g h]; simp; omega
      · have g' : lx u x = false := by simpa using g
        rw [g']; simp; omega

theorem place_iff (L : List (List Int)) {x y : List Int} (hx : x ∈ L) (hy : y ∈ L) : decide ((place L x : Int) < place L y) = lx x y := by
  cases h : lx x y with
  | true => exact decide_eq_true (by have := place_lt L hx h; omega)
  | false =>
    refine decide_eq_false ?_
    cases g : lx y x with
    | true => have := place_lt L hy g; omega
    | false => rw [lx_total x y h g]; omega
end SO

namespace SO
open PySem PyProof PyProof.Rows
section
variable {prog : Program} {w : World} {A : Around} {E : Value → Shared → Prop} {s : Shared}

theorem one_int (b : Bool) {x y : Int} {t u : Tok} {Q : Bool → Shared → Prop} (h : Q (decide (x < y)) s) : wpAny (model prog w) A (oneLt' b (.int x t) (.int y u)) Q E s := by
  cases b with
  | true => exact oneLt_int h
  | false => exact PySem.W.kat_one _ _ (wpAny_lt_int h)

theorem lex_ints {b fin : Bool} {Q : Bool → Shared → Prop} : ∀ {xs ys : List Value} {ns ms : List Int} (i : Nat), IntsAre xs ns → IntsAre ys ms →
    fin = decide (ns.length < ms.length) → Q (lx ns ms) s → PySem.W.KatLex prog w A b fin Q (xs.zip ys) i s
  | _, _, _, _, i, .nil, .nil, e, q => by subst e; exact PySem.W.kat_nil q
  | _, _, _, _, i, .nil, .cons _ _ _, e, q => by
    subst e; refine PySem.W.kat_nil ?_
    rw [decide_eq_true (by simp)]; exact q
  | _, _, _, _, i, .cons _ _ _, .nil, e, q => by
    subst e; refine PySem.W.kat_nil ?_
    rw [decide_eq_false (by simp)]; exact q
  | _, _, _, _, i, .cons (vs := xs) (ns := ns) n t hx, .cons (vs := ys) (ns := ms) m u hy, e, q => by
    rw [List.zip_cons_cons]
    refine PySem.W.kat_cons (wpAny_eqBool_int ?_)
    unfold lx at q
    by_cases c : n = m
    · rw [if_pos c] at q
      rw [show (n == m) = true by simpa using c]
      refine PySem.W.kat_yes (lex_ints (i + 1) hx hy ?_ q)
      rw [e]; simp
    · rw [if_neg c] at q
      rw [show (n == m) = false by simpa using c]
      exact PySem.W.kat_no (one_int _ q)

def Tups (h : Heap) (vs : List Value) (kf : Value → List Int) : Prop :=
  ∀ v ∈ vs, ∃ a o xs n, v = .ref a ∧ h.get? a = some o ∧ o.cls = .type "tuple" ∧ o.data = .seq xs n ∧ IntsAre xs.toList (kf v)

def rank (vs : List Value) (kf : Value → List Int) (p : Keyed) : Int := place (vs.map kf) (kf p.1)

theorem of_zipped {vs : List Value} {p : Keyed} (h : p ∈ (zipped vs).toList) : p.1 ∈ vs := by
  have : p ∈ vs.zip vs := by simpa [zipped] using h
  exact (List.of_mem_zip (a := p.1) (b := p.2) this).1

theorem ints_len {xs : List Value} {ns : List Int} (h : IntsAre xs ns) : xs.length = ns.length := by
  induction h with
  | nil => rfl
  | cons _ _ _ ih => simp [ih]

theorem tells_tups {vs : List Value} {kf : Value → List Int} {b : Bool} (h : Tups s.heap vs kf) : Tells (model prog w) A E s (tuples' b) (zipped vs) (rank vs kf) := by
  intro p q t Q hp hq hk hQ
  have mp := of_zipped hp
  have mq := of_zipped hq
  obtain ⟨a, o, xs, n, e1, g1, _, d1, i1⟩ := h _ mp
  obtain ⟨a', o', xs', n', e2, g2, _, d2, i2⟩ := h _ mq
  have r : decide (rank vs kf p < rank vs kf q) = lx (kf p.1) (kf q.1) := place_iff _ (List.mem_map_of_mem mp) (List.mem_map_of_mem mq)
  rw [r] at hQ
  rw [lt'_eq]
  refine wpS_bind (wpS_get ?_)
  rw [hk, e1, e2]
  refine wpS_bind (wpS_lift (wpAny_attempt (PySem.W.kat_lt g1 d1 g2 d2 (lex_ints 0 i1 i2 ?_ ⟨rfl, ?_⟩))))
  · have l1 := ints_len i1
    have l2 := ints_len i2
    simp only [Array.length_toList] at l1 l2
    rw [l1, l2]
  · exact wpS_pure hQ
end
end SO

namespace SO
open PySem PyProof PyProof.Rows
open AutoSeq1 (wpAny_loadPart')

theorem ints_at : ∀ {xs : List Value} {ns : List Int}, IntsAre xs ns → ∀ i, i < xs.length → ∃ n t, xs[i]? = some (.int n t) ∧ ns[i]? = some n
  | _, _, .nil, i, h => by simp at h
  | _, _, .cons n t _, 0, _ => ⟨n, t, rfl, rfl⟩
  | _, _, .cons _ _ r, i + 1, h => by
    obtain ⟨n, t, e1, e2⟩ := ints_at r i (by simpa using h)
    exact ⟨n, t, by simpa using e1, by simpa using e2⟩

section
variable {prog : Program} {w : World} {A : Around} {E : Value → Shared → Prop} {s : Shared}

end
end SO

namespace SO
open PySem PyProof PyProof.Rows

theorem zip_self : ∀ vs : List Value, vs.zip vs = vs.map fun v => (v, v)
  | [] => rfl
  | v :: vs => by rw [List.zip_cons_cons, zip_self vs]; rfl

theorem zipped_list (vs : List Value) : (zipped vs).toList = vs.map fun v => (v, v) := by
  rw [← zip_self]; simp [zipped]

theorem twice {vs : List Value} {q : Keyed} (h : q ∈ (zipped vs).toList) : q.2 = q.1 := by
  rw [zipped_list] at h
  obtain ⟨v, _, rfl⟩ := List.mem_map.mp h
  rfl

theorem came_out {vs : List Value} {kf : Value → List Int} {xs : Array Keyed} (p : xs.Perm (zipped vs)) (u : Up (rank vs kf) xs vs.length) :
    (xs.map (·.2)).toList.Perm vs ∧ (xs.map (·.2)).toList.Pairwise fun a b => lx (kf b) (kf a) = false := by
  have pl := Array.perm_iff_toList_perm.mp p
  constructor
  · have e := pl.map (·.2)
    rw [zipped_list, List.map_map] at e
    have e2 : vs.map ((fun q : Keyed => q.2) ∘ fun v => (v, v)) = vs := by
      have : ((fun q : Keyed => q.2) ∘ fun v : Value => (v, v)) = id := rfl
      rw [this, List.map_id]
    rw [e2] at e
    rw [Array.toList_map]
    exact e
  · rw [Array.toList_map, List.pairwise_map, List.pairwise_iff_getElem]
    intro i j hi hj hij
    have z : xs.size = vs.length := by rw [p.size_eq, zipped_size]
    have hi' : i < xs.size := by simpa using hi
    have hj' : j < xs.size := by simpa using hj
    have r := u i j (by omega) (by omega)
    have mi : xs[i] ∈ (zipped vs).toList := pl.mem_iff.mp (by simp)
    have mj : xs[j] ∈ (zipped vs).toList := pl.mem_iff.mp (by simp)
    have ri : rk (rank vs kf) xs i = rank vs kf xs[i] := by simp [rk, hi']
    have rj : rk (rank vs kf) xs j = rank vs kf xs[j] := by simp [rk, hj']
    rw [ri, rj] at r
    have t := place_iff (vs.map kf) (x := kf xs[j].1) (y := kf xs[i].1) (List.mem_map_of_mem (of_zipped mj)) (List.mem_map_of_mem (of_zipped mi))
    rw [decide_eq_false (by unfold rank at r; omega)] at t
    simp only [Array.getElem_toList]
    rw [twice mi, twice mj]
    exact t.symm

theorem ahead_old {h : Heap} {vs : List Value} {b : Addr} {o : Obj} (hb : h.get? b = some o) : (amid (ahead h vs) (h.objs.size + 1) vs).get? b = some o := by
  have lt := Heap.lt_size hb
  unfold amid ahead
  refine Heap.get?_push_of_some _ (Heap.get?_push_of_some _ ?_)
  rw [Heap.get?_update_ne _ _ _ _ (Nat.ne_of_lt (Nat.lt_succ_of_lt lt))]
  refine Heap.get?_push_of_some _ ?_
  rw [Heap.get?_update_ne _ _ _ _ (Nat.ne_of_lt lt)]
  exact Heap.get?_push_of_some _ hb

section
variable {prog : Program} {w : World} {A : Around} {E : Value → Shared → Prop} {s : Shared}

theorem Tups.mono {h h' : Heap} {vs : List Value} {kf : Value → List Int} (H : Tups h vs kf) (g : ∀ b o, h.get? b = some o → h'.get? b = some o) : Tups h' vs kf := fun v m => by
  obtain ⟨a, o, xs, n, e, g1, r⟩ := H v m
  exact ⟨a, o, xs, n, e, g _ _ g1, r⟩

end
end SO

namespace L2
open PySem PySem.Spec PyProof.Rows
section
variable {X : Cx}

theorem vals_refs : ∀ {ps : List Addr} {us : List Value}, Vals (ps.map V.ref) us → us = ps.map Value.ref
  | [], us, r => by rw [List.map_nil] at r; cases r; rfl
  | p :: ps, us, r => by
    rw [List.map_cons] at r
    cases r with
    | cons a b =>
      rw [vals_refs b]
      cases a
      rfl

theorem refs_vals : ∀ (ps : List Addr), Vals (ps.map V.ref) (ps.map Value.ref)
  | [] => .nil
  | _ :: ps => .cons rfl (refs_vals ps)

def keyOf (kf : Addr → List Int) : Value → List Int
  | .ref a => kf a
  | _ => []

theorem perm_refs {ps : List Addr} {us : List Value} (h : us.Perm (ps.map Value.ref)) : ∃ ps' : List Addr, us = ps'.map Value.ref ∧ ps'.Perm ps := by
  have e : us = (us.map fun u => match u with | .ref a => a | _ => 0).map Value.ref := by
    rw [List.map_map]
    refine (List.map_id us).symm.trans (List.map_congr_left fun u m => ?_)
    obtain ⟨a, _, rfl⟩ := List.mem_map.mp (h.mem_iff.mp m)
    rfl
  refine ⟨_, e, ?_⟩
  have g := h.map fun u : Value => match u with | .ref a => a | _ => 0
  rw [List.map_map] at g
  have i : ((fun u : Value => match u with | .ref a => a | _ => 0) ∘ Value.ref) = id := rfl
  rw [i, List.map_id] at g
  exact g

end
end L2

namespace SO
open PySem PyProof PyProof.Rows
section
variable {prog : Program} {w : World} {A : Around} {E : Value → Shared → Prop} {s : Shared}

theorem firsts {h : Heap} {kf : Value → List Int} : ∀ {vs : List Value}, Tups h vs kf → (∀ v ∈ vs, kf v ≠ []) →
    ∃ fs : List Value, PySem.W.KatTups h vs fs ∧ fs.length = vs.length ∧ ∀ f ∈ fs, ∃ n t, f = .int n t
  | [], _, _ => ⟨[], PySem.W.KatTups.nil, rfl, fun _ m => by cases m⟩
  | v :: vs, H, ne => by
    obtain ⟨fs, k, l, g⟩ := firsts (vs := vs) (fun u m => H u (.tail _ m)) fun u m => ne u (.tail _ m)
    obtain ⟨a, o, xs, n, e, g1, c, d, i⟩ := H v (.head _)
    have hz : 0 < xs.toList.length := by
      rw [ints_len i]
      exact List.length_pos_iff.mpr (ne v (.head _))
    obtain ⟨n0, t0, e0, _⟩ := ints_at i 0 hz
    subst e
    refine ⟨.int n0 t0 :: fs, PySem.W.KatTups.cons g1 c d (by simpa using e0) k, by simp [l], fun f m => ?_⟩
    cases m with
    | head => exact ⟨n0, t0, rfl⟩
    | tail _ m => exact g f m

theorem sorted_tups {l : Addr} {vs : List Value} {kf : Value → List Int} {Q : Value → Shared → Prop} (hl : s.heap.IsList l vs.toArray) (h64 : vs.length < 64)
    (H : Tups s.heap vs kf) (ne : ∀ v ∈ vs, kf v ≠ [])
    (h : ∀ out : Array Value, out.toList.Perm vs → (out.toList.Pairwise fun a b => lx (kf b) (kf a) = false) → Q (.ref (s.heap.objs.size + 1)) { s with heap := sortedAll s.heap vs out }) :
    wpAny (model prog w) A (call (.builtin "sorted") [.ref l]) Q E s := by
  have H' : Tups (amid (ahead s.heap vs) (s.heap.objs.size + 1) vs) vs kf := H.mono fun _ _ => ahead_old
  refine sorted_list (k := tuples' true) (ρ := rank vs kf) hl h64 (fun h2 _ _ q => ?_) (tells_tups H') fun xs p u => h _ (came_out p u).1 (came_out p u).2
  obtain ⟨fs, k, lf, g⟩ := firsts H' ne
  refine PySem.W.kat_kind (T := Value.type "int") k (by omega) (fun v m => ?_) (by decide) q
  obtain ⟨n, t, rfl⟩ := g v m
  exact .now
end
end SO

namespace L2
open PySem PySem.Spec PyProof.Rows
section
variable {X : Cx}
theorem call_sortedT : CallR X (.builtin "sorted") (fun xs H Q => ∃ (p : Addr) (ps : List Addr) (kf : Addr → List Int), xs = [.ref p] ∧ SqL X.K H p (ps.map V.ref) ∧ (∀ q ∈ ps, kf q ≠ [] ∧ SqT X.K H q ((kf q).map V.int)) ∧ ps.length < 64 ∧
    ∀ (l : Addr) (ps' : List Addr), H l = none → ps'.Perm ps → (ps'.Pairwise fun a b => SO.lx (kf b) (kf a) = false) → Q (.ref l) (upd H l (.lst (ps'.map V.ref)))) := by
  intro pins s σ H xs us Q I r h
  obtain ⟨p, ps, kf, rfl, hq, hk, h64, q⟩ := h
  obtain ⟨u, rfl, rx⟩ := vals1 r
  cases rx
  obtain ⟨its, r', pl, hz⟩ := I.list hq
  have ei := vals_refs r'
  subst ei
  refine SO.sorted_tups (kf := keyOf kf) pl.isList (by rw [List.length_map]; exact h64) (fun v m => ?_) (fun v m => ?_) fun out a1 a2 => ?_
  · obtain ⟨a, ma, rfl⟩ := List.mem_map.mp m
    obtain ⟨its', r2, ⟨o, g1, c1, n, d1⟩, _⟩ := I.tuple (hk a ma).2
    exact ⟨a, o, its'.toArray, n, rfl, g1, c1, d1, (show IntsAre its' (kf a) from intsAre_of r2)⟩
  · obtain ⟨a, ma, rfl⟩ := List.mem_map.mp m
    exact (hk a ma).1
  · obtain ⟨ps', e1, e2⟩ := perm_refs a1
    rw [e1, List.pairwise_map] at a2
    obtain ⟨e, he⟩ := sortedAll_at s.heap (ps.map Value.ref) out
    refine ⟨.ref (s.heap.objs.size + 1), _, I.laid (t' := s.toks) (fun _ _ => sortedAll_old) (Nat.le_succ _) (show ObjOk X.prog X.w _ _ _ (.lst (ps'.map V.ref)) from ⟨?_, out.toList, e, ?_, he⟩), rfl, q _ ps' (I.hok.fresh (Nat.le_succ _)) e2 a2⟩
    · rw [List.length_map, e2.length_eq]
      exact Nat.le_trans (by omega : ps.length ≤ 64) (by decide)
    · rw [e1]; exact refs_vals ps'
end
end L2

namespace L2
open PySem PySem.Spec PyProof.Rows
section
variable {X : Cx} {pins : List (Addr × Obj)} {σ : St} {H : Hp} {s : Shared} {h' : Heap}
theorem Inv.turnedCh {t' : Nat} {ch : List Addr} (I : Inv X pins σ H s) (k : ∀ b u, b ∉ ch → s.heap.get? b = some u → h'.get? b = some u) (hf : ∀ b ∈ ch, FpOk X pins H b) : Inv X pins σ H { s with heap := h', toks := t' } := by
  have nit : ∀ b u, H b = some u → b ∉ ch := fun b u e z => by rw [(hf b z).1] at e; cases e
  refine I.step (g' := s.gens) (d' := s.drawn) (ch := ch) (fun b hb => ?_) (fun b o _ _ hc e _ => k b o hc e) (fun b o _ _ hc e _ => ⟨o.slots, k b o hc e⟩) (fun b u hc e n => n) (fun b u hc e => ⟨u, k b u hc e⟩)
    (fun b xs e => e) (fun b ob u e => e) (fun b ps e => ⟨#[], by rw [e]; simp⟩) (fun m hm => ?_) (fun b u e => ?_) I.bare
  · exact ⟨(hf b hb).2.2.2.1, (hf b hb).2.1, (hf b hb).2.2.2.2.1, (hf b hb).2.2.2.2.2⟩
  · obtain ⟨ob, es, ep, ho, r⟩ := hm
    exact ⟨ob, es, ep, k _ ob (fun z => (hf _ z).2.1 rfl) ho, r⟩
  · refine (I.hok b u e).stay (fun c v hc q => k c v ?_ q) (fun c q => q) fun c xs q => q
    rcases hc with z | z
    · rw [z]; exact nit b u e
    · exact nit c _ z
end
def Itz (a b : Addr) : It :=
  ⟨fun i H => ∃ xs ys x y, H a = some (.lst xs) ∧ H b = some (.lst ys) ∧ xs[i]? = some x ∧ ys[i]? = some y,
   fun i H v H' => ∃ T x y, v = .ref T ∧ H T = none ∧ H' = upd H T (.tup [x, y]) ∧ (∀ xs, H a = some (.lst xs) → xs[i]? = some x) ∧ ∀ ys, H b = some (.lst ys) → ys[i]? = some y,
   fun i H => ∃ xs ys, H a = some (.lst xs) ∧ H b = some (.lst ys) ∧ (xs.length ≤ i ∨ ys.length ≤ i)⟩
theorem turn_zip {P : Program} {w : World} {K : PySem.W.Frag} {elts : List Expr} {k : Nat} {pos : Pos} (a b z TI TO i1 i2 : Addr) (d : [z, TI, TO, i1, i2].Nodup) :
    Turn P w K (.Tuple elts k pos) (Itz a b) [z, TI, TO, i1, i2] z (fun i h => IsZip h z TI TO .none ∧ IsPair h TI (.ref i1) (.ref i2) ∧ (∃ u v, IsPair h TO u v) ∧ h.IsListIter i1 a i ∧ h.IsListIter i2 b i) := by
  simp only [List.nodup_cons, List.mem_cons, List.not_mem_nil, or_false, not_or] at d
  obtain ⟨⟨d1, d2, d3, d4⟩, ⟨d5, d6, d7⟩, ⟨d8, d9⟩, d10, _⟩ := d
  have apart : ∀ {H : Hp} {l l' : Addr} {xs ys : List V}, H l = some (.lst xs) → H l' = some (.lst ys) → (∀ c ∈ [z, TI, TO, i1, i2], H c = none) → ZipApart z TI TO i1 i2 l l' := fun {H l l' xs ys} h h' hn =>
    ⟨Ne.symm d1, Ne.symm d2, Ne.symm d3, Ne.symm d4, d5, d6, d7, d8, d9, d10, ne_of_none h (hn z (by simp)), ne_of_none h (hn TO (by simp)), ne_of_none h (hn i1 (by simp)), ne_of_none h (hn i2 (by simp)),
      ne_of_none h' (hn z (by simp)), ne_of_none h' (hn TO (by simp)), ne_of_none h' (hn i1 (by simp)), ne_of_none h' (hn i2 (by simp))⟩
  refine ⟨by simp, ?_, ?_, ?_, ?_, ?_⟩
  · rintro i h ⟨hz, hTI, ⟨u, v, hTO⟩, ⟨o1, h1, c1, e1⟩, ⟨o2, h2, c2, e2⟩⟩ b' hb
    simp only [List.mem_cons, List.not_mem_nil, or_false] at hb
    rcases hb with rfl | rfl | rfl | rfl | rfl
    · exact ⟨_, hz, fun v q => by have q' : Data.fields _ = Data.cell v := q; cases q'⟩
    · exact ⟨_, hTI, fun v q => by have q' : Data.seq _ _ = Data.cell v := q; cases q'⟩
    · exact ⟨_, hTO, fun v q => by have q' : Data.seq _ _ = Data.cell v := q; cases q'⟩
    · exact ⟨_, h1, fun v q => by rw [e1] at q; cases q⟩
    · exact ⟨_, h2, fun v q => by rw [e2] at q; cases q⟩
  · rintro i h h' ⟨hz, hTI, ⟨u, v, hTO⟩, h1, h2⟩ kk
    exact ⟨kk z (by simp) _ hz, kk TI (by simp) _ hTI, ⟨u, v, kk TO (by simp) _ hTO⟩, h1.at fun o e => kk i1 (by simp) o e, h2.at fun o e => kk i2 (by simp) o e⟩
  · intro X hP hw hK hc i pins s σ H E I hf st hg
    subst hP hw hK
    obtain ⟨hz, hTI, ⟨u, v, hTO⟩, h1, h2⟩ := st
    obtain ⟨xs, ys, x, y, ha, hb, hx, hy⟩ := hg
    have D := apart ha hb fun c hc => (hf c hc).1
    obtain ⟨_, its, n, rv, hl, e⟩ := I.lstM ha
    obtain ⟨_, its2, n2, rv2, hl2, e2⟩ := I.lstM hb
    obtain ⟨u1, hu1, ru1⟩ := rv.get hx
    obtain ⟨u2, hu2, ru2⟩ := rv2.get hy
    have hux : its.toArray[i]? = some u1 := by simpa using hu1
    have huy : its2.toArray[i]? = some u2 := by simpa using hu2
    refine wpAny_pyNext_zip_item D hz hTI hTO h1 h2 ⟨_, e, rfl, n, rfl⟩ ⟨_, e2, rfl, n2, rfl⟩ hux huy fun h' a1 a2 a3 a4 a5 a6 hk => ?_
    refine ⟨_, rfl, ?_⟩
    have kk : ∀ c o, c ∉ [z, TO, i1, i2] → s.heap.get? c = some o → h'.get? c = some o := fun c o hc q => hk c o (fun x => hc (by simp [x])) (fun x => hc (by simp [x])) (fun x => hc (by simp [x])) (fun x => hc (by simp [x])) q
    have th : ∀ c o, s.heap.get? c = some o → ∃ o', h'.get? c = some o' := fun c o q => by
      by_cases c1 : c = z
      · subst c1; exact ⟨_, a1⟩
      · by_cases c2 : c = TO
        · subst c2; exact ⟨_, a2⟩
        · by_cases c3 : c = i1
          · subst c3; obtain ⟨o', q1, _⟩ := a3; exact ⟨_, q1⟩
          · by_cases c4 : c = i2
            · subst c4; obtain ⟨o', q1, _⟩ := a4; exact ⟨_, q1⟩
            · exact ⟨o, hk c o c1 c2 c3 c4 q⟩
    have sub : ∀ c ∈ [z, TO, i1, i2], c ∈ [z, TI, TO, i1, i2] := fun c hc => by simp at hc ⊢; rcases hc with rfl | rfl | rfl | rfl <;> simp
    have I1 : Inv X pins σ (upd H s.heap.objs.size (.tup [x, y])) { s with heap := h', toks := s.toks } :=
      I.turnedNew (ch := [z, TO, i1, i2]) kk th (Nat.le_refl _) (fun c hc => hf c (sub c hc)) ⟨by show 2 ≤ sizeLine; decide, [u1, u2], .cons ru1 (.cons ru2 .nil), ⟨_, a5, rfl, _, rfl⟩⟩
    have fz := hf z (by simp)
    have neT : ∀ c ∈ [z, TI, TO, i1, i2], c ≠ s.heap.objs.size := fun c hc => by
      simp only [List.mem_cons, List.not_mem_nil, or_false] at hc
      rcases hc with rfl | rfl | rfl | rfl | rfl
      · exact Nat.ne_of_lt (Heap.lt_size hz)
      · exact Nat.ne_of_lt (Heap.lt_size hTI)
      · exact Nat.ne_of_lt (Heap.lt_size hTO)
      · obtain ⟨_, q, _⟩ := h1; exact Nat.ne_of_lt (Heap.lt_size q)
      · obtain ⟨_, q, _⟩ := h2; exact Nat.ne_of_lt (Heap.lt_size q)
    refine wpAny_letOwnedTupleGo_zip a1 fun h2' hz2 hs2 => ?_
    have I2 : Inv X pins σ (upd H s.heap.objs.size (.tup [x, y])) { s with heap := h2', toks := s.toks } :=
      Inv.turned (s := { s with heap := h', toks := s.toks }) (h' := h2') (t' := s.toks) (it := z) I1 (fun c o hc q => (hs2.2 c hc).trans q) (by rw [upd_ne (neT z (by simp))]; exact fz.1) fz.2.1 fz.2.2.2.1 fz.2.2.2.2.1 fz.2.2.2.2.2
    refine ⟨.ref s.heap.objs.size, _, I2, rfl, ⟨s.heap.objs.size, x, y, rfl, I.fresh, rfl, fun zs hzs => by rw [ha] at hzs; cases hzs; exact hx, fun zs hzs => by rw [hb] at hzs; cases hzs; exact hy⟩,
      ⟨hz2, (hs2.2 TI (Ne.symm d1)).trans (hk TI _ (Ne.symm d1) d5 d6 d7 hTI), ⟨_, _, (hs2.2 TO (Ne.symm d2)).trans a2⟩, a3.at fun o q => (hs2.2 i1 (Ne.symm d3)).trans q, a4.at fun o q => (hs2.2 i2 (Ne.symm d4)).trans q⟩, fun c hc => ?_⟩
    rw [upd_ne (neT c hc)]
    exact (hf c hc).1
  · intro X hP hw hK hc i pins s σ H E I hf st hg
    subst hP hw hK
    obtain ⟨hz, hTI, ⟨u, v, hTO⟩, h1, h2⟩ := st
    obtain ⟨xs, ys, ha, hb, hx⟩ := hg
    have D := apart ha hb fun c hc => (hf c hc).1
    obtain ⟨_, its, n, rv, hl, e⟩ := I.lstM ha
    obtain ⟨_, its2, n2, rv2, hl2, e2⟩ := I.lstM hb
    have sub : ∀ c ∈ [z, TO, i1, i2], c ∈ [z, TI, TO, i1, i2] := fun c hc => by simp at hc ⊢; rcases hc with rfl | rfl | rfl | rfl <;> simp
    refine wpAny_pyNext_zip_end (I.ok.hd hc) D hz hTI hTO h1 h2 ⟨_, e, rfl, n, rfl⟩ ⟨_, e2, rfl, n2, rfl⟩ ?_ fun h' hk => ⟨rfl, ?_⟩
    · rcases hx with q | q
      · left; simp; omega
      · right; simp; omega
    · exact I.turnedCh (t' := s.toks) (ch := [z, TO, i1, i2]) (fun c o hc q => hk c o (fun x => hc (by simp [x])) (fun x => hc (by simp [x])) (fun x => hc (by simp [x])) (fun x => hc (by simp [x])) q) fun c hc => hf c (sub c hc)
  · intro A i s Q E st h
    exact wpAny_pyIter_zip st.1 h
section
variable {X : Cx}
def iZip (ta : TA) : TI := fun σ H R => ta σ H fun vs H1 => ∃ a b xs ys, vs = [.ref a, .ref b] ∧ H1 a = some (.lst xs) ∧ H1 b = some (.lst ys) ∧ R (Itz a b) H1
theorem pi_zip {a b : Expr} {ta : TA} {p pos : Pos} {elts : List Expr} {k : Nat} {tpos : Pos} (hg : Gl X "zip") (hm : X.mg "zip" = none) (ha : PA X [a, b] ta) (hs : starEach [a, b] X.env = [(false, eval a X.env), (false, eval b X.env)] := by rfl) (hs2 : starEach [b] X.env = [(false, eval b X.env)] := by rfl) :
    PI X (.Tuple elts k tpos) (.Call (.Name "zip" p) [a, b] [] pos) (iZip ta) := by
  intro pins s σ H R I h
  refine Call_ (ld_blt I hg hm boot_zip (PyProof.Rows.callWith_type1 (thn (ha pos pins s σ H _ I h) fun us s1 ⟨vs, H1, I1, r1, q1⟩ => ?_) (by rw [hs, hs2]) (by rw [hs2]; rfl)))
  obtain ⟨l, l2, xs, ys, e, hx, hy, q⟩ := q1
  subst e
  cases r1 with
  | cons r rr =>
    cases rr with
    | cons r' rr =>
      cases rr
      cases r
      cases r'
      obtain ⟨_, its, n, rv, hl, e⟩ := I1.lstM hx
      obtain ⟨_, its2, n2, rv2, hl2, e2⟩ := I1.lstM hy
      refine call_zip_2 ⟨_, e, rfl, n, rfl⟩ ⟨_, e2, rfl, n2, rfl⟩ fun h' z1 z2 z3 z4 z5 hsz hk => ?_
      refine wpAny_pyIter_zip z1 ?_
      have I2 : Inv X pins σ H1 { s1 with heap := h' } := I1.kept (t' := s1.toks) hk
      refine ⟨s1.heap.objs.size + 4, [s1.heap.objs.size + 4, s1.heap.objs.size + 2, s1.heap.objs.size + 3, s1.heap.objs.size, s1.heap.objs.size + 1], _, _, H1, rfl, I2, turn_zip l l2 _ _ _ _ _ (by simp), ⟨z1, z2, ⟨_, _, z3⟩, z4, z5⟩, fun c hc => ?_, q⟩
      have hc' : s1.heap.objs.size ≤ c := by
        simp only [List.mem_cons, List.not_mem_nil, or_false] at hc
        rcases hc with rfl | rfl | rfl | rfl | rfl <;> omega
      exact I1.fpOk hc' (I1.hok.fresh hc')
end
end L2

namespace SO
open PySem PyProof PyProof.Rows
section
variable {prog : Program} {w : World} {A : Around} {E : Value → Shared → Prop} {s : Shared}
theorem lt_tree {xl yl : List Int} {a b : Addr} {oa ob : Obj} {xs ys : Array Value} {na nb : Nat} {P : Fin → Shared → Prop} (hoa : s.heap.get? a = some oa) (hda : oa.data = .seq xs na) (hob : s.heap.get? b = some ob) (hcb : ob.cls = .type "tuple") (hdb : ob.data = .seq ys nb)
    (hia : IntsAre xs.toList xl) (hib : IntsAre ys.toList yl) (h : ∀ c, P (.done (.ret (.bool c))) s) :
    wpAny (model prog w) A (Builtin.«tuple.__lt__» ⟨[.ref a, .ref b], []⟩) P E s := by
  have hTb : s.TypeIs (.ref b) "tuple" := ⟨ob, hob, hcb⟩
  show wpAny _ _ (isInstance (.ref b) (.type "tuple") >>= _) _ _ s
  refine wpAny_bind (wpAny_isInstance hTb isSubtype_tuple_tuple ?_)
  simp only [Bool.not_true, Bool.false_eq_true, if_false]
  refine wpAny_bind (wpAny_tupleItemsOf hoa hda (wpAny_bind (wpAny_tupleItemsOf hob hdb (wpAny_bind ?_))))
  refine wpAny_forIn_list _ (fun rest r s' => r.1 = none ∧ s' = s ∧ ∃ x' y' xs' ys', rest = List.zip xs' ys' ∧ IntsAre xs' x' ∧ IntsAre ys' y') _ ?_ ?_ _ _ ⟨rfl, rfl, xl, yl, xs.toList, ys.toList, rfl, hia, hib⟩
  · rintro ⟨u, v⟩ rest r s' ⟨hr, rfl, x', y', xs', ys', hz, hx', hy'⟩
    cases hx' with
    | nil => simp at hz
    | @cons k1 t1 xs'' x'' hx'' =>
      cases hy' with
      | nil => simp at hz
      | @cons k2 t2 ys'' y'' hy'' =>
        simp only [List.zip_cons_cons, List.cons.injEq, Prod.mk.injEq] at hz
        obtain ⟨⟨rfl, rfl⟩, rfl⟩ := hz
        refine wpAny_bind (wpAny_eqBool_int ?_)
        by_cases hk : k1 = k2
        · rw [show (k1 == k2) = true by simpa using hk]
          simp only [Bool.not_true, Bool.false_eq_true, if_false]
          exact wpAny_pure ⟨rfl, rfl, x'', y'', xs'', ys'', rfl, hx'', hy''⟩
        · rw [show (k1 == k2) = false by simpa using hk]
          simp only [Bool.not_false, if_true]
          refine wpAny_bind (wpAny_rule (wpAny_bind (show wpAny _ _ (compareOp .Lt (.int k1 t1) (.int k2 t2)) _ _ _ from PyProof.Rows.lt_int ?_)))
          exact wpAny_bind (wpAny_pure (wpAny_pure (wpAny_pure (h _))))
  · rintro ⟨r1, r2⟩ s' ⟨hr, rfl, x', y', xs', ys', hz, hx', hy'⟩
    simp only at hr
    subst hr
    exact wpAny_pure (h _)
theorem lt_tups {xl yl : List Int} {a b : Addr} {oa ob : Obj} {xs ys : Array Value} {na nb : Nat} {Q : Value → Shared → Prop} (hu : A.units < cLine) (hoa : s.heap.get? a = some oa) (hca : oa.cls = .type "tuple") (hda : oa.data = .seq xs na) (hob : s.heap.get? b = some ob) (hcb : ob.cls = .type "tuple") (hdb : ob.data = .seq ys nb)
    (hia : IntsAre xs.toList xl) (hib : IntsAre ys.toList yl) (h : ∀ c, Q (.bool c) s) : wpAny (model prog w) A (richCompare .Lt (.ref a) (.ref b)) Q E s :=
  wpAny_richCompare_same_room (op := .Lt) (T := "tuple") ⟨oa, hoa, hca⟩ ⟨ob, hob, hcb⟩ PySem.F.slot_tuple_lt
    (wpAny_call_entry PySem.F.slot_tuple_lt ⟨oa, hoa, hca⟩ PySem.F.entry_tuple_lt (lt_tree hoa hda hob hcb hdb hia hib fun c => ⟨_, rfl, (fun z => by cases z), h c⟩) (PySem.F.args_tuple_lt_2 _ _)) hu
end
section
variable {prog : Program} {w : World} {A : Around} {E : Value → Shared → Prop} {s : Shared} {d it : Addr} {o : Obj} {es : Array DictEntry} {ep i : Nat}
theorem iter_raw {Q : Value → Shared → Prop} (ho : s.heap.get? d = some o) (hx : o.ExactDict) (hdat : o.data = .dict es ep) (hd : (d == sysModules) = false)
    (hQ : Q (.ref s.heap.objs.size) { s with heap := s.heap.push { cls := .type "dict_keyiterator", data := .fields #[.ref d, .int 0 0, .int es.size 0, .int ep 0] } }) : wpAny (model prog w) A (pyIter (.ref d)) Q E s := by
  have hT : s.TypeIs (.ref d) "dict" := ⟨o, ho, hx.1⟩
  have nd : ¬ ((d == sysModules) = true) := by rw [hd]; exact Bool.false_ne_true
  refine wpAny_pyIter_slot hT F.slot_dict_iter (wpAny_call_entry F.slot_dict_iter hT F.entry_dict_iter ?_ (F.args_dict_iter_1 _))
  unfold Builtin.«dict.__iter__» Builtin.Dict.dictSlotNone
  refine wpAny_bind (wpAny_bind (wpAny_notOrdered_dict hT ?_))
  refine (show wpAny _ _ (pure (Value.ref d)) _ _ s from wpAny_pure ?_)
  refine (show wpAny _ _ (Builtin.Dict.showsAll d >>= _) _ _ s from ?_)
  unfold Builtin.Dict.showsAll
  rw [if_neg nd]
  refine wpAny_bind (wpAny_pure (wpAny_bind (wpAny_dictEntries ho hdat (wpAny_bind (wpAny_dictEpoch ho hdat ?_)))))
  refine wpAny_bind (wpAny_newObj_type (wpAny_pure ⟨_, rfl, "dict_keyiterator", _, ⟨_, Heap.get?_push_size _ rfl, rfl⟩, F.slot_dict_keyiterator_next.lookup, ?_⟩))
  simpa [rawInt] using hQ
theorem next_raw {Q : Option Value → Shared → Prop} (hit : s.heap.IsKeyIter it d i es.size ep) (hod : s.heap.get? d = some o) (hdd : o.data = .dict es ep) (hi : i < es.size)
    (hQ : ∀ h', h'.IsKeyIter it d (i + 1) es.size ep → Heap.SameBut it s.heap h' → Q (some es[i].key) { s with heap := h' }) : wpAny (model prog w) A (pyNext (.ref it)) Q E s := by
  obtain ⟨q, ho, hc, hd⟩ := id hit
  have hown : Builtin.Dict_items.ownsTuple "dict_keyiterator" = false := by decide
  unfold pyNext
  refine wpAny_bind (wpAny_attempt (wpAny_callSpecial?_slot (name := Str.ofString "__next__") hit.typeIs F.slot_dict_keyiterator_next
    (wpAny_call_entry F.slot_dict_keyiterator_next hit.typeIs F.entry_dict_keyiterator_next (wpAny_bind (wpAny_pure (wpAny_bind (wpAny_bind ?_)))) (F.args_dict_keyiterator_next_1 _))))
  first | refine wpAny_bind (wpAny_typeNameOfWhole_keyiter hit.typeIs (wpAny_pure (wpAny_bind (wpAny_fieldsOf ho hd ?_)))) | refine wpAny_bind (wpAny_typeNameOf_keyiter hit.typeIs (wpAny_pure (wpAny_bind (wpAny_fieldsOf ho hd ?_))))
  simp only [hown, Bool.false_eq_true, if_false]
  refine (show wpAny _ _ (if (Value.ref d == Value.none) = true then _ else _) _ _ s from ?_)
  rw [if_neg (fun z : (Value.ref d == Value.none) = true => Bool.false_ne_true z)]
  refine wpAny_bind (wpAny_pure (wpAny_bind (wpAny_dictEntries hod hdd ?_)))
  rw [if_neg (by simp)]
  refine wpAny_bind (wpAny_pure (wpAny_bind (wpAny_dictEpoch hod hdd ?_)))
  rw [if_neg (by simp)]
  refine wpAny_pure ?_
  simp only [show ¬ ((i : Int) < 0) by omega, if_false, Int.toNat_natCast, Array.getElem?_eq_getElem hi]
  refine wpAny_bind ?_
  first | refine wpAny_bind (wpAny_typeNameOfWhole_keyiter hit.typeIs (wpAny_pure (wpAny_bind (wpAny_isOneOf_keyiter hit.typeIs ?_)))) | refine wpAny_bind (wpAny_typeNameOf_keyiter hit.typeIs (wpAny_pure (wpAny_bind (wpAny_isOneOf_keyiter hit.typeIs ?_))))
  refine (show wpAny _ _ (setField (.ref it) 1 (rawInt ((i : Int) + 1)) >>= _) _ _ s from wpAny_bind (wpAny_setField ho hd (by simp) ?_))
  have hit' : (s.heap.update it (Obj.mapFields (·.setIfInBounds 1 (rawInt ((i : Int) + 1))))).IsKeyIter it d (i + 1) es.size ep :=
    ⟨_, Heap.get?_update_self _ ho (Obj.isFreed_of_fields (Obj.data_mapFields hd _)), (Obj.cls_mapFields ..).trans hc, by rw [Obj.data_mapFields hd]; simp [rawInt]⟩
  refine wpAny_bind (wpAny_holding (wpAny_bind (wpAny_isOneOf_keyiter (s := { s with heap := s.heap.update it (Obj.mapFields (·.setIfInBounds 1 (rawInt ((i : Int) + 1)))) }) hit'.typeIs ?_)))
  refine (show wpAny _ _ (pure es[i].key) _ _ _ from ?_)
  exact wpAny_pure (wpAny_pure ⟨_, rfl, wpAny_pure (hQ _ hit' (Heap.SameBut.update ..))⟩)
theorem end_raw {Q : Option Value → Shared → Prop} (hh : A.handled = none) (hit : s.heap.IsKeyIter it d i es.size ep) (hod : s.heap.get? d = some o) (hdd : o.data = .dict es ep) (hi : es.size ≤ i)
    (hQ : ∀ h', Heap.ExtBut it s.heap h' → Q none { s with heap := h' }) : wpAny (model prog w) A (pyNext (.ref it)) Q E s := by
  obtain ⟨q, ho, hc, hd⟩ := id hit
  have hown : Builtin.Dict_items.ownsTuple "dict_keyiterator" = false := by decide
  unfold pyNext
  refine wpAny_bind (wpAny_attempt (wpAny_callSpecial?_slot (name := Str.ofString "__next__") hit.typeIs F.slot_dict_keyiterator_next
    (wpAny_call_entry F.slot_dict_keyiterator_next hit.typeIs F.entry_dict_keyiterator_next (wpAny_bind (wpAny_pure (wpAny_bind (wpAny_bind ?_)))) (F.args_dict_keyiterator_next_1 _))))
  first | refine wpAny_bind (wpAny_typeNameOfWhole_keyiter hit.typeIs (wpAny_pure (wpAny_bind (wpAny_fieldsOf ho hd ?_)))) | refine wpAny_bind (wpAny_typeNameOf_keyiter hit.typeIs (wpAny_pure (wpAny_bind (wpAny_fieldsOf ho hd ?_))))
  simp only [hown, Bool.false_eq_true, if_false]
  refine (show wpAny _ _ (if (Value.ref d == Value.none) = true then _ else _) _ _ s from ?_)
  rw [if_neg (fun z : (Value.ref d == Value.none) = true => Bool.false_ne_true z)]
  refine wpAny_bind (wpAny_pure (wpAny_bind (wpAny_dictEntries hod hdd ?_)))
  rw [if_neg (by simp)]
  refine wpAny_bind (wpAny_pure (wpAny_bind (wpAny_dictEpoch hod hdd ?_)))
  rw [if_neg (by simp)]
  refine wpAny_pure ?_
  simp only [show ¬ ((i : Int) < 0) by omega, if_false, Int.toNat_natCast, Array.getElem?_eq_none hi]
  refine wpAny_bind ?_
  first | refine wpAny_bind (wpAny_typeNameOfWhole_keyiter hit.typeIs (wpAny_pure ?_)) | refine wpAny_bind (wpAny_typeNameOf_keyiter hit.typeIs (wpAny_pure ?_))
  refine (show wpAny _ _ (setField (.ref it) 0 .none >>= _) _ _ s from wpAny_bind (wpAny_setField ho hd (by simp) ?_))
  refine (show wpAny _ _ (newExc (.type "StopIteration") [] >>= _) _ _ _ from wpAny_bind ?_)
  simp only [newExc, newTuple]
  refine wpAny_bind (wpAny_newObj_type (wpAny_bind (m := firstArgMember _ _) (wpAny_of_eq (a := Value.none) (by first | rfl | (simp only [firstArgMember]; rfl)) ?_)) (by size_fits))
  refine wpAny_newObj_type ?_ (by size_fits)
  simp only [raiseNew]
  refine wpAny_bind (wpAny_handled ?_)
  rw [show A.in1.handled = none from hh]
  refine wpAny_bind (wpAny_pure (wpAny_throw ?_))
  refine wpAny_bind (wpAny_isInstance (T := "StopIteration") (b := true) ⟨_, Heap.get?_push_size _ rfl, rfl⟩ isSubtype_stop ?_)
  exact wpAny_pure (hQ _ (((Heap.SameBut.update ..).extBut.push _).push _))
theorem walk_raw (hh : A.handled = none) (hne : d ≠ it) (hdd : o.data = .dict es ep) :
    Walks prog w A it [it, d] [it] es.size (fun i v => ∃ e, es[i]? = some e ∧ v = e.key) (fun i h => h.IsKeyIter it d i es.size ep ∧ h.get? d = some o) where
  sub := fun b hb => by simp at hb; simp [hb]
  frame := fun _ _ _ st hk => ⟨st.1.at fun o e => hk it (by simp) o e, hk d (by simp) o st.2⟩
  item := fun i s Q E hi st hQ => next_raw st.1 st.2 hdd hi fun h' hit' hs' =>
    hQ _ h' s.toks ⟨es[i], by simp [hi], rfl⟩ ⟨hit', hs'.extBut d o hne st.2⟩ fun b o hb e => hs'.extBut b o (fun h => hb (by simp [h])) e
  done := fun s Q E st hQ => end_raw hh st.1 st.2 hdd (Nat.le_refl _) fun h' he' => hQ h' s.toks fun b o hb e => he' b o (fun h => hb (by simp [h])) e
  self := fun _ _ _ _ st hQ => wpAny_pyIter_keyiter st.1 hQ
end
def Old (wr : List Addr) (g h : Heap) : Prop := ∀ b o, b ∉ wr → g.get? b = some o → h.get? b = some o
section
variable {prog : Program} {w : World} {A : Around} {R : Result → Shared → Prop} {I : Addr} {fp wr : List Addr} {n : Nat} {P : Nat → Value → Prop} {St : Nat → Heap → Prop}
def CmpAt (prog : Program) (w : World) (A : Around) (wr : List Addr) (g : Heap) (P : Nat → Value → Prop) : Prop :=
  ∀ u v (s : Shared) (Q : Value → Shared → Prop) (E : Value → Shared → Prop), (∃ i, P i u) → (∃ i, P i v) → Old wr g s.heap → (∀ c, Q (.bool c) s) → wpAny (model prog w) A (richCompare .Lt u v) Q E s
theorem Old.upd {g h : Heap} {S : Addr} {f : Obj → Obj} (hg : g.get? S = none) (h1 : Old wr g h) : Old wr g (h.update S f) := fun b o hb e =>
  (Heap.get?_update_other _ _ (fun z => by subst z; rw [hg] at e; cases e)).trans (h1 b o hb e)
theorem least_loop (W : Walks prog w A.in1 I fp wr n P St) {g : Heap} (hc : CmpAt prog w A.in1 wr g P) {S : Addr} (hS : S ∉ fp) (hg : g.get? S = none) :
    ∀ (k j : Nat) (s : Shared) (vb : Value) (c : Nat), n - j = k → j ≤ n → St j s.heap → (∃ i, P i vb) → Old wr g s.heap → s.heap.get? S = some { cls := .type "list", dict := none, data := .seq #[vb, vb] c, slots := #[] } →
    (∀ v h' tk, (∃ i, P i v) → Old wr g h' → R (.ok (.ret v)) { s with heap := h', toks := tk }) → codeAny (model prog w) A (.builtin "min.loop" ⟨[.ref I, .none, .ref S], []⟩) R s := by
  have hSw : S ∉ wr := fun h => hS (W.sub _ h)
  have nm : (toString "min" ++ toString ".loop" : String) = "min.loop" := by decide
  intro k
  induction k with
  | zero =>
    intro j s vb c hk hj hst hb hO hs hR
    have e : j = n := by omega
    subst e
    refine codeAny_builtin F.entry_min_loop ?_
    rw [Around.under_plainId F.plain_min_loop _]
    refine (show wpAny _ A.in1 (seqItems? (.ref S) >>= _) _ _ s from wpAny_bind (wpAny_seqItems hs rfl ?_))
    refine (show wpAny _ A.in1 (tryCatch (pyNext (.ref I)) _ >>= _) _ _ s from wpAny_bind (wpAny_tryCatch (W.done s _ _ hst fun h' tk hk' => ?_)))
    refine (show wpAny _ A.in1 (updateSeq S (fun _ => #[]) >>= _) _ _ _ from wpAny_bind ?_)
    exact wpAny_updateSeq (hk' S _ hSw hs) rfl (wpAny_bind (wpAny_letGo (wpAny_pure (hR vb _ tk hb (Old.upd hg fun b o hb e => hk' b o hb (hO b o hb e))))))
  | succ k ih =>
    intro j s vb c hk hj hst hb hO hs hR
    have hlt : j < n := by omega
    refine codeAny_builtin F.entry_min_loop ?_
    rw [Around.under_plainId F.plain_min_loop _]
    refine (show wpAny _ A.in1 (seqItems? (.ref S) >>= _) _ _ s from wpAny_bind (wpAny_seqItems hs rfl ?_))
    refine (show wpAny _ A.in1 (tryCatch (pyNext (.ref I)) _ >>= _) _ _ s from wpAny_bind (wpAny_tryCatch (W.item j s _ _ hlt hst fun v h' tk hP hst' hk' => ?_)))
    have hs' := hk' S _ hSw hs
    have hO' : Old wr g h' := fun b o hb e => hk' b o hb (hO b o hb e)
    refine (show wpAny _ A.in1 (tryCatch (holding [v, v] (richCompare .Lt v vb >>= _)) _ >>= _) _ _ _ from wpAny_bind (wpAny_tryCatch (wpAny_holding (wpAny_bind (hc v vb _ _ _ ⟨_, hP⟩ hb hO' fun c => ?_)))))
    refine wpAny_bind (wpAny_holding (wpAny_truthy_bool (wpAny_bind (wpAny_letGo (wpAny_pure ?_)))))
    cases c with
    | true =>
      simp only [if_true]
      refine wpAny_bind (wpAny_updateSeq hs' rfl (wpAny_bind (wpAny_letGo ?_)))
      rw [nm]
      refine wpAny_pure ⟨plainId_quiet F.plain_min_loop _, ih (j + 1) _ v _ (by omega) hlt (W.frame _ _ _ hst' fun b hbf o e => ?_) ⟨_, hP⟩ (Old.upd hg hO') (Heap.get?_update_self _ hs' rfl) hR⟩
      exact (Heap.get?_update_other _ _ (fun h : S = b => hS (by rw [h]; exact hbf))).trans e
    | false =>
      simp only [Bool.false_eq_true, if_false]
      refine wpAny_bind (wpAny_letGo ?_)
      rw [nm]
      exact wpAny_pure ⟨plainId_quiet F.plain_min_loop _, ih (j + 1) _ vb _ (by omega) hlt hst' hb hO' hs' hR⟩
theorem least_call {E : Value → Shared → Prop} {s : Shared} {x : Value} {Q : Value → Shared → Prop}
    (h : wpAny (model prog w) A.in1 (pyIter x) (fun it s₂ => ∃ I fp wr n P St, it = .ref I ∧ Walks prog w A.in1 I fp wr n P St ∧ St 0 s₂.heap ∧ (∀ b ∈ fp, b < s₂.heap.objs.size) ∧ 0 < n ∧ CmpAt prog w A.in1 wr s₂.heap P ∧
      ∀ v h' tk, (∃ i, P i v) → Old wr s₂.heap h' → Q v { s₂ with heap := h', toks := tk }) E s) :
    wpAny (model prog w) A (call (.builtin "min") [x]) Q E s := by
  have nm : (toString "min" ++ toString ".loop" : String) = "min.loop" := by decide
  refine call_function_tree F.kind_min F.plain_min F.entry_min (F.args_min1 _) ?_
  refine (show wpAny _ A.in1 (Builtin.Builtins.bindParams "min" ["key", "default"] 0 ⟨[], []⟩ >>= _) _ _ s from wpAny_bind (wpAny_of_eq (show Builtin.Builtins.bindParams "min" ["key", "default"] 0 ⟨[], []⟩ = pure [none, none] from rfl) ?_))
  refine wpAny_bind (wpAny_pure (wpAny_bind (wpAny_mono h (fun it s₂ h₂ => ?_) fun _ _ e => e)))
  obtain ⟨I, fp, wr, n, P, St, rfl, W, hst, hfp, hn, hc, hQ⟩ := h₂
  refine wpAny_bind (wpAny_newObj_type ?_)
  have hSf : s₂.heap.objs.size ∉ fp := fun hm => Nat.lt_irrefl _ (hfp _ hm)
  have hg : s₂.heap.get? s₂.heap.objs.size = none := by
    cases e : s₂.heap.get? s₂.heap.objs.size with
    | none => rfl
    | some o => exact absurd (Heap.lt_size e) (Nat.lt_irrefl _)
  have hSw : s₂.heap.objs.size ∉ wr := fun h => hSf (W.sub _ h)
  rw [nm]
  refine wpAny_pure ⟨plainId_quiet F.plain_min_loop _, ?_⟩
  refine codeAny_builtin F.entry_min_loop ?_
  rw [Around.under_plainId F.plain_min_loop _]
  refine (show wpAny _ A.in1 (seqItems? (.ref s₂.heap.objs.size) >>= _) _ _ _ from wpAny_bind (wpAny_seqItems (Heap.get?_push_size _ rfl) rfl ?_))
  refine (show wpAny _ A.in1 (tryCatch (pyNext (.ref I)) _ >>= _) _ _ _ from wpAny_bind (wpAny_tryCatch (W.item 0 _ _ _ hn (W.frame _ _ _ hst fun b _ o e => Heap.get?_push_of_some _ e) fun v h' tk hP hst' hk' => ?_)))
  have hs' := hk' _ _ hSw (Heap.get?_push_size _ rfl)
  refine (show wpAny _ A.in1 (updateSeq s₂.heap.objs.size (fun _ => #[v, v]) >>= _) _ _ _ from wpAny_bind (wpAny_updateSeq hs' rfl ?_))
  rw [nm]
  refine wpAny_pure ⟨plainId_quiet F.plain_min_loop _, least_loop W hc hSf hg _ 1 _ v _ rfl hn (W.frame _ _ _ hst' fun b hbf o e => ?_) ⟨_, hP⟩ (Old.upd hg fun b o hb e => hk' b o hb (Heap.get?_push_of_some _ e)) (Heap.get?_update_self _ hs' rfl) hQ⟩
  exact (Heap.get?_update_other _ _ (fun h : s₂.heap.objs.size = b => hSf (by rw [h]; exact hbf))).trans e
end
end SO

namespace SO
open PySem PyProof PyProof.Rows
section
variable {prog : Program} {w : World} {A : Around} {E : Value → Shared → Prop} {s : Shared} {a b : Addr} {oa ob : Obj} {es es' : Array DictEntry} {ep ep' : Nat}
theorem eq_none {Q : Value → Shared → Prop} (hu : A.units < cLine) (ha : (a == sysModules) = false) (hb : (b == sysModules) = false) (hoa : s.heap.get? a = some oa) (hxa : oa.ExactDict) (hda : oa.data = .dict es ep) (hob : s.heap.get? b = some ob) (hxb : ob.ExactDict)
    (hdb : ob.data = .dict es' ep') (he : es'.size = 0) (h : Q (.bool (decide (es.size = 0))) s) : wpAny (model prog w) A (compareOp .Eq (.ref a) (.ref b)) Q E s := by
  have ta : s.TypeIs (.ref a) "dict" := ⟨oa, hoa, hxa.1⟩
  have tb : s.TypeIs (.ref b) "dict" := ⟨ob, hob, hxb.1⟩
  have na : ¬ ((a == sysModules) = true) := by rw [ha]; exact Bool.false_ne_true
  have nb : ¬ ((b == sysModules) = true) := by rw [hb]; exact Bool.false_ne_true
  refine wpAny_richCompare_same_room (op := .Eq) ta tb PySem.F.slot_dict_eq (wpAny_call_entry PySem.F.slot_dict_eq ta PySem.F.entry_dict_eq ?_ (PySem.F.args_dict_eq_2 _ _)) hu
  refine (show wpAny _ _ (Builtin.Dict.dictSlotArgs "__eq__" ⟨[.ref a, .ref b], []⟩ >>= _) _ _ s from wpAny_bind ?_)
  unfold Builtin.Dict.dictSlotArgs
  refine wpAny_bind (wpAny_notOrdered_dict ta ?_)
  refine (show wpAny _ _ (pure (Value.ref a, Value.ref b)) _ _ s from wpAny_pure ?_)
  refine wpAny_bind (wpAny_isInstance (T := "dict") tb PySem.F.sub_dict_dict ?_)
  simp only [Bool.not_true, Bool.false_eq_true, if_false]
  refine wpAny_bind (wpAny_pure (wpAny_bind (wpAny_pure (wpAny_bind ?_))))
  unfold Builtin.Dict.samePairs Builtin.Dict.showsAll
  rw [if_neg na, if_neg nb]
  refine wpAny_bind (wpAny_pure (wpAny_bind (wpAny_pure (wpAny_bind (wpAny_dictEntries hoa hda ?_)))))
  dsimp only
  refine wpAny_bind (wpAny_dictEntries hob hdb ?_)
  by_cases hz : es.size = 0
  · rw [if_neg (by rw [hz, he]; simp)]
    refine wpAny_bind (wpAny_dictEpoch hoa hda (wpAny_bind ?_))
    rw [Std.Legacy.Range.forIn_eq_forIn_range']
    simp only [Std.Legacy.Range.size, Nat.sub_zero, Nat.add_sub_cancel, Nat.div_one, hz, List.range'_zero, List.forIn_nil]
    refine wpAny_pure (wpAny_pure (wpAny_pure ⟨_, rfl, (fun x => nomatch x), ?_⟩))
    rw [decide_eq_true hz] at h
    exact h
  · rw [if_pos (by rw [he]; simpa using hz)]
    refine wpAny_bind (wpAny_rule (wpAny_pure (wpAny_pure ⟨_, rfl, (fun x => nomatch x), ?_⟩)))
    rw [decide_eq_false hz] at h
    exact h
end
end SO
namespace L2
open PySem PySem.Spec PyProof.Rows
section
variable {X : Cx}
def rCount : V → List V → Hp → VK → Prop := fun x vs H Q => ∃ (l : Addr) (ns : List Int) (k : Int), x = .ref l ∧ vs = [.int k] ∧ H l = some (.lst (ns.map V.int)) ∧ Q (.int (ns.count k : Nat)) H
theorem mt_count : MtM X "list.count" rCount := by
  intro pins s σ H x vs v us Q I rx rv h
  obtain ⟨l, ns, k, rfl, rfl, hH, q⟩ := h
  cases rx
  obtain ⟨u, rfl, t, rfl⟩ := rv.one
  obtain ⟨z, its, n, r, hl, e⟩ := I.lstM hH
  exact count_list_ints ⟨_, e, rfl, n, rfl⟩ (intsAre_of r) ⟨.int _, H, I.tok _, ⟨_, rfl⟩, q⟩
def rEmp : R2 := fun x y H Q => ∃ (a b : Addr) (kvs : List (List Key × V)), x = .ref a ∧ y = .ref b ∧ Rd H a (.dT kvs) ∧ Rd H b (.dT []) ∧ Q (.bl (decide (kvs.length = 0))) H
theorem op_eqE (hu : X.A.units < cLine) : OpR X (compareOp .Eq) rEmp := by
  intro pins s σ H x y v u Q I rx ry h
  obtain ⟨a, b, kvs, rfl, rfl, ha, hb, q⟩ := h
  cases rx
  cases ry
  obtain ⟨_, na, xs, ra, oa, es, ep, ga, xa, da, ea, _⟩ := dt_rd I.hok ha
  obtain ⟨_, nb, ys, rb, ob, es', ep', gb, xb, db, eb, _⟩ := dt_rd I.hok hb
  cases rb
  have h1 : es.size = kvs.length := by rw [size_of_entries ea, ← Paired.length ra]
  refine SO.eq_none hu na nb ga xa da gb xb db (size_of_entries eb) ⟨.bl _, H, I, rfl, ?_⟩
  rw [h1]; exact q
theorem kt_get {H : Hp} : ∀ {kvs : List (List Key × V)} {xs : List (List Key × Addr × Value)} {i : Nat} {q : List Key × Addr × Value}, KT H kvs xs → xs[i]? = some q → ∃ p, kvs[i]? = some p ∧ p.1 = q.1 ∧ H q.2.1 = some (.tup (p.1.map kV)) ∧ RelV p.2 q.2.2
  | _, _, _, _, .nil, e => by simp at e
  | _, _, 0, _, .cons (a := p) r _, e => by
    simp at e; subst e
    exact ⟨p, rfl, r⟩
  | _, _, i + 1, q, .cons _ t, e => by
    obtain ⟨p, h1, h2⟩ := kt_get (i := i) (q := q) t (by simpa using e)
    exact ⟨p, by simpa using h1, h2⟩
theorem kt_at {P : Program} {w : World} {H : Hp} {kvs : List (List Key × V)} {xs : List (List Key × Addr × Value)} {es : Array DictEntry} {i : Nat} {e : DictEntry} (r : KT H kvs xs) (ee : es.toList = xs.map (entryOfKey (tupleKind (mixKind P w)))) (h : es[i]? = some e) :
    ∃ (p : List Key × V) (b : Addr), kvs[i]? = some p ∧ e.key = .ref b ∧ H b = some (.tup (p.1.map kV)) := by
  rw [entry_at ee] at h
  obtain ⟨q, h1, rfl⟩ := Option.map_eq_some_iff.mp h
  obtain ⟨p, g1, _, g3, _⟩ := kt_get r h1
  exact ⟨p, q.2.1, g1, rfl, g3⟩
theorem call_minT (hc : X.calm = true) (hu : X.A.in1.units < cLine) : CallR X (.builtin "min") (fun xs H Q => ∃ (d : Addr) (kvs : List (List Key × V)), xs = [.ref d] ∧ H d = some (.dT kvs) ∧ 0 < kvs.length ∧ (∀ p ∈ kvs, ∃ ns : List Int, p.1.map kV = ns.map V.int) ∧
    ∀ (p : List Key × V) (b : Addr), p ∈ kvs → H b = some (.tup (p.1.map kV)) → Q (.ref b) H) := by
  intro pins s σ H xs us Q I r h
  obtain ⟨d, kvs, rfl, hd, h0, hn, q⟩ := h
  obtain ⟨u, rfl, rx⟩ := vals1 r
  cases rx
  obtain ⟨_, nd, ys, rk, o, es, ep, go, xo, dat, ee, _⟩ := dt_of I.hok hd
  have hsz : es.size = kvs.length := by rw [size_of_entries ee, ← Paired.length rk]
  have hlt := Heap.lt_size go
  refine SO.least_call (SO.iter_raw go xo dat nd ?_)
  refine ⟨s.heap.objs.size, _, [s.heap.objs.size], es.size, _, _, rfl, SO.walk_raw (A := X.A.in1) (show X.A.in1.handled = none from I.ok.hd hc) (Nat.ne_of_lt hlt) dat, ⟨⟨_, Heap.get?_push_size _ rfl, rfl, rfl⟩, Heap.get?_push_of_some _ go⟩, fun b hb => ?_, by omega, ?_, fun v h' tk hv hk => ?_⟩
  · have hp := Heap.lt_size (Heap.get?_push_size s.heap (o := { cls := .type "dict_keyiterator", data := .fields #[.ref d, .int 0 0, .int es.size 0, .int ep 0] }) rfl)
    simp only [List.mem_cons, List.not_mem_nil, or_false] at hb
    rcases hb with rfl | rfl
    · exact hp
    · exact Nat.lt_trans hlt hp
  · rintro u v s' Q' E' ⟨i, e, he, rfl⟩ ⟨j, f, hf, rfl⟩ hO hq
    obtain ⟨p1, b1, g1, k1, t1⟩ := kt_at rk ee he
    obtain ⟨p2, b2, g2, k2, t2⟩ := kt_at rk ee hf
    rw [k1, k2]
    obtain ⟨n1, e1⟩ := hn p1 (List.mem_of_getElem? g1)
    obtain ⟨n2, e2⟩ := hn p2 (List.mem_of_getElem? g2)
    rw [e1] at t1
    rw [e2] at t2
    obtain ⟨its1, r1, ⟨o1, z1, c1, m1, d1⟩, _⟩ := I.tuple (SqT.of t1)
    obtain ⟨its2, r2, ⟨o2, z2, c2, m2, d2⟩, _⟩ := I.tuple (SqT.of t2)
    have old : ∀ {b : Addr} {o : Obj}, s.heap.get? b = some o → s'.heap.get? b = some o := fun {b o} e => hO b o (by simp only [List.mem_cons, List.not_mem_nil, or_false]; exact Nat.ne_of_lt (Heap.lt_size e)) (Heap.get?_push_of_some _ e)
    exact SO.lt_tups (A := X.A.in1) hu (old z1) c1 d1 (old z2) c2 d2 (intsAre_of r1) (intsAre_of r2) hq
  · obtain ⟨i, e, he, rfl⟩ := hv
    obtain ⟨p, b, g1, k1, t1⟩ := kt_at rk ee he
    rw [k1]
    refine ⟨.ref b, H, I.kept (h' := h') (t' := tk) fun c o e => hk c o ?_ (Heap.get?_push_of_some _ e), rfl, q p b (List.mem_of_getElem? g1) t1⟩
    simp only [List.mem_cons, List.not_mem_nil, or_false]
    exact Nat.ne_of_lt (Heap.lt_size e)
theorem Inv.freezeT {pins : List (Addr × Obj)} {σ : St} {H : Hp} {s : Shared} {d : Addr} {kvs : List (List Key × V)} {o : Obj} (I : Inv X pins σ H s) (hd : H d = some (.dT kvs)) (ho : s.heap.get? d = some o) : Inv X pins σ (upd H d (.frz o (.dT kvs))) s := by
  have ne : ∀ b u, H b = some u → (∀ z, u ≠ .dT z) → b ≠ d := fun b u e z q => by subst q; rw [hd] at e; cases e; exact z _ rfl
  refine I.step (h' := s.heap) (g' := s.gens) (d' := s.drawn) (t' := s.toks) (ch := []) (fun _ z => nomatch z) (fun b o' _ _ _ e _ => e) (fun b o' _ _ _ e _ => ⟨o'.slots, e⟩) (fun b o' _ _ e => ?_) (fun b o' _ e => ⟨o', e⟩) (fun b xs e => ?_) (fun b ob u e => ?_) (fun b ps e => ⟨#[], ?_⟩) (fun m h => h) (fun b u e => ?_) I.bare
  · rw [upd_ne (fun q => by subst q; rw [hd] at e; cases e)]; exact e
  · rw [upd_ne (ne b _ e fun z q => by cases q)]; exact e
  · rw [upd_ne (ne b _ e fun z q => by cases q)]; exact e
  · rw [upd_ne (ne b _ e fun z q => by cases q), e]; simp
  · by_cases hb : b = d
    · subst hb
      rw [upd_same] at e
      cases e
      refine ⟨ho, (I.hok _ _ hd).stay (fun c v _ q => q) (fun c q => ?_) fun c xs q => ?_⟩
      · rw [upd_ne (ne c _ q fun z q' => by cases q')]; exact q
      · rw [upd_ne (ne c _ q fun z q' => by cases q')]; exact q
    · rw [upd_ne hb] at e
      exact (I.hok b u e).stay (fun c v _ q => q) (fun c q => by rw [upd_ne (ne c _ q fun z q' => by cases q')]; exact q) fun c xs q => by rw [upd_ne (ne c _ q fun z q' => by cases q')]; exact q
def ItK (d : Addr) (o : Obj) (kvs : List (List Key × V)) : It :=
  ⟨fun i H => H d = some (.frz o (.dT kvs)) ∧ i < kvs.length, fun i H v H' => H' = H ∧ ∃ T p, kvs[i]? = some p ∧ v = .ref T ∧ H T = some (.tup (p.1.map kV)), fun i H => H d = some (.frz o (.dT kvs)) ∧ kvs.length ≤ i⟩
theorem turn_keys {P : Program} {w : World} {K : PySem.W.Frag} {tg : Expr} (d it : Addr) (o : Obj) (kvs : List (List Key × V)) {es : Array DictEntry} {ep : Nat} (hdat : o.data = .dict es ep) (hsz : es.size = kvs.length) :
    Turn P w K tg (ItK d o kvs) [it] it (fun i h => h.IsKeyIter it d i es.size ep) where
  mem := by simp
  obj := fun i h st b hb => by
    have e' := List.mem_singleton.mp hb
    subst e'
    obtain ⟨q, e, c, dd⟩ := st
    exact ⟨q, e, fun v z => by rw [dd] at z; cases z⟩
  keep := fun i h h' st k => st.at fun o e => k it (by simp) o e
  item := by
    intro X hP hw hK hc i pins s σ H E I hf st hg
    subst hP hw hK
    obtain ⟨hfz, hi⟩ := hg
    have ho : s.heap.get? d = some o := (show ObjOk X.prog X.w H s.heap d (.frz o (.dT kvs)) from I.hok d _ hfz).1
    obtain ⟨_, _, xs, rk, o', es', ep', ho', _, hd', ee, _⟩ := dt_rd I.hok (Or.inr ⟨o, hfz⟩)
    rw [ho] at ho'; cases ho'
    rw [hdat] at hd'; cases hd'
    have hi' : i < es.size := by omega
    obtain ⟨f0, f1, f2, f3, f4, f5⟩ := hf it (by simp)
    obtain ⟨p, b, g1, k1, t1⟩ := kt_at rk ee (Array.getElem?_eq_getElem hi')
    refine SO.next_raw st ho hdat hi' fun h' st' sb => ?_
    rw [k1]
    have I1 : Inv X pins σ H { s with heap := h' } := I.turned (t' := s.toks) (fun b o hb e => (sb.2 b hb).trans e) f0 f1 f3 f4 f5
    obtain ⟨q, e, c, dd⟩ := id st'
    exact ⟨_, rfl, go_of (s := { s with heap := h' }) e c dd (by decide) ⟨.ref b, H, I1, rfl, ⟨rfl, b, p, g1, rfl, t1⟩, st', fun b hb => (hf b hb).1⟩⟩
  done := by
    intro X hP hw hK hc i pins s σ H E I hf st hg
    subst hP hw hK
    obtain ⟨hfz, hi⟩ := hg
    have ho : s.heap.get? d = some o := (show ObjOk X.prog X.w H s.heap d (.frz o (.dT kvs)) from I.hok d _ hfz).1
    obtain ⟨f0, f1, f2, f3, f4, f5⟩ := hf it (by simp)
    exact SO.end_raw (I.ok.hd hc) st ho hdat (by omega) fun h' eb => ⟨rfl, I.turned (t' := s.toks) (fun b o hb e => eb b o hb e) f0 f1 f3 f4 f5⟩
  self := fun _ _ _ _ _ st h => wpAny_pyIter_keyiter st h
def iKeys (tl : TE) : TI := fun σ H R => tl σ H fun x H1 => ∃ (d : Addr) (kvs : List (List Key × V)), x = .ref d ∧ H1 d = some (.dT kvs) ∧ ∀ o, R (ItK d o kvs) (upd H1 d (.frz o (.dT kvs)))
theorem pi_keys {tg l : Expr} {tl : TE} (hl : PE X l tl) : PI X tg l (iKeys tl) := by
  intro pins s σ H R I h
  refine thn (hl pins s σ H _ I h) fun v s1 ⟨x, H1, I1, r1, d, kvs, ex, hd, q⟩ => ?_
  subst ex
  cases r1
  obtain ⟨_, nd, ys, rk, o, es, ep, go, xo, dat, ee, _⟩ := dt_of I1.hok hd
  have hsz : es.size = kvs.length := by rw [size_of_entries ee, ← Paired.length rk]
  refine SO.iter_raw go xo dat nd ?_
  have I2 := I1.freezeT hd go
  refine ⟨s1.heap.objs.size, [s1.heap.objs.size], _, _, _, rfl, I2.kept (t' := s1.toks) fun b o e => Heap.get?_push_of_some _ e, turn_keys d _ o kvs dat hsz, ⟨_, Heap.get?_push_size _ rfl, rfl, rfl⟩, fun b hb => ?_, q o⟩
  have e' := List.mem_singleton.mp hb
  subst e'
  exact I2.fpOk (Nat.le_refl _) (I2.hok.fresh (Nat.le_refl _))
end
theorem for_keys {d : Addr} {o : Obj} {kvs : List (List Key × V)} {g : TG} {tb : TS} {D : Ends} {σ : St} {H : Hp} (Pv : Nat → St → Hp → Prop) (h0 : Pv 0 σ H) (hl : ∀ i σ H, i ≤ kvs.length → Pv i σ H → H d = some (.frz o (.dT kvs)))
    (hs : ∀ (i : Nat) p σ H T, kvs[i]? = some p → Pv i σ H → H T = some (.tup (p.1.map kV)) → g (.ref T) σ H fun σ2 H2 => tb { D with nx := Pv (i + 1), ct := Pv (i + 1), bk := D.nx } σ2 H2) (hd : ∀ σ H, Pv kvs.length σ H → D.nx σ H) :
    ∃ W : Nat → Nat → St → Hp → Prop, (∃ m, W 0 m σ H) ∧ ∀ i m σ H, W i m σ H →
      ((ItK d o kvs).stop i H ∧ D.nx σ H) ∨ ((ItK d o kvs).go i H ∧ ∃ N : St → Hp → Prop, (∀ σ' H', N σ' H' → ∃ m', m' < m ∧ W (i + 1) m' σ' H') ∧ ∀ x H', (ItK d o kvs).yld i H x H' → g x σ H' fun σ2 H2 => tb { D with nx := N, ct := N, bk := D.nx } σ2 H2) := by
  refine ⟨fun i m σ H => m = kvs.length - i ∧ i ≤ kvs.length ∧ Pv i σ H, ⟨kvs.length, by simp, Nat.zero_le _, h0⟩, ?_⟩
  rintro i m σ H ⟨rfl, hi, p⟩
  have q := hl i σ H hi p
  by_cases hlt : i < kvs.length
  · refine .inr ⟨⟨q, hlt⟩, Pv (i + 1), fun σ' H' p' => ⟨kvs.length - (i + 1), by omega, rfl, hlt, p'⟩, fun x H' y => ?_⟩
    obtain ⟨rfl, T, kv, e, rfl, hT⟩ := y
    exact hs i kv σ _ T e p hT
  · have e : i = kvs.length := by omega
    subst e
    exact .inl ⟨⟨q, Nat.le_refl _⟩, hd σ H p⟩
end L2

namespace L2
open PySem PySem.Spec PyProof.Rows
structure M2 (X : Cx) (o : Expr) (m : Str) (apos : Pos) (e f : Expr) (cpos : Pos) : Prop where
  base : attributeBase o m X.env (eval o X.env) = eval o X.env
  few : ((backTo cpos (starEach [e, f] X.env)).all (fun x => !x.1) && (backToKw cpos (keywordEach [] X.env)).all (fun x => x.1.isSome)
    && decide (([e, f] : List Expr).length + ([] : List Keyword).length + (if ([] : List Keyword).isEmpty then 0 else 1) < 30)) = true
  line : (apos.endLine == cpos.line) = true
  trees : backTo cpos (starEach [e, f] X.env) = [(false, eval e X.env), (false, eval f X.env)]

def IsD (H : Hp) (a : Addr) : Prop := (∃ kvs, Rd H a (.dK kvs)) ∨ ∃ kvs, Rd H a (.dT kvs)
theorem isD_at {X : Cx} {pins : List (Addr × Obj)} {σ : St} {H : Hp} {s : Shared} {a : Addr} (I : Inv X pins σ H s) (d : IsD H a) :
    s.TypeIs (.ref a) "dict" ∧ (∀ b, Value.ref a = .ref b → ∃ ob, s.heap.get? b = some ob ∧ ob.dict = none) ∧ (a == sysModules) = false := by
  rcases d with ⟨kvs, e⟩ | ⟨kvs, e⟩
  · obtain ⟨_, hd, vs, _, dd⟩ := dk_rd I.hok e
    refine ⟨dd.typeIs, fun b q => ?_, hd⟩
    cases q
    obtain ⟨ob, _, _, h1, h2, _⟩ := dd
    exact ⟨ob, h1, h2.2.1⟩
  · obtain ⟨_, hd, xs, _, dd⟩ := dt_rd I.hok e
    refine ⟨dd.typeIs, fun b q => ?_, hd⟩
    cases q
    obtain ⟨ob, _, _, h1, h2, _⟩ := dd
    exact ⟨ob, h1, h2.2.1⟩

section
variable {X : Cx} {pins : List (Addr × Obj)} {σ : St} {H : Hp} {s : Shared} {a : Addr} {y d : V} {u r : Value} {o : Option V} {A : Around} {E : Value → Shared → Prop}
theorem d_get2 {Q : Value → Shared → Prop} (hu : A.units + 1 < cLine) (I : Inv X pins σ H s) (g : DGet H a y o) (ry : RelV y u) (rd : RelV d r) (h : ∀ w' s', Inv X pins σ H s' → RelV (o.getD d) w' → Q w' s') :
    wpAny (model X.prog X.w) A (call (.builtin "dict.get") [.ref a, u, r]) Q E s := by
  rcases g with ⟨kvs, k, e, ey, l⟩ | ⟨kvs, k, b, e, ey, eb, l⟩
  · subst ey
    obtain ⟨z, hd, vs, rel, dd⟩ := dk_rd I.hok e
    refine call_meetsIn PySem.F.slot_dict_get dd.typeIs PySem.F.entry_dict_get (PySem.F.args_dict_get_3 _ _ _) (meets_dict_get_default (mixKind X.prog X.w) a (kV_is ry) hd r) ⟨_, dd.mapOf, h _ _ (I.tok _) ?_⟩
    rw [l]
    exact (rel.val k).getD rd
  · subst ey
    cases (show u = Value.ref b from ry)
    obtain ⟨z, hd, xs, rel, dd⟩ := dt_rd I.hok e
    refine call_meetsIn PySem.F.slot_dict_get dd.typeIs PySem.F.entry_dict_get (PySem.F.args_dict_get_3 _ _ _) (meetsH_dict_get_default (tupleKind (mixKind X.prog X.w)) a b hd r) ⟨tupleKind_room_in1 hu, k, xs, key_of I.hok eb, dd, h _ _ (I.tok _) ?_⟩
    rw [l]
    exact (rel.val k).getD rd
end

def tDGet2 (td ty tx : TE) : TE := fun σ H Q => td σ H fun x H1 => ∃ a, x = .ref a ∧ IsD H1 a ∧ ty σ H1 fun y H2 => tx σ H2 fun z H3 => ∃ o, DGet H3 a y o ∧ Q (o.getD z) H3
section
variable {X : Cx} {o e f : Expr} {apos cpos : Pos} {td ty tx : TE}
theorem pe_dget2 (hu : X.A.units + 1 < cLine) (ho : PE X o td) (he : PE X e ty) (hf : PE X f tx) (m : M2 X o "get" apos e f cpos) : PE X (.Call (.Attribute o "get" apos) [e, f] [] cpos) (tDGet2 td ty tx) := by
  intro pins s σ H Q I h
  refine wpAny_Call_method m.base m.few m.line PySem.F.plainAttrs_dict PySem.F.slot_dict_get PySem.F.type_dict_get (thn (ho pins s σ H _ I h) fun u s1 ⟨x, H1, I1, rx, a, ex, d, q1⟩ => ?_)
  subst ex
  obtain rfl : u = Value.ref a := rx
  obtain ⟨t1, t2, _⟩ := isD_at I1 d
  refine ⟨t1, t2, ?_⟩
  rw [m.trees]
  refine Calls.callWith_builtin rfl (Calls.evalArgs_plain (Calls.spliced_cons (thn (he pins s1 σ H1 _ I1 q1) fun iv s2 ⟨y, H2, I2, ry, q2⟩ =>
    Calls.spliced_cons (thn (hf pins s2 σ H2 _ I2 q2) fun fv s3 ⟨z, H3, I3, rz, ov, g, q3⟩ => Calls.spliced_nil ?_))))
  exact d_get2 hu I3 g ry rz fun w' s4 I4 rw' => ⟨_, H3, I4, rw', q3⟩
end
end L2

namespace L2
open PySem PySem.Spec PyProof.Rows
theorem Same.upd {H H' : Hp} {l : Addr} {o : HO} (g : Same H H') (h : H l = none) : Same H (upd H' l o) := fun b u q => by rw [upd_ne (ne_of_none q h)]; exact g b u q
theorem in1u {k : Nat} {A : Around} (r : Room k A) : A.in1.units < cLine := by have := r.un; show A.units + 1 < cLine; omega
theorem few {n : Nat} (h : n ≤ 100000) : n ≤ sizeLine := Nat.le_trans h (by decide)
theorem few' {n : Nat} (h : n < 100000) : n < sizeLine := Nat.lt_of_lt_of_le h (by decide)
def Lst {α : Type} (R : Hp → V → α → Prop) (H : Hp) (l : Addr) (xs : List α) : Prop := ∃ vs, H l = some (.lst vs) ∧ vs.length = xs.length ∧ ∀ (i : Nat) v x, vs[i]? = some v → xs[i]? = some x → R H v x
section
variable {α : Type} {R : Hp → V → α → Prop} {H H' : Hp} {l : Addr} {xs : List α}
theorem Lst.mono (h : Lst R H l xs) (g : Same H H') (m : ∀ v x, R H v x → R H' v x) : Lst R H' l xs := by
  obtain ⟨vs, h1, h2, h3⟩ := h
  exact ⟨vs, g _ _ h1, h2, fun i v x a b => m v x (h3 i v x a b)⟩
theorem Lst.at (h : Lst R H l xs) {i : Nat} {x : α} (hi : xs[i]? = some x) : ∃ vs v, H l = some (.lst vs) ∧ vs.length = xs.length ∧ vs[i]? = some v ∧ R H v x := by
  obtain ⟨vs, h1, h2, h3⟩ := h
  have hl : i < vs.length := by rw [h2]; exact (List.getElem?_eq_some_iff.mp hi).1
  exact ⟨vs, vs[i], h1, h2, List.getElem?_eq_getElem hl, h3 i _ x (List.getElem?_eq_getElem hl) hi⟩
theorem Lst.app {x : α} {v : V} {vs : List V} (h1 : H' l = some (.lst (vs ++ [v]))) (h2 : vs.length = xs.length) (h3 : ∀ (i : Nat) v x, vs[i]? = some v → xs[i]? = some x → R H' v x) (h4 : R H' v x) : Lst R H' l (xs ++ [x]) := by
  refine ⟨_, h1, by simp [h2], fun i u y a b => ?_⟩
  rcases Nat.lt_or_ge i vs.length with z | z
  · rw [List.getElem?_append_left z] at a
    rw [List.getElem?_append_left (by omega)] at b
    exact h3 i u y a b
  · rw [List.getElem?_append_right z] at a
    rw [List.getElem?_append_right (by omega)] at b
    have hi : i - vs.length = 0 := by
      have := (List.getElem?_eq_some_iff.mp a).1
      simp at this; omega
    rw [hi] at a
    rw [← h2, hi] at b
    simp at a b
    subst a b
    exact h4
end
abbrev Pt := Int × Int
def PtAt (H : Hp) (v : V) (p : Pt) : Prop := ∃ a, v = .ref a ∧ H a = some (.tup [.int p.1, .int p.2])
abbrev PsAt (H : Hp) (l : Addr) (ps : List Pt) : Prop := Lst PtAt H l ps
def LnAt (H : Hp) (v : V) (ps : List Pt) : Prop := ∃ l, v = .ref l ∧ PsAt H l ps
abbrev LsAt (H : Hp) (l : Addr) (ll : List (List Pt)) : Prop := Lst LnAt H l ll
theorem PtAt.mono {H H' : Hp} (g : Same H H') (v : V) (p : Pt) (h : PtAt H v p) : PtAt H' v p := let ⟨a, e, q⟩ := h; ⟨a, e, g _ _ q⟩
theorem Same.ps {H H' : Hp} (g : Same H H') {l : Addr} {ps : List Pt} (h : PsAt H l ps) : PsAt H' l ps := h.mono g (PtAt.mono g)
theorem LnAt.mono {H H' : Hp} (g : Same H H') (v : V) (ps : List Pt) (h : LnAt H v ps) : LnAt H' v ps := let ⟨l, e, q⟩ := h; ⟨l, e, g.ps q⟩
theorem Same.ls {H H' : Hp} (g : Same H H') {l : Addr} {ll : List (List Pt)} (h : LsAt H l ll) : LsAt H' l ll := h.mono g (LnAt.mono g)
def pt (ps : List Pt) (i : Nat) : Pt := ps.getD i (0, 0)
theorem pt_get {ps : List Pt} {i : Nat} (h : i < ps.length) : ps[i]? = some (pt ps i) := by
  unfold pt; rw [List.getElem?_eq_getElem h]; simp [List.getD, h]
theorem Lst.pt {H : Hp} {l : Addr} {ps : List Pt} (h : PsAt H l ps) {i : Nat} (hi : i < ps.length) : ∃ vs a, H l = some (.lst vs) ∧ vs.length = ps.length ∧ vs[i]? = some (.ref a) ∧ H a = some (.tup [.int (pt ps i).1, .int (pt ps i).2]) := by
  obtain ⟨vs, v, h1, h2, h3, a, rfl, h4⟩ := h.at (pt_get hi)
  exact ⟨vs, a, h1, h2, h3, h4⟩
def hd (p q : Pt) : Int := if p.2 = q.2 then (if q.1 < p.1 then 2 else 0) else (if q.2 < p.2 then 3 else 1)
def Strt (p q : Pt) : Prop := (p.2 = q.2 ∧ p.1 ≠ q.1) ∨ (p.1 = q.1 ∧ p.2 ≠ q.2)
def hds (ps : List Pt) : List Int := (List.range (ps.length - 1)).map fun k => hd (pt ps k) (pt ps (k + 1))
theorem hds_len (ps : List Pt) : (hds ps).length = ps.length - 1 := by simp [hds]
def Line (ps : List Pt) : Prop := 2 ≤ ps.length ∧ ps.length ≤ 1000 ∧ ∀ k, k + 1 < ps.length → Strt (pt ps k) (pt ps (k + 1))
def ends2 (ps : List Pt) : List Int := [at0 (hds ps) 0, (at0 (hds ps) ((hds ps).length - 1) + 2) % 4]
def lvs (ll : List (List Pt)) : List Int := ll.flatMap ends2
theorem lvs_len : ∀ ll : List (List Pt), (lvs ll).length = 2 * ll.length
  | [] => rfl
  | ps :: ll => by
    have := lvs_len ll
    unfold lvs at this ⊢
    rw [List.flatMap_cons, List.length_append, this]
    simp [ends2]; omega
def dif (hs : List Int) (q : Int) : List Int := (List.range (hs.length - 1)).map fun k => (at0 hs (k + 1) - at0 hs k - q) % 4
def cnt (ps : List Pt) (c : Int) : Int := ((dif (hds ps) 0).count c : Nat)
def lfs (ll : List (List Pt)) : List Int := ll.flatMap fun ps => [cnt ps 1, cnt ps 3]
def cns (ts : MM.Ties) (os : MM.Ords) (hs : List Int) : List Int := (List.range hs.length).map fun e => (at0 hs (MM.oth e) - at0 hs (MM.behind ts os e) - 1) % 4 + 1
theorem take_flat {α β : Type} (f : α → List β) {l : List α} {i : Nat} {x : α} (h : l[i]? = some x) : (l.take (i + 1)).flatMap f = (l.take i).flatMap f ++ f x := by
  rw [List.take_succ, h, List.flatMap_append]; simp
theorem cnt_by (hs : List Int) (q c : Int) (h : ∀ d : Int, (d - q) % 4 = 0 ↔ (d - 0) % 4 = c) : (dif hs q).count 0 = (dif hs 0).count c := by
  unfold dif
  rw [List.count_eq_countP, List.count_eq_countP, List.countP_map, List.countP_map]
  refine List.countP_congr fun k _ => ?_
  simp only [Function.comp, beq_iff_eq]
  exact h _
theorem atI_end {ls : List Int} (h : 0 < ls.length) : atI (ls.map V.int) (-1) = some (.int (at0 ls (ls.length - 1))) := by
  unfold atI
  have e : ixN (ls.map V.int).length (-1) = some (ls.length - 1) := by
    unfold ixN
    rw [List.length_map, if_neg (by decide), if_pos (by omega)]
    simp only [Option.some.injEq]; omega
  rw [e]
  exact at_get (by omega)
theorem cut_1 (vs : List V) (h : 1 ≤ vs.length) : cutV vs (some 1) none = vs.drop 1 := by
  unfold cutV HT.sIx
  simp only [show ¬ ((1 : Int) < 0) by omega, if_false]
  rw [show min (Int.toNat 1) vs.length = 1 by omega]
  exact List.take_of_length_le (by rw [List.length_drop]; omega)
end L2

namespace K57
open PySem L2
def top (i : Nat) : Stmt := PySem.Challenge.pw_fewbends_k57_shapes_read.main.body.getD i (.Pass ⟨0, 0, 0, 0⟩)
abbrev s_opposite : Stmt := top 2
theorem sc_opposite : FnScope ["head"] ["head"] (defScope s_opposite) := ⟨rfl, rfl, rfl, by decide +kernel, rfl, by decide +kernel, by decide +kernel⟩
abbrev s_quarters_right : Stmt := top 3
theorem sc_quarters_right : FnScope ["head", "onward"] ["head", "onward"] (defScope s_quarters_right) := ⟨rfl, rfl, rfl, by decide +kernel, rfl, by decide +kernel, by decide +kernel⟩
abbrev s_step_heading : Stmt := top 4
theorem sc_step_heading : FnScope ["point", "onward", "across", "upward"] ["point", "onward"] (defScope s_step_heading) := ⟨rfl, rfl, rfl, by decide +kernel, rfl, by decide +kernel, by decide +kernel⟩
abbrev s_line_headings : Stmt := top 5
theorem sc_line_headings : FnScope ["line"] ["line"] (defScope s_line_headings) := ⟨rfl, rfl, rfl, by decide +kernel, rfl, by decide +kernel, by decide +kernel⟩
abbrev s_other_end : Stmt := top 7
theorem sc_other_end : FnScope ["end"] ["end"] (defScope s_other_end) := ⟨rfl, rfl, rfl, by decide +kernel, rfl, by decide +kernel, by decide +kernel⟩
abbrev s_place_of : Stmt := top 8
theorem sc_place_of : FnScope ["web", "end"] ["web", "end"] (defScope s_place_of) := ⟨rfl, rfl, rfl, by decide +kernel, rfl, by decide +kernel, by decide +kernel⟩
abbrev s_goes_to : Stmt := top 9
theorem sc_goes_to : FnScope ["web", "end"] ["web", "end"] (defScope s_goes_to) := ⟨rfl, rfl, rfl, by decide +kernel, rfl, by decide +kernel, by decide +kernel⟩
abbrev s_behind : Stmt := top 10
theorem sc_behind : FnScope ["web", "end", "order"] ["web", "end"] (defScope s_behind) := ⟨rfl, rfl, rfl, by decide +kernel, rfl, by decide +kernel, by decide +kernel⟩
abbrev s_leaving_headings : Stmt := top 12
theorem sc_leaving_headings : FnScope ["lines", "told", "line", "headings"] ["lines"] (defScope s_leaving_headings) := ⟨rfl, rfl, rfl, by decide +kernel, rfl, by decide +kernel, by decide +kernel⟩
abbrev s_shape_of : Stmt := top 13
theorem sc_shape_of : FnScope ["web", "drawing", "headings", "corners", "end", "lefts", "line"] ["web", "drawing"] (defScope s_shape_of) := ⟨rfl, rfl, rfl, by decide +kernel, rfl, by decide +kernel, by decide +kernel⟩
abbrev s_turns_by : Stmt := top 14
theorem sc_turns_by : FnScope ["line", "quarters", "headings", "turning"] ["line", "quarters"] (defScope s_turns_by) := ⟨rfl, rfl, rfl, by decide +kernel, rfl, by decide +kernel, by decide +kernel⟩
abbrev s_l_cell_at : Stmt := top 16
theorem sc_l_cell_at : FnScope ["_law_script", "_law_k"] ["_law_script", "_law_k"] (defScope s_l_cell_at) := ⟨rfl, rfl, rfl, by decide +kernel, rfl, by decide +kernel, by decide +kernel⟩
abbrev s_l_mix : Stmt := top 17
theorem sc_l_mix : FnScope ["_law_cell", "_law_k", "_law_again", "_law_number"] ["_law_cell", "_law_k"] (defScope s_l_mix) := ⟨rfl, rfl, rfl, by decide +kernel, rfl, by decide +kernel, by decide +kernel⟩
abbrev s_l_turned : Stmt := top 18
theorem sc_l_turned : FnScope ["_law_number", "_law_many", "_law_told", "_law_k"] ["_law_number", "_law_many"] (defScope s_l_turned) := ⟨rfl, rfl, rfl, by decide +kernel, rfl, by decide +kernel, by decide +kernel⟩
abbrev s_l_other : Stmt := top 19
theorem sc_l_other : FnScope ["_law_end"] ["_law_end"] (defScope s_l_other) := ⟨rfl, rfl, rfl, by decide +kernel, rfl, by decide +kernel, by decide +kernel⟩
abbrev s_l_place : Stmt := top 20
theorem sc_l_place : FnScope ["_law_ties", "_law_end"] ["_law_ties", "_law_end"] (defScope s_l_place) := ⟨rfl, rfl, rfl, by decide +kernel, rfl, by decide +kernel, by decide +kernel⟩
abbrev s_l_behind : Stmt := top 21
theorem sc_l_behind : FnScope ["_law_ties", "_law_orders", "_law_end", "_law_order"] ["_law_ties", "_law_orders", "_law_end"] (defScope s_l_behind) := ⟨rfl, rfl, rfl, by decide +kernel, rfl, by decide +kernel, by decide +kernel⟩
abbrev s_l_near : Stmt := top 24
theorem sc_l_near : FnScope ["_law_size", "_law_point", "_law_head", "_law_x", "_law_y"] ["_law_size", "_law_point", "_law_head"] (defScope s_l_near) := ⟨rfl, rfl, rfl, by decide +kernel, rfl, by decide +kernel, by decide +kernel⟩
abbrev s_l_ways : Stmt := top 25
theorem sc_l_ways : FnScope ["_law_script", "_law_size", "_law_found", "_law_k", "_law_other_here", "_law_number", "_law_come", "_law_at", "_law_head", "_law_kept", "_law_spot"] ["_law_script", "_law_size"] (defScope s_l_ways) := ⟨rfl, rfl, rfl, by decide +kernel, rfl, by decide +kernel, by decide +kernel⟩
abbrev s_l_spots : Stmt := top 26
theorem sc_l_spots : FnScope ["_law_script", "_law_ways_here", "_law_come", "_law_found", "_law_point", "_law_many"] ["_law_script", "_law_ways_here", "_law_come"] (defScope s_l_spots) := ⟨rfl, rfl, rfl, by decide +kernel, rfl, by decide +kernel, by decide +kernel⟩
abbrev s_l_line : Stmt := top 27
theorem sc_l_line : FnScope ["_law_ways_here", "_law_places", "_law_point", "_law_head", "_law_gone", "_law_line_here", "_law_here", "_law_back"] ["_law_ways_here", "_law_places", "_law_point", "_law_head", "_law_gone"] (defScope s_l_line) := ⟨rfl, rfl, rfl, by decide +kernel, rfl, by decide +kernel, by decide +kernel⟩
abbrev s_l_turns_of : Stmt := top 28
theorem sc_l_turns_of : FnScope ["_law_line_here", "_law_kept", "_law_k", "_law_row"] ["_law_line_here"] (defScope s_l_turns_of) := ⟨rfl, rfl, rfl, by decide +kernel, rfl, by decide +kernel, by decide +kernel⟩
abbrev s_l_heads_on : Stmt := top 29
theorem sc_l_heads_on : FnScope ["_law_line_here", "_law_found", "_law_k", "_law_one", "_law_other_here", "_law_both"] ["_law_line_here"] (defScope s_l_heads_on) := ⟨rfl, rfl, rfl, by decide +kernel, rfl, by decide +kernel, by decide +kernel⟩
abbrev s_l_heads : Stmt := top 30
theorem sc_l_heads : FnScope ["_law_lines", "_law_found", "_law_line_here", "_law_some"] ["_law_lines"] (defScope s_l_heads) := ⟨rfl, rfl, rfl, by decide +kernel, rfl, by decide +kernel, by decide +kernel⟩
abbrev s_l_picture : Stmt := top 31
theorem sc_l_picture : FnScope ["_law_script", "_law_sizes", "_law_size", "_law_ways_here", "_law_come", "_law_places", "_law_xs", "_law_ys", "_law_k", "_law_gone", "_law_ties", "_law_lines", "_law_place_here", "_law_point", "_law_head", "_law_line_here", "_law_spots_here", "_law_heads_here", "_law_orders", "_law_own", "_law_row", "_law_at"] ["_law_script"] (defScope s_l_picture) := ⟨rfl, rfl, rfl, by decide +kernel, rfl, by decide +kernel, by decide +kernel⟩
abbrev s_l_read : Stmt := top 32
theorem sc_l_read : FnScope ["_law_web", "_law_drawing", "_law_heads_here", "_law_corners", "_law_end", "_law_lefts", "_law_line_here", "_law_some", "_law_found"] ["_law_web", "_law_drawing"] (defScope s_l_read) := ⟨rfl, rfl, rfl, by decide +kernel, rfl, by decide +kernel, by decide +kernel⟩
abbrev s_l_whole : Stmt := top 34
theorem sc_l_whole : FnScope ["_law_found"] ["_law_found"] (defScope s_l_whole) := ⟨rfl, rfl, rfl, by decide +kernel, rfl, by decide +kernel, by decide +kernel⟩
abbrev s_l_is_list : Stmt := top 35
theorem sc_l_is_list : FnScope ["_law_found"] ["_law_found"] (defScope s_l_is_list) := ⟨rfl, rfl, rfl, by decide +kernel, rfl, by decide +kernel, by decide +kernel⟩
abbrev s_l_turned_point : Stmt := top 36
theorem sc_l_turned_point : FnScope ["_law_point", "_law_way"] ["_law_point", "_law_way"] (defScope s_l_turned_point) := ⟨rfl, rfl, rfl, by decide +kernel, rfl, by decide +kernel, by decide +kernel⟩
abbrev s_law : Stmt := top 37
theorem sc_law : FnScope ["_law_script", "_law_web", "_law_drawing", "_law_way", "_law_lines", "_law_due", "_law_handed", "_law_again", "_law_found"] ["_law_script"] (defScope s_law) := ⟨rfl, rfl, rfl, by decide +kernel, rfl, by decide +kernel, by decide +kernel⟩
set_option genInjectivity false in
structure Adr where
  q_tok : Tok
  a_opposite : Addr
  d_opposite : FuncData
  a_quarters_right : Addr
  d_quarters_right : FuncData
  a_step_heading : Addr
  d_step_heading : FuncData
  a_line_headings : Addr
  d_line_headings : FuncData
  a_other_end : Addr
  d_other_end : FuncData
  a_place_of : Addr
  d_place_of : FuncData
  a_goes_to : Addr
  d_goes_to : FuncData
  a_behind : Addr
  d_behind : FuncData
  a_leaving_headings : Addr
  d_leaving_headings : FuncData
  a_shape_of : Addr
  d_shape_of : FuncData
  a_turns_by : Addr
  d_turns_by : FuncData
  a_l_cell_at : Addr
  d_l_cell_at : FuncData
  a_l_mix : Addr
  d_l_mix : FuncData
  a_l_turned : Addr
  d_l_turned : FuncData
  a_l_other : Addr
  d_l_other : FuncData
  a_l_place : Addr
  d_l_place : FuncData
  a_l_behind : Addr
  d_l_behind : FuncData
  a_l_near : Addr
  d_l_near : FuncData
  a_l_ways : Addr
  d_l_ways : FuncData
  a_l_spots : Addr
  d_l_spots : FuncData
  a_l_line : Addr
  d_l_line : FuncData
  a_l_turns_of : Addr
  d_l_turns_of : FuncData
  a_l_heads_on : Addr
  d_l_heads_on : FuncData
  a_l_heads : Addr
  d_l_heads : FuncData
  a_l_picture : Addr
  d_l_picture : FuncData
  a_l_read : Addr
  d_l_read : FuncData
  a_l_whole : Addr
  d_l_whole : FuncData
  a_l_is_list : Addr
  d_l_is_list : FuncData
  a_l_turned_point : Addr
  d_l_turned_point : FuncData
  a_law : Addr
  d_law : FuncData
structure Txt (K : PySem.W.Frag) (mg : Str → Option Value) (t : Adr) : Prop where
  F_opposite : Fun K "opposite" "opposite" s_opposite t.a_opposite t.d_opposite
  m_opposite : mg "opposite" = some (.ref t.a_opposite)
  k_opposite : PySem.W.keepIn K (.ref t.a_opposite) = true
  b_opposite : Binds K t.d_opposite ["head"] []
  F_quarters_right : Fun K "quarters_right" "quarters_right" s_quarters_right t.a_quarters_right t.d_quarters_right
  m_quarters_right : mg "quarters_right" = some (.ref t.a_quarters_right)
  k_quarters_right : PySem.W.keepIn K (.ref t.a_quarters_right) = true
  b_quarters_right : Binds K t.d_quarters_right ["head", "onward"] []
  F_step_heading : Fun K "step_heading" "step_heading" s_step_heading t.a_step_heading t.d_step_heading
  m_step_heading : mg "step_heading" = some (.ref t.a_step_heading)
  k_step_heading : PySem.W.keepIn K (.ref t.a_step_heading) = true
  b_step_heading : Binds K t.d_step_heading ["point", "onward"] []
  F_line_headings : Fun K "line_headings" "line_headings" s_line_headings t.a_line_headings t.d_line_headings
  m_line_headings : mg "line_headings" = some (.ref t.a_line_headings)
  k_line_headings : PySem.W.keepIn K (.ref t.a_line_headings) = true
  b_line_headings : Binds K t.d_line_headings ["line"] []
  F_other_end : Fun K "other_end" "other_end" s_other_end t.a_other_end t.d_other_end
  m_other_end : mg "other_end" = some (.ref t.a_other_end)
  k_other_end : PySem.W.keepIn K (.ref t.a_other_end) = true
  b_other_end : Binds K t.d_other_end ["end"] []
  F_place_of : Fun K "place_of" "place_of" s_place_of t.a_place_of t.d_place_of
  m_place_of : mg "place_of" = some (.ref t.a_place_of)
  k_place_of : PySem.W.keepIn K (.ref t.a_place_of) = true
  b_place_of : Binds K t.d_place_of ["web", "end"] []
  F_goes_to : Fun K "goes_to" "goes_to" s_goes_to t.a_goes_to t.d_goes_to
  m_goes_to : mg "goes_to" = some (.ref t.a_goes_to)
  k_goes_to : PySem.W.keepIn K (.ref t.a_goes_to) = true
  b_goes_to : Binds K t.d_goes_to ["web", "end"] []
  F_behind : Fun K "behind" "behind" s_behind t.a_behind t.d_behind
  m_behind : mg "behind" = some (.ref t.a_behind)
  k_behind : PySem.W.keepIn K (.ref t.a_behind) = true
  b_behind : Binds K t.d_behind ["web", "end"] []
  F_leaving_headings : Fun K "leaving_headings" "leaving_headings" s_leaving_headings t.a_leaving_headings t.d_leaving_headings
  m_leaving_headings : mg "leaving_headings" = some (.ref t.a_leaving_headings)
  k_leaving_headings : PySem.W.keepIn K (.ref t.a_leaving_headings) = true
  b_leaving_headings : Binds K t.d_leaving_headings ["lines"] []
  F_shape_of : Fun K "shape_of" "shape_of" s_shape_of t.a_shape_of t.d_shape_of
  m_shape_of : mg "shape_of" = some (.ref t.a_shape_of)
  k_shape_of : PySem.W.keepIn K (.ref t.a_shape_of) = true
  b_shape_of : Binds K t.d_shape_of ["web", "drawing"] []
  F_turns_by : Fun K "turns_by" "turns_by" s_turns_by t.a_turns_by t.d_turns_by
  m_turns_by : mg "turns_by" = some (.ref t.a_turns_by)
  k_turns_by : PySem.W.keepIn K (.ref t.a_turns_by) = true
  b_turns_by : Binds K t.d_turns_by ["line", "quarters"] []
  F_l_cell_at : Fun K "_law_cell_at" "_law_cell_at" s_l_cell_at t.a_l_cell_at t.d_l_cell_at
  m_l_cell_at : mg "_law_cell_at" = some (.ref t.a_l_cell_at)
  k_l_cell_at : PySem.W.keepIn K (.ref t.a_l_cell_at) = true
  b_l_cell_at : Binds K t.d_l_cell_at ["_law_script", "_law_k"] []
  F_l_mix : Fun K "_law_mix" "_law_mix" s_l_mix t.a_l_mix t.d_l_mix
  m_l_mix : mg "_law_mix" = some (.ref t.a_l_mix)
  k_l_mix : PySem.W.keepIn K (.ref t.a_l_mix) = true
  b_l_mix : Binds K t.d_l_mix ["_law_cell", "_law_k"] []
  F_l_turned : Fun K "_law_turned" "_law_turned" s_l_turned t.a_l_turned t.d_l_turned
  m_l_turned : mg "_law_turned" = some (.ref t.a_l_turned)
  k_l_turned : PySem.W.keepIn K (.ref t.a_l_turned) = true
  b_l_turned : Binds K t.d_l_turned ["_law_number", "_law_many"] []
  F_l_other : Fun K "_law_other" "_law_other" s_l_other t.a_l_other t.d_l_other
  m_l_other : mg "_law_other" = some (.ref t.a_l_other)
  k_l_other : PySem.W.keepIn K (.ref t.a_l_other) = true
  b_l_other : Binds K t.d_l_other ["_law_end"] []
  F_l_place : Fun K "_law_place" "_law_place" s_l_place t.a_l_place t.d_l_place
  m_l_place : mg "_law_place" = some (.ref t.a_l_place)
  k_l_place : PySem.W.keepIn K (.ref t.a_l_place) = true
  b_l_place : Binds K t.d_l_place ["_law_ties", "_law_end"] []
  F_l_behind : Fun K "_law_behind" "_law_behind" s_l_behind t.a_l_behind t.d_l_behind
  m_l_behind : mg "_law_behind" = some (.ref t.a_l_behind)
  k_l_behind : PySem.W.keepIn K (.ref t.a_l_behind) = true
  b_l_behind : Binds K t.d_l_behind ["_law_ties", "_law_orders", "_law_end"] []
  F_l_near : Fun K "_law_near" "_law_near" s_l_near t.a_l_near t.d_l_near
  m_l_near : mg "_law_near" = some (.ref t.a_l_near)
  k_l_near : PySem.W.keepIn K (.ref t.a_l_near) = true
  b_l_near : Binds K t.d_l_near ["_law_size", "_law_point", "_law_head"] []
  F_l_ways : Fun K "_law_ways" "_law_ways" s_l_ways t.a_l_ways t.d_l_ways
  m_l_ways : mg "_law_ways" = some (.ref t.a_l_ways)
  k_l_ways : PySem.W.keepIn K (.ref t.a_l_ways) = true
  b_l_ways : Binds K t.d_l_ways ["_law_script", "_law_size"] []
  F_l_spots : Fun K "_law_spots" "_law_spots" s_l_spots t.a_l_spots t.d_l_spots
  m_l_spots : mg "_law_spots" = some (.ref t.a_l_spots)
  k_l_spots : PySem.W.keepIn K (.ref t.a_l_spots) = true
  b_l_spots : Binds K t.d_l_spots ["_law_script", "_law_ways_here", "_law_come"] []
  F_l_line : Fun K "_law_line" "_law_line" s_l_line t.a_l_line t.d_l_line
  m_l_line : mg "_law_line" = some (.ref t.a_l_line)
  k_l_line : PySem.W.keepIn K (.ref t.a_l_line) = true
  b_l_line : Binds K t.d_l_line ["_law_ways_here", "_law_places", "_law_point", "_law_head", "_law_gone"] []
  F_l_turns_of : Fun K "_law_turns_of" "_law_turns_of" s_l_turns_of t.a_l_turns_of t.d_l_turns_of
  m_l_turns_of : mg "_law_turns_of" = some (.ref t.a_l_turns_of)
  k_l_turns_of : PySem.W.keepIn K (.ref t.a_l_turns_of) = true
  b_l_turns_of : Binds K t.d_l_turns_of ["_law_line_here"] []
  F_l_heads_on : Fun K "_law_heads_on" "_law_heads_on" s_l_heads_on t.a_l_heads_on t.d_l_heads_on
  m_l_heads_on : mg "_law_heads_on" = some (.ref t.a_l_heads_on)
  k_l_heads_on : PySem.W.keepIn K (.ref t.a_l_heads_on) = true
  b_l_heads_on : Binds K t.d_l_heads_on ["_law_line_here"] []
  F_l_heads : Fun K "_law_heads" "_law_heads" s_l_heads t.a_l_heads t.d_l_heads
  m_l_heads : mg "_law_heads" = some (.ref t.a_l_heads)
  k_l_heads : PySem.W.keepIn K (.ref t.a_l_heads) = true
  b_l_heads : Binds K t.d_l_heads ["_law_lines"] []
  F_l_picture : Fun K "_law_picture" "_law_picture" s_l_picture t.a_l_picture t.d_l_picture
  m_l_picture : mg "_law_picture" = some (.ref t.a_l_picture)
  k_l_picture : PySem.W.keepIn K (.ref t.a_l_picture) = true
  b_l_picture : Binds K t.d_l_picture ["_law_script"] []
  F_l_read : Fun K "_law_read" "_law_read" s_l_read t.a_l_read t.d_l_read
  m_l_read : mg "_law_read" = some (.ref t.a_l_read)
  k_l_read : PySem.W.keepIn K (.ref t.a_l_read) = true
  b_l_read : Binds K t.d_l_read ["_law_web", "_law_drawing"] []
  F_l_whole : Fun K "_law_whole" "_law_whole" s_l_whole t.a_l_whole t.d_l_whole
  m_l_whole : mg "_law_whole" = some (.ref t.a_l_whole)
  k_l_whole : PySem.W.keepIn K (.ref t.a_l_whole) = true
  b_l_whole : Binds K t.d_l_whole ["_law_found"] []
  F_l_is_list : Fun K "_law_is_list" "_law_is_list" s_l_is_list t.a_l_is_list t.d_l_is_list
  m_l_is_list : mg "_law_is_list" = some (.ref t.a_l_is_list)
  k_l_is_list : PySem.W.keepIn K (.ref t.a_l_is_list) = true
  b_l_is_list : Binds K t.d_l_is_list ["_law_found"] []
  F_l_turned_point : Fun K "_law_turned_point" "_law_turned_point" s_l_turned_point t.a_l_turned_point t.d_l_turned_point
  m_l_turned_point : mg "_law_turned_point" = some (.ref t.a_l_turned_point)
  k_l_turned_point : PySem.W.keepIn K (.ref t.a_l_turned_point) = true
  b_l_turned_point : Binds K t.d_l_turned_point ["_law_point", "_law_way"] []
  F_law : Fun K "law" "law" s_law t.a_law t.d_law
  m_law : mg "law" = some (.ref t.a_law)
  k_law : PySem.W.keepIn K (.ref t.a_law) = true
  b_law : Binds K t.d_law ["_law_script"] []
  z_all : mg "all" = none
  z_bool : mg "bool" = none
  z_enumerate : mg "enumerate" = none
  z_int : mg "int" = none
  z_isinstance : mg "isinstance" = none
  z_len : mg "len" = none
  z_list : mg "list" = none
  z_min : mg "min" = none
  z_range : mg "range" = none
  z_sorted : mg "sorted" = none
  z_tuple : mg "tuple" = none
  z_zip : mg "zip" = none
  g_QUARTERS_ROUND : mg "QUARTERS_ROUND" = some (.int 4 t.q_tok)
end K57

abbrev K57.lawK : Nat := 60

namespace K57
open PySem L2 PyProof.Rows
variable {P : Program} {w : World} {K : PySem.W.Frag} {mg : Str → Option Value} {base : Heap} {t : Adr}
def spOpp : Sp := fun vs H Q _ => ∃ h : Int, vs = [.int h] ∧ Q (.int ((h + 2) % 4)) H
theorem ok_opp (T : Txt K mg t) : FnOk P w K mg base CX0 1 t.a_opposite t.d_opposite ["head"] spOpp := by
  refine T.F_opposite.ok sc_opposite (fun vs H Q E h => ?_) (fun cdv A outer s H vs Q E hr h => ?_)
  · obtain ⟨e, rfl, _⟩ := h; rfl
  obtain ⟨h, rfl, q⟩ := h
  refine ⟨_, (pss_one (ps_ret (pe_op op_mod (pe_op op_add (pv 0) pe_int) (pe_glob (v := .int 4) rfl T.g_QUARTERS_ROUND ⟨_, rfl⟩)))), ?_⟩
  exact ⟨_, rfl, _, _, rfl, rfl, _, _, rfl, rfl, (by show (0 : Int) < 4; decide), q⟩
def spQRB (vs : List L2.V) (H : L2.Hp) (Q : L2.VK) (a b : Int) : Prop := vs = [.int a, .int b] ∧ Q (.int ((a - b - 1) % 4 + 1)) H
def spQR : Sp := fun vs H Q _ => ∃ (a b : Int), spQRB vs H Q a b
theorem ok_qr (T : Txt K mg t) : FnOk P w K mg base CX0 1 t.a_quarters_right t.d_quarters_right ["head", "onward"] spQR := by
  refine T.F_quarters_right.ok sc_quarters_right (fun vs H Q E h => ?_) (fun cdv A outer s H vs Q E hr h => ?_)
  · obtain ⟨a, b, rfl, _⟩ := h; rfl
  obtain ⟨a, b, rfl, q⟩ := h
  refine ⟨_, (pss_one (ps_ret (pe_op op_add (pe_op op_mod (pe_op op_sub (pe_op op_sub (pv 0) (pv 1)) pe_int) (pe_glob (v := .int 4) rfl T.g_QUARTERS_ROUND ⟨_, rfl⟩)) pe_int))), ?_⟩
  exact ⟨_, rfl, _, rfl, _, _, rfl, rfl, _, _, rfl, rfl, _, _, rfl, rfl, (by show (0 : Int) < 4; decide), _, _, rfl, rfl, q⟩
def spStepB (vs : List L2.V) (H : L2.Hp) (Q : L2.VK) (a b : Addr) (p q : Pt) : Prop := vs = [.ref a, .ref b] ∧ H a = some (.tup [.int p.1, .int p.2]) ∧ H b = some (.tup [.int q.1, .int q.2]) ∧ Strt p q ∧ Q (.int (hd p q)) H
def spStep : Sp := fun vs H Q _ => ∃ (a b : Addr) (p q : Pt), spStepB vs H Q a b p q
theorem ok_step (T : Txt K mg t) : FnOk P w K mg base CX0 1 t.a_step_heading t.d_step_heading ["point", "onward"] spStep := by
  refine T.F_step_heading.ok sc_step_heading (fun vs H Q E h => ?_) (fun cdv A outer s H vs Q E hr h => ?_)
  · obtain ⟨a, b, p, q, rfl, _⟩ := h; rfl
  obtain ⟨a, b, p, q, rfl, ha, hb, hs, k⟩ := h
  have nd := sc_step_heading.nd
  refine ⟨_, (pss_cons (ps_set (i := 2) nd rfl (Or.inl rfl) (pe_op op_sub (pe_ix ix_tup (pv 1) pe_int (fun _ _ => rfl)) (pe_ix ix_tup (pv 0) pe_int (fun _ _ => rfl))))
    (pss_cons (ps_set (i := 3) nd rfl (Or.inl rfl) (pe_op op_sub (pe_ix ix_tup (pv 1) pe_int (fun _ _ => rfl)) (pe_ix ix_tup (pv 0) pe_int (fun _ _ => rfl))))
    (pss_cons (ps_if (PW.pt (pw_and (pt_cmpR op_eq (pv 3) pe_int (nomark _)) (pw_and1 (pt_cmpR op_ne (pv 2) pe_int (nomark _))))) (pss_one (ps_ret (pe_ifExp (pt_cmpR op_gt (pv 2) pe_int (nomark _)) pe_int pe_int))) pss_nil)
    (pss_cons (ps_if (PW.pt (pw_and (pt_cmpR op_eq (pv 2) pe_int (nomark _)) (pw_and1 (pt_cmpR op_ne (pv 3) pe_int (nomark _))))) (pss_one (ps_ret (pe_ifExp (pt_cmpR op_gt (pv 3) pe_int (nomark _)) pe_int pe_int))) pss_nil)
    (pss_one (ps_ret pe_non)))))), ?_⟩
  refine ⟨_, rfl, b, _, _, _, rfl, rfl, SqT.of hb, rfl, _, rfl, a, _, _, _, rfl, rfl, SqT.of ha, rfl, _, _, rfl, rfl, _, rfl, b, _, _, _, rfl, rfl, SqT.of hb, rfl, _, rfl, a, _, _, _, rfl, rfl, SqT.of ha, rfl, _, _, rfl, rfl, ?_⟩
  refine ⟨_, rfl, rfl, _, rfl, ?_⟩
  unfold hd at k
  rcases hs with ⟨h1, h2⟩ | ⟨h1, h2⟩
  · rw [if_pos h1] at k
    refine iteTb (decide_eq_true (by show (V.int (q.2 - p.2) = V.int 0); congr 1; omega)) ⟨_, rfl, rfl, _, rfl, iteTb ?_ ⟨_, rfl, _, _, rfl, rfl, _, rfl, ite2 (fun c => ?_) fun c => ?_⟩⟩
    · simp only [Bool.not_eq_true', decide_eq_false_iff_not]
      intro z; injection z with z; omega
    · rw [if_neg (by have := of_decide_eq_true c; omega)] at k; exact k
    · rw [if_pos (by have : ¬ (0 < q.1 - p.1) := fun z => c (decide_eq_true z); omega)] at k; exact k
  · rw [if_neg h2] at k
    refine iteFb (decide_eq_false (fun z => ?_)) (iteF ⟨_, rfl, rfl, _, rfl, iteTb (decide_eq_true (by show (V.int (q.1 - p.1) = V.int 0); congr 1; omega)) ⟨_, rfl, rfl, _, rfl, iteTb ?_ ⟨_, rfl, _, _, rfl, rfl, _, rfl, ite2 (fun c => ?_) fun c => ?_⟩⟩⟩)
    · injection z with z; omega
    · simp only [Bool.not_eq_true', decide_eq_false_iff_not]
      intro z; injection z with z; omega
    · rw [if_neg (by have := of_decide_eq_true c; omega)] at k; exact k
    · rw [if_pos (by have : ¬ (0 < q.2 - p.2) := fun z => c (decide_eq_true z); omega)] at k; exact k
def spLHB (vs : List L2.V) (H : L2.Hp) (Q : L2.VK) (l : Addr) (ps : List Pt) : Prop := vs = [.ref l] ∧ PsAt H l ps ∧ Line ps ∧ ∀ r H', H r = none → Same H H' → H' r = some (.lst ((hds ps).map V.int)) → Q (.ref r) H'
def spLH : Sp := fun vs H Q _ => ∃ (l : Addr) (ps : List Pt), spLHB vs H Q l ps
theorem ok_lh (T : Txt K mg t) : FnOk P w K mg base CX0 2 t.a_line_headings t.d_line_headings ["line"] spLH := by
  have G_step_heading := ok_step (P := P) (w := w) (base := base) T
  refine T.F_line_headings.ok sc_line_headings (fun vs H Q E h => ?_) (fun cdv A outer s H vs Q E hr h => ?_)
  · obtain ⟨l, ps, rfl, _⟩ := h; rfl
  obtain ⟨l, ps, rfl, hl, ⟨h2, h3, h4⟩, q⟩ := h
  have nd_point_onward : (["point", "onward"] : List Str).Nodup := by decide
  refine ⟨_, (pss_one (ps_ret (pe_comp (N' := ["point", "onward"]) (js := [none, none]) rfl (pi_zip rfl T.z_zip (pa_cons (pv 0) (pa_cons (pe_slice sl_list (pv 0) (po_some pe_int) po_none) pa_nil))) (fun _ _ _ _ _ => (kpg_tup (K := K) (n := 2) rfl rfl (pgs_cons (pg_name (i := 0) nd_point_onward rfl (Or.inl rfl)) (pgs_cons (pg_name (i := 1) nd_point_onward rfl (Or.inl rfl)) pgs_nil)))) (fun _ _ _ _ _ => pf_nil) (fun _ _ _ _ _ => (pe_call G_step_heading (hr.mono (by decide)) rfl T.m_step_heading T.k_step_heading T.b_step_heading .nil pass0 (pa_cons (pv 0) (pa_cons (pv 1) pa_nil))))))), ?_⟩
  obtain ⟨vs, e1, e2, e3⟩ := id hl
  refine ⟨_, rfl, _, rfl, _, rfl, l, _, rfl, SqL.of e1, fun la hla => ?_⟩
  rw [cut_1 vs (by omega)]
  have g1 := same_new hla (.lst (vs.drop 1))
  refine ⟨l, la, _, _, rfl, g1 _ _ e1, upd_same, fun D hD => ?_⟩
  have hlD : ∀ H', Same (upd H la (.lst (vs.drop 1))) H' → Same H H' := fun H' g => g1.trans g
  have ix : ∀ {i : Nat}, i < ps.length - 1 → ∃ a b, vs[i]? = some (.ref a) ∧ (vs.drop 1)[i]? = some (.ref b) ∧ H a = some (.tup [.int (pt ps i).1, .int (pt ps i).2]) ∧ H b = some (.tup [.int (pt ps (i + 1)).1, .int (pt ps (i + 1)).2]) := fun {i} hi => by
    obtain ⟨_, a, z1, _, z3, z4⟩ := hl.pt (i := i) (by omega)
    obtain ⟨_, b, y1, _, y3, y4⟩ := hl.pt (i := i + 1) (by omega)
    rw [e1] at z1 y1; cases z1; cases y1
    exact ⟨a, b, z3, by rw [List.getElem?_drop, Nat.add_comm]; exact y3, z4, y4⟩
  refine comp_pure (ps.length - 1) (fun k => .int (hd (pt ps k) (pt ps (k + 1)))) hD (by omega) (fun i H' hi g2 => ?_) (fun H' g2 => ⟨_, _, g2 _ _ (g1 _ _ e1), g2 _ _ upd_same, .inr (by rw [List.length_drop]; omega)⟩) ?_ ?_
  · obtain ⟨a, b, y1, y2, _⟩ := ix hi
    exact ⟨_, _, _, _, g2 _ _ (g1 _ _ e1), g2 _ _ upd_same, y1, y2⟩
  · rintro i H' x H'' k hi g2 ⟨Tp, x', y', rfl, hTp, rfl, y1, y2⟩ hk
    obtain ⟨a, b, z1, z2, z3, z4⟩ := ix hi
    have ex := y1 _ (g2 _ _ (g1 _ _ e1))
    rw [z1] at ex; cases ex
    have ey := y2 _ (g2 _ _ upd_same)
    rw [z2] at ey; cases ey
    have g3 := (g1.trans g2).trans (same_new hTp (.tup [.ref a, .ref b]))
    refine ⟨Tp, _, rfl, SqT.of upd_same, rfl, _, _, rfl, _, _, rfl, rfl, ((Fills.refl _).set _ rfl).set _ rfl, ?_⟩
    exact ⟨_, rfl, _, rfl, a, b, _, _, rfl, g3 _ _ z3, g3 _ _ z4, h4 i (by omega), hk _ (same_new hTp _)⟩
  · intro H' g2 e
    refine q D H' (g1.free hD) (g1.trans g2) ?_
    rw [e]; unfold hds; rw [List.map_map]; rfl
def spLv : Sp := fun vs H Q _ => ∃ (l : Addr) (ll : List (List Pt)), vs = [.ref l] ∧ LsAt H l ll ∧ ll.length ≤ 1000 ∧ (∀ ps ∈ ll, Line ps) ∧ ∀ r H', H r = none → Same H H' → H' r = some (.lst ((lvs ll).map V.int)) → Q (.ref r) H'
theorem ok_lv (T : Txt K mg t) : FnOk P w K mg base CX0 3 t.a_leaving_headings t.d_leaving_headings ["lines"] spLv := by
  have G_line_headings := ok_lh (P := P) (w := w) (base := base) T
  have G_opposite := ok_opp (P := P) (w := w) (base := base) T
  refine T.F_leaving_headings.ok sc_leaving_headings (fun vs H Q E h => ?_) (fun cdv A outer s H vs Q E hr h => ?_)
  · obtain ⟨l, ll, rfl, _⟩ := h; rfl
  obtain ⟨l, ll, rfl, hl, hn, hL, q⟩ := h
  have nd := sc_leaving_headings.nd
  refine ⟨_, (pss_cons (ps_set (i := 1) nd rfl (Or.inl rfl) (pe_lst pa_nil))
    (pss_cons (ps_for PassesOwn.never rfl (pi_list (pv 0)) (pg_name (i := 2) nd rfl (Or.inl rfl)) (pss_cons (ps_set (i := 3) nd rfl (Or.inl rfl) (pe_call G_line_headings (hr.mono (by decide)) rfl T.m_line_headings T.k_line_headings T.b_line_headings .nil pass0 (pa_cons (pv 2) pa_nil)))
    (pss_cons (ps_expr (pe_bm PySem.F.plainAttrs_list PySem.F.slot_list_append PySem.F.type_list_append mt_append (pv 1) (pa_cons (pe_ix ix_list (pv 3) pe_int (fun _ _ => rfl)) pa_nil)))
    (pss_one (ps_expr (pe_bm PySem.F.plainAttrs_list PySem.F.slot_list_append PySem.F.type_list_append mt_append (pv 1) (pa_cons (pe_call G_opposite (hr.mono (by decide)) rfl T.m_opposite T.k_opposite T.b_opposite .nil pass0 (pa_cons (pe_ix ix_list (pv 3) (pe_un un_neg pe_int) (fun _ _ => rfl)) pa_nil)) pa_nil)))))))
    (pss_one (ps_ret (pv 1))))), ?_⟩
  refine ⟨few (by decide), fun la hla => ?_⟩
  obtain ⟨vs, e1, e2, e3⟩ := id hl
  have g1 := same_new hla (.lst [])
  let Pv1 : Nat → L2.St → L2.Hp → Prop := fun i σ H' => Same H H' ∧ H' la = some (.lst ((lvs (ll.take i)).map V.int)) ∧ ∃ o1 o2, σ = [some (.ref l), some (.ref la), o1, o2]
  refine ⟨_, rfl, l, rfl, ⟨_, SqL.of (g1 _ _ e1)⟩, for_list (xs := vs) Pv1 ⟨g1, upd_same, none, none, rfl⟩ (fun i σ H' _ h => SqL.of (h.1 _ _ e1)) ?_ ?_⟩
  · rintro i x σ H' hx ⟨g, hla', o1, o2, rfl⟩
    have hi : i < ll.length := by rw [← e2]; exact (List.getElem?_eq_some_iff.mp hx).1
    obtain ⟨l', rfl, hp⟩ := e3 i x ll[i] hx (List.getElem?_eq_getElem hi)
    have Li := hL ll[i] (List.getElem_mem hi)
    have hlen : (lvs (ll.take i)).length = 2 * i := by rw [lvs_len, List.length_take]; omega
    have hh : 0 < (hds ll[i]).length := by rw [hds_len]; have := Li.1; omega
    refine ⟨_, rfl, l', _, rfl, g.ps hp, Li, fun r H2 hr0 g2 e => ?_⟩
    have nr : r ≠ la := fun z => by subst z; rw [hla'] at hr0; cases hr0
    refine ⟨_, rfl, .inl ⟨rfl, _, SqL.of (g2 _ _ hla')⟩, _, rfl, r, _, _, _, rfl, rfl, SqL.of e, atI_get0 hh rfl, la, _, _, rfl, rfl, g2 _ _ hla', few' (by rw [List.length_map]; omega), ?_⟩
    have e' : upd H2 la (.lst ((lvs (ll.take i)).map V.int ++ [.int (at0 (hds ll[i]) 0)])) r = some (.lst ((hds ll[i]).map V.int)) := by rw [upd_ne nr]; exact e
    refine ⟨_, rfl, .inl ⟨rfl, _, SqL.of upd_same⟩, _, rfl, _, rfl, r, _, _, _, rfl, rfl, SqL.of e', atI_end hh, _, rfl, la, _, _, rfl, rfl, upd_same, few' (by simp; omega), ?_⟩
    refine ⟨((g.trans g2).upd hla).upd hla, ?_, _, _, rfl⟩
    rw [upd_same]
    unfold lvs
    rw [take_flat ends2 (List.getElem?_eq_getElem hi), List.map_append, List.append_assoc]
    rfl
  · rintro σ H' ⟨g, hla', o1, o2, rfl⟩
    refine ⟨_, rfl, q la H' hla g ?_⟩
    rw [hla', e2, List.take_length]
def spTBB (vs : List L2.V) (H : L2.Hp) (Q : L2.VK) (l : Addr) (ps : List Pt) (z : Int) : Prop := vs = [.ref l, .int z] ∧ PsAt H l ps ∧ Line ps ∧ ∀ H', Same H H' → Q (.int ((dif (hds ps) z).count 0 : Nat)) H'
def spTB : Sp := fun vs H Q _ => ∃ (l : Addr) (ps : List Pt) (z : Int), spTBB vs H Q l ps z
theorem ok_tb (T : Txt K mg t) : FnOk P w K mg base CX0 3 t.a_turns_by t.d_turns_by ["line", "quarters"] spTB := by
  have G_line_headings := ok_lh (P := P) (w := w) (base := base) T
  refine T.F_turns_by.ok sc_turns_by (fun vs H Q E h => ?_) (fun cdv A outer s H vs Q E hr h => ?_)
  · obtain ⟨l, ps, z, rfl, _⟩ := h; rfl
  obtain ⟨l, ps, z, rfl, hl, hL, q⟩ := h
  have nd := sc_turns_by.nd
  have nd_head_onward_quarters : (["head", "onward", "quarters"] : List Str).Nodup := by decide
  refine ⟨_, (pss_cons (ps_set (i := 2) nd rfl (Or.inl rfl) (pe_call G_line_headings (hr.mono (by decide)) rfl T.m_line_headings T.k_line_headings T.b_line_headings .nil pass0 (pa_cons (pv 0) pa_nil)))
    (pss_cons (ps_setComp (i := 3) nd rfl (Or.inl rfl)  (N' := ["head", "onward", "quarters"]) (js := [none, none, some 1]) rfl (pi_zip rfl T.z_zip (pa_cons (pv 2) (pa_cons (pe_slice sl_list (pv 2) (po_some pe_int) po_none) pa_nil))) (fun _ _ _ _ _ => (kpg_tup (K := K) (n := 2) rfl rfl (pgs_cons (pg_name (i := 0) nd_head_onward_quarters rfl (Or.inl rfl)) (pgs_cons (pg_name (i := 1) nd_head_onward_quarters rfl (Or.inl rfl)) pgs_nil)))) (fun _ _ _ _ _ => pf_nil) (fun _ _ _ _ _ => (pe_op op_mod (pe_op op_sub (pe_op op_sub (pv 1) (pv 0)) (pv 2)) (pe_glob (v := .int 4) rfl T.g_QUARTERS_ROUND ⟨_, rfl⟩))))
    (pss_one (ps_ret (pe_bm PySem.F.plainAttrs_list PySem.F.slot_list_count PySem.F.type_list_count mt_count (pv 3) (pa_cons pe_int pa_nil)))))), ?_⟩
  refine ⟨_, rfl, l, ps, rfl, hl, hL, fun r H1 hr0 g1 e => ?_⟩
  have hh : (hds ps).length = ps.length - 1 := hds_len ps
  have h2 := hL.1
  have h3 := hL.2.1
  refine ⟨_, rfl, _, rfl, _, rfl, r, _, rfl, SqL.of e, fun la hla => ?_⟩
  rw [cut_1 _ (by rw [List.length_map]; omega)]
  have g2 := same_new hla (.lst (((hds ps).map V.int).drop 1))
  refine ⟨r, la, _, _, rfl, g2 _ _ e, upd_same, fun D hD => ?_⟩
  have ix : ∀ {i : Nat}, i < (hds ps).length - 1 → ((hds ps).map V.int)[i]? = some (.int (at0 (hds ps) i)) ∧ (((hds ps).map V.int).drop 1)[i]? = some (.int (at0 (hds ps) (i + 1))) := fun {i} hi => ⟨at_get (by omega), by rw [List.getElem?_drop, Nat.add_comm]; exact at_get (by omega)⟩
  refine comp_pure ((hds ps).length - 1) (fun k => .int ((at0 (hds ps) (k + 1) - at0 (hds ps) k - z) % 4)) hD (by omega) (fun i H' hi g3 => ⟨_, _, _, _, g3 _ _ (g2 _ _ e), g3 _ _ upd_same, (ix hi).1, (ix hi).2⟩) (fun H' g3 => ⟨_, _, g3 _ _ (g2 _ _ e), g3 _ _ upd_same, .inr (by rw [List.length_drop, List.length_map]; omega)⟩) ?_ ?_
  · rintro i H' x H'' k hi g3 ⟨Tp, x', y', rfl, hTp, rfl, y1, y2⟩ hk
    have ex := y1 _ (g3 _ _ (g2 _ _ e))
    rw [(ix hi).1] at ex; cases ex
    have ey := y2 _ (g3 _ _ upd_same)
    rw [(ix hi).2] at ey; cases ey
    refine ⟨Tp, _, rfl, SqT.of upd_same, rfl, _, _, rfl, _, _, rfl, rfl, ((Fills.refl _).set _ rfl).set _ rfl, ?_⟩
    exact ⟨_, rfl, _, rfl, _, _, rfl, rfl, _, rfl, _, _, rfl, rfl, _, _, rfl, rfl, (by show (0 : Int) < 4; decide), hk _ (same_new hTp _)⟩
  · intro H' g3 e4
    have e5 : H' D = some (.lst ((dif (hds ps) z).map V.int)) := by rw [e4]; unfold dif; rw [List.map_map]; rfl
    exact ⟨_, rfl, .inl ⟨rfl, _, SqL.of e5⟩, D, _, _, rfl, rfl, e5, q H' ((g1.trans g2).trans g3)⟩
end K57

namespace L2
open PySem PyProof.Rows
structure Has (ts : MM.Ties) (os : MM.Ords) : Prop where
  has : ∀ e, e < 2 * ts.length → MM.place ts e < os.length ∧ e ∈ MM.row os (MM.place ts e)
  lt : ∀ r ∈ os, ∀ e ∈ r, e < 2 * ts.length
theorem row_mem {os : MM.Ords} {p : Nat} (h : p < os.length) : MM.row os p ∈ os := by
  unfold MM.row; simp [List.getD, h]
theorem Has.behind {ts : MM.Ties} {os : MM.Ords} (g : Has ts os) {e : Nat} (h : e < 2 * ts.length) : MM.behind ts os e < 2 * ts.length := by
  have h1 := g.has _ (MM.oth_lt h)
  exact g.lt _ (row_mem h1.1) _ (MM.prevIn_mem h1.2)
end L2
namespace K57
open PySem L2 PyProof.Rows
variable {P : Program} {w : World} {K : PySem.W.Frag} {mg : Str → Option Value} {base : Heap} {t : Adr}
def spOth : Sp := fun vs H Q _ => ∃ e : Nat, vs = [vn e] ∧ Q (vn (MM.oth e)) H
theorem ok_lother (T : Txt K mg t) : FnOk P w K mg base CX0 1 t.a_l_other t.d_l_other ["_law_end"] spOth := by
  refine T.F_l_other.ok sc_l_other (fun vs H Q E h => ?_) (fun cdv A outer s H vs Q E hr h => ?_)
  · obtain ⟨e, rfl, _⟩ := h; rfl
  obtain ⟨e, rfl, q⟩ := h
  refine ⟨_, (pss_one (ps_ret (pe_op op_sub (pe_op op_add (pv 0) pe_int) (pe_op op_mul pe_int (pe_op op_mod (pv 0) pe_int))))), ?_⟩
  refine ⟨_, rfl, _, _, rfl, rfl, _, rfl, _, _, rfl, rfl, (by show (0 : Int) < 2; decide), _, _, rfl, rfl, .inl ⟨by decide, by decide⟩, _, _, rfl, rfl, ?_⟩
  have e1 : (e : Int) + 1 - 2 * ((e : Int) % 2) = ((MM.oth e : Nat) : Int) := by unfold MM.oth; split <;> omega
  show Q (.int ((e : Int) + 1 - 2 * ((e : Int) % 2))) H
  rw [e1]
  exact q
def spPlaceB (vs : List L2.V) (H : L2.Hp) (Q : L2.VK) (a : Addr) (ts : MM.Ties) (e : Nat) : Prop := vs = [.ref a, vn e] ∧ TsAt H a ts ∧ e < 2 * ts.length ∧ Q (vn (MM.place ts e)) H
def spPlace : Sp := fun vs H Q _ => ∃ (a : Addr) (ts : MM.Ties) (e : Nat), spPlaceB vs H Q a ts e
theorem at_pair {x y : Nat} (e : Nat) : atI [vn x, vn y] ((e : Int) % 2) = some (vn (if e % 2 = 0 then x else y)) := by
  rcases Nat.mod_two_eq_zero_or_one e with h | h
  · rw [show (e : Int) % 2 = 0 by omega, if_pos h]; rfl
  · rw [show (e : Int) % 2 = 1 by omega, if_neg (by omega)]; rfl
theorem ok_lplace (T : Txt K mg t) : FnOk P w K mg base CX0 1 t.a_l_place t.d_l_place ["_law_ties", "_law_end"] spPlace := by
  refine T.F_l_place.ok sc_l_place (fun vs H Q E h => ?_) (fun cdv A outer s H vs Q E hr h => ?_)
  · obtain ⟨a, ts, e, rfl, _⟩ := h; rfl
  obtain ⟨a, ts, e, rfl, ht, he, q⟩ := h
  refine ⟨_, (pss_one (ps_ret (pe_ix ix_seq (pe_ix ix_list (pv 0) (pe_op op_fdiv (pv 1) pe_int) (fun _ _ => rfl)) (pe_op op_mod (pv 1) pe_int) (fun _ _ => rfl)))), ?_⟩
  obtain ⟨xs, r, h1, h2, h3, h4⟩ := ht.item (i := e / 2) (by omega)
  refine ⟨_, rfl, _, rfl, _, _, rfl, rfl, ⟨by decide, by decide⟩, a, xs, _, _, rfl, rfl, SqL.of h1, (by show atI xs ((e : Int) / 2) = _; rw [show (e : Int) / 2 = ((e / 2 : Nat) : Int) by omega]; exact h3), ?_⟩
  refine ⟨_, rfl, _, _, rfl, rfl, (by show (0 : Int) < 2; decide), .inr (.inl ⟨r, _, _, _, rfl, rfl, SqT.of h4, at_pair e, ?_⟩)⟩
  unfold MM.place at q
  split
  · rename_i h; rw [if_pos h] at q; exact q
  · rename_i h; rw [if_neg h] at q; exact q
def spBehB (vs : List L2.V) (H : L2.Hp) (Q : L2.VK) (a o : Addr) (ts : MM.Ties) (os : MM.Ords) (e : Nat) : Prop := vs = [.ref a, .ref o, vn e] ∧ TsAt H a ts ∧ OsAt H o os ∧ Has ts os ∧ e < 2 * ts.length ∧ Q (vn (MM.behind ts os e)) H
def spBeh : Sp := fun vs H Q _ => ∃ (a o : Addr) (ts : MM.Ties) (os : MM.Ords) (e : Nat), spBehB vs H Q a o ts os e
theorem ok_lbehind (T : Txt K mg t) : FnOk P w K mg base CX0 2 t.a_l_behind t.d_l_behind ["_law_ties", "_law_orders", "_law_end"] spBeh := by
  have G_l_other := ok_lother (P := P) (w := w) (base := base) T
  have G_l_place := ok_lplace (P := P) (w := w) (base := base) T
  refine T.F_l_behind.ok sc_l_behind (fun vs H Q E h => ?_) (fun cdv A outer s H vs Q E hr h => ?_)
  · obtain ⟨a, o, ts, os, e, rfl, _⟩ := h; rfl
  obtain ⟨a, o, ts, os, e, rfl, ht, ho, g, he, q⟩ := h
  have nd := sc_l_behind.nd
  refine ⟨_, (pss_cons (ps_set (i := 3) nd rfl (Or.inl rfl) (pe_ix ix_list (pv 1) (pe_call G_l_place (hr.mono (by decide)) rfl T.m_l_place T.k_l_place T.b_l_place .nil pass0 (pa_cons (pv 0) (pa_cons (pe_call G_l_other (hr.mono (by decide)) rfl T.m_l_other T.k_l_other T.b_l_other .nil pass0 (pa_cons (pv 2) pa_nil)) pa_nil))) (fun _ _ => rfl)))
    (pss_one (ps_ret (pe_ix ix_list (pv 3) (pe_op op_sub (pe_bm PySem.F.plainAttrs_list PySem.F.slot_list_index PySem.F.type_list_index mt_index (pv 3) (pa_cons (pe_call G_l_other (hr.mono (by decide)) rfl T.m_l_other T.k_l_other T.b_l_other .nil pass0 (pa_cons (pv 2) pa_nil)) pa_nil)) pe_int) (fun _ _ => rfl))))), ?_⟩
  have hp := g.has (MM.oth e) (MM.oth_lt he)
  obtain ⟨xs, r, h1, h2, h3, h4⟩ := ho.item hp.1
  refine ⟨_, rfl, _, rfl, _, rfl, e, rfl, a, ts, MM.oth e, rfl, ht, MM.oth_lt he, o, xs, _, _, rfl, rfl, SqL.of h1, h3, ?_⟩
  refine ⟨_, rfl, _, rfl, .inl ⟨rfl, _, SqL.of h4⟩, _, rfl, e, rfl, r, _, _, rfl, rfl, h4, hp.2, _, _, rfl, rfl, r, _, _, _, rfl, rfl, SqL.of h4, at_prev hp.2, q⟩
end K57
namespace L2
open PySem PyProof.Rows
def WebAt (H : Hp) (w : Addr) (n : Nat) (ts : MM.Ties) (os : MM.Ords) : Prop := ∃ tA oA : Addr, H w = some (.tup [vn n, .ref tA, .ref oA]) ∧ TsAt H tA ts ∧ OsAt H oA os
theorem Same.web {H H' : Hp} (g : Same H H') {w : Addr} {n : Nat} {ts : MM.Ties} {os : MM.Ords} (h : WebAt H w n ts os) : WebAt H' w n ts os := by
  obtain ⟨tA, oA, h1, h2, h3⟩ := h
  exact ⟨tA, oA, g _ _ h1, g.ts h2, g.os h3⟩
end L2
namespace K57
open PySem L2 PyProof.Rows
variable {P : Program} {w : World} {K : PySem.W.Frag} {mg : Str → Option Value} {base : Heap} {t : Adr}
theorem ok_other (T : Txt K mg t) : FnOk P w K mg base CX0 1 t.a_other_end t.d_other_end ["end"] spOth := by
  refine T.F_other_end.ok sc_other_end (fun vs H Q E h => ?_) (fun cdv A outer s H vs Q E hr h => ?_)
  · obtain ⟨e, rfl, _⟩ := h; rfl
  obtain ⟨e, rfl, q⟩ := h
  refine ⟨_, (pss_one (ps_ret (pe_op op_xor (pv 0) pe_int))), ?_⟩
  refine ⟨_, rfl, _, _, rfl, rfl, ?_⟩
  have e1 : Builtin.bitXor (e : Int) 1 = ((MM.oth e : Nat) : Int) := by
    rw [PyProof.Rows.bitXor_and, PyProof.Rows.bitAnd_m1]
    unfold MM.oth
    split <;> omega
  show Q (.int (Builtin.bitXor (e : Int) 1)) H
  rw [e1]
  exact q
def spWPlaceB (vs : List L2.V) (H : L2.Hp) (Q : L2.VK) (wa : Addr) (n : Nat) (ts : MM.Ties) (os : MM.Ords) (e : Nat) : Prop := vs = [.ref wa, vn e] ∧ WebAt H wa n ts os ∧ e < 2 * ts.length ∧ Q (vn (MM.place ts e)) H
def spWPlace : Sp := fun vs H Q _ => ∃ (wa : Addr) (n : Nat) (ts : MM.Ties) (os : MM.Ords) (e : Nat), spWPlaceB vs H Q wa n ts os e
theorem ok_place (T : Txt K mg t) : FnOk P w K mg base CX0 1 t.a_place_of t.d_place_of ["web", "end"] spWPlace := by
  refine T.F_place_of.ok sc_place_of (fun vs H Q E h => ?_) (fun cdv A outer s H vs Q E hr h => ?_)
  · obtain ⟨wa, n, ts, os, e, rfl, _⟩ := h; rfl
  obtain ⟨wa, n, ts, os, e, rfl, ⟨tA, oA, hw, ht, ho⟩, he, q⟩ := h
  refine ⟨_, (pss_one (ps_ret (pe_ix ix_seq (pe_ix ix_seq (pe_ix ix_tup (pv 0) pe_int (fun _ _ => rfl)) (pe_op op_fdiv (pv 1) pe_int) (fun _ _ => rfl)) (pe_op op_mod (pv 1) pe_int) (fun _ _ => rfl)))), ?_⟩
  obtain ⟨xs, r, h1, h2, h3, h4⟩ := ht.item (i := e / 2) (by omega)
  refine ⟨_, rfl, wa, _, _, .ref tA, rfl, rfl, SqT.of hw, rfl, _, rfl, _, _, rfl, rfl, ⟨by decide, by decide⟩, .inl ⟨tA, xs, _, _, rfl, rfl, SqL.of h1, (by show atI xs ((e : Int) / 2) = _; rw [show (e : Int) / 2 = ((e / 2 : Nat) : Int) by omega]; exact h3), ?_⟩⟩
  refine ⟨_, rfl, _, _, rfl, rfl, (by show (0 : Int) < 2; decide), .inr (.inl ⟨r, _, _, _, rfl, rfl, SqT.of h4, at_pair e, ?_⟩)⟩
  unfold MM.place at q
  split
  · rename_i h; rw [if_pos h] at q; exact q
  · rename_i h; rw [if_neg h] at q; exact q
def spGoesB (vs : List L2.V) (H : L2.Hp) (Q : L2.VK) (wa : Addr) (n : Nat) (ts : MM.Ties) (os : MM.Ords) (e : Nat) : Prop := vs = [.ref wa, vn e] ∧ WebAt H wa n ts os ∧ e < 2 * ts.length ∧ Q (vn (MM.place ts (MM.oth e))) H
def spGoes : Sp := fun vs H Q _ => ∃ (wa : Addr) (n : Nat) (ts : MM.Ties) (os : MM.Ords) (e : Nat), spGoesB vs H Q wa n ts os e
theorem ok_goes (T : Txt K mg t) : FnOk P w K mg base CX0 2 t.a_goes_to t.d_goes_to ["web", "end"] spGoes := by
  have G_other_end := ok_other (P := P) (w := w) (base := base) T
  have G_place_of := ok_place (P := P) (w := w) (base := base) T
  refine T.F_goes_to.ok sc_goes_to (fun vs H Q E h => ?_) (fun cdv A outer s H vs Q E hr h => ?_)
  · obtain ⟨wa, n, ts, os, e, rfl, _⟩ := h; rfl
  obtain ⟨wa, n, ts, os, e, rfl, hw, he, q⟩ := h
  refine ⟨_, (pss_one (ps_ret (pe_call G_place_of (hr.mono (by decide)) rfl T.m_place_of T.k_place_of T.b_place_of .nil pass0 (pa_cons (pv 0) (pa_cons (pe_call G_other_end (hr.mono (by decide)) rfl T.m_other_end T.k_other_end T.b_other_end .nil pass0 (pa_cons (pv 1) pa_nil)) pa_nil))))), ?_⟩
  exact ⟨_, rfl, _, rfl, e, rfl, wa, n, ts, os, MM.oth e, rfl, hw, MM.oth_lt he, q⟩
def spBehindB (vs : List L2.V) (H : L2.Hp) (Q : L2.VK) (wa : Addr) (n : Nat) (ts : MM.Ties) (os : MM.Ords) (e : Nat) : Prop := vs = [.ref wa, vn e] ∧ WebAt H wa n ts os ∧ Has ts os ∧ e < 2 * ts.length ∧ Q (vn (MM.behind ts os e)) H
def spBehind : Sp := fun vs H Q _ => ∃ (wa : Addr) (n : Nat) (ts : MM.Ties) (os : MM.Ords) (e : Nat), spBehindB vs H Q wa n ts os e
theorem ok_behind (T : Txt K mg t) : FnOk P w K mg base CX0 3 t.a_behind t.d_behind ["web", "end"] spBehind := by
  have G_other_end := ok_other (P := P) (w := w) (base := base) T
  have G_goes_to := ok_goes (P := P) (w := w) (base := base) T
  refine T.F_behind.ok sc_behind (fun vs H Q E h => ?_) (fun cdv A outer s H vs Q E hr h => ?_)
  · obtain ⟨wa, n, ts, os, e, rfl, _⟩ := h; rfl
  obtain ⟨wa, n, ts, os, e, rfl, hw, g, he, q⟩ := h
  have nd := sc_behind.nd
  refine ⟨_, (pss_cons (ps_set (i := 2) nd rfl (Or.inl rfl) (pe_ix ix_seq (pe_ix ix_tup (pv 0) pe_int (fun _ _ => rfl)) (pe_call G_goes_to (hr.mono (by decide)) rfl T.m_goes_to T.k_goes_to T.b_goes_to .nil pass0 (pa_cons (pv 0) (pa_cons (pv 1) pa_nil))) (fun _ _ => rfl)))
    (pss_one (ps_ret (pe_ix ix_list (pv 2) (pe_op op_sub (pe_bm PySem.F.plainAttrs_list PySem.F.slot_list_index PySem.F.type_list_index mt_index (pv 2) (pa_cons (pe_call G_other_end (hr.mono (by decide)) rfl T.m_other_end T.k_other_end T.b_other_end .nil pass0 (pa_cons (pv 1) pa_nil)) pa_nil)) pe_int) (fun _ _ => rfl))))), ?_⟩
  obtain ⟨tA, oA, hw1, ht, ho⟩ := id hw
  have hp := g.has (MM.oth e) (MM.oth_lt he)
  obtain ⟨xs, r, h1, h2, h3, h4⟩ := ho.item hp.1
  refine ⟨_, rfl, wa, _, _, .ref oA, rfl, rfl, SqT.of hw1, rfl, _, rfl, _, rfl, wa, n, ts, os, e, rfl, hw, he, .inl ⟨oA, xs, _, _, rfl, rfl, SqL.of h1, h3, ?_⟩⟩
  exact ⟨_, rfl, _, rfl, .inl ⟨rfl, _, SqL.of h4⟩, _, rfl, e, rfl, r, _, _, rfl, rfl, h4, hp.2, _, _, rfl, rfl, r, _, _, _, rfl, rfl, SqL.of h4, at_prev hp.2, q⟩
end K57
namespace K57
open PySem L2 PyProof.Rows
variable {P : Program} {w : World} {K : PySem.W.Frag} {mg : Str → Option Value} {base : Heap} {t : Adr}
def spShape : Sp := fun vs H Q _ => ∃ (wa da pa la : Addr) (n : Nat) (ts : MM.Ties) (os : MM.Ords) (ll : List (List Pt)), vs = [.ref wa, .ref da] ∧ WebAt H wa n ts os ∧ Has ts os ∧ H da = some (.tup [.ref pa, .ref la]) ∧ LsAt H la ll ∧ ll.length = ts.length ∧ ll.length ≤ 1000 ∧ (∀ ps ∈ ll, Line ps) ∧
  ∀ r c l H', H c = none → H l = none → c ≠ l → Same H H' → H' r = some (.tup [.ref c, .ref l]) → H' c = some (.lst ((cns ts os (lvs ll)).map V.int)) → H' l = some (.lst ((lfs ll).map V.int)) → Q (.ref r) H'
theorem cns_at {ts : MM.Ties} {os : MM.Ords} {hs : List Int} {i : Nat} : ((List.range i).map fun e => (at0 hs (MM.oth e) - at0 hs (MM.behind ts os e) - 1) % 4 + 1).map V.int ++ [V.int ((at0 hs (MM.oth i) - at0 hs (MM.behind ts os i) - 1) % 4 + 1)] = ((List.range (i + 1)).map fun e => (at0 hs (MM.oth e) - at0 hs (MM.behind ts os e) - 1) % 4 + 1).map V.int := by
  rw [List.range_succ, List.map_append, List.map_append]; rfl
theorem lfs_len (ll : List (List Pt)) : (lfs ll).length = 2 * ll.length := by
  induction ll with
  | nil => rfl
  | cons ps ll ih =>
    unfold lfs at ih ⊢
    rw [List.flatMap_cons, List.length_append, ih]
    simp; omega
theorem ok_shape (T : Txt K mg t) : FnOk P w K mg base CX0 4 t.a_shape_of t.d_shape_of ["web", "drawing"] spShape := by
  have G_leaving_headings := ok_lv (P := P) (w := w) (base := base) T
  have G_turns_by := ok_tb (P := P) (w := w) (base := base) T
  have G_quarters_right := ok_qr (P := P) (w := w) (base := base) T
  have G_other_end := ok_other (P := P) (w := w) (base := base) T
  have G_behind := ok_behind (P := P) (w := w) (base := base) T
  refine T.F_shape_of.ok sc_shape_of (fun vs H Q E h => ?_) (fun cdv A outer s H vs Q E hr h => ?_)
  · obtain ⟨wa, da, pa, la, n, ts, os, ll, rfl, _⟩ := h; rfl
  obtain ⟨wa, da, pa, la, n, ts, os, ll, rfl, hw, hh, hd, hl, hn, h1000, hL, q⟩ := h
  have nd := sc_shape_of.nd
  refine ⟨_, (pss_cons (ps_set (i := 2) nd rfl (Or.inl rfl) (pe_call G_leaving_headings (hr.mono (by decide)) rfl T.m_leaving_headings T.k_leaving_headings T.b_leaving_headings .nil pass0 (pa_cons (pe_ix ix_tup (pv 1) pe_int (fun _ _ => rfl)) pa_nil)))
    (pss_cons (ps_set (i := 3) nd rfl (Or.inl rfl) (pe_lst pa_nil))
    (pss_cons (ps_for PassesOwn.never rfl (pi_range1 rfl T.z_range (pa_cons (pe_callB call_len_seq rfl T.z_len PySem.boot_len (pa_cons (pv 2) pa_nil)) pa_nil)) (pg_name (i := 4) nd rfl (Or.inl rfl)) (pss_one (ps_expr (pe_bm PySem.F.plainAttrs_list PySem.F.slot_list_append PySem.F.type_list_append mt_append (pv 3) (pa_cons (pe_call G_quarters_right (hr.mono (by decide)) rfl T.m_quarters_right T.k_quarters_right T.b_quarters_right .nil pass0 (pa_cons (pe_ix ix_list (pv 2) (pe_call G_other_end (hr.mono (by decide)) rfl T.m_other_end T.k_other_end T.b_other_end .nil pass0 (pa_cons (pv 4) pa_nil)) (fun _ _ => rfl)) (pa_cons (pe_ix ix_list (pv 2) (pe_call G_behind (hr.mono (by decide)) rfl T.m_behind T.k_behind T.b_behind .nil pass0 (pa_cons (pv 0) (pa_cons (pv 4) pa_nil))) (fun _ _ => rfl)) pa_nil))) pa_nil)))))
    (pss_cons (ps_set (i := 5) nd rfl (Or.inl rfl) (pe_lst pa_nil))
    (pss_cons (ps_for PassesOwn.never rfl (pi_list (pe_ix ix_tup (pv 1) pe_int (fun _ _ => rfl))) (pg_name (i := 6) nd rfl (Or.inl rfl)) (pss_cons (ps_expr (pe_bm PySem.F.plainAttrs_list PySem.F.slot_list_append PySem.F.type_list_append mt_append (pv 5) (pa_cons (pe_call G_turns_by (hr.mono (by decide)) rfl T.m_turns_by T.k_turns_by T.b_turns_by .nil pass0 (pa_cons (pv 6) (pa_cons pe_int pa_nil))) pa_nil)))
    (pss_one (ps_expr (pe_bm PySem.F.plainAttrs_list PySem.F.slot_list_append PySem.F.type_list_append mt_append (pv 5) (pa_cons (pe_call G_turns_by (hr.mono (by decide)) rfl T.m_turns_by T.k_turns_by T.b_turns_by .nil pass0 (pa_cons (pv 6) (pa_cons (pe_un un_neg pe_int) pa_nil))) pa_nil))))))
    (pss_one (ps_ret (pe_tup (pa_cons (pv 3) (pa_cons (pv 5) pa_nil)))))))))), ?_⟩
  refine ⟨_, rfl, da, _, _, _, rfl, rfl, SqT.of hd, rfl, la, ll, rfl, hl, h1000, hL, fun ha H1 ha0 g1 e1 => ?_⟩
  refine ⟨few (by decide), fun ca hca => ?_⟩
  have g2 := same_new hca (.lst [])
  have hlen := lvs_len ll
  have cN : H ca = none := g1.free hca
  refine ⟨_, rfl, ha, _, rfl, .inl (SqL.of (g2 _ _ e1)), _, rfl, by rw [List.length_map]; omega, by rw [List.length_map]; omega, ?_⟩
  rw [List.length_map]
  let Pv1 : Nat → L2.St → L2.Hp → Prop := fun i σ H' => Same H1 H' ∧ H' ca = some (.lst (((List.range i).map fun e => (at0 (lvs ll) (MM.oth e) - at0 (lvs ll) (MM.behind ts os e) - 1) % 4 + 1).map V.int)) ∧ ∃ o, σ = [some (.ref wa), some (.ref da), some (.ref ha), some (.ref ca), o, none, none]
  refine for_range (lo := 0) (n := (((lvs ll).length : Nat) : Int).toNat) Pv1 ⟨g2, upd_same, none, rfl⟩ ?_ ?_
  · rintro i σ H' hi ⟨g, hc, o, rfl⟩
    have hi' : i < 2 * ts.length := by omega
    have ho := MM.oth_lt hi'
    have hb := hh.behind hi'
    refine ⟨_, rfl, .inl ⟨rfl, _, SqL.of hc⟩, _, rfl, _, rfl, i, (by simp), ha, _, _, _, rfl, rfl, SqL.of (g _ _ e1), atI_get0 (j := MM.oth i) (by omega) rfl, _, rfl, _, rfl, _, rfl, wa, n, ts, os, i, (by simp), (g1.trans g).web hw, hh, hi', ha, _, _, _, rfl, rfl, SqL.of (g _ _ e1), atI_get0 (j := MM.behind ts os i) (by omega) rfl, _, _, rfl, ca, _, _, rfl, rfl, hc, few' (by simp; omega), ?_⟩
    refine ⟨g.upd hca, ?_, _, rfl⟩
    rw [upd_same, cns_at]
  · rintro σ H' ⟨g, hc, o, rfl⟩
    refine ⟨few (by decide), fun fa hfa => ?_⟩
    have hfc : fa ≠ ca := fun z => by subst z; rw [hc] at hfa; cases hfa
    have hc' : H' ca = some (.lst ((cns ts os (lvs ll)).map V.int)) := hc
    have g3 := same_new hfa (.lst [])
    have g13 := g1.trans g
    obtain ⟨vs, y1, y2, y3⟩ := id hl
    let Pv2 : Nat → L2.St → L2.Hp → Prop := fun i σ H2 => Same H' H2 ∧ H2 fa = some (.lst ((lfs (ll.take i)).map V.int)) ∧ ∃ o o2, σ = [some (.ref wa), some (.ref da), some (.ref ha), some (.ref ca), o, some (.ref fa), o2]
    refine ⟨_, rfl, da, _, _, _, rfl, rfl, SqT.of (g3 _ _ (g13 _ _ hd)), rfl, la, rfl, ⟨_, SqL.of (g3 _ _ (g13 _ _ y1))⟩, for_list (xs := vs) Pv2 ⟨g3, upd_same, _, none, rfl⟩ (fun i σ H' _ h => SqL.of (h.1 _ _ (g13 _ _ y1))) ?_ ?_⟩
    · rintro i x σ H2 hx ⟨g4, hf, o, o2, rfl⟩
      have hi : i < ll.length := by rw [← y2]; exact (List.getElem?_eq_some_iff.mp hx).1
      obtain ⟨l', rfl, hp⟩ := y3 i x ll[i] hx (List.getElem?_eq_getElem hi)
      have Li := hL ll[i] (List.getElem_mem hi)
      have hlen2 : (lfs (ll.take i)).length = 2 * i := by rw [lfs_len, List.length_take]; omega
      refine ⟨_, rfl, .inl ⟨rfl, _, SqL.of hf⟩, _, rfl, l', _, _, rfl, (g13.trans g4).ps hp, Li, fun H3 g5 => ⟨fa, _, _, rfl, rfl, g5 _ _ hf, few' (by simp; omega), ?_⟩⟩
      have g6 : Same H' (upd H3 fa (.lst ((lfs (ll.take i)).map V.int ++ [.int ((dif (hds ll[i]) 1).count 0 : Nat)]))) := (g4.trans g5).upd hfa
      refine ⟨_, rfl, .inl ⟨rfl, _, SqL.of upd_same⟩, _, rfl, _, rfl, l', _, _, rfl, (g13.trans g6).ps hp, Li, fun H4 g7 => ⟨fa, _, _, rfl, rfl, g7 _ _ upd_same, few' (by simp; omega), (g6.trans g7).upd hfa, ?_, _, _, rfl⟩⟩
      rw [upd_same]
      unfold lfs
      rw [take_flat _ (List.getElem?_eq_getElem hi), List.map_append, List.append_assoc, cnt_by _ 1 1 (fun d => by omega), cnt_by _ (-1) 3 (fun d => by omega)]
      rfl
    · rintro σ H2 ⟨g4, hf, o, o2, rfl⟩
      refine ⟨_, rfl, _, rfl, (by show 2 ≤ sizeLine; decide), fun r hr0 => q r ca fa _ cN (g13.free hfa) (Ne.symm hfc) ((g13.trans g4).trans (same_new hr0 _)) upd_same ?_ ?_⟩
      · rw [upd_ne (ne_of_none (g4 _ _ hc') hr0)]; exact g4 _ _ hc'
      · rw [upd_ne (ne_of_none hf hr0), hf, y2, List.take_length]
end K57

namespace K57
open PySem L2 PyProof.Rows
variable {P : Program} {w : World} {K : PySem.W.Frag} {mg : Str → Option Value} {base : Heap} {t : Adr}
theorem hd_is (p q : Pt) : hd p q = (if p.2 = q.2 then (if q.1 < p.1 then 1 else 0) * 2 else (if q.2 < p.2 then 1 else 0) * 2 + 1) := by
  unfold hd; split <;> split <;> rfl
theorem hds_at (ps : List Pt) (i : Nat) : ((List.range i).map fun k => hd (pt ps k) (pt ps (k + 1))).map V.int ++ [V.int (hd (pt ps i) (pt ps (i + 1)))] = ((List.range (i + 1)).map fun k => hd (pt ps k) (pt ps (k + 1))).map V.int := by
  rw [List.range_succ, List.map_append, List.map_append]; rfl
def spLHOB (vs : List L2.V) (H : L2.Hp) (Q : L2.VK) (l : Addr) (ps : List Pt) : Prop := vs = [.ref l] ∧ PsAt H l ps ∧ 1 ≤ ps.length ∧ ps.length ≤ 1000 ∧ ∀ r H', H r = none → Same H H' → H' r = some (.lst ((hds ps).map V.int)) → Q (.ref r) H'
def spLHO : Sp := fun vs H Q _ => ∃ (l : Addr) (ps : List Pt), spLHOB vs H Q l ps
theorem ok_lho (T : Txt K mg t) : FnOk P w K mg base CX0 1 t.a_l_heads_on t.d_l_heads_on ["_law_line_here"] spLHO := by
  refine T.F_l_heads_on.ok sc_l_heads_on (fun vs H Q E h => ?_) (fun cdv A outer s H vs Q E hr h => ?_)
  · obtain ⟨l, ps, rfl, _⟩ := h; rfl
  obtain ⟨l, ps, rfl, hl, h1, h2, q⟩ := h
  have nd := sc_l_heads_on.nd
  refine ⟨_, (pss_cons (ps_set (i := 1) nd rfl (Or.inl rfl) (pe_lst pa_nil))
    (pss_cons (ps_for PassesOwn.never rfl (pi_range2 rfl T.z_range (pa_cons pe_int (pa_cons (pe_callB call_len_seq rfl T.z_len PySem.boot_len (pa_cons (pv 0) pa_nil)) pa_nil))) (pg_name (i := 2) nd rfl (Or.inl rfl)) (pss_cons (ps_par (i := 3) (j := 4) rfl nd rfl rfl (by decide) rfl rfl (pa_cons (pe_ix ix_list (pv 0) (pe_op op_sub (pv 2) pe_int) (fun _ _ => rfl)) (pa_cons (pe_ix ix_list (pv 0) (pv 2) (fun _ _ => rfl)) pa_nil)) rfl)
    (pss_cons (ps_set (i := 5) nd rfl (Or.inl rfl) (pe_lst (pa_cons (pe_op op_add (pe_op op_mul (pe_callTy call_int1 rfl T.z_int boot_int (pa_cons (pe_cmpR op_lt (pe_ix ix_tup (pv 4) pe_int (fun _ _ => rfl)) (pe_ix ix_tup (pv 3) pe_int (fun _ _ => rfl)) (nomark _)) pa_nil)) pe_int) pe_int) (pa_cons (pe_op op_mul (pe_callTy call_int1 rfl T.z_int boot_int (pa_cons (pe_cmpR op_lt (pe_ix ix_tup (pv 4) pe_int (fun _ _ => rfl)) (pe_ix ix_tup (pv 3) pe_int (fun _ _ => rfl)) (nomark _)) pa_nil)) pe_int) pa_nil))))
    (pss_one (ps_expr (pe_bm PySem.F.plainAttrs_list PySem.F.slot_list_append PySem.F.type_list_append mt_append (pv 1) (pa_cons (pe_ix ix_list (pv 5) (pe_callTy call_int1 rfl T.z_int boot_int (pa_cons (pe_cmpR op_eq (pe_ix ix_tup (pv 3) pe_int (fun _ _ => rfl)) (pe_ix ix_tup (pv 4) pe_int (fun _ _ => rfl)) (nomark _)) pa_nil)) (fun _ _ => rfl)) pa_nil)))))))
    (pss_one (ps_ret (pv 1))))), ?_⟩
  refine ⟨few (by decide), fun fa hfa => ?_⟩
  have g1 := same_new hfa (.lst [])
  obtain ⟨vs, y1, y2, y3⟩ := id hl
  refine ⟨_, rfl, l, _, rfl, .inl (SqL.of (g1 _ _ y1)), _, _, rfl, ⟨by omega, by omega, by omega, by omega⟩, ?_⟩
  rw [y2]
  let Pv1 : Nat → L2.St → L2.Hp → Prop := fun i σ H' => Same H H' ∧ H' fa = some (.lst (((List.range i).map fun k => hd (pt ps k) (pt ps (k + 1))).map V.int)) ∧ ∃ o1 o2 o3 o4, σ = [some (.ref l), some (.ref fa), o1, o2, o3, o4]
  refine for_range (lo := 1) (n := ((ps.length : Int) - 1).toNat) Pv1 ⟨g1, upd_same, none, none, none, none, rfl⟩ ?_ ?_
  · rintro i σ H' hi ⟨g, hf, o1, o2, o3, o4, rfl⟩
    obtain ⟨_, a, z1, _, z3, z4⟩ := hl.pt (i := i) (by omega)
    obtain ⟨_, b, x1, _, x3, x4⟩ := hl.pt (i := i + 1) (by omega)
    rw [y1] at z1 x1; cases z1; cases x1
    have i1 : atI vs ((1 + (i : Int)) - 1) = some (.ref a) := by rw [show (1 + (i : Int)) - 1 = (i : Int) by omega]; exact atI_nat z3
    have i2 : atI vs (1 + (i : Int)) = some (.ref b) := by rw [show 1 + (i : Int) = ((i + 1 : Nat) : Int) by omega]; exact atI_nat x3
    have za := g _ _ z4
    have xb := g _ _ x4
    refine ⟨_, rfl, _, rfl, _, _, rfl, rfl, l, _, _, _, rfl, rfl, SqL.of (g _ _ y1), i1, _, rfl, _, rfl, l, _, _, _, rfl, rfl, SqL.of (g _ _ y1), i2, _, _, rfl, ?_⟩
    refine ⟨_, rfl, b, _, _, _, rfl, rfl, SqT.of xb, rfl, _, rfl, a, _, _, _, rfl, rfl, SqT.of za, rfl, _, _, rfl, rfl, .inr ⟨_, rfl, _, _, rfl, rfl, .inr ⟨by decide, by decide⟩, _, _, rfl, rfl, ?_⟩⟩
    refine ⟨_, rfl, b, _, _, _, rfl, rfl, SqT.of xb, rfl, _, rfl, a, _, _, _, rfl, rfl, SqT.of za, rfl, _, _, rfl, rfl, .inr ⟨_, rfl, _, _, rfl, rfl, .inr ⟨by decide, by decide⟩, (by show 2 ≤ sizeLine; decide), fun ba hba => ?_⟩⟩
    have g2 := same_new hba (.lst [.int ((if decide ((pt ps (i + 1)).2 < (pt ps i).2) = true then 1 else 0) * 2 + 1), .int ((if decide ((pt ps (i + 1)).1 < (pt ps i).1) = true then 1 else 0) * 2)])
    have bN : ba ≠ fa := fun z => by subst z; rw [hf] at hba; cases hba
    refine ⟨_, rfl, .inl ⟨rfl, _, SqL.of (g2 _ _ hf)⟩, _, rfl, _, rfl, a, _, _, _, rfl, rfl, SqT.of (g2 _ _ za), rfl, _, rfl, b, _, _, _, rfl, rfl, SqT.of (g2 _ _ xb), rfl, rfl, .inr ⟨_, rfl, ba, _, _, .int (hd (pt ps i) (pt ps (i + 1))), rfl, rfl, SqL.of upd_same, ?_, fa, _, _, rfl, rfl, g2 _ _ hf, few' (by simp; omega), (g.trans g2).upd hfa, ?_, _, _, _, _, rfl⟩⟩
    · rw [hd_is]
      by_cases c : (pt ps i).2 = (pt ps (i + 1)).2
      · rw [if_pos c, decide_eq_true (show V.int (pt ps i).2 = V.int (pt ps (i + 1)).2 by rw [c])]
        show some (V.int _) = _
        congr 2
        simp only [decide_eq_true_eq]
      · rw [if_neg c, decide_eq_false (show ¬ (V.int (pt ps i).2 = V.int (pt ps (i + 1)).2) from fun z => c (by injection z))]
        show some (V.int _) = _
        congr 2
        simp only [decide_eq_true_eq]
    · rw [upd_same, hds_at]
  · rintro σ H' ⟨g, hf, o1, o2, o3, o4, rfl⟩
    refine ⟨_, rfl, q fa H' hfa g ?_⟩
    rw [hf]; unfold hds
    rw [show ((ps.length : Int) - 1).toNat = ps.length - 1 by omega]
def spLHs : Sp := fun vs H Q _ => ∃ (l : Addr) (ll : List (List Pt)), vs = [.ref l] ∧ LsAt H l ll ∧ ll.length ≤ 1000 ∧ (∀ ps ∈ ll, 2 ≤ ps.length ∧ ps.length ≤ 1000) ∧ ∀ r H', H r = none → Same H H' → H' r = some (.lst ((lvs ll).map V.int)) → Q (.ref r) H'
theorem ok_lhs (T : Txt K mg t) : FnOk P w K mg base CX0 2 t.a_l_heads t.d_l_heads ["_law_lines"] spLHs := by
  have G_l_heads_on := ok_lho (P := P) (w := w) (base := base) T
  refine T.F_l_heads.ok sc_l_heads (fun vs H Q E h => ?_) (fun cdv A outer s H vs Q E hr h => ?_)
  · obtain ⟨l, ll, rfl, _⟩ := h; rfl
  obtain ⟨l, ll, rfl, hl, hn, hL, q⟩ := h
  have nd := sc_l_heads.nd
  refine ⟨_, (pss_cons (ps_set (i := 1) nd rfl (Or.inl rfl) (pe_lst pa_nil))
    (pss_cons (ps_for PassesOwn.never rfl (pi_list (pv 0)) (pg_name (i := 2) nd rfl (Or.inl rfl)) (pss_cons (ps_set (i := 3) nd rfl (Or.inl rfl) (pe_call G_l_heads_on (hr.mono (by decide)) rfl T.m_l_heads_on T.k_l_heads_on T.b_l_heads_on .nil pass0 (pa_cons (pv 2) pa_nil)))
    (pss_cons (ps_expr (pe_bm PySem.F.plainAttrs_list PySem.F.slot_list_append PySem.F.type_list_append mt_append (pv 1) (pa_cons (pe_ix ix_list (pv 3) pe_int (fun _ _ => rfl)) pa_nil)))
    (pss_one (ps_expr (pe_bm PySem.F.plainAttrs_list PySem.F.slot_list_append PySem.F.type_list_append mt_append (pv 1) (pa_cons (pe_op op_mod (pe_op op_add (pe_ix ix_list (pv 3) (pe_un un_neg pe_int) (fun _ _ => rfl)) pe_int) pe_int) pa_nil)))))))
    (pss_one (ps_ret (pv 1))))), ?_⟩
  refine ⟨few (by decide), fun la hla => ?_⟩
  obtain ⟨vs, e1, e2, e3⟩ := id hl
  have g1 := same_new hla (.lst [])
  let Pv2 : Nat → L2.St → L2.Hp → Prop := fun i σ H' => Same H H' ∧ H' la = some (.lst ((lvs (ll.take i)).map V.int)) ∧ ∃ o1 o2, σ = [some (.ref l), some (.ref la), o1, o2]
  refine ⟨_, rfl, l, rfl, ⟨_, SqL.of (g1 _ _ e1)⟩, for_list (xs := vs) Pv2 ⟨g1, upd_same, none, none, rfl⟩ (fun i σ H' _ h => SqL.of (h.1 _ _ e1)) ?_ ?_⟩
  · rintro i x σ H' hx ⟨g, hla', o1, o2, rfl⟩
    have hi : i < ll.length := by rw [← e2]; exact (List.getElem?_eq_some_iff.mp hx).1
    obtain ⟨l', rfl, hp⟩ := e3 i x ll[i] hx (List.getElem?_eq_getElem hi)
    have Li := hL ll[i] (List.getElem_mem hi)
    have hlen : (lvs (ll.take i)).length = 2 * i := by rw [lvs_len, List.length_take]; omega
    have hh : 0 < (hds ll[i]).length := by rw [hds_len]; have := Li.1; omega
    refine ⟨_, rfl, l', _, rfl, g.ps hp, by omega, Li.2, fun r H2 hr0 g2 e => ?_⟩
    have nr : r ≠ la := fun z => by subst z; rw [hla'] at hr0; cases hr0
    refine ⟨_, rfl, .inl ⟨rfl, _, SqL.of (g2 _ _ hla')⟩, _, rfl, r, _, _, _, rfl, rfl, SqL.of e, atI_get0 hh rfl, la, _, _, rfl, rfl, g2 _ _ hla', few' (by rw [List.length_map]; omega), ?_⟩
    have e' : upd H2 la (.lst ((lvs (ll.take i)).map V.int ++ [.int (at0 (hds ll[i]) 0)])) r = some (.lst ((hds ll[i]).map V.int)) := by rw [upd_ne nr]; exact e
    refine ⟨_, rfl, .inl ⟨rfl, _, SqL.of upd_same⟩, _, rfl, _, rfl, r, _, _, _, rfl, rfl, SqL.of e', atI_end hh, _, _, rfl, rfl, _, _, rfl, rfl, (by show (0 : Int) < 4; decide), la, _, _, rfl, rfl, upd_same, few' (by simp; omega), ?_⟩
    refine ⟨((g.trans g2).upd hla).upd hla, ?_, _, _, rfl⟩
    rw [upd_same]
    unfold lvs
    rw [take_flat ends2 (List.getElem?_eq_getElem hi), List.map_append, List.append_assoc]
    rfl
  · rintro σ H' ⟨g, hla', o1, o2, rfl⟩
    refine ⟨_, rfl, q la H' hla g ?_⟩
    rw [hla', e2, List.take_length]
def spRead : Sp := fun vs H Q _ => ∃ (wa da pa la : Addr) (n : Nat) (ts : MM.Ties) (os : MM.Ords) (ll : List (List Pt)), vs = [.ref wa, .ref da] ∧ WebAt H wa n ts os ∧ Has ts os ∧ H da = some (.tup [.ref pa, .ref la]) ∧ LsAt H la ll ∧ ll.length = ts.length ∧ ll.length ≤ 1000 ∧ (∀ ps ∈ ll, 2 ≤ ps.length ∧ ps.length ≤ 1000) ∧
  ∀ r c l H', Same H H' → H' r = some (.tup [.ref c, .ref l]) → H' c = some (.lst ((cns ts os (lvs ll)).map V.int)) → H' l = some (.lst ((lfs ll).map V.int)) → Q (.ref r) H'
theorem ok_read (T : Txt K mg t) : FnOk P w K mg base CX0 3 t.a_l_read t.d_l_read ["_law_web", "_law_drawing"] spRead := by
  have G_l_heads := ok_lhs (P := P) (w := w) (base := base) T
  have G_l_heads_on := ok_lho (P := P) (w := w) (base := base) T
  have G_l_other := ok_lother (P := P) (w := w) (base := base) T
  have G_l_behind := ok_lbehind (P := P) (w := w) (base := base) T
  refine T.F_l_read.ok sc_l_read (fun vs H Q E h => ?_) (fun cdv A outer s H vs Q E hr h => ?_)
  · obtain ⟨wa, da, pa, la, n, ts, os, ll, rfl, _⟩ := h; rfl
  obtain ⟨wa, da, pa, la, n, ts, os, ll, rfl, hw, hh, hd, hl, hn, h1000, hL, q⟩ := h
  have nd := sc_l_read.nd
  have nd_l_k_l_some : (["_law_k", "_law_some"] : List Str).Nodup := by decide
  refine ⟨_, (pss_cons (ps_set (i := 2) nd rfl (Or.inl rfl) (pe_call G_l_heads (hr.mono (by decide)) rfl T.m_l_heads T.k_l_heads T.b_l_heads .nil pass0 (pa_cons (pe_ix ix_tup (pv 1) pe_int (fun _ _ => rfl)) pa_nil)))
    (pss_cons (ps_set (i := 3) nd rfl (Or.inl rfl) (pe_lst pa_nil))
    (pss_cons (ps_for PassesOwn.never rfl (pi_range1 rfl T.z_range (pa_cons (pe_callB call_len_seq rfl T.z_len PySem.boot_len (pa_cons (pv 2) pa_nil)) pa_nil)) (pg_name (i := 4) nd rfl (Or.inl rfl)) (pss_one (ps_expr (pe_bm PySem.F.plainAttrs_list PySem.F.slot_list_append PySem.F.type_list_append mt_append (pv 3) (pa_cons (pe_op op_add (pe_op op_mod (pe_op op_sub (pe_op op_sub (pe_ix ix_list (pv 2) (pe_call G_l_other (hr.mono (by decide)) rfl T.m_l_other T.k_l_other T.b_l_other .nil pass0 (pa_cons (pv 4) pa_nil)) (fun _ _ => rfl)) (pe_ix ix_list (pv 2) (pe_call G_l_behind (hr.mono (by decide)) rfl T.m_l_behind T.k_l_behind T.b_l_behind .nil pass0 (pa_cons (pe_ix ix_tup (pv 0) pe_int (fun _ _ => rfl)) (pa_cons (pe_ix ix_tup (pv 0) pe_int (fun _ _ => rfl)) (pa_cons (pv 4) pa_nil)))) (fun _ _ => rfl))) pe_int) pe_int) pe_int) pa_nil)))))
    (pss_cons (ps_set (i := 5) nd rfl (Or.inl rfl) (pe_lst pa_nil))
    (pss_cons (ps_for PassesOwn.never rfl (pi_list (pe_ix ix_tup (pv 1) pe_int (fun _ _ => rfl))) (pg_name (i := 6) nd rfl (Or.inl rfl)) (pss_cons (ps_set (i := 7) nd rfl (Or.inr rfl) (pe_call G_l_heads_on (hr.mono (by decide)) rfl T.m_l_heads_on T.k_l_heads_on T.b_l_heads_on .nil pass0 (pa_cons (pv 6) pa_nil)))
    (pss_cons (ps_setComp (i := 8) nd rfl (Or.inl rfl)  (N' := ["_law_k", "_law_some"]) (js := [none, some 7]) rfl (pi_range2 rfl T.z_range (pa_cons pe_int (pa_cons (pe_callB call_len_seq rfl T.z_len PySem.boot_len (pa_cons (pv 7) pa_nil)) pa_nil))) (fun _ _ _ _ _ => (pg_name (i := 0) nd_l_k_l_some rfl (Or.inl rfl))) (fun _ _ _ _ _ => pf_nil) (fun _ _ _ _ _ => (pe_op op_mod (pe_op op_sub (pe_ix (kix_list (K := K) rfl) (pv 1) (pv 0) (fun _ _ => rfl)) (pe_ix (kix_list (K := K) rfl) (pv 1) (pe_op op_sub (pv 0) pe_int) (fun _ _ => rfl))) pe_int)))
    (pss_one (ps_set (i := 5) nd rfl (Or.inl rfl) (pe_op op_cat (pv 5) (pe_lst (pa_cons (pe_bm PySem.F.plainAttrs_list PySem.F.slot_list_count PySem.F.type_list_count mt_count (pv 8) (pa_cons pe_int pa_nil)) (pa_cons (pe_bm PySem.F.plainAttrs_list PySem.F.slot_list_count PySem.F.type_list_count mt_count (pv 8) (pa_cons pe_int pa_nil)) pa_nil)))))))))
    (pss_one (ps_ret (pe_tup (pa_cons (pv 3) (pa_cons (pv 5) pa_nil)))))))))), ?_⟩
  obtain ⟨tA, oA, hw1, ht, hos⟩ := id hw
  refine ⟨_, rfl, da, _, _, _, rfl, rfl, SqT.of hd, rfl, la, ll, rfl, hl, h1000, hL, fun ha H1 ha0 g1 e1 => ?_⟩
  refine ⟨few (by decide), fun ca hca => ?_⟩
  have g2 := same_new hca (.lst [])
  have hlen := lvs_len ll
  refine ⟨_, rfl, ha, _, rfl, .inl (SqL.of (g2 _ _ e1)), _, rfl, by rw [List.length_map]; omega, by rw [List.length_map]; omega, ?_⟩
  rw [List.length_map]
  let Pv3 : Nat → L2.St → L2.Hp → Prop := fun i σ H' => Same H1 H' ∧ H' ca = some (.lst (((List.range i).map fun e => (at0 (lvs ll) (MM.oth e) - at0 (lvs ll) (MM.behind ts os e) - 1) % 4 + 1).map V.int)) ∧ ∃ o, σ = [some (.ref wa), some (.ref da), some (.ref ha), some (.ref ca), o, none, none, none, none]
  refine for_range (lo := 0) (n := (((lvs ll).length : Nat) : Int).toNat) Pv3 ⟨g2, upd_same, none, rfl⟩ ?_ ?_
  · rintro i σ H' hi ⟨g, hc, o, rfl⟩
    have hi' : i < 2 * ts.length := by omega
    have ho := MM.oth_lt hi'
    have hb := hh.behind hi'
    have g3 := g1.trans g
    refine ⟨_, rfl, .inl ⟨rfl, _, SqL.of hc⟩, _, rfl, _, rfl, i, (by simp), ha, _, _, _, rfl, rfl, SqL.of (g _ _ e1), atI_get0 (j := MM.oth i) (by omega) rfl, _, rfl, _, rfl, wa, _, _, _, rfl, rfl, SqT.of (g3 _ _ hw1), rfl, _, rfl, wa, _, _, _, rfl, rfl, SqT.of (g3 _ _ hw1), rfl, _, rfl, tA, oA, ts, os, i, (by simp), g3.ts ht, g3.os hos, hh, hi', ha, _, _, _, rfl, rfl, SqL.of (g _ _ e1), atI_get0 (j := MM.behind ts os i) (by omega) rfl, _, _, rfl, rfl, _, _, rfl, rfl, _, _, rfl, rfl, (by show (0 : Int) < 4; decide), _, _, rfl, rfl, ca, _, _, rfl, rfl, hc, few' (by simp; omega), ?_⟩
    refine ⟨g.upd hca, ?_, _, rfl⟩
    rw [upd_same, cns_at]
  · rintro σ H' ⟨g, hc, o, rfl⟩
    refine ⟨few (by decide), fun fa hfa => ?_⟩
    have hc' : H' ca = some (.lst ((cns ts os (lvs ll)).map V.int)) := hc
    have g3 := same_new hfa (.lst [])
    have g13 := g1.trans g
    obtain ⟨vs, y1, y2, y3⟩ := id hl
    let Pv4 : Nat → L2.St → L2.Hp → Prop := fun i σ H2 => Same H' H2 ∧ ∃ (fb : Addr), H2 fb = some (.lst ((lfs (ll.take i)).map V.int)) ∧ ∃ o o2 o3 o4, σ = [some (.ref wa), some (.ref da), some (.ref ha), some (.ref ca), o, some (.ref fb), o2, o3, o4]
    refine ⟨_, rfl, da, _, _, _, rfl, rfl, SqT.of (g3 _ _ (g13 _ _ hd)), rfl, la, rfl, ⟨_, SqL.of (g3 _ _ (g13 _ _ y1))⟩, for_list (xs := vs) Pv4 ⟨g3, fa, upd_same, _, none, none, none, rfl⟩ (fun i σ H' _ h => SqL.of (h.1 _ _ (g13 _ _ y1))) ?_ ?_⟩
    · rintro i x σ H2 hx ⟨g4, fb, hf, o, o2, o3, o4, rfl⟩
      have hi : i < ll.length := by rw [← y2]; exact (List.getElem?_eq_some_iff.mp hx).1
      obtain ⟨l', rfl, hp⟩ := y3 i x ll[i] hx (List.getElem?_eq_getElem hi)
      have Li := hL ll[i] (List.getElem_mem hi)
      have hlen2 : (lfs (ll.take i)).length = 2 * i := by rw [lfs_len, List.length_take]; omega
      have hdl := hds_len ll[i]
      refine ⟨_, rfl, l', _, rfl, (g13.trans g4).ps hp, by omega, Li.2, fun r H3 hr0 g5 e5 => ?_⟩
      refine ⟨_, rfl, r, _, rfl, .inl (SqL.of e5), _, _, rfl, ⟨by decide, by decide, by rw [List.length_map]; omega, by rw [List.length_map]; omega⟩, fun D hD => ?_⟩
      rw [List.length_map]
      refine comp_pure ((((hds ll[i]).length : Nat) : Int) - 1).toNat (fun k => .int ((at0 (hds ll[i]) (k + 1) - at0 (hds ll[i]) k) % 4)) hD (by omega) (fun j H' hj _ => hj) (fun H' _ => Nat.le_refl _) ?_ ?_
      · rintro j H' x H'' k hj g6 ⟨rfl, rfl⟩ hk
        refine ⟨(Fills.refl _).set _ rfl, _, rfl, _, rfl, r, _, _, _, rfl, rfl, SqL.of (g6 _ _ e5), atI_get0 (j := j + 1) (by omega) (by omega), _, rfl, _, rfl, _, _, rfl, rfl, r, _, _, _, rfl, rfl, SqL.of (g6 _ _ e5), atI_get0 (j := j) (by omega) (by omega), _, _, rfl, rfl, _, _, rfl, rfl, (by show (0 : Int) < 4; decide), hk _ (Same.refl _)⟩
      · intro H4 g6 e6
        have e7 : H4 D = some (.lst ((dif (hds ll[i]) 0).map V.int)) := by
          rw [e6]; unfold dif
          rw [List.map_map, show ((((hds ll[i]).length : Nat) : Int) - 1).toNat = (hds ll[i]).length - 1 by omega]
          congr 2
          refine List.map_congr_left fun k _ => ?_
          simp only [Function.comp, Int.sub_zero]
        refine ⟨_, rfl, _, rfl, .inl ⟨rfl, _, SqL.of e7⟩, D, _, _, rfl, rfl, e7, _, rfl, .inl ⟨rfl, _, SqL.of e7⟩, D, _, _, rfl, rfl, e7, (by show 2 ≤ sizeLine; decide), fun na hna => ?_⟩
        have g8 := same_new hna (.lst [.int (cnt ll[i] 1), .int (cnt ll[i] 3)])
        refine ⟨fb, na, _, _, rfl, rfl, g8 _ _ (g6 _ _ (g5 _ _ hf)), upd_same, few (by simp; omega), fun fc hfc => ?_⟩
        refine ⟨(((g4.trans g5).trans g6).trans g8).trans (same_new hfc _), fc, ?_, _, _, _, _, rfl⟩
        rw [upd_same]
        unfold lfs
        rw [take_flat _ (List.getElem?_eq_getElem hi), List.map_append]
        rfl
    · rintro σ H2 ⟨g4, fb, hf, o, o2, o3, o4, rfl⟩
      refine ⟨_, rfl, _, rfl, (by show 2 ≤ sizeLine; decide), fun r hr0 => q r ca fb _ ((g13.trans g4).trans (same_new hr0 _)) upd_same ?_ ?_⟩
      · rw [upd_ne (ne_of_none (g4 _ _ hc') hr0)]; exact g4 _ _ hc'
      · rw [upd_ne (ne_of_none hf hr0), hf, y2, List.take_length]
end K57

namespace L2
open PySem PySem.Spec PyProof.Rows
def ahead (h : Nat) (p q : Pt) : Prop := (h = 0 ∧ p.2 = q.2 ∧ p.1 < q.1) ∨ (h = 1 ∧ p.1 = q.1 ∧ p.2 < q.2) ∨ (h = 2 ∧ p.2 = q.2 ∧ q.1 < p.1) ∨ (h = 3 ∧ p.1 = q.1 ∧ q.2 < p.2)
theorem ahead.trans {h : Nat} {p q r : Pt} (a : ahead h p q) (b : ahead h q r) : ahead h p r := by
  rcases a with ⟨rfl, a1, a2⟩ | ⟨rfl, a1, a2⟩ | ⟨rfl, a1, a2⟩ | ⟨rfl, a1, a2⟩
  · rcases b with ⟨_, b1, b2⟩ | ⟨z, _⟩ | ⟨z, _⟩ | ⟨z, _⟩ <;> first | exact absurd z (by decide) | exact .inl ⟨rfl, a1.trans b1, Int.lt_trans a2 b2⟩
  · rcases b with ⟨z, _⟩ | ⟨_, b1, b2⟩ | ⟨z, _⟩ | ⟨z, _⟩ <;> first | exact absurd z (by decide) | exact .inr (.inl ⟨rfl, a1.trans b1, Int.lt_trans a2 b2⟩)
  · rcases b with ⟨z, _⟩ | ⟨z, _⟩ | ⟨_, b1, b2⟩ | ⟨z, _⟩ <;> first | exact absurd z (by decide) | exact .inr (.inr (.inl ⟨rfl, a1.trans b1, Int.lt_trans b2 a2⟩))
  · rcases b with ⟨z, _⟩ | ⟨z, _⟩ | ⟨z, _⟩ | ⟨_, b1, b2⟩ <;> first | exact absurd z (by decide) | exact .inr (.inr (.inr ⟨rfl, a1.trans b1, Int.lt_trans b2 a2⟩))
theorem ahead.strt {h : Nat} {p q : Pt} (a : ahead h p q) : Strt p q := by
  rcases a with ⟨_, a1, a2⟩ | ⟨_, a1, a2⟩ | ⟨_, a1, a2⟩ | ⟨_, a1, a2⟩
  · exact .inl ⟨a1, Int.ne_of_lt a2⟩
  · exact .inr ⟨a1, Int.ne_of_lt a2⟩
  · exact .inl ⟨a1, (Int.ne_of_lt a2).symm⟩
  · exact .inr ⟨a1, (Int.ne_of_lt a2).symm⟩
theorem ahead.up {h : Nat} {p q : Pt} (a : ahead h p q) : p.1 = q.1 ↔ h % 2 = 1 := by
  rcases a with ⟨rfl, a1, a2⟩ | ⟨rfl, a1, a2⟩ | ⟨rfl, a1, a2⟩ | ⟨rfl, a1, a2⟩
  · exact ⟨fun z => absurd z (Int.ne_of_lt a2), fun z => absurd z (by decide)⟩
  · exact ⟨fun _ => rfl, fun _ => a1⟩
  · exact ⟨fun z => absurd z.symm (Int.ne_of_lt a2), fun z => absurd z (by decide)⟩
  · exact ⟨fun _ => rfl, fun _ => a1⟩
theorem ahead.lt {h : Nat} {p q : Pt} (a : ahead h p q) : h < 4 := by
  rcases a with ⟨rfl, _⟩ | ⟨rfl, _⟩ | ⟨rfl, _⟩ | ⟨rfl, _⟩ <;> decide
structure Walk (ps : List Pt) (hs : Nat → Nat) : Prop where
  len : 2 ≤ ps.length
  few : ps.length ≤ 100
  go : ∀ k, k + 1 < ps.length → ahead (hs k) (pt ps k) (pt ps (k + 1))
  on : ∀ k, k + 2 < ps.length → hs (k + 1) ≠ (hs k + 2) % 4
def Chain (ps : List Pt) : Prop := ∀ k, k + 1 < ps.length → Strt (pt ps k) (pt ps (k + 1))
def Bdd (ps : List Pt) : Prop := ∀ k, k < ps.length → -1000 < (pt ps k).1 ∧ (pt ps k).1 < 1000
theorem pt_app1 {ps : List Pt} {x : Pt} {k : Nat} (h : k < ps.length) : pt (ps ++ [x]) k = pt ps k := by
  unfold pt; simp only [List.getD, List.getElem?_append_left h]
theorem pt_app2 {ps : List Pt} {x : Pt} : pt (ps ++ [x]) ps.length = x := by unfold pt; simp [List.getD]
theorem Chain.app {ps : List Pt} {x : Pt} (h : Chain ps) (h0 : 0 < ps.length) (hx : Strt (pt ps (ps.length - 1)) x) : Chain (ps ++ [x]) := by
  intro k hk
  rw [List.length_append, List.length_singleton] at hk
  rcases Nat.lt_or_ge (k + 1) ps.length with z | z
  · rw [pt_app1 (by omega), pt_app1 z]; exact h k z
  · have e : k + 1 = ps.length := by omega
    rw [pt_app1 (by omega), e, pt_app2, show k = ps.length - 1 by omega]; exact hx
theorem Bdd.app {ps : List Pt} {x : Pt} (h : Bdd ps) (hx : -1000 < x.1 ∧ x.1 < 1000) : Bdd (ps ++ [x]) := by
  intro k hk
  rw [List.length_append, List.length_singleton] at hk
  rcases Nat.lt_or_ge k ps.length with z | z
  · rw [pt_app1 z]; exact h k z
  · rw [show k = ps.length by omega, pt_app2]; exact hx
theorem cut_t1 (vs : List V) : cutV vs none (some 1) = vs.take 1 := by
  unfold cutV HT.sIx
  simp only [show ¬ ((1 : Int) < 0) by omega, if_false, List.drop_zero, Nat.sub_zero]
  rw [show min (Int.toNat 1) vs.length = min 1 vs.length by rfl]
  rw [← List.take_eq_take_min]
theorem cut_m1 (vs : List V) (h : 1 ≤ vs.length) : cutV vs (some (-1)) none = vs.drop (vs.length - 1) := by
  unfold cutV HT.sIx
  simp only [show ((-1 : Int) < 0) by omega, if_true]
  rw [show ((-1 + (vs.length : Int)).toNat) = vs.length - 1 by omega]
  exact List.take_of_length_le (by rw [List.length_drop]; omega)
end L2
namespace K57
open PySem L2 PyProof.Rows
variable {P : Program} {w : World} {K : PySem.W.Frag} {mg : Str → Option Value} {base : Heap} {t : Adr}
def spTurnsOfB (vs : List L2.V) (H : L2.Hp) (Q : L2.VK) (l : Addr) (ps : List Pt) (hs : Nat → Nat) : Prop := vs = [.ref l] ∧ PsAt H l ps ∧ Walk ps hs ∧ Bdd ps ∧ ∀ r H' kp, H r = none → Same H H' → PsAt H' r kp → Line kp → Bdd kp → Q (.ref r) H'
def spTurnsOf : Sp := fun vs H Q _ => ∃ (l : Addr) (ps : List Pt) (hs : Nat → Nat), spTurnsOfB vs H Q l ps hs
theorem ok_turnsof (T : Txt K mg t) : FnOk P w K mg base CX0 1 t.a_l_turns_of t.d_l_turns_of ["_law_line_here"] spTurnsOf := by
  refine T.F_l_turns_of.ok sc_l_turns_of (fun vs H Q E h => ?_) (fun cdv A outer s H vs Q E hr h => ?_)
  · obtain ⟨l, ps, hs, rfl, _⟩ := h; rfl
  obtain ⟨l, ps, hs, rfl, hl, hW, hBd, q⟩ := h
  have nd := sc_l_turns_of.nd
  have nd_l_j_l_line_here : (["_law_j", "_law_line_here"] : List Str).Nodup := by decide
  refine ⟨_, (pss_cons (ps_set (i := 1) nd rfl (Or.inl rfl) (pe_slice sl_list (pv 0) po_none (po_some pe_int)))
    (pss_cons (ps_for PassesOwn.never rfl (pi_range2 rfl T.z_range (pa_cons pe_int (pa_cons (pe_op op_sub (pe_callB call_len_seq rfl T.z_len PySem.boot_len (pa_cons (pv 0) pa_nil)) pe_int) pa_nil))) (pg_name (i := 2) nd rfl (Or.inl rfl)) (pss_cons (ps_setComp (i := 3) nd rfl (Or.inl rfl)  (N' := ["_law_j", "_law_line_here"]) (js := [none, some 0]) rfl (pi_range2 rfl T.z_range (pa_cons (pe_op op_sub (pv 2) pe_int) (pa_cons (pe_op op_add (pv 2) pe_int) pa_nil))) (fun _ _ _ _ _ => (pg_name (i := 0) nd_l_j_l_line_here rfl (Or.inl rfl))) (fun _ _ _ _ _ => pf_nil) (fun _ _ _ _ _ => (pe_ix (kix_tup (K := K) rfl) (pe_ix (kix_list (K := K) rfl) (pv 1) (pv 0) (fun _ _ => rfl)) pe_int (fun _ _ => rfl))))
    (pss_one (ps_if (pt_cmpR op_ne (pe_cmpR op_eq (pe_ix ix_list (pv 3) pe_int (fun _ _ => rfl)) (pe_ix ix_list (pv 3) pe_int (fun _ _ => rfl)) (nomark _)) (pe_cmpR op_eq (pe_ix ix_list (pv 3) pe_int (fun _ _ => rfl)) (pe_ix ix_list (pv 3) pe_int (fun _ _ => rfl)) (nomark _)) (nomark _)) (pss_one (ps_expr (pe_bm PySem.F.plainAttrs_list PySem.F.slot_list_append PySem.F.type_list_append mt_append (pv 1) (pa_cons (pe_ix ix_list (pv 0) (pv 2) (fun _ _ => rfl)) pa_nil)))) pss_nil))))
    (pss_one (ps_ret (pe_op op_cat (pv 1) (pe_slice sl_list (pv 0) (po_some (pe_un un_neg pe_int)) po_none)))))), ?_⟩
  obtain ⟨vs, y1, y2, y3⟩ := id hl
  have h2 := hW.len
  have h100 := hW.few
  have hv0 : ∃ v, vs[0]? = some v ∧ vs.take 1 = [v] := by
    cases vs with
    | nil => simp at y2; omega
    | cons v vs => exact ⟨v, rfl, rfl⟩
  obtain ⟨v0, hv0, ht0⟩ := hv0
  refine ⟨_, rfl, _, rfl, l, _, rfl, SqL.of y1, fun ka hka => ?_⟩
  rw [cut_t1, ht0]
  have g1 := same_new hka (.lst [v0])
  refine ⟨_, rfl, l, _, rfl, .inl (SqL.of (g1 _ _ y1)), _, _, rfl, rfl, _, _, rfl, ⟨by omega, by omega, by omega, by omega⟩, ?_⟩
  rw [y2]
  let Pv1 : Nat → L2.St → L2.Hp → Prop := fun i σ H' => Same H H' ∧ (∃ (us : List V) (kp : List Pt), H' ka = some (.lst us) ∧ us.length = kp.length ∧ kp.length ≤ i + 1 ∧ 0 < kp.length ∧ (∀ (j : Nat) v x, us[j]? = some v → kp[j]? = some x → PtAt H v x) ∧ (Chain kp ∧ Bdd kp) ∧ ahead (hs i) (pt kp (kp.length - 1)) (pt ps (i + 1))) ∧ ∃ o1 o2, σ = [some (.ref l), some (.ref ka), o1, o2]
  refine for_range (lo := 1) (n := ((ps.length : Int) - 1 - 1).toNat) Pv1 ⟨g1, ⟨[v0], [pt ps 0], upd_same, rfl, Nat.le_refl _, Nat.one_pos, fun j v x a b => ?_, ⟨fun k hk => ?_, fun k hk => ?_⟩, hW.go 0 (by omega)⟩, none, none, rfl⟩ ?_ ?_
  · cases j with
    | zero => simp at a b; subst a b; exact y3 0 _ _ hv0 (pt_get (by omega))
    | succ j => simp at a
  · simp at hk
  · have : k = 0 := by simpa using hk
    subst this; exact hBd 0 (by omega)
  · rintro i σ H' hi ⟨g, ⟨us, kp, e1, e2, e3, e4, e5, ⟨e6, e6b⟩, e7⟩, o1, o2, rfl⟩
    have hi2 : i + 2 < ps.length := by omega
    have r0 : ∀ j : Nat, j < ps.length → ∃ a, vs[j]? = some (.ref a) ∧ H a = some (.tup [.int (pt ps j).1, .int (pt ps j).2]) := fun j hj => by
      obtain ⟨_, a, z1, _, z3, z4⟩ := hl.pt (i := j) hj
      rw [y1] at z1; cases z1
      exact ⟨a, z3, z4⟩
    refine ⟨_, rfl, _, _, rfl, rfl, _, rfl, _, _, rfl, rfl, _, _, rfl, ⟨by omega, by omega, by omega, by omega⟩, fun D hD => ?_⟩
    refine comp_pure (1 + (i : Int) + 2 - (1 + (i : Int) - 1)).toNat (fun j => .int (pt ps (i + j)).1) hD (by omega) (fun j H2 hj _ => hj) (fun H2 _ => Nat.le_refl _) ?_ ?_
    · rintro j H2 x H3 k hj g6 ⟨rfl, rfl⟩ hk
      obtain ⟨a, z3, z4⟩ := r0 (i + j) (by omega)
      exact ⟨(Fills.refl _).set _ rfl, _, rfl, _, rfl, l, _, _, _, rfl, rfl, SqL.of (g6 _ _ (g _ _ y1)), (by show atI vs (1 + (i : Int) - 1 + (j : Int)) = _; rw [show 1 + (i : Int) - 1 + (j : Int) = ((i + j : Nat) : Int) by omega]; exact atI_nat z3), a, _, _, _, rfl, rfl, SqT.of (g6 _ _ (g _ _ z4)), rfl, hk _ (Same.refl _)⟩
    · intro H2 g2 e8
      rw [show (1 + (i : Int) + 2 - (1 + (i : Int) - 1)).toNat = 3 by omega] at e8
      have e9 : H2 D = some (.lst [.int (pt ps i).1, .int (pt ps (i + 1)).1, .int (pt ps (i + 2)).1]) := e8
      have o1' := (hW.go i (by omega)).up
      have o2' := (hW.go (i + 1) (by omega)).up
      have on := hW.on i hi2
      have l1 := (hW.go i (by omega)).lt
      have l2 := (hW.go (i + 1) (by omega)).lt
      have gH := g.trans g2
      refine ⟨_, rfl, D, _, _, _, rfl, rfl, SqL.of e9, rfl, _, rfl, D, _, _, _, rfl, rfl, SqL.of e9, rfl, rfl, _, rfl, D, _, _, _, rfl, rfl, SqL.of e9, rfl, _, rfl, D, _, _, _, rfl, rfl, SqL.of e9, rfl, rfl, rfl, _, rfl, ?_⟩
      have d1 : decide (V.int (pt ps i).1 = V.int (pt ps (i + 1)).1) = decide (hs i % 2 = 1) := by
        rw [decide_eq_decide]; exact ⟨fun z => o1'.mp (by injection z), fun z => by rw [o1'.mpr z]⟩
      have d2 : decide (V.int (pt ps (i + 1)).1 = V.int (pt ps (i + 2)).1) = decide (hs (i + 1) % 2 = 1) := by
        rw [decide_eq_decide]; exact ⟨fun z => o2'.mp (by injection z), fun z => by rw [o2'.mpr z]⟩
      rw [d1, d2]
      by_cases c : hs i % 2 = hs (i + 1) % 2
      · have e10 : hs (i + 1) = hs i := by omega
        refine iteFb ?_ ⟨gH, ⟨us, kp, g2 _ _ e1, e2, by omega, e4, e5, ⟨e6, e6b⟩, ?_⟩, _, _, rfl⟩
        · rw [c]; simp
        · rw [e10]
          refine e7.trans ?_
          have := hW.go (i + 1) (by omega)
          rw [e10] at this
          exact this
      · obtain ⟨a, z3, z4⟩ := r0 (i + 1) (by omega)
        refine iteTb ?_ ⟨_, rfl, .inl ⟨rfl, _, SqL.of (g2 _ _ e1)⟩, _, rfl, _, rfl, l, _, _, _, rfl, rfl, SqL.of (gH _ _ y1), (by show atI vs (1 + (i : Int)) = _; rw [show 1 + (i : Int) = ((i + 1 : Nat) : Int) by omega]; exact atI_nat z3), ka, _, _, rfl, rfl, g2 _ _ e1, few' (by omega), gH.upd hka, ⟨us ++ [.ref a], kp ++ [pt ps (i + 1)], upd_same, by simp [e2], by simp; omega, by simp, ?_, ⟨e6.app e4 e7.strt, e6b.app (hBd (i + 1) (by omega))⟩, ?_⟩, _, _, rfl⟩
        · simp only [Bool.not_eq_true', decide_eq_false_iff_not, V.bl.injEq]
          rw [decide_eq_decide]; omega
        · intro j v x h1 h2'
          rcases Nat.lt_or_ge j us.length with z | z
          · rw [List.getElem?_append_left z] at h1
            rw [List.getElem?_append_left (by omega)] at h2'
            exact e5 j v x h1 h2'
          · rw [List.getElem?_append_right z] at h1
            rw [List.getElem?_append_right (by omega)] at h2'
            have hj : j - us.length = 0 := by
              have := (List.getElem?_eq_some_iff.mp h1).1
              simp at this; omega
            rw [hj] at h1
            rw [← e2, hj] at h2'
            simp at h1 h2'
            subst h1 h2'
            exact ⟨a, rfl, z4⟩
        · rw [List.length_append, List.length_singleton, Nat.add_sub_cancel, pt_app2]
          exact hW.go (i + 1) (by omega)
  · rintro σ H' ⟨g, ⟨us, kp, e1, e2, e3, e4, e5, ⟨e6, e6b⟩, e7⟩, o1, o2, rfl⟩
    have hn : ((ps.length : Int) - 1 - 1).toNat = ps.length - 2 := by omega
    rw [hn] at e3 e7
    have hvl : ∃ v, vs[ps.length - 1]? = some v ∧ vs.drop (vs.length - 1) = [v] := by
      have hlt : vs.length - 1 < vs.length := by omega
      refine ⟨vs[vs.length - 1], by rw [← y2]; exact List.getElem?_eq_getElem hlt, ?_⟩
      rw [List.drop_eq_getElem_cons hlt, List.drop_of_length_le (by omega)]
    obtain ⟨vl, hvl, htl⟩ := hvl
    refine ⟨_, rfl, _, rfl, _, rfl, _, rfl, l, _, rfl, SqL.of (g _ _ y1), fun sa hsa => ?_⟩
    rw [cut_m1 vs (by omega), htl]
    have g3 := same_new hsa (.lst [vl])
    refine ⟨ka, sa, _, _, rfl, rfl, g3 _ _ e1, upd_same, few (by simp; omega), fun ra hra => ?_⟩
    have gR := (g.trans g3).trans (same_new hra (.lst (us ++ [vl])))
    refine q ra _ (kp ++ [pt ps (ps.length - 1)]) ((g.trans g3).free hra) gR (Lst.app upd_same e2 (fun j v x a b => PtAt.mono gR _ _ (e5 j v x a b)) (PtAt.mono gR _ _ (y3 _ _ _ hvl (pt_get (by omega))))) ⟨by simp; omega, by simp; omega, e6.app e4 ?_⟩ (e6b.app (hBd _ (by omega)))
    rw [show ps.length - 2 + 1 = ps.length - 1 by omega] at e7
    exact e7.strt
end K57

namespace L2
open PySem PySem.Spec PyProof.Rows
theorem inV_nat (x : Nat) (l : List Nat) : inV (vn x) (vns l) = decide (x ∈ l) := by
  unfold inV
  rw [Bool.eq_iff_iff, List.any_eq_true, decide_eq_true_iff]
  constructor
  · rintro ⟨y, hy, h⟩
    obtain ⟨n, hn, rfl⟩ := List.mem_map.mp hy
    have h' : ((n : Int) == (x : Int)) = true := h
    have : n = x := by have := beq_iff_eq.mp h'; omega
    subst this
    exact hn
  · intro h
    exact ⟨vn x, List.mem_map.mpr ⟨x, h, rfl⟩, by show ((x : Int) == (x : Int)) = true; simp⟩
theorem vns_flat (l : List Nat) : (vns l).all flatV = true := by rw [List.all_eq_true]; intro y hy; obtain ⟨n, _, rfl⟩ := List.mem_map.mp hy; rfl
def Go (a b h p q : Nat) : Prop := (h = 0 ∧ p % a + 1 < a ∧ q = p + 1) ∨ (h = 1 ∧ p / a + 1 < b ∧ q = p + a) ∨ (h = 2 ∧ q % a + 1 < a ∧ p = q + 1) ∨ (h = 3 ∧ q / a + 1 < b ∧ p = q + a)
theorem Go.sym {a b h p q : Nat} (s : Go a b h p q) : Go a b ((h + 2) % 4) q p := by
  unfold Go at s ⊢
  rcases s with ⟨rfl, h1, h2⟩ | ⟨rfl, h1, h2⟩ | ⟨rfl, h1, h2⟩ | ⟨rfl, h1, h2⟩
  · exact .inr (.inr (.inl ⟨rfl, h1, h2⟩))
  · exact .inr (.inr (.inr ⟨rfl, h1, h2⟩))
  · exact .inl ⟨rfl, h1, h2⟩
  · exact .inr (.inl ⟨rfl, h1, h2⟩)
def nr (a b p h : Nat) : Option Nat := if h = 0 then (if p % a + 1 < a then some (p + 1) else none) else (if p / a + 1 < b then some (p + a) else none)
def von : Option Nat → V
  | none => .non
  | some q => vn q
theorem div_lt {a b p : Nat} (h : p < a * b) (ha : 0 < a) : p / a < b := (Nat.div_lt_iff_lt_mul ha).mpr (by rw [Nat.mul_comm]; exact h)
theorem nr_st {a b p h q : Nat} (ha : 0 < a) (hh : h < 2) (hp : p < a * b) (e : nr a b p h = some q) : Go a b h p q ∧ q < a * b := by
  unfold nr at e
  have e0 := Nat.div_add_mod p a
  have hd := div_lt hp ha
  split at e
  · rename_i h0
    split at e
    · rename_i h1
      injection e with e
      refine ⟨.inl ⟨h0, h1, e.symm⟩, ?_⟩
      have : a * (p / a) + a ≤ a * b := by rw [← Nat.mul_succ]; exact Nat.mul_le_mul_left a hd
      omega
    · cases e
  · rename_i h0
    split at e
    · rename_i h1
      injection e with e
      refine ⟨.inr (.inl ⟨by omega, h1, e.symm⟩), ?_⟩
      have : a * (p / a) + a + a ≤ a * b := by rw [← Nat.mul_succ, ← Nat.mul_succ]; exact Nat.mul_le_mul_left a h1
      have := Nat.mod_lt p ha
      omega
    · cases e
end L2
namespace K57
open PySem L2 PyProof.Rows
variable {P : Program} {w : World} {K : PySem.W.Frag} {mg : Str → Option Value} {base : Heap} {t : Adr}
def spNearB (vs : List L2.V) (H : L2.Hp) (Q : L2.VK) (s : Addr) (a b p h : Nat) : Prop := vs = [.ref s, vn p, vn h] ∧ H s = some (.tup [vn a, vn b]) ∧ 0 < a ∧ a ≤ 10 ∧ b ≤ 10 ∧ p < a * b ∧ h < 2 ∧ ∀ H', Same H H' → Q (von (nr a b p h)) H'
def spNear : Sp := fun vs H Q _ => ∃ (s : Addr) (a b p h : Nat), spNearB vs H Q s a b p h
theorem ok_near (T : Txt K mg t) : FnOk P w K mg base CX0 1 t.a_l_near t.d_l_near ["_law_size", "_law_point", "_law_head"] spNear := by
  refine T.F_l_near.ok sc_l_near (fun vs H Q E h => ?_) (fun cdv A outer s H vs Q E hr h => ?_)
  · obtain ⟨s, a, b, p, h, rfl, _⟩ := h; rfl
  obtain ⟨s, a, b, p, h, rfl, hs, ha, ha10, hb10, hp, hh, q⟩ := h
  have nd := sc_l_near.nd
  refine ⟨_, (pss_cons (ps_set (i := 3) nd rfl (Or.inl rfl) (pe_op op_add (pe_op op_mod (pv 1) (pe_ix ix_tup (pv 0) pe_int (fun _ _ => rfl))) (pe_ix ix_list (pe_lst (pa_cons pe_int (pa_cons pe_int (pa_cons (pe_un un_neg pe_int) (pa_cons pe_int pa_nil))))) (pv 2) (fun _ _ => rfl))))
    (pss_cons (ps_set (i := 4) nd rfl (Or.inl rfl) (pe_op op_add (pe_op op_fdiv (pv 1) (pe_ix ix_tup (pv 0) pe_int (fun _ _ => rfl))) (pe_ix ix_list (pe_lst (pa_cons pe_int (pa_cons pe_int (pa_cons pe_int (pa_cons (pe_un un_neg pe_int) pa_nil))))) (pv 2) (fun _ _ => rfl))))
    (pss_cons (ps_if (PW.pt (pw_or (pt_cmpR op_lt (pv 3) pe_int (nomark _)) (pw_or (pt_cmpR op_ge (pv 3) (pe_ix ix_tup (pv 0) pe_int (fun _ _ => rfl)) (nomark _)) (pw_or (pt_cmpR op_lt (pv 4) pe_int (nomark _)) (pw_or1 (pt_cmpR op_ge (pv 4) (pe_ix ix_tup (pv 0) pe_int (fun _ _ => rfl)) (nomark _))))))) (pss_one (ps_ret pe_non)) pss_nil)
    (pss_one (ps_ret (pe_op op_add (pv 3) (pe_op op_mul (pe_ix ix_tup (pv 0) pe_int (fun _ _ => rfl)) (pv 4)))))))), ?_⟩
  have hd := div_lt hp ha
  have hm := Nat.mod_lt p ha
  have e0 := Nat.div_add_mod p a
  have c0 : (0 : Int) < (a : Int) := by omega
  refine ⟨_, rfl, _, rfl, s, _, _, _, rfl, rfl, SqT.of hs, rfl, _, _, rfl, rfl, c0, _, rfl, (by show 4 ≤ sizeLine; decide), fun l1 hl1 => ?_⟩
  have g1 := same_new hl1 (.lst [.int 1, .int 0, .int (-1), .int 0])
  have x1 : atI [V.int 1, .int 0, .int (-1), .int 0] (h : Int) = some (.int (if h = 0 then 1 else 0)) := by
    rcases (by omega : h = 0 ∨ h = 1) with rfl | rfl <;> rfl
  have x2 : atI [V.int 0, .int 1, .int 0, .int (-1)] (h : Int) = some (.int (if h = 0 then 0 else 1)) := by
    rcases (by omega : h = 0 ∨ h = 1) with rfl | rfl <;> rfl
  refine ⟨_, rfl, l1, _, _, _, rfl, rfl, SqL.of upd_same, x1, _, _, rfl, rfl, ?_⟩
  refine ⟨_, rfl, _, rfl, s, _, _, _, rfl, rfl, SqT.of (g1 _ _ hs), rfl, _, _, rfl, rfl, ⟨c0, by omega⟩, _, rfl, (by show 4 ≤ sizeLine; decide), fun l2 hl2 => ?_⟩
  have g2 := g1.trans (same_new hl2 (.lst [.int 0, .int 1, .int 0, .int (-1)]))
  have hs2 := g2 _ _ hs
  refine ⟨_, rfl, l2, _, _, _, rfl, rfl, SqL.of upd_same, x2, _, _, rfl, rfl, ?_⟩
  have q' := q _ g2
  have m1 : ((p : Int) % (a : Int)) = ((p % a : Nat) : Int) := by omega
  have m2 : ((p : Int) / (a : Int)) = ((p / a : Nat) : Int) := by omega
  rw [m1, m2]
  have nn : (0 : Int) ≤ ((p / a : Nat) : Int) := Int.natCast_nonneg _
  refine ⟨_, rfl, _, _, rfl, rfl, _, rfl, ?_⟩
  refine iteFb (decide_eq_false (by split <;> omega)) ⟨_, rfl, _, rfl, s, _, _, _, rfl, rfl, SqT.of hs2, rfl, _, _, rfl, rfl, _, rfl, ?_⟩
  unfold nr at q'
  have fin : ∀ {x y : Int} {r : Nat}, x + (a : Int) * y = (r : Int) → Q (vn r) (upd (upd H l1 (.lst [.int 1, .int 0, .int (-1), .int 0])) l2 (.lst [.int 0, .int 1, .int 0, .int (-1)])) → Q (.int (x + (a : Int) * y)) (upd (upd H l1 (.lst [.int 1, .int 0, .int (-1), .int 0])) l2 (.lst [.int 0, .int 1, .int 0, .int (-1)])) := fun {x y r} e z => by rw [e]; exact z
  rcases (by omega : h = 0 ∨ h = 1) with rfl | rfl
  · rw [if_pos rfl] at q' ⊢
    rw [if_pos rfl]
    by_cases c : p % a + 1 < a
    · rw [if_pos c] at q'
      refine iteFb (decide_eq_false (by omega)) ⟨_, rfl, _, _, rfl, rfl, _, rfl, iteFb (decide_eq_false (by omega)) ⟨_, rfl, _, rfl, s, _, _, _, rfl, rfl, SqT.of hs2, rfl, _, _, rfl, rfl, _, rfl, iteFb (decide_eq_false (by omega)) ?_⟩⟩
      refine ⟨_, rfl, _, rfl, s, _, _, _, rfl, rfl, SqT.of hs2, rfl, _, rfl, _, _, rfl, rfl, .inl ⟨by omega, by omega⟩, _, _, rfl, rfl, fin (r := p + 1) ?_ q'⟩
      have : ((a * (p / a) : Nat) : Int) = (a : Int) * ((p / a : Nat) : Int) := Int.natCast_mul _ _
      rw [Int.add_zero, ← this]; omega
    · rw [if_neg c] at q'
      exact iteTb (decide_eq_true (by omega)) (iteT q')
  · rw [if_neg (by decide)] at q' ⊢
    rw [if_neg (by decide)]
    refine iteFb (decide_eq_false (by omega)) ⟨_, rfl, _, _, rfl, rfl, _, rfl, iteFb (decide_eq_false (by omega)) ⟨_, rfl, _, rfl, s, _, _, _, rfl, rfl, SqT.of hs2, rfl, _, _, rfl, rfl, _, rfl, ?_⟩⟩
    by_cases c : p / a + 1 < b
    · rw [if_pos c] at q'
      refine iteFb (decide_eq_false (by omega)) ⟨_, rfl, _, rfl, s, _, _, _, rfl, rfl, SqT.of hs2, rfl, _, rfl, _, _, rfl, rfl, .inl ⟨by omega, by omega⟩, _, _, rfl, rfl, fin (r := p + a) ?_ q'⟩
      have : ((a * (p / a) : Nat) : Int) = (a : Int) * ((p / a : Nat) : Int) := Int.natCast_mul _ _
      rw [Int.mul_add, ← this]; omega
    · rw [if_neg c] at q'
      exact iteTb (decide_eq_true (by omega)) q'
end K57

namespace K57
open PySem L2 PyProof.Rows
variable {P : Program} {w : World} {K : PySem.W.Frag} {mg : Str → Option Value} {base : Heap} {t : Adr}
def spCellB (K : PySem.W.Frag) (vs : List L2.V) (H : L2.Hp) (Q : L2.VK) (a : Addr) (ns : List Int) (k : Int) : Prop := vs = [.ref a, .int k] ∧ SqL K H a (ns.map V.int) ∧ 0 ≤ k ∧ ∀ c : Int, Q (.int c) H
def spCell (K : PySem.W.Frag) : Sp := fun vs H Q _ => ∃ (a : Addr) (ns : List Int) (k : Int), spCellB K vs H Q a ns k
theorem at_int {ns : List Int} {k : Int} (h0 : 0 ≤ k) (h : k < (ns.length : Int)) : ∃ v : Int, atI (ns.map V.int) k = some (.int v) := by
  have hk : k.toNat < ns.length := by omega
  have ek : k = ((k.toNat : Nat) : Int) := by omega
  have q : atI (ns.map V.int) ((k.toNat : Nat) : Int) = some (.int ns[k.toNat]) := atI_nat (by rw [List.getElem?_map, List.getElem?_eq_getElem hk] <;> rfl)
  rw [← ek] at q
  exact ⟨_, q⟩
theorem ok_cell (T : Txt K mg t) : FnOk P w K mg base CX0 1 t.a_l_cell_at t.d_l_cell_at ["_law_script", "_law_k"] (spCell K) := by
  refine T.F_l_cell_at.ok sc_l_cell_at (fun vs H Q E h => ?_) (fun cdv A outer s H vs Q E hr h => ?_)
  · obtain ⟨a, ns, k, rfl, _⟩ := h; rfl
  obtain ⟨a, ns, k, rfl, hS, h0, q⟩ := h
  refine ⟨_, (pss_cons (ps_if (pt_cmpR op_lt (pv 1) (pe_callB call_len_seq rfl T.z_len PySem.boot_len (pa_cons (pv 0) pa_nil)) (nomark _)) (pss_one (ps_ret (pe_ix ix_list (pv 0) (pv 1) (fun _ _ => rfl)))) pss_nil)
    (pss_one (ps_ret pe_int))), ?_⟩
  refine ⟨_, rfl, _, rfl, a, _, rfl, .inl hS, _, _, rfl, rfl, _, rfl, ?_⟩
  refine ite2 (fun c => ?_) (fun c => ?_)
  · have c' : k < (((ns.map V.int).length : Nat) : Int) := of_decide_eq_true c
    rw [List.length_map] at c'
    obtain ⟨v, hv⟩ := at_int h0 c'
    exact ⟨_, rfl, _, rfl, a, _, _, _, rfl, rfl, hS, hv, q v⟩
  · exact q 0

def spMixB (vs : List L2.V) (H : L2.Hp) (Q : L2.VK) (c k : Int) : Prop := vs = [.int c, .int k] ∧ 0 ≤ k ∧ k ≤ 1000 ∧ ∀ m : Int, 0 ≤ m → m < 1000000000 → Q (.int m) H
def spMix : Sp := fun vs H Q _ => ∃ (c k : Int), spMixB vs H Q c k
theorem ok_mix (T : Txt K mg t) : FnOk P w K mg base CX0 1 t.a_l_mix t.d_l_mix ["_law_cell", "_law_k"] spMix := by
  refine T.F_l_mix.ok sc_l_mix (fun vs H Q E h => ?_) (fun cdv A outer s H vs Q E hr h => ?_)
  · obtain ⟨a, k, rfl, _⟩ := h; rfl
  obtain ⟨c, k, rfl, h0, h1, q⟩ := h
  have nd := sc_l_mix.nd
  refine ⟨_, (pss_cons (ps_if (pt_cmpR op_ge (pv 0) (pe_op op_pow pe_int pe_int) (nomark _)) (pss_cons (ps_for PassesOwn.never rfl (pi_range1 rfl T.z_range (pa_cons (pv 1) pa_nil)) (pg_name (i := 2) nd rfl (Or.inl rfl)) (pss_one (ps_set (i := 0) nd rfl (Or.inl rfl) (pe_op op_fdiv (pv 0) (pe_op op_pow pe_int pe_int)))))
    (pss_one (ps_ret (pe_op op_mod (pv 0) (pe_op op_pow pe_int pe_int))))) pss_nil)
    (pss_cons (ps_set (i := 3) nd rfl (Or.inl rfl) (pe_op op_mod (pe_op op_mul (pe_op op_add (pe_op op_add (pe_op op_mod (pv 0) pe_int) (pe_op op_mul (pe_op op_mul (pv 1) (pv 1)) pe_int)) (pv 1)) pe_int) pe_int))
    (pss_cons (ps_set (i := 3) nd rfl (Or.inl rfl) (pe_op op_mod (pe_op op_mul (pv 3) (pv 3)) pe_int))
    (pss_one (ps_ret (pe_op op_fdiv (pe_op op_mod (pe_op op_mul (pv 3) (pe_op op_add (pv 3) pe_int)) pe_int) pe_int)))))), ?_⟩
  have p18 : CPow 10 18 := ⟨by decide, by decide, by decide⟩
  have p6 : CPow 10 6 := ⟨by decide, by decide, by decide⟩
  refine ⟨_, rfl, _, _, rfl, rfl, p18, _, _, rfl, rfl, _, rfl, ?_⟩
  refine ite2 (fun _ => ?_) (fun _ => ?_)
  · let Pv1 : Nat → L2.St → L2.Hp → Prop := fun _ σ H' => H' = H ∧ ∃ (c' : Int) (o : Option V), σ = [some (.int c'), some (.int k), o, none]
    refine ⟨_, rfl, k, rfl, by omega, by omega, for_range (lo := 0) (n := k.toNat) Pv1 ⟨rfl, c, none, rfl⟩ ?_ ?_⟩
    · rintro i σ H' hi ⟨rfl, c', o, rfl⟩
      exact ⟨_, rfl, _, _, rfl, rfl, p6, _, _, rfl, rfl, ⟨by decide, by decide⟩, rfl, _, _, rfl⟩
    · rintro σ H' ⟨rfl, c', o, rfl⟩
      refine ⟨_, rfl, _, _, rfl, rfl, p6, _, _, rfl, rfl, (by show (0 : Int) < 10 ^ 6; decide), q _ (Int.emod_nonneg _ (by decide)) ?_⟩
      exact Int.lt_trans (Int.emod_lt_of_pos _ (by decide)) (by decide)
  · refine ⟨_, rfl, _, _, rfl, rfl, (by show (0 : Int) < 1000003; decide), _, rfl, _, rfl, _, _, rfl, rfl, .inl ⟨by omega, by omega⟩, _, _, rfl, rfl, .inr ⟨by decide, by decide⟩, _, _, rfl, rfl, _, rfl, _, _, rfl, rfl, _, _, rfl, rfl, .inr ⟨by decide, by decide⟩, _, _, rfl, rfl, (by show (0 : Int) < 2147483629; decide), ?_⟩
    have b1 : ∀ x : Int, 0 ≤ x % 2147483629 ∧ x % 2147483629 < 2147483629 := fun x => ⟨Int.emod_nonneg _ (by decide), Int.emod_lt_of_pos _ (by decide)⟩
    have b2 : ∀ x : Int, 0 ≤ x % 2147483587 ∧ x % 2147483587 < 2147483587 := fun x => ⟨Int.emod_nonneg _ (by decide), Int.emod_lt_of_pos _ (by decide)⟩
    have b3 : ∀ x : Int, 0 ≤ x % 2147483579 ∧ x % 2147483579 < 2147483579 := fun x => ⟨Int.emod_nonneg _ (by decide), Int.emod_lt_of_pos _ (by decide)⟩
    generalize hn1 : ((c % 1000003 + k * k * 7919 + k) * 48271 % 2147483629 : Int) = n1
    have r1 := b1 ((c % 1000003 + k * k * 7919 + k) * 48271)
    rw [hn1] at r1
    refine ⟨_, rfl, _, rfl, _, _, rfl, rfl, .inl ⟨by omega, by omega⟩, _, _, rfl, rfl, (by show (0 : Int) < 2147483587; decide), ?_⟩
    have r2 := b2 (n1 * n1)
    generalize n1 * n1 % 2147483587 = n2 at r2 ⊢
    refine ⟨_, rfl, _, rfl, _, _, rfl, rfl, _, _, rfl, rfl, .inl ⟨by omega, by omega⟩, _, _, rfl, rfl, (by show (0 : Int) < 2147483579; decide), _, _, rfl, rfl, ⟨by decide, by decide⟩, ?_⟩
    have r3 := b3 (n2 * (n2 + 2))
    generalize n2 * (n2 + 2) % 2147483579 = n3 at r3 ⊢
    exact q _ (by omega) (by omega)
end K57

namespace L2
open PySem PySem.Spec PyProof.Rows
theorem Go.det {a b h p q r : Nat} (x : Go a b h p q) (y : Go a b h p r) : q = r := by unfold Go at x y; omega
structure Net (a b : Nat) (W : Nat → Nat → Option Nat) : Prop where
  go : ∀ p h q, W p h = some q → h < 4 ∧ p < a * b ∧ q < a * b ∧ Go a b h p q
  sym : ∀ p h q, W p h = some q → W q ((h + 2) % 4) = some p
theorem Go.det' {a b h p q r : Nat} (hh : h < 4) (x : Go a b h p q) (y : Go a b h r q) : p = r := by
  have := x.sym.det y.sym
  exact this
def put1 (W : Nat → Nat → Option Nat) (p h q : Nat) : Nat → Nat → Option Nat := fun x y => if x = p ∧ y = h then some q else W x y
theorem Net.put {a b : Nat} {W : Nat → Nat → Option Nat} (n : Net a b W) {p h q : Nat} (hh : h < 2) (hp : p < a * b) (hq : q < a * b) (g : Go a b h p q) : Net a b (put1 (put1 W p h q) q (h + 2) p) where
  go := by
    intro x y z e
    unfold put1 at e
    split at e
    · rename_i c; injection e with e; subst e
      obtain ⟨rfl, rfl⟩ := c
      have := g.sym
      rw [show (h + 2) % 4 = h + 2 by omega] at this
      exact ⟨by omega, hq, hp, this⟩
    · split at e
      · rename_i c; injection e with e; subst e
        obtain ⟨rfl, rfl⟩ := c
        exact ⟨by omega, hp, hq, g⟩
      · exact n.go x y z e
  sym := by
    intro x y z e
    unfold put1 at e ⊢
    split at e
    · rename_i c; injection e with e; subst e
      obtain ⟨rfl, rfl⟩ := c
      rw [if_neg (by omega), if_pos (by omega)]
    · split at e
      · rename_i c; injection e with e; subst e
        obtain ⟨rfl, rfl⟩ := c
        rw [if_pos (by omega)]
      · rename_i c1 c2
        have o := n.sym x y z e
        obtain ⟨b1, b2, b3, b4⟩ := n.go x y z e
        by_cases d1 : z = q ∧ (y + 2) % 4 = h + 2
        · obtain ⟨rfl, d2⟩ := d1
          have ey : y = h := by omega
          subst ey
          rw [if_pos ⟨rfl, d2⟩, Go.det' b1 b4 g]
        · rw [if_neg d1]
          by_cases d2 : z = p ∧ (y + 2) % 4 = h
          · obtain ⟨rfl, d3⟩ := d2
            rw [if_pos ⟨rfl, d3⟩]
            have := b4.sym
            rw [d3] at this
            rw [this.det g]
          · rw [if_neg d2]; exact o
abbrev kk (p h : Nat) : List Key := [.inl (p : Int), .inl (h : Int)]
def DWs (kvs : List (List Key × V)) (W : Nat → Nat → Option Nat) : Prop := (∀ e ∈ kvs, ∃ p h q : Nat, e = (kk p h, vn q)) ∧ ∀ p h : Nat, valV kvs (kk p h) = (W p h).map vn
theorem kk_inj {p h p' h' : Nat} : kk p h = kk p' h' ↔ p = p' ∧ h = h' := by
  constructor
  · intro e
    injection e with e1 e2
    injection e2 with e2 e3
    injection e1 with e1
    injection e2 with e2
    omega
  · rintro ⟨rfl, rfl⟩; rfl
theorem put_mem {κ : Type} [DecidableEq κ] {kvs : List (κ × V)} {k : κ} {v : V} {e : κ × V} (h : e ∈ putK kvs k v) : e ∈ kvs ∨ e = (k, v) := by
  unfold putK at h
  split at h
  · obtain ⟨x, hx, rfl⟩ := List.mem_map.mp h
    by_cases c : x.1 = k
    · rw [if_pos c, c]; exact .inr rfl
    · rw [if_neg c]; exact .inl hx
  · rcases List.mem_append.mp h with z | z
    · exact .inl z
    · exact .inr (by simpa using z)
theorem put_ne {κ : Type} [DecidableEq κ] (kvs : List (κ × V)) (k : κ) (v : V) : putK kvs k v ≠ [] := by
  intro e
  have := valV_put kvs k k v
  rw [e, if_pos rfl] at this
  cases this
theorem DWs.put {kvs : List (List Key × V)} {W : Nat → Nat → Option Nat} (d : DWs kvs W) (p h q : Nat) : DWs (putK kvs (kk p h) (vn q)) (put1 W p h q) := by
  refine ⟨fun e he => ?_, fun x y => ?_⟩
  · rcases put_mem he with z | z
    · exact d.1 e z
    · exact ⟨p, h, q, z⟩
  · rw [valV_put]
    unfold put1
    by_cases c : x = p ∧ y = h
    · rw [if_pos c, if_pos (kk_inj.mpr c)]; rfl
    · rw [if_neg c, if_neg (fun z => c (kk_inj.mp z))]; exact d.2 x y
theorem DWs.nil : DWs [] (fun _ _ => none) := ⟨fun e he => (by cases he), fun p h => rfl⟩
theorem valV_mem {κ : Type} [DecidableEq κ] {k : κ} {v : V} : ∀ {kvs : List (κ × V)}, valV kvs k = some v → (k, v) ∈ kvs
  | [], e => by cases e
  | p :: r, e => by
    by_cases c : p.1 = k
    · rw [valV_pos c] at e
      injection e with e
      subst e c
      exact List.mem_cons_self
    · rw [valV_neg c] at e
      exact List.mem_cons_of_mem _ (valV_mem e)
theorem valV_of_mem {κ : Type} [DecidableEq κ] {k : κ} {v : V} : ∀ {kvs : List (κ × V)}, (k, v) ∈ kvs → ∃ u, valV kvs k = some u
  | p :: r, e => by
    by_cases c : p.1 = k
    · exact ⟨_, valV_pos c⟩
    · rw [valV_neg c]
      rcases List.mem_cons.mp e with z | z
      · exact absurd (by rw [← z]) c
      · exact valV_of_mem z
structure Cm (W : Nat → Nat → Option Nat) (N : Nat) (come : List Nat) : Prop where
  nd : come.Nodup
  lt : ∀ p ∈ come, p < N
  ne : 0 < come.length
  out : ∀ p ∈ come, ∃ h q, W p h = some q
structure Come (W : Nat → Nat → Option Nat) (N : Nat) (come : List Nat) : Prop extends Cm W N come where
  cl : ∀ p h q, W p h = some q → p ∈ come
theorem Cm.few {W : Nat → Nat → Option Nat} {N : Nat} {come : List Nat} (c : Cm W N come) : come.length ≤ N := MM.nodup_bound N come c.nd c.lt
theorem getD_mem {l : List Nat} {i : Nat} (h : i < l.length) : l.getD i 0 ∈ l := by simp [List.getD, h]
theorem getD_app {l m : List Nat} {i : Nat} (h : i < l.length) : (l ++ m).getD i 0 = l.getD i 0 := by simp only [List.getD, List.getElem?_append_left h]
theorem mem_getD {l : List Nat} {x : Nat} (h : x ∈ l) : ∃ i, i < l.length ∧ l.getD i 0 = x := by
  obtain ⟨i, hi, rfl⟩ := List.getElem_of_mem h
  exact ⟨i, hi, by simp [List.getD, hi]⟩
theorem perm_nats {ns : List Int} {l : List Nat} (p : ns.Perm (l.map fun n : Nat => (n : Int))) : ∃ cm : List Nat, ns = (cm.map fun n : Nat => (n : Int)) ∧ cm.Perm l := by
  refine ⟨ns.map Int.toNat, ?_, ?_⟩
  · rw [List.map_map]
    have : ∀ x ∈ ns, x = ((fun n : Nat => (n : Int)) ∘ Int.toNat) x := fun x hx => by
      obtain ⟨n, _, rfl⟩ := List.mem_map.mp (p.mem_iff.mp hx)
      simp
    have e := List.map_congr_left (f := fun x : Int => x) this
    rw [List.map_id'] at e
    exact e
  · have := p.map Int.toNat
    rw [List.map_map] at this
    have e : l.map (Int.toNat ∘ fun n : Nat => (n : Int)) = l := by
      have h : ∀ x ∈ l, (Int.toNat ∘ fun n : Nat => (n : Int)) x = (fun x : Nat => x) x := fun x _ => by simp
      rw [List.map_congr_left h, List.map_id']
    rw [e] at this
    exact this
theorem Come.perm {W : Nat → Nat → Option Nat} {N : Nat} {l cm : List Nat} (c : Come W N l) (p : cm.Perm l) : Come W N cm :=
  ⟨⟨p.nodup_iff.mpr c.nd, fun x hx => c.lt x (p.mem_iff.mp hx), by rw [p.length_eq]; exact c.ne, fun x hx => c.out x (p.mem_iff.mp hx)⟩, fun x h q e => p.mem_iff.mpr (c.cl x h q e)⟩
theorem vns_app2 (l : List Nat) (x : Nat) : vns l ++ [vn x] = vns (l ++ [x]) := by unfold vns; rw [List.map_append]; rfl
theorem kept_net {a b : Nat} {W : Nat → Nat → Option Nat} {come : List Nat} (n : Net a b W) (c : Cm W (a * b) come) (cl : ∀ p ∈ come, ∀ h q, W p h = some q → q ∈ come) :
    Net a b (fun p h => if p ∈ come then W p h else none) ∧ Come (fun p h => if p ∈ come then W p h else none) (a * b) come := by
  refine ⟨⟨fun p h q e => ?_, fun p h q e => ?_⟩, ⟨⟨c.nd, c.lt, c.ne, fun p hp => ?_⟩, fun p h q e => ?_⟩⟩
  · split at e
    · exact n.go p h q e
    · cases e
  · split at e
    · rename_i hp
      rw [if_pos (cl p hp h q e)]; exact n.sym p h q e
    · cases e
  · obtain ⟨h, q, e⟩ := c.out p hp
    exact ⟨h, q, by rw [if_pos hp]; exact e⟩
  · split at e
    · assumption
    · cases e
end L2

namespace K57
open PySem L2 PyProof.Rows
variable {P : Program} {w : World} {K : PySem.W.Frag} {mg : Str → Option Value} {base : Heap} {t : Adr}
def spWaysB (K : PySem.W.Frag) (vs : List L2.V) (H : L2.Hp) (Q : L2.VK) (sa za : Addr) (ns : List Int) (a b : Nat) : Prop := vs = [.ref sa, .ref za] ∧ SqL K H sa (ns.map V.int) ∧ H za = some (.tup [vn a, vn b]) ∧ 0 < a ∧ 0 < b ∧ a ≤ 10 ∧ b ≤ 10 ∧ a * b ≤ 10 ∧ (1 < a ∨ 1 < b) ∧
  ∀ r ka ca H' kvs come W, Same H H' → H' r = some (.tup [.ref ka, .ref ca]) → H' ka = some (.dT kvs) → H' ca = some (.lst (vns come)) → DWs kvs W → Net a b W → Come W (a * b) come → Q (.ref r) H'
def spWays (K : PySem.W.Frag) : Sp := fun vs H Q _ => ∃ (sa za : Addr) (ns : List Int) (a b : Nat), spWaysB K vs H Q sa za ns a b
theorem ok_ways (T : Txt K mg t) : FnOk P w K mg base CX0 2 t.a_l_ways t.d_l_ways ["_law_script", "_law_size"] (spWays K) := by
  have G_l_near := ok_near (P := P) (w := w) (base := base) T
  have G_l_mix := ok_mix (P := P) (w := w) (base := base) T
  have G_l_cell_at := ok_cell (P := P) (w := w) (base := base) T
  refine T.F_l_ways.ok sc_l_ways (fun vs H Q E h => ?_) (fun cdv A outer s H vs Q E hr h => ?_)
  · obtain ⟨sa, za, ns, a, b, rfl, _⟩ := h; rfl
  obtain ⟨sa, za, ns, a, b, rfl, hS, hz, ha, hb, ha10, hb10, hab, h1, q⟩ := h
  have nd := sc_l_ways.nd
  have hu := hu_of hr
  refine ⟨_, (pss_cons (ps_set (i := 2) nd rfl (Or.inl rfl) pe_dnewT)
    (pss_cons (ps_for PassesOwn.never rfl (pi_range1 rfl T.z_range (pa_cons (pe_op op_mul (pe_op op_mul pe_int (pe_ix ix_tup (pv 1) pe_int (fun _ _ => rfl))) (pe_ix ix_tup (pv 1) pe_int (fun _ _ => rfl))) pa_nil)) (pg_name (i := 3) nd rfl (Or.inl rfl)) (pss_cons (ps_set (i := 4) nd rfl (Or.inl rfl) (pe_call G_l_near (hr.mono (by decide)) rfl T.m_l_near T.k_l_near T.b_l_near .nil pass0 (pa_cons (pv 1) (pa_cons (pe_op op_fdiv (pv 3) pe_int) (pa_cons (pe_op op_mod (pv 3) pe_int) pa_nil)))))
    (pss_cons (ps_set (i := 5) nd rfl (Or.inl rfl) (pe_call G_l_mix (hr.mono (by decide)) rfl T.m_l_mix T.k_l_mix T.b_l_mix .nil pass0 (pa_cons (pe_call G_l_cell_at (hr.mono (by decide)) rfl T.m_l_cell_at T.k_l_cell_at T.b_l_cell_at .nil pass0 (pa_cons (pv 0) (pa_cons (pe_op op_add pe_int (pe_op op_mod (pv 3) pe_int)) pa_nil))) (pa_cons (pe_op op_add pe_int (pv 3)) pa_nil))))
    (pss_one (ps_if (PW.pt (pw_and (pt_cmpR op_notN (pv 4) pe_non (nomark _)) (pw_and1 (PW.pt (pw_or (pt_cmpR op_gt (pe_op op_mod (pv 5) pe_int) pe_int (nomark _)) (pw_or1 (pt_cmpR (op_eqE hr.units0) (pv 2) pe_dnewT (nomark _)))))))) (pss_cons (ps_dput hu (pv 2) (pe_tup (pa_cons (pe_op op_fdiv (pv 3) pe_int) (pa_cons (pe_op op_mod (pv 3) pe_int) pa_nil))) (pv 4) rfl)
    (pss_one (ps_dput hu (pv 2) (pe_tup (pa_cons (pv 4) (pa_cons (pe_op op_add (pe_op op_mod (pv 3) pe_int) pe_int) pa_nil))) (pe_op op_fdiv (pv 3) pe_int) rfl))) pss_nil)))))
    (pss_cons (ps_set (i := 6) nd rfl (Or.inl rfl) (pe_lst (pa_cons (pe_ix ix_seq (pe_callB (call_minT rfl (in1u hr)) rfl T.z_min boot_min (pa_cons (pv 2) pa_nil)) pe_int (fun _ _ => rfl)) pa_nil)))
    (pss_cons (ps_set (i := 7) nd rfl (Or.inl rfl) pe_int)
    (pss_cons (ps_while PassesOwn.never (pt_cmpR op_lt (pv 7) (pe_callB call_len_seq rfl T.z_len PySem.boot_len (pa_cons (pv 6) pa_nil)) (nomark _)) (pss_cons (ps_for PassesOwn.never rfl (pi_range1 rfl T.z_range (pa_cons pe_int pa_nil)) (pg_name (i := 8) nd rfl (Or.inl rfl)) (pss_one (ps_if (pt_cmpR op_notIn_seq (pe_dget2 hu (pv 2) (pe_tup (pa_cons (pe_ix ix_list (pv 6) (pv 7) (fun _ _ => rfl)) (pa_cons (pv 8) pa_nil))) (pe_ix ix_list (pv 6) pe_int (fun _ _ => rfl)) ⟨rfl, rfl, rfl, rfl⟩) (pv 6) rfl) (pss_one (ps_expr (pe_bm PySem.F.plainAttrs_list PySem.F.slot_list_append PySem.F.type_list_append mt_append (pv 6) (pa_cons (pe_dget hu (pv 2) (pe_tup (pa_cons (pe_ix ix_list (pv 6) (pv 7) (fun _ _ => rfl)) (pa_cons (pv 8) pa_nil))) (fun _ _ => rfl)) pa_nil)))) pss_nil)))
    (pss_one (ps_set (i := 7) nd rfl (Or.inl rfl) (pe_op op_add (pv 7) pe_int)))))
    (pss_cons (ps_set (i := 9) nd rfl (Or.inl rfl) pe_dnewT)
    (pss_cons (ps_for PassesOwn.never rfl (pi_keys (pv 2)) (pg_name (i := 10) nd rfl (Or.inl rfl)) (pss_one (ps_if (pt_cmpR op_in_seq (pe_ix ix_tup (pv 10) pe_int (fun _ _ => rfl)) (pv 6) rfl) (pss_one (ps_dput hu (pv 9) (pv 10) (pe_dget hu (pv 2) (pv 10) (fun _ _ => rfl)) rfl)) pss_nil)))
    (pss_one (ps_ret (pe_tup (pa_cons (pv 9) (pa_cons (pe_callB call_sortedI rfl T.z_sorted boot_sorted (pa_cons (pv 6) pa_nil)) pa_nil)))))))))))), ?_⟩
  refine fun fd hfd => ?_
  have g1 := same_new hfd (.dT [])
  have eN : ((2 : Int) * (a : Int) * (b : Int)).toNat = 2 * (a * b) := by
    rw [Int.mul_assoc, ← Int.natCast_mul]; omega
  have eI : (2 : Int) * (a : Int) * (b : Int) = 2 * ((a * b : Nat) : Int) := by rw [Int.mul_assoc, ← Int.natCast_mul]
  refine ⟨_, rfl, za, _, _, _, rfl, rfl, SqT.of (g1 _ _ hz), rfl, _, _, rfl, rfl, .inl ⟨by decide, by decide⟩, _, rfl, za, _, _, _, rfl, rfl, SqT.of (g1 _ _ hz), rfl, _, _, rfl, rfl, .inr ⟨by omega, by omega⟩, _, rfl, by omega, by omega, ?_⟩
  let Pv1 : Nat → L2.St → L2.Hp → Prop := fun i σ H' => Same H H' ∧ (∃ kvs W, H' fd = some (.dT kvs) ∧ DWs kvs W ∧ Net a b W ∧ kvs.length ≤ 2 * i ∧ (kvs = [] → ∀ j, j < i → nr a b (j / 2) (j % 2) = none)) ∧ ∃ o1 o2 o3, σ = [some (.ref sa), some (.ref za), some (.ref fd), o1, o2, o3, none, none, none, none, none]
  refine for_range (lo := 0) (n := ((2 : Int) * (a : Int) * (b : Int)).toNat) Pv1 ⟨g1, ⟨[], fun _ _ => none, upd_same, DWs.nil, ⟨fun p h q e => (by cases e), fun p h q e => (by cases e)⟩, Nat.zero_le _, fun _ j hj => by omega⟩, none, none, none, rfl⟩ ?_ ?_
  · rintro i σ H' hi ⟨g, ⟨kvs, W, e1, e2, e3, e4, e5⟩, o1, o2, o3, rfl⟩
    rw [eN] at hi
    have hp : i / 2 < a * b := by omega
    have ei : (0 : Int) + (i : Int) = (i : Int) := by omega
    rw [ei]
    refine ⟨_, rfl, _, rfl, _, _, rfl, rfl, ⟨by decide, by decide⟩, _, rfl, _, _, rfl, rfl, (by show (0 : Int) < 2; decide), za, a, b, i / 2, i % 2, ?_, g _ _ hz, ha, ha10, hb10, hp, by omega, fun H2 g2 => ?_⟩
    · show [V.ref za, V.int ((i : Int) / 2), V.int ((i : Int) % 2)] = _
      rw [show (i : Int) / 2 = ((i / 2 : Nat) : Int) by omega, show (i : Int) % 2 = ((i % 2 : Nat) : Int) by omega]
    have gH := g.trans g2
    refine ⟨_, rfl, _, rfl, _, _, rfl, rfl, (by show (0 : Int) < 6; decide), _, _, rfl, rfl, sa, ns, _, rfl, gH.seq hS, by omega, fun c => ?_⟩
    refine ⟨_, rfl, _, _, rfl, rfl, c, _, rfl, by omega, by omega, fun m hm0 hm1 => ?_⟩
    have rest : ∀ H3, Same H H3 → H3 fd = some (.dT kvs) → nr a b (i / 2) (i % 2) = none → ∃ kvs W, H3 fd = some (.dT kvs) ∧ DWs kvs W ∧ Net a b W ∧ kvs.length ≤ 2 * (i + 1) ∧ (kvs = [] → ∀ j, j < i + 1 → nr a b (j / 2) (j % 2) = none) := fun H3 _ f3 c0 => ⟨kvs, W, f3, e2, e3, by omega, fun z j hj => by
      rcases Nat.lt_or_ge j i with y | y
      · exact e5 z j y
      · rw [show j = i by omega]; exact c0⟩
    have rest2 : ∀ H3, Same H H3 → H3 fd = some (.dT kvs) → kvs ≠ [] → ∃ kvs W, H3 fd = some (.dT kvs) ∧ DWs kvs W ∧ Net a b W ∧ kvs.length ≤ 2 * (i + 1) ∧ (kvs = [] → ∀ j, j < i + 1 → nr a b (j / 2) (j % 2) = none) := fun H3 _ f3 c0 => ⟨kvs, W, f3, e2, e3, by omega, fun z => absurd z c0⟩
    have c1 : (i : Int) / 2 = ((i / 2 : Nat) : Int) := by omega
    have c2 : (i : Int) % 2 = ((i % 2 : Nat) : Int) := by omega
    cases ec : nr a b (i / 2) (i % 2) with
    | none =>
      refine ⟨_, rfl, rfl, _, rfl, iteFb (by rfl) (iteF ⟨gH, rest H2 gH (g2 _ _ e1) ec, _, _, _, rfl⟩)⟩
    | some qq =>
      obtain ⟨gq, hq⟩ := nr_st ha (by omega) hp ec
      have dput : DWs (putK (putK kvs (kk (i / 2) (i % 2)) (vn qq)) (kk qq (i % 2 + 2)) (.int ((i : Int) / 2))) (put1 (put1 W (i / 2) (i % 2) qq) qq (i % 2 + 2) (i / 2)) := by rw [c1]; exact (e2.put _ _ _).put _ _ _
      have tk : ∀ {H3 : Hp} {T : Addr} {x y : Int} {p h : Nat}, H3 T = none → x = (p : Int) → y = (h : Int) → upd H3 T (.tup [.int x, .int y]) T = some (.tup ((kk p h).map kV)) := fun {H3 T x y p h} _ e1 e2 => by rw [upd_same, e1, e2]; rfl
      refine ⟨_, rfl, rfl, _, rfl, iteTb (by rfl) ⟨_, rfl, _, _, rfl, rfl, (by show (0 : Int) < 4; decide), _, _, rfl, rfl, _, rfl, ite2 (fun _ => iteT ?_) fun _ => ?_⟩⟩
      · refine ⟨_, rfl, _, rfl, _, rfl, _, _, rfl, rfl, ⟨by decide, by decide⟩, _, rfl, _, _, rfl, rfl, (by show (0 : Int) < 2; decide), (by show 2 ≤ sizeLine; decide), fun T1 hT1 => ⟨fd, _, rfl, DPut.t (k := kk (i / 2) (i % 2)) (same_new hT1 _ _ _ (g2 _ _ e1)) (tk hT1 c1 c2) (few' (by omega)), ?_⟩⟩
        refine ⟨_, rfl, _, _, rfl, rfl, ⟨by decide, by decide⟩, _, rfl, _, rfl, _, rfl, _, _, rfl, rfl, (by show (0 : Int) < 2; decide), _, _, rfl, rfl, (by show 2 ≤ sizeLine; decide), fun T2 hT2 => ⟨fd, _, rfl, DPut.t (k := kk qq (i % 2 + 2)) (same_new hT2 _ _ _ upd_same) (tk hT2 rfl (by omega)) (few' (Nat.lt_of_le_of_lt (length_putK _ _ _) (by omega))), ?_⟩⟩
        refine ⟨((((gH).trans (same_new hT1 _)).upd hfd).trans (same_new hT2 _)).upd hfd, ⟨_, _, upd_same, dput, e3.put (by omega) hp hq gq, Nat.le_trans (length_putK _ _ _) (by have := length_putK kvs (kk (i / 2) (i % 2)) (von (some qq)); omega), fun z => absurd z (put_ne _ _ _)⟩, _, _, _, rfl⟩
      · refine ⟨_, rfl, fun em hem => ⟨fd, em, kvs, rfl, rfl, .inl (same_new hem _ _ _ (g2 _ _ e1)), .inl upd_same, _, rfl, ite2 (fun c => ?_) fun c => ?_⟩⟩
        · refine ⟨_, rfl, _, rfl, _, rfl, _, _, rfl, rfl, ⟨by decide, by decide⟩, _, rfl, _, _, rfl, rfl, (by show (0 : Int) < 2; decide), (by show 2 ≤ sizeLine; decide), fun T1 hT1 => ⟨fd, _, rfl, DPut.t (k := kk (i / 2) (i % 2)) (same_new hT1 _ _ _ (same_new hem _ _ _ (g2 _ _ e1))) (tk hT1 c1 c2) (few' (by omega)), ?_⟩⟩
          refine ⟨_, rfl, _, _, rfl, rfl, ⟨by decide, by decide⟩, _, rfl, _, rfl, _, rfl, _, _, rfl, rfl, (by show (0 : Int) < 2; decide), _, _, rfl, rfl, (by show 2 ≤ sizeLine; decide), fun T2 hT2 => ⟨fd, _, rfl, DPut.t (k := kk qq (i % 2 + 2)) (same_new hT2 _ _ _ upd_same) (tk hT2 rfl (by omega)) (few' (Nat.lt_of_le_of_lt (length_putK _ _ _) (by omega))), ?_⟩⟩
          refine ⟨((((gH.trans (same_new hem _)).trans (same_new hT1 _)).upd hfd).trans (same_new hT2 _)).upd hfd, ⟨_, _, upd_same, dput, e3.put (by omega) hp hq gq, Nat.le_trans (length_putK _ _ _) (by have := length_putK kvs (kk (i / 2) (i % 2)) (von (some qq)); omega), fun z => absurd z (put_ne _ _ _)⟩, _, _, _, rfl⟩
        · refine ⟨gH.trans (same_new hem _), rest2 _ (gH.trans (same_new hem _)) (same_new hem _ _ _ (g2 _ _ e1)) (fun z => c (by rw [z]; rfl)), _, _, _, rfl⟩
  · rintro σ H' ⟨g, ⟨kvs, W, e1, e2, e3, e4, e5⟩, o1, o2, o3, rfl⟩
    rw [eN] at e4 e5
    have hne : 0 < kvs.length := by
      cases kvs with
      | cons x r => simp
      | nil =>
        have hab1 : 0 < a * b := Nat.mul_pos ha hb
        have z0 := e5 rfl 0 (by omega)
        have z1 := e5 rfl 1 (by omega)
        unfold nr at z0 z1
        simp only [Nat.zero_div, Nat.zero_mod, if_true] at z0
        simp only [show (1 : Nat) / 2 = 0 by decide, show (1 : Nat) % 2 = 1 by decide, Nat.zero_div, if_false, show ¬ ((1 : Nat) = 0) by decide] at z1
        rcases h1 with h1 | h1
        · rw [if_pos (by omega)] at z0; cases z0
        · rw [if_pos (by omega)] at z1; cases z1
    refine ⟨_, rfl, fd, kvs, rfl, e1, hne, fun p hp => ?_, fun pp bb hp hbb => ?_⟩
    · obtain ⟨x, y, z, rfl⟩ := e2.1 p hp
      exact ⟨[(x : Int), (y : Int)], rfl⟩
    obtain ⟨p0, h0, q0, rfl⟩ := e2.1 pp hp
    have w0 : ∃ h q, W p0 h = some q := by
      obtain ⟨u, hu'⟩ := valV_of_mem hp
      rw [e2.2] at hu'
      obtain ⟨x, hx, _⟩ := Option.map_eq_some_iff.mp hu'
      exact ⟨h0, x, hx⟩
    refine .inr (.inl ⟨bb, _, _, _, rfl, rfl, SqT.of hbb, rfl, (by show 1 ≤ sizeLine; decide), fun ca hca => ?_⟩)
    have hca' : H ca = none := g.free hca
    have g2 := same_new hca (.lst [vn p0])
    obtain ⟨h', q', w1⟩ := id w0
    let Wv1 : Nat → L2.St → L2.Hp → Prop := fun k σ H4 => ∃ (at' : Nat) (come : List Nat), k = a * b - at' ∧ at' ≤ come.length ∧ Same H' H4 ∧ H4 ca = some (.lst (vns come)) ∧ Cm W (a * b) come ∧ (∀ i, i < at' → ∀ h q, W (come.getD i 0) h = some q → q ∈ come) ∧ ∃ o1 o2 o3 o4, σ = [some (.ref sa), some (.ref za), some (.ref fd), o1, o2, o3, some (.ref ca), some (vn at'), o4, none, none]
    refine ⟨Wv1,
      ⟨_, 0, [p0], rfl, Nat.zero_le _, g2, upd_same, ⟨by simp, fun p hp => ?_, Nat.one_pos, fun p hp => ?_⟩, fun i hi => by omega, _, _, _, _, rfl⟩, ?_⟩
    · rw [List.mem_singleton.mp hp]; exact (e3.go _ _ _ w1).2.1
    · rw [List.mem_singleton.mp hp]; exact w0
    rintro k σ H4 ⟨at', come, rfl, hat, g4, f4, c4, cl4, o1, o2, o3, o4, rfl⟩
    have hfew := c4.few
    refine ⟨_, rfl, _, rfl, ca, _, rfl, .inl (SqL.of f4), _, _, rfl, rfl, _, rfl, ?_⟩
    have hlv : ((vns come).length : Nat) = come.length := by simp
    by_cases hc : at' < come.length
    · refine iteTb (decide_eq_true (by rw [hlv]; omega)) ⟨_, fun σ' H' h => h, ?_⟩
      have p4 := getD_mem hc
      let Pv2 : Nat → L2.St → L2.Hp → Prop := fun i σ H5 => Same H' H5 ∧ (∃ ex, H5 ca = some (.lst (vns (come ++ ex))) ∧ Cm W (a * b) (come ++ ex) ∧ ∀ h q, h < i → W (come.getD at' 0) h = some q → q ∈ come ++ ex) ∧ ∃ o4, σ = [some (.ref sa), some (.ref za), some (.ref fd), o1, o2, o3, some (.ref ca), some (vn at'), o4, none, none]
      refine ⟨4, rfl, by decide, by decide, for_range (lo := 0) (n := 4) Pv2 ⟨g4, ⟨[], by rw [List.append_nil]; exact f4, by rw [List.append_nil]; exact c4, fun h q z => by omega⟩, _, rfl⟩ ?_ ?_⟩
      · rintro i σ H5 hi ⟨g5, ⟨ex, f5, c5, cl5⟩, o4, rfl⟩
        rw [show (0 : Int) + (i : Int) = (i : Int) by omega]
        have hd5 := g5 _ _ e1
        have ix : atI (vns (come ++ ex)) (at' : Int) = some (vn (come.getD at' 0)) := by rw [at_vns (j := at') (by simp; omega) rfl, getD_app hc]
        have i0 : atI (vns (come ++ ex)) ((0 : Nat) : Int) = some (vn (come.getD 0 0)) := by rw [at_vns (j := 0) (by rw [List.length_append]; omega) rfl, getD_app (by omega)]
        have m0 : come.getD 0 0 ∈ come ++ ex := List.mem_append_left _ (getD_mem (by omega))
        refine ⟨_, rfl, fd, rfl, .inr ⟨kvs, .inl hd5⟩, _, rfl, _, rfl, ca, _, _, _, rfl, rfl, SqL.of f5, ix, _, rfl, (by show 2 ≤ sizeLine; decide), fun T1 hT1 => ?_⟩
        have g6 := same_new hT1 (.tup [vn (come.getD at' 0), vn i])
        refine ⟨_, rfl, ca, _, _, _, rfl, rfl, SqL.of (g6 _ _ f5), i0, _, DGet.t (k := kk (come.getD at' 0) i) (g6 _ _ hd5) upd_same, ?_⟩
        rw [e2.2]
        have hl5 := c5.few
        cases ew : W (come.getD at' 0) i with
        | none =>
          refine ⟨_, rfl, ca, _, rfl, .inl (SqL.of (g6 _ _ f5)), rfl, vns_flat _, _, rfl, iteFb ?_ ⟨g5.trans g6, ⟨ex, g6 _ _ f5, c5, fun h q hh hq => ?_⟩, _, rfl⟩⟩
          · show (!inV (vn (come.getD 0 0)) (vns (come ++ ex))) = false
            rw [inV_nat, decide_eq_true m0]; rfl
          · rcases Nat.lt_or_ge h i with z | z
            · exact cl5 h q z hq
            · rw [show h = i by omega, ew] at hq; cases hq
        | some qq =>
          refine ⟨_, rfl, ca, _, rfl, .inl (SqL.of (g6 _ _ f5)), rfl, vns_flat _, _, rfl, ?_⟩
          show if (!inV (vn qq) (vns (come ++ ex))) = true then _ else _
          rw [inV_nat]
          by_cases hm : qq ∈ come ++ ex
          · refine iteFb (by rw [decide_eq_true hm]; rfl) ⟨g5.trans g6, ⟨ex, g6 _ _ f5, c5, fun h q hh hq => ?_⟩, _, rfl⟩
            rcases Nat.lt_or_ge h i with z | z
            · exact cl5 h q z hq
            · rw [show h = i by omega, ew] at hq; cases hq; exact hm
          · refine iteTb (by rw [decide_eq_false hm]; rfl) ⟨_, rfl, .inl ⟨rfl, _, SqL.of (g6 _ _ f5)⟩, _, rfl, _, rfl, _, rfl, ca, _, _, _, rfl, rfl, SqL.of (g6 _ _ f5), ix, _, rfl, (by show 2 ≤ sizeLine; decide), fun T2 hT2 => ?_⟩
            have g7 := g6.trans (same_new hT2 (.tup [vn (come.getD at' 0), vn i]))
            refine ⟨fd, vn qq, rfl, ?_, ca, _, _, rfl, rfl, g7 _ _ f5, few' (by simp at hl5 ⊢; omega), (g5.trans g7).upd hca, ⟨ex ++ [qq], ?_, ?_, fun h q hh hq => ?_⟩, _, rfl⟩
            · have dg := DGet.t (k := kk (come.getD at' 0) i) (g7 _ _ hd5) (upd_same (H := upd H5 T1 (.tup [vn (come.getD at' 0), vn i])) (a := T2) (o := .tup [vn (come.getD at' 0), vn i]))
              rw [e2.2, ew] at dg
              exact dg
            · rw [upd_same, ← List.append_assoc, vns_app2]
            · rw [← List.append_assoc]
              obtain ⟨b1, b2, b3, b4⟩ := e3.go _ _ _ ew
              refine ⟨?_, fun p hp => ?_, by simp; omega, fun p hp => ?_⟩
              · rw [List.nodup_append]
                exact ⟨c5.nd, by simp, fun x hx y hy z => by rw [List.mem_singleton.mp hy] at z; subst z; exact hm hx⟩
              · rcases List.mem_append.mp hp with z | z
                · exact c5.lt p z
                · rw [List.mem_singleton.mp z]; exact b3
              · rcases List.mem_append.mp hp with z | z
                · exact c5.out p z
                · rw [List.mem_singleton.mp z]; exact ⟨_, _, e3.sym _ _ _ ew⟩
            · rw [← List.append_assoc]
              rcases Nat.lt_or_ge h i with z | z
              · exact List.mem_append_left _ (cl5 h q z hq)
              · rw [show h = i by omega, ew] at hq; cases hq; exact List.mem_append_right _ (by simp)
      · rintro σ H5 ⟨g5, ⟨ex, f5, c5, cl5⟩, o4, rfl⟩
        have hl5 := c5.few
        simp only [List.length_append] at hl5
        refine ⟨_, rfl, _, _, rfl, rfl, a * b - (at' + 1), by omega, at' + 1, come ++ ex, rfl, by simp; omega, g5, f5, c5, fun i hi h q hq => ?_, _, _, _, _, rfl⟩
        rw [getD_app (by omega)] at hq
        rcases Nat.lt_or_ge i at' with z | z
        · exact List.mem_append_left _ (cl4 i z h q hq)
        · rw [show i = at' by omega] at hq
          exact cl5 h q (e3.go _ _ _ hq).1 hq
    · refine iteFb (decide_eq_false (by rw [hlv]; omega)) ?_
      have cl : ∀ p ∈ come, ∀ h q, W p h = some q → q ∈ come := fun p hp h q hq => by
        obtain ⟨i, hi, rfl⟩ := mem_getD hp
        exact cl4 i (by omega) h q hq
      obtain ⟨nk, ck⟩ := kept_net e3 c4 cl
      refine fun kd hkd => ?_
      have g5 := same_new hkd (.dT [])
      have hd5 := g5 _ _ (g4 _ _ e1)
      have nkf : kd ≠ fd := fun z => by subst z; rw [g4 _ _ e1] at hkd; cases hkd
      refine ⟨_, rfl, fd, kvs, rfl, hd5, fun ob => ?_⟩
      have fz : ∀ b o, b ≠ fd → H4 b = some o → upd (upd H4 kd (.dT [])) fd (.frz ob (.dT kvs)) b = some o := fun b o hb e => by rw [upd_ne hb]; exact g5 _ _ e
      refine for_keys (d := fd) (o := ob) (kvs := kvs) (fun i σ H6 => (∀ b o, b ≠ fd → H4 b = some o → H6 b = some o) ∧ H6 fd = some (.frz ob (.dT kvs)) ∧ (∃ ks, H6 kd = some (.dT ks) ∧ ks.length ≤ i ∧ (∀ e ∈ ks, ∃ p h q : Nat, e = (kk p h, vn q)) ∧ (∀ (p h : Nat) v, valV ks (kk p h) = some v → p ∈ come ∧ valV kvs (kk p h) = some v) ∧ (∀ j, j < i → ∀ (p h : Nat) v, kvs[j]? = some (kk p h, v) → p ∈ come → valV ks (kk p h) = valV kvs (kk p h))) ∧ ∃ o4 o5, σ = [some (.ref sa), some (.ref za), some (.ref fd), o1, o2, o3, some (.ref ca), some (vn at'), o4, some (.ref kd), o5]) ⟨fz, upd_same, ⟨[], by rw [upd_ne nkf]; exact upd_same, Nat.zero_le _, fun e he => (by cases he), fun p h v e => (by cases e), fun j hj => by omega⟩, _, _, rfl⟩ (fun i σ H6 _ h => h.2.1) ?_ ?_
      · rintro i e σ H6 T1 hi ⟨k6, f6, ⟨ks, d6, l6, s6, a6, b6⟩, o4, o5, rfl⟩ hT1
        obtain ⟨p1, h1', q1, rfl⟩ := e2.1 e (List.mem_of_getElem? hi)
        have hlt : i < kvs.length := (List.getElem?_eq_some_iff.mp hi).1
        have nca : ca ≠ fd := fun z => by subst z; rw [g4 _ _ e1] at f4; cases f4
        have f6c := k6 ca _ nca f4
        refine ⟨_, rfl, T1, _, _, _, rfl, rfl, SqT.of hT1, rfl, _, rfl, ca, _, rfl, .inl (SqL.of f6c), rfl, vns_flat _, _, rfl, ?_⟩
        show if inV (vn p1) (vns come) = true then _ else _
        rw [inV_nat]
        obtain ⟨u1, hu1⟩ := valV_of_mem (List.mem_of_getElem? hi)
        have hu2 := hu1
        rw [e2.2] at hu2
        obtain ⟨x1, hx1, hx2⟩ := Option.map_eq_some_iff.mp hu2
        subst hx2
        by_cases hm : p1 ∈ come
        · refine iteTb (decide_eq_true hm) ⟨_, rfl, _, rfl, fd, vn x1, rfl, .inr ⟨kvs, kk p1 h1', T1, .inr ⟨_, f6⟩, rfl, hT1, hu1.symm⟩, _, rfl, _, rfl, kd, _, rfl, DPut.t (k := kk p1 h1') d6 hT1 (few' (by omega)), ?_⟩
          refine ⟨fun b o hb e => ?_, by rw [upd_ne (Ne.symm nkf)]; exact f6, ⟨_, upd_same, Nat.le_trans (length_putK _ _ _) (by omega), fun e he => ?_, fun p h v e => ?_, fun j hj p h v e hp => ?_⟩, _, _, rfl⟩
          · rw [upd_ne (fun z => by subst z; rw [hkd] at e; cases e)]; exact k6 b o hb e
          · rcases put_mem he with z | z
            · exact s6 e z
            · exact ⟨p1, h1', x1, z⟩
          · rw [valV_put] at e
            split at e
            · rename_i c
              obtain ⟨rfl, rfl⟩ := kk_inj.mp c
              injection e with e
              exact ⟨hm, by rw [← e]; exact hu1⟩
            · exact a6 p h v e
          · rw [valV_put]
            split
            · rename_i c
              obtain ⟨rfl, rfl⟩ := kk_inj.mp c
              exact hu1.symm
            · rename_i c
              rcases Nat.lt_or_ge j i with z | z
              · exact b6 j z p h v e hp
              · rw [show j = i by omega, hi] at e
                injection e with e
                injection e with e _
                exact absurd e.symm c
        · refine iteFb (decide_eq_false hm) ⟨k6, f6, ⟨ks, d6, by omega, s6, a6, fun j hj p h v e hp => ?_⟩, _, _, rfl⟩
          rcases Nat.lt_or_ge j i with z | z
          · exact b6 j z p h v e hp
          · rw [show j = i by omega, hi] at e
            injection e with e
            injection e with e _
            rw [← (kk_inj.mp e).1] at hp
            exact absurd hp hm
      · rintro σ H6 ⟨k6, f6, ⟨ks, d6, l6, s6, a6, b6⟩, o4, o5, rfl⟩
        have nca : ca ≠ fd := fun z => by subst z; rw [g4 _ _ e1] at f4; cases f4
        have f6c := k6 ca _ nca f4
        have f6i : SqL K H6 ca ((come.map fun n : Nat => (n : Int)).map V.int) := SqL.of (by rw [f6c, vns_ints])
        refine ⟨_, rfl, _, rfl, ca, _, rfl, f6i, by rw [List.length_map]; omega, fun sl ns' hsl hp hs => ?_⟩
        obtain ⟨cm, rfl, pm⟩ := perm_nats hp
        rw [← vns_ints]
        have dk : DWs ks (fun p h => if p ∈ come then W p h else none) := by
          refine ⟨s6, fun p h => ?_⟩
          show valV ks (kk p h) = Option.map vn (if p ∈ come then W p h else none)
          by_cases hpc : p ∈ come
          · rw [if_pos hpc, ← e2.2]
            cases ev : valV kvs (kk p h) with
            | none =>
              cases ev2 : valV ks (kk p h) with
              | none => rfl
              | some v => have := (a6 p h v ev2).2; rw [ev] at this; cases this
            | some v =>
              obtain ⟨j, hj⟩ := List.getElem?_of_mem (valV_mem ev)
              rw [b6 j (List.getElem?_eq_some_iff.mp hj).1 p h v hj hpc, ev]
          · rw [if_neg hpc]
            cases ev2 : valV ks (kk p h) with
            | none => rfl
            | some v => exact absurd (a6 p h v ev2).1 hpc
        have ksl : kd ≠ sl := fun z => by subst z; rw [d6] at hsl; cases hsl
        refine ⟨(by show 2 ≤ sizeLine; decide), fun rr hrr => ?_⟩
        have krr : kd ≠ rr := fun z => by subst z; rw [upd_ne ksl, d6] at hrr; cases hrr
        have srr : sl ≠ rr := fun z => by subst z; rw [upd_same] at hrr; cases hrr
        refine q rr kd sl _ ks cm _ (fun b o e => ?_) upd_same ?_ ?_ dk nk (ck.perm pm)
        · have e4' := g4 _ _ (g _ _ e)
          have nb : b ≠ fd := fun z => by subst z; rw [hfd] at e; cases e
          have e6 := k6 b o nb e4'
          rw [upd_ne (fun z => by subst z; rw [upd_ne (fun z => by subst z; rw [e6] at hsl; cases hsl), e6] at hrr; cases hrr), upd_ne (fun z => by subst z; rw [e6] at hsl; cases hsl)]
          exact e6
        · rw [upd_ne krr, upd_ne ksl]; exact d6
        · rw [upd_ne srr]; exact upd_same
end K57

namespace MM
theorem insAt_mem {l : List Nat} {i x y : Nat} : y ∈ L2.insAt l i x ↔ y = x ∨ y ∈ l := by
  unfold L2.insAt
  rw [List.mem_append, List.mem_cons]
  have h : y ∈ l ↔ y ∈ l.take i ∨ y ∈ l.drop i := by rw [← List.mem_append, List.take_append_drop]
  rw [h]
  constructor
  · rintro (h | h | h)
    · exact .inr (.inl h)
    · exact .inl h
    · exact .inr (.inr h)
  · rintro (h | h | h)
    · exact .inr (.inl h)
    · exact .inl h
    · exact .inr (.inr h)
theorem insAt_nodup {l : List Nat} (nd : l.Nodup) {i x : Nat} (h : x ∉ l) : (L2.insAt l i x).Nodup := by
  unfold L2.insAt
  have p : (l.take i ++ x :: l.drop i).Perm (x :: l) := by
    have q := List.perm_middle (a := x) (l₁ := l.take i) (l₂ := l.drop i)
    rw [List.take_append_drop] at q
    exact q
  exact (p.nodup_iff).mpr (List.nodup_cons.mpr ⟨h, nd⟩)
theorem insAt_len {α : Type} (l : List α) (i : Nat) (x : α) : (L2.insAt l i x).length = l.length + 1 := by
  unfold L2.insAt
  rw [List.length_append, List.length_cons, ← Nat.add_assoc, ← List.length_append, List.take_append_drop]
theorem insAt_vns (l : List Nat) (i x : Nat) : L2.insAt (L2.vns l) i (L2.vn x) = L2.vns (L2.insAt l i x) := by
  unfold L2.insAt L2.vns
  rw [List.map_append, List.map_cons, List.map_take, List.map_drop]
end MM
namespace K57
open PySem L2 PyProof.Rows
variable {P : Program} {w : World} {K : PySem.W.Frag} {mg : Str → Option Value} {base : Heap} {t : Adr}
def spTurnedB (vs : List L2.V) (H : L2.Hp) (Q : L2.VK) (num : Int) (n : Nat) : Prop := vs = [.int num, vn n] ∧ 0 ≤ num ∧ n ≤ 400 ∧ ∀ (r : Addr) (ps : List Nat), H r = none → ps.Nodup → (∀ x ∈ ps, x < n) → ps.length = n → Q (.ref r) (upd H r (.lst (vns ps)))
def spTurned : Sp := fun vs H Q _ => ∃ (num : Int) (n : Nat), spTurnedB vs H Q num n
theorem ok_lturned (T : Txt K mg t) : FnOk P w K mg base CX0 1 t.a_l_turned t.d_l_turned ["_law_number", "_law_many"] spTurned := by
  refine T.F_l_turned.ok sc_l_turned (fun vs H Q E h => ?_) (fun cdv A outer s H vs Q E hr h => ?_)
  · obtain ⟨num, n, rfl, _⟩ := h; rfl
  obtain ⟨num, n, rfl, h0, hn, q⟩ := h
  have nd := sc_l_turned.nd
  refine ⟨_, (pss_cons (ps_set (i := 2) nd rfl (Or.inl rfl) (pe_lst pa_nil))
    (pss_cons (ps_for PassesOwn.never rfl (pi_range1 rfl T.z_range (pa_cons (pv 1) pa_nil)) (pg_name (i := 3) nd rfl (Or.inl rfl)) (pss_cons (ps_expr (pe_bm PySem.F.plainAttrs_list PySem.F.slot_list_insert PySem.F.type_list_insert mt_insert (pv 2) (pa_cons (pe_op op_mod (pv 0) (pe_op op_add (pv 3) pe_int)) (pa_cons (pv 3) pa_nil))))
    (pss_one (ps_set (i := 0) nd rfl (Or.inl rfl) (pe_op op_fdiv (pv 0) (pe_op op_add (pv 3) pe_int))))))
    (pss_one (ps_ret (pv 2))))), ?_⟩
  refine ⟨(by show 0 ≤ sizeLine; decide), fun r hr0 => ?_⟩
  let Pv1 : Nat → L2.St → L2.Hp → Prop := fun i σ H' => ∃ (num' : Int) (ps : List Nat) (o : Option V), 0 ≤ num' ∧ σ = [some (.int num'), some (vn n), some (.ref r), o] ∧ H' = upd H r (.lst (vns ps)) ∧ ps.Nodup ∧ (∀ x ∈ ps, x < i) ∧ ps.length = i
  refine ⟨_, rfl, n, rfl, by omega, by omega, for_range (lo := 0) (n := (n : Int).toNat) Pv1
    ⟨num, [], none, h0, rfl, rfl, List.nodup_nil, (fun x hx => by cases hx), rfl⟩ ?_ ?_⟩
  · rintro i σ H' hi ⟨num', ps, o, h0', rfl, rfl, hnd, hlt, hl⟩
    have hi' : i < 400 := by omega
    have e1 : num' % (0 + (i : Int) + 1) = (((num' % (0 + (i : Int) + 1)).toNat : Nat) : Int) := by
      have := Int.emod_nonneg num' (show (0 + (i : Int) + 1) ≠ 0 by omega)
      omega
    have e2 : (num' % (0 + (i : Int) + 1)).toNat ≤ i := by
      have := Int.emod_lt_of_pos num' (show 0 < (0 + (i : Int) + 1) by omega)
      omega
    refine ⟨_, rfl, .inl ⟨rfl, _, SqL.of upd_same⟩, _, rfl, _, rfl, _, _, rfl, rfl, _, _, rfl, rfl, (by show (0 : Int) < 0 + (i : Int) + 1; omega), _, rfl, r, _, (num' % (0 + (i : Int) + 1)).toNat, vn i, rfl, ?_, upd_same, ?_, ?_, ?_⟩
    · show [V.int (num' % (0 + (i : Int) + 1)), V.int (0 + (i : Int))] = [V.int (((num' % (0 + (i : Int) + 1)).toNat : Nat) : Int), V.int (i : Int)]
      rw [← e1, Int.zero_add]
    · rw [List.length_map]; omega
    · rw [List.length_map]; exact Nat.lt_of_le_of_lt (by omega : ps.length ≤ 1000) (by decide)
    refine ⟨_, rfl, _, rfl, _, _, rfl, rfl, _, _, rfl, rfl, ⟨by show (0 : Int) < 0 + (i : Int) + 1; omega, by show 0 + (i : Int) + 1 < 1073741824; omega⟩, ?_⟩
    refine ⟨_, insAt ps (num' % (0 + (i : Int) + 1)).toNat i, _, ?_, rfl, ?_, ?_, ?_, ?_⟩
    · exact Int.ediv_nonneg h0' (by omega)
    · rw [upd_upd, MM.insAt_vns]
    · exact MM.insAt_nodup hnd fun z => Nat.lt_irrefl _ (hlt i z)
    · intro x hx
      rcases MM.insAt_mem.mp hx with rfl | hx
      · omega
      · have := hlt x hx; omega
    · rw [MM.insAt_len, hl]
  · rintro σ H' ⟨num', ps, o, h0', rfl, rfl, hnd, hlt, hl⟩
    exact ⟨_, rfl, q r ps hr0 hnd (fun x hx => by have := hlt x hx; omega) (by omega)⟩
end K57

namespace L2
open PySem PySem.Spec PyProof.Rows
theorem bds_vns {K : PySem.W.Frag} {H : Hp} : ∀ l : List Nat, Bds K H (vns l) (l.map fun n : Nat => PyData.int (n : Int))
  | [] => .nil
  | n :: l => .cons (.int n) (bds_vns l)
theorem shaped_nats (l : List Nat) : SeqAt.shaped (.list (l.map fun n : Nat => PyData.int (n : Int))) = true := by
  have e : (l.map fun n : Nat => PyData.int (n : Int)) = (l.map fun n : Nat => (n : Int)).map PyData.int := by rw [List.map_map]; rfl
  rw [e]
  generalize (l.map fun n : Nat => (n : Int)) = ns
  simp [SeqAt.shaped, PyData.canLay0, PyData.canLayAll0, PyData.depth, PyData.depthAll, PySem.W.ke_canLayAll0, PySem.W.ke_depthAll]
theorem eqv_nats (l m : List Nat) : PyData.eqv (.list (l.map fun n : Nat => PyData.int (n : Int))) (.list (m.map fun n : Nat => PyData.int (n : Int))) = decide (l = m) := by
  have e : ∀ l : List Nat, (l.map fun n : Nat => PyData.int (n : Int)) = (l.map fun n : Nat => (n : Int)).map PyData.int := fun l => by rw [List.map_map]; rfl
  rw [e, e]
  unfold PyData.eqv
  rw [PySem.W.ked_eqvAll]
  have inj : ∀ l m : List Nat, (l.map fun n : Nat => (n : Int)) = (m.map fun n : Nat => (n : Int)) → l = m := by
    intro l
    induction l with
    | nil => intro m h; cases m with
      | nil => rfl
      | cons _ _ => simp at h
    | cons a l ih => intro m h; cases m with
      | nil => simp at h
      | cons b m =>
        simp only [List.map_cons, List.cons.injEq] at h
        rw [ih m h.2, show a = b by omega]
  by_cases h : l = m
  · subst h; simp
  · rw [decide_eq_false h, decide_eq_false (fun z => h (inj l m z))]
theorem comp_filt {J : It} {js : List (Option Nat)} {σ : St} {H1 : Hp} {R : Hp → Prop} {D : Addr} {g : TG} {tc : TT} {te : TE} (n : Nat) (fs : Nat → V) (pf : Nat → Bool) (hD : H1 D = none) (hn : n ≤ 90000)
    (go : ∀ i H', i < n → Same H1 H' → J.go i H') (stop : ∀ H', Same H1 H' → J.stop n H')
    (hs : ∀ i H' x H'' (kt : V → Hp → Prop) (kf : Hp → Prop), i < n → Same H1 H' → J.yld i H' x H'' → (pf i = true → ∀ H4, Same H' H4 → kt (fs i) H4) → (pf i = false → ∀ H4, Same H' H4 → kf H4) → g x (inner js σ) H'' fun σ2 H2 => Fills (inner js σ) σ2 ∧ tc σ2 H2 fun b H3 => if b = true then te σ2 H3 kt else kf H3)
    (hd : ∀ H', Same H1 H' → H' D = some (.lst (((List.range n).filter pf).map fs)) → R H') :
    ∃ W : Nat → Nat → List V → Hp → Prop, (∃ m, W 0 m [] (upd H1 D (.lst []))) ∧
      ∀ i m ys H, W i m ys H → (J.stop i H ∧ R H) ∨ (J.go i H ∧ ∃ N : List V → Hp → Prop, (∀ ys' H', N ys' H' → ∃ m', m' < m ∧ W (i + 1) m' ys' H') ∧ ∀ x H', J.yld i H x H' → g x (inner js σ) H' fun σ2 H2 => Fills (inner js σ) σ2 ∧ tc σ2 H2 fun b H3 =>
        if b = true then te σ2 H3 fun y H4 => H4 D = some (.lst ys) ∧ ys.length < sizeLine ∧ N (ys ++ [y]) (upd H4 D (.lst (ys ++ [y]))) else N ys H3) := by
  let Pv1 : Nat → List L2.V → L2.Hp → Prop := fun i ys H' => ys = ((List.range i).filter pf).map fs ∧ Same H1 H' ∧ H' D = some (.lst ys)
  refine comp_by n Pv1 ⟨rfl, same_new hD _, upd_same⟩ ?_ ?_
  · rintro i ys H' hi ⟨rfl, g1, e⟩
    refine ⟨go i H' hi g1, fun x H'' y => hs i H' x H'' _ _ hi g1 y (fun c H4 g4 => ⟨g4 _ _ e, ?_, ?_, (g1.trans g4).upd hD, upd_same⟩) fun c H4 g4 => ⟨?_, g1.trans g4, g4 _ _ e⟩⟩
    · rw [List.length_map]
      exact few' (Nat.lt_of_le_of_lt (List.length_filter_le _ _) (by rw [List.length_range]; omega))
    · rw [List.range_succ, List.filter_append, List.map_append]
      simp [c]
    · rw [List.range_succ, List.filter_append, List.map_append]
      simp [c]
  · rintro ys H' ⟨rfl, g1, e⟩
    exact ⟨stop H' g1, hd H' g1 e⟩
def heads (W : Nat → Nat → Option Nat) (p : Nat) : List Nat := (List.range 4).filter fun h => (W p h).isSome
structure Plc (W : Nat → Nat → Option Nat) (come pl : List Nat) : Prop where
  nd : pl.Nodup
  sub : ∀ p ∈ pl, p ∈ come
  ne : 0 < pl.length
  two : ∀ p ∈ come, p ∉ pl → (heads W p).length = 2
theorem perm_all {ps : List Nat} {n : Nat} (nd : ps.Nodup) (lt : ∀ x ∈ ps, x < n) (hl : ps.length = n) {i : Nat} (hi : i < n) : i ∈ ps := by
  refine Decidable.byContradiction fun z => ?_
  have := MM.nodup_bound n (i :: ps) (List.nodup_cons.mpr ⟨z, nd⟩) fun x hx => by
    rcases List.mem_cons.mp hx with y | y
    · rw [y]; exact hi
    · exact lt x y
  simp at this; omega
theorem picked {ps fl : List Nat} (nd : ps.Nodup) (lt : ∀ x ∈ ps, x < fl.length) (hl : ps.length = fl.length) (nf : fl.Nodup) : (ps.map fun k => fl.getD k 0).Nodup ∧ ∀ x, x ∈ (ps.map fun k => fl.getD k 0) ↔ x ∈ fl := by
  refine ⟨?_, fun x => ⟨fun h => ?_, fun h => ?_⟩⟩
  · rw [List.Nodup, List.pairwise_map]
    refine List.Pairwise.imp_of_mem (fun {a b} ha hb h e => h ?_) nd
    have h1 := lt a ha
    have h2 := lt b hb
    simp only [List.getD, List.getElem?_eq_getElem h1, List.getElem?_eq_getElem h2, Option.getD_some] at e
    exact (List.getElem_inj nf).mp e
  · obtain ⟨k, hk, rfl⟩ := List.mem_map.mp h
    exact getD_mem (lt k hk)
  · obtain ⟨i, hi, rfl⟩ := mem_getD h
    exact List.mem_map.mpr ⟨i, perm_all nd lt hl hi, rfl⟩
end L2
namespace K57
open PySem L2 PyProof.Rows
variable {P : Program} {w : World} {K : PySem.W.Frag} {mg : Str → Option Value} {base : Heap} {t : Adr}
def spSpots (K : PySem.W.Frag) : Sp := fun vs H Q _ => ∃ (sa wa ca : Addr) (ns : List Int) (kvs : List (List Key × V)) (W : Nat → Nat → Option Nat) (N : Nat) (come : List Nat), vs = [.ref sa, .ref wa, .ref ca] ∧ SqL K H sa (ns.map V.int) ∧ H wa = some (.dT kvs) ∧ DWs kvs W ∧ H ca = some (.lst (vns come)) ∧ Come W N come ∧ N ≤ 10 ∧
  ∀ r pl H', H r = none → Same H H' → H' r = some (.lst (vns pl)) → Plc W come pl → Q (.ref r) H'
theorem ok_spots (T : Txt K mg t) : FnOk P w K mg base CX0 2 t.a_l_spots t.d_l_spots ["_law_script", "_law_ways_here", "_law_come"] (spSpots K) := by
  have G_l_mix := ok_mix (P := P) (w := w) (base := base) T
  have G_l_cell_at := ok_cell (P := P) (w := w) (base := base) T
  have G_l_turned := ok_lturned (P := P) (w := w) (base := base) T
  refine T.F_l_spots.ok sc_l_spots (fun vs H Q E h => ?_) (fun cdv A outer s H vs Q E hr h => ?_)
  · obtain ⟨sa, wa, ca, ns, kvs, W, N, come, rfl, _⟩ := h; rfl
  obtain ⟨sa, wa, ca, ns, kvs, W, N, come, rfl, hS, hw, hW, hc, hC, hN, q⟩ := h
  have nd := sc_l_spots.nd
  have hu := hu_of hr
  have nd_l_k_l_found : (["_law_k", "_law_found"] : List Str).Nodup := by decide
  have nd_l_head_l_ways_here_l_point : (["_law_head", "_law_ways_here", "_law_point"] : List Str).Nodup := by decide
  refine ⟨_, (pss_cons (ps_set (i := 3) nd rfl (Or.inr rfl) (pe_lst pa_nil))
    (pss_cons (ps_for PassesOwn.never rfl (pi_list (pv 2)) (pg_name (i := 4) nd rfl (Or.inr rfl)) (pss_cons (ps_set (i := 5) nd rfl (Or.inl rfl) (pe_callB call_len_seq rfl T.z_len PySem.boot_len (pa_cons (pe_comp (N' := ["_law_head", "_law_ways_here", "_law_point"]) (js := [none, some 1, some 4]) rfl (pi_range1 rfl T.z_range (pa_cons pe_int pa_nil)) (fun _ _ _ _ _ => (pg_name (i := 0) nd_l_head_l_ways_here_l_point rfl (Or.inl rfl))) (fun _ _ _ _ _ => (pf_one (pt_cmp (pc_din hu (pe_tup (pa_cons (pv 2) (pa_cons (pv 0) pa_nil))) (pv 1))))) (fun _ _ _ _ _ => (pv 0))) pa_nil)))
    (pss_one (ps_if (PW.pt (pw_or (pt_cmpR op_ne (pv 5) pe_int (nomark _)) (pw_or1 (pt_cmpR op_eq (pe_op op_mod (pe_call G_l_mix (hr.mono (by decide)) rfl T.m_l_mix T.k_l_mix T.b_l_mix .nil pass0 (pa_cons (pe_call G_l_cell_at (hr.mono (by decide)) rfl T.m_l_cell_at T.k_l_cell_at T.b_l_cell_at .nil pass0 (pa_cons (pv 0) (pa_cons pe_int pa_nil))) (pa_cons (pe_op op_add pe_int (pv 4)) pa_nil))) pe_int) pe_int (nomark _))))) (pss_one (ps_expr (pe_bm PySem.F.plainAttrs_list PySem.F.slot_list_append PySem.F.type_list_append mt_append (pv 3) (pa_cons (pv 4) pa_nil)))) pss_nil))))
    (pss_cons (ps_if (pt_cmpR (op_eqD hr.units) (pv 3) (pe_lst pa_nil) (nomark _)) (pss_one (ps_set (i := 3) nd rfl (Or.inr rfl) (pe_slice sl_list (pv 2) po_none (po_some pe_int)))) pss_nil)
    (pss_one (ps_ret (pe_comp (N' := ["_law_k", "_law_found"]) (js := [none, some 3]) rfl (pi_list (pe_call G_l_turned (hr.mono (by decide)) rfl T.m_l_turned T.k_l_turned T.b_l_turned .nil pass0 (pa_cons (pe_call G_l_mix (hr.mono (by decide)) rfl T.m_l_mix T.k_l_mix T.b_l_mix .nil pass0 (pa_cons (pe_call G_l_cell_at (hr.mono (by decide)) rfl T.m_l_cell_at T.k_l_cell_at T.b_l_cell_at .nil pass0 (pa_cons (pv 0) (pa_cons pe_int pa_nil))) (pa_cons pe_int pa_nil))) (pa_cons (pe_callB call_len_seq rfl T.z_len PySem.boot_len (pa_cons (pv 3) pa_nil)) pa_nil)))) (fun _ _ _ _ _ => (pg_name (i := 0) nd_l_k_l_found rfl (Or.inl rfl))) (fun _ _ _ _ _ => pf_nil) (fun _ _ _ _ _ => (pe_ix (kix_list (K := K) rfl) (pv 1) (pv 0) (fun _ _ => rfl))))))))), ?_⟩
  refine ⟨few (by decide), fun fa hfa => ?_⟩
  have g1 := same_new hfa (.lst [])
  have hfew := hC.few
  have hlv : (vns come).length = come.length := by simp
  let Pv2 : Nat → L2.St → L2.Hp → Prop := fun i σ H' => Same H H' ∧ (∃ fl, H' fa = some (.lst (vns fl)) ∧ fl.Nodup ∧ (∀ p ∈ fl, p ∈ come.take i) ∧ ∀ p ∈ come.take i, p ∉ fl → (heads W p).length = 2) ∧ ∃ o1 o2, σ = [some (.ref sa), some (.ref wa), some (.ref ca), some (.ref fa), o1, o2]
  refine ⟨_, rfl, ca, rfl, ⟨_, SqL.of (g1 _ _ hc)⟩, for_list (xs := vns come) Pv2 ⟨g1, ⟨[], upd_same, List.nodup_nil, fun p hp => (by cases hp), fun p hp => by simp at hp⟩, _, _, rfl⟩ (fun i σ H' _ h => SqL.of (h.1 _ _ hc)) ?_ ?_⟩
  · rintro i x σ H' hx ⟨g, ⟨fl, e1, e2, e3, e4⟩, o1, o2, rfl⟩
    obtain ⟨hi, rfl⟩ := vns_at hx
    have pm := getD_mem hi
    have ft : come.take (i + 1) = come.take i ++ [come.getD i 0] := by
      rw [List.take_succ, List.getElem?_eq_getElem hi]; simp [List.getD, hi]
    have nt : come.getD i 0 ∉ come.take i := by
      have nd1 := hC.nd
      have := List.Nodup.sublist (List.take_sublist (i + 1) come) nd1
      rw [ft, List.nodup_append] at this
      exact fun z => this.2.2 _ z _ (List.mem_singleton.mpr rfl) rfl
    have hfl : fl.length ≤ 10 := Nat.le_trans (MM.nodup_bound N fl e2 fun p hp => hC.lt p (List.mem_of_mem_take (e3 p hp))) hN
    generalize hpp : come.getD i 0 = p at pm ft nt ⊢
    refine ⟨_, rfl, by decide, by decide, fun D hD => ?_⟩
    refine comp_filt 4 (fun k => vn k) (fun h => (W p h).isSome) hD (by decide) (fun j H2 hj _ => hj) (fun H2 _ => Nat.le_refl _) ?_ ?_
    · rintro j H2 y H3 kt kf hj g2 ⟨rfl, rfl⟩ k1 k2
      rw [show (0 : Int) + (j : Int) = (j : Int) by omega]
      refine ⟨(Fills.refl _).set _ rfl, _, rfl, _, rfl, (by show 2 ≤ sizeLine; decide), fun T1 hT1 => ?_⟩
      have g3 := same_new hT1 (.tup [vn p, vn j])
      refine ⟨_, rfl, wa, _, rfl, DGet.t (k := kk p j) (g3 _ _ (g2 _ _ (g _ _ hw))) upd_same, _, rfl, ?_⟩
      rw [hW.2]
      cases ew : W p j with
      | none => exact iteF (k2 (by rw [ew]; rfl) _ g3)
      | some qq => exact iteT ⟨_, rfl, k1 (by rw [ew]; rfl) _ g3⟩
    · intro H2 g2 e5
      have gH := g.trans g2
      have e6 : (((List.range 4).filter fun h => (W p h).isSome).map fun k => vn k).length = (heads W p).length := by rw [List.length_map]; rfl
      refine ⟨D, _, rfl, .inl (SqL.of e5), ?_⟩
      rw [e6]
      have step1 : ∃ fl, H2 fa = some (.lst (vns fl)) ∧ fl.Nodup ∧ (∀ p ∈ fl, p ∈ come.take (i + 1)) ∧ ((heads W p).length = 2 → ∀ p ∈ come.take (i + 1), p ∉ fl → (heads W p).length = 2) := ⟨fl, g2 _ _ e1, e2, fun x hx => by rw [ft]; exact List.mem_append_left _ (e3 x hx), fun h2 x hx hn => by
        rw [ft] at hx
        rcases List.mem_append.mp hx with z | z
        · exact e4 x z hn
        · rw [List.mem_singleton.mp z]; exact h2⟩
      have np : p ∉ fl := fun z => nt (e3 p z)
      have step2 : ∀ (H3 : Hp), H3 fa = some (.lst (vns fl ++ [vn p])) → ∃ fl, H3 fa = some (.lst (vns fl)) ∧ fl.Nodup ∧ (∀ p ∈ fl, p ∈ come.take (i + 1)) ∧ ∀ p ∈ come.take (i + 1), p ∉ fl → (heads W p).length = 2 := fun H3 e => ⟨fl ++ [p], by rw [e, vns_app2], by
          rw [List.nodup_append]
          exact ⟨e2, by simp, fun x hx y hy z => by rw [List.mem_singleton.mp hy] at z; subst z; exact np hx⟩, fun x hx => by
          rw [ft]
          rcases List.mem_append.mp hx with z | z
          · exact List.mem_append_left _ (e3 x z)
          · exact List.mem_append_right _ z, fun x hx hn => by
          rw [ft] at hx
          rcases List.mem_append.mp hx with z | z
          · exact e4 x z fun y => hn (List.mem_append_left _ y)
          · exact absurd (List.mem_append_right _ z) hn⟩
      refine ⟨_, rfl, rfl, _, rfl, ?_⟩
      by_cases h2 : (heads W p).length = 2
      · refine iteFb (by rw [h2]; rfl) ⟨_, rfl, sa, ns, _, rfl, gH.seq hS, by decide, fun c => ⟨_, rfl, _, _, rfl, rfl, c, _, rfl, by omega, by have := hC.lt p pm; omega, fun m hm0 hm1 => ⟨_, _, rfl, rfl, (by show (0 : Int) < 3; decide), rfl, _, rfl, ite2 (fun _ => ?_) fun _ => ?_⟩⟩⟩
        · refine ⟨_, rfl, .inl ⟨rfl, _, SqL.of (g2 _ _ e1)⟩, _, rfl, fa, _, _, rfl, rfl, g2 _ _ e1, few' (by rw [List.length_map]; omega), gH.upd hfa, step2 _ upd_same, _, _, rfl⟩
        · obtain ⟨fl', z1, z2, z3, z4⟩ := step1
          exact ⟨gH, ⟨fl', z1, z2, z3, z4 h2⟩, _, _, rfl⟩
      · refine iteTb ?_ (iteT ⟨_, rfl, .inl ⟨rfl, _, SqL.of (g2 _ _ e1)⟩, _, rfl, fa, _, _, rfl, rfl, g2 _ _ e1, few' (by rw [List.length_map]; omega), gH.upd hfa, step2 _ upd_same, _, _, rfl⟩)
        simp only [Bool.not_eq_true', decide_eq_false_iff_not]
        intro z; injection z with z; omega
  · rintro σ H' ⟨g, ⟨fl, e1, e2, e3, e4⟩, o1, o2, rfl⟩
    rw [hlv, List.take_length] at e3 e4
    dsimp only
    refine via (fun σ' H2 => Same H H2 ∧ ∃ (fb : Addr) (fl : List Nat), H2 fb = some (.lst (vns fl)) ∧ Plc W come fl ∧ ∃ o1 o2, σ' = [some (.ref sa), some (.ref wa), some (.ref ca), some (.ref fb), o1, o2]) (fun k => ?_) ?_
    · refine ⟨_, rfl, few (by decide), fun em hem => ?_⟩
      have g2 := same_new hem (.lst [])
      refine ⟨_, _, .lst (SqL.of (g2 _ _ e1)) (bds_vns fl), .lst (SqL.of upd_same) (bds_vns []), shaped_nats fl, shaped_nats [], _, rfl, ?_⟩
      rw [eqv_nats]
      by_cases hz : fl = []
      · refine iteTb (by subst hz; rfl) ⟨_, rfl, _, rfl, ca, _, rfl, SqL.of (g2 _ _ (g _ _ hc)), fun fb hfb => k _ _ ?_⟩
        rw [cut_t1]
        have hct : (vns come).take 1 = vns (come.take 1) := by unfold vns; rw [List.map_take]
        rw [hct]
        refine ⟨(g.trans g2).trans (same_new hfb _), fb, come.take 1, upd_same, ⟨List.Nodup.sublist (List.take_sublist _ _) hC.nd, fun p hp => List.mem_of_mem_take hp, by rw [List.length_take]; have := hC.ne; omega, fun p hp _ => e4 p hp (by rw [hz]; simp)⟩, _, _, rfl⟩
      · refine iteFb (by rw [decide_eq_false hz]; rfl) (k _ _ ⟨g.trans g2, fa, fl, g2 _ _ e1, ⟨e2, e3, List.length_pos_iff.mpr hz, e4⟩, _, _, rfl⟩)
    · rintro σ' H2 ⟨g2, fb, fl, f1, f2, o1, o2, rfl⟩
      have hl : (vns fl).length = fl.length := by simp
      have hfl : fl.length ≤ 10 := Nat.le_trans (MM.nodup_bound N fl f2.nd fun p hp => hC.lt p (f2.sub p hp)) hN
      refine ⟨_, rfl, sa, ns, _, rfl, g2.seq hS, by decide, fun c => ⟨c, _, rfl, by decide, by decide, fun m hm0 hm1 => ⟨_, rfl, fb, _, rfl, .inl (SqL.of f1), m, fl.length, ?_, hm0, by omega, fun ta ps hta p1 p2 p3 => ?_⟩⟩⟩
      · rw [hl]; rfl
      have g3 := same_new hta (.lst (vns ps))
      refine ⟨ta, rfl, ⟨_, SqL.of upd_same⟩, fun D hD => ?_⟩
      refine comp_pure ps.length (fun k => vn (fl.getD (ps.getD k 0) 0)) hD (by omega) (fun i H3 hi g4 => ⟨_, _, SqL.of (g4 _ _ upd_same), by rw [List.getElem?_map, List.getElem?_eq_getElem hi]; rfl⟩) (fun H3 g4 => ⟨_, SqL.of (g4 _ _ upd_same), by simp⟩) ?_ ?_
      · rintro i H3 x H4 kk' hi g4 ⟨rfl, hy⟩ hk
        have hx := hy _ (SqL.of (g4 _ _ upd_same))
        obtain ⟨_, rfl⟩ := vns_at hx
        exact ⟨(Fills.refl _).set _ rfl, _, rfl, _, rfl, fb, _, _, _, rfl, rfl, SqL.of (g4 _ _ (g3 _ _ f1)), at_vns (p2 _ (getD_mem hi)) rfl, hk _ (Same.refl _)⟩
      · intro H3 g4 e5
        obtain ⟨k1, k2⟩ := picked p1 p2 p3 f2.nd
        refine q D (ps.map fun k => fl.getD k 0) H3 ((g2.trans g3).free hD) ((g2.trans g3).trans g4) ?_ ⟨k1, fun p hp => f2.sub p ((k2 p).mp hp), by rw [List.length_map, p3]; exact f2.ne, fun p hp hn => f2.two p hp fun z => hn ((k2 p).mpr z)⟩
        rw [e5]
        unfold vns
        rw [List.map_map]
        exact congrArg (fun z => some (HO.lst z)) (rng_map ps fun k => vn (fl.getD k 0))
end K57

namespace L2
open PySem PySem.Spec PyProof.Rows
theorem SameBut1.new {g : Addr} {H H4 : Hp} {T : Addr} {o : HO} (s : SameBut1 g H H4) (h : H4 T = none) : SameBut1 g H (upd H4 T o) := fun b u hb e => by
  have := s b u hb e
  rw [upd_ne (ne_of_none this h)]; exact this
theorem SameBut1.at {g : Addr} {H H4 : Hp} {o : HO} (s : SameBut1 g H H4) : SameBut1 g H (upd H4 g o) := fun b u hb e => by rw [upd_ne hb]; exact s b u hb e
theorem SameBut1.fr {g : Addr} {H H4 : Hp} {l : Addr} {o : HO} (s : SameBut1 g H H4) (h : H l = none) : SameBut1 g H (upd H4 l o) := fun b u hb e => by rw [upd_ne (ne_of_none e h)]; exact s b u hb e
structure Trail (W : Nat → Nat → Option Nat) (pl pts hs : List Nat) : Prop where
  len : pts.length = hs.length + 1
  go : ∀ i, i < hs.length → W (pts.getD i 0) (hs.getD i 0) = some (pts.getD (i + 1) 0)
  mid : ∀ i, 0 < i → i < hs.length → pts.getD i 0 ∉ pl
  on : ∀ i, i + 1 < hs.length → hs.getD (i + 1) 0 ≠ (hs.getD i 0 + 2) % 4
  df : ∀ i j, i < hs.length → j < hs.length → pts.getD i 0 = pts.getD j 0 → hs.getD i 0 = hs.getD j 0 → i = j
  fst : pts.getD 0 0 ∈ pl
theorem heads_mem {W : Nat → Nat → Option Nat} {p h : Nat} : h ∈ heads W p ↔ h < 4 ∧ (W p h).isSome = true := by
  unfold heads; rw [List.mem_filter, List.mem_range]
theorem heads_nd (W : Nat → Nat → Option Nat) (p : Nat) : (heads W p).Nodup := List.Nodup.sublist List.filter_sublist List.nodup_range
theorem two_of {l : List Nat} (h : l.length = 2) {x y z : Nat} (hx : x ∈ l) (hy : y ∈ l) (hz : z ∈ l) (h1 : x ≠ y) (h2 : x ≠ z) : y = z := by
  match l, h with
  | [u, v], _ =>
    simp only [List.mem_cons, List.not_mem_nil, or_false] at hx hy hz
    omega
theorem getD_end {l : List Nat} {x : Nat} : (l ++ [x]).getD l.length 0 = x := by simp [List.getD]
theorem Trail.few {a b : Nat} {W : Nat → Nat → Option Nat} {pl pts hs : List Nat} (n : Net a b W) (t : Trail W pl pts hs) (hab : a * b ≤ 10) : hs.length ≤ 40 := by
  have h := MM.nodup_bound 40 ((List.range hs.length).map fun i => 4 * pts.getD i 0 + hs.getD i 0) ?_ ?_
  · simpa using h
  · rw [List.Nodup, List.pairwise_map]
    refine List.Pairwise.imp_of_mem (fun {i j} hi hj hne e => hne ?_) List.nodup_range
    have hi := List.mem_range.mp hi
    have hj := List.mem_range.mp hj
    have g1 := (n.go _ _ _ (t.go i hi)).1
    have g2 := (n.go _ _ _ (t.go j hj)).1
    exact t.df i j hi hj (by omega) (by omega)
  · intro x hx
    obtain ⟨i, hi, rfl⟩ := List.mem_map.mp hx
    have g1 := n.go _ _ _ (t.go i (List.mem_range.mp hi))
    omega
theorem Trail.more {a b : Nat} {W : Nat → Nat → Option Nat} {come pl pts hs : List Nat} (n : Net a b W) (cm : Come W (a * b) come) (pc : Plc W come pl) (t : Trail W pl pts hs) {h r : Nat} (hw : W (pts.getD hs.length 0) h = some r)
    (hn : 0 < hs.length → pts.getD hs.length 0 ∉ pl ∧ h ≠ (hs.getD (hs.length - 1) 0 + 2) % 4) : Trail W pl (pts ++ [r]) (hs ++ [h]) := by
  have hl := t.len
  have gp : ∀ {i}, i ≤ hs.length → (pts ++ [r]).getD i 0 = pts.getD i 0 := fun hi => getD_app (by omega)
  have gh : ∀ {i}, i < hs.length → (hs ++ [h]).getD i 0 = hs.getD i 0 := fun hi => getD_app hi
  have ge : (hs ++ [h]).getD hs.length 0 = h := getD_end
  have gl : (pts ++ [r]).getD (hs.length + 1) 0 = r := by rw [← hl]; exact getD_end
  have hh : h < 4 := (n.go _ _ _ hw).1
  -- the new one is unlike all before
  have new : ∀ j, j < hs.length → pts.getD j 0 = pts.getD hs.length 0 → hs.getD j 0 = h → False := by
    intro j hj e1 e2
    obtain ⟨nq, nb⟩ := hn (by omega)
    have j0 : 0 < j := by
      rcases Nat.eq_zero_or_pos j with z | z
      · subst z; rw [← e1] at nq; exact absurd t.fst nq
      · exact z
    have w1 := n.sym _ _ _ (t.go (hs.length - 1) (by omega))
    rw [show hs.length - 1 + 1 = hs.length by omega] at w1
    have w2 := n.sym _ _ _ (t.go (j - 1) (by omega))
    rw [show j - 1 + 1 = j by omega, e1] at w2
    have on := t.on (j - 1) (by omega)
    rw [show j - 1 + 1 = j by omega, e2] at on
    have qc : pts.getD hs.length 0 ∈ come := cm.cl _ _ _ hw
    have l1 := (n.go _ _ _ (t.go (hs.length - 1) (by omega))).1
    have l2 := (n.go _ _ _ (t.go (j - 1) (by omega))).1
    have bb := two_of (pc.two _ qc nq) (heads_mem.mpr ⟨hh, by rw [hw]; rfl⟩) (heads_mem.mpr ⟨by omega, by rw [w1]; rfl⟩) (heads_mem.mpr ⟨by omega, by rw [w2]; rfl⟩) nb on
    have eh : hs.getD (hs.length - 1) 0 = hs.getD (j - 1) 0 := by omega
    rw [bb, w2] at w1
    injection w1 with w1
    have := t.df _ _ (by omega) (by omega) w1.symm eh
    omega
  refine ⟨by simp; omega, fun i hi => ?_, fun i h0 hi => ?_, fun i hi => ?_, fun i j hi hj e1 e2 => ?_, by rw [gp (Nat.zero_le _)]; exact t.fst⟩
  · simp only [List.length_append, List.length_singleton] at hi
    rcases Nat.lt_or_ge i hs.length with z | z
    · rw [gp (by omega), gh z, gp (by omega)]; exact t.go i z
    · rw [show i = hs.length by omega, gp (Nat.le_refl _), ge, gl]; exact hw
  · simp only [List.length_append, List.length_singleton] at hi
    rw [gp (by omega)]
    rcases Nat.lt_or_ge i hs.length with z | z
    · exact t.mid i h0 z
    · rw [show i = hs.length by omega]; exact (hn (by omega)).1
  · simp only [List.length_append, List.length_singleton] at hi
    rcases Nat.lt_or_ge (i + 1) hs.length with z | z
    · rw [gh z, gh (by omega)]; exact t.on i z
    · have e : i + 1 = hs.length := by omega
      rw [e, ge, gh (by omega), show i = hs.length - 1 by omega]; exact (hn (by omega)).2
  · simp only [List.length_append, List.length_singleton] at hi hj
    rw [gp (by omega), gp (by omega)] at e1
    rcases Nat.lt_or_ge i hs.length with y | y
    · rcases Nat.lt_or_ge j hs.length with z | z
      · rw [gh y, gh z] at e2; exact t.df i j y z e1 e2
      · have ej : j = hs.length := by omega
        subst ej
        rw [gh y, ge] at e2
        exact (new i y e1 e2).elim
    · have ei : i = hs.length := by omega
      subst ei
      rcases Nat.lt_or_ge j hs.length with z | z
      · rw [gh z, ge] at e2
        exact (new j z e1.symm e2.symm).elim
      · omega
theorem next_head {a b : Nat} {W : Nat → Nat → Option Nat} {come pl : List Nat} (n : Net a b W) (cm : Come W (a * b) come) (pc : Plc W come pl) {p q h : Nat} (hw : W p h = some q) (hq : q ∉ pl) :
    ∃ x r, ((List.range 4).filter fun o => (W q o).isSome && decide (o ≠ (h + 2) % 4)) = x :: r ∧ (∃ z, W q x = some z) ∧ x ≠ (h + 2) % 4 ∧ x < 4 := by
  have w1 := n.sym _ _ _ hw
  have qc := cm.cl _ _ _ w1
  have h2 := pc.two q qc hq
  cases e : ((List.range 4).filter fun o => (W q o).isSome && decide (o ≠ (h + 2) % 4)) with
  | nil =>
    exfalso
    have all : ∀ x ∈ heads W q, x = (h + 2) % 4 := fun x hx => by
      obtain ⟨x1, x2⟩ := heads_mem.mp hx
      refine Decidable.byContradiction fun z => ?_
      have : x ∈ ((List.range 4).filter fun o => (W q o).isSome && decide (o ≠ (h + 2) % 4)) := by
        rw [List.mem_filter]
        exact ⟨List.mem_range.mpr x1, by rw [x2]; simpa using z⟩
      rw [e] at this; cases this
    have nd := heads_nd W q
    match hh : heads W q, h2 with
    | [u, v], _ =>
      rw [hh] at nd all
      have e1 := all u (by simp)
      have e2 := all v (by simp)
      simp [e1, e2] at nd
  | cons x r =>
    have hx : x ∈ ((List.range 4).filter fun o => (W q o).isSome && decide (o ≠ (h + 2) % 4)) := by rw [e]; simp
    rw [List.mem_filter, Bool.and_eq_true] at hx
    exact ⟨x, r, rfl, Option.isSome_iff_exists.mp hx.2.1, of_decide_eq_true hx.2.2, List.mem_range.mp hx.1⟩
theorem at_vlast {l : List Nat} {m : Nat} (h : l.length = m + 1) : atI (vns l) (-1) = some (vn (l.getD m 0)) := by
  unfold atI
  have e : ixN (vns l).length (-1) = some m := by
    unfold ixN
    rw [List.length_map, if_neg (by decide), if_pos (by omega)]
    simp only [Option.some.injEq]; omega
  rw [e]
  show (vns l)[m]? = _
  rw [List.getElem?_map, List.getElem?_eq_getElem (by omega)]
  simp [List.getD, show m < l.length by omega]
end L2

namespace K57
open PySem L2 PyProof.Rows
variable {P : Program} {w : World} {K : PySem.W.Frag} {mg : Str → Option Value} {base : Heap} {t : Adr}
def spLine : Sp := fun vs H Q _ => ∃ (wa pa ga : Addr) (a b p h : Nat) (kvs gs : List (List Key × V)) (W : Nat → Nat → Option Nat) (come pl : List Nat), vs = [.ref wa, .ref pa, vn p, vn h, .ref ga] ∧ H wa = some (.dT kvs) ∧ DWs kvs W ∧ Net a b W ∧ Come W (a * b) come ∧ a * b ≤ 10 ∧ Plc W come pl ∧ H pa = some (.lst (vns pl)) ∧ H ga = some (.dT gs) ∧ ga ≠ wa ∧ gs.length ≤ 50000 ∧ p ∈ pl ∧ (∃ q, W p h = some q) ∧
  ∀ r H' pts hs gs', H r = none → SameBut1 ga H H' → H' r = some (.lst (vns pts)) → H' ga = some (.dT gs') → gs'.length ≤ gs.length + 80 → Trail W pl pts hs → 0 < hs.length → hs.length ≤ 40 → pts.getD 0 0 = p → pts.getD hs.length 0 ∈ pl →
    (∀ x y : Nat, (valV gs' (kk x y)).isSome = true → (valV gs (kk x y)).isSome = true ∨ x ∉ pl ∨ x = p ∨ x = pts.getD hs.length 0) → Q (.ref r) H'
theorem ok_line (T : Txt K mg t) : FnOk P w K mg base CX0 1 t.a_l_line t.d_l_line ["_law_ways_here", "_law_places", "_law_point", "_law_head", "_law_gone"] spLine := by
  refine T.F_l_line.ok sc_l_line (fun vs H Q E h => ?_) (fun cdv A outer s H vs Q E hr h => ?_)
  · obtain ⟨wa, pa, ga, a, b, p, h, kvs, gs, W, come, pl, rfl, _⟩ := h; rfl
  obtain ⟨wa, pa, ga, a, b, p, h, kvs, gs, W, come, pl, rfl, hw, hW, hN, hC, hab, hP, hpa, hga, ngw, hgl, hp, hph, q⟩ := h
  have nd := sc_l_line.nd
  have hu := hu_of hr
  have nd_l_one_l_ways_here_l_back_l_line_here : (["_law_one", "_law_ways_here", "_law_back", "_law_line_here"] : List Str).Nodup := by decide
  refine ⟨_, (pss_cons (ps_set (i := 5) nd rfl (Or.inr rfl) (pe_lst (pa_cons (pv 2) pa_nil)))
    (pss_cons (ps_while PassesOwn.never (PW.pt (pw_or (pt_cmpR op_eq (pe_callB call_len_seq rfl T.z_len PySem.boot_len (pa_cons (pv 5) pa_nil)) pe_int (nomark _)) (pw_or1 (pt_cmpR op_notIn_seq (pe_ix ix_list (pv 5) (pe_un un_neg pe_int) (fun _ _ => rfl)) (pv 1) rfl)))) (pss_cons (ps_set (i := 6) nd rfl (Or.inl rfl) (pe_ix ix_list (pv 5) (pe_un un_neg pe_int) (fun _ _ => rfl)))
    (pss_cons (ps_dput hu (pv 4) (pe_tup (pa_cons (pv 6) (pa_cons (pv 3) pa_nil))) pe_bl rfl)
    (pss_cons (ps_expr (pe_bm PySem.F.plainAttrs_list PySem.F.slot_list_append PySem.F.type_list_append mt_append (pv 5) (pa_cons (pe_dget hu (pv 0) (pe_tup (pa_cons (pv 6) (pa_cons (pv 3) pa_nil))) (fun _ _ => rfl)) pa_nil)))
    (pss_cons (ps_dput hu (pv 4) (pe_tup (pa_cons (pe_ix ix_list (pv 5) (pe_un un_neg pe_int) (fun _ _ => rfl)) (pa_cons (pe_op op_mod (pe_op op_add (pv 3) pe_int) pe_int) pa_nil))) pe_bl rfl)
    (pss_one (ps_if (pt_cmpR op_notIn_seq (pe_ix ix_list (pv 5) (pe_un un_neg pe_int) (fun _ _ => rfl)) (pv 1) rfl) (pss_cons (ps_set (i := 7) nd rfl (Or.inr rfl) (pe_op op_mod (pe_op op_add (pv 3) pe_int) pe_int))
    (pss_one (ps_set (i := 3) nd rfl (Or.inl rfl) (pe_ix ix_list (pe_comp (N' := ["_law_one", "_law_ways_here", "_law_back", "_law_line_here"]) (js := [none, some 0, some 7, some 5]) rfl (pi_range1 rfl T.z_range (pa_cons pe_int pa_nil)) (fun _ _ _ _ _ => (pg_name (i := 0) nd_l_one_l_ways_here_l_back_l_line_here rfl (Or.inl rfl))) (fun _ _ _ _ _ => (pf_one (PW.pt (pw_and (pt_cmp (pc_din hu (pe_tup (pa_cons (pe_ix (kix_list (K := K) rfl) (pv 3) (pe_un un_neg pe_int) (fun _ _ => rfl)) (pa_cons (pv 0) pa_nil))) (pv 1))) (pw_and1 (pt_cmpR op_ne (pv 0) (pv 2) (nomark _))))))) (fun _ _ _ _ _ => (pv 0))) pe_int (fun _ _ => rfl))))) pss_nil)))))))
    (pss_one (ps_ret (pv 5))))), ?_⟩
  refine ⟨_, rfl, (by show 1 ≤ sizeLine; decide), fun la hla => ?_⟩
  have npg : pa ≠ ga := fun z => by subst z; rw [hga] at hpa; cases hpa
  have nlg : la ≠ ga := fun z => by subst z; rw [hga] at hla; cases hla
  have h2s : 2 ≤ sizeLine := by decide
  let Wv1 : Nat → L2.St → L2.Hp → Prop := fun k σ H4 => ∃ (pts hs : List Nat) (gs' : List (List Key × V)) (hv : Nat), k = 41 - hs.length ∧ Trail W pl pts hs ∧ SameBut1 ga H H4 ∧ H4 la = some (.lst (vns pts)) ∧ H4 ga = some (.dT gs') ∧ gs'.length ≤ gs.length + 2 * hs.length ∧ pts.getD 0 0 = p ∧
      (∀ x y : Nat, (valV gs' (kk x y)).isSome = true → (valV gs (kk x y)).isSome = true ∨ x ∉ pl ∨ x = p ∨ x = pts.getD hs.length 0) ∧ ((hs.length = 0 ∨ pts.getD hs.length 0 ∉ pl) → (∃ r, W (pts.getD hs.length 0) hv = some r) ∧ (0 < hs.length → hv ≠ (hs.getD (hs.length - 1) 0 + 2) % 4)) ∧
      ∃ o1 o2, σ = [some (.ref wa), some (.ref pa), some (vn p), some (vn hv), some (.ref ga), some (.ref la), o1, o2]
  refine ⟨Wv1,
    ⟨_, [p], [], gs, h, rfl, ⟨rfl, fun i hi => (by cases hi), fun i _ hi => (by cases hi), fun i hi => (by cases hi), fun i j hi => (by cases hi), hp⟩, fun b o hb e => (by rw [upd_ne (ne_of_none e hla)]; exact e), upd_same, (by rw [upd_ne (Ne.symm nlg)]; exact hga), Nat.le_refl _, rfl, fun x y z => .inl z, fun _ => ⟨hph, fun z => by cases z⟩, _, _, rfl⟩, ?_⟩
  rintro k σ H4 ⟨pts, hs, gs', hv, rfl, tr, sb, f1, f2, l2, z0, inv, nx, o1, o2, rfl⟩
  have hlen := tr.len
  have h40 := tr.few hN hab
  have hlv : (vns pts).length = hs.length + 1 := by rw [List.length_map]; exact hlen
  have fpa := sb pa _ npg hpa
  have fwa := sb wa _ (Ne.symm ngw) hw
  refine ⟨_, rfl, la, _, rfl, .inl (SqL.of f1), rfl, _, rfl, ?_⟩
  rw [hlv]
  by_cases hc : hs.length = 0 ∨ pts.getD hs.length 0 ∉ pl
  · -- once more
    obtain ⟨⟨r, hr1⟩, hb⟩ := nx hc
    have tr2 := tr.more hN hC hP hr1 (fun z => ⟨hc.resolve_left (fun y => by omega), hb z⟩)
    have hl2 := tr2.len
    simp only [List.length_append, List.length_singleton] at hl2
    have h41 := tr2.few hN hab
    simp only [List.length_append, List.length_singleton] at h41
    have gE : (pts ++ [r]).getD (hs.length + 1) 0 = r := by rw [← hlen]; exact getD_end
    have hv4 := (hN.go _ _ _ hr1).1
    have vl2 : atI (vns (pts ++ [r])) (-1) = some (vn r) := by rw [at_vlast (m := hs.length + 1) (by simp; omega), gE]
    rcases Nat.eq_zero_or_pos hs.length with c0 | c0
    · refine iteTb (by rw [c0]; rfl) (iteT ⟨_, fun σ' H' h => h, ?_⟩)
      refine ⟨_, rfl, _, rfl, la, _, _, _, rfl, rfl, SqL.of f1, at_vlast hlen, ?_⟩
      refine ⟨_, rfl, _, rfl, _, rfl, h2s, fun T1 hT1 => ⟨ga, _, rfl, DPut.t (k := kk (pts.getD hs.length 0) hv) (same_new hT1 _ _ _ f2) upd_same (few' (by omega)), ?_⟩⟩
      have sb2 := (sb.new (o := .tup [vn (pts.getD hs.length 0), vn hv]) hT1).at (o := .dT (putK gs' (kk (pts.getD hs.length 0) hv) (.bl true)))
      have f1b : upd (upd H4 T1 (.tup [vn (pts.getD hs.length 0), vn hv])) ga (.dT (putK gs' (kk (pts.getD hs.length 0) hv) (.bl true))) la = some (.lst (vns pts)) := by rw [upd_ne nlg]; exact same_new hT1 _ _ _ f1
      refine ⟨_, rfl, .inl ⟨rfl, _, SqL.of f1b⟩, _, rfl, _, rfl, _, rfl, h2s, fun T2 hT2 => ⟨wa, vn r, rfl, ?_, la, _, _, rfl, rfl, same_new hT2 _ _ _ f1b, few' (by omega), ?_⟩⟩
      · have dg := DGet.t (k := kk (pts.getD hs.length 0) hv) (same_new hT2 (.tup [vn (pts.getD hs.length 0), vn hv]) _ _ (sb2 wa _ (Ne.symm ngw) hw)) upd_same
        rw [hW.2, hr1] at dg
        exact dg
      rw [vns_app2]
      have sb3 := (sb2.new (o := .tup [vn (pts.getD hs.length 0), vn hv]) hT2).fr (o := .lst (vns (pts ++ [r]))) hla
      have f2c : ∀ {o}, upd (upd (upd (upd H4 T1 (.tup [vn (pts.getD hs.length 0), vn hv])) ga (.dT (putK gs' (kk (pts.getD hs.length 0) hv) (.bl true)))) T2 o) la (.lst (vns (pts ++ [r]))) ga = some (.dT (putK gs' (kk (pts.getD hs.length 0) hv) (.bl true))) := fun {o} => by rw [upd_ne (Ne.symm nlg)]; exact same_new hT2 _ _ _ upd_same
      refine ⟨_, rfl, _, rfl, _, rfl, la, _, _, _, rfl, rfl, SqL.of upd_same, vl2, _, rfl, _, _, rfl, rfl, _, _, rfl, rfl, (by show (0 : Int) < 4; decide), h2s, fun T3 hT3 => ⟨ga, _, rfl, DPut.t (k := kk r ((hv + 2) % 4)) (same_new hT3 _ _ _ f2c) (by rw [upd_same]; show some (HO.tup [vn r, V.int (((hv : Int) + 2) % 4)]) = _; rw [show ((hv : Int) + 2) % 4 = (((hv + 2) % 4 : Nat) : Int) by omega]; rfl) (few' (Nat.lt_of_le_of_lt (length_putK _ _ _) (by omega))), ?_⟩⟩
      have sb4 := (sb3.new (o := .tup [vn r, .int (((hv : Int) + 2) % 4)]) hT3).at (o := .dT (putK (putK gs' (kk (pts.getD hs.length 0) hv) (.bl true)) (kk r ((hv + 2) % 4)) (.bl true)))
      have f1d : ∀ {o'}, upd (upd (upd (upd (upd (upd H4 T1 (.tup [vn (pts.getD hs.length 0), vn hv])) ga (.dT (putK gs' (kk (pts.getD hs.length 0) hv) (.bl true)))) T2 (.tup [vn (pts.getD hs.length 0), vn hv])) la (.lst (vns (pts ++ [r])))) T3 o') ga (.dT (putK (putK gs' (kk (pts.getD hs.length 0) hv) (.bl true)) (kk r ((hv + 2) % 4)) (.bl true))) la = some (.lst (vns (pts ++ [r]))) := fun {o'} => by rw [upd_ne nlg]; exact same_new hT3 _ _ _ upd_same
      have lg2 : (putK (putK gs' (kk (pts.getD hs.length 0) hv) (.bl true)) (kk r ((hv + 2) % 4)) (.bl true)).length ≤ gs.length + 2 * (hs.length + 1) := Nat.le_trans (length_putK _ _ _) (by have := length_putK gs' (kk (pts.getD hs.length 0) hv) (.bl true); omega)
      have z02 : (pts ++ [r]).getD 0 0 = p := by rw [getD_app (by omega)]; exact z0
      have inv2 : ∀ x y : Nat, (valV (putK (putK gs' (kk (pts.getD hs.length 0) hv) (.bl true)) (kk r ((hv + 2) % 4)) (.bl true)) (kk x y)).isSome = true → (valV gs (kk x y)).isSome = true ∨ x ∉ pl ∨ x = p ∨ x = r := fun x y e => by
        rw [valV_put] at e
        split at e
        · rename_i c; exact .inr (.inr (.inr (kk_inj.mp c).1))
        · have old : x = pts.getD hs.length 0 → (valV gs (kk x y)).isSome = true ∨ x ∉ pl ∨ x = p ∨ x = r := fun ex => by
            rcases hc with y' | y'
            · rw [y', z0] at ex; exact .inr (.inr (.inl ex))
            · rw [ex]; exact .inr (.inl y')
          rw [valV_put] at e
          split at e
          · rename_i c; exact old (kk_inj.mp c).1
          · rcases inv x y e with i1 | i1 | i1 | i1
            · exact .inl i1
            · exact .inr (.inl i1)
            · exact .inr (.inr (.inl i1))
            · exact old i1
      refine ⟨_, rfl, _, rfl, la, _, _, _, rfl, rfl, SqL.of f1d, vl2, _, rfl, pa, _, rfl, .inl (SqL.of (sb4 pa _ npg hpa)), rfl, vns_flat _, _, rfl, ?_⟩
      show if (!inV (vn r) (vns pl)) = true then _ else _
      rw [inV_nat]
      have gH : (hs ++ [hv]).getD hs.length 0 = hv := getD_end
      by_cases hrp : r ∈ pl
      · refine iteFb (by rw [decide_eq_true hrp]; rfl) ⟨41 - (hs.length + 1), by omega, pts ++ [r], hs ++ [hv], _, hv, by simp, tr2, sb4, f1d, upd_same, by simp; exact lg2, z02, by simp only [List.length_append, List.length_singleton]; rw [gE]; exact inv2, fun z => ?_, _, _, rfl⟩
        simp only [List.length_append, List.length_singleton] at z
        rw [gE] at z
        rcases z with z | z
        · omega
        · exact absurd hrp z
      · refine iteTb (by rw [decide_eq_false hrp]; rfl) ⟨_, rfl, _, _, rfl, rfl, _, _, rfl, rfl, (by show (0 : Int) < 4; decide), ?_⟩
        obtain ⟨x, rr, ex, ⟨zz, ezz⟩, nxb, x4⟩ := next_head hN hC hP hr1 hrp
        refine ⟨4, rfl, by decide, by decide, fun D hD => ?_⟩
        refine comp_filt 4 (fun k => vn k) (fun o => (W r o).isSome && decide (o ≠ (hv + 2) % 4)) hD (by decide) (fun j H2 hj _ => hj) (fun H2 _ => Nat.le_refl _) ?_ ?_
        · rintro j H2 y H3 kt kf hj g2 ⟨rfl, rfl⟩ k1 k2
          rw [show (0 : Int) + (j : Int) = (j : Int) by omega]
          refine ⟨(Fills.refl _).set _ rfl, _, rfl, _, rfl, la, _, _, _, rfl, rfl, SqL.of (g2 _ _ f1d), vl2, _, rfl, h2s, fun T4 hT4 => ?_⟩
          have g3 := same_new hT4 (.tup [vn r, vn j])
          refine ⟨_, rfl, wa, _, rfl, DGet.t (k := kk r j) (g3 _ _ (g2 _ _ (sb4 wa _ (Ne.symm ngw) hw))) upd_same, _, rfl, ?_⟩
          rw [hW.2]
          cases ew : W r j with
          | none => exact iteF (iteF (k2 (by rw [ew]; rfl) _ g3))
          | some qq =>
            refine iteT ⟨_, rfl, _, rfl, rfl, _, rfl, ?_⟩
            have ce : (V.int (j : Int) = V.int (((hv : Int) + 2) % 4)) ↔ j = (hv + 2) % 4 := ⟨fun z => by injection z with z; omega, fun z => by rw [z]; first | rfl | (congr 1; omega)⟩
            by_cases cj : j = (hv + 2) % 4
            · exact iteFb (by rw [Bool.not_eq_false', decide_eq_true_iff]; exact ce.mpr cj) (k2 (by rw [ew]; simp [cj]) _ g3)
            · exact iteTb (by rw [Bool.not_eq_true', decide_eq_false_iff_not]; exact fun z => cj (ce.mp z)) ⟨_, rfl, k1 (by rw [ew]; simpa using cj) _ g3⟩
        · intro H5 g5 e5
          rw [ex] at e5
          refine ⟨D, _, _, _, rfl, rfl, SqL.of e5, (show atI (List.map (fun k => vn k) (x :: rr)) ((0 : Nat) : Int) = some (vn x) from atI_nat rfl), ?_⟩
          refine ⟨41 - (hs.length + 1), by omega, pts ++ [r], hs ++ [hv], _, x, by simp, tr2, fun b o hb e => g5 _ _ (sb4 b o hb e), g5 _ _ f1d, g5 _ _ upd_same, by simp; exact lg2, z02, by simp only [List.length_append, List.length_singleton]; rw [gE]; exact inv2, fun _ => ?_, _, _, rfl⟩
          simp only [List.length_append, List.length_singleton, Nat.add_sub_cancel]
          rw [gE, gH]
          exact ⟨⟨zz, ezz⟩, fun _ => nxb⟩
    · have hnp : pts.getD hs.length 0 ∉ pl := hc.resolve_left (fun y => by omega)
      refine iteFb (decide_eq_false (fun z => by injection z with z; omega)) ⟨_, rfl, _, rfl, la, _, _, _, rfl, rfl, SqL.of f1, at_vlast hlen, _, rfl, pa, _, rfl, .inl (SqL.of fpa), rfl, vns_flat _, _, rfl, iteTb ?_ ⟨_, fun σ' H' h => h, ?_⟩⟩
      · show (!inV (vn (pts.getD hs.length 0)) (vns pl)) = true
        rw [inV_nat, decide_eq_false hnp]; rfl
      refine ⟨_, rfl, _, rfl, la, _, _, _, rfl, rfl, SqL.of f1, at_vlast hlen, ?_⟩
      refine ⟨_, rfl, _, rfl, _, rfl, h2s, fun T1 hT1 => ⟨ga, _, rfl, DPut.t (k := kk (pts.getD hs.length 0) hv) (same_new hT1 _ _ _ f2) upd_same (few' (by omega)), ?_⟩⟩
      have sb2 := (sb.new (o := .tup [vn (pts.getD hs.length 0), vn hv]) hT1).at (o := .dT (putK gs' (kk (pts.getD hs.length 0) hv) (.bl true)))
      have f1b : upd (upd H4 T1 (.tup [vn (pts.getD hs.length 0), vn hv])) ga (.dT (putK gs' (kk (pts.getD hs.length 0) hv) (.bl true))) la = some (.lst (vns pts)) := by rw [upd_ne nlg]; exact same_new hT1 _ _ _ f1
      refine ⟨_, rfl, .inl ⟨rfl, _, SqL.of f1b⟩, _, rfl, _, rfl, _, rfl, h2s, fun T2 hT2 => ⟨wa, vn r, rfl, ?_, la, _, _, rfl, rfl, same_new hT2 _ _ _ f1b, few' (by omega), ?_⟩⟩
      · have dg := DGet.t (k := kk (pts.getD hs.length 0) hv) (same_new hT2 (.tup [vn (pts.getD hs.length 0), vn hv]) _ _ (sb2 wa _ (Ne.symm ngw) hw)) upd_same
        rw [hW.2, hr1] at dg
        exact dg
      rw [vns_app2]
      have sb3 := (sb2.new (o := .tup [vn (pts.getD hs.length 0), vn hv]) hT2).fr (o := .lst (vns (pts ++ [r]))) hla
      have f2c : ∀ {o}, upd (upd (upd (upd H4 T1 (.tup [vn (pts.getD hs.length 0), vn hv])) ga (.dT (putK gs' (kk (pts.getD hs.length 0) hv) (.bl true)))) T2 o) la (.lst (vns (pts ++ [r]))) ga = some (.dT (putK gs' (kk (pts.getD hs.length 0) hv) (.bl true))) := fun {o} => by rw [upd_ne (Ne.symm nlg)]; exact same_new hT2 _ _ _ upd_same
      refine ⟨_, rfl, _, rfl, _, rfl, la, _, _, _, rfl, rfl, SqL.of upd_same, vl2, _, rfl, _, _, rfl, rfl, _, _, rfl, rfl, (by show (0 : Int) < 4; decide), h2s, fun T3 hT3 => ⟨ga, _, rfl, DPut.t (k := kk r ((hv + 2) % 4)) (same_new hT3 _ _ _ f2c) (by rw [upd_same]; show some (HO.tup [vn r, V.int (((hv : Int) + 2) % 4)]) = _; rw [show ((hv : Int) + 2) % 4 = (((hv + 2) % 4 : Nat) : Int) by omega]; rfl) (few' (Nat.lt_of_le_of_lt (length_putK _ _ _) (by omega))), ?_⟩⟩
      have sb4 := (sb3.new (o := .tup [vn r, .int (((hv : Int) + 2) % 4)]) hT3).at (o := .dT (putK (putK gs' (kk (pts.getD hs.length 0) hv) (.bl true)) (kk r ((hv + 2) % 4)) (.bl true)))
      have f1d : ∀ {o'}, upd (upd (upd (upd (upd (upd H4 T1 (.tup [vn (pts.getD hs.length 0), vn hv])) ga (.dT (putK gs' (kk (pts.getD hs.length 0) hv) (.bl true)))) T2 (.tup [vn (pts.getD hs.length 0), vn hv])) la (.lst (vns (pts ++ [r])))) T3 o') ga (.dT (putK (putK gs' (kk (pts.getD hs.length 0) hv) (.bl true)) (kk r ((hv + 2) % 4)) (.bl true))) la = some (.lst (vns (pts ++ [r]))) := fun {o'} => by rw [upd_ne nlg]; exact same_new hT3 _ _ _ upd_same
      have lg2 : (putK (putK gs' (kk (pts.getD hs.length 0) hv) (.bl true)) (kk r ((hv + 2) % 4)) (.bl true)).length ≤ gs.length + 2 * (hs.length + 1) := Nat.le_trans (length_putK _ _ _) (by have := length_putK gs' (kk (pts.getD hs.length 0) hv) (.bl true); omega)
      have z02 : (pts ++ [r]).getD 0 0 = p := by rw [getD_app (by omega)]; exact z0
      have inv2 : ∀ x y : Nat, (valV (putK (putK gs' (kk (pts.getD hs.length 0) hv) (.bl true)) (kk r ((hv + 2) % 4)) (.bl true)) (kk x y)).isSome = true → (valV gs (kk x y)).isSome = true ∨ x ∉ pl ∨ x = p ∨ x = r := fun x y e => by
        rw [valV_put] at e
        split at e
        · rename_i c; exact .inr (.inr (.inr (kk_inj.mp c).1))
        · have old : x = pts.getD hs.length 0 → (valV gs (kk x y)).isSome = true ∨ x ∉ pl ∨ x = p ∨ x = r := fun ex => by
            rcases hc with y' | y'
            · rw [y', z0] at ex; exact .inr (.inr (.inl ex))
            · rw [ex]; exact .inr (.inl y')
          rw [valV_put] at e
          split at e
          · rename_i c; exact old (kk_inj.mp c).1
          · rcases inv x y e with i1 | i1 | i1 | i1
            · exact .inl i1
            · exact .inr (.inl i1)
            · exact .inr (.inr (.inl i1))
            · exact old i1
      refine ⟨_, rfl, _, rfl, la, _, _, _, rfl, rfl, SqL.of f1d, vl2, _, rfl, pa, _, rfl, .inl (SqL.of (sb4 pa _ npg hpa)), rfl, vns_flat _, _, rfl, ?_⟩
      show if (!inV (vn r) (vns pl)) = true then _ else _
      rw [inV_nat]
      have gH : (hs ++ [hv]).getD hs.length 0 = hv := getD_end
      by_cases hrp : r ∈ pl
      · refine iteFb (by rw [decide_eq_true hrp]; rfl) ⟨41 - (hs.length + 1), by omega, pts ++ [r], hs ++ [hv], _, hv, by simp, tr2, sb4, f1d, upd_same, by simp; exact lg2, z02, by simp only [List.length_append, List.length_singleton]; rw [gE]; exact inv2, fun z => ?_, _, _, rfl⟩
        simp only [List.length_append, List.length_singleton] at z
        rw [gE] at z
        rcases z with z | z
        · omega
        · exact absurd hrp z
      · refine iteTb (by rw [decide_eq_false hrp]; rfl) ⟨_, rfl, _, _, rfl, rfl, _, _, rfl, rfl, (by show (0 : Int) < 4; decide), ?_⟩
        obtain ⟨x, rr, ex, ⟨zz, ezz⟩, nxb, x4⟩ := next_head hN hC hP hr1 hrp
        refine ⟨4, rfl, by decide, by decide, fun D hD => ?_⟩
        refine comp_filt 4 (fun k => vn k) (fun o => (W r o).isSome && decide (o ≠ (hv + 2) % 4)) hD (by decide) (fun j H2 hj _ => hj) (fun H2 _ => Nat.le_refl _) ?_ ?_
        · rintro j H2 y H3 kt kf hj g2 ⟨rfl, rfl⟩ k1 k2
          rw [show (0 : Int) + (j : Int) = (j : Int) by omega]
          refine ⟨(Fills.refl _).set _ rfl, _, rfl, _, rfl, la, _, _, _, rfl, rfl, SqL.of (g2 _ _ f1d), vl2, _, rfl, h2s, fun T4 hT4 => ?_⟩
          have g3 := same_new hT4 (.tup [vn r, vn j])
          refine ⟨_, rfl, wa, _, rfl, DGet.t (k := kk r j) (g3 _ _ (g2 _ _ (sb4 wa _ (Ne.symm ngw) hw))) upd_same, _, rfl, ?_⟩
          rw [hW.2]
          cases ew : W r j with
          | none => exact iteF (iteF (k2 (by rw [ew]; rfl) _ g3))
          | some qq =>
            refine iteT ⟨_, rfl, _, rfl, rfl, _, rfl, ?_⟩
            have ce : (V.int (j : Int) = V.int (((hv : Int) + 2) % 4)) ↔ j = (hv + 2) % 4 := ⟨fun z => by injection z with z; omega, fun z => by rw [z]; first | rfl | (congr 1; omega)⟩
            by_cases cj : j = (hv + 2) % 4
            · exact iteFb (by rw [Bool.not_eq_false', decide_eq_true_iff]; exact ce.mpr cj) (k2 (by rw [ew]; simp [cj]) _ g3)
            · exact iteTb (by rw [Bool.not_eq_true', decide_eq_false_iff_not]; exact fun z => cj (ce.mp z)) ⟨_, rfl, k1 (by rw [ew]; simpa using cj) _ g3⟩
        · intro H5 g5 e5
          rw [ex] at e5
          refine ⟨D, _, _, _, rfl, rfl, SqL.of e5, (show atI (List.map (fun k => vn k) (x :: rr)) ((0 : Nat) : Int) = some (vn x) from atI_nat rfl), ?_⟩
          refine ⟨41 - (hs.length + 1), by omega, pts ++ [r], hs ++ [hv], _, x, by simp, tr2, fun b o hb e => g5 _ _ (sb4 b o hb e), g5 _ _ f1d, g5 _ _ upd_same, by simp; exact lg2, z02, by simp only [List.length_append, List.length_singleton]; rw [gE]; exact inv2, fun _ => ?_, _, _, rfl⟩
          simp only [List.length_append, List.length_singleton, Nat.add_sub_cancel]
          rw [gE, gH]
          exact ⟨⟨zz, ezz⟩, fun _ => nxb⟩
  · have c1 : ¬ (hs.length = 0) := fun z => hc (.inl z)
    have c2 : pts.getD hs.length 0 ∈ pl := Decidable.byContradiction fun z => hc (.inr z)
    refine iteFb (decide_eq_false (fun z => by injection z with z; omega)) ⟨_, rfl, _, rfl, la, _, _, _, rfl, rfl, SqL.of f1, at_vlast hlen, _, rfl, pa, _, rfl, .inl (SqL.of fpa), rfl, vns_flat _, _, rfl, iteFb ?_ ?_⟩
    · show (!inV (vn (pts.getD hs.length 0)) (vns pl)) = false
      rw [inV_nat, decide_eq_true c2]; rfl
    · exact ⟨_, rfl, q la H4 pts hs gs' hla sb f1 f2 (by omega) tr (by omega) h40 z0 c2 inv⟩
end K57

namespace L2
open PySem PySem.Spec PyProof.Rows
theorem comp_pts {J : It} {js : List (Option Nat)} {σ : St} {H1 : Hp} {R : Hp → Prop} {D : Addr} {g : TG} {te : TE} (ps : List Pt) (hD : H1 D = none) (hn : ps.length ≤ 90000)
    (go : ∀ i H', i < ps.length → Same H1 H' → J.go i H') (stop : ∀ H', Same H1 H' → J.stop ps.length H')
    (hs : ∀ i H' v H'' (k : V → Hp → Prop), i < ps.length → Same H1 H' → J.yld i H' v H'' → (∀ u H4, Same H' H4 → PtAt H4 u (pt ps i) → k u H4) → g v (inner js σ) H'' fun σ2 H2 => Fills (inner js σ) σ2 ∧ te σ2 H2 k)
    (hd : ∀ H', Same H1 H' → PsAt H' D ps → R H') :
    ∃ W : Nat → Nat → List V → Hp → Prop, (∃ m, W 0 m [] (upd H1 D (.lst []))) ∧
      ∀ i m ys H, W i m ys H → (J.stop i H ∧ R H) ∨ (J.go i H ∧ ∃ N : List V → Hp → Prop, (∀ ys' H', N ys' H' → ∃ m', m' < m ∧ W (i + 1) m' ys' H') ∧ ∀ x H', J.yld i H x H' → g x (inner js σ) H' fun σ2 H2 => Fills (inner js σ) σ2 ∧ tTrue σ2 H2 fun b H3 =>
        if b = true then te σ2 H3 fun y H4 => H4 D = some (.lst ys) ∧ ys.length < sizeLine ∧ N (ys ++ [y]) (upd H4 D (.lst (ys ++ [y]))) else N ys H3) := by
  refine comp_map ps.length (fun i ys H' => ys.length = i ∧ Same H1 H' ∧ H' D = some (.lst ys) ∧ ∀ (j : Nat) v, ys[j]? = some v → PtAt H' v (pt ps j)) ⟨rfl, same_new hD _, upd_same, fun j v h => by simp at h⟩ ?_ ?_
  · rintro i ys H' hi ⟨hl, g1, e, hp⟩
    refine ⟨go i H' hi g1, fun x H'' y => hs i H' x H'' _ hi g1 y fun u H4 g4 hu => ⟨g4 _ _ e, few' (by omega), by simp [hl], (g1.trans g4).upd hD, upd_same, fun j v h => ?_⟩⟩
    have m : ∀ {v : V} {p : Pt}, PtAt H4 v p → PtAt (upd H4 D (.lst (ys ++ [u]))) v p := fun {v p} ⟨a, ea, ha⟩ => ⟨a, ea, by rw [upd_ne (ne_of ha (g4 _ _ e) (fun z => by cases z))]; exact ha⟩
    rcases Nat.lt_or_ge j ys.length with z | z
    · rw [List.getElem?_append_left z] at h
      exact m (PtAt.mono g4 _ _ (hp j v h))
    · rw [List.getElem?_append_right z] at h
      have hj : j - ys.length = 0 := by
        have := (List.getElem?_eq_some_iff.mp h).1
        simp at this; omega
      rw [hj] at h
      simp at h
      subst h
      rw [show j = i by omega]
      exact m hu
  · rintro ys H' ⟨hl, g1, e, hp⟩
    refine ⟨stop H' g1, hd H' g1 ⟨ys, e, hl, fun j v x h1 h2 => ?_⟩⟩
    have : j < ps.length := (List.getElem?_eq_some_iff.mp h2).1
    rw [pt_get this] at h2
    cases h2
    exact hp j v h1
structure Path (a b : Nat) (pts : List Nat) (hs : Nat → Nat) : Prop where
  l2 : 2 ≤ pts.length
  l50 : pts.length ≤ 50
  lt : ∀ i, i < pts.length → pts.getD i 0 < a * b
  go : ∀ k, k + 1 < pts.length → hs k < 4 ∧ Go a b (hs k) (pts.getD k 0) (pts.getD (k + 1) 0)
  on : ∀ k, k + 2 < pts.length → hs (k + 1) ≠ (hs k + 2) % 4
theorem Trail.path {a b : Nat} {W : Nat → Nat → Option Nat} {pl pts hs : List Nat} (n : Net a b W) (t : Trail W pl pts hs) (h0 : 0 < hs.length) (h40 : hs.length ≤ 40) : Path a b pts (fun k => hs.getD k 0) where
  l2 := by rw [t.len]; omega
  l50 := by rw [t.len]; omega
  lt := fun i hi => by
    rw [t.len] at hi
    rcases Nat.lt_or_ge i hs.length with z | z
    · exact (n.go _ _ _ (t.go i z)).2.1
    · have := (n.go _ _ _ (t.go (hs.length - 1) (by omega))).2.2.1
      rw [show hs.length - 1 + 1 = i by omega] at this
      exact this
  go := fun k hk => by
    rw [t.len] at hk
    have := n.go _ _ _ (t.go k (by omega))
    exact ⟨this.1, this.2.2.2⟩
  on := fun k hk => by rw [t.len] at hk; exact t.on k (by omega)
theorem getD_rev {l : List Nat} {i : Nat} (h : i < l.length) : l.reverse.getD i 0 = l.getD (l.length - 1 - i) 0 := by
  simp only [List.getD, List.getElem?_reverse h]
theorem Path.rev {a b : Nat} {pts : List Nat} {hs : Nat → Nat} (p : Path a b pts hs) : Path a b pts.reverse (fun k => (hs (pts.length - 2 - k) + 2) % 4) where
  l2 := by rw [List.length_reverse]; exact p.l2
  l50 := by rw [List.length_reverse]; exact p.l50
  lt := fun i hi => by rw [List.length_reverse] at hi; rw [getD_rev hi]; exact p.lt _ (by omega)
  go := fun k hk => by
    rw [List.length_reverse] at hk
    rw [getD_rev (by omega), getD_rev hk]
    have := (p.go (pts.length - 2 - k) (by omega)).2.sym
    rw [show pts.length - 2 - k + 1 = pts.length - 1 - k by omega] at this
    rw [show pts.length - 1 - (k + 1) = pts.length - 2 - k by omega]
    exact ⟨by omega, this⟩
  on := fun k hk => by
    rw [List.length_reverse] at hk
    have o := p.on (pts.length - 2 - (k + 1)) (by omega)
    have h1 := (p.go (pts.length - 2 - k) (by omega)).1
    have h2 := (p.go (pts.length - 2 - (k + 1)) (by omega)).1
    rw [show pts.length - 2 - (k + 1) + 1 = pts.length - 2 - k by omega] at o
    intro z
    exact o (by omega)
def Rise (l : List Int) : Prop := l.length = 5 ∧ (∀ j, j + 1 < 5 → at0 l j < at0 l (j + 1)) ∧ ∀ j, j < 5 → -2 ≤ at0 l j ∧ at0 l j ≤ 2 + 3 * (j : Int)
def pm (a : Nat) (xl yl : List Int) (q : Nat) : Pt := (at0 xl (q % a), at0 yl (q / a))
theorem mod1 {a p : Nat} (ha : 0 < a) (h : p % a + 1 < a) : (p + 1) % a = p % a + 1 ∧ (p + 1) / a = p / a := by
  have e : p + 1 = (p % a + 1) + a * (p / a) := by have := Nat.div_add_mod p a; omega
  constructor
  · rw [e, Nat.add_mul_mod_self_left, Nat.mod_eq_of_lt h]
  · rw [e, Nat.add_mul_div_left _ _ ha, Nat.div_eq_of_lt h, Nat.zero_add]
theorem Path.walk {a b : Nat} {pts : List Nat} {hs : Nat → Nat} {xl yl : List Int} (p : Path a b pts hs) (hx : Rise xl) (hy : Rise yl) (ha : 0 < a) (ha5 : a ≤ 5) (hb5 : b ≤ 5) : Walk (pts.map (pm a xl yl)) hs where
  len := by rw [List.length_map]; exact p.l2
  few := by rw [List.length_map]; have := p.l50; omega
  go := fun k hk => by
    rw [List.length_map] at hk
    have e : ∀ {i}, i < pts.length → pt (pts.map (pm a xl yl)) i = pm a xl yl (pts.getD i 0) := fun {i} hi => by
      unfold pt; simp [List.getD, hi]
    rw [e (by omega), e hk]
    have g := (p.go k hk).2
    have l1 := p.lt k (by omega)
    have l2 := p.lt (k + 1) hk
    generalize pts.getD k 0 = u at g l1 ⊢
    generalize pts.getD (k + 1) 0 = v at g l2 ⊢
    have d1 := div_lt l1 ha
    have d2 := div_lt l2 ha
    unfold ahead pm
    dsimp only
    rcases g with ⟨h, h1, rfl⟩ | ⟨h, h1, rfl⟩ | ⟨h, h1, rfl⟩ | ⟨h, h1, rfl⟩
    · obtain ⟨m1, m2⟩ := mod1 ha h1
      refine .inl ⟨h, by rw [m2], ?_⟩
      rw [m1]; exact hx.2.1 _ (by omega)
    · refine .inr (.inl ⟨h, by rw [Nat.add_mod_right], ?_⟩)
      rw [Nat.add_div_right _ ha]; exact hy.2.1 _ (by omega)
    · obtain ⟨m1, m2⟩ := mod1 ha h1
      refine .inr (.inr (.inl ⟨h, by rw [m2], ?_⟩))
      rw [m1]; exact hx.2.1 _ (by omega)
    · refine .inr (.inr (.inr ⟨h, by rw [Nat.add_mod_right], ?_⟩))
      rw [Nat.add_div_right _ ha]; exact hy.2.1 _ (by omega)
  on := fun k hk => by rw [List.length_map] at hk; exact p.on k hk
theorem pm_bdd {a b : Nat} {pts : List Nat} {xl yl : List Int} (hx : Rise xl) (ha : 0 < a) (ha5 : a ≤ 5) : Bdd (pts.map (pm a xl yl)) := by
  intro k hk
  rw [List.length_map] at hk
  have e : pt (pts.map (pm a xl yl)) k = pm a xl yl (pts.getD k 0) := by unfold pt; simp [List.getD, hk]
  have m := Nat.mod_lt (pts.getD k 0) ha
  have := hx.2.2 (pts.getD k 0 % a) (by omega)
  rw [e]
  unfold pm
  dsimp only
  omega
def F3 (x y z : Addr) (H H' : Hp) : Prop := ∀ b o, b ≠ x → b ≠ y → b ≠ z → H b = some o → H' b = some o
theorem F3.refl (x y z : Addr) (H : Hp) : F3 x y z H H := fun _ _ _ _ _ e => e
theorem F3.trans {x y z : Addr} {H H1 H2 : Hp} (a : F3 x y z H H1) (b : F3 x y z H1 H2) : F3 x y z H H2 := fun c o h1 h2 h3 e => b c o h1 h2 h3 (a c o h1 h2 h3 e)
theorem Same.f3 {x y z : Addr} {H H' : Hp} (g : Same H H') : F3 x y z H H' := fun b o _ _ _ e => g b o e
theorem SameBut1.f3 {x y z : Addr} {H H' : Hp} (g : SameBut1 x H H') : F3 x y z H H' := fun b o h _ _ e => g b o h e
theorem F3.u2 {x y z : Addr} {H : Hp} {o : HO} : F3 x y z H (upd H y o) := fun b u _ h _ e => by rw [upd_ne h]; exact e
theorem F3.u3 {x y z : Addr} {H : Hp} {o : HO} : F3 x y z H (upd H z o) := fun b u _ _ h e => by rw [upd_ne h]; exact e
def TyI (H : Hp) (tr : List Addr) (ts : MM.Ties) : Prop := tr.length = ts.length ∧ ∀ (i : Nat) t, ts[i]? = some t → ∃ r, tr[i]? = some r ∧ H r = some (.tup [vn t.1, vn t.2])
def LnI (y z : Addr) (H : Hp) (lr : List Addr) (ll : List (List Pt)) : Prop := lr.length = ll.length ∧ ∀ (i : Nat) ps, ll[i]? = some ps → ∃ l, lr[i]? = some l ∧ l ≠ y ∧ l ≠ z ∧ PsAt H l ps
section
variable {x y z : Addr} {H H' : Hp} {gs : List (List Key × V)} {us ws : List V}
theorem F3.tup (f : F3 x y z H H') (k1 : H x = some (.dT gs)) (k2 : H y = some (.lst us)) (k3 : H z = some (.lst ws)) {r : Addr} {xs : List V} (h : H r = some (.tup xs)) : H' r = some (.tup xs) :=
  f r _ (ne_of h k1 (fun e => by cases e)) (ne_of h k2 (fun e => by cases e)) (ne_of h k3 (fun e => by cases e)) h
theorem TyI.f3 {tr : List Addr} {ts : MM.Ties} (t : TyI H tr ts) (f : F3 x y z H H') (k1 : H x = some (.dT gs)) (k2 : H y = some (.lst us)) (k3 : H z = some (.lst ws)) : TyI H' tr ts :=
  ⟨t.1, fun i s h => let ⟨r, e1, e2⟩ := t.2 i s h; ⟨r, e1, f.tup k1 k2 k3 e2⟩⟩
theorem LnI.f3 {lr : List Addr} {ll : List (List Pt)} (t : LnI y z H lr ll) (f : F3 x y z H H') (k1 : H x = some (.dT gs)) (k2 : H y = some (.lst us)) (k3 : H z = some (.lst ws)) : LnI y z H' lr ll :=
  ⟨t.1, fun i ps h => by
    obtain ⟨l, e1, e2, e3, vs, v1, v2, v3⟩ := t.2 i ps h
    refine ⟨l, e1, e2, e3, vs, f l _ (ne_of v1 k1 (fun e => by cases e)) e2 e3 v1, v2, fun j v p h1 h2 => ?_⟩
    obtain ⟨a, ea, ha⟩ := v3 j v p h1 h2
    exact ⟨a, ea, f.tup k1 k2 k3 ha⟩⟩
end
theorem TyI.app {H : Hp} {tr : List Addr} {ts : MM.Ties} (t : TyI H tr ts) {r : Addr} {s : Nat × Nat} (h : H r = some (.tup [vn s.1, vn s.2])) : TyI H (tr ++ [r]) (ts ++ [s]) := by
  refine ⟨by simp [t.1], fun i u hu => ?_⟩
  rcases Nat.lt_or_ge i ts.length with z | z
  · rw [List.getElem?_append_left z] at hu
    rw [List.getElem?_append_left (by rw [t.1]; exact z)]
    exact t.2 i u hu
  · rw [List.getElem?_append_right z] at hu
    have hi : i - ts.length = 0 := by
      have := (List.getElem?_eq_some_iff.mp hu).1
      simp at this; omega
    rw [hi] at hu
    simp at hu; subst hu
    exact ⟨r, by rw [List.getElem?_append_right (by rw [t.1]; exact z), t.1, hi]; rfl, h⟩
theorem LnI.app {y z : Addr} {H : Hp} {lr : List Addr} {ll : List (List Pt)} (t : LnI y z H lr ll) {l : Addr} {ps : List Pt} (h1 : l ≠ y) (h2 : l ≠ z) (h : PsAt H l ps) : LnI y z H (lr ++ [l]) (ll ++ [ps]) := by
  refine ⟨by simp [t.1], fun i u hu => ?_⟩
  rcases Nat.lt_or_ge i ll.length with z | z
  · rw [List.getElem?_append_left z] at hu
    rw [List.getElem?_append_left (by rw [t.1]; exact z)]
    exact t.2 i u hu
  · rw [List.getElem?_append_right z] at hu
    have hi : i - ll.length = 0 := by
      have := (List.getElem?_eq_some_iff.mp hu).1
      simp at this; omega
    rw [hi] at hu
    simp at hu; subst hu
    exact ⟨l, by rw [List.getElem?_append_right (by rw [t.1]; exact z), t.1, hi]; rfl, h1, h2, h⟩
theorem LnI.ls {y z : Addr} {H : Hp} {lr : List Addr} {ll : List (List Pt)} (t : LnI y z H lr ll) {l : Addr} (h : H l = some (.lst (lr.map V.ref))) : LsAt H l ll := by
  refine ⟨_, h, by rw [List.length_map]; exact t.1, fun i v ps h1 h2 => ?_⟩
  obtain ⟨l', e1, _, _, e4⟩ := t.2 i ps h2
  rw [List.getElem?_map, e1] at h1
  cases h1
  exact ⟨l', rfl, e4⟩
theorem TyI.ts {H : Hp} {tr : List Addr} {ts : MM.Ties} (t : TyI H tr ts) {l : Addr} (h : H l = some (.lst (tr.map V.ref))) : TsAt H l ts := ⟨tr, h, t.1, t.2⟩
theorem place_app {ts : MM.Ties} {s : Nat × Nat} {e : Nat} (h : e < 2 * ts.length) : MM.place (ts ++ [s]) e = MM.place ts e := by
  unfold MM.place
  have : e / 2 < ts.length := by omega
  simp only [List.getD, List.getElem?_append_left this]
theorem place_l (ts : MM.Ties) (s : Nat × Nat) : MM.place (ts ++ [s]) (2 * ts.length) = s.1 := by
  unfold MM.place
  rw [if_pos (by omega), show 2 * ts.length / 2 = ts.length by omega]
  simp [List.getD]
theorem place_r (ts : MM.Ties) (s : Nat × Nat) : MM.place (ts ++ [s]) (2 * ts.length + 1) = s.2 := by
  unfold MM.place
  rw [if_neg (by omega), show (2 * ts.length + 1) / 2 = ts.length by omega]
  simp [List.getD]
theorem place_lt {ts : MM.Ties} {n e : Nat} (h : ∀ t ∈ ts, t.1 < n ∧ t.2 < n) (he : e < 2 * ts.length) : MM.place ts e < n := by
  have hi : e / 2 < ts.length := by omega
  have := h ts[e / 2] (List.getElem_mem hi)
  unfold MM.place
  simp only [List.getD, List.getElem?_eq_getElem hi, Option.getD_some]
  split
  · exact this.1
  · exact this.2
theorem idx_at {pl : List Nat} (nd : pl.Nodup) {i : Nat} (h : i < pl.length) : pl.idxOf (pl.getD i 0) = i := by
  simp only [List.getD, List.getElem?_eq_getElem h, Option.getD_some]
  exact nd.idxOf_getElem i h
structure Lp (pl : List Nat) (ga ta na : Addr) (H5 H' : Hp) (tr lr : List Addr) (ts : MM.Ties) (ll : List (List Pt)) (gs : List (List Key × V)) : Prop where
  f : F3 ga ta na H5 H'
  tA : H' ta = some (.lst (tr.map V.ref))
  tI : TyI H' tr ts
  lA : H' na = some (.lst (lr.map V.ref))
  lI : LnI ta na H' lr ll
  gA : H' ga = some (.dT gs)
  gl : gs.length ≤ 80 * ts.length
  ln : ll.length = ts.length
  pt : ∀ t ∈ ts, t.1 < pl.length ∧ t.2 < pl.length
  li : ∀ ps ∈ ll, Line ps ∧ Bdd ps
  gi : ∀ x y : Nat, (valV gs (kk x y)).isSome = true → x ∈ pl → ∃ e, e < 2 * ts.length ∧ MM.place ts e = pl.idxOf x
theorem Lp.same {pl : List Nat} {ga ta na : Addr} {H5 H' H2 : Hp} {tr lr : List Addr} {ts : MM.Ties} {ll : List (List Pt)} {gs : List (List Key × V)} (p : Lp pl ga ta na H5 H' tr lr ts ll gs) (g : Same H' H2) : Lp pl ga ta na H5 H2 tr lr ts ll gs :=
  ⟨p.f.trans g.f3, g _ _ p.tA, p.tI.f3 (g.f3 (x := ga) (y := ta) (z := na)) p.gA p.tA p.lA, g _ _ p.lA, p.lI.f3 (g.f3 (x := ga)) p.gA p.tA p.lA, g _ _ p.gA, p.gl, p.ln, p.pt, p.li, p.gi⟩
end L2

namespace L2
open PySem PySem.Spec PyProof.Rows
theorem Lst.f3 {x y z : Addr} {H H' : Hp} {gs : List (List Key × V)} {us ws : List V} {l : Addr} {ps : List Pt} (h : PsAt H l ps) (f : F3 x y z H H') (k1 : H x = some (.dT gs)) (k2 : H y = some (.lst us)) (k3 : H z = some (.lst ws)) (h1 : l ≠ y) (h2 : l ≠ z) : PsAt H' l ps := by
  obtain ⟨vs, v1, v2, v3⟩ := h
  refine ⟨vs, f l _ (ne_of v1 k1 (fun e => by cases e)) h1 h2 v1, v2, fun j v p h1 h2 => ?_⟩
  obtain ⟨a, ea, ha⟩ := v3 j v p h1 h2
  exact ⟨a, ea, f.tup k1 k2 k3 ha⟩
theorem Lp.step {pl : List Nat} {ga ta na : Addr} {H5 H6 HE : Hp} {tr lr : List Addr} {ts : MM.Ties} {ll : List (List Pt)} {gs gs' : List (List Key × V)} (p : Lp pl ga ta na H5 H6 tr lr ts ll gs) (f : F3 ga ta na H6 HE) {T3 r2 : Addr} {x y : Nat} {kp : List Pt}
    (e1 : HE ta = some (.lst (tr.map V.ref ++ [.ref T3]))) (e2 : HE T3 = some (.tup [vn x, vn y])) (e3 : HE na = some (.lst (lr.map V.ref ++ [.ref r2]))) (n1 : r2 ≠ ta) (n2 : r2 ≠ na) (e4 : PsAt HE r2 kp) (e5 : HE ga = some (.dT gs')) (hl : gs'.length ≤ gs.length + 80)
    (hx : x < pl.length) (hy : y < pl.length) (hk : Line kp ∧ Bdd kp) (gi : ∀ u v : Nat, (valV gs' (kk u v)).isSome = true → (valV gs (kk u v)).isSome = true ∨ u ∉ pl ∨ pl.idxOf u = x ∨ pl.idxOf u = y) :
    Lp pl ga ta na H5 HE (tr ++ [T3]) (lr ++ [r2]) (ts ++ [(x, y)]) (ll ++ [kp]) gs' where
  f := p.f.trans f
  tA := by rw [e1, List.map_append]; rfl
  tI := (p.tI.f3 f p.gA p.tA p.lA).app e2
  lA := by rw [e3, List.map_append]; rfl
  lI := (p.lI.f3 f p.gA p.tA p.lA).app n1 n2 e4
  gA := e5
  gl := by have := p.gl; simp; omega
  ln := by have := p.ln; simp; omega
  pt := fun t ht => by
    rcases List.mem_append.mp ht with z | z
    · exact p.pt t z
    · rw [List.mem_singleton.mp z]; exact ⟨hx, hy⟩
  li := fun ps hps => by
    rcases List.mem_append.mp hps with z | z
    · exact p.li ps z
    · rw [List.mem_singleton.mp z]; exact hk
  gi := fun u v e hu => by
    rcases gi u v e with z | z | z | z
    · obtain ⟨i, h1, h2⟩ := p.gi u v z hu
      exact ⟨i, by simp only [List.length_append, List.length_singleton]; omega, by rw [place_app h1]; exact h2⟩
    · exact absurd hu z
    · exact ⟨2 * ts.length, by simp only [List.length_append, List.length_singleton]; omega, by rw [place_l]; exact z.symm⟩
    · exact ⟨2 * ts.length + 1, by simp only [List.length_append, List.length_singleton]; omega, by rw [place_r]; exact z.symm⟩
end L2
namespace L2
open PySem PySem.Spec PyProof.Rows
def dec (H : Hp) (q : Addr) : List Int := match H q with
  | some (.tup [.int x, .int y]) => [x, y]
  | _ => []
theorem dec_is {H : Hp} {q : Addr} {x y : Int} (h : H q = some (.tup [.int x, .int y])) : dec H q = [x, y] := by unfold dec; rw [h]
theorem Lst.refs {H : Hp} {l : Addr} {ps : List Pt} (h : PsAt H l ps) : ∃ as : List Addr, H l = some (.lst (as.map V.ref)) ∧ as.length = ps.length ∧ ∀ (i : Nat) a, as[i]? = some a → H a = some (.tup [.int (L2.pt ps i).1, .int (L2.pt ps i).2]) := by
  obtain ⟨vs, v1, v2, v3⟩ := h
  have al : ∀ (us : List V) (k : Nat), (∀ (i : Nat) v, us[i]? = some v → ∃ a, v = .ref a ∧ H a = some (.tup [.int (L2.pt ps (k + i)).1, .int (L2.pt ps (k + i)).2])) → ∃ as : List Addr, us = as.map V.ref ∧ ∀ (i : Nat) a, as[i]? = some a → H a = some (.tup [.int (L2.pt ps (k + i)).1, .int (L2.pt ps (k + i)).2]) := by
    intro us
    induction us with
    | nil => intro k _; exact ⟨[], rfl, fun i a h => by simp at h⟩
    | cons u us ih =>
      intro k hh
      obtain ⟨a, rfl, ha⟩ := hh 0 u rfl
      obtain ⟨as, e1, e2⟩ := ih (k + 1) fun i v hv => by
        have := hh (i + 1) v (by simpa using hv)
        rw [show k + (i + 1) = k + 1 + i by omega] at this
        exact this
      refine ⟨a :: as, by rw [e1]; rfl, fun i b hb => ?_⟩
      cases i with
      | zero => simp at hb; subst hb; exact ha
      | succ i =>
        have := e2 i b (by simpa using hb)
        rw [show k + 1 + i = k + (i + 1) by omega] at this
        exact this
  obtain ⟨as, e1, e2⟩ := al vs 0 fun i v hv => by
    have hi : i < ps.length := by rw [← v2]; exact (List.getElem?_eq_some_iff.mp hv).1
    obtain ⟨a, ea, h⟩ := v3 i v _ hv (pt_get hi)
    exact ⟨a, ea, by rw [Nat.zero_add]; exact h⟩
  refine ⟨as, by rw [v1, e1], by rw [← v2, e1, List.length_map], fun i a h => ?_⟩
  have := e2 i a h
  rw [Nat.zero_add] at this
  exact this
theorem turned_ends {Hx : Hp} {as rs : List Addr} {ow : List Nat} {f : Nat → Int} (p : rs.Perm as) (hl : as.length = ow.length) (ha : ∀ (i : Nat) a, as[i]? = some a → Hx a = some (.tup [.int (f (ow.getD i 0)), vn (ow.getD i 0)])) :
    (∀ q ∈ rs, ∃ e, e ∈ ow ∧ Hx q = some (.tup [.int (f e), vn e])) ∧ ∀ e, e ∈ rs.map (fun q => ((dec Hx q).getD 1 0).toNat) ↔ e ∈ ow := by
  have h1 : ∀ q ∈ rs, ∃ e, e ∈ ow ∧ Hx q = some (.tup [.int (f e), vn e]) := fun q hq => by
    obtain ⟨i, hi⟩ := List.mem_iff_getElem?.mp (p.mem_iff.mp hq)
    have hlt : i < as.length := (List.getElem?_eq_some_iff.mp hi).1
    exact ⟨_, getD_mem (by omega), ha i q hi⟩
  refine ⟨h1, fun e => ⟨fun h => ?_, fun h => ?_⟩⟩
  · obtain ⟨q, hq, rfl⟩ := List.mem_map.mp h
    obtain ⟨e, he, hx⟩ := h1 q hq
    rw [dec_is hx]
    simpa using he
  · obtain ⟨i, hi, rfl⟩ := mem_getD h
    have hlt : i < as.length := by omega
    refine List.mem_map.mpr ⟨as[i], p.mem_iff.mpr (List.getElem_mem hlt), ?_⟩
    rw [dec_is (ha i as[i] (List.getElem?_eq_getElem hlt))]
    simp
theorem cut_d (vs : List V) {n : Nat} {k : Int} (hk : k = (n : Int)) (h : n ≤ vs.length) : cutV vs (some k) none = vs.drop n := by
  subst hk
  unfold cutV HT.sIx
  simp only [show ¬ ((n : Int) < 0) by omega, if_false]
  rw [show min (Int.toNat (n : Int)) vs.length = n by simp; omega]
  exact List.take_of_length_le (by rw [List.length_drop]; omega)
theorem cut_k (vs : List V) {n : Nat} {k : Int} (hk : k = (n : Int)) (h : n ≤ vs.length) : cutV vs none (some k) = vs.take n := by
  subst hk
  unfold cutV HT.sIx
  simp only [show ¬ ((n : Int) < 0) by omega, if_false, List.drop_zero, Nat.sub_zero]
  rw [show min (Int.toNat (n : Int)) vs.length = n by simp; omega]
theorem row_app {os : MM.Ords} {l : List Nat} {k : Nat} (h : k < os.length) : MM.row (os ++ [l]) k = MM.row os k := by
  unfold MM.row; simp only [List.getD, List.getElem?_append_left h]
theorem row_end {os : MM.Ords} {l : List Nat} : MM.row (os ++ [l]) os.length = l := by unfold MM.row; simp [List.getD]
end L2
namespace L2
open PySem PySem.Spec PyProof.Rows
def gpc (a b c : Nat) : Bool := (c % 4 == 0 && decide (c / 4 % a + 1 < a)) || (c % 4 == 1 && decide (c / 4 / a + 1 < b)) || (c % 4 == 2 && decide (0 < c / 4 % a)) || (c % 4 == 3 && decide (0 < c / 4 / a))
theorem go_gpc {a b h p q : Nat} (ha : 0 < a) (g : Go a b h p q) : gpc a b (4 * p + h) = true := by
  unfold gpc
  rcases g with ⟨rfl, h1, rfl⟩ | ⟨rfl, h1, rfl⟩ | ⟨rfl, h1, rfl⟩ | ⟨rfl, h1, rfl⟩
  · rw [show (4 * p + 0) % 4 = 0 by omega, show (4 * p + 0) / 4 = p by omega, decide_eq_true h1]; rfl
  · rw [show (4 * p + 1) % 4 = 1 by omega, show (4 * p + 1) / 4 = p by omega, decide_eq_true h1]; simp
  · rw [show (4 * (q + 1) + 2) % 4 = 2 by omega, show (4 * (q + 1) + 2) / 4 = q + 1 by omega, (mod1 ha h1).1, decide_eq_true (show 0 < q % a + 1 by omega)]; simp
  · rw [show (4 * (q + a) + 3) % 4 = 3 by omega, show (4 * (q + a) + 3) / 4 = q + a by omega, Nat.add_div_right _ ha, decide_eq_true (Nat.succ_pos (q / a))]; simp
theorem nodup_sub : ∀ (l m : List Nat), l.Nodup → (∀ x ∈ l, x ∈ m) → l.length ≤ m.length
  | [], _, _, _ => Nat.zero_le _
  | x :: l, m, nd, h => by
    have h1 := List.nodup_cons.mp nd
    have ih := nodup_sub l (m.erase x) h1.2 fun y hy => by
      have ne : y ≠ x := fun z => h1.1 (by rw [← z]; exact hy)
      exact (List.mem_erase_of_ne ne).mpr (h y (List.mem_cons_of_mem _ hy))
    have hx := List.length_erase_of_mem (h x List.mem_cons_self)
    have : 0 < m.length := List.length_pos_of_mem (h x List.mem_cons_self)
    simp only [List.length_cons]
    omega
structure Dsx (a b : Nat) (pl : List Nat) (i j : Nat) (ds : List Nat) : Prop where
  nd : ds.Nodup
  gp : ∀ c ∈ ds, c < 4 * (a * b) ∧ gpc a b c = true
  pr : ∀ c ∈ ds, (∃ k, k < i ∧ c / 4 = pl.getD k 0) ∨ (c / 4 = pl.getD i 0 ∧ c % 4 < j)
theorem Dsx.nil {a b : Nat} {pl : List Nat} : Dsx a b pl 0 0 [] := ⟨List.nodup_nil, fun c h => (by cases h), fun c h => (by cases h)⟩
theorem Dsx.up {a b : Nat} {pl ds : List Nat} {i j : Nat} (d : Dsx a b pl i j ds) : Dsx a b pl i (j + 1) ds := ⟨d.nd, d.gp, fun c h => (d.pr c h).imp id fun z => ⟨z.1, by omega⟩⟩
theorem Dsx.on {a b : Nat} {pl ds : List Nat} {i j : Nat} (d : Dsx a b pl i j ds) : Dsx a b pl (i + 1) 0 ds := ⟨d.nd, d.gp, fun c h => .inl (by
  rcases d.pr c h with ⟨k, h1, h2⟩ | ⟨h1, _⟩
  · exact ⟨k, by omega, h2⟩
  · exact ⟨i, by omega, h1⟩)⟩
theorem Dsx.add {a b : Nat} {pl ds : List Nat} {i j : Nat} (d : Dsx a b pl i j ds) (np : pl.Nodup) (hi : i < pl.length) (hj : j < 4) (hp : pl.getD i 0 < a * b) (hg : gpc a b (4 * pl.getD i 0 + j) = true) : Dsx a b pl i (j + 1) (ds ++ [4 * pl.getD i 0 + j]) := by
  have nw : 4 * pl.getD i 0 + j ∉ ds := fun z => by
    rcases d.pr _ z with ⟨k, h1, h2⟩ | ⟨_, h2⟩
    · have e1 := idx_at np (i := k) (by omega)
      have e2 := idx_at np hi
      rw [show (4 * pl.getD i 0 + j) / 4 = pl.getD i 0 by omega] at h2
      rw [h2] at e2
      omega
    · omega
  refine ⟨?_, fun c h => ?_, fun c h => ?_⟩
  · rw [List.nodup_append]
    exact ⟨d.nd, by simp, fun x hx y hy z => by rw [List.mem_singleton.mp hy] at z; subst z; exact nw hx⟩
  · rcases List.mem_append.mp h with z | z
    · exact d.gp c z
    · rw [List.mem_singleton.mp z]; exact ⟨by omega, hg⟩
  · rcases List.mem_append.mp h with z | z
    · exact d.up.pr c z
    · rw [List.mem_singleton.mp z]; exact .inr ⟨by omega, by omega⟩
theorem Dsx.few {a b : Nat} {pl ds : List Nat} {i j : Nat} (d : Dsx a b pl i j ds) (h : ((List.range (4 * (a * b))).filter (gpc a b)).length ≤ 26) : ds.length ≤ 26 :=
  Nat.le_trans (nodup_sub ds _ d.nd fun c hc => List.mem_filter.mpr ⟨List.mem_range.mpr (d.gp c hc).1, (d.gp c hc).2⟩) h
end L2
namespace L2
open PySem PySem.Spec PyProof.Rows
theorem pa_t {X : Cx} {es rest : List Expr} {k} {pos : Pos} {te : TE} {t : TA} (ha : PE X (.Tuple es k pos) te) (hr : PA X rest t) : PA X (.Tuple es k pos :: rest) (tCons te t) := pa_cons ha hr rfl
theorem pe_tup2 {X : Cx} {i j : Int} {k} {p q pos : Pos} {a b} : PE X (.Tuple [.Constant (.int i) a p, .Constant (.int j) b q] k pos) (tTup (tCons (tC (.int i)) (tCons (tC (.int j)) tNil))) := pe_tup (pa_cons pe_int (pa_cons pe_int pa_nil rfl) rfl)
inductive Prs : List Expr → List (Int × Int) → Prop
  | nil : Prs [] []
  | cons {i j : Int} {k} {p q pos : Pos} {a b} {es : List Expr} {ps : List (Int × Int)} : Prs es ps → Prs (.Tuple [.Constant (.int i) a p, .Constant (.int j) b q] k pos :: es) ((i, j) :: ps)
def tPrs : List (Int × Int) → TA
  | [] => tNil
  | p :: ps => tCons (tTup (tCons (tC (.int p.1)) (tCons (tC (.int p.2)) tNil))) (tPrs ps)
theorem pa_prs {X : Cx} : ∀ {es : List Expr} {ps : List (Int × Int)}, Prs es ps → PA X es (tPrs ps)
  | _, _, .nil => pa_nil
  | _, _, .cons h => pa_t pe_tup2 (pa_prs h)
theorem pe_prs {X : Cx} {es : List Expr} {ps : List (Int × Int)} {pos : Pos} (h : Prs es ps) : PE X (.List es pos) (tLst (tPrs ps)) := pe_lst (pa_prs h)
theorem one_bd {x : Int} {j : Nat} (hj : j < 0 + 1) (h1 : -2 ≤ x) (h2 : x ≤ 2) : -2 ≤ at0 [x] j ∧ at0 [x] j ≤ 2 + 3 * (j : Int) := by
  have : j = 0 := by omega
  subst this
  show -2 ≤ x ∧ x ≤ _
  omega
theorem bd_app {l : List Int} {n : Nat} {x : Int} (hl : l.length = n + 1) (h : ∀ j, j < n + 1 → -2 ≤ at0 l j ∧ at0 l j ≤ 2 + 3 * (j : Int)) (h1 : -2 ≤ x) (h2 : x ≤ 2 + 3 * ((n + 1 : Nat) : Int)) : ∀ j, j < n + 1 + 1 → -2 ≤ at0 (l ++ [x]) j ∧ at0 (l ++ [x]) j ≤ 2 + 3 * (j : Int) := by
  intro j hj
  have e1 : ∀ {i}, i < l.length → at0 (l ++ [x]) i = at0 l i := fun {i} hi => by unfold at0; simp only [List.getD, List.getElem?_append_left hi]
  have e2 : at0 (l ++ [x]) l.length = x := by unfold at0; simp [List.getD]
  rcases Nat.lt_or_ge j (n + 1) with z | z
  · rw [e1 (by omega)]; exact h j z
  · rw [show j = l.length by omega, e2, hl]; exact ⟨h1, h2⟩
theorem rise_app {l : List Int} {n : Nat} {x : Int} (hl : l.length = n + 1) (h : ∀ j, j + 1 < n + 1 → at0 l j < at0 l (j + 1)) (hx : at0 l n < x) : ∀ j, j + 1 < n + 1 + 1 → at0 (l ++ [x]) j < at0 (l ++ [x]) (j + 1) := by
  intro j hj
  have e1 : ∀ {i}, i < l.length → at0 (l ++ [x]) i = at0 l i := fun {i} hi => by unfold at0; simp only [List.getD, List.getElem?_append_left hi]
  have e2 : at0 (l ++ [x]) l.length = x := by unfold at0; simp [List.getD]
  rcases Nat.lt_or_ge (j + 1) (n + 1) with z | z
  · rw [e1 (by omega), e1 (by omega)]; exact h j z
  · rw [e1 (by omega), show j + 1 = l.length by omega, e2, show j = n by omega]; exact hx
end L2
namespace K57
open PySem L2 PyProof.Rows
variable {P : Program} {w : World} {K : PySem.W.Frag} {mg : Str → Option Value} {base : Heap} {t : Adr}
def spPictureB (K : PySem.W.Frag) (vs : List L2.V) (H : L2.Hp) (Q : L2.VK) (sa : Addr) (ns : List Int) : Prop := vs = [.ref sa] ∧ SqL K H sa (ns.map V.int) ∧
  ∀ r wa da pa la n ts os sp ll H', Same H H' → H' r = some (.tup [.ref wa, .ref da]) → WebAt H' wa n ts os → Has ts os → H' da = some (.tup [.ref pa, .ref la]) → PsAt H' pa sp → sp.length ≤ 10 → Bdd sp → LsAt H' la ll → ll.length = ts.length → ts.length ≤ 40 → os.length ≤ 10 → (∀ ps ∈ ll, Line ps ∧ Bdd ps) → Q (.ref r) H'
def spPicture (K : PySem.W.Frag) : Sp := fun vs H Q _ => ∃ (sa : Addr) (ns : List Int), spPictureB K vs H Q sa ns
theorem ok_picture (T : Txt K mg t) : FnOk P w K mg base CX0 3 t.a_l_picture t.d_l_picture ["_law_script"] (spPicture K) := by
  have G_l_mix := ok_mix (P := P) (w := w) (base := base) T
  have G_l_cell_at := ok_cell (P := P) (w := w) (base := base) T
  have G_l_ways := ok_ways (P := P) (w := w) (base := base) T
  have G_l_spots := ok_spots (P := P) (w := w) (base := base) T
  have G_l_line := ok_line (P := P) (w := w) (base := base) T
  have G_l_turns_of := ok_turnsof (P := P) (w := w) (base := base) T
  have G_l_heads := ok_lhs (P := P) (w := w) (base := base) T
  have G_l_place := ok_lplace (P := P) (w := w) (base := base) T
  refine T.F_l_picture.ok sc_l_picture (fun vs H Q E h => ?_) (fun cdv A outer s H vs Q E hr h => ?_)
  · obtain ⟨sa, ns, rfl, _⟩ := h; rfl
  obtain ⟨sa, ns, rfl, hS, q⟩ := h
  have nd := sc_l_picture.nd
  have hu := hu_of hr
  have h2s : 2 ≤ sizeLine := by decide
  have nd_l_head_l_end : (["_law_head", "_law_end"] : List Str).Nodup := by decide
  have nd_l_end_l_heads_here : (["_law_end", "_law_heads_here"] : List Str).Nodup := by decide
  have nd_l_end_l_place_here_l_ties : (["_law_end", "_law_place_here", "_law_ties"] : List Str).Nodup := by decide
  have nd_l_point_l_xs_l_ys_l_size : (["_law_point", "_law_xs", "_law_ys", "_law_size"] : List Str).Nodup := by decide
  have nd_l_one_l_xs_l_ys_l_size : (["_law_one", "_law_xs", "_law_ys", "_law_size"] : List Str).Nodup := by decide
  refine' ⟨_, ?hp, ?hq⟩
  case hp =>
    refine' pss_cons ?a ?b
    case a =>
      refine' ps_set (i := 1) ?n1 ?n2 ?n3 ?n4
      case n1 => exact nd
      case n2 => exact rfl
      case n3 => exact Or.inl rfl
      case n4 =>
        refine' pe_prs ?p
        case p => exact (.cons (.cons (.cons (.cons (.cons (.cons (.cons (.cons .nil))))))))
    case b => exact (pss_cons (ps_set (i := 2) nd rfl (Or.inr rfl) (pe_ix ix_list (pv 1) (pe_op op_mod (pe_call G_l_mix (hr.mono (by decide)) rfl T.m_l_mix T.k_l_mix T.b_l_mix .nil pass0 (pa_cons (pe_call G_l_cell_at (hr.mono (by decide)) rfl T.m_l_cell_at T.k_l_cell_at T.b_l_cell_at .nil pass0 (pa_cons (pv 0) (pa_cons pe_int pa_nil))) (pa_cons pe_int pa_nil))) pe_int) (fun _ _ => rfl)))
    (pss_cons (ps_asg (pe_call G_l_ways (hr.mono (by decide)) rfl T.m_l_ways T.k_l_ways T.b_l_ways .nil pass0 (pa_cons (pv 0) (pa_cons (pv 2) pa_nil))) (pg_tup rfl (pgs_cons (pg_name (i := 3) nd rfl (Or.inl rfl)) (pgs_cons (pg_name (i := 4) nd rfl (Or.inl rfl)) pgs_nil))))
    (pss_cons (ps_set (i := 5) nd rfl (Or.inl rfl) (pe_call G_l_spots (hr.mono (by decide)) rfl T.m_l_spots T.k_l_spots T.b_l_spots .nil pass0 (pa_cons (pv 0) (pa_cons (pv 3) (pa_cons (pv 4) pa_nil)))))
    (pss_cons (ps_set (i := 6) nd rfl (Or.inr rfl) (pe_lst (pa_cons (pe_op op_sub (pe_op op_mod (pe_call G_l_mix (hr.mono (by decide)) rfl T.m_l_mix T.k_l_mix T.b_l_mix .nil pass0 (pa_cons (pe_call G_l_cell_at (hr.mono (by decide)) rfl T.m_l_cell_at T.k_l_cell_at T.b_l_cell_at .nil pass0 (pa_cons (pv 0) (pa_cons pe_int pa_nil))) (pa_cons pe_int pa_nil))) pe_int) pe_int) pa_nil)))
    (pss_cons (ps_set (i := 7) nd rfl (Or.inr rfl) (pe_lst (pa_cons (pe_op op_sub (pe_op op_mod (pe_call G_l_mix (hr.mono (by decide)) rfl T.m_l_mix T.k_l_mix T.b_l_mix .nil pass0 (pa_cons (pe_call G_l_cell_at (hr.mono (by decide)) rfl T.m_l_cell_at T.k_l_cell_at T.b_l_cell_at .nil pass0 (pa_cons (pv 0) (pa_cons pe_int pa_nil))) (pa_cons pe_int pa_nil))) pe_int) pe_int) pa_nil)))
    (pss_cons (ps_for PassesOwn.never rfl (pi_range1 rfl T.z_range (pa_cons pe_int pa_nil)) (pg_name (i := 8) nd rfl (Or.inl rfl)) (pss_cons (ps_expr (pe_bm PySem.F.plainAttrs_list PySem.F.slot_list_append PySem.F.type_list_append mt_append (pv 6) (pa_cons (pe_op op_add (pe_op op_add (pe_ix ix_list (pv 6) (pv 8) (fun _ _ => rfl)) pe_int) (pe_op op_mod (pe_call G_l_mix (hr.mono (by decide)) rfl T.m_l_mix T.k_l_mix T.b_l_mix .nil pass0 (pa_cons (pe_call G_l_cell_at (hr.mono (by decide)) rfl T.m_l_cell_at T.k_l_cell_at T.b_l_cell_at .nil pass0 (pa_cons (pv 0) (pa_cons pe_int pa_nil))) (pa_cons (pe_op op_add pe_int (pv 8)) pa_nil))) pe_int)) pa_nil)))
    (pss_one (ps_expr (pe_bm PySem.F.plainAttrs_list PySem.F.slot_list_append PySem.F.type_list_append mt_append (pv 7) (pa_cons (pe_op op_add (pe_op op_add (pe_ix ix_list (pv 7) (pv 8) (fun _ _ => rfl)) pe_int) (pe_op op_mod (pe_call G_l_mix (hr.mono (by decide)) rfl T.m_l_mix T.k_l_mix T.b_l_mix .nil pass0 (pa_cons (pe_call G_l_cell_at (hr.mono (by decide)) rfl T.m_l_cell_at T.k_l_cell_at T.b_l_cell_at .nil pass0 (pa_cons (pv 0) (pa_cons pe_int pa_nil))) (pa_cons (pe_op op_add pe_int (pv 8)) pa_nil))) pe_int)) pa_nil))))))
    (pss_cons (ps_set (i := 9) nd rfl (Or.inl rfl) pe_dnewT)
    (pss_cons (ps_set (i := 10) nd rfl (Or.inr rfl) (pe_lst pa_nil))
    (pss_cons (ps_set (i := 11) nd rfl (Or.inl rfl) (pe_lst pa_nil))
    (pss_cons (ps_for PassesOwn.never rfl (pi_enum rfl T.z_enumerate (pa_cons (pv 5) pa_nil)) (pg_tup rfl (pgs_cons (pg_name (i := 12) nd rfl (Or.inr rfl)) (pgs_cons (pg_name (i := 13) nd rfl (Or.inl rfl)) pgs_nil))) (pss_one (ps_for PassesOwn.never rfl (pi_range1 rfl T.z_range (pa_cons pe_int pa_nil)) (pg_name (i := 14) nd rfl (Or.inl rfl)) (pss_one (ps_if (PW.pt (pw_and (pt_cmp (pc_din hu (pe_tup (pa_cons (pv 13) (pa_cons (pv 14) pa_nil))) (pv 3))) (pw_and1 (pt_cmp (pc_dnotin hu (pe_tup (pa_cons (pv 13) (pa_cons (pv 14) pa_nil))) (pv 9)))))) (pss_cons (ps_set (i := 15) nd rfl (Or.inl rfl) (pe_call G_l_line (hr.mono (by decide)) rfl T.m_l_line T.k_l_line T.b_l_line .nil pass0 (pa_cons (pv 3) (pa_cons (pv 5) (pa_cons (pv 13) (pa_cons (pv 14) (pa_cons (pv 9) pa_nil)))))))
    (pss_cons (ps_if (pt_cmpR op_eq (pe_op op_mod (pe_call G_l_mix (hr.mono (by decide)) rfl T.m_l_mix T.k_l_mix T.b_l_mix .nil pass0 (pa_cons (pe_call G_l_cell_at (hr.mono (by decide)) rfl T.m_l_cell_at T.k_l_cell_at T.b_l_cell_at .nil pass0 (pa_cons (pv 0) (pa_cons pe_int pa_nil))) (pa_cons (pe_op op_add pe_int (pe_callB call_len_seq rfl T.z_len PySem.boot_len (pa_cons (pv 10) pa_nil))) pa_nil))) pe_int) pe_int (nomark _)) (pss_one (ps_set (i := 15) nd rfl (Or.inl rfl) (pe_sliceR (pv 15) po_none po_none (po_some (pe_un un_neg pe_int))))) pss_nil)
    (pss_cons (ps_expr (pe_bm PySem.F.plainAttrs_list PySem.F.slot_list_append PySem.F.type_list_append mt_append (pv 10) (pa_cons (pe_tup (pa_cons (pe_bm PySem.F.plainAttrs_list PySem.F.slot_list_index PySem.F.type_list_index mt_index (pv 5) (pa_cons (pe_ix ix_list (pv 15) pe_int (fun _ _ => rfl)) pa_nil)) (pa_cons (pe_bm PySem.F.plainAttrs_list PySem.F.slot_list_index PySem.F.type_list_index mt_index (pv 5) (pa_cons (pe_ix ix_list (pv 15) (pe_un un_neg pe_int) (fun _ _ => rfl)) pa_nil)) pa_nil))) pa_nil)))
    (pss_one (ps_expr (pe_bm PySem.F.plainAttrs_list PySem.F.slot_list_append PySem.F.type_list_append mt_append (pv 11) (pa_cons (pe_call G_l_turns_of (hr.mono (by decide)) rfl T.m_l_turns_of T.k_l_turns_of T.b_l_turns_of .nil pass0 (pa_cons (pe_comp (N' := ["_law_one", "_law_xs", "_law_ys", "_law_size"]) (js := [none, some 6, some 7, some 2]) rfl (pi_list (pv 15)) (fun _ _ _ _ _ => (pg_name (i := 0) nd_l_one_l_xs_l_ys_l_size rfl (Or.inl rfl))) (fun _ _ _ _ _ => pf_nil) (fun _ _ _ _ _ => (pe_tup (pa_cons (pe_ix (kix_list (K := K) rfl) (pv 1) (pe_op op_mod (pv 0) (pe_ix (kix_tup (K := K) rfl) (pv 3) pe_int (fun _ _ => rfl))) (fun _ _ => rfl)) (pa_cons (pe_ix (kix_list (K := K) rfl) (pv 2) (pe_op op_fdiv (pv 0) (pe_ix (kix_tup (K := K) rfl) (pv 3) pe_int (fun _ _ => rfl))) (fun _ _ => rfl)) pa_nil))))) pa_nil)) pa_nil))))))) pss_nil)))))
    (pss_cons (ps_setComp (i := 16) nd rfl (Or.inl rfl)  (N' := ["_law_point", "_law_xs", "_law_ys", "_law_size"]) (js := [none, some 6, some 7, some 2]) rfl (pi_list (pv 5)) (fun _ _ _ _ _ => (pg_name (i := 0) nd_l_point_l_xs_l_ys_l_size rfl (Or.inl rfl))) (fun _ _ _ _ _ => pf_nil) (fun _ _ _ _ _ => (pe_tup (pa_cons (pe_ix (kix_list (K := K) rfl) (pv 1) (pe_op op_mod (pv 0) (pe_ix (kix_tup (K := K) rfl) (pv 3) pe_int (fun _ _ => rfl))) (fun _ _ => rfl)) (pa_cons (pe_ix (kix_list (K := K) rfl) (pv 2) (pe_op op_fdiv (pv 0) (pe_ix (kix_tup (K := K) rfl) (pv 3) pe_int (fun _ _ => rfl))) (fun _ _ => rfl)) pa_nil)))))
    (pss_cons (ps_set (i := 17) nd rfl (Or.inr rfl) (pe_call G_l_heads (hr.mono (by decide)) rfl T.m_l_heads T.k_l_heads T.b_l_heads .nil pass0 (pa_cons (pv 11) pa_nil)))
    (pss_cons (ps_set (i := 18) nd rfl (Or.inl rfl) (pe_lst pa_nil))
    (pss_cons (ps_for PassesOwn.never rfl (pi_range1 rfl T.z_range (pa_cons (pe_callB call_len_seq rfl T.z_len PySem.boot_len (pa_cons (pv 5) pa_nil)) pa_nil)) (pg_name (i := 12) nd rfl (Or.inr rfl)) (pss_cons (ps_setComp (i := 19) nd rfl (Or.inl rfl)  (N' := ["_law_end", "_law_place_here", "_law_ties"]) (js := [none, some 12, some 10]) rfl (pi_range1 rfl T.z_range (pa_cons (pe_callB call_len_seq rfl T.z_len PySem.boot_len (pa_cons (pv 17) pa_nil)) pa_nil)) (fun _ _ _ _ _ => (pg_name (i := 0) nd_l_end_l_place_here_l_ties rfl (Or.inl rfl))) (fun _ _ _ _ _ => (pf_one (pt_cmpR op_eq (pe_call G_l_place (hr.mono (by decide)) rfl T.m_l_place T.k_l_place T.b_l_place .nil pass0 (pa_cons (pv 2) (pa_cons (pv 0) pa_nil))) (pv 1) (nomark _)))) (fun _ _ _ _ _ => (pv 0)))
    (pss_cons (ps_set (i := 20) nd rfl (Or.inl rfl) (pe_callB call_sortedT rfl T.z_sorted boot_sorted (pa_cons (pe_comp (N' := ["_law_end", "_law_heads_here"]) (js := [none, some 17]) rfl (pi_list (pv 19)) (fun _ _ _ _ _ => (pg_name (i := 0) nd_l_end_l_heads_here rfl (Or.inl rfl))) (fun _ _ _ _ _ => pf_nil) (fun _ _ _ _ _ => (pe_tup (pa_cons (pe_ix (kix_list (K := K) rfl) (pv 1) (pv 0) (fun _ _ => rfl)) (pa_cons (pv 0) pa_nil))))) pa_nil)))
    (pss_cons (ps_set (i := 21) nd rfl (Or.inl rfl) (pe_op op_mod (pe_call G_l_mix (hr.mono (by decide)) rfl T.m_l_mix T.k_l_mix T.b_l_mix .nil pass0 (pa_cons (pe_call G_l_cell_at (hr.mono (by decide)) rfl T.m_l_cell_at T.k_l_cell_at T.b_l_cell_at .nil pass0 (pa_cons (pv 0) (pa_cons pe_int pa_nil))) (pa_cons (pe_op op_add pe_int (pv 12)) pa_nil))) (pe_callB call_len_seq rfl T.z_len PySem.boot_len (pa_cons (pv 20) pa_nil))))
    (pss_one (ps_expr (pe_bm PySem.F.plainAttrs_list PySem.F.slot_list_append PySem.F.type_list_append mt_append (pv 18) (pa_cons (pe_comp (N' := ["_law_head", "_law_end"]) (js := [none, none]) rfl (pi_list (pe_op op_cat (pe_slice sl_list (pv 20) (po_some (pv 21)) po_none) (pe_slice sl_list (pv 20) po_none (po_some (pv 21))))) (fun _ _ _ _ _ => (kpg_tup (K := K) (n := 2) rfl rfl (pgs_cons (pg_name (i := 0) nd_l_head_l_end rfl (Or.inl rfl)) (pgs_cons (pg_name (i := 1) nd_l_head_l_end rfl (Or.inl rfl)) pgs_nil)))) (fun _ _ _ _ _ => pf_nil) (fun _ _ _ _ _ => (pv 1))) pa_nil))))))))
    (pss_one (ps_ret (pe_tup (pa_cons (pe_tup (pa_cons (pe_callB call_len_seq rfl T.z_len PySem.boot_len (pa_cons (pv 5) pa_nil)) (pa_cons (pv 10) (pa_cons (pv 18) pa_nil)))) (pa_cons (pe_tup (pa_cons (pv 16) (pa_cons (pv 11) pa_nil))) pa_nil)))))))))))))))))))
  refine ⟨h2s, fun T1 h1 => ⟨h2s, fun T2 h2 => ⟨h2s, fun T3 h3 => ⟨h2s, fun T4 h4 => ⟨h2s, fun T5 h5 => ⟨h2s, fun T6 h6 => ⟨h2s, fun T7 h7 => ⟨h2s, fun T8 h8 => ⟨(by show 8 ≤ sizeLine; decide), fun zl hzl => ?_⟩⟩⟩⟩⟩⟩⟩⟩⟩
  have s1 := same_new h1 (.tup [.int 3, .int 3])
  have s2 := same_new h2 (.tup [.int 5, .int 2])
  have s3 := same_new h3 (.tup [.int 2, .int 5])
  have s4 := same_new h4 (.tup [.int 4, .int 2])
  have s5 := same_new h5 (.tup [.int 2, .int 2])
  have s6 := same_new h6 (.tup [.int 3, .int 2])
  have s7 := same_new h7 (.tup [.int 2, .int 1])
  have s8 := same_new h8 (.tup [.int 1, .int 4])
  have s9 := same_new hzl (.lst [V.ref T1, V.ref T2, V.ref T3, V.ref T4, V.ref T5, V.ref T6, V.ref T7, V.ref T8])
  have gz := ((((((((s1.trans s2).trans s3).trans s4).trans s5).trans s6).trans s7).trans s8).trans s9)
  refine ⟨_, rfl, _, rfl, sa, ns, _, rfl, gz.seq hS, by decide, fun c0 => ⟨c0, _, rfl, by decide, by decide, fun m0 _ _ => ?_⟩⟩
  obtain ⟨n8, hn8, en8⟩ : ∃ n : Nat, n < 8 ∧ m0 % 8 = (n : Int) := ⟨(m0 % 8).toNat, by omega, by omega⟩
  obtain ⟨zs, a, b, z1, z2, ha, hb, ha5, hb5, hab, h1, h26⟩ : ∃ (zs : Addr) (a b : Nat), atI [V.ref T1, V.ref T2, V.ref T3, V.ref T4, V.ref T5, V.ref T6, V.ref T7, V.ref T8] (n8 : Int) = some (.ref zs) ∧ (upd (upd (upd (upd (upd (upd (upd (upd (upd H T1 (.tup [.int 3, .int 3])) T2 (.tup [.int 5, .int 2])) T3 (.tup [.int 2, .int 5])) T4 (.tup [.int 4, .int 2])) T5 (.tup [.int 2, .int 2])) T6 (.tup [.int 3, .int 2])) T7 (.tup [.int 2, .int 1])) T8 (.tup [.int 1, .int 4])) zl (.lst [V.ref T1, V.ref T2, V.ref T3, V.ref T4, V.ref T5, V.ref T6, V.ref T7, V.ref T8])) zs = some (.tup [vn a, vn b]) ∧ 0 < a ∧ 0 < b ∧ a ≤ 5 ∧ b ≤ 5 ∧ a * b ≤ 10 ∧ (1 < a ∨ 1 < b) ∧ ((List.range (4 * (a * b))).filter (gpc a b)).length ≤ 26 := by
    match n8, hn8 with
    | 0, _ => exact ⟨T1, 3, 3, atI_nat rfl, (s9 _ _ (s8 _ _ (s7 _ _ (s6 _ _ (s5 _ _ (s4 _ _ (s3 _ _ (s2 _ _ upd_same)))))))), by decide⟩
    | 1, _ => exact ⟨T2, 5, 2, atI_nat rfl, (s9 _ _ (s8 _ _ (s7 _ _ (s6 _ _ (s5 _ _ (s4 _ _ (s3 _ _ upd_same))))))), by decide⟩
    | 2, _ => exact ⟨T3, 2, 5, atI_nat rfl, (s9 _ _ (s8 _ _ (s7 _ _ (s6 _ _ (s5 _ _ (s4 _ _ upd_same)))))), by decide⟩
    | 3, _ => exact ⟨T4, 4, 2, atI_nat rfl, (s9 _ _ (s8 _ _ (s7 _ _ (s6 _ _ (s5 _ _ upd_same))))), by decide⟩
    | 4, _ => exact ⟨T5, 2, 2, atI_nat rfl, (s9 _ _ (s8 _ _ (s7 _ _ (s6 _ _ upd_same)))), by decide⟩
    | 5, _ => exact ⟨T6, 3, 2, atI_nat rfl, (s9 _ _ (s8 _ _ (s7 _ _ upd_same))), by decide⟩
    | 6, _ => exact ⟨T7, 2, 1, atI_nat rfl, (s9 _ _ (s8 _ _ upd_same)), by decide⟩
    | 7, _ => exact ⟨T8, 1, 4, atI_nat rfl, (s9 _ _ upd_same), by decide⟩
  refine ⟨_, _, rfl, rfl, (by show (0 : Int) < 8; decide), zl, _, _, .ref zs, rfl, rfl, SqL.of upd_same, (by show atI _ (m0 % 8) = _; rw [en8]; exact z1), ?_⟩
  refine ⟨_, rfl, _, rfl, sa, zs, ns, a, b, rfl, gz.seq hS, z2, ha, hb, by omega, by omega, hab, h1, fun r0 ka ca H1 kvs come W g1 f1 f2 f3 dw nt cm => ?_⟩
  refine ⟨r0, _, rfl, SqT.of f1, rfl, _, _, rfl, _, _, rfl, rfl, ?_⟩
  have gz1 := gz.trans g1
  refine ⟨_, rfl, _, rfl, _, rfl, sa, ka, ca, ns, kvs, W, a * b, come, rfl, gz1.seq hS, f2, dw, f3, cm, hab, fun pa pl H2 _ g2 p1 pc => ?_⟩
  have gz2 := gz1.trans g2
  have hpl : pl.length ≤ 10 := Nat.le_trans (MM.nodup_bound (a * b) pl pc.nd fun x hx => cm.lt x (pc.sub x hx)) hab
  have e2 := g2 _ _ f2
  have ez := g2 _ _ (g1 _ _ z2)
  clear f1 f3
  refine ⟨_, rfl, sa, ns, _, rfl, gz2.seq hS, by decide, fun c1 => ⟨c1, _, rfl, by decide, by decide, fun m1 _ _ => ⟨_, _, rfl, rfl, (by show (0 : Int) < 5; decide), _, _, rfl, rfl, (by show 1 ≤ sizeLine; decide), fun xa hxa => ?_⟩⟩⟩
  have gx := same_new hxa (.lst [.int (m1 % 5 - 2)])
  refine ⟨_, rfl, sa, ns, _, rfl, (gz2.trans gx).seq hS, by decide, fun c2 => ⟨c2, _, rfl, by decide, by decide, fun m2 _ _ => ⟨_, _, rfl, rfl, (by show (0 : Int) < 5; decide), _, _, rfl, rfl, (by show 1 ≤ sizeLine; decide), fun ya hya => ?_⟩⟩⟩
  have gy := same_new hya (.lst [.int (m2 % 5 - 2)])
  have nxy : ya ≠ xa := fun z => by subst z; rw [upd_same] at hya; cases hya
  have hya2 : H2 ya = none := gx.free hya
  let Pv1 : Nat → L2.St → L2.Hp → Prop := fun i σ H' => Same H2 H' ∧ (∃ xl yl : List Int, H' xa = some (.lst (xl.map V.int)) ∧ H' ya = some (.lst (yl.map V.int)) ∧ xl.length = i + 1 ∧ yl.length = i + 1 ∧ ((∀ j, j + 1 < i + 1 → at0 xl j < at0 xl (j + 1)) ∧ ∀ j, j < i + 1 → -2 ≤ at0 xl j ∧ at0 xl j ≤ 2 + 3 * (j : Int)) ∧ (∀ j, j + 1 < i + 1 → at0 yl j < at0 yl (j + 1)) ∧ ∀ j, j < i + 1 → -2 ≤ at0 yl j ∧ at0 yl j ≤ 2 + 3 * (j : Int)) ∧ ∃ o, σ = [some (.ref sa), some (.ref zl), some (.ref zs), some (.ref ka), some (.ref ca), some (.ref pa), some (.ref xa), some (.ref ya), o, none, none, none, none, none, none, none, none, none, none, none, none, none]
  refine ⟨4, rfl, by decide, by decide, for_range (lo := 0) (n := 4) Pv1
    ⟨gx.trans gy, ⟨[m1 % 5 - 2], [m2 % 5 - 2], (by rw [upd_ne (Ne.symm nxy)]; exact upd_same), upd_same, rfl, rfl, ⟨fun j hj => (by omega), fun j hj => one_bd hj (by omega) (by omega)⟩, fun j hj => (by omega), fun j hj => one_bd hj (by omega) (by omega)⟩, _, rfl⟩ ?_ ?_⟩
  · rintro i σ H' hi ⟨g, ⟨xl, yl, x1, y1, x2, y2, x3, y3⟩, o, rfl⟩
    rw [show (0 : Int) + (i : Int) = (i : Int) by omega]
    have gS := gz2.trans g
    refine ⟨_, rfl, .inl ⟨rfl, _, SqL.of x1⟩, _, rfl, _, rfl, xa, _, _, _, rfl, rfl, SqL.of x1, atI_get0 (j := i) (by omega) rfl, _, _, rfl, rfl, _, rfl, sa, ns, _, rfl, gS.seq hS, by decide, fun c3 => ⟨_, rfl, _, _, rfl, rfl, c3, _, rfl, by omega, by omega, fun m3 _ _ => ⟨_, _, rfl, rfl, (by show (0 : Int) < 3; decide), _, _, rfl, rfl, xa, _, _, rfl, rfl, x1, few' (by rw [List.length_map]; omega), ?_⟩⟩⟩
    have y1' : upd H' xa (.lst (xl.map V.int ++ [.int (at0 xl i + 1 + m3 % 3)])) ya = some (.lst (yl.map V.int)) := by rw [upd_ne nxy]; exact y1
    have gS2 : Same H2 (upd H' xa (.lst (xl.map V.int ++ [.int (at0 xl i + 1 + m3 % 3)]))) := g.upd hxa
    refine ⟨_, rfl, .inl ⟨rfl, _, SqL.of y1'⟩, _, rfl, _, rfl, ya, _, _, _, rfl, rfl, SqL.of y1', atI_get0 (j := i) (by omega) rfl, _, _, rfl, rfl, _, rfl, sa, ns, _, rfl, (gz2.trans gS2).seq hS, by decide, fun c4 => ⟨_, rfl, _, _, rfl, rfl, c4, _, rfl, by omega, by omega, fun m4 _ _ => ⟨_, _, rfl, rfl, (by show (0 : Int) < 3; decide), _, _, rfl, rfl, ya, _, _, rfl, rfl, y1', few' (by rw [List.length_map]; omega), gS2.upd hya2, ⟨xl ++ [at0 xl i + 1 + m3 % 3], yl ++ [at0 yl i + 1 + m4 % 3], ?_, ?_, by simp [x2], by simp [y2], ⟨rise_app x2 x3.1 (by omega), bd_app x2 x3.2 (by have := x3.2 i (by omega); omega) (by have := x3.2 i (by omega); omega)⟩, rise_app y2 y3.1 (by omega), bd_app y2 y3.2 (by have := y3.2 i (by omega); omega) (by have := y3.2 i (by omega); omega)⟩, _, rfl⟩⟩⟩
    · rw [upd_ne (Ne.symm nxy), upd_same, List.map_append]; rfl
    · rw [upd_same, List.map_append]; rfl
  · rintro σ H' ⟨g, ⟨xl, yl, x1, y1, x2, y2, x3, y3⟩, o, rfl⟩
    have rx : Rise xl := ⟨x2, x3⟩
    have ry : Rise yl := ⟨y2, y3⟩
    refine fun ga hga => ?_
    refine ⟨few (by decide), fun ta hta => ⟨few (by decide), fun na hna => ?_⟩⟩
    have ntg : ta ≠ ga := fun z => by subst z; rw [upd_same] at hta; cases hta
    have nng : na ≠ ga := fun z => by subst z; rw [upd_ne (Ne.symm ntg), upd_same] at hna; cases hna
    have nnt : na ≠ ta := fun z => by subst z; rw [upd_same] at hna; cases hna
    have g5 := ((same_new hga (.dT [])).trans (same_new hta (.lst []))).trans (same_new hna (.lst []))
    have apart : ∀ b o, H' b = some o → b ≠ ga ∧ b ≠ ta ∧ b ≠ na := fun b o e => ⟨ne_of_none e hga, ne_of_none (same_new hga (.dT []) _ _ e) hta, ne_of_none (((same_new hga (.dT [])).trans (same_new hta (.lst []))) _ _ e) hna⟩
    have keepS : ∀ {H6 : Hp}, F3 ga ta na (upd (upd (upd H' ga (.dT [])) ta (.lst [])) na (.lst [])) H6 → Same H' H6 := fun {H6} f b o e => f b o (apart b o e).1 (apart b o e).2.1 (apart b o e).2.2 (g5 _ _ e)
    have gS := gz2.trans g
    have hp1 := g _ _ p1
    have he2 := g _ _ e2
    have hez := g _ _ ez
    have c0 : (0 : Int) < (a : Int) := by omega
    have init : Lp pl ga ta na (upd (upd (upd H' ga (.dT [])) ta (.lst [])) na (.lst [])) (upd (upd (upd H' ga (.dT [])) ta (.lst [])) na (.lst [])) [] [] [] [] [] := by
      refine ⟨F3.refl _ _ _ _, ?_, ⟨rfl, fun i t h => (by simp at h)⟩, upd_same, ⟨rfl, fun i t h => (by simp at h)⟩, ?_, Nat.le_refl _, rfl, fun t h => (by cases h), fun t h => (by cases h), fun x y h => (by cases h)⟩
      · rw [upd_ne (Ne.symm nnt)]; exact upd_same
      · rw [upd_ne (Ne.symm nng), upd_ne (Ne.symm ntg)]; exact upd_same
    let Pv2 : Nat → L2.St → L2.Hp → Prop := fun i σ H6 => (∃ tr lr ts ll gs, Lp pl ga ta na (upd (upd (upd H' ga (.dT [])) ta (.lst [])) na (.lst [])) H6 tr lr ts ll gs ∧ (∃ ds, Dsx a b pl i 0 ds ∧ ts.length = ds.length) ∧ ∀ k, k < i → ∃ e, e < 2 * ts.length ∧ MM.place ts e = k) ∧ ∃ o1 o2 o3 o4, σ = [some (.ref sa), some (.ref zl), some (.ref zs), some (.ref ka), some (.ref ca), some (.ref pa), some (.ref xa), some (.ref ya), o, some (.ref ga), some (.ref ta), some (.ref na), o1, o2, o3, o4, none, none, none, none, none, none]
    refine ⟨_, rfl, pa, rfl, ⟨_, SqL.of (g5 _ _ hp1)⟩, for_enum (xs := vns pl) Pv2 ⟨⟨_, _, _, _, _, init, ⟨[], Dsx.nil, rfl⟩, fun k hk => (by omega)⟩, _, _, _, _, rfl⟩ (fun i σ H6 _ h => by obtain ⟨⟨_, _, _, _, _, p, _⟩, _⟩ := h; exact SqL.of (keepS p.f _ _ hp1)) ?_ ?_⟩
    · rintro i x σ H6 Tp hx ⟨⟨tr, lr, ts, ll, gs, p, hts, dn⟩, o1, o2, o3, o4, rfl⟩ hTp
      obtain ⟨hi, rfl⟩ := vns_at hx
      have pm0 := getD_mem hi
      have ix0 := idx_at pc.nd hi
      refine ⟨Tp, _, rfl, SqT.of upd_same, rfl, _, _, rfl, _, _, rfl, rfl, ?_⟩
      have p' := p.same (same_new hTp (.tup [vn i, vn (pl.getD i 0)]))
      let Pv3 : Nat → L2.St → L2.Hp → Prop := fun j σ H7 => (∃ tr lr ts ll gs, Lp pl ga ta na (upd (upd (upd H' ga (.dT [])) ta (.lst [])) na (.lst [])) H7 tr lr ts ll gs ∧ (∃ ds, Dsx a b pl i j ds ∧ ts.length = ds.length) ∧ (∀ k, k < i → ∃ e, e < 2 * ts.length ∧ MM.place ts e = k) ∧ ((∃ h, h < j ∧ (W (pl.getD i 0) h).isSome = true) → ∃ e, e < 2 * ts.length ∧ MM.place ts e = i)) ∧ ∃ o3 o4, σ = [some (.ref sa), some (.ref zl), some (.ref zs), some (.ref ka), some (.ref ca), some (.ref pa), some (.ref xa), some (.ref ya), o, some (.ref ga), some (.ref ta), some (.ref na), some (vn i), some (vn (pl.getD i 0)), o3, o4, none, none, none, none, none, none]
      refine ⟨4, rfl, by decide, by decide, for_range (lo := 0) (n := 4) Pv3 ⟨⟨tr, lr, ts, ll, gs, p', hts, dn, fun ⟨h, hh, _⟩ => (by omega)⟩, _, _, rfl⟩ ?_ ?_⟩
      · rintro j σ H7 hj ⟨⟨tr, lr, ts, ll, gs, p, hts, dn, hd⟩, o3, o4, rfl⟩
        rw [show (0 : Int) + (j : Int) = (j : Int) by omega]
        refine ⟨_, rfl, _, rfl, h2s, fun T1 hT1 => ?_⟩
        have g7 := same_new hT1 (.tup [vn (pl.getD i 0), vn j])
        refine ⟨_, rfl, ka, _, rfl, DGet.t (k := kk (pl.getD i 0) j) (g7 _ _ (keepS p.f _ _ he2)) upd_same, _, rfl, ?_⟩
        rw [dw.2]
        cases ew : W (pl.getD i 0) j with
        | none =>
          refine iteF (iteF ⟨⟨tr, lr, ts, ll, gs, p.same g7, (let ⟨ds, d1, d2⟩ := hts; ⟨ds, d1.up, d2⟩), dn, fun ⟨h, hh, hw⟩ => hd ⟨h, ?_, hw⟩⟩, _, _, rfl⟩)
          rcases Nat.lt_or_ge h j with z | z
          · exact z
          · rw [show h = j by omega, ew] at hw; cases hw
        | some qq =>
          refine iteT ⟨_, rfl, _, rfl, h2s, fun T2 hT2 => ?_⟩
          have g8 := g7.trans (same_new hT2 (.tup [vn (pl.getD i 0), vn j]))
          have p8 := p.same g8
          refine ⟨_, rfl, ga, _, rfl, DGet.t (k := kk (pl.getD i 0) j) p8.gA upd_same, _, rfl, ?_⟩
          cases eg : (valV gs (kk (pl.getD i 0) j)).isSome with
          | true =>
            refine iteFb (by rfl) ⟨⟨tr, lr, ts, ll, gs, p8, (let ⟨ds, d1, d2⟩ := hts; ⟨ds, d1.up, d2⟩), dn, fun _ => ?_⟩, _, _, rfl⟩
            obtain ⟨e, h1, h2⟩ := p8.gi _ _ eg pm0
            exact ⟨e, h1, by rw [h2]; exact ix0⟩
          | false =>
            refine iteTb (by rfl) ?_
            have S8 := keepS p8.f
            have hgl := p8.gl
            obtain ⟨ds, dx, dl⟩ := hts
            have dx26 := dx.few h26
            refine ⟨_, rfl, _, rfl, _, rfl, _, rfl, _, rfl, ka, pa, ga, a, b, pl.getD i 0, j, kvs, gs, W, come, pl, rfl, S8 _ _ he2, dw, nt, cm, hab, pc, S8 _ _ hp1, p8.gA, (apart _ _ he2).1.symm, by omega, pm0, ⟨qq, ew⟩, fun r1 H9 pts hs gs' hr1 sb f1 f2 lg tra h0 h40 z0 zl' inv => ?_⟩
            have f9 := p8.f.trans (sb.f3 (y := ta) (z := na))
            have tA9 := sb ta _ ntg p8.tA
            have lA9 := sb na _ nng p8.lA
            have trl : tr.length = ts.length := p8.tI.1
            have lrl : lr.length = ts.length := by rw [p8.lI.1, p8.ln]
            have n1t : r1 ≠ ta := fun z => by subst z; rw [p8.tA] at hr1; cases hr1
            have n1n : r1 ≠ na := fun z => by subst z; rw [p8.lA] at hr1; cases hr1
            have pth := tra.path nt h0 h40
            have tl := tra.len
            dsimp only
            refine via (fun σ' HA => Same H9 HA ∧ ∃ (lb : Addr) (pts2 : List Nat) (hs2 : Nat → Nat), HA lb = some (.lst (vns pts2)) ∧ lb ≠ ta ∧ lb ≠ na ∧ Path a b pts2 hs2 ∧ pts2.getD 0 0 ∈ pl ∧ pts2.getD (pts2.length - 1) 0 ∈ pl ∧ (∀ x, x = pl.getD i 0 ∨ x = pts.getD hs.length 0 → x = pts2.getD 0 0 ∨ x = pts2.getD (pts2.length - 1) 0) ∧ σ' = [some (.ref sa), some (.ref zl), some (.ref zs), some (.ref ka), some (.ref ca), some (.ref pa), some (.ref xa), some (.ref ya), o, some (.ref ga), some (.ref ta), some (.ref na), some (vn i), some (vn (pl.getD i 0)), some (vn j), some (.ref lb), none, none, none, none, none, none]) (fun k => ?_) ?_
            · refine ⟨_, rfl, sa, ns, _, rfl, (gS.trans (keepS f9)).seq hS, by decide, fun c5 => ⟨_, rfl, ta, _, rfl, .inl (SqL.of tA9), _, _, rfl, rfl, c5, _, rfl, by omega, by rw [List.length_map]; omega, fun m5 _ _ => ⟨_, _, rfl, rfl, (by show (0 : Int) < 2; decide), rfl, _, rfl, ite2 (fun _ => ?_) fun _ => ?_⟩⟩⟩
              · refine ⟨_, rfl, _, rfl, _, rfl, r1, _, 0, rfl, SqL.of f1, rfl, rfl, .inl ⟨rfl, rfl⟩, fun lb hlb => k _ _ ⟨same_new hlb _, lb, pts.reverse, _, ?_, fun z => ?_, fun z => ?_, pth.rev, ?_, ?_, fun x hx => ?_, rfl⟩⟩
                · rw [upd_same, List.drop_zero]; unfold vns; rw [List.map_reverse]
                · subst z; rw [tA9] at hlb; cases hlb
                · subst z; rw [lA9] at hlb; cases hlb
                · rw [getD_rev (by omega), show pts.length - 1 - 0 = hs.length by omega]; exact zl'
                · rw [List.length_reverse, getD_rev (by omega), show pts.length - 1 - (pts.length - 1) = 0 by omega, z0]; exact pm0
                · rw [List.length_reverse, getD_rev (by omega), getD_rev (by omega), show pts.length - 1 - 0 = hs.length by omega, show pts.length - 1 - (pts.length - 1) = 0 by omega, z0]
                  rcases hx with z | z
                  · exact .inr z
                  · exact .inl z
              · refine k _ _ ⟨Same.refl _, r1, pts, _, f1, n1t, n1n, pth, ?_, ?_, fun x hx => ?_, rfl⟩
                · rw [z0]; exact pm0
                · rw [show pts.length - 1 = hs.length by omega]; exact zl'
                · rw [z0, show pts.length - 1 = hs.length by omega]; exact hx
            · rintro σ' HA ⟨gA, lb, pts2, hs2, b1, bt, bn, b2, b3, b4, b5, rfl⟩
              have fA := f9.trans (gA.f3 (x := ga) (y := ta) (z := na))
              have SA := keepS fA
              have tAA := gA _ _ tA9
              have lAA := gA _ _ lA9
              have gAA := gA _ _ f2
              have pAA := SA _ _ hp1
              have l2 := b2.l2
              have l50 := b2.l50
              have i0 : atI (vns pts2) ((0 : Nat) : Int) = some (vn (pts2.getD 0 0)) := at_vns (j := 0) (by omega) rfl
              refine ⟨_, rfl, .inl ⟨rfl, _, SqL.of tAA⟩, _, rfl, .inl ⟨rfl, _, SqL.of pAA⟩, _, rfl, lb, _, _, _, rfl, rfl, SqL.of b1, i0, pa, pl, _, rfl, rfl, pAA, b3, _, rfl, .inl ⟨rfl, _, SqL.of pAA⟩, _, rfl, _, rfl, lb, _, _, _, rfl, rfl, SqL.of b1, at_vlast (m := pts2.length - 1) (by omega), pa, pl, _, rfl, rfl, pAA, b4, h2s, fun T3 hT3 => ⟨ta, _, _, rfl, rfl, same_new hT3 _ _ _ tAA, few' (by rw [List.length_map]; omega), ?_⟩⟩
              have gT := same_new hT3 (.tup [vn (pl.idxOf (pts2.getD 0 0)), vn (pl.idxOf (pts2.getD (pts2.length - 1) 0))])
              have fB := fA.trans ((gT.f3 (x := ga) (y := ta) (z := na)).trans (F3.u2 (o := .lst (tr.map V.ref ++ [.ref T3]))))
              have SB := keepS fB
              have lAB := (upd_ne (H := upd HA T3 (.tup [vn (pl.idxOf (pts2.getD 0 0)), vn (pl.idxOf (pts2.getD (pts2.length - 1) 0))])) (o := .lst (tr.map V.ref ++ [.ref T3])) nnt).trans (gT _ _ lAA)
              have gAB := (upd_ne (H := upd HA T3 (.tup [vn (pl.idxOf (pts2.getD 0 0)), vn (pl.idxOf (pts2.getD (pts2.length - 1) 0))])) (o := .lst (tr.map V.ref ++ [.ref T3])) (Ne.symm ntg)).trans (gT _ _ gAA)
              have b1B := (upd_ne (H := upd HA T3 (.tup [vn (pl.idxOf (pts2.getD 0 0)), vn (pl.idxOf (pts2.getD (pts2.length - 1) 0))])) (o := .lst (tr.map V.ref ++ [.ref T3])) bt).trans (gT _ _ b1)
              have n3t : T3 ≠ ta := fun z => by subst z; rw [tAA] at hT3; cases hT3
              have n3n : T3 ≠ na := fun z => by subst z; rw [lAA] at hT3; cases hT3
              have t3B := (upd_ne (H := upd HA T3 (.tup [vn (pl.idxOf (pts2.getD 0 0)), vn (pl.idxOf (pts2.getD (pts2.length - 1) 0))])) (o := .lst (tr.map V.ref ++ [.ref T3])) n3t).trans upd_same
              refine ⟨_, rfl, .inl ⟨rfl, _, SqL.of lAB⟩, _, rfl, lb, rfl, ⟨_, SqL.of b1B⟩, fun D hD => ?_⟩
              have pml : (pts2.map (pm a xl yl)).length = pts2.length := List.length_map ..
              refine comp_pts (pts2.map (pm a xl yl)) hD (by omega) (fun k HC hk gC => ⟨_, _, SqL.of (gC _ _ b1B), (by rw [List.getElem?_map, List.getElem?_eq_getElem (by omega)]; rfl)⟩) (fun HC gC => ⟨_, SqL.of (gC _ _ b1B), by rw [pml, List.length_map]; omega⟩) ?_ ?_
              · rintro k HC v HC' kt hk gC ⟨rfl, hy⟩ hkk
                have hv := hy _ (SqL.of (gC _ _ b1B))
                obtain ⟨hk2, rfl⟩ := vns_at hv
                have q0 := b2.lt k hk2
                have d0 := div_lt q0 ha
                have m0' := Nat.mod_lt (pts2.getD k 0) ha
                have zC := gC _ _ (SB _ _ hez)
                have xC := gC _ _ (SB _ _ x1)
                have yC := gC _ _ (SB _ _ y1)
                have rx1 := rx.1
                have ry1 := ry.1
                refine ⟨(Fills.refl _).set _ rfl, _, rfl, _, rfl, _, rfl, zs, _, _, _, rfl, rfl, SqT.of zC, rfl, _, _, rfl, rfl, c0, xa, _, _, _, rfl, rfl, SqL.of xC, atI_get0 (j := pts2.getD k 0 % a) (by omega) (Int.natCast_emod _ _).symm, _, rfl, _, rfl, _, rfl, zs, _, _, _, rfl, rfl, SqT.of zC, rfl, _, _, rfl, rfl, ⟨c0, by omega⟩, ya, _, _, _, rfl, rfl, SqL.of yC, atI_get0 (j := pts2.getD k 0 / a) (by omega) (Int.natCast_ediv _ _).symm, h2s, fun T4 hT4 => hkk _ _ (same_new hT4 _) ⟨T4, rfl, ?_⟩⟩
                have ept : L2.pt (pts2.map (pm a xl yl)) k = pm a xl yl (pts2.getD k 0) := by unfold L2.pt; simp [List.getD, hk2]
                rw [upd_same, ept]
                rfl
              · intro HD gD hps
                refine ⟨D, _, hs2, rfl, hps, b2.walk rx ry ha ha5 hb5, pm_bdd (b := b) rx ha ha5, fun r2 HE kp hr2 gE hpk hline hbd => ⟨na, _, _, rfl, rfl, gE _ _ (gD _ _ lAB), few' (by rw [List.length_map]; omega), ?_⟩⟩
                have gDE := gD.trans gE
                have n2t : r2 ≠ ta := fun z => by subst z; rw [gD _ _ upd_same] at hr2; cases hr2
                have n2n : r2 ≠ na := fun z => by subst z; rw [gD _ _ lAB] at hr2; cases hr2
                have fE := (((sb.f3 (y := ta) (z := na)).trans (gA.f3 (x := ga) (y := ta) (z := na))).trans ((gT.f3 (x := ga) (y := ta) (z := na)).trans (F3.u2 (o := .lst (tr.map V.ref ++ [.ref T3]))))).trans ((gDE.f3 (x := ga) (y := ta) (z := na)).trans (F3.u3 (o := .lst (lr.map V.ref ++ [.ref r2]))))
                have st := p8.step fE (T3 := T3) (r2 := r2) (x := pl.idxOf (pts2.getD 0 0)) (y := pl.idxOf (pts2.getD (pts2.length - 1) 0)) (kp := kp) (gs' := gs') ((upd_ne (Ne.symm nnt)).trans (gDE _ _ upd_same)) ((upd_ne n3n).trans (gDE _ _ t3B)) upd_same n2t n2n (hpk.f3 (F3.u3 (x := ga) (y := ta)) (gDE _ _ gAB) (gDE _ _ upd_same) (gE _ _ (gD _ _ lAB)) n2t n2n) ((upd_ne (Ne.symm nng)).trans (gDE _ _ gAB)) lg (List.idxOf_lt_length_of_mem b3) (List.idxOf_lt_length_of_mem b4) ⟨hline, hbd⟩ (fun u v e => ?_)
                · refine ⟨⟨_, _, _, _, _, st, ⟨ds ++ [4 * pl.getD i 0 + j], dx.add pc.nd hi hj (cm.lt _ (pc.sub _ pm0)) (go_gpc ha (nt.go _ _ _ ew).2.2.2), by simp only [List.length_append, List.length_singleton]; omega⟩, fun k hk => ?_, fun _ => ?_⟩, _, _, rfl⟩
                  · obtain ⟨e, h1, h2⟩ := dn k hk
                    exact ⟨e, by simp only [List.length_append, List.length_singleton]; omega, by rw [place_app h1]; exact h2⟩
                  · rcases b5 _ (.inl rfl) with z | z
                    · exact ⟨2 * ts.length, by simp only [List.length_append, List.length_singleton]; omega, by rw [place_l, ← z]; exact ix0⟩
                    · exact ⟨2 * ts.length + 1, by simp only [List.length_append, List.length_singleton]; omega, by rw [place_r, ← z]; exact ix0⟩
                · rcases inv u v e with z | z | z | z
                  · exact .inl z
                  · exact .inr (.inl z)
                  · rcases b5 u (.inl z) with y | y
                    · exact .inr (.inr (.inl (by rw [y])))
                    · exact .inr (.inr (.inr (by rw [y])))
                  · rcases b5 u (.inr z) with y | y
                    · exact .inr (.inr (.inl (by rw [y])))
                    · exact .inr (.inr (.inr (by rw [y])))
      · rintro σ H7 ⟨⟨tr, lr, ts, ll, gs, p, hts, dn, hd⟩, o3, o4, rfl⟩
        refine ⟨⟨tr, lr, ts, ll, gs, p, (let ⟨ds, d1, d2⟩ := hts; ⟨ds, d1.on, d2⟩), fun k hk => ?_⟩, _, _, _, _, rfl⟩
        rcases Nat.lt_or_ge k i with z | z
        · exact dn k z
        · rw [show k = i by omega]
          obtain ⟨h, q', e⟩ := cm.out _ (pc.sub _ pm0)
          exact hd ⟨h, (nt.go _ _ _ e).1, by rw [e]; rfl⟩
    · rintro σ H6 ⟨⟨tr, lr, ts, ll, gs, p, hts, dn⟩, o1, o2, o3, o4, rfl⟩
      have hlv : (vns pl).length = pl.length := List.length_map ..
      rw [hlv] at hts dn
      obtain ⟨ds, dx, dl⟩ := hts
      have dx26 := dx.few h26
      have S6 := keepS p.f
      have p6 := S6 _ _ hp1
      have pml : (pl.map (pm a xl yl)).length = pl.length := List.length_map ..
      have rx1 := rx.1
      have ry1 := ry.1
      refine ⟨_, rfl, pa, rfl, ⟨_, SqL.of p6⟩, fun D hD => ?_⟩
      refine comp_pts (pl.map (pm a xl yl)) hD (by omega) (fun k HC hk gC => ⟨_, _, SqL.of (gC _ _ p6), (by rw [List.getElem?_map, List.getElem?_eq_getElem (by omega)]; rfl)⟩) (fun HC gC => ⟨_, SqL.of (gC _ _ p6), by rw [pml, List.length_map]; omega⟩) ?_ ?_
      · rintro k HC v HC' kt hk gC ⟨rfl, hy⟩ hkk
        have hv := hy _ (SqL.of (gC _ _ p6))
        obtain ⟨hk2, rfl⟩ := vns_at hv
        have q0 := cm.lt _ (pc.sub _ (getD_mem hk2))
        have d0 := div_lt q0 ha
        have m0' := Nat.mod_lt (pl.getD k 0) ha
        have zC := gC _ _ (S6 _ _ hez)
        have xC := gC _ _ (S6 _ _ x1)
        have yC := gC _ _ (S6 _ _ y1)
        refine ⟨(Fills.refl _).set _ rfl, _, rfl, _, rfl, _, rfl, zs, _, _, _, rfl, rfl, SqT.of zC, rfl, _, _, rfl, rfl, c0, xa, _, _, _, rfl, rfl, SqL.of xC, atI_get0 (j := pl.getD k 0 % a) (by omega) (Int.natCast_emod _ _).symm, _, rfl, _, rfl, _, rfl, zs, _, _, _, rfl, rfl, SqT.of zC, rfl, _, _, rfl, rfl, ⟨c0, by omega⟩, ya, _, _, _, rfl, rfl, SqL.of yC, atI_get0 (j := pl.getD k 0 / a) (by omega) (Int.natCast_ediv _ _).symm, h2s, fun T4 hT4 => hkk _ _ (same_new hT4 _) ⟨T4, rfl, ?_⟩⟩
        have ept : L2.pt (pl.map (pm a xl yl)) k = pm a xl yl (pl.getD k 0) := by unfold L2.pt; simp [List.getD, hk2]
        rw [upd_same, ept]
        rfl
      · intro HB0 gB0 hsp
        have ts0 := gB0.ts (p.tI.ts p.tA)
        have ls0 := gB0.ls (p.lI.ls p.lA)
        have lln := p.ln
        refine ⟨_, rfl, na, ll, rfl, ls0, by omega, fun ps hps => ⟨(p.li ps hps).1.1, (p.li ps hps).1.2.1⟩, fun ha' HB hha gB eB => ?_⟩
        have gHB : Same H' HB := (S6.trans gB0).trans gB
        have tsB := gB.ts ts0
        have lsB := gB.ls ls0
        have spB := gB.ps hsp
        have pB := gHB _ _ hp1
        have hll := lvs_len ll
        refine ⟨few (by decide), fun oa hoa => ?_⟩
        have gO := same_new hoa (.lst [])
        refine ⟨_, rfl, pa, _, rfl, .inl (SqL.of (gO _ _ pB)), _, rfl, by omega, by omega, ?_⟩
        rw [hlv]
        let Pv4 : Nat → L2.St → L2.Hp → Prop := fun i σ H7 => Same HB H7 ∧ (∃ (rr : List Addr) (os : MM.Ords), H7 oa = some (.lst (rr.map V.ref)) ∧ rr.length = os.length ∧ os.length = i ∧ (∀ (k : Nat) l, os[k]? = some l → ∃ r, rr[k]? = some r ∧ r ≠ oa ∧ H7 r = some (.lst (vns l))) ∧ ∀ k, k < i → ∀ e, e ∈ MM.row os k ↔ e < 2 * ts.length ∧ MM.place ts e = k) ∧ ∃ o1 o5 o6 o7, σ = [some (.ref sa), some (.ref zl), some (.ref zs), some (.ref ka), some (.ref ca), some (.ref pa), some (.ref xa), some (.ref ya), o, some (.ref ga), some (.ref ta), some (.ref na), o1, o2, o3, o4, some (.ref D), some (.ref ha'), some (.ref oa), o5, o6, o7]
        refine for_range (lo := 0) (n := ((pl.length : Nat) : Int).toNat) Pv4
          ⟨gO, ⟨[], [], upd_same, rfl, rfl, fun k l h => (by simp at h), fun k hk => (by omega)⟩, _, _, _, _, rfl⟩ ?_ ?_
        · rintro i σ H7 hi ⟨g7, ⟨rr, os, q1, q2, q3, q4, q5⟩, o1', o5, o6, o7, rfl⟩
          have hi' : i < pl.length := by omega
          rw [show (0 : Int) + (i : Int) = (i : Int) by omega]
          have e7 := g7 _ _ eB
          have sS := gS.trans (gHB.trans g7)
          refine ⟨_, rfl, ha', _, rfl, .inl (SqL.of e7), _, rfl, by omega, by rw [List.length_map]; omega, fun D1 hD1 => ?_⟩
          rw [List.length_map]
          have hn : (((lvs ll).length : Nat) : Int).toNat = 2 * ts.length := by omega
          refine comp_filt (((lvs ll).length : Nat) : Int).toNat (fun k => vn k) (fun e => decide (MM.place ts e = i)) hD1 (by omega) (fun k HC hk _ => hk) (fun HC _ => Nat.le_refl _) ?_ ?_
          · rintro k HC v HC' kt kf hk gC ⟨rfl, rfl⟩ k1 k2
            rw [show (0 : Int) + (k : Int) = (k : Int) by omega]
            refine ⟨(Fills.refl _).set _ rfl, _, rfl, _, rfl, ta, ts, k, rfl, gC.ts (g7.ts tsB), by omega, _, rfl, rfl, _, rfl, ?_⟩
            have ce : (vn (MM.place ts k) = vn i) ↔ MM.place ts k = i := ⟨fun z => by injection z with z; omega, fun z => by rw [z]⟩
            by_cases c : MM.place ts k = i
            · exact iteTb (decide_eq_true (ce.mpr c)) ⟨_, rfl, k1 (decide_eq_true c) _ (Same.refl _)⟩
            · exact iteFb (decide_eq_false fun z => c (ce.mp z)) (k2 (decide_eq_false c) _ (Same.refl _))
          · intro H8 g8 e8
            rw [hn] at e8
            have ow_mem : ∀ e, e ∈ (List.range (2 * ts.length)).filter (fun e => decide (MM.place ts e = i)) ↔ e < 2 * ts.length ∧ MM.place ts e = i := fun e => by rw [List.mem_filter, List.mem_range, decide_eq_true_iff]
            have ow_len : ((List.range (2 * ts.length)).filter (fun e => decide (MM.place ts e = i))).length ≤ 2 * ts.length := Nat.le_trans (List.length_filter_le _ _) (by rw [List.length_range]; exact Nat.le_refl _)
            have ow_pos : 0 < ((List.range (2 * ts.length)).filter (fun e => decide (MM.place ts e = i))).length := by
              obtain ⟨e, h1, h2⟩ := dn i hi'
              exact List.length_pos_of_mem ((ow_mem e).mpr ⟨h1, h2⟩)
            generalize (List.range (2 * ts.length)).filter (fun e => decide (MM.place ts e = i)) = ow at e8 ow_mem ow_len ow_pos
            have h128 : ow.length ≤ 52 := by omega
            have psl : (ow.map fun e => ((at0 (lvs ll) e, (e : Int)) : Pt)).length = ow.length := List.length_map ..
            have ept : ∀ {k : Nat}, k < ow.length → L2.pt (ow.map fun e => ((at0 (lvs ll) e, (e : Int)) : Pt)) k = (at0 (lvs ll) (ow.getD k 0), ((ow.getD k 0 : Nat) : Int)) := fun {k} hk => by unfold L2.pt; simp [List.getD, hk]
            refine ⟨_, rfl, D1, rfl, ⟨_, SqL.of e8⟩, fun D2 hD2 => ?_⟩
            refine comp_pts (ow.map fun e => ((at0 (lvs ll) e, (e : Int)) : Pt)) hD2 (by omega) (fun k HC hk gC => ⟨_, _, SqL.of (gC _ _ e8), (by rw [List.getElem?_map, List.getElem?_eq_getElem (by omega)]; rfl)⟩) (fun HC gC => ⟨_, SqL.of (gC _ _ e8), by rw [psl, List.length_map]; omega⟩) ?_ ?_
            · rintro k HC v HC' kt hk gC ⟨rfl, hy⟩ hkk
              have hv := hy _ (SqL.of (gC _ _ e8))
              obtain ⟨hk2, rfl⟩ := vns_at hv
              have em := (ow_mem _).mp (getD_mem hk2)
              refine ⟨(Fills.refl _).set _ rfl, _, rfl, _, rfl, ha', _, _, _, rfl, rfl, SqL.of (gC _ _ (g8 _ _ e7)), atI_get0 (j := ow.getD k 0) (by omega) rfl, _, rfl, h2s, fun T4 hT4 => hkk _ _ (same_new hT4 _) ⟨T4, rfl, ?_⟩⟩
              rw [upd_same, ept hk2]
            · intro H9 g9 hps
              obtain ⟨as, a1, a2, a3⟩ := hps.refs
              rw [psl] at a2
              have ha3 : ∀ (k : Nat) x, as[k]? = some x → H9 x = some (.tup [.int (at0 (lvs ll) (ow.getD k 0)), vn (ow.getD k 0)]) := fun k x h => by
                have hk : k < ow.length := by rw [← a2]; exact (List.getElem?_eq_some_iff.mp h).1
                have := a3 k x h
                rw [ept hk] at this
                exact this
              have te0 := turned_ends (List.Perm.refl as) a2 ha3
              refine ⟨D2, as, dec H9, rfl, SqL.of a1, fun x hx => ?_, by omega, fun rw' rs hrw pm' _ => ?_⟩
              · obtain ⟨e, _, h⟩ := te0.1 x hx
                rw [dec_is h]
                exact ⟨by simp, SqT.of h⟩
              have hrl : rs.length = ow.length := by rw [pm'.length_eq, a2]
              have gw := same_new hrw (.lst (rs.map V.ref))
              have g89 := (g7.trans g8).trans g9
              have gQ := g89.trans gw
              refine ⟨_, rfl, sa, ns, _, rfl, (gS.trans (gHB.trans gQ)).seq hS, by decide, fun c6 => ⟨_, rfl, _, _, rfl, rfl, c6, _, rfl, by omega, by omega, fun m6 hm0 hm1 => ⟨_, rfl, rw', _, rfl, .inl (SqL.of upd_same), _, _, rfl, rfl, (by rw [List.length_map, hrl]; omega), ?_⟩⟩⟩
              obtain ⟨n6, hn6, en6⟩ : ∃ n : Nat, n < ow.length ∧ m6 % (((rs.map V.ref).length : Nat) : Int) = (n : Int) := by
                rw [List.length_map, hrl]
                have h1 := Int.emod_nonneg m6 (show (ow.length : Int) ≠ 0 by omega)
                have h2 := Int.emod_lt_of_pos m6 (show (0 : Int) < (ow.length : Int) by omega)
                exact ⟨(m6 % (ow.length : Int)).toNat, by omega, by omega⟩
              have cd := cut_d (rs.map V.ref) en6 (by rw [List.length_map]; omega)
              have ck := cut_k (rs.map V.ref) en6 (by rw [List.length_map]; omega)
              have oN : HB oa = none := hoa
              have q1w : upd H9 rw' (.lst (rs.map V.ref)) oa = some (.lst (rr.map V.ref)) := gw _ _ (g9 _ _ (g8 _ _ q1))
              refine ⟨_, rfl, .inl ⟨rfl, _, SqL.of q1w⟩, _, rfl, _, rfl, _, rfl, rw', _, rfl, SqL.of upd_same, fun s1 hs1 => ?_⟩
              have gs1 := same_new hs1 (.lst (cutV (rs.map V.ref) (some (m6 % (((rs.map V.ref).length : Nat) : Int))) none))
              refine ⟨_, rfl, _, rfl, _, rfl, rw', _, rfl, SqL.of (gs1 _ _ upd_same), fun s2 hs2 => ?_⟩
              have gs2 := same_new hs2 (.lst (cutV (rs.map V.ref) none (some (m6 % (((rs.map V.ref).length : Nat) : Int)))))
              refine ⟨s1, s2, _, _, rfl, rfl, gs2 _ _ upd_same, upd_same, (by rw [cd, ck]; simp only [List.length_drop, List.length_take, List.length_map]; exact few (by omega)), fun s3 hs3 => ?_⟩
              have ec : cutV (rs.map V.ref) (some (m6 % (((rs.map V.ref).length : Nat) : Int))) none ++ cutV (rs.map V.ref) none (some (m6 % (((rs.map V.ref).length : Nat) : Int))) = (rs.drop n6 ++ rs.take n6).map V.ref := by rw [cd, ck, List.map_append, List.map_drop, List.map_take]
              have gs3 := same_new hs3 (.lst (cutV (rs.map V.ref) (some (m6 % (((rs.map V.ref).length : Nat) : Int))) none ++ cutV (rs.map V.ref) none (some (m6 % (((rs.map V.ref).length : Nat) : Int)))))
              have p2 : (rs.drop n6 ++ rs.take n6).Perm as := by
                refine (List.perm_append_comm).trans ?_
                rw [List.take_append_drop]; exact pm'
              have te := turned_ends p2 a2 ha3
              have e3 := upd_same (H := upd (upd (upd H9 rw' (.lst (rs.map V.ref))) s1 (.lst (cutV (rs.map V.ref) (some (m6 % (((rs.map V.ref).length : Nat) : Int))) none))) s2 (.lst (cutV (rs.map V.ref) none (some (m6 % (((rs.map V.ref).length : Nat) : Int)))))) (a := s3) (o := .lst (cutV (rs.map V.ref) (some (m6 % (((rs.map V.ref).length : Nat) : Int))) none ++ cutV (rs.map V.ref) none (some (m6 % (((rs.map V.ref).length : Nat) : Int)))))
              rw [ec] at e3
              have p2l := p2.length_eq
              have gall := ((gw.trans gs1).trans gs2).trans gs3
              rw [ec] at gall
              generalize rs.drop n6 ++ rs.take n6 = rs2 at ec p2 te e3 p2l gall
              refine ⟨s3, rfl, ⟨_, SqL.of upd_same⟩, fun D3 hD3 => ?_⟩
              rw [ec] at hD3 ⊢
              refine comp_pure rs2.length (fun k => .int ((dec H9 (rs2.getD k 0)).getD 1 0)) hD3 (by omega) (fun k HC hk gC => ⟨_, _, SqL.of (gC _ _ e3), (by rw [List.getElem?_map, List.getElem?_eq_getElem hk]; rfl)⟩) (fun HC gC => ⟨_, SqL.of (gC _ _ e3), by simp⟩) ?_ ?_
              · rintro k HC v HC' kt hk gC ⟨rfl, hy⟩ hkk
                have hv := hy _ (SqL.of (gC _ _ e3))
                rw [List.getElem?_map, List.getElem?_eq_getElem hk] at hv
                have hv' : v = .ref (rs2.getD k 0) := by
                  simp only [Option.map_some, Option.some.injEq] at hv
                  rw [← hv]; simp [List.getD, hk]
                subst hv'
                obtain ⟨e, he, hx⟩ := te.1 (rs2.getD k 0) (by simp [List.getD, hk])
                refine ⟨_, _, rfl, SqT.of (gC _ _ (gall _ _ hx)), rfl, _, _, rfl, _, _, rfl, rfl, ((Fills.refl _).set _ rfl).set _ rfl, _, rfl, ?_⟩
                have := hkk _ (Same.refl _)
                rw [dec_is hx] at this
                exact this
              · intro HD gD eD
                have eD2 : HD D3 = some (.lst (vns (rs2.map fun x => ((dec H9 x).getD 1 0).toNat))) := by
                  rw [eD]
                  unfold vns
                  rw [List.map_map]
                  refine congrArg (fun z => some (HO.lst z)) ?_
                  apply List.ext_getElem?
                  intro k
                  by_cases hk : k < rs2.length
                  · rw [List.getElem?_map, List.getElem?_range hk, List.getElem?_map, List.getElem?_eq_getElem hk]
                    obtain ⟨e, he, hx⟩ := te.1 rs2[k] (List.getElem_mem hk)
                    have hg : rs2.getD k 0 = rs2[k] := by simp [List.getD, hk]
                    simp only [Option.map_some, Function.comp, hg, dec_is hx]
                    simp
                  · rw [List.getElem?_eq_none (by simp; omega), List.getElem?_eq_none (by simp; omega)]
                have gZ := gall.trans gD
                have nD : D3 ≠ oa := fun z => by subst z; rw [gall _ _ (g9 _ _ (g8 _ _ q1))] at hD3; cases hD3
                refine ⟨oa, _, _, rfl, rfl, gZ _ _ (g9 _ _ (g8 _ _ q1)), few' (by rw [List.length_map]; omega), (g89.trans gZ).upd hoa, ⟨rr ++ [D3], os ++ [rs2.map fun x => ((dec H9 x).getD 1 0).toNat], by rw [upd_same, List.map_append]; rfl, by simp [q2], by simp [q3], fun k l h => ?_, fun k hk e => ?_⟩, _, _, _, _, rfl⟩
                · rcases Nat.lt_or_ge k os.length with z | z
                  · rw [List.getElem?_append_left z] at h
                    obtain ⟨r, r1, r2, r3⟩ := q4 k l h
                    exact ⟨r, by rw [List.getElem?_append_left (by omega)]; exact r1, r2, by rw [upd_ne r2]; exact gZ _ _ (g9 _ _ (g8 _ _ r3))⟩
                  · rw [List.getElem?_append_right z] at h
                    have hk0 : k - os.length = 0 := by
                      have := (List.getElem?_eq_some_iff.mp h).1
                      simp at this; omega
                    rw [hk0] at h
                    simp at h
                    subst h
                    exact ⟨D3, by rw [List.getElem?_append_right (by omega), q2, hk0]; rfl, nD, by rw [upd_ne nD]; exact eD2⟩
                · rcases Nat.lt_or_ge k i with z | z
                  · rw [row_app (by omega)]; exact q5 k z e
                  · have : k = os.length := by omega
                    rw [this, row_end, te.2, ow_mem, q3]
        · rintro σ H7 ⟨g7, ⟨rr, os, q1, q2, q3, q4, q5⟩, o1', o5, o6, o7, rfl⟩
          have hn : ((pl.length : Nat) : Int).toNat = pl.length := by omega
          rw [hn] at q3 q5
          have hHas : Has ts os := by
            refine ⟨fun e he => ?_, fun r hr e he => ?_⟩
            · have hp := place_lt p.pt he
              exact ⟨by omega, (q5 _ hp e).mpr ⟨he, rfl⟩⟩
            · obtain ⟨k, hk, rfl⟩ := List.getElem_of_mem hr
              have : os[k] = MM.row os k := by unfold MM.row; simp [List.getD, hk]
              rw [this] at he
              exact ((q5 k (by omega) e).mp he).1
          refine ⟨_, rfl, pa, _, rfl, .inl (SqL.of (g7 _ _ pB)), _, rfl, _, rfl, (by show 3 ≤ sizeLine; decide), fun wa hwa => ?_⟩
          have gW := same_new hwa (.tup [.int (((vns pl).length : Nat) : Int), .ref ta, .ref oa])
          refine ⟨_, rfl, _, rfl, h2s, fun da hda => ?_⟩
          have gDa := same_new hda (.tup [.ref D, .ref na])
          refine ⟨h2s, fun rr' hrr' => ?_⟩
          have gR := same_new hrr' (.tup [.ref wa, .ref da])
          have gF := (gW.trans gDa).trans gR
          refine q rr' wa da D na (vns pl).length ts os (pl.map (pm a xl yl)) ll _ ((gS.trans (gHB.trans g7)).trans gF) upd_same ⟨ta, oa, (gDa.trans gR) _ _ upd_same, (g7.trans gF).ts tsB, ?_⟩ hHas (gR _ _ upd_same) ((g7.trans gF).ps spB) (by omega) (pm_bdd (b := b) rx ha ha5) ((g7.trans gF).ls lsB) lln (by omega) (by omega) p.li
          exact ⟨rr, gF _ _ q1, q2, fun k l h => by obtain ⟨r, r1, _, r3⟩ := q4 k l h; exact ⟨r, r1, gF _ _ r3⟩⟩
end K57

namespace L2
open PySem PySem.Spec PyProof.Rows
def dS (cs ls : List Int) : PyData := .tuple [.list (cs.map PyData.int), .list (ls.map PyData.int)]
theorem bd_shape {K : PySem.W.Frag} {H : Hp} {p a b : Addr} {cs ls : List Int} (h : H p = some (.tup [.ref a, .ref b])) (h1 : H a = some (.lst (cs.map V.int))) (h2 : H b = some (.lst (ls.map V.int))) : Bd K H (.ref p) (dS cs ls) := .tup (SqT.of h) (.cons (bd_ints h1) (.cons (bd_ints h2) .nil))
theorem dS_lay (cs ls : List Int) : (dS cs ls).canLay0 = true ∧ (dS cs ls).depth ≤ 5 := by
  have c1 := lay_ints cs
  have c2 := lay_ints ls
  have hs : PyData.canLayAll0 [PyData.list (cs.map PyData.int), .list (ls.map PyData.int)] = true ∧ PyData.depthAll [PyData.list (cs.map PyData.int), .list (ls.map PyData.int)] ≤ 4 := lay_all 4 fun d hd => by
    simp only [List.mem_cons, List.not_mem_nil, or_false] at hd
    rcases hd with rfl | rfl
    · exact ⟨c1.1, by rw [PyData.depth]; omega⟩
    · exact ⟨c2.1, by rw [PyData.depth]; omega⟩
  exact ⟨hs.1, by unfold dS; rw [PyData.depth]; omega⟩
theorem tup_shaped {ds : List PyData} (h : ∀ d ∈ ds, d.canLay0 = true ∧ d.depth ≤ 5) : SeqAt.shaped (.tuple ds) = true := by
  have := lay_all 5 h
  unfold SeqAt.shaped
  rw [Bool.and_eq_true]
  refine ⟨this.1, decide_eq_true ?_⟩
  rw [PyData.depth]
  omega
theorem dS_shaped (cs ls : List Int) : SeqAt.shaped (dS cs ls) = true := by
  have := dS_lay cs ls
  unfold SeqAt.shaped
  rw [Bool.and_eq_true]
  exact ⟨this.1, decide_eq_true (by omega)⟩
theorem dS_eqv (cs ls : List Int) : PyData.eqv (dS cs ls) (dS cs ls) = true := SeqAt.eqv_refl _ (SeqAt.canLay_of_shaped (dS_shaped cs ls))
theorem kpi_list {X : Cx} {K : PySem.W.Frag} (h : X.K = K) {tg l : Expr} {tl : TE} (hl : PE X l tl) : PI X tg l (iList K tl) := by subst h; exact pi_list hl
def dP (p : Pt) : PyData := .tuple [.int p.1, .int p.2]
def dPs (ps : List Pt) : PyData := .list (ps.map dP)
def dDr (sp : List Pt) (ll : List (List Pt)) : PyData := .tuple [dPs sp, .list (ll.map dPs)]
theorem bds_at {α : Type} {K : PySem.W.Frag} {H : Hp} {f : α → PyData} : ∀ {vs : List V} {xs : List α}, vs.length = xs.length → (∀ (i : Nat) v x, vs[i]? = some v → xs[i]? = some x → Bd K H v (f x)) → Bds K H vs (xs.map f)
  | [], [], _, _ => .nil
  | v :: vs, x :: xs, hl, h => .cons (h 0 v x rfl rfl) (bds_at (by simpa using hl) fun i v x a b => h (i + 1) v x (by simpa using a) (by simpa using b))
theorem bd_pts {K : PySem.W.Frag} {H : Hp} {l : Addr} {ps : List Pt} (h : PsAt H l ps) : Bd K H (.ref l) (dPs ps) := by
  obtain ⟨vs, v1, v2, v3⟩ := h
  refine .lst (SqL.of v1) (bds_at v2 fun i v x a b => ?_)
  obtain ⟨q, rfl, e⟩ := v3 i v x a b
  exact .tup (SqT.of e) (.cons (.int _) (.cons (.int _) .nil))
theorem bd_draw {K : PySem.W.Frag} {H : Hp} {d p l : Addr} {sp : List Pt} {ll : List (List Pt)} (h : H d = some (.tup [.ref p, .ref l])) (h1 : PsAt H p sp) (h2 : LsAt H l ll) : Bd K H (.ref d) (dDr sp ll) := by
  obtain ⟨vs, v1, v2, v3⟩ := h2
  refine .tup (SqT.of h) (.cons (bd_pts h1) (.cons (.lst (SqL.of v1) (bds_at v2 fun i v x a b => ?_)) .nil))
  obtain ⟨q, rfl, e⟩ := v3 i v x a b
  exact bd_pts e
theorem dP_lay (p : Pt) : (dP p).canLay0 = true ∧ (dP p).depth ≤ 3 := by
  have h := lay_ints [p.1, p.2]
  exact ⟨h.1, by unfold dP; rw [PyData.depth]; have := h.2; simp only [List.map_cons, List.map_nil] at this; omega⟩
theorem dPs_lay (ps : List Pt) : (dPs ps).canLay0 = true ∧ (dPs ps).depth ≤ 4 := by
  have h : PyData.canLayAll0 (ps.map dP) = true ∧ PyData.depthAll (ps.map dP) ≤ 3 := lay_all 3 fun d hd => by
    obtain ⟨p, _, rfl⟩ := List.mem_map.mp hd
    exact dP_lay p
  exact ⟨h.1, by unfold dPs; rw [PyData.depth]; omega⟩
theorem dDr_shaped (sp : List Pt) (ll : List (List Pt)) : SeqAt.shaped (dDr sp ll) = true := tup_shaped fun d hd => by
  have h : PyData.canLayAll0 (ll.map dPs) = true ∧ PyData.depthAll (ll.map dPs) ≤ 4 := lay_all 4 fun d hd => by
    obtain ⟨p, _, rfl⟩ := List.mem_map.mp hd
    exact dPs_lay p
  simp only [List.mem_cons, List.not_mem_nil, or_false] at hd
  rcases hd with rfl | rfl
  · have := dPs_lay sp; exact ⟨this.1, by omega⟩
  · exact ⟨h.1, by rw [PyData.depth]; omega⟩
theorem dDr_eqv (sp : List Pt) (ll : List (List Pt)) : PyData.eqv (dDr sp ll) (dDr sp ll) = true := SeqAt.eqv_refl _ (SeqAt.canLay_of_shaped (dDr_shaped sp ll))
def tp (w : Nat) (p : Pt) : Pt := if w = 0 then p else if w = 1 then (0 - p.1, p.2) else if w = 2 then (0 - p.2, p.1) else (10 ^ 38 * p.1, 2 * p.2)
theorem tp_strt {w : Nat} {p q : Pt} (h : Strt p q) : Strt (tp w p) (tp w q) := by
  have c : (10 : Int) ^ 38 ≠ 0 := by decide
  unfold tp
  by_cases h0 : w = 0
  · rw [if_pos h0, if_pos h0]; exact h
  rw [if_neg h0, if_neg h0]
  by_cases h1 : w = 1
  · rw [if_pos h1, if_pos h1]; unfold Strt at h ⊢; dsimp only; omega
  rw [if_neg h1, if_neg h1]
  by_cases h2 : w = 2
  · rw [if_pos h2, if_pos h2]; unfold Strt at h ⊢; dsimp only; omega
  rw [if_neg h2, if_neg h2]
  unfold Strt at h ⊢
  dsimp only
  rcases h with ⟨a, b⟩ | ⟨a, b⟩
  · exact .inl ⟨by rw [a], fun z => b (Int.eq_of_mul_eq_mul_left c z)⟩
  · exact .inr ⟨by rw [a], by omega⟩
theorem pt_map {ps : List Pt} {f : Pt → Pt} {k : Nat} (h : k < ps.length) : pt (ps.map f) k = f (pt ps k) := by
  unfold pt; simp [List.getD, h]
theorem Line.tp {ps : List Pt} (w : Nat) (h : Line ps) : Line (ps.map (L2.tp w)) := by
  refine ⟨by rw [List.length_map]; exact h.1, by rw [List.length_map]; exact h.2.1, fun k hk => ?_⟩
  rw [List.length_map] at hk
  rw [pt_map (by omega), pt_map hk]
  exact tp_strt (h.2.2 k hk)
theorem comp_objs {α : Type} {R0 : Hp → Addr → α → Prop} (mono : ∀ H H' l x, Same H H' → R0 H l x → R0 H' l x) (stab : ∀ H D ys o l x, H D = some (.lst ys) → l ≠ D → R0 H l x → R0 (upd H D o) l x)
    {J : It} {js : List (Option Nat)} {σ : St} {H1 : Hp} {R : Hp → Prop} {D : Addr} {g : TG} {te : TE} (xs : List α) (hD : H1 D = none) (hn : xs.length ≤ 90000)
    (go : ∀ i H', i < xs.length → Same H1 H' → J.go i H') (stop : ∀ H', Same H1 H' → J.stop xs.length H')
    (hs : ∀ i x H' v H'' (k : V → Hp → Prop), xs[i]? = some x → Same H1 H' → J.yld i H' v H'' → (∀ l H4, Same H' H4 → H' l = none → R0 H4 l x → k (.ref l) H4) → g v (inner js σ) H'' fun σ2 H2 => Fills (inner js σ) σ2 ∧ te σ2 H2 k)
    (hd : ∀ H', Same H1 H' → Lst (fun H v x => ∃ l, v = .ref l ∧ R0 H l x) H' D xs → R H') :
    ∃ W : Nat → Nat → List V → Hp → Prop, (∃ m, W 0 m [] (upd H1 D (.lst []))) ∧
      ∀ i m ys H, W i m ys H → (J.stop i H ∧ R H) ∨ (J.go i H ∧ ∃ N : List V → Hp → Prop, (∀ ys' H', N ys' H' → ∃ m', m' < m ∧ W (i + 1) m' ys' H') ∧ ∀ x H', J.yld i H x H' → g x (inner js σ) H' fun σ2 H2 => Fills (inner js σ) σ2 ∧ tTrue σ2 H2 fun b H3 =>
        if b = true then te σ2 H3 fun y H4 => H4 D = some (.lst ys) ∧ ys.length < sizeLine ∧ N (ys ++ [y]) (upd H4 D (.lst (ys ++ [y]))) else N ys H3) := by
  let Pv1 : Nat → List L2.V → L2.Hp → Prop := fun i ys H' => ys.length = i ∧ Same H1 H' ∧ H' D = some (.lst ys) ∧ ∀ (j : Nat) v x, ys[j]? = some v → xs[j]? = some x → ∃ l, v = .ref l ∧ l ≠ D ∧ R0 H' l x
  refine comp_map xs.length Pv1 ⟨rfl, same_new hD _, upd_same, fun j v x h => by simp at h⟩ ?_ ?_
  · rintro i ys H' hi ⟨hl, g1, e, hp⟩
    have hxi : xs[i]? = some xs[i] := List.getElem?_eq_getElem hi
    refine ⟨go i H' hi g1, fun x H'' y => hs i xs[i] H' x H'' _ hxi g1 y fun u H4 g4 hN hu => ⟨g4 _ _ e, few' (by omega), by simp [hl], (g1.trans g4).upd hD, upd_same, fun j v x h hx => ?_⟩⟩
    rcases Nat.lt_or_ge j ys.length with z | z
    · rw [List.getElem?_append_left z] at h
      obtain ⟨l, e1, e2, e3⟩ := hp j v x h hx
      exact ⟨l, e1, e2, stab _ _ _ _ _ _ (g4 _ _ e) e2 (mono _ _ _ _ g4 e3)⟩
    · rw [List.getElem?_append_right z] at h
      have hj : j - ys.length = 0 := by
        have := (List.getElem?_eq_some_iff.mp h).1
        simp at this; omega
      rw [hj] at h
      simp at h
      subst h
      rw [show j = i by omega, hxi] at hx
      cases hx
      have nD : u ≠ D := fun z => by subst z; rw [e] at hN; cases hN
      exact ⟨u, rfl, nD, stab _ _ _ _ _ _ (g4 _ _ e) nD hu⟩
  · rintro ys H' ⟨hl, g1, e, hp⟩
    exact ⟨stop H' g1, hd H' g1 ⟨ys, e, hl, fun j v x h1 h2 => by obtain ⟨l, e1, _, e3⟩ := hp j v x h1 h2; exact ⟨l, e1, e3⟩⟩⟩
theorem ps_stab : ∀ (H : Hp) (D : Addr) (ys : List V) (o : HO) (l : Addr) (x : List Pt), H D = some (.lst ys) → l ≠ D → PsAt H l x → PsAt (upd H D o) l x := fun H D ys o l x hD hl h => by
  obtain ⟨vs, v1, v2, v3⟩ := h
  refine ⟨vs, by rw [upd_ne hl]; exact v1, v2, fun j v p a b => ?_⟩
  obtain ⟨q, e, h⟩ := v3 j v p a b
  exact ⟨q, e, by rw [upd_ne (ne_of h hD (fun z => by cases z))]; exact h⟩
def NatsAt (H : Hp) (l : Addr) (x : List Nat) : Prop := H l = some (.lst (vns x))
theorem nats_stab : ∀ (H : Hp) (D : Addr) (ys : List V) (o : HO) (l : Addr) (x : List Nat), H D = some (.lst ys) → l ≠ D → NatsAt H l x → NatsAt (upd H D o) l x := fun H D ys o l x hD hl h => by
  unfold NatsAt; rw [upd_ne hl]; exact h
theorem Lst.os {H : Hp} {D : Addr} {os : MM.Ords} (h : Lst (fun H v x => ∃ l, v = .ref l ∧ NatsAt H l x) H D os) : OsAt H D os := by
  obtain ⟨vs, v1, v2, v3⟩ := h
  have al : ∀ (us : List V) (xs : List (List Nat)), us.length = xs.length → (∀ (i : Nat) v x, us[i]? = some v → xs[i]? = some x → ∃ l, v = .ref l ∧ NatsAt H l x) → ∃ rr : List Addr, us = rr.map V.ref ∧ ∀ (i : Nat) x, xs[i]? = some x → ∃ r, rr[i]? = some r ∧ H r = some (.lst (vns x)) := by
    intro us
    induction us with
    | nil => intro xs hl _; cases xs with
      | nil => exact ⟨[], rfl, fun i x h => by simp at h⟩
      | cons _ _ => simp at hl
    | cons u us ih => intro xs hl hh; cases xs with
      | nil => simp at hl
      | cons x xs =>
        obtain ⟨l, rfl, hx⟩ := hh 0 u x rfl rfl
        obtain ⟨rr, e1, e2⟩ := ih xs (by simpa using hl) fun i v x a b => hh (i + 1) v x (by simpa using a) (by simpa using b)
        refine ⟨l :: rr, by rw [e1]; rfl, fun i y hy => ?_⟩
        cases i with
        | zero => simp at hy; subst hy; exact ⟨l, rfl, hx⟩
        | succ i =>
          obtain ⟨r, r1, r2⟩ := e2 i y (by simpa using hy)
          exact ⟨r, by simpa using r1, r2⟩
  obtain ⟨rr, e1, e2⟩ := al vs os v2 v3
  exact ⟨rr, by rw [v1, e1], by rw [← v2, e1, List.length_map], e2⟩
theorem Has.rev {ts : MM.Ties} {os : MM.Ords} (h : Has ts os) : Has ts (os.map List.reverse) := by
  refine ⟨fun e he => ?_, fun r hr e he => ?_⟩
  · obtain ⟨h1, h2⟩ := h.has e he
    refine ⟨by rw [List.length_map]; exact h1, ?_⟩
    have : MM.row (os.map List.reverse) (MM.place ts e) = (MM.row os (MM.place ts e)).reverse := by unfold MM.row; simp [List.getD, h1]
    rw [this]; exact List.mem_reverse.mpr h2
  · obtain ⟨r', hr', rfl⟩ := List.mem_map.mp hr
    exact h.lt r' hr' e (List.mem_reverse.mp he)
end L2
namespace K57
open PySem L2 PyProof.Rows
variable {P : Program} {w : World} {K : PySem.W.Frag} {mg : Str → Option Value} {base : Heap} {t : Adr}
def spWhole : Sp := fun vs H Q _ => ∃ n : Int, vs = [.int n] ∧ Q (.bl true) H
theorem ok_whole (T : Txt K mg t) : FnOk P w K mg base CX0 1 t.a_l_whole t.d_l_whole ["_law_found"] spWhole := by
  refine T.F_l_whole.ok sc_l_whole (fun vs H Q E h => ?_) (fun cdv A outer s H vs Q E hr h => ?_)
  · obtain ⟨n, rfl, _⟩ := h; rfl
  obtain ⟨n, rfl, q⟩ := h
  refine ⟨_, (pss_one (ps_ret (pe_and (pe_callB call_isi rfl T.z_isinstance boot_isinstance (pa_cons (pv 0) (pa_cons (pe_bltn (v := .ty "int") rfl T.z_int boot_int rfl) pa_nil))) (pe_one (pe_not (pe_callB call_isi rfl T.z_isinstance boot_isinstance (pa_cons (pv 0) (pa_cons (pe_bltn (v := .ty "bool") rfl T.z_bool boot_bool rfl) pa_nil)))))))), ?_⟩
  exact ⟨_, rfl, _, "int", "int", rfl, rfl, .inr (.inr (.inl rfl)), _, rfl, iteTb (by rfl) ⟨_, rfl, _, "int", "bool", rfl, rfl, .inr (.inr (.inr rfl)), _, rfl, q⟩⟩
def spIsLB (vs : List L2.V) (H : L2.Hp) (Q : L2.VK) (l : Addr) (ns : List Int) : Prop := vs = [.ref l] ∧ H l = some (.lst (ns.map V.int)) ∧ ns.length ≤ 5000 ∧ ∀ H', Same H H' → Q (.bl true) H'
def spIsL : Sp := fun vs H Q _ => ∃ (l : Addr) (ns : List Int), spIsLB vs H Q l ns
theorem ok_isl (T : Txt K mg t) : FnOk P w K mg base CX0 2 t.a_l_is_list t.d_l_is_list ["_law_found"] spIsL := by
  have G_l_whole := ok_whole (P := P) (w := w) (base := base) T
  refine T.F_l_is_list.ok sc_l_is_list (fun vs H Q E h => ?_) (fun cdv A outer s H vs Q E hr h => ?_)
  · obtain ⟨l, ns, rfl, _⟩ := h; rfl
  obtain ⟨l, ns, rfl, hl, hn, q⟩ := h
  have nd_l_number : (["_law_number"] : List Str).Nodup := by decide
  refine ⟨_, (pss_one (ps_ret (pe_and (pe_callB call_isi rfl T.z_isinstance boot_isinstance (pa_cons (pv 0) (pa_cons (pe_bltn (v := .ty "list") rfl T.z_list boot_list rfl) pa_nil))) (pe_one (pe_callB (call_allB rfl) rfl T.z_all boot_all (pa_cons (pe_comp (N' := ["_law_number"]) (js := [none]) rfl (pi_list (pv 0)) (fun _ _ _ _ _ => (pg_name (i := 0) nd_l_number rfl (Or.inl rfl))) (fun _ _ _ _ _ => pf_nil) (fun _ _ _ _ _ => (pe_call G_l_whole (hr.mono (by decide)) rfl T.m_l_whole T.k_l_whole T.b_l_whole .nil pass0 (pa_cons (pv 0) pa_nil)))) pa_nil)))))), ?_⟩
  refine ⟨_, rfl, _, "list", "list", rfl, .inl ⟨rfl, _, hl⟩, .inl rfl, _, rfl, iteTb (by rfl) ⟨_, rfl, l, rfl, ⟨_, SqL.of hl⟩, fun D hD => ?_⟩⟩
  refine comp_pure ns.length (fun _ => .bl true) hD (by omega) (fun i H' hi g => ⟨_, _, SqL.of (g _ _ hl), at_get hi⟩) (fun H' g => ⟨_, SqL.of (g _ _ hl), by simp⟩) ?_ ?_
  · rintro i H' x H'' k hi g ⟨rfl, hy⟩ hk
    have hx := hy _ (SqL.of (g _ _ hl))
    rw [at_get hi] at hx
    cases hx
    exact ⟨(Fills.refl _).set _ rfl, _, rfl, _, rfl, hk _ (Same.refl _)⟩
  · intro H' g e
    have e2 : H' D = some (.lst ((List.replicate ns.length true).map V.bl)) := by
      rw [e]
      refine congrArg (fun z => some (HO.lst z)) ?_
      rw [List.map_replicate]
      exact List.eq_replicate_iff.mpr ⟨by simp, fun b hb => by obtain ⟨_, _, rfl⟩ := List.mem_map.mp hb; rfl⟩
    refine ⟨D, _, rfl, SqL.of e2, ?_⟩
    rw [show (List.replicate ns.length true).all id = true by rw [List.all_eq_true]; intro b hb; rw [List.eq_of_mem_replicate hb]; rfl]
    exact q H' g
def spTPB (vs : List L2.V) (H : L2.Hp) (Q : L2.VK) (a : Addr) (p : Pt) (k : Nat) : Prop := vs = [.ref a, vn k] ∧ H a = some (.tup [.int p.1, .int p.2]) ∧ k < 4 ∧ (-1000 < p.1 ∧ p.1 < 1000) ∧ ∀ u H', Same H H' → PtAt H' u (tp k p) → Q u H'
def spTP : Sp := fun vs H Q _ => ∃ (a : Addr) (p : Pt) (k : Nat), spTPB vs H Q a p k
theorem ok_tp (T : Txt K mg t) : FnOk P w K mg base CX0 1 t.a_l_turned_point t.d_l_turned_point ["_law_point", "_law_way"] spTP := by
  refine T.F_l_turned_point.ok sc_l_turned_point (fun vs H Q E h => ?_) (fun cdv A outer s H vs Q E hr h => ?_)
  · obtain ⟨a, p, k, rfl, _⟩ := h; rfl
  obtain ⟨a, p, k, rfl, ha, hk, hb, q⟩ := h
  have h2s : 2 ≤ sizeLine := by decide
  refine ⟨_, (pss_one (ps_ret (pe_ix ix_list (pe_lst (pa_cons (pv 0) (pa_cons (pe_tup (pa_cons (pe_op op_sub pe_int (pe_ix ix_tup (pv 0) pe_int (fun _ _ => rfl))) (pa_cons (pe_ix ix_tup (pv 0) pe_int (fun _ _ => rfl)) pa_nil))) (pa_cons (pe_tup (pa_cons (pe_op op_sub pe_int (pe_ix ix_tup (pv 0) pe_int (fun _ _ => rfl))) (pa_cons (pe_ix ix_tup (pv 0) pe_int (fun _ _ => rfl)) pa_nil))) (pa_cons (pe_tup (pa_cons (pe_op op_mul (pe_op op_pow pe_int pe_int) (pe_ix ix_tup (pv 0) pe_int (fun _ _ => rfl))) (pa_cons (pe_op op_mul pe_int (pe_ix ix_tup (pv 0) pe_int (fun _ _ => rfl))) pa_nil))) pa_nil))))) (pv 1) (fun _ _ => rfl)))), ?_⟩
  refine ⟨_, rfl, _, rfl, a, _, _, _, rfl, rfl, SqT.of ha, rfl, _, _, rfl, rfl, _, rfl, a, _, _, _, rfl, rfl, SqT.of ha, rfl, h2s, fun t1 h1 => ?_⟩
  have g1 := same_new h1 (.tup [.int (0 - p.1), .int p.2])
  have a1 := g1 _ _ ha
  refine ⟨_, rfl, a, _, _, _, rfl, rfl, SqT.of a1, rfl, _, _, rfl, rfl, _, rfl, a, _, _, _, rfl, rfl, SqT.of a1, rfl, h2s, fun t2 h2 => ?_⟩
  have g2 := same_new h2 (.tup [.int (0 - p.2), .int p.1])
  have a2 := g2 _ _ a1
  refine ⟨_, _, rfl, rfl, ⟨by decide, by decide, by decide⟩, _, rfl, a, _, _, _, rfl, rfl, SqT.of a2, rfl, _, _, rfl, rfl, .inr ⟨by omega, by omega⟩, _, rfl, a, _, _, _, rfl, rfl, SqT.of a2, rfl, _, _, rfl, rfl, .inl ⟨by decide, by decide⟩, h2s, fun t3 h3 => ?_⟩
  have g3 := same_new h3 (.tup [.int (10 ^ 38 * p.1), .int (2 * p.2)])
  refine ⟨(by show 4 ≤ sizeLine; decide), fun l hl => ?_⟩
  have g4 := same_new hl (.lst [.ref a, .ref t1, .ref t2, .ref t3])
  have gA := ((g1.trans g2).trans g3).trans g4
  have q' := fun u => q u _ gA
  match k, hk with
  | 0, _ => exact ⟨_, rfl, l, _, _, .ref a, rfl, rfl, SqL.of upd_same, atI_nat rfl, q' _ ⟨a, rfl, gA _ _ ha⟩⟩
  | 1, _ => exact ⟨_, rfl, l, _, _, .ref t1, rfl, rfl, SqL.of upd_same, atI_nat rfl, q' _ ⟨t1, rfl, g4 _ _ (g3 _ _ (g2 _ _ upd_same))⟩⟩
  | 2, _ => exact ⟨_, rfl, l, _, _, .ref t2, rfl, rfl, SqL.of upd_same, atI_nat rfl, q' _ ⟨t2, rfl, g4 _ _ (g3 _ _ upd_same)⟩⟩
  | 3, _ => exact ⟨_, rfl, l, _, _, .ref t3, rfl, rfl, SqL.of upd_same, atI_nat rfl, q' _ ⟨t3, rfl, g4 _ _ upd_same⟩⟩
end K57

namespace K57
open PySem L2 PyProof.Rows
variable {P : Program} {w : World} {K : PySem.W.Frag} {mg : Str → Option Value} {base : Heap} {t : Adr}
def spLawB (K : PySem.W.Frag) (vs : List L2.V) (H : L2.Hp) (Q : L2.VK) (a : Addr) (ns : List Int) : Prop := vs = [.ref a] ∧ SqL K H a (ns.map V.int) ∧ ns.length ≤ 63 ∧ ∀ H', Q (.bl true) H'
def spLaw (K : PySem.W.Frag) : Sp := fun vs H Q _ => ∃ (a : Addr) (ns : List Int), spLawB K vs H Q a ns
theorem ok_law (T : Txt K mg t) : FnOk P w K mg base CX0 lawK t.a_law t.d_law ["_law_script"] (spLaw K) := by
  have G_l_mix := ok_mix (P := P) (w := w) (base := base) T
  have G_l_cell_at := ok_cell (P := P) (w := w) (base := base) T
  have G_l_picture := ok_picture (P := P) (w := w) (base := base) T
  have G_l_turned_point := ok_tp (P := P) (w := w) (base := base) T
  have G_l_read := ok_read (P := P) (w := w) (base := base) T
  have G_l_is_list := ok_isl (P := P) (w := w) (base := base) T
  have G_shape_of := ok_shape (P := P) (w := w) (base := base) T
  refine T.F_law.ok sc_law (fun vs H Q E h => ?_) (fun cdv A outer s H vs Q E hr h => ?_)
  · obtain ⟨sa, ns, rfl, _⟩ := h; rfl
  obtain ⟨sa, ns, rfl, hS, _, q⟩ := h
  have nd := sc_law.nd
  have h2s : 2 ≤ sizeLine := by decide
  have nd_l_line_here : (["_law_line_here"] : List Str).Nodup := by decide
  have nd_l_order : (["_law_order"] : List Str).Nodup := by decide
  have nd_l_point_l_way : (["_law_point", "_law_way"] : List Str).Nodup := by decide
  have nd_l_line_here_l_way : (["_law_line_here", "_law_way"] : List Str).Nodup := by decide
  have nd_l_point_l_way : (["_law_point", "_law_way"] : List Str).Nodup := by decide
  refine ⟨_, (pss_cons (ps_asg (pe_call G_l_picture (hr.mono (by decide)) rfl T.m_l_picture T.k_l_picture T.b_l_picture .nil pass0 (pa_cons (pv 0) pa_nil)) (pg_tup rfl (pgs_cons (pg_name (i := 1) nd rfl (Or.inl rfl)) (pgs_cons (pg_name (i := 2) nd rfl (Or.inl rfl)) pgs_nil))))
    (pss_cons (ps_set (i := 3) nd rfl (Or.inr rfl) (pe_op op_mod (pe_call G_l_mix (hr.mono (by decide)) rfl T.m_l_mix T.k_l_mix T.b_l_mix .nil pass0 (pa_cons (pe_call G_l_cell_at (hr.mono (by decide)) rfl T.m_l_cell_at T.k_l_cell_at T.b_l_cell_at .nil pass0 (pa_cons (pv 0) (pa_cons pe_int pa_nil))) (pa_cons pe_int pa_nil))) pe_int))
    (pss_cons (ps_setComp (i := 4) nd rfl (Or.inl rfl)  (N' := ["_law_line_here", "_law_way"]) (js := [none, some 3]) rfl (pi_list (pe_ix ix_tup (pv 2) pe_int (fun _ _ => rfl))) (fun _ _ _ _ _ => (pg_name (i := 0) nd_l_line_here_l_way rfl (Or.inl rfl))) (fun _ _ _ _ _ => pf_nil) (fun _ _ _ _ _ => (pe_comp (N' := ["_law_point", "_law_way"]) (js := [none, some 1]) rfl (kpi_list (K := K) rfl (pv 0)) (fun _ _ _ _ _ => (pg_name (i := 0) nd_l_point_l_way rfl (Or.inl rfl))) (fun _ _ _ _ _ => pf_nil) (fun _ _ _ _ _ => (pe_call G_l_turned_point (hr.mono (by decide)) rfl T.m_l_turned_point T.k_l_turned_point T.b_l_turned_point .nil pass0 (pa_cons (pv 0) (pa_cons (pv 1) pa_nil)))))))
    (pss_cons (ps_set (i := 2) nd rfl (Or.inl rfl) (pe_tup (pa_cons (pe_comp (N' := ["_law_point", "_law_way"]) (js := [none, some 3]) rfl (pi_list (pe_ix ix_tup (pv 2) pe_int (fun _ _ => rfl))) (fun _ _ _ _ _ => (pg_name (i := 0) nd_l_point_l_way rfl (Or.inl rfl))) (fun _ _ _ _ _ => pf_nil) (fun _ _ _ _ _ => (pe_call G_l_turned_point (hr.mono (by decide)) rfl T.m_l_turned_point T.k_l_turned_point T.b_l_turned_point .nil pass0 (pa_cons (pv 0) (pa_cons (pv 1) pa_nil))))) (pa_cons (pv 4) pa_nil))))
    (pss_cons (ps_if (pt_cmpR op_eq (pv 3) pe_int (nomark _)) (pss_one (ps_set (i := 1) nd rfl (Or.inl rfl) (pe_tup (pa_cons (pe_ix ix_tup (pv 1) pe_int (fun _ _ => rfl)) (pa_cons (pe_ix ix_tup (pv 1) pe_int (fun _ _ => rfl)) (pa_cons (pe_comp (N' := ["_law_order"]) (js := [none]) rfl (pi_list (pe_ix ix_tup (pv 1) pe_int (fun _ _ => rfl))) (fun _ _ _ _ _ => (pg_name (i := 0) nd_l_order rfl (Or.inl rfl))) (fun _ _ _ _ _ => pf_nil) (fun _ _ _ _ _ => (kpe_sliceR (K := K) rfl (pv 0) po_none po_none (po_some (pe_un un_neg pe_int))))) pa_nil)))))) pss_nil)
    (pss_cons (ps_set (i := 5) nd rfl (Or.inl rfl) (pe_call G_l_read (hr.mono (by decide)) rfl T.m_l_read T.k_l_read T.b_l_read .nil pass0 (pa_cons (pv 1) (pa_cons (pv 2) pa_nil))))
    (pss_cons (ps_set (i := 6) nd rfl (Or.inl rfl) (pe_tup (pa_cons (pe_callTy call_list_of rfl T.z_list boot_list (pa_cons (pe_ix ix_tup (pv 2) pe_int (fun _ _ => rfl)) pa_nil)) (pa_cons (pe_comp (N' := ["_law_line_here"]) (js := [none]) rfl (pi_list (pe_ix ix_tup (pv 2) pe_int (fun _ _ => rfl))) (fun _ _ _ _ _ => (pg_name (i := 0) nd_l_line_here rfl (Or.inl rfl))) (fun _ _ _ _ _ => pf_nil) (fun _ _ _ _ _ => (pe_callTy (kcall_list (K := K) rfl) rfl T.z_list boot_list (pa_cons (pv 0) pa_nil)))) pa_nil))))
    (pss_cons (ps_for PassesOwn.never rfl (pi_range1 rfl T.z_range (pa_cons pe_int pa_nil)) (pg_name (i := 7) nd rfl (Or.inl rfl)) (pss_cons (ps_set (i := 8) nd rfl (Or.inl rfl) (pe_call G_shape_of (hr.mono (by decide)) rfl T.m_shape_of T.k_shape_of T.b_shape_of .nil pass0 (pa_cons (pv 1) (pa_cons (pv 6) pa_nil))))
    (pss_cons (ps_if (PW.pt (pw_or (pt_not (pt_truth (pe_callB call_isi rfl T.z_isinstance boot_isinstance (pa_cons (pv 8) (pa_cons (pe_bltn (v := .ty "tuple") rfl T.z_tuple boot_tuple rfl) pa_nil))) (fun _ => rfl))) (pw_or (pt_cmpR op_ne (pe_callB call_len_seq rfl T.z_len PySem.boot_len (pa_cons (pv 8) pa_nil)) pe_int (nomark _)) (pw_or (pt_not (pt_truth (pe_call G_l_is_list (hr.mono (by decide)) rfl T.m_l_is_list T.k_l_is_list T.b_l_is_list .nil pass0 (pa_cons (pe_ix ix_tup (pv 8) pe_int (fun _ _ => rfl)) pa_nil)) (fun _ => rfl))) (pw_or1 (pt_not (pt_truth (pe_call G_l_is_list (hr.mono (by decide)) rfl T.m_l_is_list T.k_l_is_list T.b_l_is_list .nil pass0 (pa_cons (pe_ix ix_tup (pv 8) pe_int (fun _ _ => rfl)) pa_nil)) (fun _ => rfl)))))))) (pss_one (ps_ret pe_bl)) pss_nil)
    (pss_cons (ps_if (PW.pt (pw_or (pt_cmpR (op_neD hr.units) (pv 8) (pv 5) (nomark _)) (pw_or1 (pt_cmpR (op_neD hr.units) (pv 6) (pv 2) (nomark _))))) (pss_one (ps_ret pe_bl)) pss_nil)
    (pss_cons (ps_expr (pe_bm0 PySem.F.plainAttrs_list PySem.F.slot_list_clear PySem.F.type_list_clear mt_clear (pe_ix ix_tup (pv 8) pe_int (fun _ _ => rfl))))
    (pss_one (ps_expr (pe_bm PySem.F.plainAttrs_list PySem.F.slot_list_append PySem.F.type_list_append mt_append (pe_ix ix_tup (pv 8) pe_int (fun _ _ => rfl)) (pa_cons pe_int pa_nil)))))))))
    (pss_one (ps_ret pe_bl)))))))))), ?_⟩
  refine ⟨_, rfl, sa, ns, rfl, hS, fun r0 wa da pa la n ts os sp ll H1 g1 f1 hweb hHas fd hsp hspl hspb hls hlen hts hos hli => ?_⟩
  refine ⟨r0, _, rfl, SqT.of f1, rfl, _, _, rfl, _, _, rfl, rfl, ?_⟩
  refine ⟨_, rfl, sa, ns, _, rfl, g1.seq hS, by decide, fun c0 => ⟨c0, _, rfl, by decide, by decide, fun m0 _ _ => ⟨_, _, rfl, rfl, (by show (0 : Int) < 4; decide), ?_⟩⟩⟩
  obtain ⟨k4, hk4, ek⟩ : ∃ k : Nat, k < 4 ∧ m0 % 4 = (k : Int) := ⟨(m0 % 4).toNat, by omega, by omega⟩
  have tpa : ∀ x : Addr, [V.ref x, V.int (m0 % 4)] ++ [] = [V.ref x, vn k4] := fun x => by rw [ek]; rfl
  obtain ⟨vs, y1, y2, y3⟩ := id hls
  have lml : (ll.map fun ps => ps.map (tp k4)).length = ll.length := List.length_map ..
  refine ⟨_, rfl, da, _, _, _, rfl, rfl, SqT.of fd, rfl, la, rfl, ⟨_, SqL.of y1⟩, fun D1 hD1 => ?_⟩
  refine comp_objs (R0 := PsAt) (fun H H' l x g h => g.ps h) ps_stab (ll.map fun ps => ps.map (tp k4)) hD1 (by omega) (fun i H' hi g => ⟨_, _, SqL.of (g _ _ y1), List.getElem?_eq_getElem (by omega)⟩) (fun H' g => ⟨_, SqL.of (g _ _ y1), by omega⟩) ?_ ?_
  · rintro i x H' v H'' k hx g2 ⟨rfl, hy⟩ hk
    have hv := hy _ (SqL.of (g2 _ _ y1))
    have hi : i < ll.length := by rw [← y2]; exact (List.getElem?_eq_some_iff.mp hv).1
    rw [List.getElem?_map, List.getElem?_eq_getElem hi] at hx
    cases hx
    obtain ⟨l', rfl, hp⟩ := y3 i v ll[i] hv (List.getElem?_eq_getElem hi)
    obtain ⟨us, u1, u2, u3⟩ := id (g2.ps hp)
    have hB := (hli ll[i] (List.getElem_mem hi)).2
    have hlen1 := (hli ll[i] (List.getElem_mem hi)).1.2.1
    have pml : (ll[i].map (tp k4)).length = ll[i].length := List.length_map ..
    refine ⟨(Fills.refl _).set _ rfl, _, rfl, l', rfl, ⟨_, SqL.of u1⟩, fun D2 hD2 => ?_⟩
    refine comp_pts (ll[i].map (tp k4)) hD2 (by omega) (fun j HC hj gC => ⟨_, _, SqL.of (gC _ _ u1), List.getElem?_eq_getElem (by omega)⟩) (fun HC gC => ⟨_, SqL.of (gC _ _ u1), by omega⟩) ?_ ?_
    · rintro j HC u HC' kt hj gC ⟨rfl, hz⟩ hkk
      have hu := hz _ (SqL.of (gC _ _ u1))
      have hj2 : j < ll[i].length := by omega
      obtain ⟨a, rfl, ha⟩ := u3 j u _ hu (pt_get hj2)
      exact ⟨(Fills.refl _).set _ rfl, _, rfl, _, rfl, a, _, k4, tpa a, gC _ _ ha, hk4, hB j hj2, fun u' H5 g5 h5 => hkk _ _ g5 (by rw [pt_map hj2]; exact h5)⟩
    · intro H3 g3 h3
      exact hk D2 H3 g3 hD2 h3
  intro H2 g2 h2
  have fd2 := g2 _ _ fd
  obtain ⟨us, u1, u2, u3⟩ := id (g2.ps hsp)
  have spl : (sp.map (tp k4)).length = sp.length := List.length_map ..
  refine ⟨_, rfl, da, _, _, _, rfl, rfl, SqT.of fd2, rfl, pa, rfl, ⟨_, SqL.of u1⟩, fun D3 hD3 => ?_⟩
  refine comp_pts (sp.map (tp k4)) hD3 (by omega) (fun j HC hj gC => ⟨_, _, SqL.of (gC _ _ u1), List.getElem?_eq_getElem (by omega)⟩) (fun HC gC => ⟨_, SqL.of (gC _ _ u1), by omega⟩) ?_ ?_
  · rintro j HC u HC' kt hj gC ⟨rfl, hz⟩ hkk
    have hu := hz _ (SqL.of (gC _ _ u1))
    have hj2 : j < sp.length := by omega
    obtain ⟨a, rfl, ha⟩ := u3 j u _ hu (pt_get hj2)
    exact ⟨(Fills.refl _).set _ rfl, _, rfl, _, rfl, a, _, k4, tpa a, gC _ _ ha, hk4, hspb j hj2, fun u' H5 g5 h5 => hkk _ _ g5 (by rw [pt_map hj2]; exact h5)⟩
  intro H3 g3 h3
  refine ⟨_, rfl, h2s, fun d2 hd2 => ?_⟩
  have gd := same_new hd2 (.tup [.ref D3, .ref D1])
  have hls2 : LsAt H2 D1 (ll.map fun ps => ps.map (tp k4)) := h2
  have hls4 := (g3.trans gd).ls hls2
  have hsp4 := gd.ps h3
  have hd4 : upd H3 d2 (.tup [.ref D3, .ref D1]) d2 = some (.tup [.ref D3, .ref D1]) := upd_same
  have g4 := (g2.trans g3).trans gd
  have hweb4 := g4.web hweb
  have g14 := g1.trans g4
  generalize upd H3 d2 (.tup [.ref D3, .ref D1]) = H4 at gd hls4 hsp4 hd4 g4 hweb4 g14 ⊢
  clear h2 hls2 h3 g3 gd
  have hL2 : ∀ ps ∈ (ll.map fun ps => ps.map (tp k4)), Line ps := fun ps hps => by
    obtain ⟨p0, hp0, rfl⟩ := List.mem_map.mp hps
    exact (hli p0 hp0).1.tp k4
  generalize (ll.map fun ps => ps.map (tp k4)) = l2 at hls4 hL2 lml
  generalize sp.map (tp k4) = s2 at hsp4 spl
  dsimp only
  refine via (fun σ' H5 => Same H4 H5 ∧ ∃ (wb : Addr) (os' : MM.Ords), WebAt H5 wb n ts os' ∧ Has ts os' ∧ σ' = [some (.ref sa), some (.ref wb), some (.ref d2), some (.int (m0 % 4)), some (.ref D1), none, none, none, none]) (fun k => ?_) ?_
  · refine ⟨_, rfl, rfl, _, rfl, ite2 (fun _ => ?_) fun _ => ?_⟩
    · obtain ⟨tA, oA, w1, w2, w3⟩ := id hweb4
      obtain ⟨rr, o1, o2, o3⟩ := id w3
      have ol : (os.map List.reverse).length = os.length := List.length_map ..
      refine ⟨_, rfl, wa, _, _, _, rfl, rfl, SqT.of w1, rfl, _, rfl, wa, _, _, _, rfl, rfl, SqT.of w1, rfl, _, rfl, wa, _, _, _, rfl, rfl, SqT.of w1, rfl, oA, rfl, ⟨_, SqL.of o1⟩, fun D4 hD4 => ?_⟩
      refine comp_objs (R0 := NatsAt) (fun H H' l x g h => g _ _ h) nats_stab (os.map List.reverse) hD4 (by omega) (fun i H' hi g => ⟨_, _, SqL.of (g _ _ o1), List.getElem?_eq_getElem (by rw [List.length_map]; omega)⟩) (fun H' g => ⟨_, SqL.of (g _ _ o1), by rw [List.length_map]; omega⟩) ?_ ?_
      · rintro i x H' v H'' k' hx g5 ⟨rfl, hy⟩ hk
        have hv := hy _ (SqL.of (g5 _ _ o1))
        have hi : i < os.length := by have := (List.getElem?_eq_some_iff.mp hx).1; omega
        rw [List.getElem?_map, List.getElem?_eq_getElem hi] at hx
        cases hx
        obtain ⟨r, r1, r2⟩ := o3 i os[i] (List.getElem?_eq_getElem hi)
        rw [List.getElem?_map, r1] at hv
        cases hv
        refine ⟨(Fills.refl _).set _ rfl, _, rfl, _, rfl, _, rfl, r, _, 0, rfl, SqL.of (g5 _ _ r2), rfl, rfl, .inl ⟨rfl, rfl⟩, fun p hp => hk p _ (same_new hp _) hp ?_⟩
        unfold NatsAt
        rw [upd_same, List.drop_zero]
        unfold vns
        rw [List.map_reverse]
      · intro H5 g5 h5
        have hO := h5.os
        refine ⟨(by show 3 ≤ sizeLine; decide), fun wb hwb => k _ _ ⟨g5.trans (same_new hwb _), wb, os.map List.reverse, ⟨tA, D4, upd_same, (g5.trans (same_new hwb _)).ts w2, (same_new hwb _).os hO⟩, hHas.rev, rfl⟩⟩
    · exact k _ _ ⟨Same.refl _, wa, os, hweb4, hHas, rfl⟩
  · rintro σ' H5 ⟨g5, wb, os', hweb5, hHas5, rfl⟩
    have hd5 := g5 _ _ hd4
    have hls5 := g5.ls hls4
    have hsp5 := g5.ps hsp4
    have l2n : l2.length = ts.length := by omega
    refine ⟨_, rfl, _, rfl, wb, d2, D3, D1, n, ts, os', l2, rfl, hweb5, hHas5, hd5, hls5, l2n, by omega, fun ps hps => ⟨(hL2 ps hps).1, (hL2 ps hps).2.1⟩, fun rd cd ld H6 g6 e1 e2 e3 => ?_⟩
    have hd6 := g6 _ _ hd5
    obtain ⟨ws, w1, w2, w3⟩ := id (g6.ps hsp5)
    refine ⟨_, rfl, d2, _, _, _, rfl, rfl, SqT.of hd6, rfl, D3, _, rfl, .inl (SqL.of w1), fun h1 hh1 => ?_⟩
    have g7 := same_new hh1 (.lst ws)
    have hsp7 : PsAt (upd H6 h1 (.lst ws)) h1 s2 := ⟨ws, upd_same, w2, fun i v x a b => PtAt.mono g7 _ _ (w3 i v x a b)⟩
    have hls7 := (g6.trans g7).ls hls5
    obtain ⟨xs, x1, x2, x3⟩ := id hls7
    refine ⟨_, rfl, d2, _, _, _, rfl, rfl, SqT.of (g7 _ _ hd6), rfl, D1, rfl, ⟨_, SqL.of x1⟩, fun D5 hD5 => ?_⟩
    refine comp_objs (R0 := PsAt) (fun H H' l x g h => g.ps h) ps_stab l2 hD5 (by omega) (fun i H' hi g => ⟨_, _, SqL.of (g _ _ x1), List.getElem?_eq_getElem (by omega)⟩) (fun H' g => ⟨_, SqL.of (g _ _ x1), by omega⟩) ?_ ?_
    · rintro i x H' v H'' k hx g8 ⟨rfl, hy⟩ hk
      have hv := hy _ (SqL.of (g8 _ _ x1))
      obtain ⟨l', rfl, hp⟩ := x3 i v x hv hx
      obtain ⟨ys, z1, z2, z3⟩ := id (g8.ps hp)
      exact ⟨(Fills.refl _).set _ rfl, _, rfl, l', _, rfl, .inl (SqL.of z1), fun p hp' => hk p _ (same_new hp' _) hp' ⟨ys, upd_same, z2, fun j u y a b => PtAt.mono (same_new hp' _) _ _ (z3 j u y a b)⟩⟩
    intro H8 g8 h8
    have hls8 : LsAt H8 D5 l2 := h8
    refine ⟨h2s, fun hd hhd => ?_⟩
    have g9 := same_new hhd (.tup [.ref h1, .ref D5])
    have g69 := (g7.trans g8).trans g9
    have f9 : upd H8 hd (.tup [.ref h1, .ref D5]) hd = some (.tup [.ref h1, .ref D5]) := upd_same
    have lsh := g9.ls hls8
    have sph := (g8.trans g9).ps hsp7
    have d9 := g69 _ _ hd6
    have lsd := (g6.trans g69).ls hls5
    have spd := (g6.trans g69).ps hsp5
    have web9 := (g6.trans g69).web hweb5
    have e19 := g69 _ _ e1
    have e29 := g69 _ _ e2
    have e39 := g69 _ _ e3
    generalize upd H8 hd (.tup [.ref h1, .ref D5]) = H9 at f9 lsh sph d9 lsd spd web9 e19 e29 e39 ⊢
    let Pv1 : Nat → L2.St → L2.Hp → Prop := fun i σ H' => Same H9 H' ∧ ∃ o1 o2, σ = [some (.ref sa), some (.ref wb), some (.ref d2), some (.int (m0 % 4)), some (.ref D1), some (.ref rd), some (.ref hd), o1, o2]
    refine ⟨2, rfl, by decide, by decide, for_range (lo := 0) (n := 2) Pv1 ⟨Same.refl _, none, none, rfl⟩ ?_ ?_⟩
    · rintro i σ H' _ ⟨g, o1, o2, rfl⟩
      refine ⟨_, rfl, _, rfl, wb, hd, h1, D5, n, ts, os', l2, rfl, g.web web9, hHas5, g _ _ f9, g.ls lsh, l2n, by omega, hL2, fun r c l HA hc hl ncl gA a1 a2 a3 => ?_⟩
      have cl : (cns ts os' (lvs l2)).length = 2 * l2.length := by unfold cns; rw [List.length_map, List.length_range, lvs_len]
      have ll' := lfs_len l2
      have G := g.trans gA
      refine ⟨_, rfl, _, "tuple", "tuple", rfl, .inr ⟨rfl, _, a1⟩, .inr (.inl rfl), _, rfl, iteFb (by rfl) ⟨_, rfl, r, _, rfl, .inr (SqT.of a1), rfl, _, rfl, iteFb (by rfl) ⟨_, rfl, r, _, _, _, rfl, rfl, SqT.of a1, rfl, c, _, rfl, a2, by omega, fun HB gB => ⟨_, rfl, iteFb (by rfl) ⟨_, rfl, r, _, _, _, rfl, rfl, SqT.of (gB _ _ a1), rfl, l, _, rfl, gB _ _ a3, by omega, fun HC gC => ⟨_, rfl, iteFb (by rfl) ?_⟩⟩⟩⟩⟩⟩
      have gBC := gB.trans gC
      have b1 := gBC _ _ a1
      have b2 := gBC _ _ a2
      have b3 := gBC _ _ a3
      have GC := G.trans gBC
      refine ⟨_, rfl, _, rfl, _, _, bd_shape b1 b2 b3, bd_shape (GC _ _ e19) (GC _ _ e29) (GC _ _ e39), dS_shaped _ _, dS_shaped _ _, _, rfl, iteFb (by rw [dS_eqv]; rfl) ⟨_, rfl, _, rfl, _, _, bd_draw (GC _ _ f9) (GC.ps sph) (GC.ls lsh), bd_draw (GC _ _ d9) (GC.ps spd) (GC.ls lsd), dDr_shaped _ _, dDr_shaped _ _, _, rfl, iteFb (by rw [dDr_eqv]; rfl) ?_⟩⟩
      have ncr : r ≠ c := ne_of b1 b2 (fun z => by cases z)
      refine ⟨_, rfl, r, _, _, _, rfl, rfl, SqT.of b1, rfl, .inl ⟨rfl, _, SqL.of b2⟩, c, _, rfl, rfl, b2, ?_⟩
      have b1' : upd HC c (.lst []) r = some (.tup [.ref c, .ref l]) := by rw [upd_ne ncr]; exact b1
      have b3' : upd HC c (.lst []) l = some (.lst ((lfs l2).map V.int)) := by rw [upd_ne (Ne.symm ncl)]; exact b3
      refine ⟨_, rfl, r, _, _, _, rfl, rfl, SqT.of b1', rfl, .inl ⟨rfl, _, SqL.of b3'⟩, l, _, _, rfl, rfl, b3', few' (by rw [List.length_map]; omega), (GC.upd (g.free hc)).upd (g.free hl), _, _, rfl⟩
    · rintro σ H' ⟨g, o1, o2, rfl⟩
      exact q _
end K57

namespace L2
open PySem
theorem len0 {p : List Value → Prop} (h : p []) : ∀ us : List Value, us.length = 0 → p us
  | [], _ => h
theorem lenS {n : Nat} {p : List Value → Prop} (h : ∀ a us, us.length = n → p (a :: us)) : ∀ us : List Value, us.length = n + 1 → p us
  | a :: us, e => h a us (Nat.succ.inj e)
theorem len1 {p : List Value → Prop} (h : ∀ a, p [a]) : ∀ us : List Value, us.length = 1 → p us := lenS fun a => len0 (h a)
theorem len2 {p : List Value → Prop} (h : ∀ a b, p [a, b]) : ∀ us : List Value, us.length = 2 → p us := lenS fun a => lenS fun b => len0 (h a b)
theorem len3 {p : List Value → Prop} (h : ∀ a b c, p [a, b, c]) : ∀ us : List Value, us.length = 3 → p us := lenS fun a => lenS fun b => lenS fun c => len0 (h a b c)
theorem len5 {p : List Value → Prop} (h : ∀ a b c d e, p [a, b, c, d, e]) : ∀ us : List Value, us.length = 5 → p us := lenS fun a => lenS fun b => lenS fun c => lenS fun d => lenS fun e => len0 (h a b c d e)
end L2
namespace K57
open PySem L2
theorem all_mk {l : PySem.W.OpenLaw} {w : World} {K : PySem.W.Frag} {h : Heap} {mg : Str → Option Value} {fa f0 f1 f2 f3 f4 f5 f6 f7 f8 f9 f10 f11 f12 f13 f14 f15 f16 f17 f18 f19 f20 f21 f22 f23 f24 f25 f26 f27 f28 f29 : Addr} (X : K.In h) (G : h.Ns mainGlobals mg) (hfa : mg "law" = some (.ref fa)) {qt : Tok}
    {od0 an0 od1 an1 od2 an2 od3 an3 od4 an4 od5 an5 od6 an6 od7 an7 od8 an8 od9 an9 od10 an10 od11 an11 od12 an12 od13 an13 od14 an14 od15 an15 od16 an16 od17 an17 od18 an18 od19 an19 od20 an20 od21 an21 od22 an22 od23 an23 od24 an24 od25 an25 od26 an26 od27 an27 od28 an28 od29 an29 : Option Addr} {sl0 sl1 sl2 sl3 sl4 sl5 sl6 sl7 sl8 sl9 sl10 sl11 sl12 sl13 sl14 sl15 sl16 sl17 sl18 sl19 sl20 sl21 sl22 sl23 sl24 sl25 sl26 sl27 sl28 sl29 : Array (Option Value)} {oc0 kV0 dc0 pm0 cd0 ct0 oc1 kV1 dc1 pm1 cd1 ct1 oc2 kV2 dc2 pm2 cd2 ct2 oc3 kV3 dc3 pm3 cd3 ct3 oc4 kV4 dc4 pm4 cd4 ct4 oc5 kV5 dc5 pm5 cd5 ct5 oc6 kV6 dc6 pm6 cd6 ct6 oc7 kV7 dc7 pm7 cd7 ct7 oc8 kV8 dc8 pm8 cd8 ct8 oc9 kV9 dc9 pm9 cd9 ct9 oc10 kV10 dc10 pm10 cd10 ct10 oc11 kV11 dc11 pm11 cd11 ct11 oc12 kV12 dc12 pm12 cd12 ct12 oc13 kV13 dc13 pm13 cd13 ct13 oc14 kV14 dc14 pm14 cd14 ct14 oc15 kV15 dc15 pm15 cd15 ct15 oc16 kV16 dc16 pm16 cd16 ct16 oc17 kV17 dc17 pm17 cd17 ct17 oc18 kV18 dc18 pm18 cd18 ct18 oc19 kV19 dc19 pm19 cd19 ct19 oc20 kV20 dc20 pm20 cd20 ct20 oc21 kV21 dc21 pm21 cd21 ct21 oc22 kV22 dc22 pm22 cd22 ct22 oc23 kV23 dc23 pm23 cd23 ct23 oc24 kV24 dc24 pm24 cd24 ct24 oc25 kV25 dc25 pm25 cd25 ct25 oc26 kV26 dc26 pm26 cd26 ct26 oc27 kV27 dc27 pm27 cd27 ct27 oc28 kV28 dc28 pm28 cd28 ct28 oc29 kV29 dc29 pm29 cd29 ct29 : Value}
    (a0 : PySem.W.nsIn K mainGlobals "opposite" = some (some (.ref f0))) (l0 : K.lookup f0 = some ⟨oc0, od0, .func (PySem.W.fnOf "opposite" "opposite" (defArgs s_opposite) (defBody s_opposite) (defScope s_opposite) .none kV0 dc0 pm0 an0 cd0 ct0), sl0⟩) (c0 : PySem.W.codeIn K cd0 "opposite" = true) (k0 : PySem.W.keepIn K (.ref f0) = true)
    (a1 : PySem.W.nsIn K mainGlobals "quarters_right" = some (some (.ref f1))) (l1 : K.lookup f1 = some ⟨oc1, od1, .func (PySem.W.fnOf "quarters_right" "quarters_right" (defArgs s_quarters_right) (defBody s_quarters_right) (defScope s_quarters_right) .none kV1 dc1 pm1 an1 cd1 ct1), sl1⟩) (c1 : PySem.W.codeIn K cd1 "quarters_right" = true) (k1 : PySem.W.keepIn K (.ref f1) = true)
    (a2 : PySem.W.nsIn K mainGlobals "step_heading" = some (some (.ref f2))) (l2 : K.lookup f2 = some ⟨oc2, od2, .func (PySem.W.fnOf "step_heading" "step_heading" (defArgs s_step_heading) (defBody s_step_heading) (defScope s_step_heading) .none kV2 dc2 pm2 an2 cd2 ct2), sl2⟩) (c2 : PySem.W.codeIn K cd2 "step_heading" = true) (k2 : PySem.W.keepIn K (.ref f2) = true)
    (a3 : PySem.W.nsIn K mainGlobals "line_headings" = some (some (.ref f3))) (l3 : K.lookup f3 = some ⟨oc3, od3, .func (PySem.W.fnOf "line_headings" "line_headings" (defArgs s_line_headings) (defBody s_line_headings) (defScope s_line_headings) .none kV3 dc3 pm3 an3 cd3 ct3), sl3⟩) (c3 : PySem.W.codeIn K cd3 "line_headings" = true) (k3 : PySem.W.keepIn K (.ref f3) = true)
    (a4 : PySem.W.nsIn K mainGlobals "other_end" = some (some (.ref f4))) (l4 : K.lookup f4 = some ⟨oc4, od4, .func (PySem.W.fnOf "other_end" "other_end" (defArgs s_other_end) (defBody s_other_end) (defScope s_other_end) .none kV4 dc4 pm4 an4 cd4 ct4), sl4⟩) (c4 : PySem.W.codeIn K cd4 "other_end" = true) (k4 : PySem.W.keepIn K (.ref f4) = true)
    (a5 : PySem.W.nsIn K mainGlobals "place_of" = some (some (.ref f5))) (l5 : K.lookup f5 = some ⟨oc5, od5, .func (PySem.W.fnOf "place_of" "place_of" (defArgs s_place_of) (defBody s_place_of) (defScope s_place_of) .none kV5 dc5 pm5 an5 cd5 ct5), sl5⟩) (c5 : PySem.W.codeIn K cd5 "place_of" = true) (k5 : PySem.W.keepIn K (.ref f5) = true)
    (a6 : PySem.W.nsIn K mainGlobals "goes_to" = some (some (.ref f6))) (l6 : K.lookup f6 = some ⟨oc6, od6, .func (PySem.W.fnOf "goes_to" "goes_to" (defArgs s_goes_to) (defBody s_goes_to) (defScope s_goes_to) .none kV6 dc6 pm6 an6 cd6 ct6), sl6⟩) (c6 : PySem.W.codeIn K cd6 "goes_to" = true) (k6 : PySem.W.keepIn K (.ref f6) = true)
    (a7 : PySem.W.nsIn K mainGlobals "behind" = some (some (.ref f7))) (l7 : K.lookup f7 = some ⟨oc7, od7, .func (PySem.W.fnOf "behind" "behind" (defArgs s_behind) (defBody s_behind) (defScope s_behind) .none kV7 dc7 pm7 an7 cd7 ct7), sl7⟩) (c7 : PySem.W.codeIn K cd7 "behind" = true) (k7 : PySem.W.keepIn K (.ref f7) = true)
    (a8 : PySem.W.nsIn K mainGlobals "leaving_headings" = some (some (.ref f8))) (l8 : K.lookup f8 = some ⟨oc8, od8, .func (PySem.W.fnOf "leaving_headings" "leaving_headings" (defArgs s_leaving_headings) (defBody s_leaving_headings) (defScope s_leaving_headings) .none kV8 dc8 pm8 an8 cd8 ct8), sl8⟩) (c8 : PySem.W.codeIn K cd8 "leaving_headings" = true) (k8 : PySem.W.keepIn K (.ref f8) = true)
    (a9 : PySem.W.nsIn K mainGlobals "shape_of" = some (some (.ref f9))) (l9 : K.lookup f9 = some ⟨oc9, od9, .func (PySem.W.fnOf "shape_of" "shape_of" (defArgs s_shape_of) (defBody s_shape_of) (defScope s_shape_of) .none kV9 dc9 pm9 an9 cd9 ct9), sl9⟩) (c9 : PySem.W.codeIn K cd9 "shape_of" = true) (k9 : PySem.W.keepIn K (.ref f9) = true)
    (a10 : PySem.W.nsIn K mainGlobals "turns_by" = some (some (.ref f10))) (l10 : K.lookup f10 = some ⟨oc10, od10, .func (PySem.W.fnOf "turns_by" "turns_by" (defArgs s_turns_by) (defBody s_turns_by) (defScope s_turns_by) .none kV10 dc10 pm10 an10 cd10 ct10), sl10⟩) (c10 : PySem.W.codeIn K cd10 "turns_by" = true) (k10 : PySem.W.keepIn K (.ref f10) = true)
    (a11 : PySem.W.nsIn K mainGlobals "_law_cell_at" = some (some (.ref f11))) (l11 : K.lookup f11 = some ⟨oc11, od11, .func (PySem.W.fnOf "_law_cell_at" "_law_cell_at" (defArgs s_l_cell_at) (defBody s_l_cell_at) (defScope s_l_cell_at) .none kV11 dc11 pm11 an11 cd11 ct11), sl11⟩) (c11 : PySem.W.codeIn K cd11 "_law_cell_at" = true) (k11 : PySem.W.keepIn K (.ref f11) = true)
    (a12 : PySem.W.nsIn K mainGlobals "_law_mix" = some (some (.ref f12))) (l12 : K.lookup f12 = some ⟨oc12, od12, .func (PySem.W.fnOf "_law_mix" "_law_mix" (defArgs s_l_mix) (defBody s_l_mix) (defScope s_l_mix) .none kV12 dc12 pm12 an12 cd12 ct12), sl12⟩) (c12 : PySem.W.codeIn K cd12 "_law_mix" = true) (k12 : PySem.W.keepIn K (.ref f12) = true)
    (a13 : PySem.W.nsIn K mainGlobals "_law_turned" = some (some (.ref f13))) (l13 : K.lookup f13 = some ⟨oc13, od13, .func (PySem.W.fnOf "_law_turned" "_law_turned" (defArgs s_l_turned) (defBody s_l_turned) (defScope s_l_turned) .none kV13 dc13 pm13 an13 cd13 ct13), sl13⟩) (c13 : PySem.W.codeIn K cd13 "_law_turned" = true) (k13 : PySem.W.keepIn K (.ref f13) = true)
    (a14 : PySem.W.nsIn K mainGlobals "_law_other" = some (some (.ref f14))) (l14 : K.lookup f14 = some ⟨oc14, od14, .func (PySem.W.fnOf "_law_other" "_law_other" (defArgs s_l_other) (defBody s_l_other) (defScope s_l_other) .none kV14 dc14 pm14 an14 cd14 ct14), sl14⟩) (c14 : PySem.W.codeIn K cd14 "_law_other" = true) (k14 : PySem.W.keepIn K (.ref f14) = true)
    (a15 : PySem.W.nsIn K mainGlobals "_law_place" = some (some (.ref f15))) (l15 : K.lookup f15 = some ⟨oc15, od15, .func (PySem.W.fnOf "_law_place" "_law_place" (defArgs s_l_place) (defBody s_l_place) (defScope s_l_place) .none kV15 dc15 pm15 an15 cd15 ct15), sl15⟩) (c15 : PySem.W.codeIn K cd15 "_law_place" = true) (k15 : PySem.W.keepIn K (.ref f15) = true)
    (a16 : PySem.W.nsIn K mainGlobals "_law_behind" = some (some (.ref f16))) (l16 : K.lookup f16 = some ⟨oc16, od16, .func (PySem.W.fnOf "_law_behind" "_law_behind" (defArgs s_l_behind) (defBody s_l_behind) (defScope s_l_behind) .none kV16 dc16 pm16 an16 cd16 ct16), sl16⟩) (c16 : PySem.W.codeIn K cd16 "_law_behind" = true) (k16 : PySem.W.keepIn K (.ref f16) = true)
    (a17 : PySem.W.nsIn K mainGlobals "_law_near" = some (some (.ref f17))) (l17 : K.lookup f17 = some ⟨oc17, od17, .func (PySem.W.fnOf "_law_near" "_law_near" (defArgs s_l_near) (defBody s_l_near) (defScope s_l_near) .none kV17 dc17 pm17 an17 cd17 ct17), sl17⟩) (c17 : PySem.W.codeIn K cd17 "_law_near" = true) (k17 : PySem.W.keepIn K (.ref f17) = true)
    (a18 : PySem.W.nsIn K mainGlobals "_law_ways" = some (some (.ref f18))) (l18 : K.lookup f18 = some ⟨oc18, od18, .func (PySem.W.fnOf "_law_ways" "_law_ways" (defArgs s_l_ways) (defBody s_l_ways) (defScope s_l_ways) .none kV18 dc18 pm18 an18 cd18 ct18), sl18⟩) (c18 : PySem.W.codeIn K cd18 "_law_ways" = true) (k18 : PySem.W.keepIn K (.ref f18) = true)
    (a19 : PySem.W.nsIn K mainGlobals "_law_spots" = some (some (.ref f19))) (l19 : K.lookup f19 = some ⟨oc19, od19, .func (PySem.W.fnOf "_law_spots" "_law_spots" (defArgs s_l_spots) (defBody s_l_spots) (defScope s_l_spots) .none kV19 dc19 pm19 an19 cd19 ct19), sl19⟩) (c19 : PySem.W.codeIn K cd19 "_law_spots" = true) (k19 : PySem.W.keepIn K (.ref f19) = true)
    (a20 : PySem.W.nsIn K mainGlobals "_law_line" = some (some (.ref f20))) (l20 : K.lookup f20 = some ⟨oc20, od20, .func (PySem.W.fnOf "_law_line" "_law_line" (defArgs s_l_line) (defBody s_l_line) (defScope s_l_line) .none kV20 dc20 pm20 an20 cd20 ct20), sl20⟩) (c20 : PySem.W.codeIn K cd20 "_law_line" = true) (k20 : PySem.W.keepIn K (.ref f20) = true)
    (a21 : PySem.W.nsIn K mainGlobals "_law_turns_of" = some (some (.ref f21))) (l21 : K.lookup f21 = some ⟨oc21, od21, .func (PySem.W.fnOf "_law_turns_of" "_law_turns_of" (defArgs s_l_turns_of) (defBody s_l_turns_of) (defScope s_l_turns_of) .none kV21 dc21 pm21 an21 cd21 ct21), sl21⟩) (c21 : PySem.W.codeIn K cd21 "_law_turns_of" = true) (k21 : PySem.W.keepIn K (.ref f21) = true)
    (a22 : PySem.W.nsIn K mainGlobals "_law_heads_on" = some (some (.ref f22))) (l22 : K.lookup f22 = some ⟨oc22, od22, .func (PySem.W.fnOf "_law_heads_on" "_law_heads_on" (defArgs s_l_heads_on) (defBody s_l_heads_on) (defScope s_l_heads_on) .none kV22 dc22 pm22 an22 cd22 ct22), sl22⟩) (c22 : PySem.W.codeIn K cd22 "_law_heads_on" = true) (k22 : PySem.W.keepIn K (.ref f22) = true)
    (a23 : PySem.W.nsIn K mainGlobals "_law_heads" = some (some (.ref f23))) (l23 : K.lookup f23 = some ⟨oc23, od23, .func (PySem.W.fnOf "_law_heads" "_law_heads" (defArgs s_l_heads) (defBody s_l_heads) (defScope s_l_heads) .none kV23 dc23 pm23 an23 cd23 ct23), sl23⟩) (c23 : PySem.W.codeIn K cd23 "_law_heads" = true) (k23 : PySem.W.keepIn K (.ref f23) = true)
    (a24 : PySem.W.nsIn K mainGlobals "_law_picture" = some (some (.ref f24))) (l24 : K.lookup f24 = some ⟨oc24, od24, .func (PySem.W.fnOf "_law_picture" "_law_picture" (defArgs s_l_picture) (defBody s_l_picture) (defScope s_l_picture) .none kV24 dc24 pm24 an24 cd24 ct24), sl24⟩) (c24 : PySem.W.codeIn K cd24 "_law_picture" = true) (k24 : PySem.W.keepIn K (.ref f24) = true)
    (a25 : PySem.W.nsIn K mainGlobals "_law_read" = some (some (.ref f25))) (l25 : K.lookup f25 = some ⟨oc25, od25, .func (PySem.W.fnOf "_law_read" "_law_read" (defArgs s_l_read) (defBody s_l_read) (defScope s_l_read) .none kV25 dc25 pm25 an25 cd25 ct25), sl25⟩) (c25 : PySem.W.codeIn K cd25 "_law_read" = true) (k25 : PySem.W.keepIn K (.ref f25) = true)
    (a26 : PySem.W.nsIn K mainGlobals "_law_whole" = some (some (.ref f26))) (l26 : K.lookup f26 = some ⟨oc26, od26, .func (PySem.W.fnOf "_law_whole" "_law_whole" (defArgs s_l_whole) (defBody s_l_whole) (defScope s_l_whole) .none kV26 dc26 pm26 an26 cd26 ct26), sl26⟩) (c26 : PySem.W.codeIn K cd26 "_law_whole" = true) (k26 : PySem.W.keepIn K (.ref f26) = true)
    (a27 : PySem.W.nsIn K mainGlobals "_law_is_list" = some (some (.ref f27))) (l27 : K.lookup f27 = some ⟨oc27, od27, .func (PySem.W.fnOf "_law_is_list" "_law_is_list" (defArgs s_l_is_list) (defBody s_l_is_list) (defScope s_l_is_list) .none kV27 dc27 pm27 an27 cd27 ct27), sl27⟩) (c27 : PySem.W.codeIn K cd27 "_law_is_list" = true) (k27 : PySem.W.keepIn K (.ref f27) = true)
    (a28 : PySem.W.nsIn K mainGlobals "_law_turned_point" = some (some (.ref f28))) (l28 : K.lookup f28 = some ⟨oc28, od28, .func (PySem.W.fnOf "_law_turned_point" "_law_turned_point" (defArgs s_l_turned_point) (defBody s_l_turned_point) (defScope s_l_turned_point) .none kV28 dc28 pm28 an28 cd28 ct28), sl28⟩) (c28 : PySem.W.codeIn K cd28 "_law_turned_point" = true) (k28 : PySem.W.keepIn K (.ref f28) = true)
    (a29 : PySem.W.nsIn K mainGlobals "law" = some (some (.ref f29))) (l29 : K.lookup f29 = some ⟨oc29, od29, .func (PySem.W.fnOf "law" "law" (defArgs s_law) (defBody s_law) (defScope s_law) .none kV29 dc29 pm29 an29 cd29 ct29), sl29⟩) (c29 : PySem.W.codeIn K cd29 "law" = true) (k29 : PySem.W.keepIn K (.ref f29) = true)
    (z0 : PySem.W.nsIn K mainGlobals "all" = some none)
    (z1 : PySem.W.nsIn K mainGlobals "bool" = some none)
    (z2 : PySem.W.nsIn K mainGlobals "enumerate" = some none)
    (z3 : PySem.W.nsIn K mainGlobals "int" = some none)
    (z4 : PySem.W.nsIn K mainGlobals "isinstance" = some none)
    (z5 : PySem.W.nsIn K mainGlobals "len" = some none)
    (z6 : PySem.W.nsIn K mainGlobals "list" = some none)
    (z7 : PySem.W.nsIn K mainGlobals "min" = some none)
    (z8 : PySem.W.nsIn K mainGlobals "range" = some none)
    (z9 : PySem.W.nsIn K mainGlobals "sorted" = some none)
    (z10 : PySem.W.nsIn K mainGlobals "tuple" = some none)
    (z11 : PySem.W.nsIn K mainGlobals "zip" = some none)
    (gq : PySem.W.nsIn K mainGlobals "QUARTERS_ROUND" = some (some (.int 4 qt)))
    : ∃ fd : FuncData, (∀ (s : Shared) (v : Value), BindsTo s fd ⟨[v], []⟩ [("_law_script", v)]) ∧ ∀ base : Heap, K.In base → base.Ns mainGlobals mg → FnOk l.prog w K mg base CX0 lawK fa fd ["_law_script"] (spLaw K) := by
  have e := hfa.symm.trans (PySem.W.mg_of X G a29)
  cases e
  have F0 := fun_mk (st := s_opposite) l0 c0 k0
  have b0 := F0.binds (ps := ["head"]) fun _ _ _ _ _ _ => len1 fun _ => rfl
  have F1 := fun_mk (st := s_quarters_right) l1 c1 k1
  have b1 := F1.binds (ps := ["head", "onward"]) fun _ _ _ _ _ _ => len2 fun _ _ => rfl
  have F2 := fun_mk (st := s_step_heading) l2 c2 k2
  have b2 := F2.binds (ps := ["point", "onward"]) fun _ _ _ _ _ _ => len2 fun _ _ => rfl
  have F3 := fun_mk (st := s_line_headings) l3 c3 k3
  have b3 := F3.binds (ps := ["line"]) fun _ _ _ _ _ _ => len1 fun _ => rfl
  have F4 := fun_mk (st := s_other_end) l4 c4 k4
  have b4 := F4.binds (ps := ["end"]) fun _ _ _ _ _ _ => len1 fun _ => rfl
  have F5 := fun_mk (st := s_place_of) l5 c5 k5
  have b5 := F5.binds (ps := ["web", "end"]) fun _ _ _ _ _ _ => len2 fun _ _ => rfl
  have F6 := fun_mk (st := s_goes_to) l6 c6 k6
  have b6 := F6.binds (ps := ["web", "end"]) fun _ _ _ _ _ _ => len2 fun _ _ => rfl
  have F7 := fun_mk (st := s_behind) l7 c7 k7
  have b7 := F7.binds (ps := ["web", "end"]) fun _ _ _ _ _ _ => len2 fun _ _ => rfl
  have F8 := fun_mk (st := s_leaving_headings) l8 c8 k8
  have b8 := F8.binds (ps := ["lines"]) fun _ _ _ _ _ _ => len1 fun _ => rfl
  have F9 := fun_mk (st := s_shape_of) l9 c9 k9
  have b9 := F9.binds (ps := ["web", "drawing"]) fun _ _ _ _ _ _ => len2 fun _ _ => rfl
  have F10 := fun_mk (st := s_turns_by) l10 c10 k10
  have b10 := F10.binds (ps := ["line", "quarters"]) fun _ _ _ _ _ _ => len2 fun _ _ => rfl
  have F11 := fun_mk (st := s_l_cell_at) l11 c11 k11
  have b11 := F11.binds (ps := ["_law_script", "_law_k"]) fun _ _ _ _ _ _ => len2 fun _ _ => rfl
  have F12 := fun_mk (st := s_l_mix) l12 c12 k12
  have b12 := F12.binds (ps := ["_law_cell", "_law_k"]) fun _ _ _ _ _ _ => len2 fun _ _ => rfl
  have F13 := fun_mk (st := s_l_turned) l13 c13 k13
  have b13 := F13.binds (ps := ["_law_number", "_law_many"]) fun _ _ _ _ _ _ => len2 fun _ _ => rfl
  have F14 := fun_mk (st := s_l_other) l14 c14 k14
  have b14 := F14.binds (ps := ["_law_end"]) fun _ _ _ _ _ _ => len1 fun _ => rfl
  have F15 := fun_mk (st := s_l_place) l15 c15 k15
  have b15 := F15.binds (ps := ["_law_ties", "_law_end"]) fun _ _ _ _ _ _ => len2 fun _ _ => rfl
  have F16 := fun_mk (st := s_l_behind) l16 c16 k16
  have b16 := F16.binds (ps := ["_law_ties", "_law_orders", "_law_end"]) fun _ _ _ _ _ _ => len3 fun _ _ _ => rfl
  have F17 := fun_mk (st := s_l_near) l17 c17 k17
  have b17 := F17.binds (ps := ["_law_size", "_law_point", "_law_head"]) fun _ _ _ _ _ _ => len3 fun _ _ _ => rfl
  have F18 := fun_mk (st := s_l_ways) l18 c18 k18
  have b18 := F18.binds (ps := ["_law_script", "_law_size"]) fun _ _ _ _ _ _ => len2 fun _ _ => rfl
  have F19 := fun_mk (st := s_l_spots) l19 c19 k19
  have b19 := F19.binds (ps := ["_law_script", "_law_ways_here", "_law_come"]) fun _ _ _ _ _ _ => len3 fun _ _ _ => rfl
  have F20 := fun_mk (st := s_l_line) l20 c20 k20
  have b20 := F20.binds (ps := ["_law_ways_here", "_law_places", "_law_point", "_law_head", "_law_gone"]) fun _ _ _ _ _ _ => len5 fun _ _ _ _ _ => rfl
  have F21 := fun_mk (st := s_l_turns_of) l21 c21 k21
  have b21 := F21.binds (ps := ["_law_line_here"]) fun _ _ _ _ _ _ => len1 fun _ => rfl
  have F22 := fun_mk (st := s_l_heads_on) l22 c22 k22
  have b22 := F22.binds (ps := ["_law_line_here"]) fun _ _ _ _ _ _ => len1 fun _ => rfl
  have F23 := fun_mk (st := s_l_heads) l23 c23 k23
  have b23 := F23.binds (ps := ["_law_lines"]) fun _ _ _ _ _ _ => len1 fun _ => rfl
  have F24 := fun_mk (st := s_l_picture) l24 c24 k24
  have b24 := F24.binds (ps := ["_law_script"]) fun _ _ _ _ _ _ => len1 fun _ => rfl
  have F25 := fun_mk (st := s_l_read) l25 c25 k25
  have b25 := F25.binds (ps := ["_law_web", "_law_drawing"]) fun _ _ _ _ _ _ => len2 fun _ _ => rfl
  have F26 := fun_mk (st := s_l_whole) l26 c26 k26
  have b26 := F26.binds (ps := ["_law_found"]) fun _ _ _ _ _ _ => len1 fun _ => rfl
  have F27 := fun_mk (st := s_l_is_list) l27 c27 k27
  have b27 := F27.binds (ps := ["_law_found"]) fun _ _ _ _ _ _ => len1 fun _ => rfl
  have F28 := fun_mk (st := s_l_turned_point) l28 c28 k28
  have b28 := F28.binds (ps := ["_law_point", "_law_way"]) fun _ _ _ _ _ _ => len2 fun _ _ => rfl
  have F29 := fun_mk (st := s_law) l29 c29 k29
  have b29 := F29.binds (ps := ["_law_script"]) fun _ _ _ _ _ _ => len1 fun _ => rfl
  have T : Txt K mg { q_tok := qt, a_opposite := f0, d_opposite := _, a_quarters_right := f1, d_quarters_right := _, a_step_heading := f2, d_step_heading := _, a_line_headings := f3, d_line_headings := _, a_other_end := f4, d_other_end := _, a_place_of := f5, d_place_of := _, a_goes_to := f6, d_goes_to := _, a_behind := f7, d_behind := _, a_leaving_headings := f8, d_leaving_headings := _, a_shape_of := f9, d_shape_of := _, a_turns_by := f10, d_turns_by := _, a_l_cell_at := f11, d_l_cell_at := _, a_l_mix := f12, d_l_mix := _, a_l_turned := f13, d_l_turned := _, a_l_other := f14, d_l_other := _, a_l_place := f15, d_l_place := _, a_l_behind := f16, d_l_behind := _, a_l_near := f17, d_l_near := _, a_l_ways := f18, d_l_ways := _, a_l_spots := f19, d_l_spots := _, a_l_line := f20, d_l_line := _, a_l_turns_of := f21, d_l_turns_of := _, a_l_heads_on := f22, d_l_heads_on := _, a_l_heads := f23, d_l_heads := _, a_l_picture := f24, d_l_picture := _, a_l_read := f25, d_l_read := _, a_l_whole := f26, d_l_whole := _, a_l_is_list := f27, d_l_is_list := _, a_l_turned_point := f28, d_l_turned_point := _, a_law := fa, d_law := _ } := { g_QUARTERS_ROUND := PySem.W.mg_of X G gq, F_opposite := F0, m_opposite := PySem.W.mg_of X G a0, k_opposite := k0, b_opposite := b0, F_quarters_right := F1, m_quarters_right := PySem.W.mg_of X G a1, k_quarters_right := k1, b_quarters_right := b1, F_step_heading := F2, m_step_heading := PySem.W.mg_of X G a2, k_step_heading := k2, b_step_heading := b2, F_line_headings := F3, m_line_headings := PySem.W.mg_of X G a3, k_line_headings := k3, b_line_headings := b3, F_other_end := F4, m_other_end := PySem.W.mg_of X G a4, k_other_end := k4, b_other_end := b4, F_place_of := F5, m_place_of := PySem.W.mg_of X G a5, k_place_of := k5, b_place_of := b5, F_goes_to := F6, m_goes_to := PySem.W.mg_of X G a6, k_goes_to := k6, b_goes_to := b6, F_behind := F7, m_behind := PySem.W.mg_of X G a7, k_behind := k7, b_behind := b7, F_leaving_headings := F8, m_leaving_headings := PySem.W.mg_of X G a8, k_leaving_headings := k8, b_leaving_headings := b8, F_shape_of := F9, m_shape_of := PySem.W.mg_of X G a9, k_shape_of := k9, b_shape_of := b9, F_turns_by := F10, m_turns_by := PySem.W.mg_of X G a10, k_turns_by := k10, b_turns_by := b10, F_l_cell_at := F11, m_l_cell_at := PySem.W.mg_of X G a11, k_l_cell_at := k11, b_l_cell_at := b11, F_l_mix := F12, m_l_mix := PySem.W.mg_of X G a12, k_l_mix := k12, b_l_mix := b12, F_l_turned := F13, m_l_turned := PySem.W.mg_of X G a13, k_l_turned := k13, b_l_turned := b13, F_l_other := F14, m_l_other := PySem.W.mg_of X G a14, k_l_other := k14, b_l_other := b14, F_l_place := F15, m_l_place := PySem.W.mg_of X G a15, k_l_place := k15, b_l_place := b15, F_l_behind := F16, m_l_behind := PySem.W.mg_of X G a16, k_l_behind := k16, b_l_behind := b16, F_l_near := F17, m_l_near := PySem.W.mg_of X G a17, k_l_near := k17, b_l_near := b17, F_l_ways := F18, m_l_ways := PySem.W.mg_of X G a18, k_l_ways := k18, b_l_ways := b18, F_l_spots := F19, m_l_spots := PySem.W.mg_of X G a19, k_l_spots := k19, b_l_spots := b19, F_l_line := F20, m_l_line := PySem.W.mg_of X G a20, k_l_line := k20, b_l_line := b20, F_l_turns_of := F21, m_l_turns_of := PySem.W.mg_of X G a21, k_l_turns_of := k21, b_l_turns_of := b21, F_l_heads_on := F22, m_l_heads_on := PySem.W.mg_of X G a22, k_l_heads_on := k22, b_l_heads_on := b22, F_l_heads := F23, m_l_heads := PySem.W.mg_of X G a23, k_l_heads := k23, b_l_heads := b23, F_l_picture := F24, m_l_picture := PySem.W.mg_of X G a24, k_l_picture := k24, b_l_picture := b24, F_l_read := F25, m_l_read := PySem.W.mg_of X G a25, k_l_read := k25, b_l_read := b25, F_l_whole := F26, m_l_whole := PySem.W.mg_of X G a26, k_l_whole := k26, b_l_whole := b26, F_l_is_list := F27, m_l_is_list := PySem.W.mg_of X G a27, k_l_is_list := k27, b_l_is_list := b27, F_l_turned_point := F28, m_l_turned_point := PySem.W.mg_of X G a28, k_l_turned_point := k28, b_l_turned_point := b28, F_law := F29, m_law := PySem.W.mg_of X G a29, k_law := k29, b_law := b29, z_all := PySem.W.mg_none_of X G z0, z_bool := PySem.W.mg_none_of X G z1, z_enumerate := PySem.W.mg_none_of X G z2, z_int := PySem.W.mg_none_of X G z3, z_isinstance := PySem.W.mg_none_of X G z4, z_len := PySem.W.mg_none_of X G z5, z_list := PySem.W.mg_none_of X G z6, z_min := PySem.W.mg_none_of X G z7, z_range := PySem.W.mg_none_of X G z8, z_sorted := PySem.W.mg_none_of X G z9, z_tuple := PySem.W.mg_none_of X G z10, z_zip := PySem.W.mg_none_of X G z11 }
  exact ⟨_, fun s v => .of_eq rfl, fun base _ _ => ok_law T⟩
theorem walk {l : PySem.W.OpenLaw} {q : Program} {loose : List Str} {XP : (Str → Option Value) → Heap → Prop} {YP : World → Heap → Prop} {d : DefRec} {K : Params → PySem.W.Frag} (hn : l.most = some 63) (hdf : d.params.defaults = [])
    (hY : ∀ (w : World) (h : Heap), YP w h → (K w.params).In h)
    (F : ∀ (w : World) (mg : Str → Option Value) (fa : Addr) (h : Heap), (K w.params).In h → h.Ns mainGlobals mg → mg d.name = some (.ref fa) →
      ∃ fd : FuncData, (∀ (s : Shared) (u : Value), BindsTo s fd ⟨[u], []⟩ [("_law_script", u)]) ∧ ∀ base : Heap, (K w.params).In base → base.Ns mainGlobals mg → FnOk l.prog w (K w.params) mg base CX0 lawK fa fd ["_law_script"] (spLaw (K w.params))) :
    PySem.W.WalkO q loose XP YP l.row.toRowW d [] (fun f vs => PySem.call f vs) :=
  L2.walk_of (n := 63) (k := lawK) (x := "_law_script") (CX := fun _ => CX0) (sp := fun w => spLaw (K w.params)) hn (by decide) hdf ⟨rfl, by decide, by decide⟩ hY F (fun _ _ a ns hl _ hS => ⟨a, ns, rfl, hS, hl, fun _ => rfl⟩) fun _ _ _ _ _ z => z
end K57
def PySem.W.Fast.tw3472293005224436064 : Nat := 0
def PySem.W.Fast.tw57812097790082183 : Nat := 0
def PySem.W.Fast.tw10729596112145036357 : Nat := 0
def PySem.W.Fast.tw11705409304406195934 : Nat := 0
def PySem.W.Fast.tw6336104392846371220 : Nat := 0
def PySem.W.Fast.tw16411902810398577183 : Nat := 0
def PySem.W.Fast.tw4447871688114217333 : Nat := 0
def PySem.W.Fast.tw3016730477841195170 : Nat := 0
def PySem.W.Fast.tw355601594848112915 : Nat := 0
def PySem.W.Fast.tw6277603047014238786 : Nat := 0
def PySem.W.Fast.tw13923335982373457464 : Nat := 0
def PySem.W.Fast.tw11840956242646309829 : Nat := 0
def PySem.W.Fast.tw4552773079435106553 : Nat := 0
def PySem.W.Fast.tw5297865729343040753 : Nat := 0
def PySem.W.Fast.tw8674042090071610837 : Nat := 0
def PySem.W.Fast.tw15617848918341947192 : Nat := 0
def PySem.W.Fast.tw15277996248933801722 : Nat := 0
def PySem.W.Fast.tw2488634357725760094 : Nat := 0
def PySem.W.Fast.tw17249512109995157569 : Nat := 0
def PySem.W.Fast.tw8256422748891596538 : Nat := 0
def PySem.W.Fast.tw8666865257203540887 : Nat := 0
def PySem.W.Fast.tw8444350274041935731 : Nat := 0
def PySem.W.Fast.tw6812048799139639033 : Nat := 0
def PySem.W.Fast.tw10487253392035192622 : Nat := 0
def PySem.W.Fast.tw50606860694027485 : Nat := 0
def PySem.W.Fast.tw8480895990712143871 : Nat := 0
def PySem.W.Fast.tw1184327983393680957 : Nat := 0
def PySem.W.Fast.tw15189667175132779259 : Nat := 0
def PySem.W.Fast.tw8545225901686304048 : Nat := 0
open PySem PySem.W PyProof.Rows
set_option maxRecDepth 100000 in
set_option maxHeartbeats 0 in
theorem PySem.Challenge.cw_fewbends_k57_shapes_read_holds : PySem.Challenge.rw_fewbends_k57_shapes_read.Holds := by
  w_on; o_law; k_head; (case hw => w_witness2)
  k_fill
  refine K57.walk (l := PySem.Challenge.rw_fewbends_k57_shapes_read) rfl rfl (fun w h Y => PySem.W.kIn_of Y) ?F
  case F =>
    intro w mg fa h KX G hmg
    refine' K57.all_mk KX G hmg ?a0 ?l0 ?c0 ?k0 ?a1 ?l1 ?c1 ?k1 ?a2 ?l2 ?c2 ?k2 ?a3 ?l3 ?c3 ?k3 ?a4 ?l4 ?c4 ?k4 ?a5 ?l5 ?c5 ?k5 ?a6 ?l6 ?c6 ?k6 ?a7 ?l7 ?c7 ?k7 ?a8 ?l8 ?c8 ?k8 ?a9 ?l9 ?c9 ?k9 ?a10 ?l10 ?c10 ?k10 ?a11 ?l11 ?c11 ?k11 ?a12 ?l12 ?c12 ?k12 ?a13 ?l13 ?c13 ?k13 ?a14 ?l14 ?c14 ?k14 ?a15 ?l15 ?c15 ?k15 ?a16 ?l16 ?c16 ?k16 ?a17 ?l17 ?c17 ?k17 ?a18 ?l18 ?c18 ?k18 ?a19 ?l19 ?c19 ?k19 ?a20 ?l20 ?c20 ?k20 ?a21 ?l21 ?c21 ?k21 ?a22 ?l22 ?c22 ?k22 ?a23 ?l23 ?c23 ?k23 ?a24 ?l24 ?c24 ?k24 ?a25 ?l25 ?c25 ?k25 ?a26 ?l26 ?c26 ?k26 ?a27 ?l27 ?c27 ?k27 ?a28 ?l28 ?c28 ?k28 ?a29 ?l29 ?c29 ?k29 ?z0 ?z1 ?z2 ?z3 ?z4 ?z5 ?z6 ?z7 ?z8 ?z9 ?z10 ?z11 ?gq
    (case a0 => k_is); (case l0 => k_is); (case c0 => k_is); (case k0 => k_is)
    (case a1 => k_is); (case l1 => k_is); (case c1 => k_is); (case k1 => k_is)
    (case a2 => k_is); (case l2 => k_is); (case c2 => k_is); (case k2 => k_is)
    (case a3 => k_is); (case l3 => k_is); (case c3 => k_is); (case k3 => k_is)
    (case a4 => k_is); (case l4 => k_is); (case c4 => k_is); (case k4 => k_is)
    (case a5 => k_is); (case l5 => k_is); (case c5 => k_is); (case k5 => k_is)
    (case a6 => k_is); (case l6 => k_is); (case c6 => k_is); (case k6 => k_is)
    (case a7 => k_is); (case l7 => k_is); (case c7 => k_is); (case k7 => k_is)
    (case a8 => k_is); (case l8 => k_is); (case c8 => k_is); (case k8 => k_is)
    (case a9 => k_is); (case l9 => k_is); (case c9 => k_is); (case k9 => k_is)
    (case a10 => k_is); (case l10 => k_is); (case c10 => k_is); (case k10 => k_is)
    (case a11 => k_is); (case l11 => k_is); (case c11 => k_is); (case k11 => k_is)
    (case a12 => k_is); (case l12 => k_is); (case c12 => k_is); (case k12 => k_is)
    (case a13 => k_is); (case l13 => k_is); (case c13 => k_is); (case k13 => k_is)
    (case a14 => k_is); (case l14 => k_is); (case c14 => k_is); (case k14 => k_is)
    (case a15 => k_is); (case l15 => k_is); (case c15 => k_is); (case k15 => k_is)
    (case a16 => k_is); (case l16 => k_is); (case c16 => k_is); (case k16 => k_is)
    (case a17 => k_is); (case l17 => k_is); (case c17 => k_is); (case k17 => k_is)
    (case a18 => k_is); (case l18 => k_is); (case c18 => k_is); (case k18 => k_is)
    (case a19 => k_is); (case l19 => k_is); (case c19 => k_is); (case k19 => k_is)
    (case a20 => k_is); (case l20 => k_is); (case c20 => k_is); (case k20 => k_is)
    (case a21 => k_is); (case l21 => k_is); (case c21 => k_is); (case k21 => k_is)
    (case a22 => k_is); (case l22 => k_is); (case c22 => k_is); (case k22 => k_is)
    (case a23 => k_is); (case l23 => k_is); (case c23 => k_is); (case k23 => k_is)
    (case a24 => k_is); (case l24 => k_is); (case c24 => k_is); (case k24 => k_is)
    (case a25 => k_is); (case l25 => k_is); (case c25 => k_is); (case k25 => k_is)
    (case a26 => k_is); (case l26 => k_is); (case c26 => k_is); (case k26 => k_is)
    (case a27 => k_is); (case l27 => k_is); (case c27 => k_is); (case k27 => k_is)
    (case a28 => k_is); (case l28 => k_is); (case c28 => k_is); (case k28 => k_is)
    (case a29 => k_is); (case l29 => k_is); (case c29 => k_is); (case k29 => k_is)
    (case z0 => k_is); (case z1 => k_is); (case z2 => k_is); (case z3 => k_is); (case z4 => k_is); (case z5 => k_is); (case z6 => k_is); (case z7 => k_is); (case z8 => k_is); (case z9 => k_is); (case z10 => k_is); (case z11 => k_is); (case gq => k_is)

