import PyProof.Rows.All
import Wide.All
import OpenK.AllK
import Wide.FinOn
import Lean
import PyProof.EqAt
import PyProof.EqKinds
import PyProof.TupleCall
import KE.BitLaws
import KE.KSortTup
import PyProof.MeetsSeq3
import PyProof.FactsAll.list_2
import PyProof.Rows.SortRuns
import PyProof.Rows.SortShell
import PyProof.Rows.SortRev
import PyProof.Rows.SortWalk
import PyProof.FactsAll.tuple_1
import PyProof.DictItems
import KE.KDictSum
import PySem.Challenge.RW_fewbends_k74_map_texts_that_are_none
set_option Elab.async false
set_option linter.all false
set_option maxRecDepth 100000
namespace L2
open PySem PySem.Spec PyProof.Rows

abbrev Key := Sum Int Str
def keyIs : Key → Value → Bool
  | .inl k, v => Value.isInt k v
  | .inr x, v => Value.isStrOf x v
def keyH (w : World) : Key → Int
  | .inl k => hashInt k
  | .inr x => hashStr w x
theorem keyIs_shape : ∀ {k : Key} {v : Value}, keyIs k v = true → (∃ i t, k = Sum.inl i ∧ v = Value.int i t) ∨ (∃ x t, k = Sum.inr x ∧ v = Value.str x t)
  | .inl i, v, h => by
    obtain ⟨t, e⟩ := Value.isInt_shape (k := i) (v := v) h
    exact .inl ⟨i, t, rfl, e⟩
  | .inr x, v, h => by
    obtain ⟨t, e⟩ := Value.isStrOf_shape (x := x) (v := v) h
    exact .inr ⟨x, t, rfl, e⟩
theorem key_ll (a b : Int) : decide ((Sum.inl a : Key) = Sum.inl b) = (a == b) := by
  by_cases e : a = b
  · subst e; simp
  · have h : ¬ (Sum.inl a : Key) = Sum.inl b := fun q => e (Sum.inl.inj q)
    rw [decide_eq_false h]
    exact (beq_eq_false_iff_ne.mpr e).symm
theorem key_rr (a b : Str) : decide ((Sum.inr a : Key) = Sum.inr b) = decide (a = b) := by
  by_cases e : a = b
  · subst e; simp
  · have h : ¬ (Sum.inr a : Key) = Sum.inr b := fun q => e (Sum.inr.inj q)
    rw [decide_eq_false h, decide_eq_false e]
theorem key_lr (a : Int) (b : Str) : decide ((Sum.inl a : Key) = Sum.inr b) = false := decide_eq_false (fun q => nomatch q)
theorem key_rl (a : Str) (b : Int) : decide ((Sum.inr a : Key) = Sum.inl b) = false := decide_eq_false (fun q => nomatch q)

def mixKind (prog : Program) (w : World) : PySem.KeyKind prog w Key where
  is := keyIs
  hash := keyH w
  inj := fun v a b ha hb => by
    rcases keyIs_shape ha with ⟨i, t, rfl, rfl⟩ | ⟨x, t, rfl, rfl⟩
    · rcases keyIs_shape hb with ⟨j, u, rfl, e⟩ | ⟨y, u, rfl, e⟩
      · injection e with e1 _; rw [e1]
      · exact nomatch e
    · rcases keyIs_shape hb with ⟨j, u, rfl, e⟩ | ⟨y, u, rfl, e⟩
      · exact nomatch e
      · injection e with e1 _; rw [e1]
  byValue := fun k v h => by
    rcases keyIs_shape h with ⟨i, t, rfl, rfl⟩ | ⟨x, t, rfl, rfl⟩ <;> rfl
  pyHash := fun hv h => by
    rcases keyIs_shape hv with ⟨i, t, rfl, rfl⟩ | ⟨x, t, rfl, rfl⟩
    · exact wpAny_pyHash_int h
    · exact wpAny_pyHash_str h
  eqBool := fun hu hv h => by
    rcases keyIs_shape hu with ⟨i, t, rfl, rfl⟩ | ⟨x, t, rfl, rfl⟩
    · rcases keyIs_shape hv with ⟨j, u, rfl, rfl⟩ | ⟨y, u, rfl, rfl⟩
      · rw [key_ll] at h; exact wpAny_eqBool_int h
      · rw [key_lr] at h; exact SeqAt.EqAt.int_str i t y u _ _ _ _ h
    · rcases keyIs_shape hv with ⟨j, u, rfl, rfl⟩ | ⟨y, u, rfl, rfl⟩
      · rw [key_rl] at h; exact SeqAt.EqAt.str_int x t j u _ _ _ _ h
      · rw [key_rr] at h; exact wpAny_eqBool_str h
  «strs» := fun k x t v h => by
    rcases keyIs_shape h with ⟨i, u, rfl, e⟩ | ⟨y, u, rfl, e⟩
    · exact nomatch e
    · injection e with e1 _
      subst e1
      cases v <;> rfl

end L2

namespace L2
open PySem PySem.Spec PyProof.Rows

inductive V where
  | non | bl (b : Bool) | int (i : Int) | str (x : Str) | byt (b : Array UInt8) | flt (b : UInt64) | ref (a : Addr) | ty (n : String)
  deriving DecidableEq

def RelV : V → Value → Prop
  | .non, u => u = Value.none
  | .bl b, u => u = Value.bool b
  | .int i, u => ∃ t, u = Value.int i t
  | .str x, u => ∃ t, u = Value.str x t
  | .byt b, u => ∃ t, u = Value.bytes b t
  | .flt b, u => ∃ t, u = Value.float b t
  | .ref a, u => u = Value.ref a
  | .ty n, u => u = Value.type n

abbrev Vals : List V → List Value → Prop := Paired RelV
theorem Vals.length {xs : List V} {us : List Value} (r : Vals xs us) : xs.length = us.length := Paired.length r
theorem Vals.get : ∀ {xs : List V} {us : List Value} {i : Nat} {x : V}, Vals xs us → xs[i]? = some x → ∃ u, us[i]? = some u ∧ RelV x u
  | _, _, _, _, .nil, e => by simp at e
  | _, _, 0, _, .cons r _, e => by simp at e; subst e; exact ⟨_, rfl, r⟩
  | _, _, i + 1, x, .cons _ t, e => by
    obtain ⟨u, h1, h2⟩ := Vals.get (i := i) (x := x) t (by simpa using e)
    exact ⟨u, by simpa using h1, h2⟩
theorem Vals.set {x : V} {u : Value} (r : RelV x u) : ∀ {xs : List V} {us : List Value} (i : Nat), Vals xs us → Vals (xs.set i x) (us.set i u)
  | _, _, _, .nil => .nil
  | _, _, 0, .cons _ t => .cons r t
  | _, _, i + 1, .cons q t => .cons q (Vals.set r i t)
theorem Vals.append : ∀ {xs ys : List V} {us ws : List Value}, Vals xs us → Vals ys ws → Vals (xs ++ ys) (us ++ ws)
  | _, _, _, _, .nil, s => s
  | _, _, _, _, .cons r t, s => .cons r (Vals.append t s)
theorem Vals.take : ∀ {xs : List V} {us : List Value} (n : Nat), Vals xs us → Vals (xs.take n) (us.take n)
  | _, _, 0, _ => .nil
  | _, _, _ + 1, .nil => .nil
  | _, _, n + 1, .cons r t => .cons r (Vals.take n t)
theorem Vals.drop : ∀ {xs : List V} {us : List Value} (n : Nat), Vals xs us → Vals (xs.drop n) (us.drop n)
  | _, _, 0, r => r
  | _, _, _ + 1, .nil => .nil
  | _, _, n + 1, .cons _ t => Vals.drop n t
def RelO : Option V → Option Value → Prop
  | some v, some u => RelV v u
  | none, none => True
  | _, _ => False
def KV {κ : Type} : List (κ × V) → List (κ × Value) → Prop := Paired fun (p : κ × V) (q : κ × Value) => p.1 = q.1 ∧ RelV p.2 q.2

def kV : Key → V
  | .inl i => .int i
  | .inr x => .str x

inductive HO where
  /-- a list -/
  | lst (xs : List V)
  /-- a tuple (never changes) -/
  | tup (xs : List V)
  /-- a dict whose keys are ints and texts; one whose keys are tuples of ints and texts (the empty one is both) -/
  | dK (kvs : List (Key × V)) | dT (kvs : List (List Key × V))
  /-- a set of ints: its members, its size -/
  | set (S : Int → Bool) (n : Nat)
  /-- an instance of the class at C, its dict at dx, its attributes -/
  | ins (C dx : Addr) (fs : List (Str × V))
  /-- the dict of the instance at x -/
  | own (x : Addr)
  /-- the dict of an exception -/
  | xd (fs : List (Str × V))
  /-- a bound method, f of x -/
  | met (f x : Addr)
  /-- a range object lo, lo + 1, .. below hi -/
  | rng (lo hi : Int)
  /-- a thing that is known to the object (the script; a dict while a loop walks it): read, never written while it is so -/
  | frz (o : Obj) (u : HO)
  /-- a code object's table -/
  | tbl (ps : Array Value)
  /-- any other thing, by what is true of its one object (a def of one's own: SetO a S n := HO.ext fun h => ..) -/
  | ext (φ : Heap → Prop)

abbrev Hp := Addr → Option HO
def upd (H : Hp) (a : Addr) (o : HO) : Hp := fun b => if b = a then some o else H b
theorem upd_same {H : Hp} {a : Addr} {o : HO} : upd H a o a = some o := by unfold upd; rw [if_pos rfl]
theorem upd_ne {H : Hp} {a b : Addr} {o : HO} (h : b ≠ a) : upd H a o b = H b := by unfold upd; rw [if_neg h]
theorem ne_of_none {H : Hp} {a b : Addr} {o : HO} (h : H a = some o) (h' : H b = none) : a ≠ b := by
  intro e; subst e; rw [h] at h'; cases h'

section
variable (P : Program) (w : World)
def ObjOk (H : Hp) (h : Heap) (a : Addr) : HO → Prop
  | .lst xs => xs.length ≤ sizeLine ∧ ∃ (its : List Value) (n : Nat), Vals xs its ∧ h.get? a = some { cls := .type "list", data := .seq its.toArray n }
  | .tup xs => xs.length ≤ sizeLine ∧ ∃ its : List Value, Vals xs its ∧ IsTup h a its.toArray
  | .dK kvs => kvs.length ≤ sizeLine ∧ (a == sysModules) = false ∧ ∃ vs, KV kvs vs ∧ h.DictOf (mixKind P w) a vs
  | .dT kvs => kvs.length ≤ sizeLine ∧ (a == sysModules) = false ∧ ∃ xs : List (List Key × Addr × Value),
      Paired (fun (p : List Key × V) (q : List Key × Addr × Value) => p.1 = q.1 ∧ H q.2.1 = some (.tup (p.1.map kV)) ∧ RelV p.2 q.2.2) kvs xs ∧
      ∃ o es ep, h.get? a = some o ∧ o.ExactDict ∧ o.data = .dict es ep ∧ es.toList = xs.map (entryOfKey (tupleKind (mixKind P w))) ∧ (xs.map (·.1)).Nodup
  | .set S n => h.SetOf (intKind P w) a S n
  | .ins C dx fs => H dx = some (.own a) ∧ fs.length ≤ 1000 ∧ dx ≠ a ∧ h.get? a = some (PySem.W.instObj C dx) ∧
      ∃ mA, h.Ns1 dx mA ∧ (∀ f, RelO (fs.lookup f) (mA f)) ∧ PySem.Within mA (fs.map (·.1))
  | .own _ => ∃ o, h.get? a = some o
  | .xd fs => ∃ mA, h.Ns1 a mA ∧ ∀ f, RelO (fs.lookup f) (mA f)
  | .rng lo hi => ∃ t u v, h.get? a = some { cls := .type "range", data := .fields #[.int lo t, .int hi u, .int 1 v] }
  | .frz o u => h.get? a = some o ∧ ObjOk H h a u
  | .tbl ps => h.get? a = some { cls := .none, data := .fields ps }
  | .met f x => h.get? a = some (PySem.W.methodObj (.ref f) (.ref x))
  | .ext φ => φ h ∧ (∃ o, h.get? a = some o) ∧ ∀ h1 h2 : Heap, φ h1 → (∀ o, h1.get? a = some o → h2.get? a = some o) → φ h2
def HOk (H : Hp) (h : Heap) : Prop := ∀ a o, H a = some o → ObjOk P w H h a o
end

section
variable {P : Program} {w : World} {H H' : Hp} {h h' : Heap} {a : Addr} {o : HO}
theorem ObjOk.lt (x : ObjOk P w H h a o) : a < h.objs.size := by
  cases o with
  | lst xs => obtain ⟨_, _, _, _, e⟩ := x; exact Heap.lt_size e
  | tup xs => obtain ⟨_, _, _, p⟩ := x; exact p.lt
  | dK kvs => obtain ⟨_, _, _, _, o, _, _, e, _⟩ := x; exact Heap.lt_size e
  | dT kvs => obtain ⟨_, _, _, _, o, _, _, e, _⟩ := x; exact Heap.lt_size e
  | set S n => obtain ⟨o, _, _, _, e, _⟩ := x; exact Heap.lt_size e
  | ins C dx fs => obtain ⟨_, _, _, e, _⟩ := x; exact Heap.lt_size e
  | own y => obtain ⟨_, e⟩ := x; exact Heap.lt_size e
  | xd fs => obtain ⟨_, ⟨_, _, _, e, _⟩, _⟩ := x; exact Heap.lt_size e
  | rng lo hi => obtain ⟨_, _, _, e⟩ := x; exact Heap.lt_size e
  | frz ob u => obtain ⟨e, _⟩ := x; exact Heap.lt_size e
  | tbl ps => exact Heap.lt_size (show h.get? a = some _ from x)
  | met f y => exact Heap.lt_size (show h.get? a = some _ from x)
  | ext φ => obtain ⟨_, ⟨_, e⟩, _⟩ := x; exact Heap.lt_size e
theorem Paired.mapP {α β : Type} {F G : α → β → Prop} : ∀ {l₁ : List α} {l₂ : List β}, Paired F l₁ l₂ → (∀ a b, F a b → G a b) → Paired G l₁ l₂
  | _, _, .nil, _ => .nil
  | _, _, .cons r t, f => .cons (f _ _ r) (Paired.mapP t f)
theorem ObjOk.stay (x : ObjOk P w H h a o) (k : ∀ b u, (b = a ∨ H b = some (.own a)) → h.get? b = some u → h'.get? b = some u)
    (ho : ∀ b, H b = some (.own a) → H' b = some (.own a)) (ht : ∀ b xs, H b = some (.tup xs) → H' b = some (.tup xs)) : ObjOk P w H' h' a o := by
  induction o with
  | lst xs => obtain ⟨z, its, n, r, e⟩ := x; exact ⟨z, its, n, r, k _ _ (.inl rfl) e⟩
  | tup xs => obtain ⟨z, its, r, ob, e, c⟩ := x; exact ⟨z, its, r, ob, k _ _ (.inl rfl) e, c⟩
  | dK kvs => obtain ⟨z, y, vs, r, ob, es, ep, e, c⟩ := x; exact ⟨z, y, vs, r, ob, es, ep, k _ _ (.inl rfl) e, c⟩
  | dT kvs =>
    obtain ⟨z, y, xs, r, ob, es, ep, e, c⟩ := x
    exact ⟨z, y, xs, Paired.mapP r fun p q z => ⟨z.1, ht _ _ z.2.1, z.2.2⟩, ob, es, ep, k _ _ (.inl rfl) e, c⟩
  | set S n => obtain ⟨ob, es, ep, t, e, c⟩ := x; exact ⟨ob, es, ep, t, k _ _ (.inl rfl) e, c⟩
  | ins C dx fs =>
    obtain ⟨d, z, ne, e, mA, ⟨od, es, ep, e2, c⟩, r⟩ := x
    exact ⟨ho _ d, z, ne, k _ _ (.inl rfl) e, mA, ⟨od, es, ep, k _ _ (.inr d) e2, c⟩, r⟩
  | own y => obtain ⟨ob, e⟩ := x; exact ⟨ob, k _ _ (.inl rfl) e⟩
  | xd fs => obtain ⟨mA, ⟨od, es, ep, e, c⟩, r⟩ := x; exact ⟨mA, ⟨od, es, ep, k _ _ (.inl rfl) e, c⟩, r⟩
  | rng lo hi => obtain ⟨t, u, v, e⟩ := x; exact ⟨t, u, v, k _ _ (.inl rfl) e⟩
  | frz ob u ih => obtain ⟨e, q⟩ := x; exact ⟨k _ _ (.inl rfl) e, ih q⟩
  | tbl ps =>
    have e : h.get? a = some { cls := .none, data := .fields ps } := x
    show h'.get? a = some { cls := .none, data := .fields ps }
    exact k a _ (.inl rfl) e
  | met f y =>
    have e : h.get? a = some (PySem.W.methodObj (.ref f) (.ref y)) := x
    show h'.get? a = some (PySem.W.methodObj (.ref f) (.ref y))
    exact k a _ (.inl rfl) e
  | ext φ => obtain ⟨p, ⟨o, e⟩, st⟩ := x; exact ⟨st _ _ p fun o q => k _ _ (.inl rfl) q, ⟨o, k _ _ (.inl rfl) e⟩, st⟩
theorem HOk.lt (x : HOk P w H h) (e : H a = some o) : a < h.objs.size := (x a o e).lt
theorem HOk.fresh (x : HOk P w H h) (e : h.objs.size ≤ a) : H a = none := by
  cases q : H a with
  | none => rfl
  | some u => exact absurd (Nat.lt_of_lt_of_le (x.lt q) e) (Nat.lt_irrefl _)
theorem HOk.kept (x : HOk P w H h) (k : ∀ b u, h.get? b = some u → h'.get? b = some u) : HOk P w H h' := fun a o e =>
  (x a o e).stay (fun b u _ q => k b u q) (fun _ q => q) fun _ _ q => q
theorem HOk.laid (x : HOk P w H h) (k : ∀ b u, h.get? b = some u → h'.get? b = some u) (hp : h.objs.size ≤ a) (new : ObjOk P w (upd H a o) h' a o) : HOk P w (upd H a o) h' := fun b u e => by
  have hn := x.fresh hp
  by_cases hb : b = a
  · subst hb; rw [upd_same] at e; cases e; exact new
  · rw [upd_ne hb] at e
    exact (x b u e).stay (fun c v _ q => k c v q) (fun c q => by rw [upd_ne (ne_of_none q hn)]; exact q) fun c xs q => by rw [upd_ne (ne_of_none q hn)]; exact q
end

def Rd (H : Hp) (a : Addr) (u : HO) : Prop := H a = some u ∨ ∃ o, H a = some (.frz o u)
theorem Rd.ok {P : Program} {w : World} {H : Hp} {h : Heap} {a : Addr} {u : HO} (r : Rd H a u) (x : HOk P w H h) : ObjOk P w H h a u := by
  rcases r with r | ⟨o, r⟩
  · exact x a u r
  · obtain ⟨_, q⟩ := x a _ r
    exact q
def Mut : Option HO → Prop
  | some (.lst _) => True
  | some (.dK _) => True
  | some (.dT _) => True
  | some (.set _ _) => True
  | some (.ins _ _ _) => True
  | some (.ext _) => True
  | _ => False
section
variable {P : Program} {w : World} {H : Hp} {h h' : Heap} {x e : Addr} {o' : HO}
theorem HOk.write (ok : HOk P w H h) (mu : Mut (H x)) (he : e = x ∨ H e = some (.own x)) (k : ∀ b u, b ≠ e → h.get? b = some u → h'.get? b = some u) (heo : ∃ u, h'.get? e = some u)
    (new : ObjOk P w (upd H x o') h' x o') : HOk P w (upd H x o') h' := fun b u q => by
  have nown : ∀ c y, H c = some (.own y) → c ≠ x := fun c y r z => by subst z; rw [r] at mu; exact mu
  have ntup : ∀ c xs, H c = some (.tup xs) → c ≠ x := fun c xs r z => by subst z; rw [r] at mu; exact mu
  by_cases hb : b = x
  · subst hb; rw [upd_same] at q; cases q; exact new
  · rw [upd_ne hb] at q
    by_cases hbe : b = e
    · have q' : H b = some (.own x) := by
        rcases he with z | z
        · exact absurd (hbe.trans z) hb
        · rw [hbe]; exact z
      rw [q] at q'; cases q'
      obtain ⟨v, hv⟩ := heo
      exact ⟨v, by rw [hbe]; exact hv⟩
    · refine (ok b u q).stay (fun c v hc r => k c v ?_ r) (fun c r => by rw [upd_ne (nown c b r)]; exact r) fun c xs r => by rw [upd_ne (ntup c xs r)]; exact r
      rcases hc with rfl | hc
      · exact hbe
      · rintro rfl
        rcases he with z | z
        · exact nown c b hc z
        · rw [hc] at z; cases z; exact hb rfl
end

structure Un (fs ex : List Addr) (H H' : Hp) (h h' : Heap) : Prop where
  keep : ∀ b o, h.get? b = some o → H b = none → b ∉ fs → b ∉ ex → h'.get? b = some o
  slot : ∀ b o, h.get? b = some o → H b = none → b ∈ fs → b ∉ ex → ∃ sl, h'.get? b = some { o with slots := sl }
  free : ∀ b o, h.get? b = some o → H b = none → b ∉ ex → H' b = none
  there : ∀ b o, h.get? b = some o → b ∉ ex → ∃ o', h'.get? b = some o'
  tups : ∀ b xs, H b = some (.tup xs) → H' b = some (.tup xs)
  frzs : ∀ b o u, H b = some (.frz o u) → H' b = some (.frz o u)
  tbls : ∀ b ps, H b = some (.tbl ps) → ∃ more, H' b = some (.tbl (ps ++ more))
section
variable {fs fs' ex ex' : List Addr} {H H1 H2 : Hp} {h h1 h2 h' : Heap} {a x e : Addr} {o : HO}
theorem Un.any (u : Un fs ex H H1 h h1) {b : Addr} {ob : Obj} (q : h.get? b = some ob) (n : H b = none) (hx : b ∉ ex) : ∃ sl, h1.get? b = some { ob with slots := sl } := by
  by_cases hb : b ∈ fs
  · exact u.slot b ob q n hb hx
  · exact ⟨ob.slots, u.keep b ob q n hb hx⟩
theorem Un.kept (k : ∀ b u, h.get? b = some u → h'.get? b = some u) : Un fs ex H H h h' :=
  ⟨fun b ob q _ _ _ => k b ob q, fun b ob q _ _ _ => ⟨ob.slots, k b ob q⟩, fun _ _ _ n _ => n, fun b ob q _ => ⟨ob, k b ob q⟩, fun _ _ q => q, fun _ _ _ q => q, fun _ ps q => ⟨#[], by rw [q]; simp⟩⟩
theorem Un.refl : Un fs ex H H h h := Un.kept fun _ _ q => q
theorem Un.laid (k : ∀ b u, h.get? b = some u → h'.get? b = some u) (hp : h.objs.size ≤ a) (hn : H a = none) : Un fs ex H (upd H a o) h h' where
  keep := fun b u q _ _ _ => k b u q
  slot := fun b u q _ _ _ => ⟨u.slots, k b u q⟩
  free := fun b u q n _ => by rw [upd_ne (Nat.ne_of_lt (Nat.lt_of_lt_of_le (Heap.lt_size q) hp))]; exact n
  there := fun b u q _ => ⟨u, k b u q⟩
  tups := fun b xs q => by rw [upd_ne (ne_of_none q hn)]; exact q
  frzs := fun b u xs q => by rw [upd_ne (ne_of_none q hn)]; exact q
  tbls := fun b ps q => ⟨#[], by rw [upd_ne (ne_of_none q hn), q]; simp⟩
theorem Un.write (mu : Mut (H x)) (he : e = x ∨ H e = some (.own x)) (k : ∀ b u, b ≠ e → h.get? b = some u → h'.get? b = some u) (heo : ∃ u, h'.get? e = some u) : Un fs ex H (upd H x o) h h' := by
  have hx : ∀ b, H b = none → b ≠ x := fun b n z => by subst z; rw [n] at mu; exact mu
  have hb : ∀ b, H b = none → b ≠ e := fun b n z => by
    subst z
    rcases he with r | r
    · exact hx b n r
    · rw [n] at r; cases r
  have hm : ∀ b u, H b = some u → ¬ Mut (some u) → b ≠ x := fun b u q nm z => by subst z; rw [q] at mu; exact nm mu
  refine ⟨fun b u q n _ _ => k b u (hb b n) q, fun b u q n _ _ => ⟨u.slots, k b u (hb b n) q⟩, fun b u q n _ => by rw [upd_ne (hx b n)]; exact n, fun b u q _ => ?_,
    fun b xs q => by rw [upd_ne (hm b _ q fun z => z)]; exact q, fun b u xs q => by rw [upd_ne (hm b _ q fun z => z)]; exact q, fun b ps q => ⟨#[], by rw [upd_ne (hm b _ q fun z => z), q]; simp⟩⟩
  by_cases hbe : b = e
  · subst hbe; exact heo
  · exact ⟨u, k b u hbe q⟩
end

def trk (h : Heap) (H : Hp) : List Addr := (List.range h.objs.size).filter fun a => (H a).isSome
def hidT (h : Heap) (H : Hp) : Heap := PySem.W.hideAll h (trk h H)
theorem hidT_size (h : Heap) (H : Hp) : (hidT h H).objs.size = h.objs.size := PySem.W.hideAll_size _ _
theorem hidT_get {h : Heap} {H : Hp} {b : Addr} {o : Obj} (e : h.get? b = some o) (n : H b = none) : (hidT h H).get? b = some o :=
  PySem.W.hideAll_get _ e fun hm => by
    have q : (H b).isSome = true := (List.mem_filter.mp hm).2
    rw [n] at q; simp at q
theorem of_hidT {h : Heap} {H : Hp} {b : Addr} {o : Obj} (e : (hidT h H).get? b = some o) : h.get? b = some o ∧ H b = none := by
  have e' : h.get? b = some o := PySem.W.of_hideAll (trk h H) e
  refine ⟨e', ?_⟩
  cases q : H b with
  | none => rfl
  | some x =>
    have hm : b ∈ trk h H := List.mem_filter.mpr ⟨List.mem_range.mpr (Heap.lt_size e'), by simp [q]⟩
    have z : (hidT h H).get? b = none := PySem.W.hideAll_none (trk h H) hm
    rw [z] at e; cases e

end L2

namespace L2
open PySem PySem.Spec PyProof.Rows

structure Mod (K : PySem.W.Frag) (mg : Str → Option Value) (base : Heap) : Prop where
  kin : K.In base
  glob : base.Ns mainGlobals mg
  blt : ∃ mb, base.Ns builtinsNs mb ∧ ∀ x : Str, x ≠ "__name__" → mb x = bootBuiltins x
  nolimit : base.NoLimit

structure Cx where
  prog : Program
  w : World
  K : PySem.W.Frag
  mg : Str → Option Value
  base : Heap
  A : Around
  N : List Str
  s₀ : Shared
  H₀ : Hp
  env : Env
  outer : List Env
  stack : List Env
  ex : List Addr
  fn : Str → Bool
  calm : Bool
  pn : List (Addr × Obj)
  xe : Value → Shared → Prop
def frs (l : List Env) : List Addr := l.filterMap (·.frame)
abbrev Cx.fs (X : Cx) : List Addr := frs X.outer

def Vis (sc : Scope) (x : Str) : Prop := sc.names.lookup x = some .local ∨ sc.names.lookup x = some .cell ∨ sc.names.lookup x = some .free
def Loc (sc : Scope) (x : Str) : Prop := sc.names.lookup x = some .local ∨ sc.names.lookup x = some .cell
def Look (env : Env) (h : Heap) (m : Str → Option Value) (x : Str) (u : Value) : Prop :=
  (env.kindOf x = some .local ∧ m x = some u) ∨ ((env.kindOf x = some .cell ∨ env.kindOf x = some .free) ∧ ∃ c, env.cells.lookup x = some c ∧ h.IsCell c (some u))

structure Cx.Ok (X : Cx) : Prop where
  mod : Mod X.K X.mg X.base
  kind : X.env.scope.kind = .function
  glob : X.env.globals = mainGlobals
  blt : X.env.builtins = builtinsNs
  above : X.s₀.heap.objs.size ≤ X.env.locals
  inj : ∀ x y c, X.env.cells.lookup x = some c → X.env.cells.lookup y = some c → x = y
  has : ∀ x, (X.env.kindOf x = some .cell ∨ X.env.kindOf x = some .free) → ∃ c, X.env.cells.lookup x = some c
  cab : ∀ x c, X.fn x = true → X.env.cells.lookup x = some c → X.s₀.heap.objs.size ≤ c
  hd : X.calm = true → X.A.handled = none
  frames : X.A.frames = some X.stack
  stk : X.stack = X.outer ∨ (X.stack = X.env :: X.outer ∧ X.env.frame = some X.env.locals)
  exf : ∀ b ∈ X.ex, b ≠ X.env.locals ∧ ∀ x c, X.env.cells.lookup x = some c → c ≠ b
  bs : ∀ b o, X.base.get? b = some o → X.s₀.heap.get? b = some o ∧ X.H₀ b = none
  bsz : X.base.objs.size ≤ X.s₀.heap.objs.size
  noex : ∀ b o, X.base.get? b = some o → b ∉ X.ex
  exfs : ∀ b ∈ X.ex, b ∉ X.fs
  funs : X.s₀.heap.FunFrames X.base X.outer
  frf : ∀ b ∈ X.fs, X.H₀ b = none

structure Inv (X : Cx) (pins : List (Addr × Obj)) (σ : List (Option V)) (H : Hp) (s : Shared) : Prop where
  ok : X.Ok
  os : s.os = X.s₀.os
  bare : AllBare s.gens
  base : Un X.fs X.ex X.H₀ H X.s₀.heap s.heap
  loc : ∃ m, s.heap.Ns X.env.locals m ∧ ∀ (i : Nat) (x : Str) (v : V), X.N[i]? = some x → σ[i]? = some (some v) → Vis X.env.scope x → ∃ u, RelV v u ∧ Look X.env s.heap m x u
  cell : ∀ x c, X.env.cells.lookup x = some c → ∃ v, s.heap.IsCell c v
  free : H X.env.locals = none
  freeC : ∀ x c, X.env.cells.lookup x = some c → H c = none
  pin : ∀ p ∈ X.pn ++ pins, s.heap.get? p.1 = some p.2 ∧ H p.1 = none ∧ p.1 ≠ X.env.locals ∧ p.1 ∉ X.fs ∧ ∀ v, p.2.data ≠ .cell v
  hok : HOk X.prog X.w H s.heap
  len : σ.length = X.N.length

section
variable {X : Cx} {pins : List (Addr × Obj)} {σ : List (Option V)} {H H' : Hp} {s : Shared} {h' : Heap}

theorem Cx.Ok.nofr (ok : X.Ok) {b : Addr} {o : Obj} (e : X.base.get? b = some o) : b ∉ X.fs := fun hb => by
  have := (ok.funs.mem hb).1
  rw [e] at this; cases this
theorem Inv.bs (I : Inv X pins σ H s) : ∀ b o, X.base.get? b = some o → s.heap.get? b = some o ∧ H b = none := fun b o e =>
  ⟨I.base.keep b o (I.ok.bs b o e).1 (I.ok.bs b o e).2 (I.ok.nofr e) (I.ok.noex b o e), I.base.free b o (I.ok.bs b o e).1 (I.ok.bs b o e).2 (I.ok.noex b o e)⟩
theorem Inv.bk (I : Inv X pins σ H s) : ∀ b o, X.base.get? b = some o → s.heap.get? b = some o := fun b o e => (I.bs b o e).1
theorem Inv.mod (I : Inv X pins σ H s) : Mod X.K X.mg X.base := I.ok.mod
theorem Inv.kIn (I : Inv X pins σ H s) : X.K.In s.heap := I.ok.mod.kin.keeps I.bk
theorem Inv.fr (I : Inv X pins σ H s) : ∃ m, Fr X.base X.env.locals s.heap m :=
  let ⟨m, hn, _⟩ := I.loc
  ⟨m, hn, I.bk, Nat.le_trans I.ok.bsz I.ok.above⟩
theorem Inv.lt (I : Inv X pins σ H s) : X.env.locals < s.heap.objs.size := let ⟨_, hn, _⟩ := I.loc; hn.lt
theorem Inv.sz (I : Inv X pins σ H s) : X.s₀.heap.objs.size ≤ s.heap.objs.size := Nat.le_trans I.ok.above (Nat.le_of_lt I.lt)
theorem Inv.nofs (I : Inv X pins σ H s) {a : Addr} (h : s.heap.objs.size ≤ a) : a ∉ X.fs := fun hb => by
  obtain ⟨_, o, ho, _⟩ := I.ok.funs.mem hb
  exact absurd (Nat.lt_of_lt_of_le (Heap.lt_size ho) (Nat.le_trans I.sz h)) (Nat.lt_irrefl _)
theorem Inv.cne (I : Inv X pins σ H s) : ∀ x c, X.env.cells.lookup x = some c → c ≠ X.env.locals := fun x c e z => by
  obtain ⟨v, o, ho, hd⟩ := I.cell x c e
  obtain ⟨m, ⟨o', es, ep, ho', hd', _⟩, _⟩ := I.loc
  rw [z, ho'] at ho; cases ho; rw [hd'] at hd; cases hd
theorem Inv.funs (I : Inv X pins σ H s) : s.heap.FunFrames X.base X.outer := by
  have all : ∀ (l : List Env), (∀ b ∈ frs l, b ∈ X.fs) → X.s₀.heap.FunFrames X.base l → s.heap.FunFrames X.base l := by
    intro l
    induction l with
    | nil => intro _ _; trivial
    | cons env r ih =>
      intro hs hl
      obtain ⟨hk, ⟨L, o, hf, hn, ho, hd⟩, hr⟩ := hl
      have hL : L ∈ X.fs := hs L (by unfold frs; rw [List.filterMap_cons, hf]; exact List.mem_cons_self)
      obtain ⟨sl, e⟩ := I.base.slot L o ho (I.ok.frf L hL) hL fun z => I.ok.exfs L z hL
      exact ⟨hk, ⟨L, _, hf, hn, e, hd⟩, ih (fun b hb => hs b (by unfold frs; rw [List.filterMap_cons, hf]; exact List.mem_cons_of_mem _ hb)) hr⟩
  exact all X.outer (fun _ hb => hb) I.ok.funs

theorem Inv.stack (I : Inv X pins σ H s) : s.heap.FunFrames X.base X.stack := by
  rcases I.ok.stk with e | ⟨e, hf⟩
  · rw [e]; exact I.funs
  · rw [e]
    obtain ⟨m, hn, _⟩ := I.loc
    refine .cons (by rw [I.ok.kind]; decide) hf hn ?_ I.funs
    exact Heap.get?_none_of_le (Nat.le_trans I.ok.bsz I.ok.above)
theorem Inv.stkSub (I : Inv X pins σ H s) : ∀ b ∈ frs X.stack, b ∈ X.env.locals :: X.fs := fun b hb => by
  rcases I.ok.stk with e | ⟨e, hf⟩
  · rw [e] at hb; exact List.mem_cons_of_mem _ hb
  · rw [e] at hb
    unfold frs at hb
    rw [List.filterMap_cons, hf] at hb
    exact hb
theorem Inv.stkFree (I : Inv X pins σ H s) : ∀ b ∈ frs X.stack, H b = none := fun b hb => by
  rcases List.mem_cons.mp (I.stkSub b hb) with e | hb
  · rw [e]; exact I.free
  · obtain ⟨_, o, ho, _⟩ := I.ok.funs.mem hb
    exact I.base.free b o ho (I.ok.frf b hb) fun z => I.ok.exfs b z hb

theorem Inv.step {g' : Array GenState} {t' : Nat} {d' : Drawn} {ch : List Addr} (I : Inv X pins σ H s)
    (hch : ∀ b ∈ ch, (b ∈ X.ex ∨ X.s₀.heap.objs.size ≤ b) ∧ b ≠ X.env.locals ∧ (∀ x c, X.env.cells.lookup x = some c → c ≠ b) ∧ ∀ p ∈ X.pn ++ pins, p.1 ≠ b)
    (keep : ∀ b o, b ≠ X.env.locals → b ∉ X.fs → b ∉ ch → s.heap.get? b = some o → H b = none → h'.get? b = some o)
    (slot : ∀ b o, b ≠ X.env.locals → b ∈ X.fs → b ∉ ch → s.heap.get? b = some o → H b = none → ∃ sl, h'.get? b = some { o with slots := sl }) (free : ∀ b o, b ∉ ch → s.heap.get? b = some o → H b = none → H' b = none)
    (there : ∀ b o, b ∉ ch → s.heap.get? b = some o → ∃ o', h'.get? b = some o')
    (tups : ∀ b xs, H b = some (.tup xs) → H' b = some (.tup xs)) (frzs : ∀ b o u, H b = some (.frz o u) → H' b = some (.frz o u)) (tbls : ∀ b ps, H b = some (.tbl ps) → ∃ more, H' b = some (.tbl (ps ++ more)))
    (ns : ∀ m, s.heap.Ns X.env.locals m → h'.Ns X.env.locals m) (hok : HOk X.prog X.w H' h') (hg : AllBare g') :
    Inv X pins σ H' { s with heap := h', gens := g', drawn := d', toks := t' } := by
  have neL : ∀ b o, X.s₀.heap.get? b = some o → b ≠ X.env.locals := fun b o e => Nat.ne_of_lt (Nat.lt_of_lt_of_le (Heap.lt_size e) I.ok.above)
  have neC : ∀ b o, X.s₀.heap.get? b = some o → b ∉ X.ex → b ∉ ch := fun b o e hx hb => by
    rcases (hch b hb).1 with z | z
    · exact hx z
    · exact absurd (Nat.lt_of_lt_of_le (Heap.lt_size e) z) (Nat.lt_irrefl _)
  have cellK : ∀ x c, X.env.cells.lookup x = some c → ∀ v, s.heap.IsCell c v → h'.IsCell c v := fun x c e v ⟨o, ho, hd⟩ => by
    have nch : c ∉ ch := fun z => (hch c z).2.2.1 x c e rfl
    by_cases hc : c ∈ X.fs
    · obtain ⟨sl, q⟩ := slot c o (I.cne x c e) hc nch ho (I.freeC x c e)
      exact ⟨_, q, hd⟩
    · exact ⟨o, keep c o (I.cne x c e) hc nch ho (I.freeC x c e), hd⟩
  refine ⟨I.ok, I.os, hg, ⟨fun b o e n hb hx => ?_, fun b o e n hb hx => ?_, fun b o e n hx => ?_, fun b o e hx => ?_, fun b xs e => tups b xs (I.base.tups b xs e), fun b o xs e => frzs b o xs (I.base.frzs b o xs e), fun b ps e => ?_⟩, ?_, fun x c e => ?_, ?_, fun x c e => ?_, fun p hp => ?_, hok, I.len⟩
  · exact keep b o (neL b o e) hb (neC b o e hx) (I.base.keep b o e n hb hx) (I.base.free b o e n hx)
  · obtain ⟨sl, e1⟩ := I.base.slot b o e n hb hx
    obtain ⟨sl', e2⟩ := slot b _ (neL b o e) hb (neC b o e hx) e1 (I.base.free b o e n hx)
    exact ⟨sl', e2⟩
  · obtain ⟨o', e1⟩ := I.base.there b o e hx
    exact free b o' (neC b o e hx) e1 (I.base.free b o e n hx)
  · obtain ⟨o', e1⟩ := I.base.there b o e hx
    exact there b o' (neC b o e hx) e1
  · obtain ⟨m1, e1⟩ := I.base.tbls b ps e
    obtain ⟨m2, e2⟩ := tbls b _ e1
    exact ⟨m1 ++ m2, by rw [e2, Array.append_assoc]⟩
  · obtain ⟨m, hn, hl⟩ := I.loc
    refine ⟨m, ns m hn, fun i x v e1 e2 e3 => ?_⟩
    obtain ⟨u, r, l⟩ := hl i x v e1 e2 e3
    refine ⟨u, r, ?_⟩
    rcases l with l | ⟨k, c, e, z⟩
    · exact .inl l
    · exact .inr ⟨k, c, e, cellK x c e _ z⟩
  · obtain ⟨v, z⟩ := I.cell x c e
    exact ⟨v, cellK x c e v z⟩
  · obtain ⟨m, ⟨o, _, _, ho, _⟩, _⟩ := I.loc
    exact free _ o (fun z => (hch _ z).2.1 rfl) ho I.free
  · obtain ⟨v, o, ho, hd⟩ := I.cell x c e
    exact free c o (fun z => (hch c z).2.2.1 x c e rfl) ho (I.freeC x c e)
  · obtain ⟨e, n, ne, nf, d⟩ := I.pin p hp
    have nch : p.1 ∉ ch := fun z => (hch p.1 z).2.2.2 p hp rfl
    exact ⟨keep p.1 p.2 ne nf nch e n, free p.1 p.2 nch e n, ne, nf, d⟩
theorem Inv.un {t' : Nat} (I : Inv X pins σ H s) (u : Un X.fs [] H H' s.heap h') (hok : HOk X.prog X.w H' h') : Inv X pins σ H' { s with heap := h', toks := t' } := by
  obtain ⟨m, ⟨o, es, ep, ho, r⟩, _⟩ := id I.loc
  obtain ⟨sl, hL⟩ := u.any ho I.free (by simp)
  exact I.step (g' := s.gens) (d' := s.drawn) (ch := []) (fun _ z => nomatch z) (fun b o _ hb _ e n => u.keep b o e n hb (by simp)) (fun b o _ hb _ e n => u.slot b o e n hb (by simp)) (fun b o _ e n => u.free b o e n (by simp)) (fun b o _ e => u.there b o e (by simp)) u.tups u.frzs u.tbls (fun m' hm => by
    obtain ⟨o', es', ep', ho', r'⟩ := hm
    rw [ho] at ho'; cases ho'
    exact ⟨_, es', ep', hL, r'⟩) hok I.bare
theorem Inv.call {g' : Array GenState} {t' : Nat} {d' : Drawn} {ch : List Addr} (I : Inv X pins σ H s) (u : Un (frs X.stack) ch H H' s.heap h') (hok : HOk X.prog X.w H' h') (hg : AllBare g')
    (hch : ∀ b ∈ ch, (b ∈ X.ex ∨ X.s₀.heap.objs.size ≤ b) ∧ b ≠ X.env.locals ∧ (∀ x c, X.env.cells.lookup x = some c → c ≠ b) ∧ ∀ p ∈ X.pn ++ pins, p.1 ≠ b) :
    Inv X pins σ H' { s with heap := h', gens := g', drawn := d', toks := t' } := by
  obtain ⟨m, ⟨o, es, ep, ho, r⟩, _⟩ := id I.loc
  obtain ⟨sl, hL⟩ := u.any ho I.free fun z => (hch _ z).2.1 rfl
  exact I.step (ch := ch) hch (fun b o hL hb hc e n => u.keep b o e n (fun z => (List.mem_cons.mp (I.stkSub b z)).elim hL hb) hc) (fun b o _ _ hc e n => u.any e n hc) (fun b o hc e n => u.free b o e n hc) (fun b o hc e => u.there b o e hc) u.tups u.frzs u.tbls (fun m' hm => by
    obtain ⟨o', es', ep', ho', r'⟩ := hm
    rw [ho] at ho'; cases ho'
    exact ⟨_, es', ep', hL, r'⟩) hok hg
theorem Inv.turned {t' : Nat} {it : Addr} (I : Inv X pins σ H s) (k : ∀ b o, b ≠ it → s.heap.get? b = some o → h'.get? b = some o) (hn : H it = none) (hL : it ≠ X.env.locals)
    (h1 : it ∈ X.ex ∨ X.s₀.heap.objs.size ≤ it) (h2 : ∀ x c, X.env.cells.lookup x = some c → c ≠ it) (h3 : ∀ p ∈ X.pn ++ pins, p.1 ≠ it) : Inv X pins σ H { s with heap := h', toks := t' } := by
  have nit : ∀ b u, H b = some u → b ≠ it := fun b u e z => by rw [z, hn] at e; cases e
  refine I.step (g' := s.gens) (d' := s.drawn) (ch := [it]) (fun b hb => ?_) (fun b o _ _ hc e _ => k b o (fun z => hc (by simp [z])) e) (fun b o _ _ hc e _ => ⟨o.slots, k b o (fun z => hc (by simp [z])) e⟩) (fun _ _ _ _ n => n)
    (fun b o hc e => ⟨o, k b o (fun z => hc (by simp [z])) e⟩) (fun _ _ e => e) (fun _ _ _ e => e) (fun b ps e => ⟨#[], by rw [e]; simp⟩) (fun m hm => ?_) (fun b u e => ?_) I.bare
  · have e : b = it := by simpa using hb
    subst e
    exact ⟨h1, hL, h2, h3⟩
  · obtain ⟨o, es, ep, ho, r⟩ := hm
    exact ⟨o, es, ep, k _ o (Ne.symm hL) ho, r⟩
  · refine (I.hok b u e).stay (fun c v hc q => k c v ?_ q) (fun _ q => q) fun _ _ q => q
    rcases hc with z | z
    · rw [z]; exact nit b u e
    · exact nit c _ z
theorem Inv.tok (I : Inv X pins σ H s) (t : Nat) : Inv X pins σ H { s with toks := t } := I.un (h' := s.heap) (t' := t) Un.refl I.hok
theorem Inv.kept {t' : Nat} (I : Inv X pins σ H s) (k : ∀ b u, s.heap.get? b = some u → h'.get? b = some u) : Inv X pins σ H { s with heap := h', toks := t' } := I.un (Un.kept k) (I.hok.kept k)
theorem Inv.laid {a : Addr} {o : HO} {t' : Nat} (I : Inv X pins σ H s) (k : ∀ b u, s.heap.get? b = some u → h'.get? b = some u) (hp : s.heap.objs.size ≤ a) (new : ObjOk X.prog X.w (upd H a o) h' a o) :
    Inv X pins σ (upd H a o) { s with heap := h', toks := t' } := I.un (Un.laid k hp (I.hok.fresh hp)) (I.hok.laid k hp new)
theorem Inv.write {x e : Addr} {o : HO} {t' : Nat} (I : Inv X pins σ H s) (mu : Mut (H x)) (he : e = x ∨ H e = some (.own x)) (k : ∀ b u, b ≠ e → s.heap.get? b = some u → h'.get? b = some u) (heo : ∃ u, h'.get? e = some u)
    (new : ObjOk X.prog X.w (upd H x o) h' x o) : Inv X pins σ (upd H x o) { s with heap := h', toks := t' } := I.un (Un.write mu he k heo) (I.hok.write mu he k heo new)
theorem Inv.weak {σ' : List (Option V)} (I : Inv X pins σ H s) (hl : σ'.length = σ.length) (w : ∀ (i : Nat) v, σ'[i]? = some (some v) → σ[i]? = some (some v)) : Inv X pins σ' H s :=
  ⟨I.ok, I.os, I.bare, I.base, let ⟨m, hn, hl'⟩ := I.loc; ⟨m, hn, fun i x v e1 e2 e3 => hl' i x v e1 (w i v e2) e3⟩, I.cell, I.free, I.freeC, I.pin, I.hok, hl.trans I.len⟩
theorem Inv.pins_of {pins' : List (Addr × Obj)} (I : Inv X pins σ H s) (h : ∀ p ∈ pins', s.heap.get? p.1 = some p.2 ∧ H p.1 = none ∧ p.1 ≠ X.env.locals ∧ p.1 ∉ X.fs ∧ ∀ v, p.2.data ≠ .cell v) : Inv X pins' σ H s :=
  ⟨I.ok, I.os, I.bare, I.base, I.loc, I.cell, I.free, I.freeC, fun p hp => (List.mem_append.mp hp).elim (fun z => I.pin p (List.mem_append_left _ z)) (h p), I.hok, I.len⟩

theorem nodup_ix {N : List Str} (hN : N.Nodup) {i j : Nat} {x : Str} (a : N[i]? = some x) (b : N[j]? = some x) : i = j := by
  obtain ⟨h1, e1⟩ := List.getElem?_eq_some_iff.mp a
  obtain ⟨h2, e2⟩ := List.getElem?_eq_some_iff.mp b
  exact (List.getElem_inj hN).mp (e1.trans e2.symm)

theorem store_ok2 {M : Model} {A : Around} {E : Value → Shared → Prop} {i : Nat} {x : Str} {v : V} {u : Value} {Q : Unit → Shared → Prop} (I : Inv X pins σ H s) (hN : X.N.Nodup) (hi : X.N[i]? = some x) (hx : Loc X.env.scope x) (r : RelV v u)
    (h : ∀ s', Inv X pins (σ.set i (some v)) H s' → (∃ a, Heap.SameBut a s.heap s'.heap ∧ (a = X.env.locals ∨ X.env.cells.lookup x = some a)) → Q () s') (hf : X.fn x = true ∨ X.env.scope.names.lookup x = some .local := by first | exact .inl rfl | exact .inr rfl | assumption) : wpAny M A (storeName X.env x u) Q E s := by
  obtain ⟨m, hn, hl⟩ := id I.loc
  have hcls : (X.env.scope.kind == .class || (X.env.scope.kind == .module && X.env.locals != X.env.globals)) = false := by rw [I.ok.kind]; rfl
  have hiσ : i < σ.length := by rw [I.len]; exact (List.getElem?_eq_some_iff.mp hi).1
  have cne := I.cne
  have tracked : ∀ {a : Addr} {h' : Heap}, (∃ o, s.heap.get? a = some o ∧ H a = none) → Heap.SameBut a s.heap h' → HOk X.prog X.w H h' := fun {a h'} ha hs b ob e => by
    obtain ⟨_, _, hfree⟩ := ha
    refine (I.hok b ob e).stay (fun c w' hc q => (hs.2 c ?_).trans q) (fun _ q => q) fun _ _ q => q
    rintro rfl
    rcases hc with rfl | hc
    · rw [hfree] at e; cases e
    · rw [hfree] at hc; cases hc
  rcases hx with hk | hk
  · refine wpAny_storeName_local hk hn (fun h' hn' hs => ?_) hcls
    obtain ⟨oL, _, _, hoL, _⟩ := id hn
    refine h _ ⟨I.ok, I.os, I.bare, ⟨fun b o e n hb hx => ?_, fun b o e n hb hx => ?_, I.base.free, fun b o e hx => ?_, I.base.tups, I.base.frzs, I.base.tbls⟩, ⟨_, hn', fun j y v' e1 e2 e3 => ?_⟩, fun y c e => ?_, I.free, I.freeC, fun p hp => ?_, tracked ⟨oL, hoL, I.free⟩ hs, by simpa using I.len⟩ ⟨_, hs, .inl rfl⟩
    · exact (hs.2 b (Nat.ne_of_lt (Nat.lt_of_lt_of_le (Heap.lt_size e) I.ok.above))).trans (I.base.keep b o e n hb hx)
    · obtain ⟨sl, e1⟩ := I.base.slot b o e n hb hx
      exact ⟨sl, (hs.2 b (Nat.ne_of_lt (Nat.lt_of_lt_of_le (Heap.lt_size e) I.ok.above))).trans e1⟩
    · obtain ⟨o', e1⟩ := I.base.there b o e hx
      exact ⟨o', (hs.2 b (Nat.ne_of_lt (Nat.lt_of_lt_of_le (Heap.lt_size e) I.ok.above))).trans e1⟩
    · by_cases hj : j = i
      · subst hj
        rw [hi] at e1; cases e1
        rw [List.getElem?_set_self hiσ] at e2
        cases e2
        exact ⟨u, r, .inl ⟨hk, by simp⟩⟩
      · rw [List.getElem?_set_ne (Ne.symm hj)] at e2
        obtain ⟨u', r', q⟩ := hl j y v' e1 e2 e3
        refine ⟨u', r', ?_⟩
        rcases q with ⟨k, e⟩ | ⟨k, c, e, z⟩
        · refine .inl ⟨k, ?_⟩
          have : y ≠ x := fun e => hj (nodup_ix hN e1 (e ▸ hi))
          simp [this, e]
        · exact .inr ⟨k, c, e, z.sameBut hs (cne y c e)⟩
    · obtain ⟨w', z⟩ := I.cell y c e
      exact ⟨w', z.sameBut hs (cne y c e)⟩
    · obtain ⟨e, n, ne, nf, d⟩ := I.pin p hp
      exact ⟨(hs.2 p.1 ne).trans e, n, ne, nf, d⟩
  · have hfn : X.fn x = true := by
      rcases hf with z | z
      · exact z
      · rw [z] at hk; cases hk
    obtain ⟨c, hc⟩ := I.ok.has x (.inl hk)
    obtain ⟨w', z⟩ := I.cell x c hc
    refine wpAny_storeName_cell I.ok.kind hk hc z (fun h' hc' hs => ?_)
    obtain ⟨oc, hoc, hocd⟩ := id z
    refine h { s with heap := h' } ⟨I.ok, I.os, I.bare, ⟨fun b o e n hb hx => ?_, fun b o e n hb hx => ?_, I.base.free, fun b o e hx => ?_, I.base.tups, I.base.frzs, I.base.tbls⟩, ⟨m, hn.sameBut hs (Ne.symm (cne x c hc)), fun j y v' e1 e2 e3 => ?_⟩, fun y c' e => ?_, I.free, I.freeC, fun p hp => ?_, tracked ⟨oc, hoc, I.freeC x c hc⟩ hs, by simpa using I.len⟩ ⟨c, hs, .inr hc⟩
    · exact (hs.2 b (Nat.ne_of_lt (Nat.lt_of_lt_of_le (Heap.lt_size e) (I.ok.cab x c hfn hc)))).trans (I.base.keep b o e n hb hx)
    · obtain ⟨sl, e1⟩ := I.base.slot b o e n hb hx
      exact ⟨sl, (hs.2 b (Nat.ne_of_lt (Nat.lt_of_lt_of_le (Heap.lt_size e) (I.ok.cab x c hfn hc)))).trans e1⟩
    · obtain ⟨o', e1⟩ := I.base.there b o e hx
      exact ⟨o', (hs.2 b (Nat.ne_of_lt (Nat.lt_of_lt_of_le (Heap.lt_size e) (I.ok.cab x c hfn hc)))).trans e1⟩
    · by_cases hj : j = i
      · subst hj
        rw [hi] at e1; cases e1
        rw [List.getElem?_set_self hiσ] at e2
        cases e2
        exact ⟨u, r, .inr ⟨.inl hk, c, hc, hc'⟩⟩
      · rw [List.getElem?_set_ne (Ne.symm hj)] at e2
        obtain ⟨u', r', q⟩ := hl j y v' e1 e2 e3
        refine ⟨u', r', ?_⟩
        rcases q with q | ⟨k, c', e, z'⟩
        · exact .inl q
        · refine .inr ⟨k, c', e, z'.sameBut hs ?_⟩
          rintro rfl
          exact hj (nodup_ix hN e1 (I.ok.inj _ _ _ e hc ▸ hi))
    · by_cases hcc : c' = c
      · subst hcc; exact ⟨_, hc'⟩
      · obtain ⟨w2, z2⟩ := I.cell y c' e
        exact ⟨w2, z2.sameBut hs hcc⟩
    · obtain ⟨e, n, ne, nf, d⟩ := I.pin p hp
      refine ⟨(hs.2 p.1 ?_).trans e, n, ne, nf, d⟩
      intro q
      rw [q, hoc] at e
      have q' : oc = p.2 := Option.some.inj e
      exact d w' (by rw [← q']; exact hocd)
theorem store_ok {M : Model} {A : Around} {E : Value → Shared → Prop} {i : Nat} {x : Str} {v : V} {u : Value} {Q : Unit → Shared → Prop} (I : Inv X pins σ H s) (hN : X.N.Nodup) (hi : X.N[i]? = some x) (hx : Loc X.env.scope x) (r : RelV v u)
    (h : ∀ s', Inv X pins (σ.set i (some v)) H s' → Q () s') (hf : X.fn x = true ∨ X.env.scope.names.lookup x = some .local := by first | exact .inl rfl | exact .inr rfl | assumption) : wpAny M A (storeName X.env x u) Q E s :=
  store_ok2 I hN hi hx r (fun s' I' _ => h s' I') hf
theorem Inv.call' {s' : Shared} {ch : List Addr} (I : Inv X pins σ H s) (ho : s'.os = s.os) (u : Un (frs X.stack) ch H H' s.heap s'.heap) (hok : HOk X.prog X.w H' s'.heap) (hg : AllBare s'.gens)
    (hch : ∀ b ∈ ch, (b ∈ X.ex ∨ X.s₀.heap.objs.size ≤ b) ∧ b ≠ X.env.locals ∧ (∀ x c, X.env.cells.lookup x = some c → c ≠ b) ∧ ∀ p ∈ X.pn ++ pins, p.1 ≠ b) : Inv X pins σ H' s' := by
  obtain ⟨h', g', d', t', o'⟩ := s'
  have e : o' = s.os := ho
  subst e
  exact I.call (g' := g') (t' := t') (d' := d') u hok hg hch
end

abbrev XK := Value → Option Addr → Hp → Prop
abbrev St := List (Option V)
abbrev VK := V → Hp → Prop
abbrev TE := St → Hp → VK → Prop
abbrev TT := St → Hp → (Bool → Hp → Prop) → Prop
abbrev TA := St → Hp → (List V → Hp → Prop) → Prop
structure Ends where
  nx : St → Hp → Prop
  rt : VK
  bk : St → Hp → Prop := fun _ _ => False
  ct : St → Hp → Prop := fun _ _ => False
abbrev TS := Ends → St → Hp → Prop

def EP (X : Cx) (pins : List (Addr × Obj)) (σ : St) (Q : VK) (u : Value) (s' : Shared) : Prop := ∃ v H', Inv X pins σ H' s' ∧ RelV v u ∧ Q v H'
def TP (X : Cx) (pins : List (Addr × Obj)) (σ : St) (Q : Bool → Hp → Prop) (b : Bool) (s' : Shared) : Prop := ∃ H', Inv X pins σ H' s' ∧ Q b H'
def AP (X : Cx) (pins : List (Addr × Obj)) (σ : St) (Q : List V → Hp → Prop) (us : List Value) (s' : Shared) : Prop := ∃ vs H', Inv X pins σ H' s' ∧ Vals vs us ∧ Q vs H'
def SP (X : Cx) (pins : List (Addr × Obj)) (D : Ends) (f : Flow) (s' : Shared) : Prop :=
  match f with
  | .next => ∃ σ' H', Inv X pins σ' H' s' ∧ D.nx σ' H'
  | .brk => ∃ σ' H', Inv X pins σ' H' s' ∧ D.bk σ' H'
  | .cont => ∃ σ' H', Inv X pins σ' H' s' ∧ D.ct σ' H'
  | .ret u => ∃ v σ' H', Inv X pins σ' H' s' ∧ RelV v u ∧ D.rt v H'

def PE (X : Cx) (e : Expr) (t : TE) : Prop :=
  ∀ (pins : List (Addr × Obj)) (s : Shared) (σ : St) (H : Hp) (Q : VK), Inv X pins σ H s → t σ H Q → wpAny (model X.prog X.w) X.A (eval e X.env) (EP X pins σ Q) X.xe s
def PT (X : Cx) (e : Expr) (t : TT) : Prop :=
  ∀ (pins : List (Addr × Obj)) (s : Shared) (σ : St) (H : Hp) (Q : Bool → Hp → Prop), Inv X pins σ H s → t σ H Q → wpAny (model X.prog X.w) X.A (isTrue e X.env (eval e X.env)) (TP X pins σ Q) X.xe s
def PW (X : Cx) (e : Expr) (t : TT) : Prop :=
  ∀ (whole : Sem Value) (pins : List (Addr × Obj)) (s : Shared) (σ : St) (H : Hp) (Q : Bool → Hp → Prop), Inv X pins σ H s → t σ H Q → wpAny (model X.prog X.w) X.A (isTrue e X.env whole) (TP X pins σ Q) X.xe s
theorem PW.pt {X : Cx} {e : Expr} {t : TT} (h : PW X e t) : PT X e t := h _
def PA (X : Cx) (es : List Expr) (t : TA) : Prop :=
  ∀ (pos : Pos) (pins : List (Addr × Obj)) (s : Shared) (σ : St) (H : Hp) (Q : List V → Hp → Prop), Inv X pins σ H s → t σ H Q → wpAny (model X.prog X.w) X.A (spliced (backTo pos (starEach es X.env))) (AP X pins σ Q) X.xe s
def PS (X : Cx) (st : Stmt) (t : TS) : Prop :=
  ∀ (pins : List (Addr × Obj)) (s : Shared) (σ : St) (H : Hp) (D : Ends), Inv X pins σ H s → t D σ H → wpAny (model X.prog X.w) X.A (exec st X.env) (SP X pins D) X.xe s
def PSs (X : Cx) (st : List Stmt) (t : TS) : Prop :=
  ∀ (pins : List (Addr × Obj)) (s : Shared) (σ : St) (H : Hp) (D : Ends), Inv X pins σ H s → t D σ H → wpAny (model X.prog X.w) X.A (execs st X.env) (SP X pins D) X.xe s
theorem thn {α : Type} {t : Sem α} {Q Q' : α → Shared → Prop} {M : Model} {A : Around} {E : Value → Shared → Prop} {s : Shared} (h : wpAny M A t Q E s) (hQ : ∀ a s, Q a s → Q' a s) : wpAny M A t Q' E s := wpAny_mono h hQ fun _ _ x => x
end L2

namespace L2
open PySem PySem.Spec PyProof.Rows
section
variable {X : Cx}

theorem bin {a b : Expr} {ta tb : TE} (ha : PE X a ta) (hb : PE X b tb) {pins : List (Addr × Obj)} {s : Shared} {σ : St} {H : Hp} {R : V → V → Hp → Prop} (I : Inv X pins σ H s) (h : ta σ H fun x H1 => tb σ H1 fun y H2 => R x y H2)
    {α : Type} {Q : α → Shared → Prop} {f : Value → Value → Sem α}
    (hf : ∀ v u s2 x y H2, Inv X pins σ H2 s2 → RelV x v → RelV y u → R x y H2 → wpAny (model X.prog X.w) X.A (f v u) Q X.xe s2) :
    wpAny (model X.prog X.w) X.A (eval a X.env) (fun v s₁ => wpAny (model X.prog X.w) X.A (eval b X.env) (fun u s₂ => wpAny (model X.prog X.w) X.A (f v u) Q X.xe s₂) X.xe s₁) X.xe s := by
  refine thn (ha pins s σ H _ I h) fun v s1 ⟨x, H1, I1, r1, q1⟩ => ?_
  refine thn (hb pins s1 σ H1 _ I1 q1) fun u s2 ⟨y, H2, I2, r2, q2⟩ => ?_
  exact hf v u s2 x y H2 I2 r1 r2 q2

def tVar (i : Nat) : TE := fun σ H Q => ∃ v, σ[i]? = some (some v) ∧ Q v H
def tC (v : V) : TE := fun _ H Q => Q v H
theorem pe_var {i : Nat} {x : Str} {pos : Pos} (hN : X.N[i]? = some x) (hv : Vis X.env.scope x) (hd : (x == ("__debug__" : Str)) = false := by decide) (hcd : (x == ("__classdict__" : Str)) = false := by decide) : PE X (.Name x pos) (tVar i) := by
  intro pins s σ H Q I h
  obtain ⟨v, e, h⟩ := h
  obtain ⟨m, hn, hl⟩ := I.loc
  obtain ⟨u, r, l⟩ := hl i x v hN e hv
  have fin : EP X pins σ Q u s := ⟨v, H, I, r, h⟩
  rcases l with ⟨hk, hm⟩ | ⟨hk, c, hc, hcell⟩
  · exact wpAny_Name (wpAny_loadName_local I.ok.kind hk hn hm fin) hd
  · rcases hk with hk | hk
    · exact wpAny_Name (wpAny_loadName_cell I.ok.kind hk hc hcell fin) hd
    · exact wpAny_Name (wpAny_loadName_free I.ok.kind hk hc hcell fin hcd) hd
theorem pe_int {i j pos} : PE X (.Constant (.int i) j pos) (tC (.int i)) := fun _ _ _ H _ I h => wpAny_Constant_int ⟨.int i, H, I.tok _, ⟨_, rfl⟩, h⟩
theorem pe_bl {b j pos} : PE X (.Constant (.bool b) j pos) (tC (.bl b)) := fun _ _ _ H _ I h => Constant_bool ⟨.bl b, H, I, rfl, h⟩
theorem pe_non {j pos} : PE X (.Constant .none j pos) (tC .non) := fun _ _ _ H _ I h => Constant_none ⟨.non, H, I, rfl, h⟩
theorem pe_str {x j pos} : PE X (.Constant (.str x) j pos) (tC (.str x)) := fun _ _ _ H _ I h => Calls.Constant_str ⟨.str x, H, I.tok _, ⟨_, rfl⟩, h⟩

def Gl (X : Cx) (x : Str) : Prop := X.env.kindOf x = some .globalImplicit
theorem ld_glob {E : Value → Shared → Prop} {pins : List (Addr × Obj)} {s : Shared} {σ : St} {H : Hp} {x : Str} {u : Value} {pos : Pos} {Q : Value → Shared → Prop} (I : Inv X pins σ H s) (hg : Gl X x) (hm : X.mg x = some u) (h : Q u s)
    (hd : (x == ("__debug__" : Str)) = false := by decide) : wpAny (model X.prog X.w) X.A (eval (.Name x pos) X.env) Q E s :=
  Calls.Name_function_global I.ok.kind hg (Calls.loadGlobal_global (by rw [I.ok.glob]; exact I.mod.glob.keeps I.bk) hm h) hd
theorem ld_blt {E : Value → Shared → Prop} {pins : List (Addr × Obj)} {s : Shared} {σ : St} {H : Hp} {x : Str} {u : Value} {pos : Pos} {Q : Value → Shared → Prop} (I : Inv X pins σ H s) (hg : Gl X x) (hm : X.mg x = none) (hv : bootBuiltins x = some u) (h : Q u s)
    (hn : x ≠ "__name__" := by decide) (hd : (x == ("__debug__" : Str)) = false := by decide) : wpAny (model X.prog X.w) X.A (eval (.Name x pos) X.env) Q E s := by
  obtain ⟨mb, h1, h2⟩ := I.mod.blt
  exact Calls.Name_function_global I.ok.kind hg (Calls.loadGlobal_builtin (by rw [I.ok.glob]; exact I.mod.glob.keeps I.bk) hm (by rw [I.ok.blt]; exact h1.keeps I.bk) ((h2 x hn).trans hv) h) hd
theorem pe_glob {x : Str} {v : V} {u : Value} {pos : Pos} (hg : Gl X x) (hm : X.mg x = some u) (r : RelV v u) (hd : (x == ("__debug__" : Str)) = false := by decide) : PE X (.Name x pos) (tC v) :=
  fun _ _ _ H _ I h => ld_glob I hg hm ⟨v, H, I, r, h⟩ hd
theorem pe_bltn {x : Str} {v : V} {u : Value} {pos : Pos} (hg : Gl X x) (hm : X.mg x = none) (hv : bootBuiltins x = some u) (r : RelV v u) (hn : x ≠ "__name__" := by decide) (hd : (x == ("__debug__" : Str)) = false := by decide) : PE X (.Name x pos) (tC v) :=
  fun _ _ _ H _ I h => ld_blt I hg hm hv ⟨v, H, I, r, h⟩ hn hd

variable {a b : Expr} {ta tb : TE} {pos : Pos}
variable {tA tB' : TT} {rest : List Expr}
def tAnd (t u : TT) : TT := fun σ H Q => t σ H fun c H1 => if c = true then u σ H1 Q else Q false H1
def tOr (t u : TT) : TT := fun σ H Q => t σ H fun c H1 => if c = true then Q true H1 else u σ H1 Q
def tNot (t : TT) : TT := fun σ H Q => t σ H fun c H1 => Q (!c) H1
theorem pw_and1 (ha : PT X a tA) : PW X (.BoolOp .And [a] pos) tA := by
  intro wh pins s σ H Q I h
  refine isTrue_and (thn (ha pins s σ H Q I h) fun c s1 e => ?_)
  cases c with
  | true => exact isTrue_and_nil e
  | false => exact e
theorem pw_or1 (ha : PT X a tA) : PW X (.BoolOp .Or [a] pos) tA := by
  intro wh pins s σ H Q I h
  refine isTrue_or (thn (ha pins s σ H Q I h) fun c s1 e => ?_)
  cases c with
  | false => exact isTrue_or_nil e
  | true => exact e
theorem pw_and (ha : PT X a tA) (hb : PW X (.BoolOp .And (b :: rest) pos) tB') : PW X (.BoolOp .And (a :: b :: rest) pos) (tAnd tA tB') := by
  intro wh pins s σ H Q I h
  refine isTrue_and (thn (ha pins s σ H _ I h) fun c s1 ⟨H1, I1, q1⟩ => ?_)
  cases c with
  | true => exact hb wh pins s1 σ H1 Q I1 q1
  | false => exact ⟨H1, I1, q1⟩
theorem pw_or (ha : PT X a tA) (hb : PW X (.BoolOp .Or (b :: rest) pos) tB') : PW X (.BoolOp .Or (a :: b :: rest) pos) (tOr tA tB') := by
  intro wh pins s σ H Q I h
  refine isTrue_or (thn (ha pins s σ H _ I h) fun c s1 ⟨H1, I1, q1⟩ => ?_)
  cases c with
  | true => exact ⟨H1, I1, q1⟩
  | false => exact hb wh pins s1 σ H1 Q I1 q1
theorem pt_not (ha : PT X a tA) : PT X (.UnaryOp .Not a pos) (tNot tA) := by
  intro pins s σ H Q I h
  exact isTrue_not (ha pins s σ H (fun c H1 => Q (!c) H1) I h)
def tAndV (ta tb : TE) : TE := fun σ H Q => ta σ H fun x H1 => ∃ c, x = .bl c ∧ if c = true then tb σ H1 Q else Q (.bl false) H1
theorem pe_one {op} {t : TE} (h : PE X a t) : PE X (.BoolOp op [a] pos) t := fun pins s σ H Q I hw => BoolOp_one (h pins s σ H Q I hw)
theorem pe_and (ha : PE X a ta) (hb : PE X (.BoolOp .And (b :: rest) pos) tb) : PE X (.BoolOp .And (a :: b :: rest) pos) (tAndV ta tb) := by
  intro pins s σ H Q I h
  refine BoolOp_and (thn (ha pins s σ H _ I h) fun v s1 ⟨x, H1, I1, r1, q1⟩ => ?_)
  obtain ⟨c, rfl, q1⟩ := q1
  cases r1
  refine wpAny_truthy_bool ?_
  cases c with
  | true => exact hb pins s1 σ H1 Q I1 q1
  | false => exact ⟨.bl false, H1, I1, rfl, q1⟩
def tIf (t : TT) (ta tb : TE) : TE := fun σ H Q => t σ H fun c H1 => if c = true then ta σ H1 Q else tb σ H1 Q
theorem pe_ifExp {c : Expr} (hc : PT X c tA) (ha : PE X a ta) (hb : PE X b tb) : PE X (.IfExp c a b pos) (tIf tA ta tb) := by
  intro pins s σ H Q I h
  refine wpAny_IfExp (thn (hc pins s σ H _ I h) fun d s1 ⟨H1, I1, q1⟩ => ?_)
  cases d with
  | true => exact ha pins s1 σ H1 Q I1 q1
  | false => exact hb pins s1 σ H1 Q I1 q1
end
end L2

namespace L2
open PySem PySem.Spec PyProof.Rows

def SqL (K : PySem.W.Frag) (H : Hp) (a : Addr) (xs : List V) : Prop :=
  Rd H a (.lst xs) ∨
    ∃ (o : Obj) (its : Array Value) (n : Nat), K.lookup a = some o ∧ o.cls = .type "list" ∧ o.dict = none ∧ o.data = .seq its n ∧ its.size ≤ sizeLine ∧ Vals xs its.toList
def SqT (K : PySem.W.Frag) (H : Hp) (a : Addr) (xs : List V) : Prop :=
  Rd H a (.tup xs) ∨
    ∃ (o : Obj) (its : Array Value) (n : Nat), K.lookup a = some o ∧ o.cls = .type "tuple" ∧ o.data = .seq its n ∧ its.size ≤ sizeLine ∧ Vals xs its.toList
def absV : Value → Option V
  | .none => some .non
  | .bool b => some (.bl b)
  | .int i _ => some (.int i)
  | .str x _ => some (.str x)
  | .bytes b _ => some (.byt b)
  | .float b _ => some (.flt b)
  | .ref a => some (.ref a)
  | .type n => some (.ty n)
  | _ => none
theorem RelV.abs {x : V} {u : Value} (r : RelV x u) : absV u = some x := by
  cases x with
  | non => cases r; rfl
  | bl _ => cases r; rfl
  | int _ => obtain ⟨t, rfl⟩ := r; rfl
  | str _ => obtain ⟨t, rfl⟩ := r; rfl
  | byt _ => obtain ⟨t, rfl⟩ := r; rfl
  | flt _ => obtain ⟨t, rfl⟩ := r; rfl
  | ref _ => cases r; rfl
  | ty _ => cases r; rfl
theorem RelV.inj {x y : V} {u : Value} (r : RelV x u) (q : RelV y u) : x = y := Option.some.inj (r.abs.symm.trans q.abs)
theorem Vals.inj : ∀ {xs ys : List V} {us : List Value}, Vals xs us → Vals ys us → xs = ys
  | _, _, _, .nil, .nil => rfl
  | _, _, _, .cons r t, .cons r' t' => by rw [r.inj r', Vals.inj t t']
section
variable {X : Cx} {pins : List (Addr × Obj)} {σ : St} {H : Hp} {s : Shared} {a : Addr} {xs ys : List V}
theorem SqL.of {K : PySem.W.Frag} (h : H a = some (.lst xs)) : SqL K H a xs := .inl (.inl h)
theorem SqT.of {K : PySem.W.Frag} (h : H a = some (.tup xs)) : SqT K H a xs := .inl (.inl h)
theorem Inv.list (I : Inv X pins σ H s) (h : SqL X.K H a xs) : ∃ its : List Value, Vals xs its ∧ PlainL s.heap a its.toArray ∧ xs.length ≤ sizeLine := by
  rcases h with h | ⟨o, its, n, hk, hc, hd, hs, hz, r⟩
  · obtain ⟨z, its, n, r, e⟩ := h.ok I.hok
    exact ⟨its, r, ⟨_, n, e, rfl, rfl, rfl⟩, z⟩
  · refine ⟨its.toList, r, ⟨o, n, I.kIn a o hk, hc, hd, by simpa using hs⟩, ?_⟩
    have e := r.length
    simp only [Array.length_toList] at e
    omega
theorem Inv.tuple (I : Inv X pins σ H s) (h : SqT X.K H a xs) : ∃ its : List Value, Vals xs its ∧ IsTup s.heap a its.toArray ∧ xs.length ≤ sizeLine := by
  rcases h with h | ⟨o, its, n, hk, hc, hs, hz, r⟩
  · obtain ⟨z, its, r, p⟩ := h.ok I.hok
    exact ⟨its, r, p, z⟩
  · refine ⟨its.toList, r, ⟨o, I.kIn a o hk, hc, n, by simpa using hs⟩, ?_⟩
    have e := r.length
    simp only [Array.length_toList] at e
    omega
theorem Inv.list_inj (I : Inv X pins σ H s) (h : SqL X.K H a xs) (h' : SqL X.K H a ys) : xs = ys := by
  obtain ⟨its, r, ⟨o, n, e, _, _, d⟩, _⟩ := I.list h
  obtain ⟨its', r', ⟨o', n', e', _, _, d'⟩, _⟩ := I.list h'
  rw [e] at e'; cases e'
  rw [d] at d'
  injection d' with d1 _
  have : its = its' := by simpa using congrArg Array.toList d1
  subst this
  exact r.inj r'
end

abbrev Cx.wish (X : Cx) (E : Value → Shared → Prop) : Cx := { X with xe := E }
abbrev Cx.nox (X : Cx) : Cx := X.wish fun _ _ => False
theorem Cx.Ok.wish {X : Cx} (ok : X.Ok) (E : Value → Shared → Prop) : (X.wish E).Ok :=
  ⟨ok.mod, ok.kind, ok.glob, ok.blt, ok.above, ok.inj, ok.has, ok.cab, ok.hd, ok.frames, ok.stk, ok.exf, ok.bs, ok.bsz, ok.noex, ok.exfs, ok.funs, ok.frf⟩
theorem Cx.Ok.unwish {X : Cx} {E : Value → Shared → Prop} (ok : (X.wish E).Ok) : X.Ok :=
  ⟨ok.mod, ok.kind, ok.glob, ok.blt, ok.above, ok.inj, ok.has, ok.cab, ok.hd, ok.frames, ok.stk, ok.exf, ok.bs, ok.bsz, ok.noex, ok.exfs, ok.funs, ok.frf⟩
section
variable {X : Cx} {pins : List (Addr × Obj)} {σ : St} {H : Hp} {s : Shared} {E : Value → Shared → Prop}
theorem Inv.wish (I : Inv X pins σ H s) (E : Value → Shared → Prop) : Inv (X.wish E) pins σ H s := ⟨I.ok.wish E, I.os, I.bare, I.base, I.loc, I.cell, I.free, I.freeC, I.pin, I.hok, I.len⟩
theorem Inv.unwish (I : Inv (X.wish E) pins σ H s) : Inv X pins σ H s := ⟨I.ok.unwish, I.os, I.bare, I.base, I.loc, I.cell, I.free, I.freeC, I.pin, I.hok, I.len⟩
theorem SP.unwish {D : Ends} {f : Flow} {s' : Shared} (h : SP (X.wish E) pins D f s') : SP X pins D f s' := by
  cases f with
  | next => obtain ⟨σ', H', I, q⟩ := h; exact ⟨σ', H', I.unwish, q⟩
  | brk => obtain ⟨σ', H', I, q⟩ := h; exact ⟨σ', H', I.unwish, q⟩
  | cont => obtain ⟨σ', H', I, q⟩ := h; exact ⟨σ', H', I.unwish, q⟩
  | ret u => obtain ⟨v, σ', H', I, r, q⟩ := h; exact ⟨v, σ', H', I.unwish, r, q⟩
theorem PSs.nox {st : List Stmt} {t : TS} (h : PSs X.nox st t) : PSs X st t := fun pins s σ H D I hw =>
  wpAny_mono (h pins s σ H D (I.wish _) hw) (fun _ _ q => q.unwish) fun _ _ z => False.elim z
end

section
variable {X : Cx} {st : Stmt} {rest : List Stmt} {t u : TS} {e : Expr} {te : TE} {pos : Pos}
def tNext : TS := fun D σ H => D.nx σ H
def tSeq (t u : TS) : TS := fun D σ H => t { D with nx := u D } σ H
theorem pss_nil : PSs X [] tNext := fun _ _ σ H _ I h => wpAny_execs_nil ⟨σ, H, I, h⟩
theorem pss_cons (h1 : PS X st t) (h2 : PSs X rest u) : PSs X (st :: rest) (tSeq t u) := by
  intro pins s σ H D I h
  refine wpAny_execs_cons (thn (h1 pins s σ H { D with nx := u D } I h) fun f s1 q => ?_)
  cases f with
  | next =>
    obtain ⟨σ', H', I', q⟩ := q
    exact h2 pins s1 σ' H' D I' q
  | ret v => exact q
  | brk => exact q
  | cont => exact q
theorem pss_one (h1 : PS X st t) : PSs X [st] t := by
  intro pins s σ H D I h
  refine wpAny_execs_cons (thn (h1 pins s σ H D I h) fun f s1 q => ?_)
  cases f with
  | next => exact wpAny_execs_nil q
  | ret v => exact q
  | brk => exact q
  | cont => exact q
theorem Inv.quiet {pins : List (Addr × Obj)} {σ : St} {H : Hp} {s : Shared} (I : Inv X pins σ H s) : interactive X.env = false := by simp [interactive, I.ok.kind]
def tDrop (te : TE) : TS := fun D σ H => te σ H fun _ H1 => D.nx σ H1
theorem ps_expr (he : PE X e te) (hs : swapsWith e none pos.line X.env = pure false := by rfl) : PS X (.Expr e pos) (tDrop te) := by
  intro pins s σ H D I h
  exact wpAny_Expr_any (thn (he pins s σ H _ I h) fun v s1 ⟨x, H1, I1, r1, q1⟩ => ⟨σ, H1, I1, q1⟩) I.quiet hs
def tRet (te : TE) : TS := fun D σ H => te σ H D.rt
theorem ps_ret (he : PE X e te) : PS X (.Return (some e) pos) (tRet te) := by
  intro pins s σ H D I h
  exact wpAny_Return_some (thn (he pins s σ H _ I h) fun v s1 ⟨x, H1, I1, r1, q1⟩ => ⟨x, σ, H1, I1, r1, q1⟩)
def tIfS (c : TT) (t u : TS) : TS := fun D σ H => c σ H fun b H1 => if b = true then t D σ H1 else u D σ H1
theorem ps_if {c : Expr} {a b : List Stmt} {tc : TT} (hc : PT X c tc) (ha : PSs X a t) (hb : PSs X b u) : PS X (.If c a b pos) (tIfS tc t u) := by
  intro pins s σ H D I h
  refine wpAny_If (thn (hc pins s σ H _ I h) fun d s1 ⟨H1, I1, q1⟩ => ?_)
  cases d with
  | true => exact ha pins s1 σ H1 D I1 q1
  | false => exact hb pins s1 σ H1 D I1 q1
end

abbrev TG := V → St → Hp → (St → Hp → Prop) → Prop
abbrev TGs := List V → St → Hp → (St → Hp → Prop) → Prop
def PG (X : Cx) (target : Expr) (t : TG) : Prop :=
  ∀ (pins : List (Addr × Obj)) (s : Shared) (σ : St) (H : Hp) (v : V) (u : Value) (Q : St → Hp → Prop), Inv X pins σ H s → RelV v u → t v σ H Q →
    wpAny (model X.prog X.w) X.A (assign target X.env u) (fun _ s' => ∃ σ' H', Inv X pins σ' H' s' ∧ Q σ' H') X.xe s
def PGs (X : Cx) (ts : List Expr) (t : TGs) : Prop :=
  ∀ (pins : List (Addr × Obj)) (s : Shared) (σ : St) (H : Hp) (vs : List V) (us : List Value) (Q : St → Hp → Prop), Inv X pins σ H s → Vals vs us → t vs σ H Q →
    wpAny (model X.prog X.w) X.A (assignInOrder ((assignEach ts X.env).map (·.2)) us) (fun _ s' => ∃ σ' H', Inv X pins σ' H' s' ∧ Q σ' H') X.xe s
abbrev TSet := V → V → V → Hp → (Hp → Prop) → Prop
def PSet (X : Cx) (t : TSet) : Prop :=
  ∀ (pins : List (Addr × Obj)) (s : Shared) (σ : St) (H : Hp) (o i v : V) (ov iv u : Value) (Q : Hp → Prop), Inv X pins σ H s → RelV o ov → RelV i iv → RelV v u → t o i v H Q →
    wpAny (model X.prog X.w) X.A (setItem ov iv u) (fun _ s' => ∃ H', Inv X pins σ H' s' ∧ Q H') X.xe s
section
variable {X : Cx} {pos : Pos}
def gName (i : Nat) : TG := fun v σ H Q => Q (σ.set i (some v)) H
theorem pg_name {i : Nat} {x : Str} (hN : X.N.Nodup) (hi : X.N[i]? = some x) (hx : Loc X.env.scope x) (hf : X.fn x = true ∨ X.env.scope.names.lookup x = some .local := by first | exact .inl rfl | exact .inr rfl | assumption) : PG X (.Name x pos) (gName i) := by
  intro pins s σ H v u Q I r h
  exact wpAny_assign_Name (store_ok I hN hi hx r (fun s' I' => ⟨_, H, I', h⟩) hf)
def gNil : TGs := fun vs σ H Q => vs = [] ∧ Q σ H
def gCons (t : TG) (u : TGs) : TGs := fun vs σ H Q => ∃ v r, vs = v :: r ∧ t v σ H fun σ' H' => u r σ' H' Q
theorem pgs_nil : PGs X [] gNil := by
  intro pins s σ H vs us Q I r h
  obtain ⟨e, h⟩ := h
  subst e
  cases r
  exact assignInOrder_nil ⟨σ, H, I, h⟩
theorem pgs_cons {e : Expr} {es : List Expr} {t : TG} {u : TGs} (h1 : PG X e t) (h2 : PGs X es u)
    (hs : (assignEach (e :: es) X.env).map (·.2) = assign e X.env :: (assignEach es X.env).map (·.2) := by rfl) : PGs X (e :: es) (gCons t u) := by
  intro pins s σ H vs us Q I r h
  obtain ⟨v, vr, e1, h⟩ := h
  subst e1
  cases r with
  | cons r rr =>
    rw [hs]
    refine assignInOrder_cons (thn (h1 pins s σ H _ _ _ I r h) fun _ s1 ⟨σ1, H1, I1, q1⟩ => ?_)
    exact h2 pins s1 σ1 H1 _ _ Q I1 rr q1
def gTup (K : PySem.W.Frag) (n : Nat) (t : TGs) : TG := fun v σ H Q => ∃ a xs, v = .ref a ∧ SqT K H a xs ∧ xs.length = n ∧ t xs σ H Q
theorem pg_tup {es : List Expr} {k : Nat} {t : TGs} {n : Nat} (hc : X.calm = true) (h : PGs X es t)
    (hn : (assignEach es X.env).length = n := by rfl) (hst : (assignEach es X.env).findIdx? (·.1) = none := by rfl) : PG X (.Tuple es k pos) (gTup X.K n t) := by
  intro pins s σ H v u Q I r hw
  obtain ⟨a, xs, e1, hq, hl, hw⟩ := hw
  subst e1
  cases r
  obtain ⟨its, rv, ht, hz⟩ := I.tuple hq
  refine assign_Tuple_tuple (I.ok.hd hc) ht (by simp [hn, ← hl, rv.length]) hst fun h' hx => ?_
  have I1 : Inv X pins σ H { s with heap := h' } := I.kept (t' := s.toks) fun b o e => hx b o (Nat.ne_of_lt (Heap.lt_size e)) e
  exact h pins _ σ H xs _ Q I1 (by simpa using rv) hw
def gSub (to ti : TE) (t : TSet) : TG := fun v σ H Q => to σ H fun o H1 => ti σ H1 fun i H2 => t o i v H2 fun H3 => Q σ H3
theorem pg_sub {o i : Expr} {to ti : TE} {t : TSet} (ho : PE X o to) (hi : PE X i ti) (hs : PSet X t)
    (ha : ∀ v, assign (.Subscript o i pos) X.env v = (do
      let ov ← holding [v] (eval o X.env)
      let iv ← holding [v, ov] (eval i X.env)
      standAt pos
      holding [v, ov, iv] (setItem ov iv v)
      release [v, ov, iv] []) := by intro _; rfl) : PG X (.Subscript o i pos) (gSub to ti t) := by
  intro pins s σ H v u Q I r h
  rw [ha]
  refine wpAny_bind (wpAny_holding (thn (ho pins s σ H _ I h) fun ov s1 ⟨x, H1, I1, r1, q1⟩ => ?_))
  refine wpAny_bind (wpAny_holding (thn (hi pins s1 σ H1 _ I1 q1) fun iv s2 ⟨y, H2, I2, r2, q2⟩ => ?_))
  refine wpAny_bind (wpAny_standAt (wpAny_bind (wpAny_holding (thn (hs pins s2 σ H2 x y v ov iv u _ I2 r1 r2 r q2) fun _ s3 ⟨H3, I3, q3⟩ => ?_))))
  exact wpAny_release ⟨σ, H3, I3, q3⟩
def tAsg (te : TE) (g : TG) : TS := fun D σ H => te σ H fun x H1 => g x σ H1 D.nx
theorem ps_asg {tg e : Expr} {te : TE} {g : TG} (he : PE X e te) (hg : PG X tg g) (hs : swapsWithSole [tg] e pos.line X.env = pure false := by rfl) (hw : swappedStores [tg] e X.env = pure none := by rfl)
    (h1 : (assignEach [tg] X.env).map (·.2) = [assign tg X.env] := by rfl) : PS X (.Assign [tg] e pos) (tAsg te g) := by
  intro pins s σ H D I h
  refine wpAny_Assign_stores (thn (he pins s σ H _ I h) fun v s1 ⟨x, H1, I1, r1, q1⟩ => ?_) hs hw
  rw [h1]
  exact thn (hg pins s1 σ H1 x v _ I1 r1 q1) fun _ s2 q => q
theorem ps_set {i : Nat} {x : Str} {e : Expr} {te : TE} {pos' : Pos} (hN : X.N.Nodup) (hi : X.N[i]? = some x) (hx : Loc X.env.scope x) (he : PE X e te) (hs : swapsWith e (some (.Name x pos')) pos.line X.env = pure false := by rfl) (hf : X.fn x = true ∨ X.env.scope.names.lookup x = some .local := by first | exact .inl rfl | exact .inr rfl | assumption) :
    PS X (.Assign [.Name x pos'] e pos) (tAsg te (gName i)) := by
  intro pins s σ H D I h
  refine wpAny_Assign_Name (thn (he pins s σ H _ I h) fun v s1 ⟨y, H1, I1, r1, q1⟩ => ?_) hs
  exact store_ok I1 hN hi hx r1 (fun s2 I2 => ⟨_, H1, I2, q1⟩) hf
end

section
variable {X : Cx} {pos : Pos}
def tWhile (c : TT) (tb : TS) : TS := fun D σ H => ∃ W : Nat → St → Hp → Prop, (∃ m, W m σ H) ∧ ∀ m σ H, W m σ H →
  c σ H fun b H1 => if b = true then ∃ N : St → Hp → Prop, (∀ σ' H', N σ' H' → ∃ m', m' < m ∧ W m' σ' H') ∧ tb { D with nx := N, ct := N, bk := D.nx } σ H1 else D.nx σ H1
theorem ps_while {c : Expr} {body : List Stmt} {tc : TT} {tb : TS} (hp : PassesOwn (model X.prog X.w) X.A X.env X.xe) (hc : PT X c tc) (hb : PSs X body tb) : PS X (.While c body [] pos) (tWhile tc tb) := by
  intro pins s σ H D I h
  obtain ⟨W, ⟨m0, w0⟩, turn⟩ := h
  refine wpAny_While (codeAny_whileLoop (fun n s' => ∃ σ' H', Inv X pins σ' H' s' ∧ W n σ' H') ?_ m0 ⟨σ, H, I, w0⟩)
  rintro n s1 ⟨σ1, H1, I1, w1⟩
  refine wpAny_passesOwn hp (thn (hc pins s1 σ1 H1 _ I1 (turn n σ1 H1 w1)) fun b s2 ⟨H2, I2, q2⟩ => ?_)
  cases b with
  | true =>
    obtain ⟨N, hN, q2⟩ := q2
    rw [if_pos rfl]
    refine wpAny_passesOwn hp (thn (hb pins s2 σ1 H2 _ I2 q2) fun f s3 q3 => ?_)
    cases f with
    | next =>
      obtain ⟨σ3, H3, I3, n3⟩ := q3
      obtain ⟨m', hm, w3⟩ := hN σ3 H3 n3
      exact ⟨m', hm, σ3, H3, I3, w3⟩
    | cont =>
      obtain ⟨σ3, H3, I3, n3⟩ := q3
      obtain ⟨m', hm, w3⟩ := hN σ3 H3 n3
      exact ⟨m', hm, σ3, H3, I3, w3⟩
    | brk => exact q3
    | ret v => exact q3
  | false =>
    rw [if_neg Bool.false_ne_true]
    exact wpAny_execs_nil ⟨σ1, H2, I2, q2⟩
end

structure It where
  go : Nat → Hp → Prop
  yld : Nat → Hp → V → Hp → Prop
  stop : Nat → Hp → Prop
def FpOk (X : Cx) (pins : List (Addr × Obj)) (H : Hp) (b : Addr) : Prop :=
  H b = none ∧ b ≠ X.env.locals ∧ b ∉ X.fs ∧ (b ∈ X.ex ∨ X.s₀.heap.objs.size ≤ b) ∧ (∀ x c, X.env.cells.lookup x = some c → c ≠ b) ∧ ∀ p ∈ X.pn ++ pins, p.1 ≠ b
theorem Inv.fpOk {X : Cx} {pins : List (Addr × Obj)} {σ : St} {H H' : Hp} {s : Shared} {b : Addr} (I : Inv X pins σ H s) (hb : s.heap.objs.size ≤ b) (hn : H' b = none) : FpOk X pins H' b := by
  refine ⟨hn, Nat.ne_of_gt (Nat.lt_of_lt_of_le I.lt hb), I.nofs hb, .inr (Nat.le_trans I.sz hb), fun x c e z => ?_, fun p hp z => ?_⟩
  · obtain ⟨v, q⟩ := I.cell x c e
    exact absurd (Nat.lt_of_lt_of_le q.lt (by rw [z]; exact hb)) (Nat.lt_irrefl _)
  · exact absurd (Nat.lt_of_lt_of_le (Heap.lt_size (I.pin p hp).1) (by rw [z]; exact hb)) (Nat.lt_irrefl _)
structure Turn (P : Program) (w : World) (K : PySem.W.Frag) (tg : Expr) (J : It) (fp : List Addr) (it : Addr) (tn : Nat → Heap → Prop) : Prop where
  mem : it ∈ fp
  obj : ∀ i h, tn i h → ∀ b ∈ fp, ∃ o, h.get? b = some o ∧ ∀ v, o.data ≠ .cell v
  keep : ∀ i h h', tn i h → (∀ b ∈ fp, ∀ o, h.get? b = some o → h'.get? b = some o) → tn i h'
  item : ∀ (X : Cx), X.prog = P → X.w = w → X.K = K → X.calm = true → ∀ (i : Nat) (pins : List (Addr × Obj)) (s : Shared) (σ : St) (H : Hp) (E : Value → Shared → Prop), Inv X pins σ H s → (∀ b ∈ fp, FpOk X pins H b) → tn i s.heap → J.go i H →
    wpAny (model P w) X.A (pyNext (.ref it)) (fun r s1 => ∃ u, r = some u ∧
      wpAny (model P w) X.A (letOwnedTupleGo tg (.ref it) u) (fun _ s2 => ∃ x H', Inv X pins σ H' s2 ∧ RelV x u ∧ J.yld i H x H' ∧ tn (i + 1) s2.heap ∧ ∀ b ∈ fp, H' b = none) E s1) E s
  done : ∀ (X : Cx), X.prog = P → X.w = w → X.K = K → X.calm = true → ∀ (i : Nat) (pins : List (Addr × Obj)) (s : Shared) (σ : St) (H : Hp) (E : Value → Shared → Prop), Inv X pins σ H s → (∀ b ∈ fp, FpOk X pins H b) → tn i s.heap → J.stop i H →
    wpAny (model P w) X.A (pyNext (.ref it)) (fun r s1 => r = none ∧ Inv X pins σ H s1) E s
  self : ∀ (A : Around) (i : Nat) (s : Shared) (Q : Value → Shared → Prop) (E : Value → Shared → Prop), tn i s.heap → Q (.ref it) s → wpAny (model P w) A (pyIter (.ref it)) Q E s
abbrev TI := St → Hp → (It → Hp → Prop) → Prop
def PIE (X : Cx) (pins : List (Addr × Obj)) (σ : St) (tg : Expr) (R : It → Hp → Prop) (itv : Value) (s2 : Shared) : Prop :=
  ∃ (it : Addr) (fp : List Addr) (tn : Nat → Heap → Prop) (J : It) (H' : Hp), itv = .ref it ∧ Inv X pins σ H' s2 ∧ Turn X.prog X.w X.K tg J fp it tn ∧ tn 0 s2.heap ∧ (∀ b ∈ fp, FpOk X pins H' b) ∧ R J H'
def PI (X : Cx) (tg iter : Expr) (wi : TI) : Prop :=
  ∀ (pins : List (Addr × Obj)) (s : Shared) (σ : St) (H : Hp) (R : It → Hp → Prop), Inv X pins σ H s → wi σ H R →
    wpAny (model X.prog X.w) X.A (eval iter X.env) (fun v s1 => wpAny (model X.prog X.w) X.A (pyIter v) (PIE X pins σ tg R) X.xe s1) X.xe s

theorem go_of {M : Model} {A : Around} {E : Value → Shared → Prop} {s : Shared} {tg : Expr} {it : Addr} {u : Value} {o : Obj} {n : String} {vs : Array Value} {Q : Unit → Shared → Prop} (ho : s.heap.get? it = some o) (hc : o.cls = .type n) (hd : o.data = .fields vs)
    (hn : ["enumerate", "zip", "dict_itemiterator", "dict_reverseitemiterator", "odict_iterator", "itertools.zip_longest", "itertools.pairwise"].contains n = false) (hQ : Q () s) : wpAny M A (letOwnedTupleGo tg (.ref it) u) Q E s := by
  unfold letOwnedTupleGo
  cases tg <;> first
    | exact wpAny_pure hQ
    | (cases u <;> first
        | exact wpAny_pure hQ
        | (refine wpAny_bind (wpAny_load ho ?_)
           rw [hc, hd]
           show wpAny M A (if (["enumerate", "zip", "dict_itemiterator", "dict_reverseitemiterator", "odict_iterator", "itertools.zip_longest", "itertools.pairwise"].contains n && vs[0]? == some (rawInt _)) = true then _ else _) Q E s
           rw [if_neg (by intro h; rw [hn, Bool.false_and] at h; cases h)]
           exact wpAny_pure hQ))

def Itl (K : PySem.W.Frag) (a : Addr) : It :=
  ⟨fun i H => ∃ xs x, SqL K H a xs ∧ xs[i]? = some x, fun i H x H' => H' = H ∧ ∀ xs, SqL K H a xs → xs[i]? = some x, fun i H => ∃ xs, SqL K H a xs ∧ xs.length ≤ i⟩
def Itr (lo : Int) (n : Nat) : It := ⟨fun i _ => i < n, fun i H x H' => H' = H ∧ x = .int (lo + i), fun i _ => n ≤ i⟩
theorem turn_list {P : Program} {w : World} {K : PySem.W.Frag} {tg : Expr} (a it : Addr) : Turn P w K tg (Itl K a) [it] it (fun i h => h.IsListIter it a i) where
  mem := by simp
  obj := fun i h st b hb => by
    have e : b = it := by simpa using hb
    subst e
    obtain ⟨o, e, c, d⟩ := st
    exact ⟨o, e, fun v z => by rw [d] at z; cases z⟩
  keep := fun i h h' st k => st.at fun o e => k it (by simp) o e
  item := by
    intro X hP hw hK hc i pins s σ H E I hf st hg
    subst hP hw hK
    obtain ⟨xs, x, hq, hx⟩ := hg
    obtain ⟨its, rv, p, hz⟩ := I.list hq
    obtain ⟨u, hu, ru⟩ := rv.get hx
    obtain ⟨f0, f1, f2, f3, f4, f5⟩ := hf it (by simp)
    refine wpAny_pyNext_list_item st p.isList (x := u) (by simpa using hu) fun h' st' sb => ?_
    have I1 : Inv X pins σ H { s with heap := h' } := I.turned (t' := s.toks) (fun b o hb e => (sb.2 b hb).trans e) f0 f1 f3 f4 f5
    obtain ⟨o, e, c, d⟩ := id st'
    exact ⟨u, rfl, go_of (s := { s with heap := h' }) e c d (by decide) ⟨x, H, I1, ru, ⟨rfl, fun ys hy => by rw [I.list_inj hy hq]; exact hx⟩, st', fun b hb => (hf b hb).1⟩⟩
  done := by
    intro X hP hw hK hc i pins s σ H E I hf st hg
    subst hP hw hK
    obtain ⟨xs, hq, hx⟩ := hg
    obtain ⟨its, rv, p, hz⟩ := I.list hq
    obtain ⟨f0, f1, f2, f3, f4, f5⟩ := hf it (by simp)
    have hl := rv.length
    exact wpAny_pyNext_list_end (I.ok.hd hc) st p.isList (by simp; omega) fun h' eb => ⟨rfl, I.turned (t' := s.toks) (fun b o hb e => eb b o hb e) f0 f1 f3 f4 f5⟩
  self := fun _ _ _ _ _ st h => wpAny_pyIter_listiter st h
theorem turn_range {P : Program} {w : World} {K : PySem.W.Frag} {tg : Expr} (it : Addr) (lo : Int) (n : Nat) : Turn P w K tg (Itr lo n) [it] it (fun i h => IsRangeIter h it (lo + (i : Nat) * 1) ((n : Int) - (i : Nat)) 1) where
  mem := by simp
  obj := fun i h st b hb => by
    have e : b = it := by simpa using hb
    subst e
    exact ⟨_, st, fun v z => by
      have z' : Data.fields _ = Data.cell v := z
      cases z'⟩
  keep := fun i h h' st k => k it (by simp) _ st
  item := by
    intro X hP hw hK hc i pins s σ H E I hf st hg
    subst hP hw hK
    obtain ⟨f0, f1, f2, f3, f4, f5⟩ := hf it (by simp)
    have W := Walks.range (prog := X.prog) (w := X.w) (I.ok.hd hc) it lo 1 n
    refine W.item i s _ _ hg st fun v h' tk hv st' kk => ?_
    obtain ⟨t, rfl⟩ := hv
    have I1 : Inv X pins σ H { s with heap := h', toks := tk } := I.turned (fun b o hb e => kk b o (by simpa using hb) e) f0 f1 f3 f4 f5
    refine ⟨_, rfl, go_of (s := { s with heap := h', toks := tk }) (n := "range_iterator") st' rfl rfl (by decide) ⟨.int (lo + i), H, I1, ⟨t, ?_⟩, ⟨rfl, rfl⟩, st', fun b hb => (hf b hb).1⟩⟩
    rw [Int.mul_one]
  done := by
    intro X hP hw hK hc i pins s σ H E I hf st hg
    subst hP hw hK
    obtain ⟨f0, f1, f2, f3, f4, f5⟩ := hf it (by simp)
    exact wpAny_pyNext_range_end (I.ok.hd hc) st (by have : n ≤ i := hg; omega) fun h' eb => ⟨rfl, I.turned (t' := s.toks) (fun b o hb e => eb b o hb e) f0 f1 f3 f4 f5⟩
  self := fun _ _ _ _ _ st h => wpAny_pyIter_rangeiter st h
end L2

namespace L2
open PySem PySem.Spec PyProof.Rows
section
variable {X : Cx} {tg : Expr}
def iList (K : PySem.W.Frag) (tl : TE) : TI := fun σ H R => tl σ H fun x H1 => ∃ a, x = .ref a ∧ (∃ xs, SqL K H1 a xs) ∧ R (Itl K a) H1
theorem pi_list {l : Expr} {tl : TE} (hl : PE X l tl) : PI X tg l (iList X.K tl) := by
  intro pins s σ H R I h
  refine thn (hl pins s σ H _ I h) fun v s1 ⟨x, H1, I1, r1, q1⟩ => ?_
  obtain ⟨a, e, ⟨xs, hq⟩, q⟩ := q1
  subst e
  cases r1
  obtain ⟨its, rv, p, hz⟩ := I1.list hq
  refine wpAny_pyIter_list p.isList ?_
  refine ⟨s1.heap.objs.size, [s1.heap.objs.size], _, _, H1, rfl, I1.kept (t' := s1.toks) fun b o e => Heap.get?_push_of_some _ e, turn_list a _, ⟨_, Heap.get?_push_size _ rfl, rfl, rfl⟩, fun b hb => ?_, q⟩
  have e : b = s1.heap.objs.size := by simpa using hb
  subst e
  exact I1.fpOk (Nat.le_refl _) (I1.hok.fresh (Nat.le_refl _))
theorem range_it {pins : List (Addr × Obj)} {σ : St} {H : Hp} {s : Shared} {R : It → Hp → Prop} {E : Value → Shared → Prop} {lo hi : Int} {t u v : Tok} {tk : Nat} (I : Inv X pins σ H s) (h1 : -(2 ^ 62) ≤ lo) (h2 : lo < 2 ^ 62) (h3 : -(2 ^ 62) ≤ hi) (h4 : hi < 2 ^ 62)
    (q : R (Itr lo (hi - lo).toNat) H) : wpAny (model X.prog X.w) X.A (pyIter (.ref s.heap.objs.size)) (PIE X pins σ tg R) E { s with heap := s.heap.push { cls := .type "range", data := .fields #[.int lo t, .int hi u, .int 1 v] }, toks := tk } := by
  refine wpAny_pyIter_range (IsRange.new ..) (small_one h1 h2 h3 h4) ?_
  have I1 : Inv X pins σ H { s with heap := s.heap.push { cls := .type "range", data := .fields #[.int lo t, .int hi u, .int 1 v] }, toks := tk } := I.kept fun b o e => Heap.get?_push_of_some _ e
  refine ⟨(s.heap.push { cls := .type "range", data := .fields #[.int lo t, .int hi u, .int 1 v] }).objs.size, [(s.heap.push { cls := .type "range", data := .fields #[.int lo t, .int hi u, .int 1 v] }).objs.size], _, _, H, rfl,
    I1.kept (t' := tk) fun b o e => Heap.get?_push_of_some _ e, turn_range _ lo (hi - lo).toNat, ?_, fun b hb => ?_, q⟩
  · have e1 : lo + ((0 : Nat) : Int) * 1 = lo := by simp
    have e2 : (((hi - lo).toNat : Nat) : Int) - ((0 : Nat) : Int) = Builtin.Range.rangeSize lo hi 1 := by rw [rangeSize_one]; split <;> omega
    show IsRangeIter _ _ (lo + ((0 : Nat) : Int) * 1) ((((hi - lo).toNat : Nat) : Int) - ((0 : Nat) : Int)) 1
    rw [e1, e2]
    exact Heap.get?_push_size _ rfl
  · have e : b = (s.heap.push { cls := .type "range", data := .fields #[.int lo t, .int hi u, .int 1 v] }).objs.size := by simpa using hb
    subst e
    exact I1.fpOk (Nat.le_refl _) (I1.hok.fresh (Nat.le_refl _))
def iRng1 (ta : TA) : TI := fun σ H R => ta σ H fun vs H1 => ∃ j : Int, vs = [.int j] ∧ -(2 ^ 62) ≤ j ∧ j < 2 ^ 62 ∧ R (Itr 0 j.toNat) H1
def iRng2 (ta : TA) : TI := fun σ H R => ta σ H fun vs H1 => ∃ i j : Int, vs = [.int i, .int j] ∧ (-(2 ^ 62) ≤ i ∧ i < 2 ^ 62 ∧ -(2 ^ 62) ≤ j ∧ j < 2 ^ 62) ∧ R (Itr i (j - i).toNat) H1
theorem pi_range1 {a : Expr} {ta : TA} {p pos : Pos} (hg : Gl X "range") (hm : X.mg "range" = none) (ha : PA X [a] ta) (hs : starEach [a] X.env = [(false, eval a X.env)] := by rfl) : PI X tg (.Call (.Name "range" p) [a] [] pos) (iRng1 ta) := by
  intro pins s σ H R I h
  refine Call_ (ld_blt I hg hm boot_range (PyProof.Rows.callWith_type1 (thn (ha pos pins s σ H _ I h) fun us s1 ⟨vs, H1, I1, r1, q1⟩ => ?_) hs rfl))
  obtain ⟨j, e, q1, q2, q⟩ := q1
  subst e
  cases r1 with
  | cons r rr =>
    cases rr
    obtain ⟨t, rfl⟩ := r
    exact call_range_1 (range_it I1 (by omega) (by omega) q1 q2 (by simpa using q))
theorem pi_range2 {a b : Expr} {ta : TA} {p pos : Pos} (hg : Gl X "range") (hm : X.mg "range" = none) (ha : PA X [a, b] ta) (hs : starEach [a, b] X.env = [(false, eval a X.env), (false, eval b X.env)] := by rfl) (hs2 : starEach [b] X.env = [(false, eval b X.env)] := by rfl) :
    PI X tg (.Call (.Name "range" p) [a, b] [] pos) (iRng2 ta) := by
  intro pins s σ H R I h
  refine Call_ (ld_blt I hg hm boot_range (PyProof.Rows.callWith_type1 (thn (ha pos pins s σ H _ I h) fun us s1 ⟨vs, H1, I1, r1, q1⟩ => ?_) (by rw [hs, hs2]) (by rw [hs2]; rfl)))
  obtain ⟨i, j, e, ⟨q1, q2, q3, q4⟩, q⟩ := q1
  subst e
  cases r1 with
  | cons r rr =>
    cases rr with
    | cons r' rr =>
      cases rr
      obtain ⟨t, rfl⟩ := r
      obtain ⟨t', rfl⟩ := r'
      exact call_range_2 (range_it I1 q1 q2 q3 q4 q)

def tFor (wi : TI) (g : TG) (tb : TS) : TS := fun D σ H => wi σ H fun J H1 => ∃ W : Nat → Nat → St → Hp → Prop, (∃ m, W 0 m σ H1) ∧ ∀ i m σ H, W i m σ H →
  (J.stop i H ∧ D.nx σ H) ∨ (J.go i H ∧ ∃ N : St → Hp → Prop, (∀ σ' H', N σ' H' → ∃ m', m' < m ∧ W (i + 1) m' σ' H') ∧ ∀ x H', J.yld i H x H' → g x σ H' fun σ2 H2 => tb { D with nx := N, ct := N, bk := D.nx } σ2 H2)
def pinsAt (fp : List Addr) (h : Heap) : List (Addr × Obj) := fp.filterMap fun b => (h.get? b).map fun o => (b, o)
theorem mem_pinsAt {fp : List Addr} {h : Heap} {b : Addr} {o : Obj} (hb : b ∈ fp) (e : h.get? b = some o) : (b, o) ∈ pinsAt fp h := List.mem_filterMap.mpr ⟨b, hb, by rw [e]; rfl⟩
theorem of_pinsAt {fp : List Addr} {h : Heap} {p : Addr × Obj} (hp : p ∈ pinsAt fp h) : p.1 ∈ fp ∧ h.get? p.1 = some p.2 := by
  obtain ⟨b, hb, e⟩ := List.mem_filterMap.mp hp
  cases q : h.get? b with
  | none => rw [q] at e; cases e
  | some o =>
    rw [q] at e
    have e' : (b, o) = p := Option.some.inj e
    subst e'
    exact ⟨hb, q⟩
theorem Inv.pinned {pins : List (Addr × Obj)} {σ : St} {H : Hp} {s : Shared} {fp : List Addr} (I : Inv X pins σ H s) (hf : ∀ b ∈ fp, FpOk X pins H b) (ho : ∀ b ∈ fp, ∃ o, s.heap.get? b = some o ∧ ∀ v, o.data ≠ .cell v) : Inv X (pins ++ pinsAt fp s.heap) σ H s :=
  I.pins_of fun p hp => (List.mem_append.mp hp).elim (fun z => I.pin p (List.mem_append_right _ z)) fun z => by
    obtain ⟨hb, e⟩ := of_pinsAt z
    obtain ⟨f0, f1, f2, _⟩ := hf p.1 hb
    obtain ⟨o, e', d⟩ := ho p.1 hb
    rw [e] at e'; cases e'
    exact ⟨e, f0, f1, f2, d⟩
theorem Inv.unpinned {pins pl : List (Addr × Obj)} {σ : St} {H : Hp} {s : Shared} (I : Inv X (pins ++ pl) σ H s) : Inv X pins σ H s := I.pins_of fun p hp => I.pin p (List.mem_append_right _ (List.mem_append_left _ hp))
theorem ps_for {iter : Expr} {body : List Stmt} {wi : TI} {g : TG} {tb : TS} {pos : Pos} (hp : PassesOwn (model X.prog X.w) X.A X.env X.xe) (hc : X.calm = true) (hi : PI X tg iter wi) (hg : PG X tg g) (hb : PSs X body tb)
    (hs : ∀ x, foldedSetIterable iter X.env x = pure x := by intro _; rfl) : PS X (.For tg iter body [] pos) (tFor wi g tb) := by
  intro pins s σ H D I h
  refine wpAny_For (thn (hi pins s σ H _ I h) fun v s1 h1 => thn h1 fun itv s2 h2 => ?_) hs
  obtain ⟨it, fp, tn, J, H2, e, I2, T, st2, f2, W, ⟨m0, w0⟩, turn⟩ := h2
  subst e
  -- what stays true of the iterator's objects through the loop
  have stat : ∀ {H' : Hp}, (∀ b ∈ fp, H' b = none) → ∀ b ∈ fp, FpOk X pins H' b := fun hn b hb => ⟨hn b hb, (f2 b hb).2⟩
  refine codeAny_forLoop_any (fun n s' => ∃ i σ' H', Inv X pins σ' H' s' ∧ tn i s'.heap ∧ (∀ b ∈ fp, H' b = none) ∧ W i n σ' H') ?_ m0 ⟨0, σ, H2, I2, st2, fun b hb => (f2 b hb).1, w0⟩
  rintro n s3 ⟨i, σ3, H3, I3, st3, fr3, w3⟩
  rcases turn i n σ3 H3 w3 with ⟨stop, qn⟩ | ⟨go, N, hN, step⟩
  · refine wpAny_passesOwn hp (thn (T.done X rfl rfl rfl hc i pins s3 σ3 H3 X.xe I3 (stat fr3) st3 stop) fun r s4 ⟨hr, I4⟩ => ?_)
    subst hr
    exact wpAny_execs_nil ⟨σ3, H3, I4, qn⟩
  · refine wpAny_passesOwn hp (thn (T.item X rfl rfl rfl hc i pins s3 σ3 H3 X.xe I3 (stat fr3) st3 go) fun r s4 ⟨u, hr, h4⟩ => ?_)
    subst hr
    refine wpAny_passesOwn hp (thn h4 fun _ s5 ⟨x, H5, I5, r5, y5, st5, fr5⟩ => ?_)
    have I5' := I5.pinned (stat fr5) (T.obj _ _ st5)
    refine wpAny_passesOwn hp (thn (hg _ s5 σ3 H5 x u _ I5' r5 (step x H5 y5)) fun _ s6 ⟨σ6, H6, I6, q6⟩ => ?_)
    refine wpAny_passesOwn hp (thn (hb _ s6 σ6 H6 _ I6 q6) fun f s7 q7 => ?_)
    have again : ∀ {σ7 : St} {H7 : Hp}, Inv X (pins ++ pinsAt fp s5.heap) σ7 H7 s7 → N σ7 H7 → ∃ m, m < n ∧ ∃ i σ' H', Inv X pins σ' H' s7 ∧ tn i s7.heap ∧ (∀ b ∈ fp, H' b = none) ∧ W i m σ' H' := fun {σ7 H7} I7 n7 => by
      obtain ⟨m', hm, w7⟩ := hN σ7 H7 n7
      refine ⟨m', hm, i + 1, σ7, H7, I7.unpinned, T.keep _ _ _ st5 fun b hb o e => (I7.pin (b, o) (List.mem_append_right _ (List.mem_append_right _ (mem_pinsAt hb e)))).1, fun b hb => ?_, w7⟩
      obtain ⟨o, e, d⟩ := T.obj _ _ st5 b hb
      exact (I7.pin (b, o) (List.mem_append_right _ (List.mem_append_right _ (mem_pinsAt hb e)))).2.1
    cases f with
    | next => obtain ⟨σ7, H7, I7, n7⟩ := q7; exact again I7 n7
    | cont => obtain ⟨σ7, H7, I7, n7⟩ := q7; exact again I7 n7
    | brk => obtain ⟨σ7, H7, I7, q7⟩ := q7; exact ⟨σ7, H7, I7.unpinned, q7⟩
    | ret v => obtain ⟨x7, σ7, H7, I7, r7, q7⟩ := q7; exact ⟨x7, σ7, H7, I7.unpinned, r7, q7⟩
end

theorem for_list {K : PySem.W.Frag} {a : Addr} {xs : List V} {g : TG} {tb : TS} {D : Ends} {σ : St} {H : Hp} (Pv : Nat → St → Hp → Prop) (h0 : Pv 0 σ H) (hl : ∀ i σ H, i ≤ xs.length → Pv i σ H → SqL K H a xs)
    (hs : ∀ i x σ H, xs[i]? = some x → Pv i σ H → g x σ H fun σ2 H2 => tb { D with nx := Pv (i + 1), ct := Pv (i + 1), bk := D.nx } σ2 H2) (hd : ∀ σ H, Pv xs.length σ H → D.nx σ H) :
    ∃ W : Nat → Nat → St → Hp → Prop, (∃ m, W 0 m σ H) ∧ ∀ i m σ H, W i m σ H →
      ((Itl K a).stop i H ∧ D.nx σ H) ∨ ((Itl K a).go i H ∧ ∃ N : St → Hp → Prop, (∀ σ' H', N σ' H' → ∃ m', m' < m ∧ W (i + 1) m' σ' H') ∧ ∀ x H', (Itl K a).yld i H x H' → g x σ H' fun σ2 H2 => tb { D with nx := N, ct := N, bk := D.nx } σ2 H2) := by
  refine ⟨fun i m σ H => m = xs.length - i ∧ i ≤ xs.length ∧ Pv i σ H, ⟨xs.length, by simp, Nat.zero_le _, h0⟩, ?_⟩
  rintro i m σ H ⟨rfl, hi, p⟩
  have q := hl i σ H hi p
  by_cases hlt : i < xs.length
  · refine .inr ⟨⟨xs, xs[i], q, by simp [hlt]⟩, Pv (i + 1), fun σ' H' p' => ⟨xs.length - (i + 1), by omega, rfl, hlt, p'⟩, fun x H' y => ?_⟩
    obtain ⟨e, y⟩ := y
    subst e
    exact hs i x σ _ (y xs q) p
  · have e : i = xs.length := by omega
    subst e
    exact .inl ⟨⟨xs, q, Nat.le_refl _⟩, hd σ H p⟩
theorem for_range {lo : Int} {n : Nat} {g : TG} {tb : TS} {D : Ends} {σ : St} {H : Hp} (Pv : Nat → St → Hp → Prop) (h0 : Pv 0 σ H)
    (hs : ∀ i σ H, i < n → Pv i σ H → g (.int (lo + i)) σ H fun σ2 H2 => tb { D with nx := Pv (i + 1), ct := Pv (i + 1), bk := D.nx } σ2 H2) (hd : ∀ σ H, Pv n σ H → D.nx σ H) :
    ∃ W : Nat → Nat → St → Hp → Prop, (∃ m, W 0 m σ H) ∧ ∀ i m σ H, W i m σ H →
      ((Itr lo n).stop i H ∧ D.nx σ H) ∨ ((Itr lo n).go i H ∧ ∃ N : St → Hp → Prop, (∀ σ' H', N σ' H' → ∃ m', m' < m ∧ W (i + 1) m' σ' H') ∧ ∀ x H', (Itr lo n).yld i H x H' → g x σ H' fun σ2 H2 => tb { D with nx := N, ct := N, bk := D.nx } σ2 H2) := by
  refine ⟨fun i m σ H => m = n - i ∧ i ≤ n ∧ Pv i σ H, ⟨n, by simp, Nat.zero_le _, h0⟩, ?_⟩
  rintro i m σ H ⟨rfl, hi, p⟩
  by_cases hlt : i < n
  · refine .inr ⟨hlt, Pv (i + 1), fun σ' H' p' => ⟨n - (i + 1), by omega, rfl, hlt, p'⟩, fun x H' y => ?_⟩
    obtain ⟨e, y⟩ := y
    subst e y
    exact hs i σ _ hlt p
  · have e : i = n := by omega
    subst e
    exact .inl ⟨Nat.le_refl _, hd σ H p⟩
end L2

namespace L2
open PySem PySem.Spec PyProof.Rows

abbrev R2 := V → V → Hp → VK → Prop
def OpR (X : Cx) (f : Value → Value → Sem Value) (r : R2) : Prop :=
  ∀ (pins : List (Addr × Obj)) (s : Shared) (σ : St) (H : Hp) (x y : V) (v u : Value) (Q : VK), Inv X pins σ H s → RelV x v → RelV y u → r x y H Q →
    wpAny (model X.prog X.w) X.A (f v u) (EP X pins σ Q) X.xe s
def UnR (X : Cx) (f : Value → Sem Value) (r : V → Hp → VK → Prop) : Prop :=
  ∀ (pins : List (Addr × Obj)) (s : Shared) (σ : St) (H : Hp) (x : V) (v : Value) (Q : VK), Inv X pins σ H s → RelV x v → r x H Q →
    wpAny (model X.prog X.w) X.A (f v) (EP X pins σ Q) X.xe s
def CallR (X : Cx) (f : Value) (r : List V → Hp → VK → Prop) : Prop :=
  ∀ (pins : List (Addr × Obj)) (s : Shared) (σ : St) (H : Hp) (xs : List V) (us : List Value) (Q : VK), Inv X pins σ H s → Vals xs us → r xs H Q →
    wpAny (model X.prog X.w) X.A (call f us) (EP X pins σ Q) X.xe s
def TruR (X : Cx) (r : V → Hp → (Bool → Hp → Prop) → Prop) : Prop :=
  ∀ (pins : List (Addr × Obj)) (s : Shared) (σ : St) (H : Hp) (x : V) (v : Value) (Q : Bool → Hp → Prop), Inv X pins σ H s → RelV x v → r x H Q →
    wpAny (model X.prog X.w) X.A (truthy v) (TP X pins σ Q) X.xe s

def tOp (r : R2) (ta tb : TE) : TE := fun σ H Q => ta σ H fun x H1 => tb σ H1 fun y H2 => r x y H2 Q
def tUn (r : V → Hp → VK → Prop) (ta : TE) : TE := fun σ H Q => ta σ H fun x H1 => r x H1 Q
def rI (C : Int → Int → Prop) (g : Int → Int → V) : R2 := fun x y H Q => ∃ i j, x = .int i ∧ y = .int j ∧ C i j ∧ Q (g i j) H
def rI0 (g : Int → Int → V) : R2 := fun x y H Q => ∃ i j, x = .int i ∧ y = .int j ∧ Q (g i j) H
def rU (g : Int → V) : V → Hp → VK → Prop := fun x H Q => ∃ i, x = .int i ∧ Q (g i) H

section
variable {X : Cx} {a b c : Expr} {ta tb tc : TE} {pos : Pos}

theorem binT (ha : PE X a ta) (hb : PE X b tb) {pins : List (Addr × Obj)} {s : Shared} {σ : St} {H : Hp} {R : V → V → Hp → Prop} (I : Inv X pins σ H s)
    (h : ta σ H fun x H1 => tb σ H1 fun y H2 => R x y H2) {Q : Value → Shared → Prop} {f : Value → Value → Sem Value}
    (hf : ∀ v u s2 x y H2, Inv X pins σ H2 s2 → RelV x v → RelV y u → R x y H2 → wpAny (model X.prog X.w) X.A (f v u) Q X.xe s2) :
    wpAny (model X.prog X.w) X.A (eval a X.env) (fun v s₁ => wpAny (model X.prog X.w) X.A (eval b X.env) (fun u s₂ => wpAny (model X.prog X.w) X.A (f v u) Q X.xe s₂) X.xe s₁) X.xe s := by
  refine thn (ha pins s σ H _ I h) fun v s1 ⟨x, H1, I1, r1, q1⟩ => ?_
  refine thn (hb pins s1 σ H1 _ I1 q1) fun u s2 ⟨y, H2, I2, r2, q2⟩ => ?_
  exact hf v u s2 x y H2 I2 r1 r2 q2

theorem pe_op {op : Operator} {r : R2} (ho : OpR X (binaryOp op) r) (ha : PE X a ta) (hb : PE X b tb) : PE X (.BinOp a op b pos) (tOp r ta tb) := by
  intro pins s σ H Q I h
  exact wpAny_BinOp (binT ha hb I h fun v u s2 x y H2 I2 rx ry q => ho pins s2 σ H2 x y v u Q I2 rx ry q)
theorem pe_un {op : UnaryOp} {r : V → Hp → VK → Prop} (ho : UnR X (unaryOp op) r) (ha : PE X a ta) : PE X (.UnaryOp op a pos) (tUn r ta) := by
  intro pins s σ H Q I h
  exact UnaryOp_ (thn (ha pins s σ H _ I h) fun v s1 ⟨x, H1, I1, r1, q1⟩ => ho pins s1 σ H1 x v Q I1 r1 q1)
theorem opI {f : Value → Value → Sem Value} {C : Int → Int → Prop} {g : Int → Int → Int}
    (rule : ∀ (i j : Int) (t u : Tok) (s : Shared) (Q : Value → Shared → Prop) (E : Value → Shared → Prop), C i j → Q (.int (g i j) s.toks) { s with toks := s.toks + 1 } → wpAny (model X.prog X.w) X.A (f (.int i t) (.int j u)) Q E s) :
    OpR X f (rI C fun i j => .int (g i j)) := by
  intro pins s σ H x y v u Q I rx ry h
  obtain ⟨i, j, rfl, rfl, hc, q⟩ := h
  obtain ⟨t, rfl⟩ := rx
  obtain ⟨t', rfl⟩ := ry
  exact rule i j t t' s _ _ hc ⟨.int (g i j), H, I.tok _, ⟨_, rfl⟩, q⟩
theorem opI0 {f : Value → Value → Sem Value} {g : Int → Int → Int}
    (rule : ∀ (i j : Int) (t u : Tok) (s : Shared) (Q : Value → Shared → Prop) (E : Value → Shared → Prop), Q (.int (g i j) s.toks) { s with toks := s.toks + 1 } → wpAny (model X.prog X.w) X.A (f (.int i t) (.int j u)) Q E s) :
    OpR X f (rI0 fun i j => .int (g i j)) := by
  intro pins s σ H x y v u Q I rx ry h
  obtain ⟨i, j, rfl, rfl, q⟩ := h
  obtain ⟨t, rfl⟩ := rx
  obtain ⟨t', rfl⟩ := ry
  exact rule i j t t' s _ _ ⟨.int (g i j), H, I.tok _, ⟨_, rfl⟩, q⟩
theorem opB0 {f : Value → Value → Sem Value} {g : Int → Int → Bool}
    (rule : ∀ (i j : Int) (t u : Tok) (s : Shared) (Q : Value → Shared → Prop) (E : Value → Shared → Prop), Q (.bool (g i j)) s → wpAny (model X.prog X.w) X.A (f (.int i t) (.int j u)) Q E s) :
    OpR X f (rI0 fun i j => .bl (g i j)) := by
  intro pins s σ H x y v u Q I rx ry h
  obtain ⟨i, j, rfl, rfl, q⟩ := h
  obtain ⟨t, rfl⟩ := rx
  obtain ⟨t', rfl⟩ := ry
  exact rule i j t t' s _ _ ⟨.bl (g i j), H, I, rfl, q⟩

def CDiv (i j : Int) : Prop := 0 < j ∧ j < 1073741824
def CPow (i j : Int) : Prop := 0 ≤ j ∧ j ≤ 1000000 ∧ i.natAbs < 2 ^ 64
def CMul (i j : Int) : Prop := (-(2 ^ 64) < i ∧ i < 2 ^ 64) ∨ (-(2 ^ 64) < j ∧ j < 2 ^ 64)
theorem CMul.ok {i j : Int} (h : CMul i j) : IntMulOk i j := by
  rcases h with ⟨h1, h2⟩ | ⟨h1, h2⟩
  · exact .of_left (intBits_le_64 h1 h2)
  · exact .of_right (intBits_le_64 h1 h2)
theorem op_add : OpR X (binaryOp .Add) (rI0 fun i j => .int (i + j)) := opI0 fun _ _ _ _ _ _ _ q => add_int q
theorem op_sub : OpR X (binaryOp .Sub) (rI0 fun i j => .int (i - j)) := opI0 fun _ _ _ _ _ _ _ q => sub_int q
theorem op_mul : OpR X (binaryOp .Mult) (rI CMul fun i j => .int (i * j)) := opI fun _ _ _ _ _ _ _ hc q => mul_int q hc.ok
theorem op_fdiv : OpR X (binaryOp .FloorDiv) (rI CDiv fun i j => .int (i / j)) := opI fun i j _ _ _ _ _ hc q => by
  have h1 : (0 : Int) < j := hc.1
  have h2 : j < 1073741824 := hc.2
  exact floordiv_int (by omega) (by rw [Int.fdiv_eq_ediv_of_nonneg i (by omega)]; exact q) (.inl (PyProof.noPylong_small (by omega)))
theorem op_mod : OpR X (binaryOp .Mod) (rI (fun _ j => 0 < j) fun i j => .int (i % j)) := opI fun i j _ _ _ _ _ hc q => by
  have h1 : (0 : Int) < j := hc
  exact mod_int' (by omega) (by rw [Int.fmod_eq_emod_of_nonneg i (by omega)]; exact q)
theorem op_pow : OpR X (binaryOp .Pow) (rI CPow fun i j => .int (i ^ j.toNat)) := opI fun _ _ _ _ _ _ _ hc q => pow_int_small hc.1 hc.2.1 hc.2.2 q
theorem unI {f : Value → Sem Value} {g : Int → Int}
    (rule : ∀ (i : Int) (t : Tok) (s : Shared) (Q : Value → Shared → Prop) (E : Value → Shared → Prop), Q (.int (g i) s.toks) { s with toks := s.toks + 1 } → wpAny (model X.prog X.w) X.A (f (.int i t)) Q E s) :
    UnR X f (rU fun i => .int (g i)) := by
  intro pins s σ H x v Q I rx h
  obtain ⟨i, rfl, q⟩ := h
  obtain ⟨t, rfl⟩ := rx
  exact rule i t s _ _ ⟨.int (g i), H, I.tok _, ⟨_, rfl⟩, q⟩
theorem un_neg : UnR X (unaryOp .USub) (rU fun i => .int (-i)) := unI fun _ _ _ _ _ q => neg_int q
end

def scal : V → V → Bool
  | .non, .non => true | .non, .int _ => true | .int _, .non => true | .non, .bl _ => true | .bl _, .non => true | .non, .str _ => true | .str _, .non => true
  | .int _, .int _ => true | .bl _, .bl _ => true | .str _, .str _ => true | .byt _, .byt _ => true
  | .int _, .str _ => true | .str _, .int _ => true | .bl _, .str _ => true | .str _, .bl _ => true
  | _, _ => false
def rEq : R2 := fun x y H Q => scal x y = true ∧ Q (.bl (decide (x = y))) H
def rNe : R2 := fun x y H Q => scal x y = true ∧ Q (.bl (!decide (x = y))) H

theorem dec_int {i j : Int} : decide (V.int i = V.int j) = (i == j) := by
  rw [Bool.eq_iff_iff]
  simp
theorem dec_bl {i j : Bool} : decide (V.bl i = V.bl j) = (i == j) := by
  rw [Bool.eq_iff_iff]
  simp
theorem dec_str {i j : Str} : decide (V.str i = V.str j) = (i == j) := by
  rw [Bool.eq_iff_iff]
  simp
theorem dec_byt {i j : Array UInt8} : decide (V.byt i = V.byt j) = (i.toList == j.toList) := by
  rw [Bool.eq_iff_iff]
  cases i
  cases j
  simp

section
variable {X : Cx} {a b c : Expr} {ta tb tc : TE} {pos : Pos}
theorem fin_bl {pins : List (Addr × Obj)} {σ : St} {H : Hp} {s : Shared} {Q : VK} {k k' : Bool} (I : Inv X pins σ H s) (q : Q (.bl k) H) (e : k = k') : EP X pins σ Q (.bool k') s := by
  subst e
  exact ⟨.bl k, H, I, rfl, q⟩
theorem op_eq : OpR X (compareOp .Eq) rEq := by
  intro pins s σ H x y v u Q I rx ry h
  obtain ⟨hs, q⟩ := h
  cases x with
  | non =>
    cases rx
    cases y with
    | non => cases ry; exact PySem.EqNone.eq_none_none (fin_bl I q (by simp))
    | bl j => cases ry; exact PySem.EqNone.eq_none_bool (fin_bl I q (by simp))
    | int j => obtain ⟨t', rfl⟩ := ry; exact PySem.EqNone.eq_none_int (fin_bl I q (by simp))
    | str j => obtain ⟨t', rfl⟩ := ry; exact PySem.EqNone.eq_none_str (fin_bl I q (by simp))
    | _ => exact absurd (show false = true from hs) Bool.false_ne_true
  | bl i =>
    cases rx
    cases y with
    | non => cases ry; exact PySem.EqNone.eq_bool_none (fin_bl I q (by simp))
    | bl j => cases ry; exact eq_bool (fin_bl I q dec_bl)
    | str j => obtain ⟨t', rfl⟩ := ry; exact PySem.EqMixed.eq_bool_str (fin_bl I q (by simp))
    | _ => exact absurd (show false = true from hs) Bool.false_ne_true
  | int i =>
    obtain ⟨t, rfl⟩ := rx
    cases y with
    | non => cases ry; exact PySem.EqNone.eq_int_none (fin_bl I q (by simp))
    | int j => obtain ⟨t', rfl⟩ := ry; exact eq_int (fin_bl I q dec_int)
    | str j => obtain ⟨t', rfl⟩ := ry; exact PySem.EqMixed.eq_int_str (fin_bl I q (by simp))
    | _ => exact absurd (show false = true from hs) Bool.false_ne_true
  | str i =>
    obtain ⟨t, rfl⟩ := rx
    cases y with
    | non => cases ry; exact PySem.EqNone.eq_str_none (fin_bl I q (by simp))
    | bl j => cases ry; exact PySem.EqMixed.eq_str_bool (fin_bl I q (by simp))
    | int j => obtain ⟨t', rfl⟩ := ry; exact PySem.EqMixed.eq_str_int (fin_bl I q (by simp))
    | str j => obtain ⟨t', rfl⟩ := ry; exact eq_str (fin_bl I q dec_str)
    | _ => exact absurd (show false = true from hs) Bool.false_ne_true
  | byt i =>
    obtain ⟨t, rfl⟩ := rx
    cases y with
    | byt j => obtain ⟨t', rfl⟩ := ry; exact PySem.W.eq_bytes (fin_bl I q dec_byt)
    | _ => exact absurd (show false = true from hs) Bool.false_ne_true
  | _ => cases y <;> exact absurd (show false = true from hs) Bool.false_ne_true
theorem op_ne : OpR X (compareOp .NotEq) rNe := by
  intro pins s σ H x y v u Q I rx ry h
  obtain ⟨hs, q⟩ := h
  cases x with
  | non =>
    cases rx
    cases y with
    | non => cases ry; exact PySem.EqNone.ne_none_none (fin_bl I q (by simp))
    | bl j => cases ry; exact PySem.EqNone.ne_none_bool (fin_bl I q (by simp))
    | int j => obtain ⟨t', rfl⟩ := ry; exact PySem.EqNone.ne_none_int (fin_bl I q (by simp))
    | str j => obtain ⟨t', rfl⟩ := ry; exact PySem.EqNone.ne_none_str (fin_bl I q (by simp))
    | _ => exact absurd (show false = true from hs) Bool.false_ne_true
  | bl i =>
    cases rx
    cases y with
    | non => cases ry; exact PySem.EqNone.ne_bool_none (fin_bl I q (by simp))
    | bl j => cases ry; exact ne_bool (fin_bl I q (congrArg not dec_bl))
    | str j => obtain ⟨t', rfl⟩ := ry; exact PySem.EqMixed.ne_bool_str (fin_bl I q (by simp))
    | _ => exact absurd (show false = true from hs) Bool.false_ne_true
  | int i =>
    obtain ⟨t, rfl⟩ := rx
    cases y with
    | non => cases ry; exact PySem.EqNone.ne_int_none (fin_bl I q (by simp))
    | int j => obtain ⟨t', rfl⟩ := ry; exact ne_int (fin_bl I q (congrArg not dec_int))
    | str j => obtain ⟨t', rfl⟩ := ry; exact PySem.EqMixed.ne_int_str (fin_bl I q (by simp))
    | _ => exact absurd (show false = true from hs) Bool.false_ne_true
  | str i =>
    obtain ⟨t, rfl⟩ := rx
    cases y with
    | non => cases ry; exact PySem.EqNone.ne_str_none (fin_bl I q (by simp))
    | bl j => cases ry; exact PySem.EqMixed.ne_str_bool (fin_bl I q (by simp))
    | int j => obtain ⟨t', rfl⟩ := ry; exact PySem.EqMixed.ne_str_int (fin_bl I q (by simp))
    | str j => obtain ⟨t', rfl⟩ := ry; exact ne_str (fin_bl I q (congrArg not dec_str))
    | _ => exact absurd (show false = true from hs) Bool.false_ne_true
  | byt i =>
    obtain ⟨t, rfl⟩ := rx
    cases y with
    | byt j => obtain ⟨t', rfl⟩ := ry; exact PySem.W.ne_bytes (fin_bl I q (congrArg not dec_byt))
    | _ => exact absurd (show false = true from hs) Bool.false_ne_true
  | _ => cases y <;> exact absurd (show false = true from hs) Bool.false_ne_true

theorem op_lt : OpR X (compareOp .Lt) (rI0 fun i j => .bl (decide (i < j))) := opB0 fun _ _ _ _ _ _ _ q => lt_int q
theorem op_le : OpR X (compareOp .LtE) (rI0 fun i j => .bl (decide (i ≤ j))) := opB0 fun _ _ _ _ _ _ _ q => le_int q
theorem op_gt : OpR X (compareOp .Gt) (rI0 fun i j => .bl (decide (j < i))) := opB0 fun _ _ _ _ _ _ _ q => gt_int q
theorem op_ge : OpR X (compareOp .GtE) (rI0 fun i j => .bl (decide (j ≤ i))) := opB0 fun _ _ _ _ _ _ _ q => ge_int q
theorem op_in_str : OpR X (compareOp .In) (fun x y H Q => ∃ i j, x = .str i ∧ y = .str j ∧ Q (.bl (!(Builtin.Str.occurrences j i 0 j.length 1).isEmpty)) H) := by
  intro pins s σ H x y v u Q I rx ry h
  obtain ⟨i, j, rfl, rfl, q⟩ := h
  obtain ⟨t, rfl⟩ := rx
  obtain ⟨t', rfl⟩ := ry
  exact in_str (fin_bl I q rfl)

theorem op_isN : OpR X (compareOp .Is) (fun x y H Q => y = .non ∧ Q (.bl (decide (x = .non))) H) := by
  intro pins s σ H x y v u Q I rx ry h
  obtain ⟨rfl, q⟩ := h
  cases ry
  refine is_none_gen (fin_bl I q ?_)
  cases x <;> first
    | (cases rx; rfl)
    | (obtain ⟨t, rfl⟩ := rx; rfl)
theorem op_notin_str : OpR X (compareOp .NotIn) (fun x y H Q => ∃ i j, x = .str i ∧ y = .str j ∧ Q (.bl (!(!(Builtin.Str.occurrences j i 0 j.length 1).isEmpty))) H) := by
  intro pins s σ H x y v u Q I rx ry h
  obtain ⟨i, j, rfl, rfl, q⟩ := h
  obtain ⟨t, rfl⟩ := rx
  obtain ⟨t', rfl⟩ := ry
  exact notIn_str (fin_bl I q rfl)
theorem nomark (b : Expr) {op : CmpOp} (h : op ≠ .In := by decide) (h2 : op ≠ .NotIn := by decide) : behindInMarks op b = false := by
  have e1 : (op == CmpOp.In) = false := by cases op <;> first | rfl | exact absurd rfl h
  have e2 : (op == CmpOp.NotIn) = false := by cases op <;> first | rfl | exact absurd rfl h2
  cases b <;> simp [behindInMarks, e1, e2]
theorem pe_cmpR {op : CmpOp} {r : R2} (ho : OpR X (compareOp op) r) (ha : PE X a ta) (hb : PE X b tb) (hm : behindInMarks op b = false) : PE X (.Compare a [op] [b] pos) (tOp r ta tb) := by
  intro pins s σ H Q I h
  exact wpAny_Compare1 (binT ha hb I h fun v u s2 x y H2 I2 rx ry q => ho pins s2 σ H2 x y v u Q I2 rx ry q) hm
def tTest (t : TE) : TT := fun σ H Q => t σ H fun x H' => ∃ k, x = .bl k ∧ Q k H'
theorem pt_cmpR {op : CmpOp} {r : R2} (ho : OpR X (compareOp op) r) (ha : PE X a ta) (hb : PE X b tb) (hm : behindInMarks op b = false) : PT X (.Compare a [op] [b] pos) (tTest (tOp r ta tb)) := by
  intro pins s σ H Q I h
  refine wpAny_isTrue_Compare1 (thn (ha pins s σ H _ I h) fun v s1 ⟨x, H1, I1, r1, q1⟩ => thn (hb pins s1 σ H1 _ I1 q1) fun u s2 ⟨y, H2, I2, r2, q2⟩ =>
    thn (ho pins s2 σ H2 x y v u _ I2 r1 r2 q2) fun c s3 ⟨z, H3, I3, r3, k, e, q3⟩ => ?_) hm
  subst e
  cases r3
  exact wpAny_truthy_bool ⟨H3, I3, q3⟩
def tChain (r r' : R2) (ta tb tc : TE) : TE := fun σ H Q => ta σ H fun x H1 => tb σ H1 fun y H2 => r x y H2 fun z H3 => ∃ k, z = .bl k ∧
  (if k = true then tc σ H3 fun w' H4 => r' y w' H4 Q else Q (.bl false) H3)
theorem pe_chain {op op' : CmpOp} {r r' : R2} (ho : OpR X (compareOp op) r) (ho' : OpR X (compareOp op') r') (ha : PE X a ta) (hb : PE X b tb) (hc : PE X c tc)
    (hm : lastMarks [op, op'] [b, c] = false := by with_unfolding_all rfl) : PE X (.Compare a [op, op'] [b, c] pos) (tChain r r' ta tb tc) := by
  intro pins s σ H Q I h
  refine Compare_chain (thn (ha pins s σ H _ I h) fun v s1 ⟨x, H1, I1, r1, q1⟩ => chain_link (thn (hb pins s1 σ H1 _ I1 q1) fun u s2 ⟨y, H2, I2, r2, q2⟩ =>
    thn (ho pins s2 σ H2 x y v u _ I2 r1 r2 q2) fun d s3 ⟨z, H3, I3, r3, k, e, q3⟩ => ?_)) hm
  subst e
  cases r3
  refine wpAny_truthy_bool ?_
  cases k with
  | false => exact ite_ff ⟨.bl false, H3, I3, rfl, q3⟩
  | true => exact ite_tt (chain_last (thn (hc pins s3 σ H3 _ I3 q3) fun w' s4 ⟨z', H4, I4, r4, q4⟩ => ho' pins s4 σ H4 y z' u w' Q I4 r2 r4 q4))
theorem pt_chain {op op' : CmpOp} {r r' : R2} (ho : OpR X (compareOp op) r) (ho' : OpR X (compareOp op') r') (ha : PE X a ta) (hb : PE X b tb) (hc : PE X c tc)
    (hm : lastMarks [op, op'] [b, c] = false := by with_unfolding_all rfl) : PT X (.Compare a [op, op'] [b, c] pos) (tTest (tChain r r' ta tb tc)) := by
  intro pins s σ H Q I h
  refine isTrue_chain (thn (ha pins s σ H _ I h) fun v s1 ⟨x, H1, I1, r1, q1⟩ => test_link (thn (hb pins s1 σ H1 _ I1 q1) fun u s2 ⟨y, H2, I2, r2, q2⟩ =>
    thn (ho pins s2 σ H2 x y v u _ I2 r1 r2 q2) fun d s3 ⟨z, H3, I3, r3, k, e, q3⟩ => ?_)) hm
  subst e
  cases r3
  refine wpAny_truthy_bool ?_
  cases k with
  | false =>
    obtain ⟨k', e', q'⟩ := q3
    cases e'
    exact ite_ff ⟨H3, I3, q'⟩
  | true =>
    refine ite_tt (test_last (thn (hc pins s3 σ H3 _ I3 q3) fun w' s4 ⟨z', H4, I4, r4, q4⟩ => thn (ho' pins s4 σ H4 y z' u w' _ I4 r2 r4 q4) fun d' s5 ⟨z2, H5, I5, r5, k2, e2, q5⟩ => ?_))
    subst e2
    cases r5
    exact wpAny_truthy_bool ⟨H5, I5, q5⟩

def TruV (K : PySem.W.Frag) (x : V) (H : Hp) (k : Bool) : Prop :=
  match x with
  | .non => k = false
  | .bl b => k = b
  | .int i => k = (i != 0)
  | .str y => y.length ≤ sizeLine ∧ k = ((y.length : Int) != 0)
  | .byt y => y.size ≤ sizeLine ∧ k = ((y.size : Int) != 0)
  | .ref p => (∃ xs, SqL K H p xs ∧ k = !xs.isEmpty) ∨ (∃ xs, SqT K H p xs ∧ k = !xs.isEmpty) ∨ ∃ kvs, H p = some (.dK kvs) ∧ k = !kvs.isEmpty
  | _ => False
theorem isEmpty_kv {κ : Type} {kvs : List (κ × V)} {vs : List (κ × Value)} (r : KV kvs vs) : (!vs.isEmpty) = !kvs.isEmpty := by
  cases r <;> rfl
theorem isEmpty_of {xs : List V} {its : List Value} (r : Vals xs its) : (!its.toArray.isEmpty) = !xs.isEmpty := by
  cases r <;> simp
theorem line63 : (sizeLine : Nat) < 2 ^ 63 := by rw [sizeLine_eq]; decide
theorem tru_ok : TruR X (fun x H Q => ∃ k, TruV X.K x H k ∧ Q k H) := by
  intro pins s σ H x v Q I rx h
  obtain ⟨k, e, q⟩ := h
  have hl := line63
  have hs : sizeLine = 16777216 := sizeLine_eq
  cases x with
  | non =>
    cases rx
    have e' : k = false := e
    subst e'
    exact truthy_none ⟨H, I, q⟩
  | bl b =>
    cases rx
    have e' : k = b := e
    subst e'
    exact wpAny_truthy_bool ⟨H, I, q⟩
  | int i =>
    obtain ⟨t, rfl⟩ := rx
    have e' : k = (i != 0) := e
    subst e'
    exact PySem.P.truthy_int ⟨H, I, q⟩
  | str y =>
    obtain ⟨t, rfl⟩ := rx
    obtain ⟨hy, e'⟩ : y.length ≤ sizeLine ∧ k = ((y.length : Int) != 0) := e
    subst e'
    exact PySem.P.truthy_str (by omega) ⟨H, I.tok _, q⟩
  | byt y =>
    obtain ⟨t, rfl⟩ := rx
    obtain ⟨hy, e'⟩ : y.size ≤ sizeLine ∧ k = ((y.size : Int) != 0) := e
    subst e'
    exact PySem.W.truthy_bytes (by omega) ⟨H, I.tok _, q⟩
  | ref p =>
    cases rx
    have e' : (∃ xs, SqL X.K H p xs ∧ k = !xs.isEmpty) ∨ (∃ xs, SqT X.K H p xs ∧ k = !xs.isEmpty) ∨ ∃ kvs, H p = some (.dK kvs) ∧ k = !kvs.isEmpty := e
    rcases e' with ⟨xs, hx, e'⟩ | ⟨xs, hx, e'⟩ | ⟨kvs, hx, e'⟩
    · subst e'
      obtain ⟨its, r, pl, hz⟩ := I.list hx
      have hlen := r.length
      exact wpAny_truthy_list pl.isList (by simp only [List.size_toArray]; omega) ⟨H, I.tok _, by rw [isEmpty_of r]; exact q⟩
    · subst e'
      obtain ⟨its, r, pl, hz⟩ := I.tuple hx
      have hlen := r.length
      exact truthy_tuple pl (by simp only [List.size_toArray]; omega) ⟨H, I.tok _, by rw [isEmpty_of r]; exact q⟩
    · subst e'
      obtain ⟨hz, hS, vs, r, m⟩ : kvs.length ≤ sizeLine ∧ (p == sysModules) = false ∧ ∃ vs, KV kvs vs ∧ s.heap.DictOf (mixKind X.prog X.w) p vs := I.hok p _ hx
      have hlen : kvs.length = vs.length := Paired.length r
      exact wpAny_truthy_dict hS m (by omega) ⟨H, I.tok _, by rw [isEmpty_kv r]; exact q⟩
  | _ => exact (show False from e).elim
theorem pt_truth (ha : PE X a ta) (he : ∀ whole, isTrue a X.env whole = (do let v ← whole; standAt a.pos; holding [v] (truthy v))) :
    PT X a (fun σ H Q => ta σ H fun x H' => ∃ k, TruV X.K x H' k ∧ Q k H') := by
  intro pins s σ H Q I h
  exact isTrue_plain (thn (ha pins s σ H _ I h) fun v s1 ⟨x, H1, I1, r1, q1⟩ => tru_ok pins s1 σ H1 x v Q I1 r1 q1) (he _)

theorem op_add_str : OpR X (binaryOp .Add) (fun x y H Q => ∃ i j, x = .str i ∧ y = .str j ∧ i.length + j.length ≤ sizeLine ∧ Q (.str (i ++ j)) H) := by
  intro pins s σ H x y v u Q I rx ry h
  obtain ⟨i, j, rfl, rfl, hz, q⟩ := h
  obtain ⟨t, rfl⟩ := rx
  obtain ⟨t', rfl⟩ := ry
  exact add_str (fun t' tk => ⟨.str (i ++ j), H, I.tok _, ⟨_, rfl⟩, q⟩) hz
theorem vals1 {x : V} {us : List Value} (r : Vals [x] us) : ∃ u, us = [u] ∧ RelV x u := by
  cases r with
  | cons r1 r2 => cases r2; exact ⟨_, rfl, r1⟩
theorem vals2 {x y : V} {us : List Value} (r : Vals [x, y] us) : ∃ u w', us = [u, w'] ∧ RelV x u ∧ RelV y w' := by
  cases r with
  | cons r1 r2 =>
    cases r2 with
    | cons r3 r4 => cases r4; exact ⟨_, _, rfl, r1, r3⟩
theorem call_min2 (hc : X.calm = true) : CallR X (.builtin "min") (fun xs H Q => ∃ i j, xs = [.int i, .int j] ∧ Q (.int (if j < i then j else i)) H) := by
  intro pins s σ H xs us Q I r h
  obtain ⟨i, j, rfl, q⟩ := h
  obtain ⟨u, w', rfl, ⟨t, rfl⟩, ⟨t', rfl⟩⟩ := vals2 r
  refine min_two_ints (I.ok.hd hc) fun h' tk k => ⟨_, H, I.kept k, ?_, q⟩
  by_cases hj : j < i
  · rw [if_pos hj, if_pos hj]; exact ⟨_, rfl⟩
  · rw [if_neg hj, if_neg hj]; exact ⟨_, rfl⟩
theorem call_int1 : CallR X (.type "int") (fun xs H Q => (∃ i, xs = [.int i] ∧ Q (.int i) H) ∨ ∃ k, xs = [.bl k] ∧ Q (.int (if k then 1 else 0)) H) := by
  intro pins s σ H xs us Q I r h
  rcases h with ⟨i, rfl, q⟩ | ⟨k, rfl, q⟩
  · obtain ⟨u, rfl, t, rfl⟩ := vals1 r
    exact call_int_int ⟨.int i, H, I, ⟨_, rfl⟩, q⟩
  · obtain ⟨u, rfl, r1⟩ := vals1 r
    cases r1
    exact call_int_bool ⟨.int (if k then 1 else 0), H, I.tok _, ⟨_, rfl⟩, q⟩
theorem call_str_int : CallR X (.type "str") (fun xs H Q => ∃ i, xs = [.int i] ∧ i.natAbs.log2 < 1920 ∧ Q (.str (toString i)) H) := by
  intro pins s σ H xs us Q I r h
  obtain ⟨i, rfl, hz, q⟩ := h
  obtain ⟨u, rfl, t, rfl⟩ := vals1 r
  exact PySem.P.str_of_int hz ⟨.str _, H, I.tok _, ⟨_, rfl⟩, q⟩
end
end L2

namespace L2
open PySem PySem.Spec PyProof.Rows

section
variable {prog : Program} {w : World} {A : Around} {E : Value → Shared → Prop} {s : Shared} {K : PySem.W.Frag} {x dx C f : Addr} {mA : Str → Option Value} {name : Str} {v : Value}

end

section
variable {P : Program} {w : World} {H H' : Hp} {h h' : Heap} {a C dx : Addr} {fs fs' : List (Str × V)}
end

section
variable {X : Cx} {pins : List (Addr × Obj)} {σ : St} {H : Hp} {s : Shared} {a C dx : Addr} {fs : List (Str × V)} {f : Str} {v : V} {A : Around} {E : Value → Shared → Prop}

end

section
variable {X : Cx} {o e value : Expr} {f : Str} {pos pos' tpos : Pos} {ta tv : TE}
end

section
variable {X : Cx} {pins : List (Addr × Obj)} {σ : St} {H : Hp} {s : Shared} {A : Around} {E : Value → Shared → Prop} {Q : Value → Shared → Prop} {c : Value} {b : Bool}
end
end L2

namespace L2
open PySem PySem.Spec PyProof.Rows

structure Room (k : Nat) (A : Around) : Prop where
  hd : A.handled = none
  dp : A.depth + 3 * k + 5 < recursionLimit
  un : A.units + 16 * k + 200 < cLine
theorem Room.mono {j k : Nat} {A : Around} (r : Room k A) (h : j ≤ k) : Room j A := ⟨r.hd, by have := r.dp; omega, by have := r.un; omega⟩
theorem Room.deeper {k : Nat} {A : Around} (r : Room (k + 1) A) (env : Env) : Room k (A.deeper env) :=
  ⟨r.hd, by have := r.dp; show A.depth + 1 + 3 * k + 5 < _; omega, by have := r.un; show A.units + 3 + 16 * k + 200 < _; omega⟩
theorem Room.depth {k : Nat} {A : Around} (r : Room k A) : A.depth < recursionLimit := by have := r.dp; omega
theorem Room.units {k : Nat} {A : Around} (r : Room k A) : A.units + 64 < cLine := by have := r.un; omega
def tNil : TA := fun _ H Q => Q [] H
def tCons (ta : TE) (tr : TA) : TA := fun σ H Q => ta σ H fun x H1 => tr σ H1 fun xs H2 => Q (x :: xs) H2
section
variable {X : Cx} {e : Expr} {es : List Expr} {te : TE} {t : TA} {pos : Pos}
theorem pa_nil : PA X [] tNil := fun _ _ _ _ H Q I h => Calls.spliced_nil ⟨[], H, I, .nil, h⟩
theorem pa_cons (ha : PE X e te) (hr : PA X es t) (hs : starEach (e :: es) X.env = (false, eval e X.env) :: starEach es X.env := by rfl) : PA X (e :: es) (tCons te t) := by
  intro pos pins s σ H Q I h
  rw [hs]
  show wpAny _ _ (spliced ((false, eval e X.env) :: backTo pos (starEach es X.env))) _ _ s
  refine Calls.spliced_cons (thn (ha pins s σ H _ I h) fun u s1 ⟨x, H1, I1, r1, q1⟩ => ?_)
  exact thn (hr pos pins s1 σ H1 _ I1 q1) fun us s2 ⟨xs, H2, I2, r2, q2⟩ => ⟨x :: xs, H2, I2, .cons r1 r2, q2⟩

def tTup (t : TA) : TE := fun σ H Q => t σ H fun xs H1 => xs.length ≤ sizeLine ∧ ∀ p, H1 p = none → Q (.ref p) (upd H1 p (.tup xs))
def tLst (t : TA) : TE := fun σ H Q => t σ H fun xs H1 => xs.length ≤ sizeLine ∧ ∀ p, H1 p = none → Q (.ref p) (upd H1 p (.lst xs))
theorem pe_tup {x1} (h : PA X es t) : PE X (.Tuple es x1 pos) (tTup t) := by
  intro pins s σ H Q I hq
  refine wpAny_Tuple_spliced (thn (h pos pins s σ H _ I hq) fun us s1 ⟨xs, H1, I1, r, z, q⟩ => ⟨by rw [← r.length]; exact z, ?_⟩)
  have hf : H1 s1.heap.objs.size = none := I1.hok.fresh (Nat.le_refl _)
  refine ⟨.ref s1.heap.objs.size, upd H1 s1.heap.objs.size (.tup xs), I1.laid (t' := s1.toks) (fun b u e => Heap.get?_push_of_some _ e) (Nat.le_refl _) ?_, rfl, q _ hf⟩
  exact ⟨z, us, r, ⟨_, Heap.get?_push_size _ rfl, rfl, _, rfl⟩⟩
theorem pe_lst (h : PA X es t) : PE X (.List es pos) (tLst t) := by
  intro pins s σ H Q I hq
  refine wpAny_List_spliced (thn (h pos pins s σ H _ I hq) fun us s1 ⟨xs, H1, I1, r, z, q⟩ => ⟨by rw [← r.length]; exact z, ?_⟩)
  have hf : H1 s1.heap.objs.size = none := I1.hok.fresh (Nat.le_refl _)
  refine ⟨.ref s1.heap.objs.size, upd H1 s1.heap.objs.size (.lst xs), I1.laid (t' := s1.toks) (fun b u e => Heap.get?_push_of_some _ e) (Nat.le_refl _) ?_, rfl, q _ hf⟩
  exact ⟨z, us, 0, r, Heap.get?_push_size _ rfl⟩
end

abbrev Sp := List V → Hp → VK → XK → Prop
abbrev CXT := List Env → Hp → Shared → XK → Value → Shared → Prop

structure Env0 (P : Program) (w : World) (K : PySem.W.Frag) (mg : Str → Option Value) (base : Heap) (A : Around) (outer : List Env) (s : Shared) (H : Hp) : Prop where
  frames : A.frames = some outer
  mod : Mod K mg base
  bs : ∀ b o, base.get? b = some o → s.heap.get? b = some o ∧ H b = none
  bsz : base.objs.size ≤ s.heap.objs.size
  funs : s.heap.FunFrames base outer
  frf : ∀ b ∈ frs outer, H b = none
  hok : HOk P w H s.heap
  bare : AllBare s.gens
def CE (outer : List Env) (P : Program) (w : World) (H : Hp) (s : Shared) (Q : VK) (u : Value) (s' : Shared) : Prop :=
  ∃ v H', s'.os = s.os ∧ AllBare s'.gens ∧ Un (frs outer) [] H H' s.heap s'.heap ∧ HOk P w H' s'.heap ∧ RelV v u ∧ Q v H'
def CR (CX : CXT) (outer : List Env) (P : Program) (w : World) (H : Hp) (s : Shared) (Q : VK) (E : XK) (r : Result) (s' : Shared) : Prop :=
  match r with
  | .ok (.ret u) => CE outer P w H s Q u s'
  | .ok _ => False
  | .error e => CX outer H s E e s'
structure FnOk (P : Program) (w : World) (K : PySem.W.Frag) (mg : Str → Option Value) (base : Heap) (CX : CXT) (k : Nat) (f : Addr) (fd : FuncData) (ps : List Str) (sp : Sp) : Prop where
  len : ∀ vs H Q E, sp vs H Q E → vs.length = ps.length
  run : ∀ (A : Around) (outer : List Env) (s : Shared) (H : Hp) (args : Args) (us : List Value) (vs : List V) (Q : VK) (E : XK), Room k A → Env0 P w K mg base A outer s H → BindsTo s fd args (ps.zip us) → Vals vs us → sp vs H Q E →
    codeAny (model P w) A (.call (.ref f) args) (CR CX outer P w H s Q E) s
section
variable {X : Cx} {pins : List (Addr × Obj)} {σ : St} {H : Hp} {s s' : Shared}
theorem Inv.env0 (I : Inv X pins σ H s) : Env0 X.prog X.w X.K X.mg X.base X.A X.stack s H :=
  ⟨I.ok.frames, I.ok.mod, I.bs, Nat.le_trans I.ok.bsz I.sz, I.stack, I.stkFree, I.hok, I.bare⟩
theorem Inv.after {Q : VK} {u : Value} (I : Inv X pins σ H s) (h : CE X.stack X.prog X.w H s Q u s') : EP X pins σ Q u s' := by
  obtain ⟨v, H', os, bare, un, hok, r, q⟩ := h
  obtain ⟨hh, g, d, t, os'⟩ := s'
  obtain rfl : os' = s.os := os
  exact ⟨v, H', I.call (h' := hh) (g' := g) (d' := d) (t' := t) (ch := []) un hok bare (fun b z => absurd z (by simp)), r, q⟩
end

def tCall (sp : Sp) (dvs : List V) (E : XK) (t : TA) : TE := fun σ H Q => t σ H fun vs H1 => sp (vs ++ dvs) H1 Q E
def Binds (K : PySem.W.Frag) (fd : FuncData) (ps : List Str) (ds : List Value) : Prop :=
  ∀ (s : Shared) (us : List Value), K.In s.heap → (us ++ ds).length = ps.length → BindsTo s fd ⟨us, []⟩ (ps.zip (us ++ ds))
theorem Binds.all {K : PySem.W.Frag} {fd : FuncData} {ps : List Str} (h : ∀ us : List Value, us.length = ps.length → bindArgs fd ⟨us, []⟩ = pure (ps.zip us)) : Binds K fd ps [] := fun s us _ hl => by
  rw [List.append_nil] at hl ⊢
  exact .of_eq (h us hl)

def Passes (CX : CXT) (X : Cx) (E : XK) : Prop := ∀ (pins : List (Addr × Obj)) (σ : St) (H : Hp) (s : Shared) (e : Value) (s' : Shared), Inv X pins σ H s → CX X.stack H s E e s' → X.xe e s'

section
variable {X : Cx} {CX : CXT} {k : Nat} {f C : Addr} {fd : FuncData} {ps : List Str} {sp : Sp} {dvs : List V} {ds : List Value} {E : XK} {x m : Str} {p pos apos : Pos} {e o : Expr} {es : List Expr} {ta : TE} {t : TA}

theorem run_fn {pins : List (Addr × Obj)} {σ : St} {H : Hp} {s : Shared} {Q : VK} {us : List Value} {vs : List V} (F : FnOk X.prog X.w X.K X.mg X.base CX k f fd ps sp) (hr : Room k X.A) (hb : Binds X.K fd ps ds) (hd : Vals dvs ds) (hx : Passes CX X E)
    (I : Inv X pins σ H s) (r : Vals vs us) (h : sp (vs ++ dvs) H Q E) : wpAny (model X.prog X.w) X.A (call (.ref f) us) (EP X pins σ Q) X.xe s := by
  have r2 : Vals (vs ++ dvs) (us ++ ds) := r.append hd
  have hl : (us ++ ds).length = ps.length := by rw [← r2.length]; exact F.len _ _ _ _ h
  refine wpAny_call (codeAny_mono (F.run X.A X.stack s H ⟨us, []⟩ (us ++ ds) (vs ++ dvs) Q E hr I.env0 (hb s us I.kIn hl) r2 h) fun r s' hq => ?_)
  cases r with
  | error e => exact hx pins σ H s e s' I hq
  | ok fl =>
    cases fl with
    | ret u => exact I.after hq
    | next => exact False.elim hq
    | brk => exact False.elim hq
    | cont => exact False.elim hq

theorem pe_call (F : FnOk X.prog X.w X.K X.mg X.base CX k f fd ps sp) (hr : Room k X.A) (hg : Gl X x) (hm : X.mg x = some (.ref f)) (hk : PySem.W.keepIn X.K (.ref f) = true) (hb : Binds X.K fd ps ds) (hd : Vals dvs ds) (hx : Passes CX X E)
    (ha : PA X (e :: es) t) (hdb : (x == ("__debug__" : Str)) = false := by decide) (he : starEach (e :: es) X.env = (false, eval e X.env) :: starEach es X.env := by rfl) (hpl : (backTo pos (starEach es X.env)).any (·.1) = false := by rfl) :
    PE X (.Call (.Name x p) (e :: es) [] pos) (tCall sp dvs E t) := by
  intro pins s σ H Q I h
  refine wpAny_Call_Name_kw (ld_glob I hg hm ?_ hdb)
  refine PySem.W.callWith_K (h₀ := X.base) I.ok.mod.kin hk (thn (ha pos pins s σ H _ I h) fun us s1 ⟨vs, H1, I1, r, q⟩ => ⟨I1.kIn, ?_⟩) he hpl
  exact run_fn F hr hb hd hx I1 r q
end

section
variable {X : Cx} {CX : CXT} {k : Nat} {f C : Addr} {fd : FuncData} {ps ks : List Str} {sp : Sp} {E : XK} {x m : Str} {p pos apos kpos : Pos} {e o : Expr} {es : List Expr} {kws : List Keyword} {te ta : TE} {t tk : TA} {nm : Option Str}
variable {g : List Value → List Value → List Value} {gV : List V → List V → List V}
end

structure FnScope (N P : List Str) (sc : Scope) : Prop where
  kind : sc.kind = .function
  co : sc.isCoroutine = false
  gen : sc.isGenerator = false
  nd : N.Nodup
  pre : N.take P.length = P
  par : ∀ x ∈ P, sc.names.lookup x = some .local ∨ sc.names.lookup x = some .cell
  nofree : ∀ y ∈ sc.names, y.2 ≠ .free

theorem bindL_out {kindOf : Str → Option NameKind} {x : Str} : ∀ {binds : List (Str × Value)} {m : Str → Option Value}, (∀ v, (x, v) ∉ binds) → bindL kindOf binds m x = m x
  | [], _, _ => rfl
  | (n, v) :: r, m, h => by
    unfold bindL
    rw [bindL_out fun w hw => h w (List.mem_cons_of_mem _ hw)]
    split
    · have : x ≠ n := by rintro rfl; exact h v List.mem_cons_self
      simp [this]
    · rfl
theorem bindC_out {kindOf : Str → Option NameKind} {x : Str} : ∀ {binds : List (Str × Value)} {m : Str → Option Value}, (∀ v, (x, v) ∉ binds) → bindC kindOf binds m x = m x
  | [], _, _ => rfl
  | (n, v) :: r, m, h => by
    unfold bindC
    rw [bindC_out fun w hw => h w (List.mem_cons_of_mem _ hw)]
    split
    · rfl
    · have : x ≠ n := by rintro rfl; exact h v List.mem_cons_self
      simp [this]
theorem bindL_get {kindOf : Str → Option NameKind} {x : Str} {v : Value} : ∀ {P : List Str} {vs : List Value} {i : Nat} {m : Str → Option Value}, P.Nodup → P[i]? = some x → vs[i]? = some v → kindOf x = some .local →
    bindL kindOf (P.zip vs) m x = some v
  | [], _, _, _, _, h, _, _ => by simp at h
  | _ :: _, [], _, _, _, _, h, _ => by simp at h
  | p :: P, w :: vs, 0, m, nd, h1, h2, hk => by
    simp at h1 h2; subst h1; subst h2
    show bindL kindOf ((p, w) :: P.zip vs) m p = _
    unfold bindL
    rw [bindL_out fun v hv => (List.nodup_cons.mp nd).1 (List.of_mem_zip hv).1, if_pos hk]
    simp
  | p :: P, w :: vs, i + 1, m, nd, h1, h2, hk => by
    show bindL kindOf ((p, w) :: P.zip vs) m x = _
    unfold bindL
    exact bindL_get (i := i) (List.nodup_cons.mp nd).2 (by simpa using h1) (by simpa using h2) hk
theorem bindC_get {kindOf : Str → Option NameKind} {x : Str} {v : Value} : ∀ {P : List Str} {vs : List Value} {i : Nat} {m : Str → Option Value}, P.Nodup → P[i]? = some x → vs[i]? = some v → kindOf x ≠ some .local →
    bindC kindOf (P.zip vs) m x = some v
  | [], _, _, _, _, h, _, _ => by simp at h
  | _ :: _, [], _, _, _, _, h, _ => by simp at h
  | p :: P, w :: vs, 0, m, nd, h1, h2, hk => by
    simp at h1 h2; subst h1; subst h2
    show bindC kindOf ((p, w) :: P.zip vs) m p = _
    unfold bindC
    rw [bindC_out fun v hv => (List.nodup_cons.mp nd).1 (List.of_mem_zip hv).1, if_neg hk]
    simp
  | p :: P, w :: vs, i + 1, m, nd, h1, h2, hk => by
    show bindC kindOf ((p, w) :: P.zip vs) m x = _
    unfold bindC
    exact bindC_get (i := i) (List.nodup_cons.mp nd).2 (by simpa using h1) (by simpa using h2) hk

def start (N : List Str) (vs : List V) : St := vs.map some ++ List.replicate (N.length - vs.length) none

def cxOf (CX : CXT) (P : Program) (w : World) (K : PySem.W.Frag) (mg : Str → Option Value) (base : Heap) (N : List Str) (qual : Str) (scope : Scope) (f : Addr) (cd : Value) (A : Around) (outer : List Env) (s : Shared) (H : Hp) (E : XK) : Cx where
  prog := P
  w := w
  K := K
  mg := mg
  base := base
  A := A.deeper (envOfC qual scope s.heap.objs.size f cd)
  N := N
  s₀ := s
  H₀ := H
  env := envOfC qual scope s.heap.objs.size f cd
  outer := outer
  stack := envOfC qual scope s.heap.objs.size f cd :: outer
  ex := []
  calm := true
  fn := fun _ => true
  pn := []
  xe := fun e s' => wpAny (model P w) (A.deeper (envOfC qual scope s.heap.objs.size f cd)) (leaving (envOfC qual scope s.heap.objs.size f cd) e) (fun _ s'' => CX outer H s E e s'') (fun e' s'' => CX outer H s E e' s'') s'

theorem cell_has {sc : Scope} {n : Nat} {x : Str} (h : sc.names.lookup x = some .cell) : ∃ c, (cellsFrom n sc.names []).lookup x = some c := by
  have q := PySem.W.cellsFrom_some sc.names n [] (.inl h)
  exact Option.isSome_iff_exists.mp q

theorem inv_start {CX : CXT} {P : Program} {w : World} {K : PySem.W.Frag} {mg : Str → Option Value} {base : Heap} {N ps : List Str} {qual : Str} {scope : Scope} {f : Addr} {cd : Value} {A : Around} {outer : List Env} {s s1 : Shared} {H : Hp} {E : XK} {us : List Value} {vs : List V}
    (S : FnScope N ps scope) (hd : A.handled = none) (e0 : Env0 P w K mg base A outer s H) (hl : vs.length = ps.length) (r : Vals vs us)
    (x : InCallC s s.heap.objs.size (bindL (envOfC qual scope s.heap.objs.size f cd).kindOf (ps.zip us) fun _ => none) (cellsFrom (s.heap.objs.size + 1) scope.names []) (bindC (envOfC qual scope s.heap.objs.size f cd).kindOf (ps.zip us) fun _ => none) s1) :
    Inv (cxOf CX P w K mg base N qual scope f cd A outer s H E) [] (start N vs) H s1 := by
  have hpl : ps.length ≤ N.length := by have := congrArg List.length S.pre; rw [List.length_take] at this; omega
  obtain ⟨h1, tk, rfl, hk⟩ := x.done
  have noA : ∀ b : Addr, b ∉ (cxOf CX P w K mg base N qual scope f cd A outer s H E).ex := fun b z => absurd (show b ∈ ([] : List Addr) from z) (by simp)
  refine ⟨⟨e0.mod, S.kind, rfl, rfl, Nat.le_refl _, fun y z c h1 h2 => ?_, fun y hy => ?_, fun y c _ h => ?_, fun _ => hd, Around.frames_deeper e0.frames, .inr ⟨rfl, rfl⟩, fun b z => absurd z (noA b), e0.bs, e0.bsz, fun b _ _ => noA b, fun b z => absurd z (noA b), e0.funs, e0.frf⟩,
    rfl, e0.bare, Un.kept hk, ⟨_, x.toInCall.ns, fun i y v h1 h2 h3 => ?_⟩, fun y c h => ⟨_, x.cell y c h⟩, e0.hok.fresh (Nat.le_refl _), fun y c h => ?_, fun p hp => absurd (show p ∈ ([] : List (Addr × Obj)) from hp) (by simp), e0.hok.kept hk, ?_⟩
  · exact name_of_addr x.apart (PySem.mem_of_lookup h1) (PySem.mem_of_lookup h2)
  · have hy : scope.names.lookup y = some .cell ∨ scope.names.lookup y = some .free := hy
    rcases hy with hy | hy
    · exact cell_has hy
    · exact absurd rfl (S.nofree _ (PySem.mem_of_lookup hy))
  · exact Nat.le_of_lt (x.above y c (PySem.mem_of_lookup h))
  · have hi : i < vs.length := by
      unfold start at h2
      by_cases hi : i < vs.length
      · exact hi
      · rw [List.getElem?_append_right (by simpa using hi)] at h2
        rw [List.getElem?_replicate] at h2
        split at h2 <;> cases h2
    have ha : vs[i]? = some v := by
      unfold start at h2
      rw [List.getElem?_append_left (by simpa using hi), List.getElem?_map] at h2
      cases e : vs[i]? with
      | none => rw [e] at h2; cases h2
      | some a => rw [e] at h2; cases h2; rfl
    obtain ⟨u, hu, rv⟩ := r.get ha
    have hp : ps[i]? = some y := by
      rw [← S.pre, List.getElem?_take_of_lt (by omega)]; exact h1
    have ndP : ps.Nodup := by rw [← S.pre]; exact S.nd.sublist (List.take_sublist _ _)
    refine ⟨u, rv, ?_⟩
    rcases S.par y (List.mem_of_getElem? hp) with k | k
    · exact .inl ⟨k, bindL_get ndP hp hu k⟩
    · obtain ⟨c, e⟩ := cell_has (n := s.heap.objs.size + 1) k
      refine .inr ⟨.inl k, c, e, ?_⟩
      have q := x.cell y c e
      rw [bindC_get ndP hp hu (by show scope.names.lookup y ≠ _; rw [k]; decide)] at q
      exact q
  · exact e0.hok.fresh (Nat.le_of_lt (x.above y c (PySem.mem_of_lookup h)))
  · unfold start
    show _ = N.length
    rw [List.length_append, List.length_map, List.length_replicate]
    omega

theorem fn_of {CX : CXT} {P : Program} {w : World} {K : PySem.W.Frag} {mg : Str → Option Value} {base : Heap} {k : Nat} {f : Addr} {name qual : Str} {params : Arguments} {body : List Stmt} {scope : Scope} {dV kV doc pm cdv ct oc : Value} {an od : Option Addr}
    {osl : Array (Option Value)} {N ps : List Str} {sp : Sp} (lk : K.lookup f = some ⟨oc, od, .func (PySem.W.fnOf name qual params body scope dV kV doc pm an cdv ct), osl⟩) (hcd : PySem.W.codeIn K cdv qual = true) (S : FnScope N ps scope)
    (len : ∀ vs H Q E, sp vs H Q E → vs.length = ps.length)
    (hbody : ∀ (A : Around) (outer : List Env) (s : Shared) (H : Hp) (vs : List V) (Q : VK) (E : XK), Room k (A.deeper (envOfC qual scope s.heap.objs.size f cdv)) → sp vs H Q E →
      ∃ t, PSs (cxOf CX P w K mg base N qual scope f cdv A outer s H E) body t ∧ t { nx := fun _ H' => Q .non H', rt := Q } (start N vs) H) :
    FnOk P w K mg base CX (k + 1) f (PySem.W.fnOf name qual params body scope dV kV doc pm an cdv ct) ps sp := by
  refine ⟨len, fun A outer s H args us vs Q E hr e0 hb r hsp => ?_⟩
  have hl := len _ _ _ _ hsp
  have KX : K.In s.heap := e0.mod.kin.keeps fun b o e => (e0.bs b o e).1
  have lim : s.heap.NoLimit := e0.mod.nolimit.keeps fun b o e => (e0.bs b o e).1
  have hkind : ∀ y ∈ ps.zip us, scope.names.lookup y.1 = some .local ∨ (scope.names.lookup y.1 = some .cell ∧ ((cellsFrom (s.heap.objs.size + 1) scope.names []).lookup y.1).isSome = true) := fun ⟨n, v⟩ hy => by
    rcases S.par n (List.of_mem_zip hy).1 with q | q
    · exact .inl q
    · exact .inr ⟨q, PySem.W.cellsFrom_some _ _ _ (.inl q)⟩
  refine codeAny_call_function hr.depth (KX _ _ lk) rfl S.co S.gen rfl (PySem.W.codeRec_of KX hcd) (hb _ _ _ _ ?_)
  refine wpAny_newFunctionEnv_cells S.kind hkind fun env he s1 x => ?_
  subst he
  refine ⟨lim.keeps x.toInCall.keep, codeAny_func ?_⟩
  obtain ⟨t, ht, hq⟩ := hbody A outer s H vs Q E (hr.deeper _) hsp
  have I : Inv (cxOf CX P w K mg base N qual scope f cdv A outer s H E) [] (start N vs) H s1 := inv_start S hr.hd e0 hl r x
  refine wpAny_mono (ht [] s1 (start N vs) H _ I hq) (fun fl s' hs => ?_) fun e s' hs => hs
  have fin : ∀ {σ' : St} {H' : Hp} {v : V} {u : Value}, Inv (cxOf CX P w K mg base N qual scope f cdv A outer s H E) [] σ' H' s' → RelV v u → Q v H' → CE outer P w H s Q u s' :=
    fun {σ' H' v u} J rv q => ⟨v, H', J.os, J.bare, J.base, J.hok, rv, q⟩
  cases fl with
  | ret u =>
    obtain ⟨v, σ', H', J, rv, q⟩ := hs
    exact fin J rv q
  | next =>
    obtain ⟨σ', H', J, q⟩ := hs
    exact fin (v := V.non) (u := Value.none) J rfl q
  | brk =>
    obtain ⟨_, _, _, q⟩ := hs
    exact False.elim q
  | cont =>
    obtain ⟨_, _, _, q⟩ := hs
    exact False.elim q
end L2

namespace L2
open PySem PySem.Spec PyProof.Rows
section
variable {X : Cx} {x : Str} {p pos : Pos} {e : Expr} {es : List Expr} {t : TA} {id T : String} {r : List V → Hp → VK → Prop}

def tCB (r : List V → Hp → VK → Prop) (t : TA) : TE := fun σ H Q => t σ H fun vs H1 => r vs H1 Q
theorem pe_callB (hc : CallR X (.builtin id) r) (hg : Gl X x) (hm : X.mg x = none) (hv : bootBuiltins x = some (.builtin id)) (ha : PA X (e :: es) t) (hn : x ≠ "__name__" := by decide) (hdb : (x == ("__debug__" : Str)) = false := by decide)
    (he : starEach (e :: es) X.env = (false, eval e X.env) :: starEach es X.env := by rfl) (hpl : (backTo pos (starEach es X.env)).any (·.1) = false := by rfl) : PE X (.Call (.Name x p) (e :: es) [] pos) (tCB r t) := by
  intro pins s σ H Q I h
  refine wpAny_Call_Name_kw (ld_blt I hg hm hv ?_ hn hdb)
  exact PyProof.Rows.callWith_builtin1 (thn (ha pos pins s σ H _ I h) fun us s1 ⟨vs, H1, I1, r1, q1⟩ => hc pins s1 σ H1 vs us Q I1 r1 q1) he hpl
theorem pe_callTy (hc : CallR X (.type T) r) (hg : Gl X x) (hm : X.mg x = none) (hv : bootBuiltins x = some (.type T)) (ha : PA X (e :: es) t) (hn : x ≠ "__name__" := by decide) (hdb : (x == ("__debug__" : Str)) = false := by decide)
    (he : starEach (e :: es) X.env = (false, eval e X.env) :: starEach es X.env := by rfl) (hpl : (backTo pos (starEach es X.env)).any (·.1) = false := by rfl) : PE X (.Call (.Name x p) (e :: es) [] pos) (tCB r t) := by
  intro pins s σ H Q I h
  refine wpAny_Call_Name_kw (ld_blt I hg hm hv ?_ hn hdb)
  exact PyProof.Rows.callWith_type1 (thn (ha pos pins s σ H _ I h) fun us s1 ⟨vs, H1, I1, r1, q1⟩ => hc pins s1 σ H1 vs us Q I1 r1 q1) he hpl
end
end L2

namespace HT
open PySem PyProof.Rows

section
open PySem.SeqAt
open PySem.AutoSeq1 (wpAny_loadPart')
open PySem.MeetsSeq PySem.MeetsSeq2 PySem.MeetsSeq3

end

section
variable {prog : Program} {w : World} {A : Around} {E : Value → Shared → Prop} {s : Shared}

def sIx (n d : Nat) : Option Int → Nat
  | none => d
  | some v => if v < 0 then (v + (n : Int)).toNat else min v.toNat n
theorem sIx_none (n d : Nat) : sIx n d none = d := rfl
theorem sIx_nat (n d k : Nat) : sIx n d (some (k : Int)) = min k n := by
  show (if (k : Int) < 0 then ((k : Int) + (n : Int)).toNat else min (k : Int).toNat n) = min k n
  rw [if_neg (by omega), Int.toNat_natCast]
theorem sIx_le (n d : Nat) (hd : d ≤ n) (o : Option Int) : sIx n d o ≤ n := by
  cases o with
  | none => exact hd
  | some v =>
    show (if v < 0 then (v + (n : Int)).toNat else min v.toNat n) ≤ n
    by_cases hv : v < 0
    · rw [if_pos hv]; omega
    · rw [if_neg hv]; exact Nat.min_le_right _ _
end
end HT

namespace L2
open PySem PySem.Spec PyProof.Rows

abbrev TO := St → Hp → (Option Int → Hp → Prop) → Prop
def PO (X : Cx) (e : Option Expr) (t : TO) : Prop :=
  ∀ (pins : List (Addr × Obj)) (s : Shared) (σ : St) (H : Hp) (Q : Option Int → Hp → Prop), Inv X pins σ H s → t σ H Q →
    wpAny (model X.prog X.w) X.A (evalPart e X.env) (fun u s' => ∃ o H', Inv X pins σ H' s' ∧ IsPart u o ∧ Q o H') X.xe s
def tNoPart : TO := fun _ H Q => Q none H
def tPart (t : TE) : TO := fun σ H Q => t σ H fun x H1 => ∃ i, x = .int i ∧ Q (some i) H1

theorem intsAre_of {ns : List Int} : ∀ {us : List Value}, Vals (ns.map V.int) us → IntsAre us ns := by
  induction ns with
  | nil => intro us r; rw [List.map_nil] at r; cases r; exact .nil
  | cons n ns ih =>
    intro us r
    rw [List.map_cons] at r
    cases r with
    | cons r1 r2 =>
      obtain ⟨t, e⟩ := r1
      subst e
      exact .cons n t (ih r2)

section
variable {X : Cx} {e : Expr} {te : TE} {lo hi : Option Expr} {tl th : TO} {pos p2 : Pos}

theorem po_none : PO X none tNoPart := by
  intro pins s σ H Q I h
  rw [evalPart_none]
  exact wpAny_pure ⟨none, H, I, .none, h⟩
theorem po_some (h : PE X e te) : PO X (some e) (tPart te) := by
  intro pins s σ H Q I hw
  rw [evalPart_some]
  refine thn (h pins s σ H _ I hw) fun u s1 ⟨x, H1, I1, r1, q1⟩ => ?_
  obtain ⟨i, rfl, q⟩ := q1
  obtain ⟨t, rfl⟩ := r1
  exact ⟨some i, H1, I1, .int i t, q⟩

def SlR (X : Cx) (r : V → Option Int → Option Int → Hp → VK → Prop) : Prop :=
  ∀ (pins : List (Addr × Obj)) (s : Shared) (σ : St) (H : Hp) (x : V) (v vl vu : Value) (lo hi : Option Int) (sl : Addr) (Q : VK), Inv X pins σ H s → RelV x v → s.heap.IsSliceOf sl vl vu .none → IsPart vl lo → IsPart vu hi → r x lo hi H Q →
    ∃ T id, typeLookup (.type T) "__getitem__" = pure (some (.builtin id)) ∧ s.TypeIs v T ∧ wpAny (model X.prog X.w) X.A (getItem v (.ref sl)) (EP X pins σ Q) X.xe s
def tSl (r : V → Option Int → Option Int → Hp → VK → Prop) (te : TE) (tl th : TO) : TE := fun σ H Q => te σ H fun x H1 => tl σ H1 fun l H2 => th σ H2 fun u H3 => r x l u H3 Q
theorem pe_slice {r : V → Option Int → Option Int → Hp → VK → Prop} (hr : SlR X r) (he : PE X e te) (hl : PO X lo tl) (hu : PO X hi th) : PE X (.Subscript e (.Slice lo hi none p2) pos) (tSl r te tl th) := by
  intro pins s σ H Q I h
  refine Subscript_ (thn (he pins s σ H _ I h) fun v s1 ⟨x, H1, I1, r1, q1⟩ => ?_)
  refine wpAny_Slice (thn (hl pins s1 σ H1 _ I1 q1) fun vl s2 ⟨l, H2, I2, pl, q2⟩ => thn (hu pins s2 σ H2 _ I2 q2) fun vu s3 ⟨u, H3, I3, pu, q3⟩ => ?_)
  rw [evalPart_none]
  refine wpAny_pure ?_
  have I4 : Inv X pins σ H3 { s3 with heap := s3.heap.push { cls := .type "slice", data := .fields #[vl, vu, .none] } } := I3.kept (t' := s3.toks) fun b ob q => Heap.get?_push_of_some _ q
  obtain ⟨T, id, hT, ht, hg⟩ := hr pins { s3 with heap := s3.heap.push { cls := .type "slice", data := .fields #[vl, vu, .none] } } σ H3 x v vl vu l u s3.heap.objs.size Q I4 r1 (Heap.IsSliceOf.new ..) pl pu q3
  show wpAny (model X.prog X.w) X.A (subscriptTail e (.Slice lo hi none p2) v (.ref s3.heap.objs.size)) (EP X pins σ Q) X.xe { s3 with heap := s3.heap.push { cls := .type "slice", data := .fields #[vl, vu, .none] } }
  exact tail_any (ops := [.ref s3.heap.objs.size, v]) ht hT hg (by with_unfolding_all rfl)

def cutV (xs : List V) (lo hi : Option Int) : List V := (xs.drop (HT.sIx xs.length 0 lo)).take (HT.sIx xs.length xs.length hi - HT.sIx xs.length 0 lo)
theorem cutV_length (xs : List V) (lo hi : Option Int) : (cutV xs lo hi).length ≤ xs.length := by
  unfold cutV
  rw [List.length_take, List.length_drop]
  omega
end
end L2

namespace L2
open PySem PySem.Spec PyProof.Rows

def ixN (n : Nat) (i : Int) : Option Nat := if 0 ≤ i then (if i < n then some i.toNat else none) else if -(n : Int) ≤ i then some (i + n).toNat else none
def atI {α : Type} (xs : List α) (i : Int) : Option α := (ixN xs.length i).bind fun j => xs[j]?
theorem ixN_seq {n : Nat} {i : Int} {j : Nat} (h : ixN n i = some j) : seqIndex? i n = some j ∧ j < n ∧ -(n : Int) ≤ i ∧ i < n := by
  unfold ixN at h
  by_cases h0 : 0 ≤ i
  · rw [if_pos h0] at h
    by_cases h1 : i < n
    · rw [if_pos h1] at h
      have e : i.toNat = j := Option.some.inj h
      exact ⟨by rw [seqIndex_of h0 h1, e], by omega, by omega, h1⟩
    · rw [if_neg h1] at h; cases h
  · rw [if_neg h0] at h
    by_cases h1 : -(n : Int) ≤ i
    · rw [if_pos h1] at h
      have e : (i + n).toNat = j := Option.some.inj h
      exact ⟨by rw [seqIndex_neg (by omega) h1, e], by omega, h1, by omega⟩
    · rw [if_neg h1] at h; cases h
theorem atI_get {α : Type} {xs : List α} {i : Int} {v : α} (h : atI xs i = some v) : ∃ j, seqIndex? i xs.length = some j ∧ xs[j]? = some v ∧ j < xs.length ∧ -(xs.length : Int) ≤ i ∧ i < xs.length := by
  unfold atI at h
  cases e : ixN xs.length i with
  | none => rw [e] at h; cases h
  | some j =>
    rw [e] at h
    obtain ⟨h1, h2, h3, h4⟩ := ixN_seq e
    exact ⟨j, h1, h, h2, h3, h4⟩
theorem atI_nat {α : Type} {xs : List α} {j : Nat} {v : α} (h : xs[j]? = some v) : atI xs (j : Int) = some v := by
  have hj : j < xs.length := (List.getElem?_eq_some_iff.mp h).1
  have e : ixN xs.length (j : Int) = some j := by
    unfold ixN
    rw [if_pos (by omega), if_pos (by omega)]; simp
  unfold atI; rw [e]; exact h
def PlainIx (b : Expr) : Prop := ∀ o i, subscripted b false o i = operate [o, i] (getItem o i)
def IxR (X : Cx) (r : R2) : Prop :=
  ∀ (value slice : Expr) (pins : List (Addr × Obj)) (s : Shared) (σ : St) (H : Hp) (x y : V) (v u : Value) (Q : VK), Inv X pins σ H s → RelV x v → RelV y u → r x y H Q →
    subscripted slice false v u = operate [v, u] (getItem v u) → wpAny (model X.prog X.w) X.A (subscriptTail value slice v u) (EP X pins σ Q) X.xe s
def MtR (X : Cx) (id : String) (r : V → List V → Hp → VK → Prop) : Prop :=
  ∀ (pins : List (Addr × Obj)) (s : Shared) (σ : St) (H : Hp) (x : V) (xs : List V) (v : Value) (us : List Value) (Q : VK), Inv X pins σ H s → RelV x v → Vals xs us → r x xs H Q →
    wpAny (model X.prog X.w) X.A (call (.builtin id) (v :: us)) (EP X pins σ Q) X.xe s
section
variable {X : Cx} {a b : Expr} {ta tb : TE} {pos : Pos}
theorem IxR.or {r r' : R2} (h : IxR X r) (h' : IxR X r') : IxR X (fun x y H Q => r x y H Q ∨ r' x y H Q) := by
  intro value slice pins s σ H x y v u Q I rx ry q hs
  rcases q with q | q
  · exact h value slice pins s σ H x y v u Q I rx ry q hs
  · exact h' value slice pins s σ H x y v u Q I rx ry q hs
theorem pe_ix {r : R2} (hr : IxR X r) (ha : PE X a ta) (hb : PE X b tb) (hs : PlainIx b) : PE X (.Subscript a b pos) (tOp r ta tb) := by
  intro pins s σ H Q I h
  exact Subscript_ (binT ha hb I h fun v u s2 x y H2 I2 rx ry q => hr a b pins s2 σ H2 x y v u Q I2 rx ry q (hs _ _))

def rIxL (K : PySem.W.Frag) : R2 := fun x y H Q => ∃ p xs i v, x = .ref p ∧ y = .int i ∧ SqL K H p xs ∧ atI xs i = some v ∧ Q v H
def rIxT (K : PySem.W.Frag) : R2 := fun x y H Q => ∃ p xs i v, x = .ref p ∧ y = .int i ∧ SqT K H p xs ∧ atI xs i = some v ∧ Q v H
def rIxS : R2 := fun x y H Q => ∃ z i c, x = .str z ∧ y = .int i ∧ z.length ≤ sizeLine ∧ atI z.cps.toList i = some c ∧ Q (.str ⟨#[c]⟩) H
theorem ix_list : IxR X (rIxL X.K) := by
  intro value slice pins s σ H x y v u Q I rx ry h hs
  obtain ⟨p, xs, i, z, rfl, rfl, hq, he, q⟩ := h
  cases rx
  obtain ⟨t, rfl⟩ := ry
  obtain ⟨its, r, pl, hz⟩ := I.list hq
  obtain ⟨j, h1, h2, h3, h4, h5⟩ := atI_get he
  obtain ⟨w, ew, rw'⟩ := r.get h2
  have hl := r.length
  have hn := line63
  have fin : EP X pins σ Q w s := ⟨z, H, I, rw', q⟩
  by_cases h0 : 0 ≤ i
  · have hj : i.toNat = j := by
      rw [seqIndex_of h0 h5] at h1
      exact Option.some.inj h1
    exact item_listR pl.isList h0 (by omega) (by rw [hj]; simpa using ew) fin hs
  · have hj : (i + (its.toArray.size : Int)).toNat = j := by
      rw [seqIndex_neg (by omega) h4] at h1
      rw [List.size_toArray, ← hl]
      exact Option.some.inj h1
    exact subscriptTail_builtinR (x := w) pl.isList.typeIs slot_list_getitem.lookup
      (wpAny_getItem_list_neg (Q := fun r s' => r = w ∧ EP X pins σ Q r s') pl.isList (by omega) (by rw [List.size_toArray] <;> omega) (by omega) (by rw [hj]; simpa using ew) ⟨rfl, fin⟩) hs
theorem ix_tup : IxR X (rIxT X.K) := by
  intro value slice pins s σ H x y v u Q I rx ry h hs
  obtain ⟨p, xs, i, z, rfl, rfl, hq, he, q⟩ := h
  cases rx
  obtain ⟨t, rfl⟩ := ry
  obtain ⟨its, r, pl, hz⟩ := I.tuple hq
  obtain ⟨j, h1, h2, h3, h4, h5⟩ := atI_get he
  obtain ⟨w, ew, rw'⟩ := r.get h2
  have hl := r.length
  have hn := line63
  have fin : EP X pins σ Q w s := ⟨z, H, I, rw', q⟩
  exact subscriptTail_builtinR (x := w) pl.typeIs slot_tuple_getitem.lookup
    (getItem_tuple (j := j) (Q := fun r s' => r = w ∧ EP X pins σ Q r s') pl (by omega) (by omega) (by rw [List.size_toArray, ← hl]; exact h1) (by simpa using ew) ⟨rfl, fin⟩) hs
theorem ix_str : IxR X rIxS := by
  intro value slice pins s σ H x y v u Q I rx ry h hs
  obtain ⟨z, i, c, rfl, rfl, hz, he, q⟩ := h
  obtain ⟨t, rfl⟩ := rx
  obtain ⟨t', rfl⟩ := ry
  obtain ⟨j, h1, h2, h3, h4, h5⟩ := atI_get he
  have hl : z.cps.toList.length = z.length := by simp [Str.length]
  rw [hl] at h1 h4 h5
  have hn := line63
  exact tail_any (typeIs_str s z t) slot_str_getitem.lookup (getItem_str (c := c) (by
    have e1 : decide (i < -(2 ^ 63 : Int)) = false := decide_eq_false (by omega)
    have e2 : decide (i ≥ 2 ^ 63) = false := decide_eq_false (by omega)
    rw [e1, e2, Bool.or_false]) (by rw [h1]; simpa using h2) ⟨.str ⟨#[c]⟩, H, I.tok _, ⟨_, rfl⟩, q⟩) hs
def rIx (K : PySem.W.Frag) : R2 := fun x y H Q => rIxL K x y H Q ∨ rIxT K x y H Q ∨ rIxS x y H Q
theorem ix_seq : IxR X (rIx X.K) := ix_list.or (ix_tup.or ix_str)

theorem mapSeq_set (its : List Value) (n j : Nat) (u : Value) : Obj.mapSeq (·.setIfInBounds j u) { cls := .type "list", data := .seq its.toArray n } = { cls := .type "list", data := .seq (its.set j u).toArray n } := by
  simp [Obj.mapSeq]
theorem Inv.lst {pins : List (Addr × Obj)} {σ : St} {H : Hp} {s : Shared} {p : Addr} {xs : List V} (I : Inv X pins σ H s) (h : H p = some (.lst xs)) :
    ∃ (its : List Value) (n : Nat), Vals xs its ∧ s.heap.get? p = some { cls := .type "list", data := .seq its.toArray n } ∧ xs.length ≤ sizeLine := by
  obtain ⟨z, its, n, r, e⟩ := I.hok p _ h
  exact ⟨its, n, r, e, z⟩
theorem Inv.lstUpd {pins : List (Addr × Obj)} {σ : St} {H : Hp} {s : Shared} {p : Addr} {xs ys : List V} {its its' : List Value} {n n' : Nat} {f : Obj → Obj} (I : Inv X pins σ H s) (h : H p = some (.lst xs))
    (ho : s.heap.get? p = some { cls := .type "list", data := .seq its.toArray n }) (hf : f { cls := .type "list", data := .seq its.toArray n } = { cls := .type "list", data := .seq its'.toArray n' }) (r : Vals ys its') (hz : ys.length ≤ sizeLine) (t : Nat) :
    Inv X pins σ (upd H p (.lst ys)) { s with heap := s.heap.update p f, toks := t } := by
  have e : (s.heap.update p f).get? p = some { cls := .type "list", data := .seq its'.toArray n' } := by
    rw [Heap.get?_update_self f ho (by rw [hf] <;> rfl), hf]
  refine I.write (x := p) (e := p) (by rw [h]; trivial) (.inl rfl) (fun b u hb q => (Heap.get?_update_other _ _ (Ne.symm hb)).trans q) ⟨_, e⟩ ?_
  exact ⟨hz, its', n', r, e⟩
def rSetL : V → V → V → Hp → (Hp → Prop) → Prop := fun o i v H Q => ∃ p xs k j, o = .ref p ∧ i = .int k ∧ H p = some (.lst xs) ∧ ixN xs.length k = some j ∧ Q (upd H p (.lst (xs.set j v)))
theorem set_list : PSet X rSetL := by
  intro pins s σ H o i v ov iv u Q I ro ri rv h
  obtain ⟨p, xs, k, j, rfl, rfl, hp, hj, q⟩ := h
  cases ro
  obtain ⟨t, rfl⟩ := ri
  obtain ⟨its, n, r, ho, hz⟩ := I.lst hp
  obtain ⟨h1, h2, h3, h4⟩ := ixN_seq hj
  have hl := r.length
  have hn := line63
  have I' : Inv X pins σ (upd H p (.lst (xs.set j v))) { s with heap := s.heap.update p (Obj.mapSeq (·.setIfInBounds j u)) } :=
    I.lstUpd hp ho (mapSeq_set its n j u) (r.set rv j) (by rw [List.length_set]; exact hz) s.toks
  by_cases h0 : 0 ≤ k
  · have hk : k.toNat = j := by
      rw [seqIndex_of h0 h4] at h1
      exact Option.some.inj h1
    exact PySem.W.ki_setAt ho h0 (by omega) (by rw [List.size_toArray, ← hl]; exact h4) (by rw [hk]; exact ⟨_, I', q⟩)
  · have hk : (k + (its.toArray.size : Int)).toNat = j := by
      rw [seqIndex_neg (by omega) h3] at h1
      rw [List.size_toArray, ← hl]
      exact Option.some.inj h1
    exact PySem.W.ki_setBack ho (by omega) (by rw [List.size_toArray, ← hl]; exact h3) (by omega) (by rw [hk]; exact ⟨_, I', q⟩)

theorem slice_bounds (lo hi : Option Int) (n : Nat) : (sliceBounds lo hi none n).1 = ((HT.sIx n 0 lo : Nat) : Int) ∧ (sliceBounds lo hi none n).2.1 = ((HT.sIx n n hi : Nat) : Int) ∧ (sliceBounds lo hi none n).2.2 = 1 := by
  refine ⟨?_, ?_, rfl⟩
  · cases lo with
    | none => simp [sliceBounds, HT.sIx]
    | some i =>
      simp only [sliceBounds, HT.sIx, Option.getD_none, show (1 : Int) > 0 by decide, if_true]
      by_cases h : i < 0
      · simp only [h, if_true] <;> omega
      · simp only [h, if_false] <;> omega
  · cases hi with
    | none => simp [sliceBounds, HT.sIx]
    | some i =>
      simp only [sliceBounds, HT.sIx, Option.getD_none, show (1 : Int) > 0 by decide, if_true]
      by_cases h : i < 0
      · simp only [h, if_true] <;> omega
      · simp only [h, if_false] <;> omega
theorem slicePick_cut (its : List Value) (lo hi : Option Int) : slicePick its.toArray lo hi none = ((its.drop (HT.sIx its.length 0 lo)).take (HT.sIx its.length its.length hi - HT.sIx its.length 0 lo)).toArray := by
  obtain ⟨h1, h2, h3⟩ := slice_bounds lo hi its.toArray.size
  unfold slicePick
  rw [h1, h2, h3]
  simp only [sliceRange_one, pick_run, List.size_toArray] <;> rfl
def rSlL (K : PySem.W.Frag) : V → Option Int → Option Int → Hp → VK → Prop := fun x lo hi H Q => ∃ a xs, x = .ref a ∧ SqL K H a xs ∧ ∀ p, H p = none → Q (.ref p) (upd H p (.lst (cutV xs lo hi)))
theorem sl_list : SlR X (rSlL X.K) := by
  intro pins s σ H x v vl vu lo hi sl Q I rx hs pl pu h
  obtain ⟨a, xs, rfl, hx, q⟩ := h
  cases rx
  obtain ⟨its, r, ht, hz⟩ := I.list hx
  have hlen := r.length
  refine ⟨"list", _, slot_list_getitem.lookup, ht.isList.typeIs, ?_⟩
  refine wpAny_getItem_list_slice ht.isList hs pl pu .none (by simp) ?_ (by rw [List.size_toArray] <;> omega)
  rw [slicePick_cut, ← hlen]
  refine ⟨.ref s.heap.objs.size, _, I.laid (t' := s.toks) (o := .lst (cutV xs lo hi)) (fun b ob q => Heap.get?_push_of_some _ q) (Nat.le_refl _) ?_, rfl, q _ (I.hok.fresh (Nat.le_refl _))⟩
  exact ⟨Nat.le_trans (cutV_length xs lo hi) hz, _, 0, (r.drop (HT.sIx xs.length 0 lo)).take (HT.sIx xs.length xs.length hi - HT.sIx xs.length 0 lo), Heap.get?_push_size _ rfl⟩

def flatV : V → Bool
  | .non => true
  | .bl _ => true
  | .int _ => true
  | .str _ => true
  | _ => false
def eqV : V → V → Bool
  | .non, .non => true
  | .bl a, .bl b => a == b
  | .bl a, .int b => (if a then 1 else 0) == b
  | .int a, .bl b => a == (if b then 1 else 0)
  | .int a, .int b => a == b
  | .str a, .str b => a == b
  | _, _ => false
theorem eqAt_V {A : Around} {s : Shared} {y x : V} {u v : Value} (ry : RelV y u) (rx : RelV x v) (fy : flatV y = true) (fx : flatV x = true) : SeqAt.EqAt A s u v (eqV y x) := by
  cases y with
  | non =>
    cases ry
    cases x with
    | non => cases rx; exact SeqAt.EqAt.same _
    | bl b => cases rx; exact SeqAt.EqAt.none_bool b
    | int b => obtain ⟨t, rfl⟩ := rx; exact SeqAt.EqAt.none_int b t
    | str b => obtain ⟨t, rfl⟩ := rx; exact SeqAt.EqAt.none_str b t
    | _ => exact absurd (show false = true from fx) Bool.false_ne_true
  | bl a =>
    cases ry
    cases x with
    | non => cases rx; exact SeqAt.EqAt.bool_none a
    | bl b => cases rx; exact SeqAt.EqAt.bool_bool a b
    | int b => obtain ⟨t, rfl⟩ := rx; exact SeqAt.EqAt.bool_int a b t
    | str b => obtain ⟨t, rfl⟩ := rx; exact SeqAt.EqAt.bool_str a b t
    | _ => exact absurd (show false = true from fx) Bool.false_ne_true
  | int a =>
    obtain ⟨t', rfl⟩ := ry
    cases x with
    | non => cases rx; exact SeqAt.EqAt.int_none a t'
    | bl b => cases rx; exact SeqAt.EqAt.int_bool a t' b
    | int b => obtain ⟨t, rfl⟩ := rx; exact SeqAt.EqAt.int_int a t' b t
    | str b => obtain ⟨t, rfl⟩ := rx; exact SeqAt.EqAt.int_str a t' b t
    | _ => exact absurd (show false = true from fx) Bool.false_ne_true
  | str a =>
    obtain ⟨t', rfl⟩ := ry
    cases x with
    | non => cases rx; exact SeqAt.EqAt.str_none a t'
    | bl b => cases rx; exact SeqAt.EqAt.str_bool a t' b
    | int b => obtain ⟨t, rfl⟩ := rx; exact SeqAt.EqAt.str_int a t' b t
    | str b => obtain ⟨t, rfl⟩ := rx; exact SeqAt.EqAt.str_str a t' b t
    | _ => exact absurd (show false = true from fx) Bool.false_ne_true
  | _ => exact absurd (show false = true from fy) Bool.false_ne_true
def eqU (x : V) (u : Value) : Bool := match u with
  | .none => eqV .non x
  | .bool b => eqV (.bl b) x
  | .int i _ => eqV (.int i) x
  | .str z _ => eqV (.str z) x
  | _ => false
theorem eqU_of {x y : V} {u : Value} (r : RelV y u) (f : flatV y = true) : eqU x u = eqV y x := by
  cases y with
  | non => cases r; rfl
  | bl b => cases r; rfl
  | int i => obtain ⟨t, rfl⟩ := r; rfl
  | str z => obtain ⟨t, rfl⟩ := r; rfl
  | _ => exact absurd (show false = true from f) Bool.false_ne_true
theorem any_eqU {x : V} : ∀ {xs : List V} {us : List Value}, Vals xs us → xs.all flatV = true → us.any (eqU x) = xs.any fun y => eqV y x
  | _, _, .nil, _ => rfl
  | y :: xs, u :: us, .cons r t, f => by
    rw [List.all_cons, Bool.and_eq_true] at f
    rw [List.any_cons, List.any_cons, eqU_of r f.1, any_eqU t f.2]
theorem mem_eqAt {A : Around} {s : Shared} {x : V} {v : Value} (rx : RelV x v) (fx : flatV x = true) : ∀ {xs : List V} {us : List Value}, Vals xs us → xs.all flatV = true → ∀ u ∈ us, SeqAt.EqAt A s u v (eqU x u)
  | _, _, .nil, _ => fun u hu => by cases hu
  | y :: xs, u :: us, .cons r t, f => fun u' hu => by
    rw [List.all_cons, Bool.and_eq_true] at f
    rcases List.mem_cons.mp hu with rfl | hu
    · rw [eqU_of r f.1]; exact eqAt_V r rx f.1 fx
    · exact mem_eqAt rx fx t f.2 u' hu
def inV (x : V) (xs : List V) : Bool := xs.any fun y => eqV y x
def rIn (K : PySem.W.Frag) (neg : Bool) : R2 := fun x y H Q => ∃ p xs, y = .ref p ∧ (SqL K H p xs ∨ SqT K H p xs) ∧ flatV x = true ∧ xs.all flatV = true ∧ Q (.bl (if neg then !inV x xs else inV x xs)) H
theorem op_in_seq : OpR X (compareOp .In) (rIn X.K false) := by
  intro pins s σ H x y v u Q I rx ry h
  obtain ⟨p, xs, rfl, hq, fx, fs, q⟩ := h
  cases ry
  rcases hq with hq | hq
  · obtain ⟨its, r, pl, hz⟩ := I.list hq
    refine SeqAt.in_listAt (eqU x) pl.isList (fun w hw => mem_eqAt rx fx r fs w (by simpa using hw)) ⟨.bl _, H, I, rfl, ?_⟩
    rw [show its.toArray.any (eqU x) = its.any (eqU x) by simp, any_eqU r fs]
    exact q
  · obtain ⟨its, r, pl, hz⟩ := I.tuple hq
    refine SeqAt.in_tupleAt (eqU x) pl (fun w hw => mem_eqAt rx fx r fs w (by simpa using hw)) ⟨.bl _, H, I, rfl, ?_⟩
    rw [show its.toArray.any (eqU x) = its.any (eqU x) by simp, any_eqU r fs]
    exact q
theorem op_notIn_seq : OpR X (compareOp .NotIn) (rIn X.K true) := by
  intro pins s σ H x y v u Q I rx ry h
  obtain ⟨p, xs, rfl, hq, fx, fs, q⟩ := h
  cases ry
  rcases hq with hq | hq
  · obtain ⟨its, r, pl, hz⟩ := I.list hq
    refine SeqAt.notIn_listAt (eqU x) pl.isList (fun w hw => mem_eqAt rx fx r fs w (by simpa using hw)) ⟨.bl _, H, I, rfl, ?_⟩
    rw [show its.toArray.any (eqU x) = its.any (eqU x) by simp, any_eqU r fs]
    exact q
  · obtain ⟨its, r, pl, hz⟩ := I.tuple hq
    refine SeqAt.notIn_tupleAt (eqU x) pl (fun w hw => mem_eqAt rx fx r fs w (by simpa using hw)) ⟨.bl _, H, I, rfl, ?_⟩
    rw [show its.toArray.any (eqU x) = its.any (eqU x) by simp, any_eqU r fs]
    exact q
theorem call_len_seq : CallR X (.builtin "len") (fun xs H Q => ∃ p ys, xs = [.ref p] ∧ (SqL X.K H p ys ∨ SqT X.K H p ys) ∧ Q (.int ys.length) H) := by
  intro pins s σ H xs us Q I r h
  obtain ⟨p, ys, rfl, hq, q⟩ := h
  obtain ⟨u, rfl, rx⟩ := vals1 r
  cases rx
  have hn := line63
  rcases hq with hq | hq
  · obtain ⟨its, r', pl, hz⟩ := I.list hq
    have hlen := r'.length
    exact Calls.call_len_list pl.isList (by simp only [List.size_toArray] <;> omega) ⟨.int ys.length, H, I.tok _, ⟨s.toks + 1, by rw [List.size_toArray, hlen]⟩, q⟩
  · obtain ⟨its, r', pl, hz⟩ := I.tuple hq
    have hlen := r'.length
    exact len_tuple pl (by simp only [List.size_toArray] <;> omega) ⟨.int ys.length, H, I.tok _, ⟨s.toks + 1, by rw [List.size_toArray, hlen]⟩, q⟩
theorem call_len_str : CallR X (.builtin "len") (fun xs H Q => ∃ z, xs = [.str z] ∧ z.length ≤ sizeLine ∧ Q (.int z.length) H) := by
  intro pins s σ H xs us Q I r h
  obtain ⟨z, rfl, hz, q⟩ := h
  obtain ⟨u, rfl, t, rfl⟩ := vals1 r
  have hn := line63
  exact len_str (by omega) ⟨.int z.length, H, I.tok _, ⟨_, rfl⟩, q⟩
def tyV (K : PySem.W.Frag) (T : String) (x : V) (H : Hp) : Prop := match x with
  | .str _ => T = "str"
  | .int _ => T = "int"
  | .ref p => (T = "list" ∧ ∃ xs, SqL K H p xs) ∨ (T = "tuple" ∧ ∃ o, K.lookup p = some o ∧ o.cls = .type "tuple" ∧ o.dict = none) ∨
      (T = "dict" ∧ ((∃ kvs, H p = some (.dK kvs)) ∨ ∃ kvs, H p = some (.dT kvs))) ∨ (T = "set" ∧ ∃ S n, H p = some (.set S n))
  | _ => False
theorem tyV_is {pins : List (Addr × Obj)} {σ : St} {H : Hp} {s : Shared} {T : String} {x : V} {v : Value} (I : Inv X pins σ H s) (r : RelV x v) (ty : tyV X.K T x H) :
    s.TypeIs v T ∧ ∀ a, v = .ref a → ∃ ob, s.heap.get? a = some ob ∧ ob.dict = none := by
  cases x with
  | str z =>
    obtain ⟨t, rfl⟩ := r
    cases (show T = "str" from ty)
    exact ⟨typeIs_str s z t, fun _ e => nomatch e⟩
  | int i =>
    obtain ⟨t, rfl⟩ := r
    cases (show T = "int" from ty)
    exact ⟨typeIs_int s i t, fun _ e => nomatch e⟩
  | ref p =>
    cases r
    rcases ty with ⟨rfl, xs, hq⟩ | ⟨rfl, o, hk, hc, hd⟩ | ⟨rfl, hk⟩ | ⟨rfl, S, n, hk⟩
    · obtain ⟨its, _, pl, _⟩ := I.list hq
      refine ⟨pl.isList.typeIs, fun a e => ?_⟩
      cases e
      obtain ⟨o, n, e, c, hd, _⟩ := pl
      exact ⟨o, e, hd⟩
    · refine ⟨⟨o, I.kIn p o hk, hc⟩, fun a e => ?_⟩
      cases e
      exact ⟨o, I.kIn _ o hk, hd⟩
    · have z : ∃ o, s.heap.get? p = some o ∧ o.ExactDict := by
        rcases hk with ⟨kvs, hk⟩ | ⟨kvs, hk⟩
        · obtain ⟨_, _, _, _, o, _, _, e, ex, _⟩ := I.hok p _ hk
          exact ⟨o, e, ex⟩
        · obtain ⟨_, _, _, _, o, _, _, e, ex, _⟩ := I.hok p _ hk
          exact ⟨o, e, ex⟩
      obtain ⟨o, e, ex⟩ := z
      refine ⟨⟨o, e, ex.1⟩, fun a e2 => ?_⟩
      cases e2
      exact ⟨o, e, ex.2.1⟩
    · obtain ⟨o, _, _, _, e, ex, _⟩ := I.hok p _ hk
      refine ⟨⟨o, e, ex.1⟩, fun a e2 => ?_⟩
      cases e2
      exact ⟨o, e, ex.2.1⟩
  | _ => exact False.elim ty
def tBM0 (K : PySem.W.Frag) (T : String) (r : V → List V → Hp → VK → Prop) (to : TE) : TE := fun σ H Q => to σ H fun x H1 => tyV K T x H1 ∧ r x [] H1 Q
def tBM (K : PySem.W.Frag) (T : String) (r : V → List V → Hp → VK → Prop) (to : TE) (t : TA) : TE := fun σ H Q => to σ H fun x H1 => tyV K T x H1 ∧ t σ H1 fun xs H2 => r x xs H2 Q
variable {o e : Expr} {es : List Expr} {to : TE} {t : TA} {name : Str} {apos cpos : Pos} {T id : String} {r : V → List V → Hp → VK → Prop}
theorem pe_bm0 (pa : PlainAttrs T) (slot : Slot T name id) (hty : typeOf (.builtin id) = pure (.type "method_descriptor")) (hm : MtR X id r) (ho : PE X o to)
    (hbase : attributeBase o name X.env (eval o X.env) = eval o X.env := by rfl) (hline : (apos.endLine == cpos.line) = true := by rfl) : PE X (.Call (.Attribute o name apos) [] [] cpos) (tBM0 X.K T r to) := by
  intro pins s σ H Q I h
  refine wpAny_Call_method0_late hbase hline (thn (ho pins s σ H _ I h) fun v s1 ⟨x, H1, I1, r1, ty, q1⟩ => ?_)
  obtain ⟨h1, h2⟩ := tyV_is I1 r1 ty
  exact ⟨T, id, pa, slot, hty, h1, h2, Calls.callWith_builtin rfl (PySem.evalArgs_none (hm pins s1 σ H1 x [] v [] Q I1 r1 .nil q1))⟩
theorem pe_bm (pa : PlainAttrs T) (slot : Slot T name id) (hty : typeOf (.builtin id) = pure (.type "method_descriptor")) (hm : MtR X id r) (ho : PE X o to) (ha : PA X (e :: es) t)
    (hbase : attributeBase o name X.env (eval o X.env) = eval o X.env := by rfl)
    (hfew : ((backTo cpos (starEach (e :: es) X.env)).all (fun x => !x.1) && (backToKw cpos (keywordEach [] X.env)).all (fun x => x.1.isSome)
      && decide ((e :: es).length + ([] : List Keyword).length + (if ([] : List Keyword).isEmpty then 0 else 1) < 30)) = true := by rfl)
    (hline : (apos.endLine == cpos.line) = true := by rfl) (hs : starEach (e :: es) X.env = (false, eval e X.env) :: starEach es X.env := by rfl) (hplain : (backTo cpos (starEach es X.env)).any (·.1) = false := by rfl) :
    PE X (.Call (.Attribute o name apos) (e :: es) [] cpos) (tBM X.K T r to t) := by
  intro pins s σ H Q I h
  refine wpAny_Call_method_late hbase hfew hline rfl (thn (ho pins s σ H _ I h) fun v s1 ⟨x, H1, I1, r1, ty, q1⟩ => ?_)
  obtain ⟨h1, h2⟩ := tyV_is I1 r1 ty
  refine ⟨T, id, pa, slot, hty, h1, h2, ?_⟩
  have hA := ha cpos pins s1 σ H1 _ I1 q1
  rw [hs] at hA ⊢
  refine Calls.callWith_builtin (by show (false || (backTo cpos (starEach es X.env)).any (·.1)) = false; rw [hplain] <;> rfl) (Calls.evalArgs_plain ?_)
  exact thn hA fun us s2 ⟨vs, H2, I2, r2, q2⟩ => hm pins s2 σ H2 x vs v us Q I2 r1 r2 q2
/- xs.append(e), list.index on a module's tuple .. are MtR facts of 06m -/
end
end L2

namespace L2
open PySem PySem.Spec PyProof.Rows

def MtM (X : Cx) (id : String) (r : V → List V → Hp → VK → Prop) : Prop :=
  ∀ (pins : List (Addr × Obj)) (s : Shared) (σ : St) (H : Hp) (x : V) (xs : List V) (v : Value) (us : List Value) (Q : VK), Inv X pins σ H s → RelV x v → Vals xs us → r x xs H Q →
    wpAny (model X.prog X.w) X.A (call (.builtin id) (v :: us)) (EP X pins σ Q) X.xe s

theorem Vals.one : ∀ {x : V} {us : List Value}, Vals [x] us → ∃ u, us = [u] ∧ RelV x u := by
  intro x us h
  cases h with
  | cons r h => cases h; exact ⟨_, rfl, r⟩
theorem Vals.two : ∀ {x y : V} {us : List Value}, Vals [x, y] us → ∃ u v, us = [u, v] ∧ RelV x u ∧ RelV y v := by
  intro x y us h
  cases h with
  | cons r h => cases h with
    | cons q h => cases h; exact ⟨_, _, rfl, r, q⟩
theorem Vals.zero : ∀ {us : List Value}, Vals [] us → us = []
  | _, .nil => rfl
theorem Vals.dropLast {xs : List V} {us : List Value} (h : Vals xs us) : Vals xs.dropLast us.dropLast := by
  induction h with
  | nil => exact .nil
  | cons r t ih =>
    cases t with
    | nil => exact .nil
    | cons q t' => exact .cons r ih
theorem erase_last {α : Type} (l : List α) : l.eraseIdx (l.length - 1) = l.dropLast := by
  induction l with
  | nil => rfl
  | cons a r ih =>
    cases r with
    | nil => rfl
    | cons b r =>
      have e : (a :: b :: r).length - 1 = ((b :: r).length - 1) + 1 := by
        have h1 : (a :: b :: r).length = r.length + 2 := rfl
        have h2 : (b :: r).length = r.length + 1 := rfl
        omega
      rw [e, List.eraseIdx_cons_succ, ih]
      all_goals rfl
section
variable {X : Cx} {pins : List (Addr × Obj)} {σ : St} {H : Hp} {s : Shared} {l b : Addr} {xs ys zs : List V}

theorem Inv.lset {its its' : List Value} {n : Nat} {f : Array Value → Array Value} {t' : Nat} (I : Inv X pins σ H s) (hH : H l = some (.lst xs))
    (e : s.heap.get? l = some { cls := .type "list", data := .seq its.toArray n }) (hf : f its.toArray = its'.toArray) (hv : Vals ys its') (hz : ys.length ≤ sizeLine) :
    Inv X pins σ (upd H l (.lst ys)) { s with heap := s.heap.update l (Obj.mapSeq f), toks := t' } := by
  have q := PySem.IsL.update e f
  rw [hf] at q
  refine I.write (x := l) (e := l) (by rw [hH]; exact trivial) (.inl rfl) (fun b' u hb hu => (Heap.get?_update_other s.heap (Obj.mapSeq f) (Ne.symm hb)).trans hu) ⟨_, q⟩ ?_
  exact ⟨hz, its', _, hv, q⟩
theorem Inv.lnew {its : List Value} {t' : Nat} (I : Inv X pins σ H s) (hv : Vals ys its) (hz : ys.length ≤ sizeLine) :
    Inv X pins σ (upd H s.heap.objs.size (.lst ys)) { s with heap := s.heap.push { cls := .type "list", data := .seq its.toArray }, toks := t' } :=
  I.laid (fun _ _ q => Heap.get?_push_of_some _ q) (Nat.le_refl _) ⟨hz, its, 0, hv, Heap.get?_push_size _ rfl⟩
theorem Inv.fresh (I : Inv X pins σ H s) : H s.heap.objs.size = none := I.hok.fresh (Nat.le_refl _)
theorem Inv.lstM (I : Inv X pins σ H s) (hH : H l = some (.lst xs)) : xs.length ≤ sizeLine ∧ ∃ (its : List Value) (n : Nat), Vals xs its ∧ xs.length = its.length ∧ s.heap.get? l = some { cls := .type "list", data := .seq its.toArray n } := by
  obtain ⟨z, its, n, r, e⟩ := I.hok l _ hH
  exact ⟨z, its, n, r, r.length, e⟩

theorem notLongL {n : Nat} (h : n ≤ sizeLine) : Builtin.List.listTooLong n = false := by
  unfold Builtin.List.listTooLong
  exact decide_eq_false (by omega)
end

section
variable {X : Cx}

def rAppend : V → List V → Hp → VK → Prop := fun x vs H Q => ∃ l xs y, x = .ref l ∧ vs = [y] ∧ H l = some (.lst xs) ∧ xs.length < sizeLine ∧ Q .non (upd H l (.lst (xs ++ [y])))
theorem mt_append : MtM X "list.append" rAppend := by
  intro pins s σ H x vs v us Q I rx rv h
  obtain ⟨l, xs, y, rfl, rfl, hH, hz, q⟩ := h
  cases rx
  obtain ⟨u, rfl, ru⟩ := rv.one
  obtain ⟨z, its, n, r, hl, e⟩ := I.lstM hH
  refine call_meets F.slot_list_append ⟨_, e, rfl⟩ F.entry_list_append (F.args_list_append_2 _ _) (PySem.list_append l its.toArray n u (by rw [List.size_toArray]; omega)) ⟨e, ?_⟩
  refine ⟨.non, _, I.lset (its' := its ++ [u]) hH e (by simp) (r.append (.cons ru .nil)) ?_, rfl, q⟩
  rw [List.length_append, List.length_singleton]
  omega

def rExtend : V → List V → Hp → VK → Prop := fun x vs H Q => ∃ l b xs zs, x = .ref l ∧ vs = [.ref b] ∧ H l = some (.lst xs) ∧ H b = some (.lst zs) ∧ xs.length + zs.length ≤ sizeLine ∧ Q .non (upd H l (.lst (xs ++ zs)))
theorem mt_extend : MtM X "list.extend" rExtend := by
  intro pins s σ H x vs v us Q I rx rv h
  obtain ⟨l, b, xs, zs, rfl, rfl, hH, hB, hz, q⟩ := h
  cases rx
  obtain ⟨u, rfl, ru⟩ := rv.one
  cases ru
  obtain ⟨z, its, n, r, hl, e⟩ := I.lstM hH
  obtain ⟨z2, its2, n2, r2, hl2, e2⟩ := I.lstM hB
  have hsz : its.toArray.size + its2.toArray.size ≤ sizeLine := by rw [List.size_toArray, List.size_toArray]; omega
  have hlong : ¬ (!its.toArray.isEmpty && Builtin.List.listTooLong (its.toArray.size + its2.toArray.size)) = true := by
    rw [notLongL hsz, Bool.and_false]
    exact Bool.false_ne_true
  refine call_meets F.slot_list_extend ⟨_, e, rfl⟩ F.entry_list_extend (F.args_list_extend_2 _ _)
    (AutoSeq1.list_extend_list_list_0 l its.toArray n b its2.toArray n2 hlong (by rw [List.size_toArray]; omega) (by omega)) ⟨e, e2, ?_⟩
  refine ⟨.non, _, I.lset (its' := its ++ its2) hH e (by simp) (r.append r2) ?_, rfl, q⟩
  rw [List.length_append]
  omega

def rPop : V → List V → Hp → VK → Prop := fun x vs H Q => ∃ l xs y, x = .ref l ∧ vs = [] ∧ H l = some (.lst xs) ∧ xs[xs.length - 1]? = some y ∧ Q y (upd H l (.lst xs.dropLast))
theorem mt_pop : MtM X "list.pop" rPop := by
  intro pins s σ H x vs v us Q I rx rv h
  obtain ⟨l, xs, y, rfl, rfl, hH, hy, q⟩ := h
  cases rx
  have hus := rv.zero
  subst hus
  obtain ⟨z, its, n, r, hl, e⟩ := I.lstM hH
  obtain ⟨u, hu, ru⟩ := r.get hy
  have hy' : its.toArray[its.toArray.size - 1]? = some u := by
    show its.toArray[its.length - 1]? = some u
    rw [← Array.getElem?_toList, ← hl]
    exact hu
  refine call_meets F.slot_list_pop ⟨_, e, rfl⟩ F.entry_list_pop (F.args_list_pop_1 _) (MeetsSeq.list_pop_last l its.toArray n u hy' (by rw [List.size_toArray]; omega)) ⟨e, ?_⟩
  refine ⟨y, _, I.lset (its' := its.dropLast) hH e ?_ r.dropLast ?_, ru, q⟩
  · show its.toArray.eraseIdxIfInBounds (its.toArray.size - 1) = its.dropLast.toArray
    rw [List.size_toArray, List.eraseIdxIfInBounds_toArray, erase_last]
  · rw [List.length_dropLast]
    omega

def rCat : R2 := fun x y H Q => ∃ l b xs zs, x = .ref l ∧ y = .ref b ∧ H l = some (.lst xs) ∧ H b = some (.lst zs) ∧ xs.length + zs.length ≤ sizeLine ∧ ∀ p, H p = none → Q (.ref p) (upd H p (.lst (xs ++ zs)))
theorem op_cat : OpR X (binaryOp .Add) rCat := by
  intro pins s σ H x y v u Q I rx ry h
  obtain ⟨l, b, xs, zs, rfl, rfl, hH, hB, hz, q⟩ := h
  cases rx
  cases ry
  obtain ⟨z, its, n, r, hl, e⟩ := I.lstM hH
  obtain ⟨z2, its2, n2, r2, hl2, e2⟩ := I.lstM hB
  refine PySem.P.add_list e e2 ?_ (by rw [List.size_toArray, List.size_toArray]; omega)
  have ea : its.toArray ++ its2.toArray = (its ++ its2).toArray := by simp
  rw [ea]
  exact ⟨.ref _, _, I.lnew (t' := s.toks) (r.append r2) (by rw [List.length_append]; omega), rfl, q _ I.fresh⟩
end

section
variable {prog : Program} {w : World} {A : Around} {E : Value → Shared → Prop} {s : Shared}
end

section
variable {X : Cx}
end
end L2

namespace Att
open PySem PySem.W PySem.Calls PyProof.Rows

theorem ints_of_wellAll {P : Params} {h : Heap} : ∀ (ns : List Int) (vs : List Value), WellAll P h vs (ns.map WData.int) → IntsAre vs ns := by
  intro ns
  induction ns with
  | nil =>
    intro vs w
    rw [List.map_nil] at w
    cases w
    exact .nil
  | cons n ns ih =>
    intro vs w
    rw [List.map_cons] at w
    cases w with
    | cons a b =>
      cases a
      exact .cons _ _ (ih _ b)

theorem script_of {l : OpenLaw} {n : Nat} (hn : l.most = some n) {P : Params} {h : Heap} {args : List WData} {vals : List Value}
    (hpre : l.row.toRowW.claim.pre args = true) (hwl : WellAll P h vals args) :
    ∃ a vs ns, vals = [Value.ref a] ∧ args = [WData.list (ns.map WData.int)] ∧ h.get? a = some { cls := .type "list", data := .seq vs.toArray } ∧ IntsAre vs ns ∧ ns.length ≤ n := by
  have hsh : WShape.hasAll [] args [.list .int] = true := (pre_splitW hpre).1
  have hc : l.pre.holds [] { args := args } = true := (pre_splitW hpre).2
  obtain ⟨d, r, rfl, h1, h2⟩ := hasAllW_cons hsh
  obtain rfl := hasAllW_nil h2
  obtain ⟨xs, rfl, h3⟩ := hasW_list h1
  obtain ⟨ns, rfl⟩ := items_int h3
  have hlen : ns.length ≤ n := by
    unfold OpenLaw.pre at hc
    have h4 : (WTm.not (.lt (.lit (.int (n : Int))) (.len (.arg 0)))).holds [] { args := [.list (ns.map .int)] } = true := by
      have h4 := (holds_andW hc).1
      rw [hn] at h4
      exact h4
    have h5 := condW_of h4 (w_not (w_lt w_lit (w_len_list (w_arg rfl))))
    rw [List.length_map] at h5
    refine Nat.le_of_not_lt fun q => ?_
    have q' : (n : Int) < ((ns.length : Nat) : Int) := by omega
    first
      | (rw [decide_eq_true q'] at h5; exact absurd h5 (by decide))
      | (simp at h5; omega)
  cases hwl with
  | cons w1 w2 =>
    cases w2
    cases w1 with
    | list ho hall => exact ⟨_, _, ns, rfl, rfl, ho, ints_of_wellAll ns _ hall, hlen⟩

theorem post_true (l : OpenLaw) (args : List WData) : l.row.toRowW.claim.post args (.bool true) args = true :=
  postW_of (r := l.row.toRowW) (X := (true == true))
    (show WShape.has [] (.bool true) .bool = true by first | rfl | decide | simp [WShape.has, WShape.arms, WShape.armsAll])
    (show (WTm.eq .res (.lit (.bool true))).value [] { args := args, res := some (.bool true), after := args } = some (.bool (true == true)) from w_eq_bool (w_res rfl) w_lit) rfl

theorem attach_call {l : OpenLaw} {n : Nat} {q : Program} {loose : List Str} {XP : (Str → Option Value) → Heap → Prop} {YP : World → Heap → Prop} {d : DefRec}
    (hn : l.most = some n) (hdf : d.params.defaults = [])
    (call : ∀ (w : World) (s₀ s₁ : Shared) (mg mb : Str → Option Value) (fa : Addr) (o : Obj) (pm cd doc : Value) (a : Addr) (vs : List Value) (ns : List Int),
      Ground q loose [] XP w s₀ mg mb s₁.heap → YP w s₁.heap →
      s₁.heap.get? fa = some o → o.data = .func (docDef d.name d.params d.body d.scope pm cd doc) → s₁.heap.CodeRec cd d.name → mg d.name = some (.ref fa) →
      s₁.heap.get? a = some { cls := .type "list", data := .seq vs.toArray } → IntsAre vs ns → ns.length ≤ n → s₁.gens = #[] →
      codeAny (model l.prog w) callerA (.call (.ref fa) ⟨[.ref a], []⟩) (fun r s' => r = .ok (.ret (.bool true)) ∧ OldK s₁.heap s'.heap ∧ s'.os = s₁.os ∧ AllBare s'.gens) s₁) :
    WalkO q loose XP YP l.row.toRowW d [] (fun f vs => PySem.call f vs) := by
  intro w s₀ s₁ mg mb G Y fa o pm cd doc dV kV ho hd hcd hD hmg hg args vals as hpre hlay hrd hwl hlo
  obtain rfl : dV = .none := Dflts.none hD hdf
  obtain rfl : kV = .none := Dflts.noKw hD
  obtain ⟨a, vs, ns, rfl, rfl, hobj, hints, hlen⟩ := script_of hn hpre hwl
  refine enter_call (codeAny_mono (call w s₀ s₁ mg mb fa o pm cd doc a vs ns G Y ho (fd_plain hd) hcd hmg hobj hints hlen hg) fun r s' hq => ?_)
  obtain ⟨rfl, h2, h3, h4⟩ := hq
  exact ⟨.inl ⟨.bool true, .bool true, [], rfl, fun _ => rfl, .bool true, post_true l _, fun _ => ⟨List.Pairwise.nil, fun _ hm => (nomatch hm)⟩⟩, h2, h3, h4⟩

section
variable {prog : Program} {w : World} {A : Around} {E : Value → Shared → Prop} {s : Shared} {K : Frag}

end
end Att

namespace L2
open PySem PySem.Spec PyProof.Rows

theorem vals_ints : ∀ {vs : List Value} {ns : List Int}, IntsAre vs ns → Vals (ns.map V.int) vs
  | _, _, .nil => .nil
  | _, _, .cons n t h => .cons ⟨t, rfl⟩ (vals_ints h)

def Only (H : Hp) : Prop := ∀ b, H b = none ∨ ∃ o xs, H b = some (.frz o (.lst xs))

theorem law_call {P : Program} {w : World} {K : PySem.W.Frag} {mg mb : Str → Option Value} {CX : CXT} {k : Nat} {fa a : Addr} {fd : FuncData} {x : Str} {sp : Sp} {s₁ : Shared} {vs : List Value} {ns : List Int}
    (KX : K.In s₁.heap) (hns : s₁.heap.Ns mainGlobals mg) (hb : s₁.heap.Ns builtinsNs mb) (hbb : ∀ x : Str, x ≠ "__name__" → mb x = bootBuiltins x) (hlim : s₁.heap.NoLimit) (hg : s₁.gens = #[])
    (ha : s₁.heap.get? a = some { cls := .type "list", data := .seq vs.toArray }) (hi : IntsAre vs ns) (hl : ns.length ≤ sizeLine) (hr : Room k callerA)
    (F : ∀ base : Heap, K.In base → base.Ns mainGlobals mg → FnOk P w K mg base CX k fa fd [x] sp) (hbind : ∀ (s : Shared) (u : Value), BindsTo s fd ⟨[u], []⟩ [(x, u)])
    (hsp : ∀ H : Hp, Only H → SqL K H a (ns.map V.int) → sp [.ref a] H (fun v _ => v = .bl true) fun _ _ _ => False)
    (hCX : ∀ H e s', CX [] H s₁ (fun _ _ _ => False) e s' → False) :
    codeAny (model P w) callerA (.call (.ref fa) ⟨[.ref a], []⟩) (fun r s' => r = .ok (.ret (.bool true)) ∧ OldK s₁.heap s'.heap ∧ s'.os = s₁.os ∧ AllBare s'.gens) s₁ := by
  have rv := vals_ints hi
  have lenV := hi.length
  -- from an abstract heap in which nothing but the script may be tracked
  have core : ∀ H : Hp, Only H → SqL K H a (ns.map V.int) → HOk P w H s₁.heap → (∀ b, H b ≠ none → b = a) → (H a ≠ none → K.lookup a = none) →
      codeAny (model P w) callerA (.call (.ref fa) ⟨[.ref a], []⟩) (fun r s' => r = .ok (.ret (.bool true)) ∧ OldK s₁.heap s'.heap ∧ s'.os = s₁.os ∧ AllBare s'.gens) s₁ := by
    intro H hO hS hok hA hK
    have base_of : ∀ {b : Addr} {o : Obj}, s₁.heap.get? b = some o → H b = none → (hidT s₁.heap H).get? b = some o := fun e n => hidT_get e n
    have noA : ∀ {b : Addr} {o : Obj} {es : Array DictEntry} {ep : Nat}, s₁.heap.get? b = some o → o.data = .dict es ep → H b = none := fun {b o es ep} e d => by
      cases q : H b with
      | none => rfl
      | some u =>
        have e' : b = a := hA b (by rw [q]; simp)
        subst e'
        rw [ha] at e; cases e
        have d' : Data.seq vs.toArray _ = Data.dict es ep := d
        cases d'
    have nsK : ∀ {b : Addr} {m : Str → Option Value}, s₁.heap.Ns b m → (hidT s₁.heap H).Ns b m := fun {b m} ⟨o, es, ep, e, d, r⟩ => ⟨o, es, ep, base_of e (noA e d), d, r⟩
    have hKb : K.In (hidT s₁.heap H) := fun b o e => base_of (KX b o e) (by
      cases q : H b with
      | none => rfl
      | some u =>
        have e' : b = a := hA b (by rw [q]; simp)
        subst e'
        rw [hK (by rw [q]; simp)] at e; cases e)
    have hM : Mod K mg (hidT s₁.heap H) := ⟨hKb, nsK hns, ⟨mb, nsK hb, hbb⟩, let ⟨mc, h1, h2⟩ := hlim; ⟨mc, nsK h1, h2⟩⟩
    have e0 : Env0 P w K mg (hidT s₁.heap H) callerA [] s₁ H := ⟨rfl, hM, fun b o e => of_hidT e, Nat.le_of_eq (hidT_size _ _), trivial, fun b hb => absurd (show b ∈ ([] : List Addr) from hb) (by simp), hok, .of_eq hg⟩
    refine codeAny_mono ((F _ hKb (nsK hns)).run callerA [] s₁ H ⟨[.ref a], []⟩ [.ref a] [.ref a] _ _ hr e0 (hbind s₁ (.ref a)) (.cons rfl .nil) (hsp H hO hS)) fun r s' h => ?_
    cases r with
    | error e => exact (hCX H e s' h).elim
    | ok fl =>
      cases fl with
      | next => exact False.elim h
      | brk => exact False.elim h
      | cont => exact False.elim h
      | ret u =>
        obtain ⟨v, H', os, bare, un, hok', r', q⟩ := h
        have q' : v = .bl true := q
        subst q'
        obtain rfl : u = Value.bool true := r'
        refine ⟨rfl, OldK.of_keep fun b o e => ?_, os, bare⟩
        cases q : H b with
        | none => exact un.keep b o e q (by intro z; exact absurd (show b ∈ ([] : List Addr) from z) (by simp)) (by simp)
        | some u =>
          rcases hO b with z | ⟨ob, xs, z⟩
          · rw [q] at z; cases z
          · have z2 := un.frzs b ob _ z
            obtain ⟨e1, _⟩ := hok b _ z
            obtain ⟨e2, _⟩ := hok' b _ z2
            rw [e] at e1; cases e1
            exact e2
  cases hk : K.lookup a with
  | some o =>
    -- the script is one of the module's own objects
    have e := KX a o hk
    rw [ha] at e
    cases e
    refine core (fun _ => none) (fun _ => .inl rfl) (.inr ⟨_, vs.toArray, _, hk, rfl, rfl, rfl, by rw [List.size_toArray, lenV]; exact hl, by simpa using rv⟩) (fun b u z => by have z' : (none : Option HO) = some u := z; cases z') (fun b z => absurd rfl z) fun z => absurd rfl z
  | none =>
    refine core (fun b => if b = a then some (.frz { cls := .type "list", data := .seq vs.toArray } (.lst (ns.map V.int))) else none) (fun b => ?_) (.inl (.inr ⟨{ cls := .type "list", data := .seq vs.toArray }, if_pos rfl⟩)) (fun b u z => ?_) (fun b z => ?_) fun _ => hk
    · by_cases hb : b = a
      · exact .inr ⟨_, _, if_pos hb⟩
      · exact .inl (if_neg hb)
    · by_cases hb : b = a
      · have z' := (if_pos hb).symm.trans z
        cases z'
        subst hb
        exact ⟨ha, by rw [List.length_map]; exact hl, vs, _, rv, ha⟩
      · have z' := (if_neg hb).symm.trans z
        cases z'
    · by_cases hb : b = a
      · exact hb
      · exact absurd (if_neg hb) z
end L2

namespace L2
open PySem PySem.Spec PyProof.Rows

theorem walk_of {l : PySem.W.OpenLaw} {n k : Nat} {q : Program} {loose : List Str} {XP : (Str → Option Value) → Heap → Prop} {YP : World → Heap → Prop} {d : DefRec} {K : Params → PySem.W.Frag} {CX : World → CXT} {sp : World → Sp} {x : Str}
    (hn : l.most = some n) (hn2 : n ≤ sizeLine) (hdf : d.params.defaults = []) (hr : Room k callerA)
    (hY : ∀ (w : World) (h : Heap), YP w h → (K w.params).In h)
    (F : ∀ (w : World) (mg : Str → Option Value) (fa : Addr) (h : Heap), (K w.params).In h → h.Ns mainGlobals mg → mg d.name = some (.ref fa) →
      ∃ fd : FuncData, (∀ (s : Shared) (u : Value), BindsTo s fd ⟨[u], []⟩ [(x, u)]) ∧
        ∀ base : Heap, (K w.params).In base → base.Ns mainGlobals mg → FnOk l.prog w (K w.params) mg base (CX w) k fa fd [x] (sp w))
    (hsp : ∀ (w : World) (H : Hp) (a : Addr) (ns : List Int), ns.length ≤ n → Only H → SqL (K w.params) H a (ns.map V.int) → sp w [.ref a] H (fun v _ => v = .bl true) fun _ _ _ => False)
    (hCX : ∀ (w : World) (H : Hp) (s : Shared) (e : Value) (s' : Shared), CX w [] H s (fun _ _ _ => False) e s' → False) :
    PySem.W.WalkO q loose XP YP l.row.toRowW d [] (fun f vs => PySem.call f vs) := by
  refine Att.attach_call hn hdf fun w s₀ s₁ mg mb fa o pm cd doc a vs ns G Y ho hd hcd hmg hobj hints hlen hg => ?_
  have KX := hY w _ Y
  obtain ⟨fd, hb, hF⟩ := F w mg fa _ KX G.T.g hmg
  exact law_call KX G.T.g G.T.b G.T.builtins G.T.nolimit hg hobj hints (Nat.le_trans hlen hn2) hr hF hb (fun H hO hS => hsp w H a ns hlen hO hS) fun H e s' => hCX w H s₁ e s'
end L2

/- THE LAST THEOREM (shape; LID, My.* are yours):
   My.Adr: a structure of the addresses that your layer names (classes, functions); My.Txt K t: a structure (Prop) of the equations over K;
   My.txt_mk : {K} {implicit addresses ..} (e1 : nsIn K mainGlobals "law" = some (some (.ref f))) (e2 : K.lookup f = some ⟨oc, od, .func (fnOf "law" "law" params body scope dV kV doc pm an cdv ct), sl⟩) (e3 : codeIn K cdv "law" = true) .. : ∃ t, My.Txt K t

set_option maxRecDepth 100000 in
set_option maxHeartbeats 0 in
theorem PySem.Challenge.cw_LID_holds : PySem.Challenge.rw_LID.Holds := by
  w_on; o_law; k_head; (case hw => w_witness2)
  k_fill
  refine L2.walk_of (l := PySem.Challenge.rw_LID) (n := 63) (k := 40) (x := "script") (CX := fun w => ..) (sp := fun _ => My.sp_law) rfl (by decide) rfl ⟨rfl, by decide, by decide⟩ (fun w h Y => PySem.W.kIn_of Y) ?F ?S ?C
  case F =>
    intro w mg fa h KX G hmg
    have T : ∃ t, My.Txt (L2.KOf KX) t := by
      dsimp only [L2.KOf]                          -- K must stand as «<heap const> w.params» for k_is
      refine' My.txt_mk ?e1 ?e2 ?e3 ..
      (case e1 => PySem.W.k_is)                    -- in the order: a name -> its address -> its object -> its parts
      (case e2 => PySem.W.k_is)
      ..
    obtain ⟨t, T⟩ := T
    have e0 := hmg.symm.trans (PySem.W.mg_of KX G T.law)
    cases e0                                       -- fa is the law's own address
    exact ⟨_, fun s u => .of_eq rfl, fun base kb nb => My.law_fn T kb nb⟩     -- if «.of_eq rfl» comes too early: refine' ⟨_, ?b, fun base kb nb => My.law_fn T kb nb⟩; exact fun s u => .of_eq rfl
  case S => exact fun w H a ns hl hO hS => ..
  case C => exact ..
(the tactic k_is has no namespace: write k_is) -/

namespace L2
open PySem PySem.Spec PyProof.Rows

def defArgs (s : Stmt) : Arguments := match s with
  | .FunctionDef _ a _ _ _ _ _ _ _ _ => a
  | _ => { posonlyargs := [], args := [], vararg := none, kwonlyargs := [], kw_defaults := [], kwarg := none, defaults := [] }
def defBody (s : Stmt) : List Stmt := match s with
  | .FunctionDef _ _ b _ _ _ _ _ _ _ => b
  | _ => []
def defScope (s : Stmt) : Scope := match s with
  | .FunctionDef _ _ _ _ _ _ sc _ _ _ => sc
  | _ => { kind := .function, names := [], isGenerator := false, isCoroutine := false }

abbrev CX0 : CXT := fun _ _ _ _ _ _ => False
abbrev E0 : XK := fun _ _ _ => False
theorem pass0 {X : Cx} : Passes CX0 X E0 := fun _ _ _ _ _ _ _ h => h.elim

structure Fun (K : PySem.W.Frag) (x qual : Str) (st : Stmt) (f : Addr) (fd : FuncData) : Prop where
  ex : ∃ (oc : Value) (od : Option Addr) (kV doc pm : Value) (an : Option Addr) (cdv ct : Value) (osl : Array (Option Value)),
    fd = PySem.W.fnOf x qual (defArgs st) (defBody st) (defScope st) .none kV doc pm an cdv ct ∧ K.lookup f = some ⟨oc, od, .func fd, osl⟩ ∧ PySem.W.codeIn K cdv qual = true
  kp : PySem.W.keepIn K (.ref f) = true
section
variable {P : Program} {w : World} {K : PySem.W.Frag} {mg : Str → Option Value} {base : Heap}
theorem Fun.ok {x qual : Str} {st : Stmt} {f : Addr} {fd : FuncData} {N ps : List Str} {k : Nat} {sp : Sp} (F : Fun K x qual st f fd) (S : FnScope N ps (defScope st)) (len : ∀ vs H Q E, sp vs H Q E → vs.length = ps.length)
    (hbody : ∀ (cdv : Value) (A : Around) (outer : List Env) (s : Shared) (H : Hp) (vs : List V) (Q : VK) (E : XK), Room k (A.deeper (envOfC qual (defScope st) s.heap.objs.size f cdv)) → sp vs H Q E →
      ∃ t, PSs (cxOf CX0 P w K mg base N qual (defScope st) f cdv A outer s H E).nox (defBody st) t ∧ t { nx := fun _ H' => Q .non H', rt := Q } (start N vs) H) : FnOk P w K mg base CX0 (k + 1) f fd ps sp := by
  obtain ⟨oc, od, kV, doc, pm, an, cdv, ct, osl, rfl, lk, hcd⟩ := F.ex
  refine fn_of lk hcd S len fun A outer s H vs Q E hr hsp => ?_
  obtain ⟨t, h, q⟩ := hbody cdv A outer s H vs Q E hr hsp
  exact ⟨t, h.nox, q⟩
theorem Fun.binds {x qual : Str} {st : Stmt} {f : Addr} {fd : FuncData} {ps : List Str} (F : Fun K x qual st f fd)
    (h : ∀ (kV doc pm : Value) (an : Option Addr) (cdv ct : Value) (us : List Value), us.length = ps.length → bindArgs (PySem.W.fnOf x qual (defArgs st) (defBody st) (defScope st) .none kV doc pm an cdv ct) ⟨us, []⟩ = pure (ps.zip us)) : Binds K fd ps [] := by
  obtain ⟨oc, od, kV, doc, pm, an, cdv, ct, osl, rfl, lk, hcd⟩ := F.ex
  exact .all (h kV doc pm an cdv ct)
theorem fun_mk {x qual : Str} {st : Stmt} {f : Addr} {oc : Value} {od an : Option Addr} {osl : Array (Option Value)} {kV doc pm cdv ct : Value} (l : K.lookup f = some ⟨oc, od, .func (PySem.W.fnOf x qual (defArgs st) (defBody st) (defScope st) .none kV doc pm an cdv ct), osl⟩)
    (c : PySem.W.codeIn K cdv qual = true) (k : PySem.W.keepIn K (.ref f) = true) : Fun K x qual st f (PySem.W.fnOf x qual (defArgs st) (defBody st) (defScope st) .none kV doc pm an cdv ct) := ⟨⟨oc, od, kV, doc, pm, an, cdv, ct, osl, rfl, l, c⟩, k⟩
end
section
variable {X : Cx}
theorem pv (i : Nat) {x : Str} {pos : Pos} (hN : X.N[i]? = some x := by rfl) (hv : Vis X.env.scope x := by first | exact Or.inl rfl | exact Or.inr (Or.inl rfl) | exact Or.inr (Or.inr rfl)) (hd : (x == ("__debug__" : Str)) = false := by decide)
    (hcd : (x == ("__classdict__" : Str)) = false := by decide) : PE X (.Name x pos) (tVar i) := pe_var hN hv hd hcd
end

theorem iteF {A B : Prop} (h : B) : if false = true then A else B := by
  rw [if_neg Bool.false_ne_true]
  exact h
theorem iteT {A B : Prop} (h : A) : if true = true then A else B := by
  rw [if_pos rfl]
  exact h
theorem ite2 {c A B : Prop} [Decidable c] (h1 : c → A) (h2 : ¬ c → B) : if c then A else B := by
  by_cases h : c
  · rw [if_pos h]
    exact h1 h
  · rw [if_neg h]
    exact h2 h
def Same (H H' : Hp) : Prop := ∀ b o, H b = some o → H' b = some o
theorem Same.refl (H : Hp) : Same H H := fun _ _ h => h
theorem Same.trans {H H1 H2 : Hp} (a : Same H H1) (b : Same H1 H2) : Same H H2 := fun c o h => b c o (a c o h)
theorem Same.free {H H' : Hp} (e : Same H H') {l : Addr} (h : H' l = Option.none) : H l = Option.none := by
  cases q : H l with
  | none => rfl
  | some o =>
    rw [e l o q] at h
    cases h
theorem Same.seq {K : PySem.W.Frag} {H H' : Hp} {a : Addr} {xs : List V} (e : Same H H') (h : SqL K H a xs) : SqL K H' a xs := by
  rcases h with (h | ⟨o, h⟩) | h
  · exact .inl (.inl (e _ _ h))
  · exact .inl (.inr ⟨o, e _ _ h⟩)
  · exact .inr h

end L2

set_option Elab.async false
set_option linter.all false
set_option maxRecDepth 100000
set_option maxHeartbeats 4000000
namespace L2
open PySem PySem.Spec PyProof.Rows

def clOf (cells : List (Str × Addr)) : List (Str × NameKind) → List (Str × Addr) → List (Str × Addr)
  | [], cs => cs
  | x :: r, cs => clOf cells r (if x.2 = .free then ((cells.lookup x.1).map fun c => (x.1, c)).toList ++ cs else cs)

theorem closureFor_ok {scope : Scope} {env : Env} (h : ∀ x ∈ scope.names, x.2 = .free → ∃ c, env.cells.lookup x.1 = some c) :
    closureFor scope env = pure (clOf env.cells scope.names []) := by
  have key : ∀ (l : List (Str × NameKind)) (cs : List (Str × Addr)) (f : Str × NameKind → List (Str × Addr) → Sem (ForInStep (List (Str × Addr)))),
      (∀ x ∈ l, x.2 = .free → ∃ c, env.cells.lookup x.1 = some c) →
      (∀ x cs, f x cs = if (x.2 == NameKind.free) = true then (cellOf env x.1 >>= fun a => pure (ForInStep.yield ((x.1, a) :: cs))) else pure (ForInStep.yield cs)) →
      forIn l cs f = pure (clOf env.cells l cs) := by
    intro l
    induction l with
    | nil => intro cs f _ _; rfl
    | cons x r ih =>
      intro cs f hx hf
      rw [List.forIn_cons, hf]
      by_cases hk : x.2 = .free
      · obtain ⟨c, hc⟩ := hx x List.mem_cons_self hk
        rw [if_pos (by simp [hk])]
        have e : cellOf env x.1 = pure c := by unfold cellOf; rw [hc]
        rw [e]
        simp only [pure_bind]
        rw [ih _ f (fun y hy => hx y (List.mem_cons_of_mem _ hy)) hf]
        show _ = pure (clOf env.cells r (if x.2 = .free then ((env.cells.lookup x.1).map fun c => (x.1, c)).toList ++ cs else cs))
        rw [if_pos hk, hc]
        rfl
      · rw [if_neg (by simp [hk])]
        simp only [pure_bind]
        rw [ih _ f (fun y hy => hx y (List.mem_cons_of_mem _ hy)) hf]
        show _ = pure (clOf env.cells r (if x.2 = .free then ((env.cells.lookup x.1).map fun c => (x.1, c)).toList ++ cs else cs))
        rw [if_neg hk]
  simp only [closureFor]
  rw [key scope.names [] _ h (fun x cs => by obtain ⟨n, k⟩ := x; rfl)]
  first | rfl | simp only [pure_bind]

theorem clOf_in {cells : List (Str × Addr)} : ∀ (l : List (Str × NameKind)) (cs : List (Str × Addr)) {x : Str} {c : Addr}, (clOf cells l cs).lookup x = some c → cs.lookup x = some c ∨ cells.lookup x = some c
  | [], _, _, _, h => .inl h
  | y :: r, cs, x, c, h => by
    have h' : (clOf cells r (if y.2 = .free then ((cells.lookup y.1).map fun c => (y.1, c)).toList ++ cs else cs)).lookup x = some c := h
    rcases clOf_in r _ h' with q | q
    · by_cases hk : y.2 = .free
      · rw [if_pos hk] at q
        cases hl : cells.lookup y.1 with
        | none => rw [hl] at q; exact .inl q
        | some d =>
          rw [hl] at q
          have q' : (((y.1, d) :: cs).lookup x) = some c := q
          rw [List.lookup_cons] at q'
          cases hb : x == y.1 with
          | true =>
            rw [hb] at q'
            have e := eq_of_beq hb
            subst e
            right
            rw [hl]
            exact q'
          | false => rw [hb] at q'; exact .inl q'
      · rw [if_neg hk] at q
        exact .inl q
    · exact .inr q

theorem clOf_has {cells : List (Str × Addr)} : ∀ (l : List (Str × NameKind)) (cs : List (Str × Addr)) (x : Str), ((x, NameKind.free) ∈ l ∧ ∃ c, cells.lookup x = some c) ∨ (∃ c, cs.lookup x = some c) → ∃ c, (clOf cells l cs).lookup x = some c
  | [], cs, x, h => by
    rcases h with ⟨q, _⟩ | q
    · cases q
    · exact q
  | y :: r, cs, x, h => by
    show ∃ c, (clOf cells r (if y.2 = .free then ((cells.lookup y.1).map fun c => (y.1, c)).toList ++ cs else cs)).lookup x = some c
    apply clOf_has r
    rcases h with ⟨q, c, hc⟩ | ⟨c, hc⟩
    · rcases List.mem_cons.mp q with q | q
      · right
        subst q
        rw [if_pos rfl, hc]
        refine ⟨c, ?_⟩
        show ((x, c) :: cs).lookup x = some c
        rw [List.lookup_cons]
        simp
      · exact .inl ⟨q, c, hc⟩
    · right
      by_cases hk : y.2 = .free
      · rw [if_pos hk]
        cases hl : cells.lookup y.1 with
        | none => exact ⟨c, hc⟩
        | some d =>
          show ∃ c, ((y.1, d) :: cs).lookup x = some c
          rw [List.lookup_cons]
          cases hb : x == y.1 with
          | true => exact ⟨d, rfl⟩
          | false => exact ⟨c, hc⟩
      · rw [if_neg hk]; exact ⟨c, hc⟩

theorem relabel_of {env : Env} : ∀ {names : List (Str × NameKind)} {x : Str} {k' : NameKind},
    (names.map fun (n, k) => if (k == NameKind.free && env.scope.kind == .function && env.kindOf n == some .cell) then (n, NameKind.cell) else (n, k)).lookup x = some k' →
    ∃ k, (x, k) ∈ names ∧ (k = k' ∨ (k = .free ∧ k' = .cell))
  | [], _, _, h => by simp at h
  | (n, k) :: r, x, k', h => by
    have ih := @relabel_of env r x k'
    have h' : List.lookup x ((if (k == NameKind.free && env.scope.kind == .function && env.kindOf n == some .cell) = true then (n, NameKind.cell) else (n, k)) :: _) = some k' := h
    by_cases hc : (k == NameKind.free && env.scope.kind == .function && env.kindOf n == some .cell) = true
    · rw [if_pos hc, List.lookup_cons] at h'
      cases hb : x == n with
      | true =>
        rw [hb] at h'
        have e := eq_of_beq hb
        subst e
        cases h'
        refine ⟨k, List.mem_cons_self, .inr ⟨?_, rfl⟩⟩
        simp only [Bool.and_eq_true] at hc
        exact eq_of_beq hc.1.1
      | false =>
        rw [hb] at h'
        obtain ⟨k2, q, z⟩ := ih h'
        exact ⟨k2, List.mem_cons_of_mem _ q, z⟩
    · rw [if_neg hc, List.lookup_cons] at h'
      cases hb : x == n with
      | true =>
        rw [hb] at h'
        have e := eq_of_beq hb
        subst e
        cases h'
        exact ⟨k, List.mem_cons_self, .inl rfl⟩
      | false =>
        rw [hb] at h'
        obtain ⟨k2, q, z⟩ := ih h'
        exact ⟨k2, List.mem_cons_of_mem _ q, z⟩

theorem relabel_free {env : Env} : ∀ {names : List (Str × NameKind)} {x : Str}, names.lookup x = some .free →
    (names.map fun (n, k) => if (k == NameKind.free && env.scope.kind == .function && env.kindOf n == some .cell) then (n, NameKind.cell) else (n, k)).lookup x = some .cell ∨
    (names.map fun (n, k) => if (k == NameKind.free && env.scope.kind == .function && env.kindOf n == some .cell) then (n, NameKind.cell) else (n, k)).lookup x = some .free
  | [], _, h => by simp at h
  | (n, k) :: r, x, h => by
    have ih := @relabel_free env r x
    show List.lookup x ((if (k == NameKind.free && env.scope.kind == .function && env.kindOf n == some .cell) = true then (n, NameKind.cell) else (n, k)) :: _) = some .cell ∨
      List.lookup x ((if (k == NameKind.free && env.scope.kind == .function && env.kindOf n == some .cell) = true then (n, NameKind.cell) else (n, k)) :: _) = some .free
    rw [List.lookup_cons] at h
    by_cases hc : (k == NameKind.free && env.scope.kind == .function && env.kindOf n == some .cell) = true
    · rw [if_pos hc]
      simp only [List.lookup_cons]
      cases hb : x == n with
      | true => exact .inl rfl
      | false => rw [hb] at h; exact ih h
    · rw [if_neg hc]
      simp only [List.lookup_cons]
      cases hb : x == n with
      | true => rw [hb] at h; exact .inr h
      | false => rw [hb] at h; exact ih h

def Cx.comp (X : Cx) (N : List Str) (scope : Scope) (cl : List (Str × Addr)) (C : Addr) (fp : List Addr) (s : Shared) (H : Hp) : Cx :=
  { prog := X.prog, w := X.w, K := X.K, mg := X.mg, base := X.base, A := X.A, N := N, s₀ := s, H₀ := H, env := compEnvC scope cl C X.env, outer := X.stack, stack := X.stack, ex := fp, fn := fun _ => false,
    calm := X.calm, pn := [], xe := fun _ _ => False }

def inner (js : List (Option Nat)) (σ : St) : St := js.map fun o => match o with
  | none => none
  | some j => (σ[j]?).getD none

def jsOk (N : List Str) (scope : Scope) : List Str → List (Option Nat) → Bool
  | [], [] => true
  | x :: r, o :: q => (match o with | none => true | some j => N[j]? == some x && scope.names.lookup x == some .free) && jsOk N scope r q
  | _, _ => false

theorem jsOk_len {N : List Str} {scope : Scope} : ∀ {N' : List Str} {js : List (Option Nat)}, jsOk N scope N' js = true → js.length = N'.length
  | [], [], _ => rfl
  | _ :: r, _ :: q, h => by
    have h' := (Bool.and_eq_true_iff.mp h).2
    rw [List.length_cons, List.length_cons, jsOk_len h']
theorem jsOk_at {N : List Str} {scope : Scope} : ∀ {N' : List Str} {js : List (Option Nat)} {i : Nat} {x : Str} {j : Nat}, jsOk N scope N' js = true → N'[i]? = some x → js[i]? = some (some j) → N[j]? = some x ∧ scope.names.lookup x = some .free
  | [], [], _, _, _, _, h, _ => by simp at h
  | y :: r, o :: q, 0, x, j, h, h1, h2 => by
    have h' := (Bool.and_eq_true_iff.mp h).1
    simp at h1 h2
    subst h1 h2
    have h'' := Bool.and_eq_true_iff.mp h'
    exact ⟨eq_of_beq h''.1, eq_of_beq h''.2⟩
  | y :: r, o :: q, i + 1, x, j, h, h1, h2 => by
    have h' := (Bool.and_eq_true_iff.mp h).2
    exact jsOk_at (i := i) h' (by simpa using h1) (by simpa using h2)

theorem inner_at {js : List (Option Nat)} {σ : St} {i : Nat} {v : V} (h : (inner js σ)[i]? = some (some v)) : ∃ j, js[i]? = some (some j) ∧ σ[j]? = some (some v) := by
  unfold inner at h
  rw [List.getElem?_map] at h
  cases e : js[i]? with
  | none => rw [e] at h; cases h
  | some o =>
    rw [e] at h
    cases o with
    | none => cases h
    | some j =>
      refine ⟨j, rfl, ?_⟩
      have h' : (σ[j]?).getD none = some v := by simpa using h
      cases q : σ[j]? with
      | none => rw [q] at h'; cases h'
      | some z => rw [q] at h'; simp at h'; rw [h']

structure Fills (σ σ' : St) : Prop where
  len : σ.length = σ'.length
  at_ : ∀ (i : Nat) v, σ[i]? = some (some v) → σ'[i]? = some (some v)
theorem Fills.refl (σ : St) : Fills σ σ := ⟨rfl, fun _ _ h => h⟩
theorem Fills.set {σ σ' : St} (f : Fills σ σ') {i : Nat} (x : V) (h : σ[i]? = some none) : Fills σ (σ'.set i (some x)) := by
  refine ⟨by rw [List.length_set]; exact f.len, fun j v q => ?_⟩
  by_cases e : i = j
  · subst e; rw [h] at q; cases q
  · rw [List.getElem?_set_ne e]; exact f.at_ j v q

section
variable {X : Cx} {pins : List (Addr × Obj)} {σ : St} {H : Hp} {s : Shared}

theorem comp_inv {N' : List Str} {js : List (Option Nat)} {scope : Scope} {fp : List Addr} {m : Str → Option Value} {h1 : Heap} {tk : Nat} (I : Inv X pins σ H s)
    (hk : scope.kind = .function) (hcell : ∀ y ∈ scope.names, y.2 ≠ .cell) (hfree : ∀ y ∈ scope.names, y.2 = .free → X.env.kindOf y.1 = some .cell ∨ X.env.kindOf y.1 = some .free) (hjs : jsOk X.N scope N' js = true)
    (fpok : ∀ b ∈ fp, FpOk X pins H b) (fpl : ∀ b ∈ fp, b < s.heap.objs.size) (hns : h1.Ns s.heap.objs.size m) (hsb : ∀ b o, s.heap.get? b = some o → h1.get? b = some o) :
    Inv (X.comp N' scope (clOf X.env.cells scope.names []) s.heap.objs.size fp s H) [] (inner js σ) H { s with heap := h1, toks := tk } := by
  have incl : ∀ {x c}, (clOf X.env.cells scope.names []).lookup x = some c → X.env.cells.lookup x = some c := fun {x c} q => by
    rcases clOf_in _ _ q with z | z
    · simp at z
    · exact z
  have inn : ∀ {x : Str}, (x, NameKind.free) ∈ scope.names → ∃ c, (clOf X.env.cells scope.names []).lookup x = some c := fun {x} q => clOf_has _ _ _ (.inl ⟨q, I.ok.has x (hfree _ q rfl)⟩)
  have fnot : ∀ b ∈ fp, b ∉ frs X.stack := fun b hb z => (List.mem_cons.mp (I.stkSub b z)).elim (fpok b hb).2.1 (fpok b hb).2.2.1
  refine ⟨⟨I.ok.mod, ?_, I.ok.glob, I.ok.blt, Nat.le_refl _, ?_, ?_, ?_, I.ok.hd, I.ok.frames, .inl rfl, ?_, I.bs, Nat.le_trans I.ok.bsz I.sz, ?_, fnot, I.stack, I.stkFree⟩, rfl, I.bare, Un.kept hsb, ⟨m, hns, ?_⟩, ?_, I.fresh, ?_, ?_, I.hok.kept hsb, ?_⟩
  · exact hk
  · intro x y c e1 e2
    exact I.ok.inj x y c (incl e1) (incl e2)
  · intro x h
    have q : ∃ k, (x, k) ∈ scope.names ∧ k = .free := by
      rcases h with h | h
      · obtain ⟨k, q1, q2⟩ := relabel_of (env := X.env) h
        rcases q2 with rfl | ⟨q2, _⟩
        · exact absurd rfl (hcell _ q1)
        · exact ⟨k, q1, q2⟩
      · obtain ⟨k, q1, q2⟩ := relabel_of (env := X.env) h
        rcases q2 with rfl | ⟨_, q2⟩
        · exact ⟨_, q1, rfl⟩
        · cases q2
    obtain ⟨k, q1, rfl⟩ := q
    exact inn q1
  · intro x c h _
    cases h
  · intro b hb
    exact ⟨Nat.ne_of_lt (fpl b hb), fun x c e => (fpok b hb).2.2.2.2.1 x c (incl e)⟩
  · intro b o e hb
    rcases (fpok b hb).2.2.2.1 with z | z
    · exact I.ok.noex b o e z
    · exact absurd (Nat.lt_of_lt_of_le (Heap.lt_size e) (Nat.le_trans I.ok.bsz z)) (Nat.lt_irrefl _)
  · intro i x v e1 e2 _
    obtain ⟨j, q1, q2⟩ := inner_at e2
    obtain ⟨q3, q4⟩ := jsOk_at hjs e1 q1
    have q5 : (x, NameKind.free) ∈ scope.names := by
      have : ∀ {l : List (Str × NameKind)}, l.lookup x = some .free → (x, NameKind.free) ∈ l := by
        intro l
        induction l with
        | nil => intro z; simp at z
        | cons y r ih =>
          intro z
          obtain ⟨n, k⟩ := y
          rw [List.lookup_cons] at z
          cases hb : x == n with
          | true => rw [hb] at z; have e := eq_of_beq hb; subst e; cases z; exact List.mem_cons_self
          | false => rw [hb] at z; exact List.mem_cons_of_mem _ (ih z)
      exact this q4
    have kf := hfree _ q5 rfl
    obtain ⟨m0, hn0, hl0⟩ := id I.loc
    obtain ⟨u, r, lk⟩ := hl0 j x v q3 q2 (kf.elim (fun z => .inr (.inl z)) fun z => .inr (.inr z))
    refine ⟨u, r, ?_⟩
    rcases lk with ⟨z, _⟩ | ⟨_, c, hc, o, ho, hd⟩
    · rcases kf with k | k
      · rw [k] at z; cases z
      · rw [k] at z; cases z
    · obtain ⟨c', hc'⟩ := inn q5
      have e := incl hc'
      rw [hc] at e; cases e
      exact .inr ⟨relabel_free q4, c, hc', o, hsb _ _ ho, hd⟩
  · intro x c e
    obtain ⟨v, o, ho, hd⟩ := I.cell x c (incl e)
    exact ⟨v, o, hsb _ _ ho, hd⟩
  · intro x c e
    exact I.freeC x c (incl e)
  · intro p hp
    cases hp
  · show (inner js σ).length = N'.length
    unfold inner
    rw [List.length_map]
    exact jsOk_len hjs

def PF (X : Cx) (ifs : List Expr) (t : TT) : Prop :=
  ∀ (pins : List (Addr × Obj)) (s : Shared) (σ : St) (H : Hp) (Q : Bool → Hp → Prop), Inv X pins σ H s → t σ H Q →
    wpAny (model X.prog X.w) X.A (forIn ifs true fun c r => if r = true then do let ok ← isTrue c X.env (eval c X.env); pure (ForInStep.yield ok) else pure (ForInStep.yield r)) (TP X pins σ Q) X.xe s
def tTrue : TT := fun _ H Q => Q true H
theorem pf_nil : PF X [] tTrue := fun _ _ _ H _ I h => wpAny_tests_nil ⟨H, I, h⟩
theorem pf_one {c : Expr} {t : TT} (h : PT X c t) : PF X [c] t := fun pins s σ H Q I hw => wpAny_tests_one (h pins s σ H Q I hw)
end

section
variable {prog : Program} {w : World} {A : Around} {E : Value → Shared → Prop} {R : Result → Shared → Prop} {s : Shared}
theorem compLoop_go {elt target iter : Expr} {ifs : List Expr} {scope : Scope} {pos : Pos} {it acc : Value} {env : Env} (I : Nat → Shared → Prop)
    (turn : ∀ n s, I n s → wpAny (model prog w) A (pyNext it) (fun r s₁ => match r with
      | none => R (.ok .next) s₁
      | some v => wpAny (model prog w) A (letOwnedTupleGo target it v) (fun _ s₀ => wpAny (model prog w) A (assign target env v) (fun _ s₂ =>
          wpAny (model prog w) A (forIn ifs true fun c r => if r = true then do let ok ← isTrue c env (eval c env); pure (ForInStep.yield ok) else pure (ForInStep.yield r)) (fun ok s₃ =>
            if ok = true then wpAny (model prog w) A (eval elt env) (fun x s₄ =>
              wpAny (model prog w) A (call (.builtin "list.append") [acc, x]) (fun _ s₅ => ∃ m, m < n ∧ I m s₅) (fun _ _ => False) s₄) (fun _ _ => False) s₃
            else ∃ m, m < n ∧ I m s₃) (fun _ _ => False) s₂) (fun _ _ => False) s₀) (fun _ _ => False) s₁) (fun _ _ => False) s)
    (n : Nat) (h : I n s) :
    codeAny (model prog w) A (.compLoop (.ListComp elt [⟨target, iter, ifs, 0⟩] scope pos) 0 it acc env) R s := by
  refine codeAny_loop rfl I (fun n s hI => ?_) n h
  show wpAny _ A ((compTurn (.ListComp elt [⟨target, iter, ifs, 0⟩] scope pos) 0 it acc env).onRaise (fun x => do noteFrame x env; theTreesLotGoes x)) _ _ s
  refine wpAny_noted ?_
  rw [compTurn_list]
  refine wpAny_bind (wpAny_standAt (wpAny_bind (wpAny_mono (turn n s hI) (fun r s₁ h₁ => ?_) fun _ _ h' => h'.elim)))
  cases r with
  | none => exact wpAny_pure h₁
  | some v =>
    refine wpAny_bind (wpAny_mono h₁ (fun _ s₀ h₀ => ?_) fun _ _ h' => h'.elim)
    refine wpAny_bind (wpAny_mono h₀ (fun _ s₂ h₂ => wpAny_bind (wpAny_mono h₂ (fun ok s₃ h₃ => ?_) fun _ _ h' => h'.elim)) fun _ _ h' => h'.elim)
    cases ok with
    | false => exact wpAny_pure ⟨rfl, h₃⟩
    | true =>
      exact wpAny_bind (wpAny_bind (wpAny_mono h₃ (fun x s₄ h₄ => wpAny_bind (wpAny_mono h₄ (fun _ s₅ h₅ => wpAny_pure (wpAny_pure ⟨rfl, h₅⟩)) fun _ _ h' => h'.elim)) fun _ _ h' => h'.elim))
end

section
variable {X : Cx}
def tComp (js : List (Option Nat)) (wi : TI) (g : TG) (tc : TT) (te : TE) : TE := fun σ H Q => wi σ H fun J H1 => ∀ D, H1 D = none → ∃ W : Nat → Nat → List V → Hp → Prop, (∃ m, W 0 m [] (upd H1 D (.lst []))) ∧
  ∀ i m ys H, W i m ys H → (J.stop i H ∧ Q (.ref D) H) ∨ (J.go i H ∧ ∃ N : List V → Hp → Prop, (∀ ys' H', N ys' H' → ∃ m', m' < m ∧ W (i + 1) m' ys' H') ∧ ∀ x H', J.yld i H x H' → g x (inner js σ) H' fun σ2 H2 => Fills (inner js σ) σ2 ∧ tc σ2 H2 fun b H3 =>
    if b = true then te σ2 H3 fun y H4 => H4 D = some (.lst ys) ∧ ys.length < sizeLine ∧ N (ys ++ [y]) (upd H4 D (.lst (ys ++ [y]))) else N ys H3)

theorem comp_block {N' : List Str} {js : List (Option Nat)} {scope : Scope} {target iter elt : Expr} {ifs : List Expr} {pos : Pos} {g : TG} {tc : TT} {te : TE} {pins : List (Addr × Obj)} {σ : St} {H : Hp} {s : Shared} {Q : VK} {E : Value → Shared → Prop}
    {RR : Value → Addr → Result → Shared → Prop} {it : Addr} {fp : List Addr} {tn : Nat → Heap → Prop} {J : It} (I : Inv X pins σ H s) (T : Turn X.prog X.w X.K target J fp it tn) (st : tn 0 s.heap) (f : ∀ b ∈ fp, FpOk X pins H b) (hc : X.calm = true)
    (q : ∀ D, H D = none → ∃ W : Nat → Nat → List V → Hp → Prop, (∃ m, W 0 m [] (upd H D (.lst []))) ∧
      ∀ i m ys H, W i m ys H → (J.stop i H ∧ Q (.ref D) H) ∨ (J.go i H ∧ ∃ N : List V → Hp → Prop, (∀ ys' H', N ys' H' → ∃ m', m' < m ∧ W (i + 1) m' ys' H') ∧ ∀ x H', J.yld i H x H' → g x (inner js σ) H' fun σ2 H2 => Fills (inner js σ) σ2 ∧ tc σ2 H2 fun b H3 =>
    if b = true then te σ2 H3 fun y H4 => H4 D = some (.lst ys) ∧ ys.length < sizeLine ∧ N (ys ++ [y]) (upd H4 D (.lst (ys ++ [y]))) else N ys H3))
    (hg : ∀ cl C fp s H, PG (X.comp N' scope cl C fp s H) target g) (hf : ∀ cl C fp s H, PF (X.comp N' scope cl C fp s H) ifs tc) (he : ∀ cl C fp s H, PE (X.comp N' scope cl C fp s H) elt te)
    (hk : scope.kind = .function) (hcell : ∀ y ∈ scope.names, y.2 ≠ .cell) (hfree : ∀ y ∈ scope.names, y.2 = .free → X.env.kindOf y.1 = some .cell ∨ X.env.kindOf y.1 = some .free) (hjs : jsOk X.N scope N' js = true)
    (hRR : ∀ D C H' s', Inv X pins σ H' s' → Q (.ref D) H' → (∃ m, s'.heap.Ns C m) → H' C = none → C ≠ X.env.locals → X.s₀.heap.objs.size ≤ C → C ∉ X.fs → (∀ x c, X.env.cells.lookup x = some c → c ≠ C) → (∀ p ∈ X.pn ++ pins, p.1 ≠ C) →
      RR (.ref D) C (.ok .next) s') :
    wpAny (model X.prog X.w) X.A (newList []) (fun acc s₃ => wpAny (model X.prog X.w) X.A (newFunctionEnv scope X.env.globals (clOf X.env.cells scope.names []) [] X.env.qual none .none (some X.env)) (fun cenv s₄ =>
      codeAny (model X.prog X.w) X.A (.compStart (.ListComp elt [⟨target, iter, ifs, 0⟩] scope pos) 0 (.ref it) acc { cenv with scope := relabel scope X.env }) (RR acc cenv.locals) s₄) E s₃) E s := by
  refine wpAny_newObj_type (wpAny_newFunctionEnv hcell (by intro y hy; simp at hy) (fun h₁ hns₁ hsb₁ => ?_) hk)
  dsimp only at hns₁ hsb₁ ⊢
  have I3 : Inv X pins σ (upd H s.heap.objs.size (.lst [])) { s with heap := s.heap.push { cls := .type "list", dict := none, data := .seq ([] : List Value).toArray } } := I.lnew (its := []) (ys := []) (t' := s.toks) .nil (Nat.zero_le _)
  obtain ⟨W, ⟨m0, w0⟩, turn⟩ := q s.heap.objs.size I.fresh
  generalize hD : s.heap.objs.size = D at I3 turn w0 ⊢
  have hsz : (s.heap.push { cls := .type "list", dict := none, data := .seq ([] : List Value).toArray }).objs.size = D + 1 := by rw [Heap.size_push, hD]
  have fpl : ∀ b ∈ fp, b < D := fun b hb => by
    obtain ⟨o, e, _⟩ := T.obj _ _ st b hb
    rw [← hD]; exact Heap.lt_size e
  generalize hs3 : ({ s with heap := s.heap.push { cls := .type "list", dict := none, data := .seq ([] : List Value).toArray } } : Shared) = s3 at I3
  have eh : s.heap.push { cls := .type "list", dict := none, data := .seq ([] : List Value).toArray } = s3.heap := by rw [← hs3]
  rw [eh] at hns₁ hsb₁ hsz ⊢
  have f3 : ∀ b ∈ fp, FpOk X pins (upd H D (.lst [])) b := fun b hb => ⟨by rw [upd_ne (Nat.ne_of_lt (fpl b hb))]; exact (f b hb).1, (f b hb).2⟩
  have keep1 : ∀ b o, s3.heap.get? b = some o → h₁.get? b = some o := fun b o e => hsb₁.extBut b o (Nat.ne_of_lt (Heap.lt_size e)) (Heap.get?_push_of_some _ e)
  have I4 := comp_inv (N' := N') (js := js) (tk := s.toks + ([] : List (Str × Value)).length) I3 hk hcell hfree hjs f3 (fun b hb => by rw [hsz]; exact Nat.lt_succ_of_lt (fpl b hb)) hns₁ keep1
  have es : ({ s with heap := h₁, toks := s.toks + ([] : List (Str × Value)).length } : Shared) = { s3 with heap := h₁, toks := s.toks + ([] : List (Str × Value)).length } := by rw [← hs3]
  rw [show ({ s with heap := h₁, toks := s.toks + ([] : List (Str × Value)).length } : Shared) = { s3 with heap := h₁, toks := s.toks + ([] : List (Str × Value)).length } from es]
  have st4 : tn 0 h₁ := T.keep _ _ _ st fun b hb o e => keep1 b o (eh ▸ Heap.get?_push_of_some _ e)
  have hCne : s3.heap.objs.size ≠ X.env.locals := Nat.ne_of_gt I3.lt
  have loop : ∀ s4 : Shared, tn 0 s4.heap → Inv (X.comp N' scope (clOf X.env.cells scope.names []) s3.heap.objs.size fp s3 (upd H D (.lst []))) [] (inner js σ) (upd H D (.lst [])) s4 →
      codeAny (model X.prog X.w) X.A (.compLoop (.ListComp elt [⟨target, iter, ifs, 0⟩] scope pos) 0 (.ref it) (.ref D) (compEnvC scope (clOf X.env.cells scope.names []) s3.heap.objs.size X.env)) (RR (.ref D) s3.heap.objs.size) s4 := by
    intro s4 st4 I4
    generalize hX : X.comp N' scope (clOf X.env.cells scope.names []) s3.heap.objs.size fp s3 (upd H D (.lst [])) = X' at I4
    have xprog : X'.prog = X.prog := by rw [← hX]; rfl
    have stat : ∀ {H' : Hp}, (∀ b ∈ fp, H' b = none) → ∀ b ∈ fp, FpOk X' [] H' b := fun hn b hb => by
      rw [← hX]
      refine ⟨hn b hb, ?_, ?_, .inl hb, ?_, fun p hp => nomatch hp⟩
      · exact Nat.ne_of_lt (by show b < s3.heap.objs.size; rw [hsz]; exact Nat.lt_succ_of_lt (fpl b hb))
      · exact fun z => (List.mem_cons.mp (I3.stkSub b z)).elim (f3 b hb).2.1 (f3 b hb).2.2.1
      · intro x c e
        rcases clOf_in _ _ e with z | z
        · simp at z
        · exact (f3 b hb).2.2.2.2.1 x c z
    have hg' := hg (clOf X.env.cells scope.names []) s3.heap.objs.size fp s3 (upd H D (.lst []))
    have hf' := hf (clOf X.env.cells scope.names []) s3.heap.objs.size fp s3 (upd H D (.lst []))
    have he' := he (clOf X.env.cells scope.names []) s3.heap.objs.size fp s3 (upd H D (.lst []))
    rw [hX] at hg' hf' he'
    have xA : X'.A = X.A := by rw [← hX]; rfl
    have xw : X'.w = X.w := by rw [← hX]; rfl
    have xK : X'.K = X.K := by rw [← hX]; rfl
    have xc : X'.calm = true := by rw [← hX]; exact hc
    have xe : X'.env = compEnvC scope (clOf X.env.cells scope.names []) s3.heap.objs.size X.env := by rw [← hX]; rfl
    have xx : X'.xe = fun _ _ => False := by rw [← hX]; rfl
    have T' : Turn X'.prog X'.w X'.K target J fp it tn := by rw [xprog, xw, xK]; exact T
    rw [← xA, ← xw, ← xprog, ← xe]
    refine compLoop_go (fun n s' => ∃ i ys H', Inv X' [] (inner js σ) H' s' ∧ tn i s'.heap ∧ (∀ b ∈ fp, H' b = none) ∧ W i n ys H') ?_ m0 ⟨0, [], _, I4, st4, fun b hb => (f3 b hb).1, w0⟩
    rintro n s5 ⟨i, ys, H5, I5, st5, fr5, w5⟩
    rcases turn i n ys H5 w5 with ⟨stop, q⟩ | ⟨go, N, hN, step⟩
    · refine thn (T'.done X' rfl rfl rfl xc i [] s5 _ H5 _ I5 (stat fr5) st5 stop) fun r s6 ⟨hr, I6⟩ => ?_
      subst hr
      subst hX
      have I7 : Inv X pins σ H5 s6 := I3.call' (s' := s6) I6.os I6.base I6.hok I6.bare fun b hb => ⟨(f3 b hb).2.2.2.1, (f3 b hb).2.1, (f3 b hb).2.2.2.2.1, (f3 b hb).2.2.2.2.2⟩
      obtain ⟨m6, hn6, _⟩ := I6.loc
      refine hRR D s3.heap.objs.size H5 s6 I7 q ⟨m6, hn6⟩ I6.free hCne I3.sz (I3.nofs (Nat.le_refl _)) (fun x c e z => ?_) (fun p hp z => ?_)
      · obtain ⟨v, y⟩ := I3.cell x c e
        exact absurd (Nat.lt_of_lt_of_le y.lt (by rw [z]; exact Nat.le_refl _)) (Nat.lt_irrefl _)
      · exact absurd (Nat.lt_of_lt_of_le (Heap.lt_size (I3.pin p hp).1) (by rw [z]; exact Nat.le_refl _)) (Nat.lt_irrefl _)
    · refine thn (T'.item X' rfl rfl rfl xc i [] s5 _ H5 _ I5 (stat fr5) st5 go) fun r s6 ⟨u, hr, h6⟩ => ?_
      subst hr
      refine thn h6 fun _ s7 ⟨x, H7, I7, r7, y7, st7, fr7⟩ => ?_
      have I7' := I7.pinned (stat fr7) (T.obj _ _ st7)
      refine wpAny_mono (hg' _ s7 _ H7 x u _ I7' r7 (step x H7 y7)) (fun _ s8 ⟨σ8, H8, I8, fill8, q8⟩ => ?_) (fun _ _ z => by rw [xx] at z; exact z)
      refine wpAny_mono (hf' _ s8 σ8 H8 _ I8 q8) (fun b s9 ⟨H9, I9, q9⟩ => ?_) (fun _ _ z => by rw [xx] at z; exact z)
      have again : ∀ {H' : Hp} {s' : Shared} {ys' : List V}, Inv X' ([] ++ pinsAt fp s7.heap) σ8 H' s' → N ys' H' → ∃ m, m < n ∧ ∃ i ys H', Inv X' [] (inner js σ) H' s' ∧ tn i s'.heap ∧ (∀ b ∈ fp, H' b = none) ∧ W i m ys H' := fun {H' s' ys'} I' n' => by
        obtain ⟨m', hm, w'⟩ := hN ys' H' n'
        refine ⟨m', hm, i + 1, ys', H', I'.unpinned.weak fill8.len fill8.at_, T.keep _ _ _ st7 fun b hb o e => (I'.pin (b, o) (List.mem_append_right _ (List.mem_append_right _ (mem_pinsAt hb e)))).1, fun b hb => ?_, w'⟩
        obtain ⟨o, e, d⟩ := T.obj _ _ st7 b hb
        exact (I'.pin (b, o) (List.mem_append_right _ (List.mem_append_right _ (mem_pinsAt hb e)))).2.1
      cases b with
      | false => exact again I9 q9
      | true =>
        refine wpAny_mono (he' _ s9 σ8 H9 _ I9 q9) (fun yv s10 ⟨y, H10, I10, ry, hD10, hz, q10⟩ => ?_) (fun _ _ z => by rw [xx] at z; exact z)
        refine wpAny_mono (mt_append (X := X') _ s10 σ8 H10 (.ref D) [y] (.ref D) [yv] (fun _ H' => H' = upd H10 D (.lst (ys ++ [y]))) I10 rfl (.cons ry .nil) ⟨D, ys, y, rfl, rfl, hD10, hz, rfl⟩) (fun _ s11 ⟨_, H11, I11, _, e11⟩ => ?_) (fun _ _ z => by rw [xx] at z; exact z)
        subst e11
        exact again I11 q10
  have l4 := loop { s3 with heap := h₁, toks := s.toks + ([] : List (Str × Value)).length } st4 I4
  exact codeAny_compStart_list l4 (T.self _ 0 _ _ _ st4 l4)

theorem pe_comp {N' : List Str} {js : List (Option Nat)} {scope : Scope} {target iter elt : Expr} {ifs : List Expr} {pos : Pos} {wi : TI} {g : TG} {tc : TT} {te : TE} (hc : X.calm = true) (hi : PI X target iter wi)
    (hg : ∀ cl C fp s H, PG (X.comp N' scope cl C fp s H) target g) (hf : ∀ cl C fp s H, PF (X.comp N' scope cl C fp s H) ifs tc) (he : ∀ cl C fp s H, PE (X.comp N' scope cl C fp s H) elt te)
    (hk : scope.kind = .function := by rfl) (hcell : (scope.names.all fun y => y.2 != .cell) = true := by rfl) (hfree : (scope.names.all fun y => y.2 != .free || (X.env.kindOf y.1 == some .cell || X.env.kindOf y.1 == some .free)) = true := by rfl)
    (hnames : (scope.names.all fun y => y.2 != .local || scope.names.lookup y.1 == some .local) = true := by rfl) (hjs : jsOk X.N scope N' js = true := by rfl) (hs : ∀ x, foldedSetIterable iter X.env x = pure x := by intro _; rfl) :
    PE X (.ListComp elt [⟨target, iter, ifs, 0⟩] scope pos) (tComp js wi g tc te) := by
  have hcell' : ∀ y ∈ scope.names, y.2 ≠ .cell := fun y hy z => by have := List.all_eq_true.mp hcell y hy; simp [z] at this
  have hfree' : ∀ y ∈ scope.names, y.2 = .free → X.env.kindOf y.1 = some .cell ∨ X.env.kindOf y.1 = some .free := fun y hy z => by have := List.all_eq_true.mp hfree y hy; simpa [z] using this
  have hnames' : ∀ y ∈ scope.names, y.2 = .local → scope.names.lookup y.1 = some .local := fun y hy z => by have := List.all_eq_true.mp hnames y hy; simpa [z] using this
  intro pins s σ H Q I h
  rw [eval_ListComp]
  refine wpAny_comprehension_free (use := none) rfl hs (closureFor_ok fun x hx z => I.ok.has x.1 (hfree' x hx z)) hk hnames' ?_
  refine thn (hi pins s σ H _ I h) fun v s1 h1 => thn h1 fun itv s2 h2 => ?_
  obtain ⟨it, fp, tn, J, H2, e, I2, T, st2, f2, q2⟩ := h2
  subst e
  refine comp_block (RR := fun acc C => compPost (model X.prog X.w) X.A X.xe none (EP X pins σ Q) acc C) I2 T st2 f2 hc q2 hg hf he hk hcell' hfree' hjs ?_
  intro D C H' s' I' q ⟨m, hn⟩ c0 c1 c2 c3 c4 c5
  exact ⟨m, hn, fun h' hs' => ⟨.ref D, H', I'.turned (t' := s'.toks) (fun b o hb e => (hs'.2 b hb).trans e) c0 c1 (.inr c2) c4 c5, rfl, q⟩⟩

theorem ps_setComp {N' : List Str} {js : List (Option Nat)} {scope : Scope} {target iter elt : Expr} {ifs : List Expr} {pos pos' spos : Pos} {x : Str} {i : Nat} {wi : TI} {g : TG} {tc : TT} {te : TE} (hN : X.N.Nodup) (hi' : X.N[i]? = some x) (hx : Loc X.env.scope x) (hc : X.calm = true) (hi : PI X target iter wi)
    (hg : ∀ cl C fp s H, PG (X.comp N' scope cl C fp s H) target g) (hf : ∀ cl C fp s H, PF (X.comp N' scope cl C fp s H) ifs tc) (he : ∀ cl C fp s H, PE (X.comp N' scope cl C fp s H) elt te)
    (hsw : swapsWith (.ListComp elt [⟨target, iter, ifs, 0⟩] scope pos) (some (.Name x pos')) spos.line X.env = pure true := by rfl)
    (hk : scope.kind = .function := by rfl) (hcell : (scope.names.all fun y => y.2 != .cell) = true := by rfl) (hfree : (scope.names.all fun y => y.2 != .free || (X.env.kindOf y.1 == some .cell || X.env.kindOf y.1 == some .free)) = true := by rfl)
    (hnames : (scope.names.all fun y => y.2 != .local || scope.names.lookup y.1 == some .local) = true := by rfl) (hjs : jsOk X.N scope N' js = true := by rfl) (hs : ∀ x, foldedSetIterable iter X.env x = pure x := by intro _; rfl)
    (hfn : X.fn x = true ∨ X.env.scope.names.lookup x = some .local := by first | exact .inl rfl | exact .inr rfl | assumption) :
    PS X (.Assign [.Name x pos'] (.ListComp elt [⟨target, iter, ifs, 0⟩] scope pos) spos) (tAsg (tComp js wi g tc te) (gName i)) := by
  have hcell' : ∀ y ∈ scope.names, y.2 ≠ .cell := fun y hy z => by have := List.all_eq_true.mp hcell y hy; simp [z] at this
  have hfree' : ∀ y ∈ scope.names, y.2 = .free → X.env.kindOf y.1 = some .cell ∨ X.env.kindOf y.1 = some .free := fun y hy z => by have := List.all_eq_true.mp hfree y hy; simpa [z] using this
  have hnames' : ∀ y ∈ scope.names, y.2 = .local → scope.names.lookup y.1 = some .local := fun y hy z => by have := List.all_eq_true.mp hnames y hy; simpa [z] using this
  intro pins s σ H D I h
  rw [exec_Assign_Name_used _ _ _ _ hsw]
  refine wpAny_bind (wpAny_standAt (wpAny_bind ?_))
  show wpAny _ X.A (do let _ ← comprehension (.ListComp elt [⟨target, iter, ifs, 0⟩] scope pos) scope X.env _ (newList []) false (eval iter X.env) (some (assign (.Name x pos') X.env))) _ _ s
  refine wpAny_bind (wpAny_mono (wpAny_comprehension_free (use := some (assign (.Name x pos') X.env)) (Q := fun _ s' => SP X pins D .next s') rfl hs (closureFor_ok fun x hx z => I.ok.has x.1 (hfree' x hx z)) hk hnames' ?_) (fun _ s' hq => wpAny_pure (wpAny_pure hq)) fun _ _ e => e)
  refine thn (hi pins s σ H _ I h) fun v s1 h1 => thn h1 fun itv s2 h2 => ?_
  obtain ⟨it, fp, tn, J, H2, e, I2, T, st2, f2, q2⟩ := h2
  subst e
  refine comp_block (Q := fun x H1 => gName i x σ H1 D.nx) (RR := fun acc C => compPost (model X.prog X.w) X.A X.xe (some (assign (.Name x pos') X.env)) (fun _ s' => SP X pins D .next s') acc C) I2 T st2 f2 hc q2 hg hf he hk hcell' hfree' hjs ?_
  intro D' C H' s' I' q ⟨m, hn⟩ c0 c1 c2 c3 c4 c5
  obtain ⟨oC, es, ep, hoC, hdC, rC⟩ := id hn
  have I'' : Inv X (pins ++ [(C, oC)]) σ H' s' := I'.pins_of fun p hp => (List.mem_append.mp hp).elim (fun z => I'.pin p (List.mem_append_right _ z)) fun z => by
    have e := List.mem_singleton.mp z
    subst e
    exact ⟨hoC, c0, c1, c3, fun v z => by rw [hdC] at z; cases z⟩
  show wpAny _ X.A (assign (.Name x pos') X.env (.ref D')) _ _ _
  refine wpAny_assign_Name (store_ok I'' hN hi' hx (v := .ref D') rfl (fun s3 I3 => ?_) hfn)
  have hC3 := I3.pin (C, oC) (List.mem_append_right _ (List.mem_append_right _ (List.mem_singleton.mpr rfl)))
  refine ⟨m, ⟨oC, es, ep, hC3.1, hdC, rC⟩, fun h' hs' => ?_⟩
  exact ⟨_, H', I3.unpinned.turned (t' := s3.toks) (fun b o hb e => (hs'.2 b hb).trans e) c0 c1 (.inr c2) c4 c5, q⟩
end

theorem comp_by {J : It} {js : List (Option Nat)} {σ : St} {H1 : Hp} {R : Hp → Prop} {D : Addr} {g : TG} {tc : TT} {te : TE} (n : Nat) (Pv : Nat → List V → Hp → Prop) (h0 : Pv 0 [] (upd H1 D (.lst [])))
    (hs : ∀ i ys H, i < n → Pv i ys H → J.go i H ∧ ∀ x H', J.yld i H x H' → g x (inner js σ) H' fun σ2 H2 => Fills (inner js σ) σ2 ∧ tc σ2 H2 fun b H3 =>
      if b = true then te σ2 H3 fun y H4 => H4 D = some (.lst ys) ∧ ys.length < sizeLine ∧ Pv (i + 1) (ys ++ [y]) (upd H4 D (.lst (ys ++ [y]))) else Pv (i + 1) ys H3)
    (hd : ∀ ys H, Pv n ys H → J.stop n H ∧ R H) :
    ∃ W : Nat → Nat → List V → Hp → Prop, (∃ m, W 0 m [] (upd H1 D (.lst []))) ∧
      ∀ i m ys H, W i m ys H → (J.stop i H ∧ R H) ∨ (J.go i H ∧ ∃ N : List V → Hp → Prop, (∀ ys' H', N ys' H' → ∃ m', m' < m ∧ W (i + 1) m' ys' H') ∧ ∀ x H', J.yld i H x H' → g x (inner js σ) H' fun σ2 H2 => Fills (inner js σ) σ2 ∧ tc σ2 H2 fun b H3 =>
        if b = true then te σ2 H3 fun y H4 => H4 D = some (.lst ys) ∧ ys.length < sizeLine ∧ N (ys ++ [y]) (upd H4 D (.lst (ys ++ [y]))) else N ys H3) := by
  refine ⟨fun i m ys H => m = n - i ∧ i ≤ n ∧ Pv i ys H, ⟨n, by simp, Nat.zero_le _, h0⟩, ?_⟩
  rintro i m ys H ⟨rfl, hi, p⟩
  by_cases hlt : i < n
  · obtain ⟨go, step⟩ := hs i ys H hlt p
    exact .inr ⟨go, Pv (i + 1), fun ys' H' p' => ⟨n - (i + 1), by omega, rfl, hlt, p'⟩, step⟩
  · have e : i = n := by omega
    subst e
    exact .inl (hd ys H p)
theorem comp_map {J : It} {js : List (Option Nat)} {σ : St} {H1 : Hp} {R : Hp → Prop} {D : Addr} {g : TG} {te : TE} (n : Nat) (Pv : Nat → List V → Hp → Prop) (h0 : Pv 0 [] (upd H1 D (.lst [])))
    (hs : ∀ i ys H, i < n → Pv i ys H → J.go i H ∧ ∀ x H', J.yld i H x H' → g x (inner js σ) H' fun σ2 H2 => Fills (inner js σ) σ2 ∧ te σ2 H2 fun y H4 => H4 D = some (.lst ys) ∧ ys.length < sizeLine ∧ Pv (i + 1) (ys ++ [y]) (upd H4 D (.lst (ys ++ [y]))))
    (hd : ∀ ys H, Pv n ys H → J.stop n H ∧ R H) :
    ∃ W : Nat → Nat → List V → Hp → Prop, (∃ m, W 0 m [] (upd H1 D (.lst []))) ∧
      ∀ i m ys H, W i m ys H → (J.stop i H ∧ R H) ∨ (J.go i H ∧ ∃ N : List V → Hp → Prop, (∀ ys' H', N ys' H' → ∃ m', m' < m ∧ W (i + 1) m' ys' H') ∧ ∀ x H', J.yld i H x H' → g x (inner js σ) H' fun σ2 H2 => Fills (inner js σ) σ2 ∧ tTrue σ2 H2 fun b H3 =>
        if b = true then te σ2 H3 fun y H4 => H4 D = some (.lst ys) ∧ ys.length < sizeLine ∧ N (ys ++ [y]) (upd H4 D (.lst (ys ++ [y]))) else N ys H3) := by
  refine comp_by n Pv h0 ?_ hd
  simp only [tTrue, if_true]
  exact hs
end L2

set_option Elab.async false
set_option linter.all false
set_option maxRecDepth 100000
set_option maxHeartbeats 4000000
namespace L2
open PySem PySem.Spec PyProof.Rows

section
variable {X : Cx} {tg : Expr}
end

section
variable {X : Cx} {pins : List (Addr × Obj)} {σ : St} {H : Hp} {s : Shared} {h' : Heap}
theorem Inv.turnedNew {t' : Nat} {ch : List Addr} {T : Addr} {o : HO} (I : Inv X pins σ H s) (k : ∀ b u, b ∉ ch → s.heap.get? b = some u → h'.get? b = some u) (there : ∀ b u, s.heap.get? b = some u → ∃ u', h'.get? b = some u') (hT : s.heap.objs.size ≤ T)
    (hf : ∀ b ∈ ch, FpOk X pins H b) (new : ObjOk X.prog X.w (upd H T o) h' T o) : Inv X pins σ (upd H T o) { s with heap := h', toks := t' } := by
  have hn := I.hok.fresh hT
  have nit : ∀ b u, H b = some u → b ∉ ch := fun b u e z => by rw [(hf b z).1] at e; cases e
  refine I.step (g' := s.gens) (d' := s.drawn) (ch := ch) (fun b hb => ?_) (fun b o _ _ hc e _ => k b o hc e) (fun b o _ _ hc e _ => ⟨o.slots, k b o hc e⟩) (fun b u hc e n => ?_) (fun b u hc e => there b u e)
    (fun b xs e => ?_) (fun b ob u e => ?_) (fun b ps e => ⟨#[], ?_⟩) (fun m hm => ?_) (fun b u e => ?_) I.bare
  · exact ⟨(hf b hb).2.2.2.1, (hf b hb).2.1, (hf b hb).2.2.2.2.1, (hf b hb).2.2.2.2.2⟩
  · rw [upd_ne (Nat.ne_of_lt (Nat.lt_of_lt_of_le (Heap.lt_size e) hT))]; exact n
  · rw [upd_ne (ne_of_none e hn)]; exact e
  · rw [upd_ne (ne_of_none e hn)]; exact e
  · rw [upd_ne (ne_of_none e hn), e]; simp
  · obtain ⟨ob, es, ep, ho, r⟩ := hm
    exact ⟨ob, es, ep, k _ ob (fun z => (hf _ z).2.1 rfl) ho, r⟩
  · by_cases hb : b = T
    · subst hb; rw [upd_same] at e; cases e; exact new
    · rw [upd_ne hb] at e
      refine (I.hok b u e).stay (fun c v hc q => k c v ?_ q) (fun c q => by rw [upd_ne (ne_of_none q hn)]; exact q) fun c xs q => by rw [upd_ne (ne_of_none q hn)]; exact q
      rcases hc with z | z
      · rw [z]; exact nit b u e
      · exact nit c _ z
end

def Ite (K : PySem.W.Frag) (a : Addr) : It :=
  ⟨fun i H => ∃ xs x, SqL K H a xs ∧ xs[i]? = some x, fun i H v H' => ∃ T x, v = .ref T ∧ H T = none ∧ H' = upd H T (.tup [.int i, x]) ∧ ∀ xs, SqL K H a xs → xs[i]? = some x, fun i H => ∃ xs, SqL K H a xs ∧ xs.length ≤ i⟩
theorem turn_enum {P : Program} {w : World} {K : PySem.W.Frag} {elts : List Expr} {k : Nat} {pos : Pos} (a e it : Addr) (hei : e ≠ it) : Turn P w K (.Tuple elts k pos) (Ite K a) [e, it] e (fun i h => (∃ old, IsEnum h e it i old) ∧ h.IsListIter it a i) where
  mem := by simp
  obj := fun i h st b hb => by
    obtain ⟨⟨old, he⟩, o, ho, hc, hd⟩ := st
    rcases List.mem_cons.mp hb with rfl | hb
    · exact ⟨_, he, fun v z => by
        have z' : Data.fields _ = Data.cell v := z
        cases z'⟩
    · have e' := List.mem_singleton.mp hb
      subst e'
      exact ⟨o, ho, fun v z => by rw [hd] at z; cases z⟩
  keep := fun i h h' st k => by
    obtain ⟨⟨old, he⟩, hit⟩ := st
    exact ⟨⟨old, k e (by simp) _ he⟩, hit.at fun o x => k it (by simp) o x⟩
  item := by
    intro X hP hw hK hc i pins s σ H E I hf st hg
    subst hP hw hK
    obtain ⟨⟨old, he⟩, hit⟩ := st
    obtain ⟨xs, x, hq, hx⟩ := hg
    obtain ⟨its, rv, pl, hz⟩ := I.list hq
    obtain ⟨u, hu, ru⟩ := rv.get hx
    have hux : its.toArray[i]? = some u := by simpa using hu
    refine wpAny_pyNext_enum_item he hit pl.isList hux hei fun h' ho hit' hT hsz hk => ?_
    refine ⟨_, rfl, ?_⟩
    have kk : ∀ b v, b ∉ [e, it] → s.heap.get? b = some v → h'.get? b = some v := fun b v hb q => hk b v (fun z => hb (by simp [z])) (fun z => hb (by simp [z])) q
    have th : ∀ b v, s.heap.get? b = some v → ∃ v', h'.get? b = some v' := fun b v q => by
      by_cases h1 : b = e
      · subst h1; exact ⟨_, ho⟩
      · by_cases h2 : b = it
        · subst h2; obtain ⟨o, q1, _⟩ := hit'; exact ⟨_, q1⟩
        · exact ⟨v, hk b v h1 h2 q⟩
    have I1 : Inv X pins σ (upd H s.heap.objs.size (.tup [.int i, x])) { s with heap := h', toks := s.toks + 1 } :=
      I.turnedNew (ch := [e, it]) kk th (Nat.le_refl _) hf ⟨by show 2 ≤ sizeLine; decide, [.int i s.toks, u], .cons ⟨_, rfl⟩ (.cons ru .nil), ⟨_, hT, rfl, _, rfl⟩⟩
    refine wpAny_letOwnedTupleGo_enum ho fun h2 he2 hs2 => ?_
    have fe := hf e (by simp)
    have fi := hf it (by simp)
    have hTe : e ≠ s.heap.objs.size := Nat.ne_of_lt (Heap.lt_size he)
    have hTi : it ≠ s.heap.objs.size := by obtain ⟨o, q1, _⟩ := hit; exact Nat.ne_of_lt (Heap.lt_size q1)
    have I2 : Inv X pins σ (upd H s.heap.objs.size (.tup [.int i, x])) { s with heap := h2, toks := s.toks + 1 } :=
      Inv.turned (s := { s with heap := h', toks := s.toks + 1 }) (h' := h2) (t' := s.toks + 1) (it := e) I1 (fun b o hb q => (hs2.2 b hb).trans q) (by rw [upd_ne hTe]; exact fe.1) fe.2.1 fe.2.2.2.1 fe.2.2.2.2.1 fe.2.2.2.2.2
    refine ⟨.ref s.heap.objs.size, _, I2, rfl, ⟨s.heap.objs.size, x, rfl, I.fresh, rfl, fun ys hys => by rw [I.list_inj hys hq]; exact hx⟩, ⟨⟨_, by simpa using he2⟩, hit'.at fun o q => (hs2.2 it hei.symm).trans q⟩, fun b hb => ?_⟩
    rcases List.mem_cons.mp hb with rfl | hb
    · rw [upd_ne hTe]; exact fe.1
    · have e' := List.mem_singleton.mp hb
      subst e'
      rw [upd_ne hTi]; exact fi.1
  done := by
    intro X hP hw hK hc i pins s σ H E I hf st hg
    subst hP hw hK
    obtain ⟨⟨old, he⟩, hit⟩ := st
    obtain ⟨xs, hq, hl⟩ := hg
    obtain ⟨its, rv, pl, hz⟩ := I.list hq
    have hlen := rv.length
    obtain ⟨f0, f1, f2, f3, f4, f5⟩ := hf it (by simp)
    refine wpAny_pyNext_enum_end (I.ok.hd hc) he hit pl.isList (by simp; omega) fun h' eb => ⟨rfl, ?_⟩
    exact I.turned (t' := s.toks) (fun b o hb q => eb b o hb q) f0 f1 f3 f4 f5
  self := fun _ _ _ _ _ st h => by
    obtain ⟨⟨old, he⟩, _⟩ := st
    exact wpAny_pyIter_enum he h

section
variable {X : Cx}
def iEnum (K : PySem.W.Frag) (ta : TA) : TI := fun σ H R => ta σ H fun vs H1 => ∃ a, vs = [.ref a] ∧ (∃ xs, SqL K H1 a xs) ∧ R (Ite K a) H1
theorem pi_enum {a : Expr} {ta : TA} {p pos : Pos} {elts : List Expr} {k : Nat} {tpos : Pos} (hg : Gl X "enumerate") (hm : X.mg "enumerate" = none) (ha : PA X [a] ta) (hs : starEach [a] X.env = [(false, eval a X.env)] := by rfl) :
    PI X (.Tuple elts k tpos) (.Call (.Name "enumerate" p) [a] [] pos) (iEnum X.K ta) := by
  intro pins s σ H R I h
  refine Call_ (ld_blt I hg hm (show bootBuiltins "enumerate" = some (.type "enumerate") by decide +kernel) (PyProof.Rows.callWith_type1 (thn (ha pos pins s σ H _ I h) fun us s1 ⟨vs, H1, I1, r1, q1⟩ => ?_) hs rfl))
  obtain ⟨l, e, ⟨xs, hq⟩, q⟩ := q1
  subst e
  cases r1 with
  | cons r rr =>
    cases rr
    cases r
    obtain ⟨its, rv, pl, hz⟩ := I1.list hq
    refine call_enumerate_list pl.isList fun h' he hit hsz hk => ?_
    refine wpAny_pyIter_enum he ?_
    have I2 : Inv X pins σ H1 { s1 with heap := h' } := I1.kept (t' := s1.toks) hk
    refine ⟨s1.heap.objs.size + 1, [s1.heap.objs.size + 1, s1.heap.objs.size], _, _, H1, rfl, I2, turn_enum l _ _ (Nat.succ_ne_self _), ⟨⟨_, by simpa using he⟩, hit⟩, fun b hb => ?_, q⟩
    rcases List.mem_cons.mp hb with rfl | hb
    · exact I1.fpOk (Nat.le_succ _) (I1.hok.fresh (Nat.le_succ _))
    · have e' := List.mem_singleton.mp hb
      subst e'
      exact I1.fpOk (Nat.le_refl _) (I1.hok.fresh (Nat.le_refl _))
end

mutual
inductive Bd (K : PySem.W.Frag) (H : Hp) : V → PyData → Prop
  | int (i : Int) : Bd K H (.int i) (.int i)
  | non : Bd K H .non .none
  | bl (b : Bool) : Bd K H (.bl b) (.bool b)
  | lst {a : Addr} {xs : List V} {ds : List PyData} : SqL K H a xs → Bds K H xs ds → Bd K H (.ref a) (.list ds)
  | tup {a : Addr} {xs : List V} {ds : List PyData} : SqT K H a xs → Bds K H xs ds → Bd K H (.ref a) (.tuple ds)
inductive Bds (K : PySem.W.Frag) (H : Hp) : List V → List PyData → Prop
  | nil : Bds K H [] []
  | cons {x : V} {xs : List V} {d : PyData} {ds : List PyData} : Bd K H x d → Bds K H xs ds → Bds K H (x :: xs) (d :: ds)
end
theorem Bds.ints {K : PySem.W.Frag} {H : Hp} : ∀ ns : List Int, Bds K H (ns.map V.int) (ns.map PyData.int)
  | [] => .nil
  | n :: ns => .cons (.int n) (Bds.ints ns)
section
variable {X : Cx} {pins : List (Addr × Obj)} {σ : St} {H : Hp} {s : Shared}
mutual
theorem Bd.reads (I : Inv X pins σ H s) : ∀ {x : V} {d : PyData} {u : Value}, Bd X.K H x d → RelV x u → ∃ as, Reads s.heap u d as
  | _, _, u, .int i, r => by obtain ⟨t, rfl⟩ := r; exact ⟨_, .int i t⟩
  | _, _, u, .non, r => by cases r; exact ⟨_, .none⟩
  | _, _, u, .bl b, r => by cases r; exact ⟨_, .bool b⟩
  | _, _, u, .lst hq b, r => by
    cases r
    obtain ⟨its, rv, ⟨o, n, e, hc, _, hd⟩, hz⟩ := I.list hq
    obtain ⟨as, h⟩ := Bds.reads I b rv
    exact ⟨_, .list e hc hd (by simpa using h)⟩
  | _, _, u, .tup hq b, r => by
    cases r
    obtain ⟨its, rv, ⟨o, e, hc, n, hd⟩, hz⟩ := I.tuple hq
    obtain ⟨as, h⟩ := Bds.reads I b rv
    exact ⟨_, .tuple e hc hd (by simpa using h)⟩
theorem Bds.reads (I : Inv X pins σ H s) : ∀ {xs : List V} {ds : List PyData} {us : List Value}, Bds X.K H xs ds → Vals xs us → ∃ as, ReadsAll s.heap us ds as
  | _, _, _, .nil, r => by cases r; exact ⟨_, .nil⟩
  | _, _, _, .cons b bs, r => by
    cases r with
    | cons r rr =>
      obtain ⟨as, h⟩ := Bd.reads I b r
      obtain ⟨bs', h'⟩ := Bds.reads I bs rr
      exact ⟨_, .cons h h'⟩
end
end
section
variable {X : Cx}
def rEqD (K : PySem.W.Frag) (neg : Bool) : R2 := fun x y H Q => ∃ dx dy, Bd K H x dx ∧ Bd K H y dy ∧ SeqAt.shaped dx = true ∧ SeqAt.shaped dy = true ∧ Q (.bl (PyData.eqv dx dy ^^ neg)) H
theorem op_eqD (hu : X.A.units + 64 < cLine) : OpR X (compareOp .Eq) (rEqD X.K false) := by
  intro pins s σ H x y v u Q I rx ry h
  obtain ⟨dx, dy, bx, b_y, sx, sy, q⟩ := h
  obtain ⟨as, r1⟩ := bx.reads I rx
  obtain ⟨bs, r2⟩ := b_y.reads I ry
  exact eq_dataH r1 r2 sx sy hu ⟨.bl _, H, I, rfl, by simpa using q⟩
theorem op_neD (hu : X.A.units + 64 < cLine) : OpR X (compareOp .NotEq) (rEqD X.K true) := by
  intro pins s σ H x y v u Q I rx ry h
  obtain ⟨dx, dy, bx, b_y, sx, sy, q⟩ := h
  obtain ⟨as, r1⟩ := bx.reads I rx
  obtain ⟨bs, r2⟩ := b_y.reads I ry
  exact ne_dataH r1 r2 sx sy hu ⟨.bl _, H, I, rfl, by simpa using q⟩
end

section
variable {X : Cx}
end
end L2
namespace L2
open PySem PySem.Spec PyProof.Rows
theorem iteFb {c : Bool} {A B : Prop} (hc : c = false) (h : B) : if c = true then A else B := by subst hc; exact iteF h
theorem iteTb {c : Bool} {A B : Prop} (hc : c = true) (h : A) : if c = true then A else B := by subst hc; exact iteT h
theorem same_new {H : Hp} {p : Addr} (h : H p = none) (o : HO) : Same H (upd H p o) := fun b u q => by rw [upd_ne (ne_of_none q h)]; exact q
end L2
namespace L2
open PySem PySem.Spec PyProof.Rows
end L2
namespace L2
open PySem PySem.Spec PyProof.Rows
section
variable {X : Cx} {K : PySem.W.Frag}
theorem kix_list (h : X.K = K) : IxR X (rIxL K) := by subst h; exact ix_list
theorem kcall_len (h : X.K = K) : CallR X (.builtin "len") (fun xs H Q => ∃ p ys, xs = [.ref p] ∧ (SqL K H p ys ∨ SqT K H p ys) ∧ Q (.int ys.length) H) := by subst h; exact call_len_seq
theorem kop_in (h : X.K = K) : OpR X (compareOp .In) (rIn K false) := by subst h; exact op_in_seq
theorem kpg_tup {es : List Expr} {k : Nat} {t : TGs} {n : Nat} {pos : Pos} (e : X.K = K) (hc : X.calm = true) (h : PGs X es t)
    (hn : (assignEach es X.env).length = n := by rfl) (hst : (assignEach es X.env).findIdx? (·.1) = none := by rfl) : PG X (.Tuple es k pos) (gTup K n t) := by subst e; exact pg_tup hc h hn hst
end
end L2

namespace MM
end MM
namespace MM
end MM
namespace MM
end MM

set_option Elab.async false
set_option linter.all false
set_option maxRecDepth 100000
set_option maxHeartbeats 4000000
namespace L2
open PySem PySem.Spec PyProof.Rows
abbrev vn (n : Nat) : V := .int (n : Int)
abbrev vns (l : List Nat) : List V := l.map vn
section
variable {X : Cx}
def insAt {α : Type} (l : List α) (i : Nat) (x : α) : List α := l.take i ++ x :: l.drop i
def rInsert : V → List V → Hp → VK → Prop := fun x vs H Q => ∃ (l : Addr) (xs : List V) (i : Nat) (y : V), x = .ref l ∧ vs = [vn i, y] ∧ H l = some (.lst xs) ∧ i ≤ xs.length ∧ xs.length < sizeLine ∧ Q .non (upd H l (.lst (insAt xs i y)))
theorem mt_insert : MtM X "list.insert" rInsert := by
  intro pins s σ H x vs v us Q I rx rv h
  obtain ⟨l, xs, i, y, rfl, rfl, hH, hi, hz, q⟩ := h
  cases rx
  obtain ⟨u1, u2, rfl, ⟨t, rfl⟩, r2⟩ := rv.two
  obtain ⟨z, its, n, r, hl, e⟩ := I.lstM hH
  have hfit : Builtin.List.listFitsIndex (i : Int) = true := by
    unfold Builtin.List.listFitsIndex
    have := line63
    simp only [Bool.and_eq_true, decide_eq_true_eq]
    omega
  have hc0 : ¬(!Builtin.List.listFitsIndex (i : Int)) = true := by rw [hfit]; exact Bool.false_ne_true
  have hz1 : its.toArray.size ≤ sizeLine := by rw [List.size_toArray]; omega
  obtain ⟨w, hw⟩ : ∃ w : Int, w = (i : Int) := ⟨_, rfl⟩
  rw [← hw] at hc0
  have mm := PySem.AutoSeq1.list_insert_list_int_val_1 l its.toArray n w t u2 hc0 hz1
  rw [← hw]
  refine call_meets F.slot_list_insert ⟨_, e, rfl⟩ F.entry_list_insert (F.args_list_insert_3 _ _ _) mm ⟨e, ?_⟩
  refine ⟨.non, _, I.lset (its' := insAt its i u2) (ys := insAt xs i y) (t' := s.toks) hH e ?_ ?_ ?_, rfl, q⟩
  · have hk : (if w < 0 then (w + (its.toArray.size : Int)).toNat else min w.toNat its.toArray.size) = i := by
      rw [if_neg (by omega), List.size_toArray]
      omega
    show (its.toArray.extract 0 (if w < 0 then (w + (its.toArray.size : Int)).toNat else min w.toNat its.toArray.size)).push u2 ++ its.toArray.extract (if w < 0 then (w + (its.toArray.size : Int)).toNat else min w.toNat its.toArray.size) = _
    rw [hk]
    unfold insAt
    simp
    exact List.take_of_length_le (by simp)
  · unfold insAt
    exact Vals.append (r.take _) (.cons r2 (r.drop _))
  · unfold insAt
    rw [List.length_append, List.length_cons, List.length_take, List.length_drop]
    omega
end
theorem at_vns {l : List Nat} {j : Nat} (h : j < l.length) {k : Int} (hk : k = (j : Int)) : atI (vns l) k = some (vn (l.getD j 0)) := by
  subst hk
  exact atI_nat (by rw [List.getElem?_map, List.getElem?_eq_getElem h]; simp [List.getD, h])
end L2

set_option linter.all false
set_option maxRecDepth 100000
set_option maxHeartbeats 4000000

namespace L2
open PySem PySem.Spec PyProof.Rows
theorem comp_rel {J : It} {js : List (Option Nat)} {σ : St} {H1 : Hp} {R : Hp → Prop} {D : Addr} {g : TG} {te : TE} (n : Nat) (Pe : Nat → V → Prop) (hD : H1 D = none) (hn : n ≤ 100000)
    (go : ∀ i H', i < n → Same H1 H' → J.go i H') (stop : ∀ H', Same H1 H' → J.stop n H')
    (hs : ∀ i H' x H'' (k : V → Hp → Prop), i < n → Same H1 H' → J.yld i H' x H'' → (∀ v H4, Pe i v → Same H' H4 → k v H4) → g x (inner js σ) H'' fun σ2 H2 => Fills (inner js σ) σ2 ∧ te σ2 H2 k)
    (hd : ∀ vs H', vs.length = n → (∀ (i : Nat) v, vs[i]? = some v → Pe i v) → Same H1 H' → H' D = some (.lst vs) → R H') :
    ∃ W : Nat → Nat → List V → Hp → Prop, (∃ m, W 0 m [] (upd H1 D (.lst []))) ∧
      ∀ i m ys H, W i m ys H → (J.stop i H ∧ R H) ∨ (J.go i H ∧ ∃ N : List V → Hp → Prop, (∀ ys' H', N ys' H' → ∃ m', m' < m ∧ W (i + 1) m' ys' H') ∧ ∀ x H', J.yld i H x H' → g x (inner js σ) H' fun σ2 H2 => Fills (inner js σ) σ2 ∧ tTrue σ2 H2 fun b H3 =>
        if b = true then te σ2 H3 fun y H4 => H4 D = some (.lst ys) ∧ ys.length < sizeLine ∧ N (ys ++ [y]) (upd H4 D (.lst (ys ++ [y]))) else N ys H3) := by
  refine comp_map n (fun i ys H' => ys.length = i ∧ (∀ (j : Nat) v, ys[j]? = some v → Pe j v) ∧ Same H1 H' ∧ H' D = some (.lst ys)) ⟨rfl, fun j v h => by simp at h, same_new hD _, upd_same⟩ ?_ ?_
  · rintro i ys H' hi ⟨hl, hp, g1, hD'⟩
    refine ⟨go i H' hi g1, fun x H'' hy => hs i H' x H'' _ hi g1 hy fun v H4 hv g4 => ⟨g4 _ _ hD', ?_, ?_, ?_, ?_, upd_same⟩⟩
    · rw [hl]; exact Nat.lt_of_lt_of_le hi (Nat.le_trans hn (by decide))
    · rw [List.length_append, hl]; rfl
    · intro j v' h
      by_cases hj : j < ys.length
      · rw [List.getElem?_append_left hj] at h; exact hp j v' h
      · rw [List.getElem?_append_right (by omega)] at h
        have hj2 : j - ys.length = 0 := by
          have := (List.getElem?_eq_some_iff.mp h).1
          simp at this; omega
        rw [hj2] at h
        simp at h
        subst h
        have : j = i := by omega
        subst this
        exact hv
    · exact fun b o h => by rw [upd_ne (ne_of_none h hD)]; exact g4 _ _ (g1 _ _ h)
  · rintro ys H' ⟨hl, hp, g1, hD'⟩
    exact ⟨stop H' g1, hd ys H' hl hp g1 hD'⟩
theorem rel_fun {vs : List V} {n : Nat} {fs : Nat → V} (hl : vs.length = n) (h : ∀ (i : Nat) v, vs[i]? = some v → v = fs i) : vs = (List.range n).map fs := by
  apply List.ext_getElem?
  intro i
  by_cases hi : i < n
  · rw [List.getElem?_map, List.getElem?_range hi]
    obtain ⟨v, hv⟩ : ∃ v, vs[i]? = some v := ⟨vs[i], List.getElem?_eq_getElem (by omega)⟩
    rw [hv, h i v hv]; rfl
  · rw [List.getElem?_eq_none (by omega), List.getElem?_eq_none (by simp; omega)]
theorem comp_pure {J : It} {js : List (Option Nat)} {σ : St} {H1 : Hp} {R : Hp → Prop} {D : Addr} {g : TG} {te : TE} (n : Nat) (fs : Nat → V) (hD : H1 D = none) (hn : n ≤ 100000)
    (go : ∀ i H', i < n → Same H1 H' → J.go i H') (stop : ∀ H', Same H1 H' → J.stop n H')
    (hs : ∀ i H' x H'' (k : V → Hp → Prop), i < n → Same H1 H' → J.yld i H' x H'' → (∀ H4, Same H' H4 → k (fs i) H4) → g x (inner js σ) H'' fun σ2 H2 => Fills (inner js σ) σ2 ∧ te σ2 H2 k)
    (hd : ∀ H', Same H1 H' → H' D = some (.lst ((List.range n).map fs)) → R H') :
    ∃ W : Nat → Nat → List V → Hp → Prop, (∃ m, W 0 m [] (upd H1 D (.lst []))) ∧
      ∀ i m ys H, W i m ys H → (J.stop i H ∧ R H) ∨ (J.go i H ∧ ∃ N : List V → Hp → Prop, (∀ ys' H', N ys' H' → ∃ m', m' < m ∧ W (i + 1) m' ys' H') ∧ ∀ x H', J.yld i H x H' → g x (inner js σ) H' fun σ2 H2 => Fills (inner js σ) σ2 ∧ tTrue σ2 H2 fun b H3 =>
        if b = true then te σ2 H3 fun y H4 => H4 D = some (.lst ys) ∧ ys.length < sizeLine ∧ N (ys ++ [y]) (upd H4 D (.lst (ys ++ [y]))) else N ys H3) :=
  comp_rel n (fun i v => v = fs i) hD hn go stop (fun i H' x H'' k hi g1 hy hk => hs i H' x H'' k hi g1 hy fun H4 g4 => hk _ _ rfl g4)
    fun vs H' hl hp g1 e => hd H' g1 (by rw [e, rel_fun hl hp])
def at0 (ls : List Int) (j : Nat) : Int := ls.getD j 0
theorem at_get {ls : List Int} {j : Nat} (h : j < ls.length) : (ls.map V.int)[j]? = some (.int (at0 ls j)) := by
  unfold at0
  rw [List.getElem?_map, List.getElem?_eq_getElem h]
  simp [List.getD, h]
def vo : Option Int → V
  | none => .non
  | some i => .int i
abbrev vos (l : List (Option Int)) : List V := l.map vo
theorem ixN_ok {n j : Nat} {k : Int} (h : j < n) (hk : k = (j : Int)) : ixN n k = some j := by
  subst hk
  unfold ixN
  rw [if_pos (by omega), if_pos (by omega)]
  simp
def dvo : Option Int → PyData
  | none => .none
  | some i => .int i
theorem Bds.vos {K : PySem.W.Frag} {H : Hp} : ∀ l : List (Option Int), Bds K H (vos l) (l.map dvo)
  | [] => .nil
  | none :: ns => .cons .non (Bds.vos ns)
  | some n :: ns => .cons (.int n) (Bds.vos ns)
theorem bd_ints {K : PySem.W.Frag} {H : Hp} {a : Addr} {ns : List Int} (h : H a = some (.lst (ns.map V.int))) : Bd K H (.ref a) (.list (ns.map PyData.int)) := .lst (SqL.of h) (Bds.ints ns)
theorem bd_vos {K : PySem.W.Frag} {H : Hp} {a : Addr} {ns : List (Option Int)} (h : H a = some (.lst (vos ns))) : Bd K H (.ref a) (.list (ns.map dvo)) := .lst (SqL.of h) (Bds.vos ns)
theorem lay_all {ds : List PyData} (n : Nat) (h : ∀ d ∈ ds, d.canLay0 = true ∧ d.depth ≤ n) : PyData.canLayAll0 ds = true ∧ PyData.depthAll ds ≤ n := by
  induction ds with
  | nil => exact ⟨rfl, Nat.zero_le _⟩
  | cons d ds ih =>
    have h1 := h d List.mem_cons_self
    have h2 := ih fun x hx => h x (List.mem_cons_of_mem _ hx)
    refine ⟨by rw [PyData.canLayAll0, h1.1, h2.1]; rfl, ?_⟩
    rw [PyData.depthAll]
    exact Nat.max_le.mpr ⟨h1.2, h2.2⟩
theorem lay_ints (ns : List Int) : PyData.canLayAll0 (ns.map PyData.int) = true ∧ PyData.depthAll (ns.map PyData.int) ≤ 2 := lay_all 2 fun d hd => by
  obtain ⟨n, _, rfl⟩ := List.mem_map.mp hd
  exact ⟨rfl, by simp [PyData.depth]⟩
theorem lay_vos (ns : List (Option Int)) : PyData.canLayAll0 (ns.map dvo) = true ∧ PyData.depthAll (ns.map dvo) ≤ 2 := lay_all 2 fun d hd => by
  obtain ⟨n, _, rfl⟩ := List.mem_map.mp hd
  cases n with
  | none => exact ⟨rfl, by simp [dvo, PyData.depth]⟩
  | some i => exact ⟨rfl, by simp [dvo, PyData.depth]⟩
theorem via {tt r : TS} {D : Ends} {σ : St} {H : Hp} (I : St → Hp → Prop) (ht : (∀ σ' H', I σ' H' → r D σ' H') → tt { D with nx := r D } σ H) (hr : ∀ σ' H', I σ' H' → r D σ' H') : tSeq tt r D σ H := ht hr
theorem rel_ints {vs : List V} (h : ∀ (i : Nat) v, vs[i]? = some v → ∃ z : Int, v = .int z) : ∃ cs : List Int, vs = cs.map V.int ∧ cs.length = vs.length := by
  induction vs with
  | nil => exact ⟨[], rfl, rfl⟩
  | cons v vs ih =>
    obtain ⟨z, rfl⟩ := h 0 v rfl
    obtain ⟨cs, h1, h2⟩ := ih fun i v hv => h (i + 1) v (by simpa using hv)
    exact ⟨z :: cs, by rw [h1]; rfl, by simp [h2]⟩
theorem shaped_ints (ns : List Int) : SeqAt.shaped (.list (ns.map PyData.int)) = true := by
  have h := lay_ints ns
  unfold SeqAt.shaped
  rw [Bool.and_eq_true]
  refine ⟨h.1, decide_eq_true ?_⟩
  rw [PyData.depth]
  omega
theorem for_enum {K : PySem.W.Frag} {a : Addr} {xs : List V} {g : TG} {tb : TS} {D : Ends} {σ : St} {H : Hp} (Pv : Nat → St → Hp → Prop) (h0 : Pv 0 σ H) (hl : ∀ i σ H, i ≤ xs.length → Pv i σ H → SqL K H a xs)
    (hs : ∀ (i : Nat) x σ H T, xs[i]? = some x → Pv i σ H → H T = none → g (.ref T) σ (upd H T (.tup [vn i, x])) fun σ2 H2 => tb { D with nx := Pv (i + 1), ct := Pv (i + 1), bk := D.nx } σ2 H2) (hd : ∀ σ H, Pv xs.length σ H → D.nx σ H) :
    ∃ W : Nat → Nat → St → Hp → Prop, (∃ m, W 0 m σ H) ∧ ∀ i m σ H, W i m σ H →
      ((Ite K a).stop i H ∧ D.nx σ H) ∨ ((Ite K a).go i H ∧ ∃ N : St → Hp → Prop, (∀ σ' H', N σ' H' → ∃ m', m' < m ∧ W (i + 1) m' σ' H') ∧ ∀ x H', (Ite K a).yld i H x H' → g x σ H' fun σ2 H2 => tb { D with nx := N, ct := N, bk := D.nx } σ2 H2) := by
  refine ⟨fun i m σ H => m = xs.length - i ∧ i ≤ xs.length ∧ Pv i σ H, ⟨xs.length, by simp, Nat.zero_le _, h0⟩, ?_⟩
  rintro i m σ H ⟨rfl, hi, p⟩
  have q := hl i σ H hi p
  by_cases hlt : i < xs.length
  · refine .inr ⟨⟨xs, xs[i], q, by simp [hlt]⟩, Pv (i + 1), fun σ' H' p' => ⟨xs.length - (i + 1), by omega, rfl, hlt, p'⟩, fun x H' y => ?_⟩
    obtain ⟨T, x', rfl, hT, rfl, y⟩ := y
    exact hs i x' σ _ T (y xs q) p hT
  · have e : i = xs.length := by omega
    subst e
    exact .inl ⟨⟨xs, q, Nat.le_refl _⟩, hd σ H p⟩
end L2

namespace L2
open PySem PySem.Spec PyProof.Rows
theorem preSum_at0 (ns : List Int) : ∀ k, k ≤ ns.length → PySem.preSum (at0 ns) k = (ns.take k).sum
  | 0, _ => by simp [PySem.preSum]
  | k + 1, h => by
    rw [PySem.preSum, preSum_at0 ns k (by omega), List.take_succ, List.sum_append]
    have hk : k < ns.length := by omega
    unfold at0
    simp [List.getD, hk]
section
variable {X : Cx} {pins : List (Addr × Obj)} {σ : St} {H : Hp} {s : Shared}
theorem listIter_st {p : Addr} {its : List Value} (pl : PlainL s.heap p its.toArray) :
    (s.heap.push { cls := .type "list_iterator", data := .fields #[.ref p, .int 0 0] }).IsListIter s.heap.objs.size p 0 ∧ (s.heap.push { cls := .type "list_iterator", data := .fields #[.ref p, .int 0 0] }).IsList p its.toArray := by
  obtain ⟨o, n, e, hc, hd, hs⟩ := pl
  exact ⟨⟨_, Heap.get?_push_size _ rfl, rfl, rfl⟩, o, Heap.get?_push_of_some _ e, hc, n, hs⟩
theorem plain_ne {p : Addr} {its : List Value} (pl : PlainL s.heap p its.toArray) : p < s.heap.objs.size := by
  obtain ⟨o, n, e, _⟩ := pl
  exact Heap.lt_size e
theorem call_sumI (hc : X.calm = true) : CallR X (.builtin "sum") (fun xs H Q => ∃ (p : Addr) (ns : List Int), xs = [.ref p] ∧ SqL X.K H p (ns.map V.int) ∧ Q (.int ns.sum) H) := by
  intro pins s σ H xs us Q I r h
  obtain ⟨p, ns, rfl, hq, q⟩ := h
  obtain ⟨u, rfl, rx⟩ := vals1 r
  cases rx
  obtain ⟨its, rv, pl, hz⟩ := I.list hq
  have hl := rv.length
  rw [List.length_map] at hl
  have hp := plain_ne pl
  refine call_sum_walkG (wpAny_pyIter_list pl.isList ?_)
  refine ⟨s.heap.objs.size, [s.heap.objs.size, p], [s.heap.objs.size], its.toArray.size, _, _, at0 ns, rfl, Walks.list (show X.A.in1.handled = none from I.ok.hd hc) _ p (Nat.ne_of_lt hp) its.toArray, listIter_st pl, fun b hb => ?_, fun i v hv => ?_, fun h' tk t' hk => ?_⟩
  · have := Heap.lt_size (Heap.get?_push_size s.heap (o := { cls := .type "list_iterator", data := .fields #[.ref p, .int 0 0] }) rfl)
    simp only [List.mem_cons, List.not_mem_nil, or_false] at hb
    rcases hb with rfl | rfl
    · exact this
    · exact Nat.lt_trans hp this
  · have hi : its[i]? = some v := by simpa using hv
    have hi2 : i < ns.length := by rw [hl]; exact (List.getElem?_eq_some_iff.mp hi).1
    obtain ⟨u', hu, ru⟩ := rv.get (at_get hi2)
    rw [hi] at hu
    cases hu
    exact ru
  · refine ⟨.int ns.sum, H, I.kept (h' := h') (t' := tk) fun b o e => ?_, ⟨t', ?_⟩, q⟩
    · refine hk b o ?_ (Heap.get?_push_of_some _ e)
      simp only [List.mem_cons, List.not_mem_nil, or_false]
      exact Nat.ne_of_lt (Heap.lt_size e)
    · rw [List.size_toArray, ← hl, preSum_at0 ns _ (Nat.le_refl _), List.take_length]
end
end L2
namespace L2
open PySem PySem.Spec PyProof.Rows
theorem all_range (bs : List Bool) : (List.range bs.length).all (fun i => bs.getD i true) = bs.all id := by
  rw [Bool.eq_iff_iff, List.all_eq_true, List.all_eq_true]
  constructor
  · intro h b hb
    obtain ⟨i, hi, rfl⟩ := List.getElem_of_mem hb
    have := h i (by simpa using hi)
    simpa [List.getD, hi] using this
  · intro h i hi
    have hi' : i < bs.length := by simpa using hi
    have := h bs[i] (List.getElem_mem hi')
    simpa [List.getD, hi'] using this
section
variable {X : Cx}
theorem call_allB (hc : X.calm = true) : CallR X (.builtin "all") (fun xs H Q => ∃ (p : Addr) (bs : List Bool), xs = [.ref p] ∧ SqL X.K H p (bs.map V.bl) ∧ Q (.bl (bs.all id)) H) := by
  intro pins s σ H xs us Q I r h
  obtain ⟨p, bs, rfl, hq, q⟩ := h
  obtain ⟨u, rfl, rx⟩ := vals1 r
  cases rx
  obtain ⟨its, rv, pl, hz⟩ := I.list hq
  have hl := rv.length
  rw [List.length_map] at hl
  have hp := plain_ne pl
  refine call_all_walk (wpAny_pyIter_list pl.isList ?_)
  refine ⟨s.heap.objs.size, [s.heap.objs.size, p], [s.heap.objs.size], its.toArray.size, _, _, fun i => bs.getD i true, rfl, Walks.list (show X.A.in1.handled = none from I.ok.hd hc) _ p (Nat.ne_of_lt hp) its.toArray, listIter_st pl, fun i v s' Q' E' hv hQ => ?_, fun h' tk hk => ?_⟩
  · have hi : its[i]? = some v := by simpa using hv
    have hi2 : i < bs.length := by rw [hl]; exact (List.getElem?_eq_some_iff.mp hi).1
    obtain ⟨u', hu, ru⟩ := rv.get (show (bs.map V.bl)[i]? = some (.bl (bs.getD i true)) by rw [List.getElem?_map, List.getElem?_eq_getElem hi2]; simp [List.getD, hi2])
    rw [hi] at hu
    cases hu
    cases ru
    exact wpAny_truthy_bool hQ
  · refine ⟨.bl (bs.all id), H, I.kept (h' := h') (t' := tk) fun b o e => ?_, ?_, q⟩
    · refine hk b o ?_ (Heap.get?_push_of_some _ e)
      simp only [List.mem_cons, List.not_mem_nil, or_false]
      exact Nat.ne_of_lt (Heap.lt_size e)
    · show Value.bool _ = Value.bool _
      rw [List.size_toArray, ← hl, all_range]
end
end L2

namespace L2
open PySem PySem.Spec PyProof.Rows
section
variable {X : Cx}
end
end L2

namespace L2
open PySem PySem.Spec PyProof.Rows
section
variable {X : Cx}
theorem call_sortedI : CallR X (.builtin "sorted") (fun xs H Q => ∃ p ns, xs = [.ref p] ∧ SqL X.K H p (ns.map V.int) ∧ ns.length < 64 ∧ ∀ (l : Addr) (ns' : List Int), H l = none → ns'.Perm ns → ns'.Pairwise (· ≤ ·) → Q (.ref l) (upd H l (.lst (ns'.map V.int)))) := by
  intro pins s σ H xs us Q I r h
  obtain ⟨p, ns, rfl, hq, h64, q⟩ := h
  obtain ⟨u, rfl, rx⟩ := vals1 r
  cases rx
  obtain ⟨its, r', pl, hz⟩ := I.list hq
  have hlen := r'.length
  rw [List.length_map] at hlen
  refine sorted_ints (ns := ns) (vs := its) pl.isList (intsAre_of r') (by omega) fun out ns' a1 a2 a3 => ?_
  obtain ⟨e, he⟩ := sortedAll_at s.heap its out
  have rv := vals_ints a1
  refine ⟨.ref (s.heap.objs.size + 1), _, I.laid (t' := s.toks) (fun _ _ => sortedAll_old) (Nat.le_succ _) (show ObjOk X.prog X.w _ _ _ (.lst (ns'.map V.int)) from ⟨?_, out.toList, e, rv, he⟩), rfl, q _ ns' (I.hok.fresh (Nat.le_succ _)) a2 a3⟩
  rw [List.length_map, a2.length_eq]
  exact Nat.le_trans (by omega : ns.length ≤ 64) (by decide)
end
end L2

namespace L2
open PySem PySem.Spec PyProof.Rows
section
variable {κ : Type} [DecidableEq κ]
end


section
variable {P : Program} {w : World} {H : Hp} {h : Heap} {a : Addr}
end

section
variable {X : Cx} {pins : List (Addr × Obj)} {σ : St} {H : Hp} {s : Shared} {a : Addr} {y v : V} {u r : Value} {o : Option V} {A : Around} {E : Value → Shared → Prop}

end

section
variable {X : Cx} {pins : List (Addr × Obj)} {σ : St} {H : Hp} {s : Shared} {a : Addr} {kvs : List (Key × V)} {k : Key} {u : Value} {A : Around} {E : Value → Shared → Prop}
end


section
variable {X : Cx} {o i e value : Expr} {pos pos' tpos : Pos} {td ty tv : TE}
end


section
variable {X : Cx} {pos : Pos}
end

end L2

namespace L2
open PySem PySem.Spec PyProof.Rows
section
variable {X : Cx} {e ste : Expr} {te : TE} {lo hi : Option Expr} {tl th tk : TO} {pos p2 : Pos}
end
end L2

namespace L2
open PySem PyProof.Rows
end L2

namespace L2
open PySem PySem.Spec PyProof.Rows

section
variable {P : Program} {w : World} {H H' : Hp} {h h' : Heap} {a : Addr} {o : HO}
theorem ObjOk.here (x : ObjOk P w H h a o) : ∃ u, h.get? a = some u := by
  cases o with
  | lst xs => exact let ⟨_, _, _, _, e⟩ := x; ⟨_, e⟩
  | tup xs => exact let ⟨_, _, _, _, e, _⟩ := x; ⟨_, e⟩
  | dK kvs => exact let ⟨_, _, _, _, _, _, _, e, _⟩ := x; ⟨_, e⟩
  | dT kvs => exact let ⟨_, _, _, _, _, _, _, e, _⟩ := x; ⟨_, e⟩
  | set S n => exact let ⟨_, _, _, _, e, _⟩ := x; ⟨_, e⟩
  | ins C dx fs => exact let ⟨_, _, _, e, _⟩ := x; ⟨_, e⟩
  | own y => exact x
  | xd fs => obtain ⟨_, h1, _⟩ := x; obtain ⟨_, _, _, e, _⟩ := h1; exact ⟨_, e⟩
  | rng lo hi => exact let ⟨_, _, _, e⟩ := x; ⟨_, e⟩
  | frz ob u => exact ⟨_, x.1⟩
  | tbl ps => exact ⟨_, (show h.get? a = some _ from x)⟩
  | met f y => exact ⟨_, (show h.get? a = some _ from x)⟩
  | ext φ => exact x.2.1

theorem HOk.gone (x : HOk P w H h) (e : h.get? a = none) : H a = none := by
  cases q : H a with
  | none => rfl
  | some o =>
    obtain ⟨u, z⟩ := (x a o q).here
    rw [e] at z
    cases z

theorem HOk.hid {fs : List Addr} (x : HOk P w H h) (n : ∀ b ∈ fs, H b = none) : HOk P w H (PySem.W.hideAll h fs) := fun a o e => by
  refine (x a o e).stay (fun b u hb q => PySem.W.hideAll_get fs q fun m => ?_) (fun _ q => q) fun _ _ q => q
  have z := n b m
  rcases hb with rfl | hb
  · rw [z] at e; cases e
  · rw [z] at hb; cases hb
end

def CXr (P : Program) (w : World) (C : Addr) : CXT := fun outer H s E e s' =>
  ∃ (x : Addr) (a0 : Value) (B : Heap) (H' : Hp), e = .ref x ∧ s'.os = s.os ∧ AllBare s'.gens ∧ Un (frs outer) [] H H' s.heap s'.heap ∧
    (∀ b o, s.heap.get? b = some o → H b = none → b ∉ frs outer → B.get? b = some o) ∧ (∀ b o, s.heap.get? b = some o → b ∉ frs outer → ∃ u, B.get? b = some u) ∧ HOk P w H' B ∧ Heap.FlyingW B outer x (.ref C) a0 s'.heap ∧ E e none H'

theorem exc_at {K : PySem.W.Frag} {h : Heap} {C : Addr} {bmB : List Value} {newId : String} (X : K.In h) (q : PySem.W.excIn K C bmB newId = true) :
    ∃ bm N nm qn bs hdct sn sub ab col dd k0 k1 k2 k3 k5 mN, h.get? C = some (excClassObj nm qn C N bs bm hdct sn sub ab col dd k0 k1 k2 k3 k5 newId) ∧ h.Ns N mN ∧ mN "__init__" = none ∧ OwnTail h bmB bm := by
  unfold PySem.W.excIn at q
  split at q
  · rename_i dd cd sl ho
    split at q
    · rename_i C' bm k0 k1 k2 k3 n k5 hm hs
      simp only [Bool.and_eq_true, beq_iff_eq, Bool.not_eq_true'] at q
      obtain ⟨⟨⟨⟨⟨e1, e2⟩, e3⟩, e4⟩, e5⟩, e6⟩ := q
      subst e1
      subst e2
      cases cd with
      | mk nm bs mro ns qn hd sn sub ab col del =>
        cases sl with
        | mk l =>
          change mro = _ at hm
          change l = _ at hs
          change del = false at e3
          cases hm
          cases hs
          cases e3
          refine ⟨bm, ns, nm, qn, bs, hd, sn, sub, ab, col, dd, k0, k1, k2, k3, k5, h.nsMap ns, ?_, ?_, ?_, PySem.W.tail_of_in X e4⟩
          · exact X _ _ ho
          · exact Heap.Ns.of_isNs (PySem.W.isNs_of_in X e5)
          · exact PySem.W.nsMap_none_of_in X e5 e6
    · cases q
  · cases q

def tRaise (E : XK) : TS := fun _ _ H => ∀ x : Addr, E (.ref x) none H

section
variable {P : Program} {w : World} {K : PySem.W.Frag} {mg : Str → Option Value} {base : Heap} {N : List Str} {qual : Str} {scope : Scope} {f C : Addr} {cd : Value} {A : Around} {outer : List Env} {s₀ : Shared} {H₀ : Hp} {E : XK}
  {x : Str} {Bs newId initId : String} {bm : List Value} {np cpos pos p : Pos} {msg : Str} {j : Nat}

theorem ps_raise (O : PySem.W.excIn K C bm newId = true) (FB : ExcBaseFacts Bs newId initId bm) (hm : mg x = some (.ref C)) (hg : scope.names.lookup x = some .globalImplicit := by rfl) (hd : (x == ("__debug__" : Str)) = false := by decide) :
    PS (cxOf (CXr P w C) P w K mg base N qual scope f cd A outer s₀ H₀ E) (.Raise (some (.Call (.Name x np) [.Constant (.str msg) j p] [] cpos)) none pos) (tRaise E) := by
  intro pins s σ H D I h
  obtain ⟨bm', N', nm, qn, bs, hdct, sn, sub, ab, col, dd, k0, k1, k2, k3, k5, mN, hC, hN, hni, T⟩ := exc_at I.ok.mod.kin O
  refine wpAny_Raise_call_subT (nm := nm) (q := qn) (C := C) (N := N') (bs := bs) (bm := bm') (hdct := hdct) (sn := sn) (sub := sub) (ab := ab) (col := col) (dd := dd)
    (k0 := k0) (k1 := k1) (k2 := k2) (k3 := k3) (k5 := k5) FB (T.hasType FB.hasBase) (I.ok.hd rfl) rfl hni (ld_glob I hg hm ⟨rfl, ?_⟩ hd)
  refine Calls.evalArgs_plain (thn ((pa_cons pe_str pa_nil : PA _ [.Constant (.str msg) j p] _) cpos pins s σ H (fun vs H1 => vs.length = 1 ∧ H1 = H) I ⟨rfl, rfl⟩) ?_)
  rintro us s2 ⟨vs, H2, I2, r, hl, rfl⟩
  refine ⟨rfl, ?_, I2.bk C _ hC, hN.keeps I2.bk, T.keeps I2.bk, fun h' e hx => ?_⟩
  · show us.length ≤ sizeLine
    rw [← r.length, hl]; decide
  · have hst : s2.heap.FunFrames base (envOfC qual scope s₀.heap.objs.size f cd :: outer) := I2.stack
    have hin : ∀ env ∈ envOfC qual scope s₀.heap.objs.size f cd :: outer, ∀ b, env.frame = some b → b ∈ frs (envOfC qual scope s₀.heap.objs.size f cd :: outer) := fun env he b hb => List.mem_filterMap.mpr ⟨env, he, hb⟩
    have hfree : ∀ b ∈ frs (envOfC qual scope s₀.heap.objs.size f cd :: outer), H2 b = none := I2.stkFree
    have hub : Un (frs outer) [] H₀ H2 s₀.heap s2.heap := I2.base
    have old : ∀ b o, s₀.heap.get? b = some o → b ∉ frs outer → b ∉ frs (envOfC qual scope s₀.heap.objs.size f cd :: outer) := fun b o hb hn hm => by
      obtain ⟨env, he, hf⟩ := List.mem_filterMap.mp hm
      rcases List.mem_cons.mp he with rfl | he
      · have z : s₀.heap.objs.size = b := Option.some.inj hf
        exact Nat.lt_irrefl _ (z ▸ Heap.lt_size hb)
      · exact hn (List.mem_filterMap.mpr ⟨env, he, hf⟩)
    have sub : ∀ b, b ∈ frs outer → b ∈ frs (envOfC qual scope s₀.heap.objs.size f cd :: outer) := fun b hb => by
      obtain ⟨env, he, hf⟩ := List.mem_filterMap.mp hb
      exact List.mem_filterMap.mpr ⟨env, List.mem_cons_of_mem _ he, hf⟩
    refine wpAny_leaves_madeW (base := PySem.W.hideAll s2.heap (frs (envOfC qual scope s₀.heap.objs.size f cd :: outer))) (h := s2.heap) (L := s₀.heap.objs.size) I2.ok.frames rfl
      (fun b o q => PySem.W.of_hideAll _ q) (PySem.W.funFrames_hide hst hin) hx fun h2 t f1 f2 f3 f4 => ?_
    have kp : ∀ b o, s2.heap.get? b = some o → b ∉ frs (envOfC qual scope s₀.heap.objs.size f cd :: outer) → h2.get? b = some o := fun b o q n => f1.1 b o (PySem.W.hideAll_get _ q n)
    have sl : ∀ b o, s2.heap.get? b = some o → b ∈ frs (envOfC qual scope s₀.heap.objs.size f cd :: outer) → ∃ z, h2.get? b = some { o with slots := z } := fun b o q m => by
      obtain ⟨_, o', ho', hd'⟩ := hst.mem m
      rw [q] at ho'
      cases ho'
      exact f4 b o (hx.keeps b o q) hd'
    refine ⟨e, .ref t, _, H2, rfl, I2.os, I2.bare, ⟨?_, ?_, hub.free, ?_, hub.tups, hub.frzs, hub.tbls⟩, ?_, ?_, I2.hok.hid hfree, f1, h e⟩
    · exact fun b o q n hb hx => kp b o (hub.keep b o q n hb hx) (old b o q hb)
    · intro b o q n hb hx
      obtain ⟨z, e1⟩ := hub.slot b o q n hb hx
      obtain ⟨z', e2⟩ := sl b _ e1 (sub b hb)
      exact ⟨z', e2⟩
    · intro b o q hx
      obtain ⟨o', e1⟩ := hub.there b o q hx
      by_cases hm : b ∈ frs (envOfC qual scope s₀.heap.objs.size f cd :: outer)
      · obtain ⟨z, e2⟩ := sl b _ e1 hm
        exact ⟨_, e2⟩
      · exact ⟨_, kp b _ e1 hm⟩
    · exact fun b o q n hb => PySem.W.hideAll_get _ (hub.keep b o q n hb (by simp)) (old b o q hb)
    · intro b o q hb
      obtain ⟨u, z⟩ := hub.there b o q (by simp)
      exact ⟨u, PySem.W.hideAll_get _ z (old b o q hb)⟩
end
end L2

namespace L2
open PySem PySem.Spec PyProof.Rows

def excO (C x : Addr) : HO := .ext fun h => ∃ o, h.get? x = some o ∧ o.cls = .ref C
theorem excO_ok {P : Program} {w : World} {H : Hp} {h : Heap} {C x : Addr} {o : Obj} (e : h.get? x = some o) (c : o.cls = .ref C) : ObjOk P w H h x (excO C x) :=
  ⟨⟨o, e, c⟩, ⟨o, e⟩, fun _ _ ⟨u, e1, c1⟩ k => ⟨u, k u e1, c1⟩⟩

abbrev Cx.at' (X : Cx) (A : Around) (calm : Bool) (pn : List (Addr × Obj)) (xe : Value → Shared → Prop) : Cx := { X with A := A, calm := calm, pn := pn, xe := xe }
abbrev tried (X : Cx) (pn : List (Addr × Obj)) (xe : Value → Shared → Prop) : Cx := X.at' X.A X.calm pn xe
abbrev caught (X : Cx) (pn : List (Addr × Obj)) (xe : Value → Shared → Prop) (e : Addr) : Cx := X.at' (X.A.mark (some (.ref e))) false pn xe

section
variable {X : Cx} {pins pins' pn : List (Addr × Obj)} {σ : St} {H H' : Hp} {s s' : Shared} {A : Around} {calm : Bool} {xe : Value → Shared → Prop}
theorem Inv.swap (I : Inv X pins σ H s) (hp : ∀ p ∈ pn ++ pins', p ∈ X.pn ++ pins) (hA : A.frames = X.A.frames) (hc : calm = true → A.handled = none) : Inv (X.at' A calm pn xe) pins' σ H s :=
  let o := I.ok
  ⟨⟨o.mod, o.kind, o.glob, o.blt, o.above, o.inj, o.has, o.cab, hc, hA.trans o.frames, o.stk, o.exf, o.bs, o.bsz, o.noex, o.exfs, o.funs, o.frf⟩, I.os, I.bare, I.base, I.loc, I.cell, I.free, I.freeC, fun p q => I.pin p (hp p q), I.hok, I.len⟩

theorem Inv.unset {m : Str → Option Value} {h' : Heap} {i : Nat} {x : Str} {u : Option Value} (I : Inv X pins σ H s) (nd : X.N.Nodup) (hi : X.N[i]? = some x) (hn : s.heap.Ns X.env.locals m)
    (hl : ∀ (i : Nat) (x : Str) (v : V), X.N[i]? = some x → σ[i]? = some (some v) → Vis X.env.scope x → ∃ u, RelV v u ∧ Look X.env s.heap m x u)
    (hn' : h'.Ns X.env.locals fun y => if y = x then u else m y) (hs : Heap.SameBut X.env.locals s.heap h') : Inv X pins (σ.set i none) H { s with heap := h' } := by
  have cne := I.cne
  have old : ∀ b o, X.s₀.heap.get? b = some o → b ≠ X.env.locals := fun b o e => Nat.ne_of_lt (Nat.lt_of_lt_of_le (Heap.lt_size e) I.ok.above)
  refine ⟨I.ok, I.os, I.bare, ⟨fun b o e n hb hx => ?_, fun b o e n hb hx => ?_, I.base.free, fun b o e hx => ?_, I.base.tups, I.base.frzs, I.base.tbls⟩, ⟨_, hn', fun k y v e1 e2 e3 => ?_⟩, fun y c e => ?_, I.free, I.freeC, fun p hp => ?_, ?_, by simpa using I.len⟩
  · exact (hs.2 b (old b o e)).trans (I.base.keep b o e n hb hx)
  · obtain ⟨sl, q⟩ := I.base.slot b o e n hb hx
    exact ⟨sl, (hs.2 b (old b o e)).trans q⟩
  · obtain ⟨o', q⟩ := I.base.there b o e hx
    exact ⟨o', (hs.2 b (old b o e)).trans q⟩
  · by_cases hk : k = i
    · subst hk
      by_cases hlt : k < σ.length
      · rw [List.getElem?_set_self hlt] at e2; cases e2
      · rw [List.getElem?_eq_none (by simpa using hlt)] at e2; cases e2
    · rw [List.getElem?_set_ne (Ne.symm hk)] at e2
      obtain ⟨u', r', q⟩ := hl k y v e1 e2 e3
      refine ⟨u', r', ?_⟩
      have hy : y ≠ x := fun z => hk (nodup_ix nd e1 (z ▸ hi))
      rcases q with ⟨kd, e⟩ | ⟨kd, c, e, z⟩
      · exact .inl ⟨kd, by simp [hy, e]⟩
      · exact .inr ⟨kd, c, e, z.sameBut hs (cne y c e)⟩
  · obtain ⟨w', z⟩ := I.cell y c e
    exact ⟨w', z.sameBut hs (cne y c e)⟩
  · obtain ⟨e, n, ne, nf, d⟩ := I.pin p hp
    exact ⟨(hs.2 p.1 ne).trans e, n, ne, nf, d⟩
  · intro b ob e
    refine (I.hok b ob e).stay (fun c w' hc q => (hs.2 c ?_).trans q) (fun _ q => q) fun _ _ q => q
    rintro rfl
    rcases hc with rfl | hc
    · rw [I.free] at e; cases e
    · rw [I.free] at hc; cases hc

theorem unbind_ok {M : Model} {A : Around} {E : Value → Shared → Prop} {i : Nat} {x : Str} {pos : Pos} {Q : Unit → Shared → Prop} (I : Inv X pins σ H s) (nd : X.N.Nodup) (hi : X.N[i]? = some x) (hk : X.env.scope.names.lookup x = some .local)
    (h : ∀ s', Inv X pins (σ.set i none) H s' → Q () s') : wpAny M A (do bindName X.env x .none; unbindBehindTheSuite X.env x pos) Q E s := by
  have hcls : (X.env.scope.kind == .class || (X.env.scope.kind == .module && X.env.locals != X.env.globals)) = false := by rw [I.ok.kind]; rfl
  refine wpAny_bind (wpAny_bindName (store_ok (v := .non) I nd hi (.inl hk) rfl (fun s2 I2 => ?_) (.inr hk)))
  have hiσ : i < σ.length := by rw [I.len]; exact (List.getElem?_eq_some_iff.mp hi).1
  obtain ⟨m, hn, hl⟩ := I2.loc
  obtain ⟨u, _, q⟩ := hl i x .non hi (List.getElem?_set_self hiσ) (.inl hk)
  have hv : m x = some u := by
    rcases q with ⟨_, e⟩ | ⟨kd, _⟩
    · exact e
    · have kd : X.env.scope.names.lookup x = some .cell ∨ X.env.scope.names.lookup x = some .free := kd
      rw [hk] at kd
      rcases kd with kd | kd <;> cases kd
  unfold unbindBehindTheSuite
  refine wpAny_onRaise (wpAny_unbindName_local hk hn hv hcls fun h' w hn' hs => h _ ?_)
  have z := I2.unset nd hi hn hl hn' hs
  rwa [List.set_set] at z
end

theorem Inv.track {X : Cx} {pins : List (Addr × Obj)} {σ : St} {H : Hp} {s : Shared} {x : Addr} {o : HO} (I : Inv X pins σ H s) (hx : H x = none) (n0 : X.s₀.heap.get? x = none) (nl : x ≠ X.env.locals)
    (nc : ∀ y c, X.env.cells.lookup y = some c → c ≠ x) (np : ∀ p ∈ X.pn ++ pins, p.1 ≠ x) (ok : ObjOk X.prog X.w (upd H x o) s.heap x o) : Inv X pins σ (upd H x o) s := by
  have ne : ∀ {b : Addr} {u : HO}, H b = some u → b ≠ x := fun {b u} e z => by rw [z, hx] at e; cases e
  refine ⟨I.ok, I.os, I.bare, ⟨I.base.keep, I.base.slot, fun b u e n hb => ?_, I.base.there, fun b xs e => ?_, fun b u v e => ?_, fun b ps e => ?_⟩, I.loc, I.cell, ?_, fun y c e => ?_, fun p hp => ?_, fun b u e => ?_, I.len⟩
  · rw [upd_ne (fun z => by rw [z, n0] at e; cases e)]; exact I.base.free b u e n hb
  · have z := I.base.tups b xs e
    rw [upd_ne (ne z)]; exact z
  · have z := I.base.frzs b u v e
    rw [upd_ne (ne z)]; exact z
  · obtain ⟨more, z⟩ := I.base.tbls b ps e
    exact ⟨more, by rw [upd_ne (ne z)]; exact z⟩
  · rw [upd_ne (Ne.symm nl)]; exact I.free
  · rw [upd_ne (nc y c e)]; exact I.freeC y c e
  · obtain ⟨e, n, r⟩ := I.pin p hp
    exact ⟨e, by rw [upd_ne (np p hp)]; exact n, r⟩
  · by_cases hb : b = x
    · subst hb; rw [upd_same] at e; cases e; exact ok
    · rw [upd_ne hb] at e
      exact (I.hok b u e).stay (fun _ _ _ q => q) (fun c q => by rw [upd_ne (ne q)]; exact q) fun c xs q => by rw [upd_ne (ne q)]; exact q

section
variable {X : Cx} {C Cb : Addr} {E : XK} {body suite : List Stmt} {b₀ : Stmt} {y n : Str} {i : Nat} {np hpos pos : Pos} {tb ts : TS}
end
end L2

namespace L2
open PySem PySem.Spec PyProof.Rows PySem.W

def isExc (C x : Addr) (h : Heap) : Prop := ∃ o, h.get? x = some o ∧ o.cls = .ref C

structure ExcK (K : Frag) (C : Addr) : Prop where
  ga : findIn K (.ref C) "__getattribute__" = some (some (.builtin "BaseException.__getattribute__"))
  gt : findIn K (.ref C) "__getattr__" = some none
  cl : findIn K (.ref C) "__class__" = some (some (.builtin "object.__class__"))
  sb : subIn K (.ref C) (.type "BaseException") = some true
  so : subIn K (.ref C) (.type "object") = some true
  ic : isClsIn K C = true

section
variable {prog : Program} {w : World} {A : Around} {E : Value → Shared → Prop} {h : Heap} {g : Array GenState} {d : Drawn} {t : Nat} {os : OsState} {a C : Addr} {K : Frag}

theorem excTy {M : Model} (e : isExc C a h) : Looks M h (typeOf (.ref a)) (.ref C) := by
  obtain ⟨o, h1, h2⟩ := e
  exact h2 ▸ (Looks.ld h1).andThen .now

theorem exc_clsGet {R : Result → Shared → Prop} (X : K.In h) (F1 : ExcK K C) (e : isExc C a h) (hq : R (.ok (.ret (.ref C))) ⟨h, g, d, t, os⟩) :
    codeAny (model prog w) A (.call (.builtin "getset_descriptor.__get__") ⟨[.builtin "object.__class__", .ref a, .ref C], []⟩) R ⟨h, g, d, t, os⟩ := by
  have L0 := excTy (M := model prog w) e
  have L1 : Looks (model prog w) h (isSubtype (.ref C) (.type (".".intercalate ("object.__class__".cutAt '.').dropLast))) true := by
    rw [F.owner_object_class]; exact looks_subIn X F1.so
  have hT : (⟨h, g, d, t, os⟩ : Shared).TypeIs (.builtin "object.__class__") "getset_descriptor" := F.typeOf_object_class
  refine codeAny_call_builtin F.slot_gs_get.plain F.entry_gs_get (F.slot_gs_get.check _ _ _ _ _ _ _ _ hT (F.args_gs_get _ _ _) ?_)
  repeat (any_goals (first | assumption | (with_reducible refine L0.at ?_) | (with_reducible refine L1.at ?_) | wp_step))
  refine ⟨Code.quiet_builtin _ (by decide +kernel), codeAny_builtin F.entry_object_class ?_⟩
  repeat (any_goals (first | assumption | (with_reducible refine L0.at ?_) | wp_step))

theorem exc_clsEntry {tk : Tok} {Q : Fin → Shared → Prop} (X : K.In h) (F1 : ExcK K C) (e : isExc C a h) (hq : Q (.done (.ret (.ref C))) ⟨h, g, d, t, os⟩) :
    wpAny (model prog w) A (Builtin.«object.__getattribute__» ⟨[.ref a, .str "__class__" tk], []⟩) Q E ⟨h, g, d, t, os⟩ := by
  have L0 := excTy (M := model prog w) e
  have L1 := looks_findIn (M := model prog w) X F1.cl
  have hT : (⟨h, g, d, t, os⟩ : Shared).TypeIs (.builtin "object.__class__") "getset_descriptor" := F.typeOf_object_class
  have f5 := F.typeOf_object_class
  have f6 := F.slot_gs_get.lookup
  have f7 := F.slot_gs_set.lookup
  repeat (any_goals (first | assumption | (with_reducible refine L0.at ?_) | (with_reducible refine L1.at ?_) | wp_step))
  refine exc_clsGet X F1 e ?_
  repeat (any_goals (first | assumption | wp_step))

theorem exc_checkGa {M : Model} {nameV : Value} {Q : Unit → Shared → Prop} (X : K.In h) (F1 : ExcK K C) (e : isExc C a h) (hq : Q () ⟨h, g, d, t, os⟩) :
    wpAny M A (checkBuiltinCall "BaseException.__getattribute__" ⟨[.ref a, nameV], []⟩) Q E ⟨h, g, d, t, os⟩ := by
  have hk : builtinKind "BaseException.__getattribute__" = some .slot := by decide +kernel
  have hsplit : splitId "BaseException.__getattribute__" = some ("BaseException", "__getattribute__") := by decide +kernel
  have ha := F.args_bexc_ga (.ref a) nameV
  have L0 := excTy (M := M) e
  have L1 := looks_subIn (M := M) X F1.sb
  simp only [checkBuiltinCall, hk, hsplit]
  unfold isInstance
  repeat (first | (with_reducible refine L0.at ?_) | (with_reducible refine L1.at ?_) | wp_step)
  all_goals exact hq

theorem exc_clsBy {tk : Tok} {Q : Value → Shared → Prop} (X : K.In h) (F1 : ExcK K C) (e : isExc C a h) (hq : Q (.ref C) ⟨h, g, d, t, os⟩) :
    wpAny (model prog w) A (getAttrBy (.ref a) (.str "__class__" tk) false) Q E ⟨h, g, d, t, os⟩ := by
  have L0 := excTy (M := model prog w) e
  have L1 := looks_findIn (M := model prog w) X F1.ga
  have L2 := looks_findIn (M := model prog w) X F1.gt
  have f3 := (show Slot "ValueError" "__getattribute__" "BaseException.__getattribute__" from PySem.F.excAttr_ValueError.ga).bind (.ref a)
  have hx2 : (Value.builtin "BaseException.__getattribute__" == Value.builtin "object.__getattribute__") = false := by decide +kernel
  have hx1 : (onTheHeap (Value.ref C) && Value.builtin "BaseException.__getattribute__" == Value.builtin "object.__getattribute__") = false := by rw [hx2]; rfl
  repeat (any_goals (first | assumption | (with_reducible refine L0.at ?_) | (with_reducible refine L1.at ?_) | (with_reducible refine L2.at ?_) | wp_step))
  refine codeAny_call_builtin (PySem.F.excAttr_ValueError.ga).plain F.entry_bexc_ga (exc_checkGa X F1 e (exc_clsEntry X F1 e ?_))
  repeat (any_goals (first | assumption | wp_step))

theorem exc_clsAttr {Q : Option Value → Shared → Prop} (X : K.In h) (F1 : ExcK K C) (e : isExc C a h) (hq : Q (some (.ref C)) ⟨h, g, d, t + 1, os⟩) :
    wpAny (model prog w) A (getAttr? (.ref a) "__class__") Q E ⟨h, g, d, t, os⟩ := by
  unfold getAttr? getAttrBy?
  repeat (any_goals (first | assumption | with_reducible apply exc_clsBy X F1 e | wp_step))
end

theorem kitx_exc {K : Frag} {x C : Addr} (F1 : ExcK K C) : KitX K (.ref x) (.ref C) (isExc C x) where
  ty := fun _ _ _ p => excTy p
  it := fun _ _ X _ => by
    have z : (clsIn K C).isSome = true := F1.ic
    unfold clsIn at z
    split at z
    · rename_i ho
      intro A' Q' E' s' k q
      unfold isType loadHead
      exact wpAny_bind (wpAny_loadPart (k _ _ (X _ _ ho)) (wpAny_pure q))
    · cases z
  ne := fun h tp dd its n sl X htp => by
    refine Bool.eq_false_iff.mpr fun q => ?_
    have e : C = tp := Value.ref.inj (beq_iff_eq.mp q)
    have z : (clsIn K C).isSome = true := F1.ic
    rw [e] at z
    unfold clsIn at z
    split at z
    · rename_i ho
      have y := (X _ _ ho).symm.trans htp
      cases y
    · cases z
  ca := fun {_ _ _ _ _ s} X p k => by
    obtain ⟨h, g, d, t, os⟩ := s
    exact exc_clsAttr X F1 p k

structure ClsU (K : Frag) (C D : Addr) : Prop where
  ic : isClsIn K D = true
  ty : typeIn K (.ref D) = some (.type "type")
  sb : subIn K (.ref C) (.ref D) = some true
  ex : subIn K (.ref D) (.type "BaseException") = some true
structure ClsN (K : Frag) (C D : Addr) : Prop where
  ic : isClsIn K D = true
  ty : typeIn K (.ref D) = some (.type "type")
  sb : subIn K (.ref C) (.ref D) = some false
  ne : (Value.ref C == Value.ref D) = false
theorem kit_ref {K : Frag} {C D : Addr} {b : Bool} (ic : isClsIn K D = true) (ty : typeIn K (.ref D) = some (.type "type")) (sb : subIn K (.ref C) (.ref D) = some b) : kitCls K (.ref C) (.ref D) = some b := by
  have e : ((clsIn K D).isSome && typeIn K (.ref D) == some (.type "type")) = true := by rw [show (clsIn K D).isSome = true from ic, ty]; decide
  unfold kitCls
  dsimp only
  rw [if_pos e, sb]
theorem ClsU.exm {K : Frag} {C D : Addr} (h : ClsU K C D) : exmOne K (.ref C) (.ref D) = some true := by
  unfold exmOne
  rw [h.ex, if_pos (by decide)]
  exact kit_ref h.ic h.ty h.sb
theorem ClsN.one {K : Frag} {C D : Addr} (h : ClsN K C D) : kitOne K (.ref C) (.ref D) = some false := by
  unfold kitOne
  rw [h.ne, if_neg (by decide)]
  exact kit_ref h.ic h.ty h.sb
theorem kitAny_none {K : Frag} {C : Addr} : ∀ {cs : List Addr}, (∀ D ∈ cs, ClsN K C D) → kitAny K (.ref C) (cs.map Value.ref) = some false
  | [], _ => rfl
  | D :: cs, h => by
    rw [List.map_cons]
    unfold kitAny
    rw [(h D List.mem_cons_self).one]
    exact kitAny_none fun E hE => h E (List.mem_cons_of_mem _ hE)
theorem kit_self {K : Frag} {C : Addr} : kitOne K (.ref C) (.ref C) = some true := by
  unfold kitOne
  rw [if_pos (by simp)]
theorem kit_ve {K : Frag} {C : Addr} (sb : subIn K (.ref C) (.type "ValueError") = some true) : kitOne K (.ref C) (.type "ValueError") = some true := by
  have e : kitMeta "ValueError" = true := by decide +kernel
  unfold kitOne kitCls
  dsimp only
  rw [if_neg (by intro q; cases beq_iff_eq.mp q), if_pos e, sb]

section
variable {X : Cx}
def RelC (c : V) (u : Value) : Prop := (∃ D, c = .ref D ∧ u = .ref D) ∨ ∃ n, c = .ty n ∧ u = .type n
theorem RelC.is {c : V} {u v : Value} (h : RelC c u) (r : RelV c v) : v = u := by
  rcases h with ⟨D, rfl, rfl⟩ | ⟨n, rfl, rfl⟩ <;> exact r

theorem call_isiX : CallR X (.builtin "isinstance") (fun xs H Q => ∃ x C c u b, xs = [.ref x, c] ∧ RelC c u ∧ H x = some (excO C x) ∧ ExcK X.K C ∧ kitOne X.K (.ref C) u = some b ∧ Q (.bl b) H) := by
  intro pins s σ H xs us Q I r h
  obtain ⟨x, C, c, u, b, rfl, rc, hx, F1, e, q⟩ := h
  obtain ⟨u1, v, rfl, r1, r2⟩ := vals2 r
  cases (show u1 = Value.ref x from r1)
  cases rc.is r2
  have p : isExc C x s.heap := (show ObjOk X.prog X.w H s.heap x (excO C x) from I.hok x _ hx).1
  exact kia_one (kitx_exc F1) I.kIn p e (by intro z; cases z) fun tk => ⟨.bl b, H, I.tok tk, rfl, q⟩

theorem vals_refsX : ∀ {cs : List Addr} {us : List Value}, Vals (cs.map V.ref) us → us = cs.map Value.ref
  | [], _, .nil => rfl
  | c :: cs, _, .cons r t => by rw [vals_refsX t, show _ = Value.ref c from r]; rfl

theorem call_isiXs : CallR X (.builtin "isinstance") (fun xs H Q => ∃ (x C p : Addr) (cs : List Addr) (b : Bool), xs = [.ref x, .ref p] ∧ H x = some (excO C x) ∧ H p = some (.tup (cs.map V.ref)) ∧ ExcK X.K C ∧ kitAny X.K (.ref C) (cs.map Value.ref) = some b ∧ Q (.bl b) H) := by
  intro pins s σ H xs us Q I r h
  obtain ⟨x, C, p, cs, b, rfl, hx, hp, F1, e, q⟩ := h
  obtain ⟨u1, v, rfl, r1, r2⟩ := vals2 r
  cases (show u1 = Value.ref x from r1)
  cases (show v = Value.ref p from r2)
  have px : isExc C x s.heap := (show ObjOk X.prog X.w H s.heap x (excO C x) from I.hok x _ hx).1
  obtain ⟨_, its, r', o, ho, hc, n, hd⟩ := (show ObjOk X.prog X.w H s.heap p (.tup (cs.map V.ref)) from I.hok p _ hp)
  cases vals_refsX r'
  obtain ⟨c, dd, dt, sl⟩ := o
  cases (show c = .type "tuple" from hc)
  cases (show dt = .seq (cs.map Value.ref).toArray n from hd)
  exact kia_tup (kitx_exc F1) I.kIn px ho e (by intro z; cases z) fun tk => ⟨.bl b, H, I.tok tk, rfl, q⟩
end
end L2

namespace L2
open PySem PySem.Spec PyProof.Rows
section
variable {P : Program} {w : World} {K : PySem.W.Frag} {mg : Str → Option Value} {base : Heap} {N : List Str} {qual : Str} {scope : Scope} {f C : Addr} {cd : Value} {A : Around} {outer : List Env} {s₀ : Shared} {H₀ : Hp} {E : XK}
theorem passX : Passes (CXr P w C) (cxOf (CXr P w C) P w K mg base N qual scope f cd A outer s₀ H₀ E) E := by
  intro pins σ1 H1 s1 e s' J1 hc
  obtain ⟨x, a0, B, H', rfl, hos, bare, un, kB, tB, okB, fly, hE⟩ := hc
  have fly : Heap.FlyingW B (envOfC qual scope s₀.heap.objs.size f cd :: outer) x (.ref C) a0 s'.heap := fly
  have un : Un (frs (envOfC qual scope s₀.heap.objs.size f cd :: outer)) [] H1 H' s1.heap s'.heap := un
  have kB : ∀ b o, s1.heap.get? b = some o → H1 b = none → b ∉ frs (envOfC qual scope s₀.heap.objs.size f cd :: outer) → B.get? b = some o := kB
  have tB : ∀ b o, s1.heap.get? b = some o → b ∉ frs (envOfC qual scope s₀.heap.objs.size f cd :: outer) → ∃ u, B.get? b = some u := tB
  have hfree : ∀ b ∈ frs (envOfC qual scope s₀.heap.objs.size f cd :: outer), H1 b = none := J1.stkFree
  have hst : s1.heap.FunFrames base (envOfC qual scope s₀.heap.objs.size f cd :: outer) := J1.stack
  have old : ∀ b o, s₀.heap.get? b = some o → b ∉ frs outer → b ∉ frs (envOfC qual scope s₀.heap.objs.size f cd :: outer) := fun b o hb hn hm => by
    obtain ⟨env, he, hf⟩ := List.mem_filterMap.mp hm
    rcases List.mem_cons.mp he with rfl | he
    · have z : s₀.heap.objs.size = b := Option.some.inj hf
      exact Nat.lt_irrefl _ (z ▸ Heap.lt_size hb)
    · exact hn (List.mem_filterMap.mpr ⟨env, he, hf⟩)
  have next : ∀ h5, B.StaysIn h5 → s'.heap.UpToSlots h5 → Inv (cxOf (CXr P w C) P w K mg base N qual scope f cd A outer s₀ H₀ E) pins σ1 H' { s' with heap := h5 } := fun h5 f5 up => by
    refine J1.call' (ch := []) hos ⟨fun b o q n hb _ => f5 b o (kB b o q n hb), fun b o q n hb hx => ?_, un.free, fun b o q hx => ?_, un.tups, un.frzs, un.tbls⟩ (okB.kept f5) bare (fun b z => absurd z (by simp))
    · obtain ⟨sl, e1⟩ := un.slot b o q n hb hx
      obtain ⟨_, o', e2, nf⟩ := hst.mem hb
      rw [q] at e2
      cases e2
      obtain ⟨sl', e3⟩ := up b _ e1 nf
      exact ⟨sl', e3⟩
    · cases e4 : H1 b with
      | some ho =>
        obtain ⟨u, z⟩ := tB b o q fun hb => by rw [hfree b hb] at e4; cases e4
        exact ⟨u, f5 b u z⟩
      | none =>
        by_cases hb : b ∈ frs (envOfC qual scope s₀.heap.objs.size f cd :: outer)
        · obtain ⟨sl, e1⟩ := un.slot b o q e4 hb hx
          obtain ⟨_, o', e2, nf⟩ := hst.mem hb
          rw [q] at e2
          cases e2
          obtain ⟨sl', e3⟩ := up b _ e1 nf
          exact ⟨_, e3⟩
        · exact ⟨_, f5 b o (kB b o q e4 hb)⟩
  have hub : Un (frs outer) [] H₀ H1 s₀.heap s1.heap := J1.base
  refine wpAny_leaves_onW J1.ok.frames rfl fly fun h' f1 up => ?_
  have J5 := next h' f1.1 up
  refine ⟨x, a0, B, H', rfl, J5.os, bare, J5.base, fun b o q n hb => kB b o (hub.keep b o q n hb (by simp)) (hub.free b o q n (by simp)) (old b o q hb), fun b o q hb => ?_, okB, f1, hE⟩
  obtain ⟨o1, e1⟩ := hub.there b o q (by simp)
  exact tB b o1 e1 (old b o q hb)
end
end L2

namespace L2
open PySem PySem.Spec PyProof.Rows
section
variable {M : Model} {A : Around} {Ex : Value → Shared → Prop} {s : Shared}
theorem note_same {e : Value} {env env' : Env} (h : env.frame = env'.frame) : noteFrame e env = noteFrame e env' := by
  unfold noteFrame PySem.frameOf
  rw [h]
structure Fly (B : Heap) (l : List Env) (x : Addr) (cls a0 : Value) (h : Heap) : Prop where
  st : B.StaysIn h
  nw : B.get? x = none
  ff : h.FunFrames B l
  tr : ∃ fl, h.TracedAtW B x cls a0 fl
theorem flight_set {B h : Heap} {l : List Env} {x : Addr} {cls a0 : Value} (F : Fly B l x cls a0 h) : ∃ oe vs T oT ts, h.get? x = some oe ∧ oe.data = .fields vs ∧ vs[1]? = some (.ref T) ∧ h.get? T = some oT ∧ oT.data = .fields ts ∧ 3 < ts.size ∧
    ∀ v : Value, Fly B l x cls a0 (h.update T (Obj.mapFields (·.setIfInBounds 3 v))) ∧ (v = .none → (h.update T (Obj.mapFields (·.setIfInBounds 3 v))).TracedW B x cls a0) ∧ ∀ b o, h.get? b = some o → (∀ ws, o.data ≠ .fields ws) → (h.update T (Obj.mapFields (·.setIfInBounds 3 v))).get? b = some o := by
  obtain ⟨f1, f2, f3, fl, oe, vs, T, oT, ts, he, hc, hd, h1, hnT, hTe, hT, hdT, h3⟩ := F
  have h33 : 3 < ts.size := (Array.getElem?_eq_some_iff.mp h3).1
  refine ⟨oe, vs, T, oT, ts, he, hd, h1, hT, hdT, h33, fun v => ?_⟩
  have oth : ∀ b, b ≠ T → (h.update T (Obj.mapFields (·.setIfInBounds 3 v))).get? b = h.get? b := fun b hb => Heap.get?_update_other _ _ (Ne.symm hb)
  have nrec : ∀ b o, h.get? b = some o → (∀ ws, o.data ≠ .fields ws) → b ≠ T := fun b o hb hn q => by
    rw [q, hT] at hb; cases hb; exact hn ts hdT
  have tr : (h.update T (Obj.mapFields (·.setIfInBounds 3 v))).TracedAtW B x cls a0 v :=
    ⟨oe, vs, T, _, _, (oth x (Ne.symm hTe)).trans he, hc, hd, h1, hnT, hTe, Heap.get?_update_self _ hT (Obj.isFreed_of_fields (Obj.data_mapFields hdT _)), Obj.data_mapFields hdT _, by simp [h33]⟩
  refine ⟨⟨fun b o hb => (oth b fun q => by rw [q, hnT] at hb; cases hb).trans (f1 b o hb), f2, f3.of_keeps fun b o hb hn => ⟨o, (oth b (nrec b o hb hn)).trans hb, rfl⟩, v, tr⟩, fun e => e ▸ tr, fun b o hb hn => (oth b (nrec b o hb hn)).trans hb⟩
theorem leaves_onG {B : Heap} {env : Env} {outer : List Env} {L x : Addr} {cls a0 : Value} {Q : Unit → Shared → Prop} (hfr : A.frames = some (env :: outer)) (hf : env.frame = some L) (F : Fly B (env :: outer) x cls a0 s.heap)
    (hQ : ∀ h', Heap.FlyingW B outer x cls a0 h' → s.heap.UpToSlots h' → Q () { s with heap := h' }) : wpAny M A (leaving env (.ref x)) Q Ex s := by
  have dn : ∀ {h' : Heap}, Heap.FlyingW B (env :: outer) x cls a0 h' → Heap.FlyingW B outer x cls a0 h' := fun ⟨k1, k2, ⟨_, _, k3⟩, k4⟩ => ⟨k1, k2, k3, k4⟩
  obtain ⟨f1, f2, f3, fl, tr⟩ := id F
  by_cases hl : fl = rawInt L
  · subst hl
    unfold leaving
    exact wpAny_bind (wpAny_noteFrame_againW hf tr (wpAny_landsW ⟨f1, f2, f3, tr⟩ fun h' k up => hQ h' (dn k) up))
  · obtain ⟨oe, vs, T, oT, ts, he, ⟨hcls, h0⟩, hd, h1, hnT, hTe, hT, hdT, h3⟩ := tr
    subst hcls
    unfold leaving noteFrame
    simp only [hf]
    refine wpAny_bind (wpAny_bind (wpAny_field he hd h1 ?_))
    rw [if_pos (by simp)]
    refine wpAny_bind (wpAny_field hT hdT h3 ?_)
    rw [if_neg (fun z => hl (beq_iff_eq.mp z))]
    refine wpAny_bind (wpAny_setField hT hdT (Array.getElem?_eq_some_iff.mp h3).1 ?_)
    obtain ⟨oe', vs', T', oT', ts', he', hd', h1', hT', hdT', h33', fs⟩ := flight_set F
    rw [he] at he'; cases he'
    rw [hd] at hd'; cases hd'
    rw [h1] at h1'; cases h1'
    obtain ⟨F2, tn, kp⟩ := fs .none
    obtain ⟨oe2, vs2, _, _, _, he2, ⟨hc2, h02⟩, hd2, h12, _⟩ := tn rfl
    refine wpAny_newEntryW hfr F2.ff hf he2 F2.st f2 hd2 (Array.getElem?_eq_some_iff.mp h12).1 h02 fun h' ⟨x1, ⟨_, _, x2⟩, x3, x4⟩ => ?_
    rw [hc2] at x3
    exact hQ h' ⟨x1, f2, x2, x3⟩ fun b o hb hn => x4 b o (kp b o hb hn) hn
theorem pass_on {α : Type} {B : Heap} {l : List Env} {x : Addr} {cls a0 : Value} {what : String} {env : Env} {Q : α → Shared → Prop} (F : Fly B l x cls a0 s.heap)
    (hQ : ∀ h', Fly B l x cls a0 h' → (∀ b o, s.heap.get? b = some o → (∀ ws, o.data ≠ .fields ws) → h'.get? b = some o) → Ex (.ref x) { s with heap := h' }) : wpAny M A (PySem.passOn what (.ref x) env : Sem α) Q Ex s := by
  obtain ⟨oe, vs, T, oT, ts, he, hd, h1, hT, hdT, h33, fs⟩ := flight_set F
  unfold PySem.passOn setFlight
  refine wpAny_bind (wpAny_field he hd h1 ?_)
  rw [if_neg (by simp)]
  refine wpAny_bind (wpAny_bind (wpAny_field he hd h1 ?_))
  rw [if_pos (by simp)]
  exact wpAny_setField hT hdT h33 (wpAny_throw (hQ _ (fs _).1 (fs _).2.2))
end

def CXg (P : Program) (w : World) (C : Addr) (ch : List Addr) : CXT := fun outer H s E e s' =>
  ∃ (x : Addr) (a0 : Value) (B : Heap) (H' : Hp), e = .ref x ∧ s'.os = s.os ∧ AllBare s'.gens ∧ Un (frs outer) ch H H' s.heap s'.heap ∧
    (∀ b o, s.heap.get? b = some o → H b = none → b ∉ frs outer → b ∉ ch → B.get? b = some o) ∧ (∀ b o, s.heap.get? b = some o → b ∉ frs outer → b ∉ ch → ∃ u, B.get? b = some u) ∧ HOk P w H' B ∧ Fly B outer x (.ref C) a0 s'.heap ∧ E e none H'
structure XG (X : Cx) (C : Addr) (E : XK) : Prop where
  fr : X.env.frame = some X.env.locals
  st : X.stack = X.env :: X.outer
  ps : ∀ {pins : List (Addr × Obj)} {σ : St} {H : Hp} {s : Shared} {e : Value} {s' : Shared} {ch : List Addr}, Inv X pins σ H s → CXg X.prog X.w C ch X.stack H s E e s' →
    (∀ b ∈ ch, (b ∈ X.ex ∨ X.s₀.heap.objs.size ≤ b) ∧ b ≠ X.env.locals ∧ (∀ x c, X.env.cells.lookup x = some c → c ≠ b) ∧ ∀ p ∈ X.pn ++ pins, p.1 ≠ b) → X.xe e s'
section
variable {P : Program} {w : World} {K : PySem.W.Frag} {mg : Str → Option Value} {base : Heap} {N : List Str} {qual : Str} {scope : Scope} {f C : Addr} {cd : Value} {A : Around} {outer : List Env} {s₀ : Shared} {H₀ : Hp} {E : XK}
theorem xg_of : XG (cxOf (CXr P w C) P w K mg base N qual scope f cd A outer s₀ H₀ E) C E where
  fr := rfl
  st := rfl
  ps := by
    intro pins σ1 H1 s1 e s' ch J1 hc hch
    obtain ⟨x, a0, B, H', rfl, hos, bare, un, kB, tB, okB, fly, hE⟩ := hc
    have fly : Fly B (envOfC qual scope s₀.heap.objs.size f cd :: outer) x (.ref C) a0 s'.heap := fly
    have un : Un (frs (envOfC qual scope s₀.heap.objs.size f cd :: outer)) ch H1 H' s1.heap s'.heap := un
    have kB : ∀ b o, s1.heap.get? b = some o → H1 b = none → b ∉ frs (envOfC qual scope s₀.heap.objs.size f cd :: outer) → b ∉ ch → B.get? b = some o := kB
    have tB : ∀ b o, s1.heap.get? b = some o → b ∉ frs (envOfC qual scope s₀.heap.objs.size f cd :: outer) → b ∉ ch → ∃ u, B.get? b = some u := tB
    have hfree : ∀ b ∈ frs (envOfC qual scope s₀.heap.objs.size f cd :: outer), H1 b = none := J1.stkFree
    have hst : s1.heap.FunFrames base (envOfC qual scope s₀.heap.objs.size f cd :: outer) := J1.stack
    have old : ∀ b o, s₀.heap.get? b = some o → b ∉ frs outer → b ∉ frs (envOfC qual scope s₀.heap.objs.size f cd :: outer) := fun b o hb hn hm => by
      obtain ⟨env, he, hf⟩ := List.mem_filterMap.mp hm
      rcases List.mem_cons.mp he with rfl | he
      · have z : s₀.heap.objs.size = b := Option.some.inj hf
        exact Nat.lt_irrefl _ (z ▸ Heap.lt_size hb)
      · exact hn (List.mem_filterMap.mpr ⟨env, he, hf⟩)
    have nch : ∀ b o, s₀.heap.get? b = some o → b ∉ ch := fun b o hb hm => by
      rcases (hch b hm).1 with z | z
      · exact absurd (show b ∈ ([] : List Addr) from z) (by simp)
      · exact absurd (Nat.lt_of_lt_of_le (Heap.lt_size hb) z) (Nat.lt_irrefl _)
    have next : ∀ h5, B.StaysIn h5 → s'.heap.UpToSlots h5 → Inv (cxOf (CXr P w C) P w K mg base N qual scope f cd A outer s₀ H₀ E) pins σ1 H' { s' with heap := h5 } := fun h5 f5 up => by
      refine J1.call' (ch := ch) hos ⟨fun b o q n hb hx => f5 b o (kB b o q n hb hx), fun b o q n hb hx => ?_, un.free, fun b o q hx => ?_, un.tups, un.frzs, un.tbls⟩ (okB.kept f5) bare hch
      · obtain ⟨sl, e1⟩ := un.slot b o q n hb hx
        obtain ⟨_, o', e2, nf⟩ := hst.mem hb
        rw [q] at e2
        cases e2
        obtain ⟨sl', e3⟩ := up b _ e1 nf
        exact ⟨sl', e3⟩
      · by_cases hb : b ∈ frs (envOfC qual scope s₀.heap.objs.size f cd :: outer)
        · obtain ⟨sl, e1⟩ := un.slot b o q (hfree b hb) hb hx
          obtain ⟨_, o', e2, nf⟩ := hst.mem hb
          rw [q] at e2
          cases e2
          obtain ⟨sl', e3⟩ := up b _ e1 nf
          exact ⟨_, e3⟩
        · obtain ⟨u, z⟩ := tB b o q hb hx
          exact ⟨u, f5 b u z⟩
    have hub : Un (frs outer) [] H₀ H1 s₀.heap s1.heap := J1.base
    refine leaves_onG J1.ok.frames rfl fly fun h' f1 up => ?_
    have J5 := next h' f1.1 up
    refine ⟨x, a0, B, H', rfl, J5.os, bare, J5.base, fun b o q n hb => kB b o (hub.keep b o q n hb (by simp)) (hub.free b o q n (by simp)) (old b o q hb) (nch b o q), fun b o q hb => ?_, okB, f1, hE⟩
    obtain ⟨o1, e1⟩ := hub.there b o q (by simp)
    exact tB b o1 e1 (old b o q hb) (nch b o q)
end
theorem ff_move {h h' B B' : Heap} : ∀ {l : List Env}, h.FunFrames B l → (∀ b ∈ frs l, h'.get? b = h.get? b) → (∀ b, B.get? b = none → B'.get? b = none) → h'.FunFrames B' l
  | [], _, _, _ => trivial
  | env :: l, ⟨a, ⟨L, o, hf, hn, ho, hd⟩, r⟩, k, n => ⟨a, ⟨L, o, hf, n L hn, (k L (List.mem_filterMap.mpr ⟨env, List.mem_cons_self, hf⟩)).trans ho, hd⟩, ff_move r (fun b hb => k b (by
    obtain ⟨e, h1, h2⟩ := List.mem_filterMap.mp hb
    exact List.mem_filterMap.mpr ⟨e, List.mem_cons_of_mem _ h1, h2⟩)) n⟩

def Cx.compE (X : Cx) (C : Addr) (E : XK) (N : List Str) (scope : Scope) (cl : List (Str × Addr)) (L : Addr) (fp : List Addr) (s : Shared) (H : Hp) : Cx :=
  { X.comp N scope cl L fp s H with xe := fun e s' => ∃ (pins : List (Addr × Obj)) (σ : St) (H1 : Hp) (s1 : Shared), Inv (X.comp N scope cl L fp s H) pins σ H1 s1 ∧ CXr X.prog X.w C X.stack H1 s1 E e s' }
section
variable {X : Cx} {C : Addr} {E : XK} {N : List Str} {scope : Scope} {cl : List (Str × Addr)} {L : Addr} {fp : List Addr} {s : Shared} {H : Hp}
theorem Inv.toE {pins : List (Addr × Obj)} {σ : St} {H1 : Hp} {s1 : Shared} (I : Inv (X.comp N scope cl L fp s H) pins σ H1 s1) : Inv (X.compE C E N scope cl L fp s H) pins σ H1 s1 :=
  let o := I.ok
  ⟨⟨o.mod, o.kind, o.glob, o.blt, o.above, o.inj, o.has, o.cab, o.hd, o.frames, o.stk, o.exf, o.bs, o.bsz, o.noex, o.exfs, o.funs, o.frf⟩, I.os, I.bare, I.base, I.loc, I.cell, I.free, I.freeC, I.pin, I.hok, I.len⟩
theorem Inv.ofE {pins : List (Addr × Obj)} {σ : St} {H1 : Hp} {s1 : Shared} (I : Inv (X.compE C E N scope cl L fp s H) pins σ H1 s1) : Inv (X.comp N scope cl L fp s H) pins σ H1 s1 :=
  let o := I.ok
  ⟨⟨o.mod, o.kind, o.glob, o.blt, o.above, o.inj, o.has, o.cab, o.hd, o.frames, o.stk, o.exf, o.bs, o.bsz, o.noex, o.exfs, o.funs, o.frf⟩, I.os, I.bare, I.base, I.loc, I.cell, I.free, I.freeC, I.pin, I.hok, I.len⟩
theorem passE : Passes (CXr X.prog X.w C) (X.compE C E N scope cl L fp s H) E := fun pins σ H1 s1 _ _ I h => ⟨pins, σ, H1, s1, I.ofE, h⟩
theorem comp_raised {pins : List (Addr × Obj)} {σ : St} {e : Value} {s6 : Shared} {Q : Value → Shared → Prop} {acc : Value} (G : XG X C E) (I3 : Inv X pins σ H s) (hL : L = s.heap.objs.size)
    (hch : ∀ b ∈ fp, (b ∈ X.ex ∨ X.s₀.heap.objs.size ≤ b) ∧ b ≠ X.env.locals ∧ (∀ x c, X.env.cells.lookup x = some c → c ≠ b) ∧ ∀ p ∈ X.pn ++ pins, p.1 ≠ b) (hx : (X.compE C E N scope cl L fp s H).xe e s6) :
    notedBy (model X.prog X.w) X.A (compEnvC scope cl L X.env) (fun y s' => compPost (model X.prog X.w) X.A X.xe none Q acc L (.error y) s') e s6 := by
  obtain ⟨pins5, σ5, H5, s5, I5, x, a0, B, H', rfl, hos, bare, un, kB, tB, okB, fly, hE⟩ := hx
  have un : Un (frs X.stack) [] H5 H' s5.heap s6.heap := un
  have b5 : Un (frs X.stack) fp H H5 s.heap s5.heap := I5.base
  have f5 : H5 L = none := I5.free
  have hfree : ∀ b ∈ frs X.stack, H b = none := I3.stkFree
  have hst := I3.stack
  have lnf : L ∉ frs X.stack := fun hm => by
    obtain ⟨_, o, ho, _⟩ := hst.mem hm
    exact Nat.lt_irrefl _ (hL ▸ Heap.lt_size ho)
  have lnew : ∀ b o, s.heap.get? b = some o → b ≠ L := fun b o hb z => Nat.lt_irrefl _ (hL ▸ z ▸ Heap.lt_size hb)
  show wpAny _ _ (noteFrame (.ref x) (compEnvC scope cl L X.env)) _ _ s6
  rw [note_same (env := compEnvC scope cl L X.env) (env' := X.env) rfl]
  have fr := I3.ok.frames
  rw [G.st] at fr fly
  refine wpAny_looks_onW fr G.fr fly fun h7 held up7 => ?_
  rw [← G.st] at held
  obtain ⟨k1, k2, k3, k4⟩ := held
  obtain ⟨m5, ⟨oC, es, ep, hoC, hdC, rC⟩, _⟩ := I5.loc
  have hoC : s5.heap.get? L = some oC := hoC
  have nC : ∀ ws, oC.data ≠ .fields ws := fun ws q => by rw [hdC] at q; cases q
  obtain ⟨sC, g7⟩ := up7 L oC (un.keep L oC hoC f5 lnf (by simp)) nC
  refine ⟨m5, ⟨_, es, ep, g7, hdC, rC⟩, fun h8 sb cenv' _ => ?_⟩
  have sb : Heap.SameBut L h7 h8 := sb
  have hid : ∀ b o, b ≠ L → B.get? b = some o → (PySem.W.hideAll B [L]).get? b = some o := fun b o hb q => PySem.W.hideAll_get [L] q (by simpa using hb)
  have F8 : Fly (PySem.W.hideAll B [L]) X.stack x (.ref C) a0 h8 := by
    obtain ⟨oe, vs, T, oT, ts, he, hc, hd, h1, hnT, hTe, hT, hdT, h3⟩ := k4
    have hxL : x ≠ L := fun z => by rw [z, g7] at he; cases he; exact nC _ hd
    have hTL : T ≠ L := fun z => by rw [z, g7] at hT; cases hT; exact nC _ hdT
    have hn : ∀ b, B.get? b = none → (PySem.W.hideAll B [L]).get? b = none := fun b q => by
      cases z : (PySem.W.hideAll B [L]).get? b with
      | none => rfl
      | some o => rw [PySem.W.of_hideAll [L] z] at q; cases q
    refine ⟨fun b o hb => ?_, hn x k2, ff_move k3 (fun b hb => sb.2 b fun z => lnf (z ▸ hb)) hn, _, oe, vs, T, oT, ts, (sb.2 x hxL).trans he, hc, hd, h1, hn T hnT, hTe, (sb.2 T hTL).trans hT, hdT, h3⟩
    by_cases z : b = L
    · subst z
      rw [PySem.W.hideAll_none [b] (by simp)] at hb
      cases hb
    · exact (sb.2 b z).trans (k1 b o (PySem.W.of_hideAll [L] hb))
  refine pass_on (s := { s6 with heap := h8 }) F8 fun h9 F9 kp => ?_
  refine G.ps I3 (ch := fp) ⟨x, a0, _, H', rfl, hos.trans I5.os, bare, ⟨fun b o q n hb hx => ?_, fun b o q n hb hx => ?_, fun b o q n hx => ?_, fun b o q hx => ?_, fun b xs q => un.tups _ _ (b5.tups _ _ q), fun b o u q => un.frzs _ _ _ (b5.frzs _ _ _ q), fun b ps q => ?_⟩, fun b o q n hb hx => ?_, fun b o q hb hx => ?_, okB.hid ?_, F9, hE⟩ hch
  · exact F9.st b o (hid b o (lnew b o q) (kB b o (b5.keep b o q n hb hx) (b5.free b o q n hx) hb))
  · obtain ⟨sl, e1⟩ := b5.slot b o q n hb hx
    obtain ⟨sl2, e2⟩ := un.slot b _ e1 (b5.free b o q n hx) hb (by simp)
    obtain ⟨_, o', e3, nf⟩ := hst.mem hb
    rw [q] at e3
    cases e3
    obtain ⟨sl3, e4⟩ := up7 b _ e2 nf
    exact ⟨sl3, kp b _ ((sb.2 b (lnew b o q)).trans e4) nf⟩
  · obtain ⟨o5, e5⟩ := b5.there b o q hx
    exact un.free b o5 e5 (b5.free b o q n hx) (by simp)
  · by_cases hb : b ∈ frs X.stack
    · obtain ⟨sl, e1⟩ := b5.slot b o q (hfree b hb) hb hx
      obtain ⟨sl2, e2⟩ := un.slot b _ e1 (b5.free b o q (hfree b hb) hx) hb (by simp)
      obtain ⟨_, o', e3, nf⟩ := hst.mem hb
      rw [q] at e3
      cases e3
      obtain ⟨sl3, e4⟩ := up7 b _ e2 nf
      exact ⟨_, kp b _ ((sb.2 b (lnew b o q)).trans e4) nf⟩
    · obtain ⟨o5, e5⟩ := b5.there b o q hx
      obtain ⟨u, z⟩ := tB b o5 e5 hb
      exact ⟨u, F9.st b u (hid b u (lnew b o q) z)⟩
  · obtain ⟨more, q2⟩ := b5.tbls b ps q
    obtain ⟨more2, q3⟩ := un.tbls b _ q2
    exact ⟨more ++ more2, by rw [← Array.append_assoc]; exact q3⟩
  · exact hid b o (lnew b o q) (kB b o (b5.keep b o q n hb hx) (b5.free b o q n hx) hb)
  · obtain ⟨o5, e5⟩ := b5.there b o q hx
    obtain ⟨u, z⟩ := tB b o5 e5 hb
    exact ⟨u, hid b u (lnew b o q) z⟩
  · intro b hb
    rw [List.mem_singleton.mp hb]
    exact un.free L oC hoC f5 (by simp)
end
end L2

namespace L2
open PySem PySem.Spec PyProof.Rows
section
variable {prog : Program} {w : World} {A : Around} {E : Value → Shared → Prop} {R : Result → Shared → Prop} {s : Shared}
theorem compLoop_goE {elt target iter : Expr} {ifs : List Expr} {scope : Scope} {pos : Pos} {it acc : Value} {env : Env} (I : Nat → Shared → Prop)
    (turn : ∀ n s, I n s → wpAny (model prog w) A (pyNext it) (fun r s₁ => match r with
      | none => R (.ok .next) s₁
      | some v => wpAny (model prog w) A (letOwnedTupleGo target it v) (fun _ s₀ => wpAny (model prog w) A (assign target env v) (fun _ s₂ =>
          wpAny (model prog w) A (forIn ifs true fun c r => if r = true then do let ok ← isTrue c env (eval c env); pure (ForInStep.yield ok) else pure (ForInStep.yield r)) (fun ok s₃ =>
            if ok = true then wpAny (model prog w) A (eval elt env) (fun x s₄ =>
              wpAny (model prog w) A (call (.builtin "list.append") [acc, x]) (fun _ s₅ => ∃ m, m < n ∧ I m s₅) (notedBy (model prog w) A env fun x s' => R (.error x) s') s₄) (notedBy (model prog w) A env fun x s' => R (.error x) s') s₃
            else ∃ m, m < n ∧ I m s₃) (notedBy (model prog w) A env fun x s' => R (.error x) s') s₂) (notedBy (model prog w) A env fun x s' => R (.error x) s') s₀) (notedBy (model prog w) A env fun x s' => R (.error x) s') s₁) (notedBy (model prog w) A env fun x s' => R (.error x) s') s)
    (n : Nat) (h : I n s) :
    codeAny (model prog w) A (.compLoop (.ListComp elt [⟨target, iter, ifs, 0⟩] scope pos) 0 it acc env) R s := by
  refine codeAny_loop rfl I (fun n s hI => ?_) n h
  show wpAny _ A ((compTurn (.ListComp elt [⟨target, iter, ifs, 0⟩] scope pos) 0 it acc env).onRaise (fun x => do noteFrame x env; theTreesLotGoes x)) _ _ s
  refine wpAny_noted ?_
  rw [compTurn_list]
  refine wpAny_bind (wpAny_standAt (wpAny_bind (wpAny_mono (turn n s hI) (fun r s₁ h₁ => ?_) fun _ _ h' => h')))
  cases r with
  | none => exact wpAny_pure h₁
  | some v =>
    refine wpAny_bind (wpAny_mono h₁ (fun _ s₀ h₀ => ?_) fun _ _ h' => h')
    refine wpAny_bind (wpAny_mono h₀ (fun _ s₂ h₂ => wpAny_bind (wpAny_mono h₂ (fun ok s₃ h₃ => ?_) fun _ _ h' => h')) fun _ _ h' => h')
    cases ok with
    | false => exact wpAny_pure ⟨rfl, h₃⟩
    | true =>
      exact wpAny_bind (wpAny_bind (wpAny_mono h₃ (fun x s₄ h₄ => wpAny_bind (wpAny_mono h₄ (fun _ s₅ h₅ => wpAny_pure (wpAny_pure ⟨rfl, h₅⟩)) fun _ _ h' => h')) fun _ _ h' => h'))
end
section
variable {X : Cx} {C0 : Addr} {E0 : XK}
theorem comp_blockE {N' : List Str} {js : List (Option Nat)} {scope : Scope} {target iter elt : Expr} {ifs : List Expr} {pos : Pos} {g : TG} {tc : TT} {te : TE} {pins : List (Addr × Obj)} {σ : St} {H : Hp} {s : Shared} {Q : VK} {E : Value → Shared → Prop}
    {RR : Value → Addr → Result → Shared → Prop} {it : Addr} {fp : List Addr} {tn : Nat → Heap → Prop} {J : It} (I : Inv X pins σ H s) (T : Turn X.prog X.w X.K target J fp it tn) (st : tn 0 s.heap) (f : ∀ b ∈ fp, FpOk X pins H b) (hc : X.calm = true)
    (q : ∀ D, H D = none → ∃ W : Nat → Nat → List V → Hp → Prop, (∃ m, W 0 m [] (upd H D (.lst []))) ∧
      ∀ i m ys H, W i m ys H → (J.stop i H ∧ Q (.ref D) H) ∨ (J.go i H ∧ ∃ N : List V → Hp → Prop, (∀ ys' H', N ys' H' → ∃ m', m' < m ∧ W (i + 1) m' ys' H') ∧ ∀ x H', J.yld i H x H' → g x (inner js σ) H' fun σ2 H2 => Fills (inner js σ) σ2 ∧ tc σ2 H2 fun b H3 =>
    if b = true then te σ2 H3 fun y H4 => H4 D = some (.lst ys) ∧ ys.length < sizeLine ∧ N (ys ++ [y]) (upd H4 D (.lst (ys ++ [y]))) else N ys H3))
    (hg : ∀ cl C fp s H, PG (X.compE C0 E0 N' scope cl C fp s H) target g) (hf : ∀ cl C fp s H, PF (X.compE C0 E0 N' scope cl C fp s H) ifs tc) (he : ∀ cl C fp s H, PE (X.compE C0 E0 N' scope cl C fp s H) elt te)
    (hk : scope.kind = .function) (hcell : ∀ y ∈ scope.names, y.2 ≠ .cell) (hfree : ∀ y ∈ scope.names, y.2 = .free → X.env.kindOf y.1 = some .cell ∨ X.env.kindOf y.1 = some .free) (hjs : jsOk X.N scope N' js = true)
    (hRR : ∀ D C H' s', Inv X pins σ H' s' → Q (.ref D) H' → (∃ m, s'.heap.Ns C m) → H' C = none → C ≠ X.env.locals → X.s₀.heap.objs.size ≤ C → C ∉ X.fs → (∀ x c, X.env.cells.lookup x = some c → c ≠ C) → (∀ p ∈ X.pn ++ pins, p.1 ≠ C) →
      RR (.ref D) C (.ok .next) s')
    (hRX : ∀ D C s3 H3 e s6, Inv X pins σ H3 s3 → C = s3.heap.objs.size → (∀ b ∈ fp, (b ∈ X.ex ∨ X.s₀.heap.objs.size ≤ b) ∧ b ≠ X.env.locals ∧ (∀ x c, X.env.cells.lookup x = some c → c ≠ b) ∧ ∀ p ∈ X.pn ++ pins, p.1 ≠ b) →
      (X.compE C0 E0 N' scope (clOf X.env.cells scope.names []) C fp s3 H3).xe e s6 → notedBy (model X.prog X.w) X.A (compEnvC scope (clOf X.env.cells scope.names []) C X.env) (fun y s' => RR (.ref D) C (.error y) s') e s6) :
    wpAny (model X.prog X.w) X.A (newList []) (fun acc s₃ => wpAny (model X.prog X.w) X.A (newFunctionEnv scope X.env.globals (clOf X.env.cells scope.names []) [] X.env.qual none .none (some X.env)) (fun cenv s₄ =>
      codeAny (model X.prog X.w) X.A (.compStart (.ListComp elt [⟨target, iter, ifs, 0⟩] scope pos) 0 (.ref it) acc { cenv with scope := relabel scope X.env }) (RR acc cenv.locals) s₄) E s₃) E s := by
  refine wpAny_newObj_type (wpAny_newFunctionEnv hcell (by intro y hy; simp at hy) (fun h₁ hns₁ hsb₁ => ?_) hk)
  dsimp only at hns₁ hsb₁ ⊢
  have I3 : Inv X pins σ (upd H s.heap.objs.size (.lst [])) { s with heap := s.heap.push { cls := .type "list", dict := none, data := .seq ([] : List Value).toArray } } := I.lnew (its := []) (ys := []) (t' := s.toks) .nil (Nat.zero_le _)
  obtain ⟨W, ⟨m0, w0⟩, turn⟩ := q s.heap.objs.size I.fresh
  generalize hD : s.heap.objs.size = D at I3 turn w0 ⊢
  have hsz : (s.heap.push { cls := .type "list", dict := none, data := .seq ([] : List Value).toArray }).objs.size = D + 1 := by rw [Heap.size_push, hD]
  have fpl : ∀ b ∈ fp, b < D := fun b hb => by
    obtain ⟨o, e, _⟩ := T.obj _ _ st b hb
    rw [← hD]; exact Heap.lt_size e
  generalize hs3 : ({ s with heap := s.heap.push { cls := .type "list", dict := none, data := .seq ([] : List Value).toArray } } : Shared) = s3 at I3
  have eh : s.heap.push { cls := .type "list", dict := none, data := .seq ([] : List Value).toArray } = s3.heap := by rw [← hs3]
  rw [eh] at hns₁ hsb₁ hsz ⊢
  have f3 : ∀ b ∈ fp, FpOk X pins (upd H D (.lst [])) b := fun b hb => ⟨by rw [upd_ne (Nat.ne_of_lt (fpl b hb))]; exact (f b hb).1, (f b hb).2⟩
  have keep1 : ∀ b o, s3.heap.get? b = some o → h₁.get? b = some o := fun b o e => hsb₁.extBut b o (Nat.ne_of_lt (Heap.lt_size e)) (Heap.get?_push_of_some _ e)
  have I4 := comp_inv (N' := N') (js := js) (tk := s.toks + ([] : List (Str × Value)).length) I3 hk hcell hfree hjs f3 (fun b hb => by rw [hsz]; exact Nat.lt_succ_of_lt (fpl b hb)) hns₁ keep1
  have es : ({ s with heap := h₁, toks := s.toks + ([] : List (Str × Value)).length } : Shared) = { s3 with heap := h₁, toks := s.toks + ([] : List (Str × Value)).length } := by rw [← hs3]
  rw [show ({ s with heap := h₁, toks := s.toks + ([] : List (Str × Value)).length } : Shared) = { s3 with heap := h₁, toks := s.toks + ([] : List (Str × Value)).length } from es]
  have st4 : tn 0 h₁ := T.keep _ _ _ st fun b hb o e => keep1 b o (eh ▸ Heap.get?_push_of_some _ e)
  have hCne : s3.heap.objs.size ≠ X.env.locals := Nat.ne_of_gt I3.lt
  have loop : ∀ s4 : Shared, tn 0 s4.heap → Inv (X.compE C0 E0 N' scope (clOf X.env.cells scope.names []) s3.heap.objs.size fp s3 (upd H D (.lst []))) [] (inner js σ) (upd H D (.lst [])) s4 →
      codeAny (model X.prog X.w) X.A (.compLoop (.ListComp elt [⟨target, iter, ifs, 0⟩] scope pos) 0 (.ref it) (.ref D) (compEnvC scope (clOf X.env.cells scope.names []) s3.heap.objs.size X.env)) (RR (.ref D) s3.heap.objs.size) s4 := by
    intro s4 st4 I4
    generalize hX : X.compE C0 E0 N' scope (clOf X.env.cells scope.names []) s3.heap.objs.size fp s3 (upd H D (.lst [])) = X' at I4
    have xprog : X'.prog = X.prog := by rw [← hX]; rfl
    have stat : ∀ {H' : Hp}, (∀ b ∈ fp, H' b = none) → ∀ b ∈ fp, FpOk X' [] H' b := fun hn b hb => by
      rw [← hX]
      refine ⟨hn b hb, ?_, ?_, .inl hb, ?_, fun p hp => nomatch hp⟩
      · exact Nat.ne_of_lt (by show b < s3.heap.objs.size; rw [hsz]; exact Nat.lt_succ_of_lt (fpl b hb))
      · exact fun z => (List.mem_cons.mp (I3.stkSub b z)).elim (f3 b hb).2.1 (f3 b hb).2.2.1
      · intro x c e
        rcases clOf_in _ _ e with z | z
        · simp at z
        · exact (f3 b hb).2.2.2.2.1 x c z
    have hg' := hg (clOf X.env.cells scope.names []) s3.heap.objs.size fp s3 (upd H D (.lst []))
    have hf' := hf (clOf X.env.cells scope.names []) s3.heap.objs.size fp s3 (upd H D (.lst []))
    have he' := he (clOf X.env.cells scope.names []) s3.heap.objs.size fp s3 (upd H D (.lst []))
    rw [hX] at hg' hf' he'
    have xA : X'.A = X.A := by rw [← hX]; rfl
    have xw : X'.w = X.w := by rw [← hX]; rfl
    have xK : X'.K = X.K := by rw [← hX]; rfl
    have xc : X'.calm = true := by rw [← hX]; exact hc
    have xe : X'.env = compEnvC scope (clOf X.env.cells scope.names []) s3.heap.objs.size X.env := by rw [← hX]; rfl
    have xx : ∀ e s6, X'.xe e s6 → notedBy (model X'.prog X'.w) X'.A X'.env (fun y s' => RR (.ref D) s3.heap.objs.size (.error y) s') e s6 := fun e s6 z => by
      rw [xprog, xw, xA, xe]
      rw [← hX] at z
      exact hRX D _ s3 _ e s6 I3 rfl (fun b hb => ⟨(f3 b hb).2.2.2.1, (f3 b hb).2.1, (f3 b hb).2.2.2.2.1, (f3 b hb).2.2.2.2.2⟩) z
    have T' : Turn X'.prog X'.w X'.K target J fp it tn := by rw [xprog, xw, xK]; exact T
    rw [← xA, ← xw, ← xprog, ← xe]
    refine compLoop_goE (fun n s' => ∃ i ys H', Inv X' [] (inner js σ) H' s' ∧ tn i s'.heap ∧ (∀ b ∈ fp, H' b = none) ∧ W i n ys H') ?_ m0 ⟨0, [], _, I4, st4, fun b hb => (f3 b hb).1, w0⟩
    rintro n s5 ⟨i, ys, H5, I5, st5, fr5, w5⟩
    rcases turn i n ys H5 w5 with ⟨stop, q⟩ | ⟨go, N, hN, step⟩
    · refine thn (T'.done X' rfl rfl rfl xc i [] s5 _ H5 _ I5 (stat fr5) st5 stop) fun r s6 ⟨hr, I6⟩ => ?_
      subst hr
      subst hX
      have I7 : Inv X pins σ H5 s6 := I3.call' (s' := s6) I6.os I6.base I6.hok I6.bare fun b hb => ⟨(f3 b hb).2.2.2.1, (f3 b hb).2.1, (f3 b hb).2.2.2.2.1, (f3 b hb).2.2.2.2.2⟩
      obtain ⟨m6, hn6, _⟩ := I6.loc
      refine hRR D s3.heap.objs.size H5 s6 I7 q ⟨m6, hn6⟩ I6.free hCne I3.sz (I3.nofs (Nat.le_refl _)) (fun x c e z => ?_) (fun p hp z => ?_)
      · obtain ⟨v, y⟩ := I3.cell x c e
        exact absurd (Nat.lt_of_lt_of_le y.lt (by rw [z]; exact Nat.le_refl _)) (Nat.lt_irrefl _)
      · exact absurd (Nat.lt_of_lt_of_le (Heap.lt_size (I3.pin p hp).1) (by rw [z]; exact Nat.le_refl _)) (Nat.lt_irrefl _)
    · refine thn (T'.item X' rfl rfl rfl xc i [] s5 _ H5 _ I5 (stat fr5) st5 go) fun r s6 ⟨u, hr, h6⟩ => ?_
      subst hr
      refine thn h6 fun _ s7 ⟨x, H7, I7, r7, y7, st7, fr7⟩ => ?_
      have I7' := I7.pinned (stat fr7) (T.obj _ _ st7)
      refine wpAny_mono (hg' _ s7 _ H7 x u _ I7' r7 (step x H7 y7)) (fun _ s8 ⟨σ8, H8, I8, fill8, q8⟩ => ?_) (fun _ _ z => xx _ _ z)
      refine wpAny_mono (hf' _ s8 σ8 H8 _ I8 q8) (fun b s9 ⟨H9, I9, q9⟩ => ?_) (fun _ _ z => xx _ _ z)
      have again : ∀ {H' : Hp} {s' : Shared} {ys' : List V}, Inv X' ([] ++ pinsAt fp s7.heap) σ8 H' s' → N ys' H' → ∃ m, m < n ∧ ∃ i ys H', Inv X' [] (inner js σ) H' s' ∧ tn i s'.heap ∧ (∀ b ∈ fp, H' b = none) ∧ W i m ys H' := fun {H' s' ys'} I' n' => by
        obtain ⟨m', hm, w'⟩ := hN ys' H' n'
        refine ⟨m', hm, i + 1, ys', H', I'.unpinned.weak fill8.len fill8.at_, T.keep _ _ _ st7 fun b hb o e => (I'.pin (b, o) (List.mem_append_right _ (List.mem_append_right _ (mem_pinsAt hb e)))).1, fun b hb => ?_, w'⟩
        obtain ⟨o, e, d⟩ := T.obj _ _ st7 b hb
        exact (I'.pin (b, o) (List.mem_append_right _ (List.mem_append_right _ (mem_pinsAt hb e)))).2.1
      cases b with
      | false => exact again I9 q9
      | true =>
        refine wpAny_mono (he' _ s9 σ8 H9 _ I9 q9) (fun yv s10 ⟨y, H10, I10, ry, hD10, hz, q10⟩ => ?_) (fun _ _ z => xx _ _ z)
        refine wpAny_mono (mt_append (X := X') _ s10 σ8 H10 (.ref D) [y] (.ref D) [yv] (fun _ H' => H' = upd H10 D (.lst (ys ++ [y]))) I10 rfl (.cons ry .nil) ⟨D, ys, y, rfl, rfl, hD10, hz, rfl⟩) (fun _ s11 ⟨_, H11, I11, _, e11⟩ => ?_) (fun _ _ z => xx _ _ z)
        subst e11
        exact again I11 q10
  have l4 := loop { s3 with heap := h₁, toks := s.toks + ([] : List (Str × Value)).length } st4 I4.toE
  exact codeAny_compStart_list l4 (T.self _ 0 _ _ _ st4 l4)

theorem pe_compE (G : XG X C0 E0) {N' : List Str} {js : List (Option Nat)} {scope : Scope} {target iter elt : Expr} {ifs : List Expr} {pos : Pos} {wi : TI} {g : TG} {tc : TT} {te : TE} (hc : X.calm = true) (hi : PI X target iter wi)
    (hg : ∀ cl C fp s H, PG (X.compE C0 E0 N' scope cl C fp s H) target g) (hf : ∀ cl C fp s H, PF (X.compE C0 E0 N' scope cl C fp s H) ifs tc) (he : ∀ cl C fp s H, PE (X.compE C0 E0 N' scope cl C fp s H) elt te)
    (hk : scope.kind = .function := by rfl) (hcell : (scope.names.all fun y => y.2 != .cell) = true := by rfl) (hfree : (scope.names.all fun y => y.2 != .free || (X.env.kindOf y.1 == some .cell || X.env.kindOf y.1 == some .free)) = true := by rfl)
    (hnames : (scope.names.all fun y => y.2 != .local || scope.names.lookup y.1 == some .local) = true := by rfl) (hjs : jsOk X.N scope N' js = true := by rfl) (hs : ∀ x, foldedSetIterable iter X.env x = pure x := by intro _; rfl) :
    PE X (.ListComp elt [⟨target, iter, ifs, 0⟩] scope pos) (tComp js wi g tc te) := by
  have hcell' : ∀ y ∈ scope.names, y.2 ≠ .cell := fun y hy z => by have := List.all_eq_true.mp hcell y hy; simp [z] at this
  have hfree' : ∀ y ∈ scope.names, y.2 = .free → X.env.kindOf y.1 = some .cell ∨ X.env.kindOf y.1 = some .free := fun y hy z => by have := List.all_eq_true.mp hfree y hy; simpa [z] using this
  have hnames' : ∀ y ∈ scope.names, y.2 = .local → scope.names.lookup y.1 = some .local := fun y hy z => by have := List.all_eq_true.mp hnames y hy; simpa [z] using this
  intro pins s σ H Q I h
  rw [eval_ListComp]
  refine wpAny_comprehension_free (use := none) rfl hs (closureFor_ok fun x hx z => I.ok.has x.1 (hfree' x hx z)) hk hnames' ?_
  refine thn (hi pins s σ H _ I h) fun v s1 h1 => thn h1 fun itv s2 h2 => ?_
  obtain ⟨it, fp, tn, J, H2, e, I2, T, st2, f2, q2⟩ := h2
  subst e
  refine comp_blockE (C0 := C0) (E0 := E0) (RR := fun acc C => compPost (model X.prog X.w) X.A X.xe none (EP X pins σ Q) acc C) I2 T st2 f2 hc q2 hg hf he hk hcell' hfree' hjs ?_ fun D C s3 H3 e s6 I3 hC hch hx => comp_raised G I3 hC hch hx
  intro D C H' s' I' q ⟨m, hn⟩ c0 c1 c2 c3 c4 c5
  exact ⟨m, hn, fun h' hs' => ⟨.ref D, H', I'.turned (t' := s'.toks) (fun b o hb e => (hs'.2 b hb).trans e) c0 c1 (.inr c2) c4 c5, rfl, q⟩⟩

end
end L2

namespace L2
open PySem PySem.Spec PyProof.Rows
def PassesS (CX : CXT) (X : Cx) (σ : St) (E : XK) : Prop := ∀ (pins : List (Addr × Obj)) (H : Hp) (s : Shared) (e : Value) (s' : Shared), Inv X pins σ H s → CX X.stack H s E e s' → X.xe e s'
def PSsAt (X : Cx) (σ : St) (st : List Stmt) (t : TS) : Prop := ∀ (pins : List (Addr × Obj)) (s : Shared) (H : Hp) (D : Ends), Inv X pins σ H s → t D σ H → wpAny (model X.prog X.w) X.A (execs st X.env) (SP X pins D) X.xe s
section
variable {X : Cx} {CX : CXT} {k : Nat} {f : Addr} {fd : FuncData} {ps : List Str} {sp : Sp} {E : XK} {x y : Str} {p pos pos' spos : Pos} {e : Expr} {es : List Expr} {t : TA} {σ : St} {i : Nat}
theorem pss_call (F : FnOk X.prog X.w X.K X.mg X.base CX k f fd ps sp) (hr : Room k X.A) (hg : Gl X x) (hm : X.mg x = some (.ref f)) (hk : PySem.W.keepIn X.K (.ref f) = true) (hb : Binds X.K fd ps []) (hx : PassesS CX X σ E) (ha : PA X (e :: es) t)
    (hN : X.N.Nodup) (hi : X.N[i]? = some y) (hl : X.env.scope.names.lookup y = some .local) (hdb : (x == ("__debug__" : Str)) = false := by decide) (he : starEach (e :: es) X.env = (false, eval e X.env) :: starEach es X.env := by rfl) (hpl : (backTo pos (starEach es X.env)).any (·.1) = false := by rfl)
    (hs : swapsWith (.Call (.Name x p) (e :: es) [] pos) (some (.Name y pos')) spos.line X.env = pure false := by rfl) :
    PSsAt X σ [.Assign [.Name y pos'] (.Call (.Name x p) (e :: es) [] pos) spos] (tAsg (tCall sp [] E t) (gName i)) := by
  intro pins s H D I h
  have key : wpAny (model X.prog X.w) X.A (eval (.Call (.Name x p) (e :: es) [] pos) X.env) (EP X pins σ fun v H1 => gName i v σ H1 D.nx) X.xe s := by
    refine wpAny_Call_Name_kw (ld_glob I hg hm ?_ hdb)
    refine PySem.W.callWith_K (h₀ := X.base) I.ok.mod.kin hk (thn (ha pos pins s σ H _ I h) fun us s1 ⟨vs, H1, I1, r, q⟩ => ⟨I1.kIn, ?_⟩) he hpl
    have hl : (us ++ []).length = ps.length := by rw [List.append_nil, ← r.length]; have := F.len _ _ _ _ q; rwa [List.append_nil] at this
    refine wpAny_call (codeAny_mono (F.run X.A X.stack s1 H1 ⟨us, []⟩ (us ++ []) (vs ++ []) _ E hr I1.env0 (hb s1 us I1.kIn hl) (r.append .nil) q) fun r s' hq => ?_)
    cases r with
    | error e => exact hx pins H1 s1 e s' I1 hq
    | ok fl =>
      cases fl with
      | ret u => exact I1.after hq
      | next => exact False.elim hq
      | brk => exact False.elim hq
      | cont => exact False.elim hq
  refine wpAny_execs_cons (thn (wpAny_Assign_Name (thn key fun v s1 ⟨z, H1, I1, r1, q1⟩ => store_ok I1 hN hi (.inl hl) r1 (fun s2 I2 => (show SP X pins D .next s2 from ⟨_, H1, I2, q1⟩)) (.inr hl)) hs) fun f s1 q => ?_)
  cases f with
  | next => exact wpAny_execs_nil q
  | ret v => exact q
  | brk => exact q
  | cont => exact q
end
def tTryS (i : Nat) (C : Addr) (E : XK) (tb ts : TS) : TS := fun D σ H => tb D σ H ∧ ∀ (x : Addr) (H' : Hp), E (.ref x) none H' → H' x = none →
  ts { nx := fun σ2 H2 => D.nx (σ2.set i none) H2, rt := D.rt, bk := fun σ2 H2 => D.bk (σ2.set i none) H2, ct := fun σ2 H2 => D.ct (σ2.set i none) H2 } (σ.set i (some (.ref x))) (upd H' x (excO C x))
section
variable {X : Cx} {C Cb : Addr} {E : XK} {body suite : List Stmt} {b₀ : Stmt} {y n : Str} {i : Nat} {np hpos pos : Pos} {tb ts : TS}
theorem ps_tryAt (hx0 : X.ex = []) (hst : X.stack = X.env :: X.outer) (hf : X.env.frame = some X.env.locals) (hcalm : X.calm = true) (hm : X.mg y = some (.ref Cb)) (hg : Gl X y) (hex : PySem.W.exmOne X.K (.ref C) (.ref Cb) = some true)
    (nd : X.N.Nodup) (hi : X.N[i]? = some n) (hl : X.env.scope.names.lookup n = some .local) (hb : ∀ pn xe σ, PassesS (CXr X.prog X.w C) (tried X pn xe) σ E → PSsAt (tried X pn xe) σ body tb)
    (hs : ∀ pn xe e, PSs (caught X pn xe e) (b₀ :: suite) ts) (hd : (y == ("__debug__" : Str)) = false := by decide) :
    PS X (.Try body [.ExceptHandler (some (.Name y np)) (some n) (b₀ :: suite) hpos] [] [] pos) (tTryS i C E tb ts) := by
  intro pins s σ H D I ⟨h1, h2⟩
  refine wpAny_Try_except ?_
  refine wpAny_mono (hb (X.pn ++ pins) _ σ ?pass [] s H D (I.swap (by simp) rfl I.ok.hd) h1) ?fin fun e s' he => he
  case fin =>
    intro f s' hf
    cases f with
    | next =>
      obtain ⟨σ', H', J, q⟩ := hf
      exact wpAny_pure ⟨σ', H', J.swap (A := X.A) (calm := X.calm) (pn := X.pn) (xe := X.xe) (pins' := pins) (by simp) rfl I.ok.hd, q⟩
    | brk =>
      obtain ⟨σ', H', J, q⟩ := hf
      exact ⟨σ', H', J.swap (A := X.A) (calm := X.calm) (pn := X.pn) (xe := X.xe) (pins' := pins) (by simp) rfl I.ok.hd, q⟩
    | cont =>
      obtain ⟨σ', H', J, q⟩ := hf
      exact ⟨σ', H', J.swap (A := X.A) (calm := X.calm) (pn := X.pn) (xe := X.xe) (pins' := pins) (by simp) rfl I.ok.hd, q⟩
    | ret u =>
      obtain ⟨v, σ', H', J, r, q⟩ := hf
      exact ⟨v, σ', H', J.swap (A := X.A) (calm := X.calm) (pn := X.pn) (xe := X.xe) (pins' := pins) (by simp) rfl I.ok.hd, r, q⟩
  case pass =>
    intro pins' H1 s1 e s' I1 hc
    obtain ⟨x, a0, B, H', rfl, hos, bare, un, kB, tB, okB, fly, hE⟩ := hc
    have J1 : Inv X pins σ H1 s1 := I1.swap (A := X.A) (calm := X.calm) (pn := X.pn) (xe := X.xe) (pins' := pins) (fun p q => List.mem_append_left _ q) rfl I.ok.hd
    have fly : Heap.FlyingW B X.stack x (.ref C) a0 s'.heap := fly
    have un : Un (frs X.stack) [] H1 H' s1.heap s'.heap := un
    have kB : ∀ b o, s1.heap.get? b = some o → H1 b = none → b ∉ frs X.stack → B.get? b = some o := kB
    have tB : ∀ b o, s1.heap.get? b = some o → b ∉ frs X.stack → ∃ u, B.get? b = some u := tB
    have hfree : ∀ b ∈ frs X.stack, H1 b = none := J1.stkFree
    have xfree : H' x = none := okB.gone fly.2.1
    -- any later heap in which all of B stays, and the frames but for their slots
    have next : ∀ h5, Heap.FlyingW B X.stack x (.ref C) a0 h5 → s'.heap.UpToSlots h5 → Inv X pins σ H' { s' with heap := h5 } := fun h5 f5 up => by
      refine J1.call' (ch := []) hos ⟨fun b o q n hb _ => f5.1 b o (kB b o q n hb), fun b o q n hb hx => ?_, un.free, fun b o q hx => ?_, un.tups, un.frzs, un.tbls⟩ (okB.kept f5.1) bare (fun b z => absurd z (by simp))
      · obtain ⟨sl, e1⟩ := un.slot b o q n hb hx
        obtain ⟨_, o', e2, nf⟩ := J1.stack.mem hb
        rw [q] at e2
        cases e2
        obtain ⟨sl', e3⟩ := up b _ e1 nf
        exact ⟨sl', e3⟩
      · cases e4 : H1 b with
        | some ho =>
          obtain ⟨u, z⟩ := tB b o q fun hb => by rw [hfree b hb] at e4; cases e4
          exact ⟨u, f5.1 b u z⟩
        | none =>
          by_cases hb : b ∈ frs X.stack
          · obtain ⟨sl, e1⟩ := un.slot b o q e4 hb hx
            obtain ⟨_, o', e2, nf⟩ := J1.stack.mem hb
            rw [q] at e2
            cases e2
            obtain ⟨sl', e3⟩ := up b _ e1 nf
            exact ⟨_, e3⟩
          · exact ⟨_, f5.1 b o (kB b o q e4 hb)⟩
    have hfr : X.A.frames = some (X.env :: X.outer) := by rw [← hst]; exact I.ok.frames
    rw [hst] at fly next
    refine wpAny_looks_onW hfr hf fly fun h4 held4 up4 => ?_
    refine wpAny_landsW held4 fun h5 fly5 up5 => ?_
    have J5 := next h5 fly5 (up4.trans up5)
    refine wpAny_handleBy_cons (codeAny_handlers_test ?_) (by intro q; cases q)
    have C5 : ∀ xe, Inv (caught X (X.pn ++ pins) xe x) [] σ H' { s' with heap := h5 } := fun xe => J5.swap (by simp) rfl (fun z => by cases z)
    refine ld_glob (C5 fun _ _ => True) hg hm ?_ hd
    obtain ⟨ob, hob, hcl⟩ := fly5.there
    have LT : PySem.W.Looks (model X.prog X.w) h5 (typeOf (.ref x)) (.ref C) := hcl ▸ (PySem.W.Looks.ld hob).andThen .now
    refine PySem.W.exm_one J5.kIn LT hex _ _ _ _ (fun _ _ q => q) ?_
    refine codeAny_handlers_suite_as ?_
    refine lands_againW fly5 fun h6 fly6 up6 => ?_
    have J6 := next h6 fly6 ((up4.trans up5).trans up6)
    obtain ⟨oe, vs, hoe, hcl6, hda, _⟩ := fly6.first
    have nfr : x ∉ frs X.stack := fun m => by
      obtain ⟨_, o, e1, nf⟩ := J6.stack.mem m
      have e1 : h6.get? x = some o := e1
      rw [hoe] at e1
      cases e1
      exact nf vs hda
    have nl : x ≠ X.env.locals := fun z => nfr (by rw [hst]; exact List.mem_filterMap.mpr ⟨X.env, List.mem_cons_self .., z ▸ hf⟩)
    have nB : ∀ b o, B.get? b = some o → b ≠ x := fun b o e z => by rw [z, fly6.2.1] at e; cases e
    have K6 := J6.track (x := x) (o := excO C x) xfree ?n0 nl ?nc ?np (excO_ok hoe hcl6)
    case n0 =>
      cases e : X.s₀.heap.get? x with
      | none => rfl
      | some o =>
        obtain ⟨o1, e1⟩ := J1.base.there x o e (by rw [hx0]; simp)
        obtain ⟨u, e2⟩ := tB x o1 e1 nfr
        exact absurd rfl (nB x u e2)
    case nc =>
      intro yy c e z
      obtain ⟨v, o, e1, e2⟩ := J6.cell yy c e
      have e1 : h6.get? c = some o := e1
      rw [z, hoe] at e1
      cases e1
      rw [hda] at e2
      cases e2
    case np =>
      intro p hp
      obtain ⟨e1, e2, e3, e4, _⟩ := J1.pin p hp
      refine nB p.1 p.2 (kB p.1 p.2 e1 e2 fun m => ?_)
      rw [hst] at m
      obtain ⟨env, he, hf'⟩ := List.mem_filterMap.mp m
      rcases List.mem_cons.mp he with rfl | he
      · rw [hf] at hf'; exact e3 (Option.some.inj hf').symm
      · exact e4 (List.mem_filterMap.mpr ⟨env, he, hf'⟩)
    have K7 : ∀ xe, Inv (caught X (X.pn ++ pins) xe x) [] σ (upd H' x (excO C x)) { s' with heap := h6 } := fun xe => K6.swap (by simp) rfl (fun z => by cases z)
    refine store_ok (X := caught X (X.pn ++ pins) (fun _ _ => True) x) (v := .ref x) (K7 _) nd hi (.inl hl) rfl (fun s7 I7 => ?_) (.inr hl)
    refine thn (hs (X.pn ++ pins) _ x [] s7 _ _ _ (I7.swap (A := X.A.mark (some (.ref x))) (calm := false) (pn := X.pn ++ pins) (pins' := []) (fun p q => q) rfl (fun z => by cases z)) (h2 x H' hE xfree)) ?_
    intro f s8 hsp
    dsimp only
    have back : ∀ {σ8 H8}, Inv (caught X (X.pn ++ pins) (fun _ _ => True) x) [] σ8 H8 s8 → Inv X pins σ8 H8 s8 := fun J => J.swap (A := X.A) (calm := X.calm) (pn := X.pn) (xe := X.xe) (pins' := pins) (by simp) rfl I.ok.hd
    cases f with
    | next =>
      obtain ⟨σ8, H8, J8, q⟩ := hsp
      exact unbind_ok (back (J8.swap (A := X.A.mark (some (.ref x))) (calm := false) (pn := X.pn ++ pins) (pins' := []) (fun p q => q) rfl (fun z => by cases z))) nd hi hl fun s9 I9 => ⟨_, _, I9, q⟩
    | brk =>
      obtain ⟨σ8, H8, J8, q⟩ := hsp
      exact unbind_ok (back (J8.swap (A := X.A.mark (some (.ref x))) (calm := false) (pn := X.pn ++ pins) (pins' := []) (fun p q => q) rfl (fun z => by cases z))) nd hi hl fun s9 I9 => ⟨_, _, I9, q⟩
    | cont =>
      obtain ⟨σ8, H8, J8, q⟩ := hsp
      exact unbind_ok (back (J8.swap (A := X.A.mark (some (.ref x))) (calm := false) (pn := X.pn ++ pins) (pins' := []) (fun p q => q) rfl (fun z => by cases z))) nd hi hl fun s9 I9 => ⟨_, _, I9, q⟩
    | ret u =>
      obtain ⟨v, σ8, H8, J8, r, q⟩ := hsp
      exact unbind_ok (back (J8.swap (A := X.A.mark (some (.ref x))) (calm := false) (pn := X.pn ++ pins) (pins' := []) (fun p q => q) rfl (fun z => by cases z))) nd hi hl fun s9 I9 => ⟨v, _, _, I9, r, q⟩
end
end L2

namespace TX
open PySem
def sT (l : List Nat) : Str := ⟨l.toArray⟩
theorem sT_toList (x : Str) : sT x.cps.toList = x := by cases x; simp [sT]
theorem sT_list (l : List Nat) : (sT l).cps.toList = l := by simp [sT]
theorem sT_len (l : List Nat) : (sT l).length = l.length := by simp [sT, Str.length]
theorem sT_inj {a b : List Nat} (h : sT a = sT b) : a = b := by
  have := congrArg (fun x : Str => x.cps.toList) h
  simpa [sT] using this
theorem sT_app (a b : List Nat) : sT a ++ sT b = sT (a ++ b) := by
  apply PySem.Str.ext'
  show (sT a).cps ++ (sT b).cps = (sT (a ++ b)).cps
  simp [sT]
def sp (c : Nat) : List Nat → List (List Nat)
  | [] => [[]]
  | a :: l => if a = c then [] :: sp c l else match sp c l with
    | [] => [[a]]
    | p :: r => (a :: p) :: r
def jn (c : Nat) : List (List Nat) → List Nat
  | [] => []
  | [p] => p
  | p :: r => p ++ c :: jn c r
theorem jn_cons (c : Nat) (p : List Nat) {r : List (List Nat)} (h : r ≠ []) : jn c (p :: r) = p ++ c :: jn c r := by
  cases r with
  | nil => exact absurd rfl h
  | cons q r => rfl
theorem sp_free {c : Nat} : ∀ {p : List Nat}, c ∉ p → sp c p = [p]
  | [], _ => rfl
  | a :: p, h => by
    have h1 : a ≠ c := fun z => h (z ▸ List.mem_cons_self)
    have h2 : c ∉ p := fun z => h (List.mem_cons_of_mem _ z)
    rw [sp, if_neg h1, sp_free h2]
theorem sp_app {c : Nat} : ∀ {p : List Nat}, c ∉ p → ∀ r, sp c (p ++ c :: r) = p :: sp c r
  | [], _, r => by rw [List.nil_append, sp, if_pos rfl]
  | a :: p, h, r => by
    have h1 : a ≠ c := fun z => h (z ▸ List.mem_cons_self)
    have h2 : c ∉ p := fun z => h (List.mem_cons_of_mem _ z)
    rw [List.cons_append, sp, if_neg h1, sp_app h2]
theorem sp_jn {c : Nat} : ∀ {ps : List (List Nat)}, ps ≠ [] → (∀ p ∈ ps, c ∉ p) → sp c (jn c ps) = ps
  | [], h, _ => absurd rfl h
  | [p], _, h => sp_free (h p List.mem_cons_self)
  | p :: q :: r, _, h => by
    rw [jn_cons c p (by simp), sp_app (h p List.mem_cons_self), sp_jn (by simp) fun z hz => h z (List.mem_cons_of_mem _ hz)]
theorem sp_ne (c : Nat) (l : List Nat) : sp c l ≠ [] := by
  cases l with
  | nil => simp [sp]
  | cons a l =>
    rw [sp]
    split
    · simp
    · split <;> simp
theorem join_sT (c : Nat) : ∀ ps : List (List Nat), Str.join (sT [c]) (ps.map sT) = sT (jn c ps)
  | [] => rfl
  | [p] => rfl
  | p :: q :: r => by
    have e := join_sT c (q :: r)
    show sT p ++ sT [c] ++ Str.join (sT [c]) ((q :: r).map sT) = _
    rw [e, sT_app, sT_app, jn_cons c p (by simp), List.append_assoc]
    rfl
theorem split_eq (l : List Nat) (c : Nat) : Txt.split (sT l) (sT [c]) = (sp c l).map sT := by
  have e : Txt.split (sT l) (sT [c]) = ((Txt.split (sT l) (sT [c])).map fun x : Str => x.cps.toList).map sT := by
    rw [List.map_map]
    refine ((List.map_id _).symm.trans (List.map_congr_left fun x _ => ?_))
    exact (sT_toList x).symm
  have hj := PySem.StrLaws.join_split (sT l) (sT [c])
  have h1 : (Txt.split (sT l) (sT [c])).map (fun x : Str => x.cps.toList) ≠ [] := fun z => by
    have := PyProof.Rows.split_pos (sT l) (sT [c])
    rw [List.map_eq_nil_iff.mp z] at this
    exact absurd this (by decide)
  have h2 : ∀ p ∈ (Txt.split (sT l) (sT [c])).map (fun x : Str => x.cps.toList), c ∉ p := fun p hp => by
    obtain ⟨x, hx, rfl⟩ := List.mem_map.mp hp
    exact PySem.StrLaws.split_free (sT l) c x hx
  rw [e] at hj ⊢
  generalize (Txt.split (sT l) (sT [c])).map (fun x : Str => x.cps.toList) = ps at hj h1 h2 ⊢
  rw [join_sT] at hj
  rw [← sT_inj hj, sp_jn h1 h2]
theorem sp_len (c : Nat) : ∀ l : List Nat, (sp c l).length = l.count c + 1
  | [] => rfl
  | a :: l => by
    rw [sp]
    have ih := sp_len c l
    split
    · rename_i h; subst h; simp [ih]
    · rename_i h
      split
      · rename_i e; exact absurd e (sp_ne c l)
      · rename_i p r e
        rw [e] at ih
        rw [List.count_cons_of_ne (fun z => h z)]
        simpa using ih
theorem jn_len (c : Nat) : ∀ {ps : List (List Nat)}, ps ≠ [] → (jn c ps).length + 1 = (ps.map List.length).sum + ps.length
  | [], h => absurd rfl h
  | [p], _ => by simp [jn]
  | p :: q :: r, _ => by
    have := jn_len c (ps := q :: r) (by simp)
    rw [jn_cons c p (by simp)]
    simp only [List.length_append, List.length_cons, List.map_cons, List.sum_cons] at this ⊢
    omega
theorem jn_sp (c : Nat) : ∀ l : List Nat, jn c (sp c l) = l
  | [] => rfl
  | a :: l => by
    have ih := jn_sp c l
    rw [sp]
    split
    · rename_i h
      subst h
      rw [jn_cons _ _ (sp_ne _ _), ih]; rfl
    · split
      · rename_i e; exact absurd e (sp_ne c l)
      · rename_i p r e
        rw [e] at ih
        cases r with
        | nil => rw [← ih]; rfl
        | cons q r => rw [jn_cons _ _ (by simp)] at ih ⊢; rw [← ih]; rfl
theorem sp_nin (c : Nat) : ∀ (l : List Nat) (p : List Nat), p ∈ sp c l → c ∉ p
  | [], p, h => by
    rw [sp, List.mem_singleton] at h
    subst h
    exact List.not_mem_nil
  | a :: l, p, h => by
    rw [sp] at h
    split at h
    · rcases List.mem_cons.mp h with rfl | h
      · exact List.not_mem_nil
      · exact sp_nin c l p h
    · rename_i ha
      split at h
      · rename_i e; exact absurd e (sp_ne c l)
      · rename_i q r e
        rcases List.mem_cons.mp h with rfl | h
        · intro z
          rcases List.mem_cons.mp z with z | z
          · exact ha z.symm
          · exact sp_nin c l q (by rw [e]; exact List.mem_cons_self) z
        · exact sp_nin c l p (by rw [e]; exact List.mem_cons_of_mem _ h)
theorem le_sum : ∀ {l : List Nat} {a : Nat}, a ∈ l → a ≤ l.sum
  | b :: l, a, h => by
    rw [List.sum_cons]
    rcases List.mem_cons.mp h with rfl | h
    · omega
    · have := le_sum h
      omega
theorem sp_short (c : Nat) (l : List Nat) {p : List Nat} (h : p ∈ sp c l) : p.length ≤ l.length := by
  have e := jn_len c (sp_ne c l)
  rw [jn_sp] at e
  have h1 : p.length ≤ ((sp c l).map List.length).sum := le_sum (List.mem_map_of_mem h)
  have h2 : 1 ≤ (sp c l).length := by rw [sp_len]; omega
  omega
end TX
namespace L2
open PySem PySem.Spec PyProof.Rows TX
section
variable {X : Cx}
abbrev vx (l : List Nat) : V := .str (sT l)
abbrev vxs (ws : List (List Nat)) : List V := ws.map vx
theorem vals_strs : ∀ {ws : List (List Nat)} {us : List Value}, Vals (vxs ws) us → ∃ l : List (Str × Tok), us = strValues l ∧ l.map (·.1) = ws.map sT
  | [], _, .nil => ⟨[], rfl, rfl⟩
  | w :: ws, _, .cons r t => by
    obtain ⟨l, rfl, e⟩ := vals_strs t
    obtain ⟨k, rfl⟩ := (show ∃ t, _ = Value.str (sT w) t from r)
    exact ⟨(sT w, k) :: l, rfl, by rw [List.map_cons, e]; rfl⟩
theorem strs_vals : ∀ (l : List (Str × Tok)) {ws : List (List Nat)}, l.map (·.1) = ws.map sT → Vals (vxs ws) (strValues l)
  | [], [], _ => .nil
  | [], _ :: _, e => by cases e
  | _ :: _, [], e => by cases e
  | (x, t) :: l, w :: ws, e => by
    rw [List.map_cons, List.map_cons] at e
    injection e with e1 e2
    exact .cons ⟨t, by rw [show x = sT w from e1]⟩ (strs_vals l e2)

def rSplit : V → List V → Hp → VK → Prop := fun x vs H Q => ∃ (z y : Str) (l : List Nat) (c : Nat), x = .str z ∧ z = sT l ∧ vs = [.str y] ∧ y = sT [c] ∧ l.length ≤ 1000000 ∧ ∀ D, H D = none → Q (.ref D) (upd H D (.lst (vxs (sp c l))))
theorem mt_split : MtM X "str.split" rSplit := by
  intro pins s σ H x vs v us Q I rx rv h
  obtain ⟨z, y, l, c, rfl, rfl, rfl, rfl, hl, q⟩ := h
  obtain ⟨t, rfl⟩ := (show ∃ t, v = Value.str (sT l) t from rx)
  obtain ⟨u, rfl, ru⟩ := rv.one
  obtain ⟨t', rfl⟩ := (show ∃ t, u = Value.str (sT [c]) t from ru)
  have h1 : (sT l).length ≤ sizeLine := by rw [sT_len]; exact Nat.le_trans hl (by decide)
  have sz : (sp c l).length ≤ sizeLine := by
    rw [sp_len]
    have : l.count c ≤ l.length := List.count_le_length
    exact Nat.le_trans (by omega : l.count c + 1 ≤ 1000001) (by decide)
  cases k1 : (decide ((sT l).length < (sT [c]).length) || decide (Builtin.Str.strKind (sT l) < Builtin.Str.strKind (sT [c])))
  · cases k2 : (Builtin.Str.occurrences (sT l) (sT [c]) 0 (sT l).length ((sT l).length + 1)).isEmpty
    · have e : Txt.split (sT l) (sT [c]) = Builtin.Str.partsBetween (sT l) (Builtin.Str.occurrences (sT l) (sT [c]) 0 (sT l).length ((sT l).length + 1)) (sT [c]).length := (if_neg (ne_true_of_eq_false k1)).trans (if_neg (ne_true_of_eq_false k2))
      have e2 := split_eq l c
      refine call_meets F.slot_str_split (typeIs_str _ _ _) F.entry_str_split (F.args_str_split_2 _ _) (meets_str_split_sep (sT l) (sT [c]) t t' k1 rfl k2 h1 (by rw [← e, e2, List.length_map]; exact sz)) ?_
      show wants (EP X pins σ Q) X.xe _ { s with toks := _, heap := s.heap.push { cls := .type "list", data := .seq (strsFrom s.toks (Builtin.Str.partsBetween (sT l) (Builtin.Str.occurrences (sT l) (sT [c]) 0 (sT l).length ((sT l).length + 1)) (sT [c]).length)).toArray } }
      rw [← e, e2, strsFrom_eq]
      exact ⟨.ref _, _, I.lnew (strs_vals _ (numbered_texts _ _)) (by rw [List.length_map]; exact sz), rfl, q _ I.fresh⟩
    · have e : Txt.split (sT l) (sT [c]) = [sT l] := (if_neg (ne_true_of_eq_false k1)).trans (if_pos k2)
      have e2 := (split_eq l c).symm.trans e
      exact call_meets F.slot_str_split (typeIs_str _ _ _) F.entry_str_split (F.args_str_split_2 _ _) (meets_str_split_not_found (sT l) (sT [c]) t t' k1 rfl k2)
        ⟨.ref _, _, I.lnew (t' := s.toks) (strs_vals [(sT l, t)] e2.symm) (by rw [List.length_map]; exact sz), rfl, q _ I.fresh⟩
  · have e : Txt.split (sT l) (sT [c]) = [sT l] := if_pos k1
    have e2 := (split_eq l c).symm.trans e
    exact call_meets F.slot_str_split (typeIs_str _ _ _) F.entry_str_split (F.args_str_split_2 _ _) (meets_str_split_cannot_occur (sT l) (sT [c]) t t' k1)
      ⟨.ref _, _, I.lnew (t' := s.toks) (strs_vals [(sT l, t)] e2.symm) (by rw [List.length_map]; exact sz), rfl, q _ I.fresh⟩

def rJoin (K : PySem.W.Frag) : V → List V → Hp → VK → Prop := fun x vs H Q => ∃ (z : Str) (c : Nat) (p : Addr) (ws : List (List Nat)), x = .str z ∧ z = sT [c] ∧ vs = [.ref p] ∧ SqL K H p (vxs ws) ∧ (ws.map List.length).sum + ws.length ≤ 1000000 ∧ Q (vx (jn c ws)) H
theorem mt_join : MtM X "str.join" (rJoin X.K) := by
  intro pins s σ H x vs v us Q I rx rv h
  obtain ⟨z, c, p, ws, rfl, rfl, rfl, hp, hl, q⟩ := h
  obtain ⟨t, rfl⟩ := (show ∃ t, v = Value.str (sT [c]) t from rx)
  obtain ⟨u, rfl, ru⟩ := rv.one
  cases ru
  obtain ⟨its, r, pl, hz⟩ := I.list hp
  obtain ⟨l, rfl, e⟩ := vals_strs r
  have el : (ws.map sT).map (fun x : Str => x.length) = ws.map List.length := by
    rw [List.map_map]
    exact List.map_congr_left fun w _ => sT_len w
  refine SC.join pl.isList rfl ?_ fun t' k => ⟨vx (jn c ws), H, I.tok _, ⟨t', ?_⟩, q⟩
  · unfold JoinOk
    rw [StrLaws.joinTotal, e, el, List.length_map, sT_len]
    rw [Bool.not_eq_true']
    unfold Builtin.Str.tooLong
    exact decide_eq_false (by rw [sizeLine_eq]; simp only [List.length_cons, List.length_nil]; omega)
  · show Value.str (Txt.join (sT [c]) (l.map (·.1))) t' = Value.str (sT (jn c ws)) t'
    rw [e]
    show Value.str (Builtin.Str.glued (sT [c]) (ws.map sT)) t' = _
    rw [StrLaws.glued_eq_join, join_sT]

def rFindX : V → List V → Hp → VK → Prop := fun x vs H Q => ∃ z y : Str, x = .str z ∧ vs = [.str y] ∧ Q (.int (Txt.find z y)) H
theorem mt_find : MtM X "str.find" rFindX := by
  intro pins s σ H x vs v us Q I rx rv h
  obtain ⟨z, y, rfl, rfl, q⟩ := h
  obtain ⟨t, rfl⟩ := (show ∃ t, v = Value.str z t from rx)
  obtain ⟨u, rfl, ru⟩ := rv.one
  obtain ⟨t', rfl⟩ := (show ∃ t, u = Value.str y t from ru)
  exact SC.find ⟨.int _, H, I.tok _, ⟨_, rfl⟩, q⟩
def rStarts : V → List V → Hp → VK → Prop := fun x vs H Q => ∃ z y : Str, x = .str z ∧ vs = [.str y] ∧ Q (.bl (Txt.startswith z y)) H
theorem mt_starts : MtM X "str.startswith" rStarts := by
  intro pins s σ H x vs v us Q I rx rv h
  obtain ⟨z, y, rfl, rfl, q⟩ := h
  obtain ⟨t, rfl⟩ := (show ∃ t, v = Value.str z t from rx)
  obtain ⟨u, rfl, ru⟩ := rv.one
  obtain ⟨t', rfl⟩ := (show ∃ t, u = Value.str y t from ru)
  exact SC.startswith ⟨.bl _, H, I, rfl, q⟩
theorem call_intX : CallR X (.type "int") (fun xs H Q => ∃ (z : Str) (n : Int), xs = [.str z] ∧ z.length ≤ 640 ∧ PySem.intText? z = some n ∧ Q (.int n) H) := by
  intro pins s σ H xs us Q I r h
  obtain ⟨z, n, rfl, hz, e, q⟩ := h
  obtain ⟨u, rfl, rx⟩ := vals1 r
  obtain ⟨t, rfl⟩ := (show ∃ t, u = Value.str z t from rx)
  exact PySem.W.KIN.call_text e hz ⟨.int n, H, I.tok _, ⟨_, rfl⟩, q⟩
end
end L2

namespace TX
open PySem PySem.Builtin PySem.Builtin.Str L2
def cutL (l : List Nat) (lo hi : Option Int) : List Nat := (l.drop (HT.sIx l.length 0 lo)).take (HT.sIx l.length l.length hi - HT.sIx l.length 0 lo)
theorem cutL_len (l : List Nat) (lo hi : Option Int) : (cutL l lo hi).length ≤ l.length := by
  unfold cutL
  rw [List.length_take, List.length_drop]
  omega
theorem idx_eq (lo hi : Option Int) (n : Nat) : strSliceIndices lo hi 1 n = strSliceIndices (some ((HT.sIx n 0 lo : Nat) : Int)) (some ((HT.sIx n n hi : Nat) : Int)) 1 n := by
  unfold strSliceIndices
  have h1 := HT.sIx_le n 0 (Nat.zero_le _) lo
  have h2 := HT.sIx_le n n (Nat.le_refl _) hi
  simp only [show ((1 : Int) > 0) = True from by simp, if_true]
  congr 1
  · cases lo with
    | none => show (0 : Int) = _; simp only [HT.sIx] at h1 ⊢; simp; omega
    | some v =>
      simp only [HT.sIx] at h1 ⊢
      by_cases hv : v < 0
      · simp only [hv, if_true] at h1 ⊢; omega
      · simp only [hv, if_false] at h1 ⊢; omega
  · cases hi with
    | none => show (n : Int) = _; simp only [HT.sIx] at h2 ⊢; omega
    | some v =>
      simp only [HT.sIx] at h2 ⊢
      by_cases hv : v < 0
      · simp only [hv, if_true] at h2 ⊢; omega
      · simp only [hv, if_false] at h2 ⊢; omega
theorem idx_no {a b n : Nat} (h : b < a) (hn : a ≤ n) : strSliceIndices (some (a : Int)) (some (b : Int)) 1 n = [] := by
  have h1 : ¬ ((a : Int) < 0) := by omega
  have h2 : ¬ ((b : Int) < 0) := by omega
  have e1 : max (0 : Int) (min (a : Int) (n : Int)) = a := by omega
  have e2 : max (0 : Int) (min (b : Int) (n : Int)) = b := by omega
  simp only [strSliceIndices, sliceRange, h1, h2, if_false, e1, e2, show ((1 : Int) > 0) = True from by simp, if_true]
  rw [if_neg (by omega)]
  rfl
theorem picked_eq (l : List Nat) (lo hi : Option Int) : (strSliceIndices lo hi 1 l.length).filterMap (l[·]?) = cutL l lo hi := by
  rw [idx_eq]
  have h2 := HT.sIx_le l.length l.length (Nat.le_refl _) hi
  unfold cutL
  by_cases h : HT.sIx l.length 0 lo ≤ HT.sIx l.length l.length hi
  · have := StrLaws.sliced_plain (sT l) h (by rw [sT_len]; exact h2)
    rw [sT_len, sT_list] at this
    rw [← this]
    simp [sT]
  · have e : HT.sIx l.length l.length hi - HT.sIx l.length 0 lo = 0 := by omega
    rw [e, List.take_zero]
    rw [idx_no (by omega) (HT.sIx_le l.length 0 (Nat.zero_le _) lo)]
    rfl
theorem slice_eq (l : List Nat) (lo hi : Option Int) : Txt.slice (sT l) lo hi = sT (cutL l lo hi) := by
  unfold Txt.slice
  have e : (strSliceIndices lo hi 1 (sT l).length).filterMap ((sT l).cps[·]?) = cutL l lo hi := by
    rw [← picked_eq, sT_len]
    simp [sT]
  split
  · rename_i h
    have hl : (strSliceIndices lo hi 1 l.length).length = l.length := by
      simpa [sT_len] using h
    have h1 : (cutL l lo hi).length = l.length := by
      unfold cutL
      rw [idx_eq] at hl
      have a1 := HT.sIx_le l.length 0 (Nat.zero_le _) lo
      have a2 := HT.sIx_le l.length l.length (Nat.le_refl _) hi
      by_cases h : HT.sIx l.length 0 lo ≤ HT.sIx l.length l.length hi
      · rw [StrLaws.strSliceIndices_plain h a2, List.length_map, List.length_range] at hl
        rw [List.length_take, List.length_drop]
        omega
      · rw [idx_no (by omega) a1] at hl
        have : l.length = 0 := hl.symm
        omega
    have h2 : cutL l lo hi = l := by
      have : (cutL l lo hi).Sublist l := ((List.take_sublist _ _).trans (List.drop_sublist _ _))
      exact this.eq_of_length h1
    rw [h2]
  · exact congrArg (fun z : List Nat => (⟨z.toArray⟩ : Str)) e
theorem cut_to (l : List Nat) (k : Nat) : cutL l none (some (k : Int)) = l.take k := by
  unfold cutL
  rw [HT.sIx_none, HT.sIx_nat, List.drop_zero, Nat.sub_zero]
  by_cases h : k ≤ l.length
  · rw [Nat.min_eq_left h]
  · rw [Nat.min_eq_right (by omega), List.take_of_length_le (Nat.le_refl _), List.take_of_length_le (by omega)]
theorem cut_from (l : List Nat) (k : Nat) : cutL l (some (k : Int)) none = l.drop k := by
  unfold cutL
  rw [HT.sIx_none, HT.sIx_nat]
  by_cases h : k ≤ l.length
  · rw [Nat.min_eq_left h, List.take_of_length_le (by rw [List.length_drop]; omega)]
  · rw [Nat.min_eq_right (by omega), List.drop_of_length_le (Nat.le_refl _), List.drop_of_length_le (by omega), List.take_nil]
theorem cut_but (l : List Nat) : cutL l none (some (-1)) = l.dropLast := by
  unfold cutL
  rw [HT.sIx_none, List.drop_zero, Nat.sub_zero, List.dropLast_eq_take]
  congr 1
  show (if (-1 : Int) < 0 then ((-1 : Int) + (l.length : Int)).toNat else min (-1 : Int).toNat l.length) = _
  rw [if_pos (by decide)]
  omega
theorem cut_last (l : List Nat) : cutL l (some (-1)) none = l.drop (l.length - 1) := by
  unfold cutL
  have e : HT.sIx l.length 0 (some (-1)) = l.length - 1 := by
    show (if (-1 : Int) < 0 then ((-1 : Int) + (l.length : Int)).toNat else min (-1 : Int).toNat l.length) = _
    rw [if_pos (by decide)]
    omega
  rw [HT.sIx_none, e, List.take_of_length_le (by rw [List.length_drop]; omega)]
end TX
namespace L2
open PySem PySem.Spec PyProof.Rows TX
section
variable {X : Cx}
def rSlX : V → Option Int → Option Int → Hp → VK → Prop := fun x lo hi H Q => ∃ (z : Str) (l : List Nat), x = .str z ∧ z = sT l ∧ l.length ≤ 1000000 ∧ Q (vx (cutL l lo hi)) H
theorem sl_str : SlR X rSlX := by
  intro pins s σ H x v vl vu lo hi sl Q I rx hs pl pu h
  obtain ⟨z, l, rfl, rfl, hl, q⟩ := h
  obtain ⟨t, rfl⟩ := (show ∃ t, v = Value.str (sT l) t from rx)
  refine ⟨"str", _, F.slot_str_getitem.lookup, typeIs_str _ _ _, ?_⟩
  have fin : ∀ t' k, EP X pins σ Q (.str (Txt.slice (sT l) lo hi) t') { s with toks := k } := fun t' k => ⟨vx (cutL l lo hi), H, I.tok _, ⟨t', by rw [slice_eq]⟩, q⟩
  have hz : (Txt.slice (sT l) lo hi).length ≤ sizeLine := by
    rw [slice_eq, sT_len]
    exact Nat.le_trans (cutL_len l lo hi) (Nat.le_trans hl (by decide))
  obtain ⟨o, h1, h2, h3⟩ := hs
  cases pl with
  | none =>
    cases pu with
    | none => exact wpAny_getItem_str_slice (l := none) (u := none) (st := none) ⟨o, h1, h2, h3⟩ rfl (post_val_or_str ⟨hz, fin⟩)
    | int j tj => exact wpAny_getItem_str_slice (l := none) (u := some (j, tj)) (st := none) ⟨o, h1, h2, h3⟩ rfl (post_val_or_str ⟨hz, fin⟩)
  | int i ti =>
    cases pu with
    | none => exact wpAny_getItem_str_slice (l := some (i, ti)) (u := none) (st := none) ⟨o, h1, h2, h3⟩ rfl (post_val_or_str ⟨hz, fin⟩)
    | int j tj => exact wpAny_getItem_str_slice (l := some (i, ti)) (u := some (j, tj)) (st := none) ⟨o, h1, h2, h3⟩ rfl (post_val_or_str ⟨hz, fin⟩)

def Itx (l : List Nat) : It := ⟨fun i _ => i < l.length, fun i H x H' => H' = H ∧ ∃ c, l[i]? = some c ∧ x = vx [c], fun i _ => l.length ≤ i⟩
theorem turn_ascii {P : Program} {w : World} {K : PySem.W.Frag} {tg : Expr} (it : Addr) (l : List Nat) (t : Tok) : Turn P w K tg (Itx l) [it] it (fun i h => h.IsStrIter it "str_ascii_iterator" (sT l) t i) where
  mem := by simp
  obj := fun i h st b hb => by
    have e : b = it := by simpa using hb
    subst e
    obtain ⟨o, e, c, d⟩ := st
    exact ⟨o, e, fun v z => by rw [d] at z; cases z⟩
  keep := fun i h h' st k => let ⟨o, ho, r⟩ := st; ⟨o, k it (by simp) o ho, r⟩
  item := by
    intro X hP hw hK hc i pins s σ H E I hf st hg
    subst hP hw hK
    have hg : i < l.length := hg
    obtain ⟨f0, f1, f2, f3, f4, f5⟩ := hf it (by simp)
    refine wpAny_pyNext_ascii_item st (c := l[i]) (by simp [sT, hg]) fun h' st' sb => ?_
    have I1 : Inv X pins σ H { s with heap := h', toks := s.toks + 1 } := I.turned (t' := s.toks + 1) (fun b o hb e => (sb.2 b hb).trans e) f0 f1 f3 f4 f5
    obtain ⟨o, e, c, d⟩ := id st'
    exact ⟨_, rfl, go_of (s := { s with heap := h', toks := s.toks + 1 }) e c d (by decide) ⟨vx [l[i]], H, I1, ⟨_, rfl⟩, ⟨rfl, _, List.getElem?_eq_getElem hg, rfl⟩, st', fun b hb => (hf b hb).1⟩⟩
  done := by
    intro X hP hw hK hc i pins s σ H E I hf st hg
    subst hP hw hK
    have hg : l.length ≤ i := hg
    obtain ⟨f0, f1, f2, f3, f4, f5⟩ := hf it (by simp)
    exact wpAny_pyNext_ascii_end (I.ok.hd hc) st (by simp [sT]; omega) fun h' eb => ⟨rfl, I.turned (t' := s.toks) (fun b o hb e => eb b o hb e) f0 f1 f3 f4 f5⟩
  self := fun _ _ _ _ _ st h => wpAny_pyIter_striter_ascii st h
def iTxt (tl : TE) : TI := fun σ H R => tl σ H fun x H1 => ∃ (z : Str) (l : List Nat), x = .str z ∧ z = sT l ∧ (∀ c ∈ l, c < 128) ∧ R (Itx l) H1
theorem pi_str {tg l : Expr} {tl : TE} (hl : PE X l tl) : PI X tg l (iTxt tl) := by
  intro pins s σ H R I h
  refine thn (hl pins s σ H _ I h) fun v s1 ⟨x, H1, I1, r1, q1⟩ => ?_
  obtain ⟨z, l, rfl, rfl, ha, q⟩ := q1
  obtain ⟨t, rfl⟩ := (show ∃ t, v = Value.str (sT l) t from r1)
  refine wpAny_pyIter_ascii (by rw [Array.all_eq_true']; intro c hc; exact decide_eq_true (ha c (by simpa [sT] using hc))) ?_
  refine ⟨s1.heap.objs.size, [s1.heap.objs.size], _, _, H1, rfl, I1.kept (t' := s1.toks) fun b o e => Heap.get?_push_of_some _ e, turn_ascii _ l t, ⟨_, Heap.get?_push_size _ rfl, rfl, rfl⟩, fun b hb => ?_, q⟩
  have e : b = s1.heap.objs.size := by simpa using hb
  subst e
  exact I1.fpOk (Nat.le_refl _) (I1.hok.fresh (Nat.le_refl _))

theorem rep_arr (l : List Nat) : ∀ (n : Nat) (a : Array Nat), (List.replicate n l.toArray).foldl (· ++ ·) a = a ++ (List.replicate n l).flatten.toArray
  | 0, a => by simp
  | n + 1, a => by
    rw [List.replicate_succ, List.foldl_cons, rep_arr l n, List.replicate_succ, List.flatten_cons]
    simp
theorem op_mul_str : OpR X (binaryOp .Mult) (fun x y H Q => ∃ (z : Str) (l : List Nat) (n : Nat), x = .str z ∧ z = sT l ∧ y = .int (n : Int) ∧ l.length * n ≤ 1000000 ∧ n ≤ 1000000 ∧ Q (vx (List.replicate n l).flatten) H) := by
  intro pins s σ H x y v u Q I rx ry h
  obtain ⟨z, l, n, rfl, rfl, rfl, hz, hn, q⟩ := h
  obtain ⟨t, rfl⟩ := (show ∃ t, v = Value.str (sT l) t from rx)
  obtain ⟨t', rfl⟩ := ry
  refine SB.mul ⟨?_, fun h1 h2 => ?_, fun h1 h2 => ?_⟩ fun t2 k => ⟨vx (List.replicate n l).flatten, H, I.tok _, ⟨t2, ?_⟩, q⟩
  · rw [decide_eq_false (by omega), decide_eq_false (by omega)]; rfl
  · rw [sT_len]
    have h3 : 1 ≤ n := by omega
    have h4 : l.length ≤ l.length * n := Nat.le_mul_of_pos_right _ h3
    intro z
    have h5 := Int.lt_iff_add_one_le.mp z
    have h6 : (2 ^ 63 - 1) / (n : Int) ≥ 1000000 := by
      rw [ge_iff_le, Int.le_ediv_iff_mul_le (by omega)]
      omega
    omega
  · rw [sT_len]
    unfold Builtin.Str.tooLong
    exact decide_eq_false (by rw [sizeLine_eq, Int.toNat_natCast]; omega)
  · congr 1
    unfold Txt.mul
    by_cases h1 : (n : Int) < 1
    · rw [if_pos h1]
      have : n = 0 := by omega
      subst this
      rfl
    · rw [if_neg h1]
      split
      · rename_i h2
        rw [Bool.or_eq_true, beq_iff_eq, beq_iff_eq, sT_len] at h2
        rcases h2 with h2 | h2
        · have : n = 1 := by omega
          subst this
          simp
        · rw [List.eq_nil_of_length_eq_zero h2]
          simp
      · rw [Int.toNat_natCast]
        show (⟨(List.replicate n l.toArray).foldl (· ++ ·) #[]⟩ : Str) = _
        rw [rep_arr]
        simp [sT]
end
end L2
namespace L2
open PySem PySem.Spec PyProof.Rows
theorem kpe_bm {X : Cx} {K : PySem.W.Frag} {o e : Expr} {es : List Expr} {to : TE} {t : TA} {name : Str} {apos cpos : Pos} {T id : String} {r : V → List V → Hp → VK → Prop} (hK : X.K = K) (pa : PlainAttrs T) (slot : Slot T name id) (hty : typeOf (.builtin id) = pure (.type "method_descriptor")) (hm : MtR X id r) (ho : PE X o to) (ha : PA X (e :: es) t)
    (hbase : attributeBase o name X.env (eval o X.env) = eval o X.env := by rfl)
    (hfew : ((backTo cpos (starEach (e :: es) X.env)).all (fun x => !x.1) && (backToKw cpos (keywordEach [] X.env)).all (fun x => x.1.isSome)
      && decide ((e :: es).length + ([] : List Keyword).length + (if ([] : List Keyword).isEmpty then 0 else 1) < 30)) = true := by rfl)
    (hline : (apos.endLine == cpos.line) = true := by rfl) (hs : starEach (e :: es) X.env = (false, eval e X.env) :: starEach es X.env := by rfl) (hplain : (backTo cpos (starEach es X.env)).any (·.1) = false := by rfl) :
    PE X (.Call (.Attribute o name apos) (e :: es) [] cpos) (tBM K T r to t) := by
  subst hK
  exact pe_bm pa slot hty hm ho ha hbase hfew hline hs hplain
end L2

namespace L2
open PySem PySem.Spec PyProof.Rows
section
variable {X : Cx} {pins : List (Addr × Obj)} {σ : St} {H : Hp} {s : Shared} {h' : Heap}
theorem Inv.turnedCh {t' : Nat} {ch : List Addr} (I : Inv X pins σ H s) (k : ∀ b u, b ∉ ch → s.heap.get? b = some u → h'.get? b = some u) (hf : ∀ b ∈ ch, FpOk X pins H b) : Inv X pins σ H { s with heap := h', toks := t' } := by
  have nit : ∀ b u, H b = some u → b ∉ ch := fun b u e z => by rw [(hf b z).1] at e; cases e
  refine I.step (g' := s.gens) (d' := s.drawn) (ch := ch) (fun b hb => ?_) (fun b o _ _ hc e _ => k b o hc e) (fun b o _ _ hc e _ => ⟨o.slots, k b o hc e⟩) (fun b u hc e n => n) (fun b u hc e => ⟨u, k b u hc e⟩)
    (fun b xs e => e) (fun b ob u e => e) (fun b ps e => ⟨#[], by rw [e]; simp⟩) (fun m hm => ?_) (fun b u e => ?_) I.bare
  · exact ⟨(hf b hb).2.2.2.1, (hf b hb).2.1, (hf b hb).2.2.2.2.1, (hf b hb).2.2.2.2.2⟩
  · obtain ⟨ob, es, ep, ho, r⟩ := hm
    exact ⟨ob, es, ep, k _ ob (fun z => (hf _ z).2.1 rfl) ho, r⟩
  · refine (I.hok b u e).stay (fun c v hc q => k c v ?_ q) (fun c q => q) fun c xs q => q
    rcases hc with z | z
    · rw [z]; exact nit b u e
    · exact nit c _ z
end
def Itz (a b : Addr) : It :=
  ⟨fun i H => ∃ xs ys x y, H a = some (.lst xs) ∧ H b = some (.lst ys) ∧ xs[i]? = some x ∧ ys[i]? = some y,
   fun i H v H' => ∃ T x y, v = .ref T ∧ H T = none ∧ H' = upd H T (.tup [x, y]) ∧ (∀ xs, H a = some (.lst xs) → xs[i]? = some x) ∧ ∀ ys, H b = some (.lst ys) → ys[i]? = some y,
   fun i H => ∃ xs ys, H a = some (.lst xs) ∧ H b = some (.lst ys) ∧ (xs.length ≤ i ∨ ys.length ≤ i)⟩
theorem turn_zip {P : Program} {w : World} {K : PySem.W.Frag} {elts : List Expr} {k : Nat} {pos : Pos} (a b z TI TO i1 i2 : Addr) (d : [z, TI, TO, i1, i2].Nodup) :
    Turn P w K (.Tuple elts k pos) (Itz a b) [z, TI, TO, i1, i2] z (fun i h => IsZip h z TI TO .none ∧ IsPair h TI (.ref i1) (.ref i2) ∧ (∃ u v, IsPair h TO u v) ∧ h.IsListIter i1 a i ∧ h.IsListIter i2 b i) := by
  simp only [List.nodup_cons, List.mem_cons, List.not_mem_nil, or_false, not_or] at d
  obtain ⟨⟨d1, d2, d3, d4⟩, ⟨d5, d6, d7⟩, ⟨d8, d9⟩, d10, _⟩ := d
  have apart : ∀ {H : Hp} {l l' : Addr} {xs ys : List V}, H l = some (.lst xs) → H l' = some (.lst ys) → (∀ c ∈ [z, TI, TO, i1, i2], H c = none) → ZipApart z TI TO i1 i2 l l' := fun {H l l' xs ys} h h' hn =>
    ⟨Ne.symm d1, Ne.symm d2, Ne.symm d3, Ne.symm d4, d5, d6, d7, d8, d9, d10, ne_of_none h (hn z (by simp)), ne_of_none h (hn TO (by simp)), ne_of_none h (hn i1 (by simp)), ne_of_none h (hn i2 (by simp)),
      ne_of_none h' (hn z (by simp)), ne_of_none h' (hn TO (by simp)), ne_of_none h' (hn i1 (by simp)), ne_of_none h' (hn i2 (by simp))⟩
  refine ⟨by simp, ?_, ?_, ?_, ?_, ?_⟩
  · rintro i h ⟨hz, hTI, ⟨u, v, hTO⟩, ⟨o1, h1, c1, e1⟩, ⟨o2, h2, c2, e2⟩⟩ b' hb
    simp only [List.mem_cons, List.not_mem_nil, or_false] at hb
    rcases hb with rfl | rfl | rfl | rfl | rfl
    · exact ⟨_, hz, fun v q => by have q' : Data.fields _ = Data.cell v := q; cases q'⟩
    · exact ⟨_, hTI, fun v q => by have q' : Data.seq _ _ = Data.cell v := q; cases q'⟩
    · exact ⟨_, hTO, fun v q => by have q' : Data.seq _ _ = Data.cell v := q; cases q'⟩
    · exact ⟨_, h1, fun v q => by rw [e1] at q; cases q⟩
    · exact ⟨_, h2, fun v q => by rw [e2] at q; cases q⟩
  · rintro i h h' ⟨hz, hTI, ⟨u, v, hTO⟩, h1, h2⟩ kk
    exact ⟨kk z (by simp) _ hz, kk TI (by simp) _ hTI, ⟨u, v, kk TO (by simp) _ hTO⟩, h1.at fun o e => kk i1 (by simp) o e, h2.at fun o e => kk i2 (by simp) o e⟩
  · intro X hP hw hK hc i pins s σ H E I hf st hg
    subst hP hw hK
    obtain ⟨hz, hTI, ⟨u, v, hTO⟩, h1, h2⟩ := st
    obtain ⟨xs, ys, x, y, ha, hb, hx, hy⟩ := hg
    have D := apart ha hb fun c hc => (hf c hc).1
    obtain ⟨_, its, n, rv, hl, e⟩ := I.lstM ha
    obtain ⟨_, its2, n2, rv2, hl2, e2⟩ := I.lstM hb
    obtain ⟨u1, hu1, ru1⟩ := rv.get hx
    obtain ⟨u2, hu2, ru2⟩ := rv2.get hy
    have hux : its.toArray[i]? = some u1 := by simpa using hu1
    have huy : its2.toArray[i]? = some u2 := by simpa using hu2
    refine wpAny_pyNext_zip_item D hz hTI hTO h1 h2 ⟨_, e, rfl, n, rfl⟩ ⟨_, e2, rfl, n2, rfl⟩ hux huy fun h' a1 a2 a3 a4 a5 a6 hk => ?_
    refine ⟨_, rfl, ?_⟩
    have kk : ∀ c o, c ∉ [z, TO, i1, i2] → s.heap.get? c = some o → h'.get? c = some o := fun c o hc q => hk c o (fun x => hc (by simp [x])) (fun x => hc (by simp [x])) (fun x => hc (by simp [x])) (fun x => hc (by simp [x])) q
    have th : ∀ c o, s.heap.get? c = some o → ∃ o', h'.get? c = some o' := fun c o q => by
      by_cases c1 : c = z
      · subst c1; exact ⟨_, a1⟩
      · by_cases c2 : c = TO
        · subst c2; exact ⟨_, a2⟩
        · by_cases c3 : c = i1
          · subst c3; obtain ⟨o', q1, _⟩ := a3; exact ⟨_, q1⟩
          · by_cases c4 : c = i2
            · subst c4; obtain ⟨o', q1, _⟩ := a4; exact ⟨_, q1⟩
            · exact ⟨o, hk c o c1 c2 c3 c4 q⟩
    have sub : ∀ c ∈ [z, TO, i1, i2], c ∈ [z, TI, TO, i1, i2] := fun c hc => by simp at hc ⊢; rcases hc with rfl | rfl | rfl | rfl <;> simp
    have I1 : Inv X pins σ (upd H s.heap.objs.size (.tup [x, y])) { s with heap := h', toks := s.toks } :=
      I.turnedNew (ch := [z, TO, i1, i2]) kk th (Nat.le_refl _) (fun c hc => hf c (sub c hc)) ⟨by show 2 ≤ sizeLine; decide, [u1, u2], .cons ru1 (.cons ru2 .nil), ⟨_, a5, rfl, _, rfl⟩⟩
    have fz := hf z (by simp)
    have neT : ∀ c ∈ [z, TI, TO, i1, i2], c ≠ s.heap.objs.size := fun c hc => by
      simp only [List.mem_cons, List.not_mem_nil, or_false] at hc
      rcases hc with rfl | rfl | rfl | rfl | rfl
      · exact Nat.ne_of_lt (Heap.lt_size hz)
      · exact Nat.ne_of_lt (Heap.lt_size hTI)
      · exact Nat.ne_of_lt (Heap.lt_size hTO)
      · obtain ⟨_, q, _⟩ := h1; exact Nat.ne_of_lt (Heap.lt_size q)
      · obtain ⟨_, q, _⟩ := h2; exact Nat.ne_of_lt (Heap.lt_size q)
    refine wpAny_letOwnedTupleGo_zip a1 fun h2' hz2 hs2 => ?_
    have I2 : Inv X pins σ (upd H s.heap.objs.size (.tup [x, y])) { s with heap := h2', toks := s.toks } :=
      Inv.turned (s := { s with heap := h', toks := s.toks }) (h' := h2') (t' := s.toks) (it := z) I1 (fun c o hc q => (hs2.2 c hc).trans q) (by rw [upd_ne (neT z (by simp))]; exact fz.1) fz.2.1 fz.2.2.2.1 fz.2.2.2.2.1 fz.2.2.2.2.2
    refine ⟨.ref s.heap.objs.size, _, I2, rfl, ⟨s.heap.objs.size, x, y, rfl, I.fresh, rfl, fun zs hzs => by rw [ha] at hzs; cases hzs; exact hx, fun zs hzs => by rw [hb] at hzs; cases hzs; exact hy⟩,
      ⟨hz2, (hs2.2 TI (Ne.symm d1)).trans (hk TI _ (Ne.symm d1) d5 d6 d7 hTI), ⟨_, _, (hs2.2 TO (Ne.symm d2)).trans a2⟩, a3.at fun o q => (hs2.2 i1 (Ne.symm d3)).trans q, a4.at fun o q => (hs2.2 i2 (Ne.symm d4)).trans q⟩, fun c hc => ?_⟩
    rw [upd_ne (neT c hc)]
    exact (hf c hc).1
  · intro X hP hw hK hc i pins s σ H E I hf st hg
    subst hP hw hK
    obtain ⟨hz, hTI, ⟨u, v, hTO⟩, h1, h2⟩ := st
    obtain ⟨xs, ys, ha, hb, hx⟩ := hg
    have D := apart ha hb fun c hc => (hf c hc).1
    obtain ⟨_, its, n, rv, hl, e⟩ := I.lstM ha
    obtain ⟨_, its2, n2, rv2, hl2, e2⟩ := I.lstM hb
    have sub : ∀ c ∈ [z, TO, i1, i2], c ∈ [z, TI, TO, i1, i2] := fun c hc => by simp at hc ⊢; rcases hc with rfl | rfl | rfl | rfl <;> simp
    refine wpAny_pyNext_zip_end (I.ok.hd hc) D hz hTI hTO h1 h2 ⟨_, e, rfl, n, rfl⟩ ⟨_, e2, rfl, n2, rfl⟩ ?_ fun h' hk => ⟨rfl, ?_⟩
    · rcases hx with q | q
      · left; simp; omega
      · right; simp; omega
    · exact I.turnedCh (t' := s.toks) (ch := [z, TO, i1, i2]) (fun c o hc q => hk c o (fun x => hc (by simp [x])) (fun x => hc (by simp [x])) (fun x => hc (by simp [x])) (fun x => hc (by simp [x])) q) fun c hc => hf c (sub c hc)
  · intro A i s Q E st h
    exact wpAny_pyIter_zip st.1 h
section
variable {X : Cx}
def iZip (ta : TA) : TI := fun σ H R => ta σ H fun vs H1 => ∃ a b xs ys, vs = [.ref a, .ref b] ∧ H1 a = some (.lst xs) ∧ H1 b = some (.lst ys) ∧ R (Itz a b) H1
theorem pi_zip {a b : Expr} {ta : TA} {p pos : Pos} {elts : List Expr} {k : Nat} {tpos : Pos} (hg : Gl X "zip") (hm : X.mg "zip" = none) (ha : PA X [a, b] ta) (hs : starEach [a, b] X.env = [(false, eval a X.env), (false, eval b X.env)] := by rfl) (hs2 : starEach [b] X.env = [(false, eval b X.env)] := by rfl) :
    PI X (.Tuple elts k tpos) (.Call (.Name "zip" p) [a, b] [] pos) (iZip ta) := by
  intro pins s σ H R I h
  refine Call_ (ld_blt I hg hm boot_zip (PyProof.Rows.callWith_type1 (thn (ha pos pins s σ H _ I h) fun us s1 ⟨vs, H1, I1, r1, q1⟩ => ?_) (by rw [hs, hs2]) (by rw [hs2]; rfl)))
  obtain ⟨l, l2, xs, ys, e, hx, hy, q⟩ := q1
  subst e
  cases r1 with
  | cons r rr =>
    cases rr with
    | cons r' rr =>
      cases rr
      cases r
      cases r'
      obtain ⟨_, its, n, rv, hl, e⟩ := I1.lstM hx
      obtain ⟨_, its2, n2, rv2, hl2, e2⟩ := I1.lstM hy
      refine call_zip_2 ⟨_, e, rfl, n, rfl⟩ ⟨_, e2, rfl, n2, rfl⟩ fun h' z1 z2 z3 z4 z5 hsz hk => ?_
      refine wpAny_pyIter_zip z1 ?_
      have I2 : Inv X pins σ H1 { s1 with heap := h' } := I1.kept (t' := s1.toks) hk
      refine ⟨s1.heap.objs.size + 4, [s1.heap.objs.size + 4, s1.heap.objs.size + 2, s1.heap.objs.size + 3, s1.heap.objs.size, s1.heap.objs.size + 1], _, _, H1, rfl, I2, turn_zip l l2 _ _ _ _ _ (by simp), ⟨z1, z2, ⟨_, _, z3⟩, z4, z5⟩, fun c hc => ?_, q⟩
      have hc' : s1.heap.objs.size ≤ c := by
        simp only [List.mem_cons, List.not_mem_nil, or_false] at hc
        rcases hc with rfl | rfl | rfl | rfl | rfl <;> omega
      exact I1.fpOk hc' (I1.hok.fresh hc')
end
theorem for_zip {a b : Addr} {xs ys : List V} {g : TG} {tb : TS} {D : Ends} {σ : St} {H : Hp} (Pv : Nat → St → Hp → Prop) (hlen : xs.length = ys.length) (h0 : Pv 0 σ H) (hl : ∀ i σ H, i ≤ xs.length → Pv i σ H → H a = some (.lst xs) ∧ H b = some (.lst ys))
    (hs : ∀ (i : Nat) x y σ H T, xs[i]? = some x → ys[i]? = some y → Pv i σ H → H T = none → g (.ref T) σ (upd H T (.tup [x, y])) fun σ2 H2 => tb { D with nx := Pv (i + 1), ct := Pv (i + 1), bk := D.nx } σ2 H2) (hd : ∀ σ H, Pv xs.length σ H → D.nx σ H) :
    ∃ W : Nat → Nat → St → Hp → Prop, (∃ m, W 0 m σ H) ∧ ∀ i m σ H, W i m σ H →
      ((Itz a b).stop i H ∧ D.nx σ H) ∨ ((Itz a b).go i H ∧ ∃ N : St → Hp → Prop, (∀ σ' H', N σ' H' → ∃ m', m' < m ∧ W (i + 1) m' σ' H') ∧ ∀ x H', (Itz a b).yld i H x H' → g x σ H' fun σ2 H2 => tb { D with nx := N, ct := N, bk := D.nx } σ2 H2) := by
  refine ⟨fun i m σ H => m = xs.length - i ∧ i ≤ xs.length ∧ Pv i σ H, ⟨xs.length, by simp, Nat.zero_le _, h0⟩, ?_⟩
  rintro i m σ H ⟨rfl, hi, p⟩
  obtain ⟨q1, q2⟩ := hl i σ H hi p
  by_cases hlt : i < xs.length
  · refine .inr ⟨⟨xs, ys, xs[i], ys[i]'(by omega), q1, q2, by simp [hlt], by rw [List.getElem?_eq_getElem (by omega)]⟩, Pv (i + 1), fun σ' H' p' => ⟨xs.length - (i + 1), by omega, rfl, hlt, p'⟩, fun x H' y => ?_⟩
    obtain ⟨T, x', y', rfl, hT, rfl, y1, y2⟩ := y
    exact hs i x' y' σ _ T (y1 xs q1) (y2 ys q2) p hT
  · have e : i = xs.length := by omega
    subst e
    exact .inl ⟨⟨xs, ys, q1, q2, .inl (Nat.le_refl _)⟩, hd σ H p⟩
end L2

namespace L2
open PySem PySem.Spec PyProof.Rows
end L2

namespace L2
open PySem PyProof.Rows
theorem eqv_ints_iff : ∀ xs ys : List Int, PyData.eqvAll (xs.map PyData.int) (ys.map PyData.int) = decide (xs = ys)
  | [], [] => rfl
  | [], _ :: _ => rfl
  | _ :: _, [] => rfl
  | x :: xs, y :: ys => by
    simp only [List.map_cons, PyData.eqvAll, eqv_ints_iff xs ys, PyData.eqv]
    by_cases h : x = y
    · subst h; simp
    · simp [h]
theorem eqv_intsL (xs ys : List Int) : PyData.eqv (.list (xs.map PyData.int)) (.list (ys.map PyData.int)) = decide (xs = ys) := by
  rw [PyData.eqv, eqv_ints_iff]
end L2

namespace AW
abbrev Ts := List (Int × Int)
abbrev Os := List (List Int)
def plc (ts : Ts) (e : Nat) : Int := ((ts[e / 2]?).map fun t => if e % 2 = 0 then t.1 else t.2).getD (-1)
def InW (m : Int) (ts : Ts) : Prop := ∀ t ∈ ts, (0 ≤ t.1 ∧ t.1 < m) ∧ 0 ≤ t.2 ∧ t.2 < m
def all2 (ts : Ts) : List Int := (List.range (2 * ts.length)).map fun n : Nat => (n : Int)
def endsAt (ts : Ts) (p : Int) : List Int := (all2 ts).filter fun e => plc ts e.toNat == p
inductive Rch (ts : Ts) : Int → Prop
  | zero : Rch ts 0
  | fwd {t : Int × Int} : t ∈ ts → Rch ts t.1 → Rch ts t.2
  | bwd {t : Int × Int} : t ∈ ts → Rch ts t.2 → Rch ts t.1
def Whole (m : Int) (ts : Ts) : Prop := ∀ p : Int, 0 ≤ p → p < m → Rch ts p
def Fit (ts : Ts) (os : Os) : Prop := ∀ (i : Nat) (o : List Int), os[i]? = some o → o.length ≤ 4 ∧ o.Perm (endsAt ts i)
def Sized (m : Int) (ts : Ts) : Prop := (1 ≤ m ∧ m ≤ 200) ∧ 1 ≤ ts.length ∧ ts.length ≤ 400
def IsMap (m : Int) (ts : Ts) (os : Os) : Prop := Sized m ts ∧ InW m ts ∧ (os.length : Int) = m ∧ Fit ts os ∧ Whole m ts

theorem mem_all2 {ts : Ts} {e : Int} : e ∈ all2 ts ↔ 0 ≤ e ∧ e < 2 * ts.length := by
  unfold all2
  rw [List.mem_map]
  constructor
  · rintro ⟨n, hn, rfl⟩
    have := List.mem_range.mp hn
    omega
  · rintro ⟨h0, h1⟩
    exact ⟨e.toNat, List.mem_range.mpr (by omega), by omega⟩
theorem nodup_map {α β : Type} {f : α → β} (hf : ∀ a b, f a = f b → a = b) : ∀ {l : List α}, l.Nodup → (l.map f).Nodup
  | [], _ => List.nodup_nil
  | a :: l, h => by
    obtain ⟨h1, h2⟩ := List.nodup_cons.mp h
    rw [List.map_cons, List.nodup_cons]
    refine ⟨fun q => ?_, nodup_map hf h2⟩
    obtain ⟨b, hb, e⟩ := List.mem_map.mp q
    exact h1 (hf _ _ e ▸ hb)
theorem sorted_eq {l l' : List Int} (p : l.Perm l') (h : l.Pairwise (· ≤ ·)) (h' : l'.Pairwise (· ≤ ·)) : l = l' :=
  p.eq_of_pairwise (fun a b _ _ h1 h2 => Int.le_antisymm h1 h2) h h'
theorem up_all2 (ts : Ts) : (all2 ts).Pairwise (· ≤ ·) := by
  unfold all2
  rw [List.pairwise_map]
  exact List.pairwise_lt_range.imp fun h => by omega
theorem up_endsAt (ts : Ts) (p : Int) : (endsAt ts p).Pairwise (· ≤ ·) := (up_all2 ts).filter _

theorem plc_old {ts : Ts} {t : Int × Int} {e : Nat} (h : e < 2 * ts.length) : plc (ts ++ [t]) e = plc ts e := by
  unfold plc
  rw [List.getElem?_append_left (by omega)]
theorem plc_new0 (ts : Ts) (t : Int × Int) : plc (ts ++ [t]) (2 * ts.length) = t.1 := by
  unfold plc
  rw [show 2 * ts.length / 2 = ts.length by omega, List.getElem?_concat_length]
  show (if 2 * ts.length % 2 = 0 then t.1 else t.2) = t.1
  rw [if_pos (by omega)]
theorem plc_new1 (ts : Ts) (t : Int × Int) : plc (ts ++ [t]) (2 * ts.length + 1) = t.2 := by
  unfold plc
  rw [show (2 * ts.length + 1) / 2 = ts.length by omega, List.getElem?_concat_length]
  show (if (2 * ts.length + 1) % 2 = 0 then t.1 else t.2) = t.2
  rw [if_neg (by omega)]
theorem all2_snoc (ts : Ts) (t : Int × Int) : all2 (ts ++ [t]) = all2 ts ++ [(2 * ts.length : Int), 2 * ts.length + 1] := by
  unfold all2
  rw [List.length_append, show 2 * (ts.length + [t].length) = 2 * ts.length + 1 + 1 by simp; omega, List.range_succ, List.range_succ]
  simp
theorem endsAt_snoc (ts : Ts) (t : Int × Int) (p : Int) : endsAt (ts ++ [t]) p = endsAt ts p ++ ((if t.1 = p then [(2 * ts.length : Int)] else []) ++ if t.2 = p then [(2 * ts.length + 1 : Int)] else []) := by
  unfold endsAt
  rw [all2_snoc, List.filter_append]
  congr 1
  · refine List.filter_congr fun e he => ?_
    obtain ⟨h0, h1⟩ := mem_all2.mp he
    rw [plc_old (by omega)]
  · have e0 : plc (ts ++ [t]) (2 * (ts.length : Int)).toNat = t.1 := by rw [show (2 * (ts.length : Int)).toNat = 2 * ts.length by omega, plc_new0]
    have e1 : plc (ts ++ [t]) (2 * (ts.length : Int) + 1).toNat = t.2 := by rw [show (2 * (ts.length : Int) + 1).toNat = 2 * ts.length + 1 by omega, plc_new1]
    simp only [List.filter_cons, List.filter_nil, e0, e1, beq_iff_eq]
    by_cases h1 : t.1 = p <;> by_cases h2 : t.2 = p <;> simp [h1, h2]

def nb (t : Int × Int) (p : Int) : List Int := (if t.1 = p then [t.2] else []) ++ if t.2 = p then [t.1] else []
def nbs (ts : Ts) (p : Int) : List Int := ts.flatMap fun t => nb t p
theorem nbs_snoc (ts : Ts) (t : Int × Int) (p : Int) : nbs (ts ++ [t]) p = nbs ts p ++ nb t p := by
  unfold nbs
  rw [List.flatMap_append]
  simp
theorem mem_nbs {ts : Ts} {p q : Int} : q ∈ nbs ts p ↔ ∃ t ∈ ts, (t.1 = p ∧ t.2 = q) ∨ (t.2 = p ∧ t.1 = q) := by
  unfold nbs nb
  rw [List.mem_flatMap]
  constructor
  · rintro ⟨t, ht, h⟩
    refine ⟨t, ht, ?_⟩
    rcases List.mem_append.mp h with h | h
    · split at h
      · exact .inl ⟨by assumption, (List.mem_singleton.mp h).symm⟩
      · cases h
    · split at h
      · exact .inr ⟨by assumption, (List.mem_singleton.mp h).symm⟩
      · cases h
  · rintro ⟨t, ht, ⟨h1, h2⟩ | ⟨h1, h2⟩⟩
    · exact ⟨t, ht, List.mem_append_left _ (by rw [if_pos h1, h2]; simp)⟩
    · exact ⟨t, ht, List.mem_append_right _ (by rw [if_pos h1, h2]; simp)⟩
theorem Rch.step {ts : Ts} {p q : Int} (h : Rch ts p) (hq : q ∈ nbs ts p) : Rch ts q := by
  obtain ⟨t, ht, ⟨rfl, rfl⟩ | ⟨rfl, rfl⟩⟩ := mem_nbs.mp hq
  · exact h.fwd ht
  · exact h.bwd ht
theorem nbs_in {m : Int} {ts : Ts} (h : InW m ts) {p q : Int} (hq : q ∈ nbs ts p) : 0 ≤ q ∧ q < m := by
  obtain ⟨t, ht, ⟨rfl, rfl⟩ | ⟨rfl, rfl⟩⟩ := mem_nbs.mp hq
  · exact (h t ht).2
  · exact (h t ht).1
theorem Rch.within {ts : Ts} {S : Int → Prop} (h0 : S 0) (hs : ∀ p, S p → ∀ q ∈ nbs ts p, S q) {p : Int} (h : Rch ts p) : S p := by
  induction h with
  | zero => exact h0
  | fwd ht _ ih => exact hs _ ih _ (mem_nbs.mpr ⟨_, ht, .inl ⟨rfl, rfl⟩⟩)
  | bwd ht _ ih => exact hs _ ih _ (mem_nbs.mpr ⟨_, ht, .inr ⟨rfl, rfl⟩⟩)
end AW

namespace AW
structure Srch (m : Nat) (ts : Ts) (R : List Bool) (W : List Int) : Prop where
  len : R.length = m
  zero : R[0]? = some true
  ok : ∀ p : Nat, R[p]? = some true → Rch ts p
  win : ∀ p ∈ W, ∃ n : Nat, p = n ∧ R[n]? = some true
  cl : ∀ p : Nat, R[p]? = some true → (p : Int) ∈ W ∨ ∀ q ∈ nbs ts p, R[q.toNat]? = some true
structure SrchI (m : Nat) (ts : Ts) (R : List Bool) (W : List Int) (p0 k : Nat) : Prop where
  len : R.length = m
  zero : R[0]? = some true
  ok : ∀ p : Nat, R[p]? = some true → Rch ts p
  win : ∀ p ∈ W, ∃ n : Nat, p = n ∧ R[n]? = some true
  own : R[p0]? = some true
  cl : ∀ p : Nat, R[p]? = some true → (p : Int) ∈ W ∨ (p = p0 ∧ ∀ (j : Nat) q, j < k → (nbs ts p0)[j]? = some q → R[q.toNat]? = some true) ∨ ∀ q ∈ nbs ts p, R[q.toNat]? = some true
theorem Srch.start {m : Nat} {ts : Ts} (h : 0 < m) : Srch m ts ((List.range m).map fun p => decide (p = 0)) [0] where
  len := by simp
  zero := by simp [h]
  ok := fun p hp => by
    rw [List.getElem?_map] at hp
    cases e : (List.range m)[p]? with
    | none => rw [e] at hp; cases hp
    | some n =>
      obtain ⟨hn, rfl⟩ := List.getElem?_eq_some_iff.mp e
      rw [e] at hp
      simp at hp
      subst hp
      exact .zero
  win := fun p hp => ⟨0, by simpa using hp, by simp [h]⟩
  cl := fun p hp => by
    rw [List.getElem?_map] at hp
    cases e : (List.range m)[p]? with
    | none => rw [e] at hp; cases hp
    | some n =>
      obtain ⟨hn, rfl⟩ := List.getElem?_eq_some_iff.mp e
      rw [e] at hp
      simp at hp
      subst hp
      exact .inl (by simp)
theorem Srch.done {m : Nat} {ts : Ts} {R : List Bool} (hin : InW m ts) (h : Srch m ts R []) : R.all id = true ↔ Whole m ts := by
  rw [List.all_eq_true]
  constructor
  · intro ha p h0 h1
    obtain ⟨n, rfl⟩ := Int.eq_ofNat_of_zero_le h0
    have hn : n < R.length := by rw [h.len]; omega
    refine h.ok n ?_
    rw [List.getElem?_eq_getElem hn]
    have := ha _ (List.getElem_mem hn)
    exact congrArg some this
  · intro hw b hb
    obtain ⟨n, hn, rfl⟩ := List.mem_iff_getElem.mp hb
    have hr : Rch ts (n : Int) := hw n (by omega) (by rw [h.len] at hn; omega)
    have e := (hr.within (S := fun p => 0 ≤ p ∧ R[p.toNat]? = some true) ⟨Int.le_refl _, h.zero⟩ fun p hp q hq => by
      obtain ⟨k, rfl⟩ := Int.eq_ofNat_of_zero_le hp.1
      refine ⟨(nbs_in hin hq).1, ?_⟩
      rcases h.cl k (by simpa using hp.2) with z | z
      · cases z
      · exact z q hq).2
    rw [show (n : Int).toNat = n by omega, List.getElem?_eq_getElem hn] at e
    exact Option.some.inj e
theorem SrchI.start {m : Nat} {ts : Ts} {R : List Bool} {W : List Int} {p0 : Nat} (h : Srch m ts R (W ++ [(p0 : Int)])) : SrchI m ts R W p0 0 where
  len := h.len
  zero := h.zero
  ok := h.ok
  win := fun p hp => h.win p (List.mem_append_left _ hp)
  own := by
    obtain ⟨n, e, hn⟩ := h.win (p0 : Int) (by simp)
    have : n = p0 := by omega
    exact this ▸ hn
  cl := fun p hp => by
    rcases h.cl p hp with z | z
    · rcases List.mem_append.mp z with z | z
      · exact .inl z
      · have : p = p0 := by have := List.mem_singleton.mp z; omega
        exact .inr (.inl ⟨this, fun j q hj => absurd hj (Nat.not_lt_zero _)⟩)
    · exact .inr (.inr z)
theorem SrchI.skip {m : Nat} {ts : Ts} {R : List Bool} {W : List Int} {p0 k : Nat} {q : Int} (h : SrchI m ts R W p0 k) (hq : (nbs ts p0)[k]? = some q) (hr : R[q.toNat]? = some true) : SrchI m ts R W p0 (k + 1) where
  len := h.len
  zero := h.zero
  ok := h.ok
  win := h.win
  own := h.own
  cl := fun p hp => by
    rcases h.cl p hp with z | ⟨z1, z2⟩ | z
    · exact .inl z
    · refine .inr (.inl ⟨z1, fun j q' hj hq' => ?_⟩)
      by_cases hjk : j < k
      · exact z2 j q' hjk hq'
      · have : j = k := by omega
        subst this
        rw [hq] at hq'
        cases hq'
        exact hr
    · exact .inr (.inr z)
theorem set_true {R : List Bool} {i j : Nat} (hi : i < R.length) : (R.set i true)[j]? = some true ↔ j = i ∨ R[j]? = some true := by
  by_cases e : i = j
  · subst e
    rw [List.getElem?_set_self hi]
    simp
  · rw [List.getElem?_set_ne e]
    constructor
    · exact .inr
    · rintro (z | z)
      · exact absurd z.symm e
      · exact z
theorem SrchI.reach {m : Nat} {ts : Ts} {R : List Bool} {W : List Int} {p0 k q : Nat} (h : SrchI m ts R W p0 k) (hq : (nbs ts p0)[k]? = some (q : Int)) (hm : q < m) : SrchI m ts (R.set q true) (W ++ [(q : Int)]) p0 (k + 1) := by
  have hl : q < R.length := by rw [h.len]; exact hm
  have up : ∀ j : Nat, R[j]? = some true → (R.set q true)[j]? = some true := fun j hj => (set_true hl).mpr (.inr hj)
  have hrq : Rch ts q := (h.ok p0 h.own).step (List.mem_of_getElem? hq)
  refine ⟨by rw [List.length_set]; exact h.len, up 0 h.zero, fun p hp => ?_, fun p hp => ?_, up _ h.own, fun p hp => ?_⟩
  · rcases (set_true hl).mp hp with rfl | hp
    · exact hrq
    · exact h.ok p hp
  · rcases List.mem_append.mp hp with z | z
    · obtain ⟨n, e, hn⟩ := h.win p z
      exact ⟨n, e, up n hn⟩
    · exact ⟨q, List.mem_singleton.mp z, (set_true hl).mpr (.inl rfl)⟩
  · rcases (set_true hl).mp hp with rfl | hp
    · exact .inl (by simp)
    · rcases h.cl p hp with z | ⟨z1, z2⟩ | z
      · exact .inl (List.mem_append_left _ z)
      · refine .inr (.inl ⟨z1, fun j q' hj hq' => ?_⟩)
        by_cases hjk : j < k
        · exact up _ (z2 j q' hjk hq')
        · have : j = k := by omega
          subst this
          rw [hq] at hq'
          cases hq'
          exact (set_true hl).mpr (.inl (by omega))
      · exact .inr (.inr fun q' hq' => up _ (z q' hq'))
theorem SrchI.finish {m : Nat} {ts : Ts} {R : List Bool} {W : List Int} {p0 k : Nat} (h : SrchI m ts R W p0 k) (hk : (nbs ts p0).length ≤ k) : Srch m ts R W where
  len := h.len
  zero := h.zero
  ok := h.ok
  win := h.win
  cl := fun p hp => by
    rcases h.cl p hp with z | ⟨rfl, z2⟩ | z
    · exact .inl z
    · refine .inr fun q hq => ?_
      obtain ⟨j, hj, e⟩ := List.mem_iff_getElem.mp hq
      exact z2 j q (by omega) (by rw [List.getElem?_eq_getElem hj, e])
    · exact .inr z
def falses (R : List Bool) : Nat := (R.filter (! ·)).length
theorem falses_set : ∀ {R : List Bool} {i : Nat}, R[i]? = some false → falses (R.set i true) + 1 = falses R
  | [], _, h => by simp at h
  | b :: R, 0, h => by
    have e : b = false := by simpa using h
    subst e
    simp [falses]
  | b :: R, i + 1, h => by
    have h' : R[i]? = some false := by simpa using h
    have ih := falses_set h'
    unfold falses at ih ⊢
    rw [List.set_cons_succ]
    cases b <;> simp <;> omega
end AW

namespace AW
theorem nodup_sub : ∀ (l m : List Int), l.Nodup → (∀ x ∈ l, x ∈ m) → l.length ≤ m.length
  | [], _, _, _ => Nat.zero_le _
  | x :: l, m, nd, h => by
    have h1 := List.nodup_cons.mp nd
    have ih := nodup_sub l (m.erase x) h1.2 fun y hy => (List.mem_erase_of_ne (fun z => h1.1 (by rw [← z]; exact hy))).mpr (h y (List.mem_cons_of_mem _ hy))
    have hx := List.length_erase_of_mem (h x List.mem_cons_self)
    have : 0 < m.length := List.length_pos_of_mem (h x List.mem_cons_self)
    simp only [List.length_cons]
    omega
def upTo (m : Nat) : List Int := (List.range m).map fun n : Nat => (n : Int)
theorem mem_upTo {m : Nat} {p : Int} : p ∈ upTo m ↔ 0 ≤ p ∧ p < m := by
  unfold upTo
  rw [List.mem_map]
  constructor
  · rintro ⟨n, hn, rfl⟩
    have := List.mem_range.mp hn
    omega
  · rintro ⟨h0, h1⟩
    exact ⟨p.toNat, List.mem_range.mpr (by omega), by omega⟩
theorem nodup_upTo (m : Nat) : (upTo m).Nodup := nodup_map (fun a b h => by omega) List.nodup_range
theorem len_upTo (m : Nat) : (upTo m).length = m := by simp [upTo]

structure Come (m : Nat) (ts : Ts) (C : List Int) : Prop where
  nd : C.Nodup
  zero : 0 ∈ C
  win : ∀ p ∈ C, 0 ≤ p ∧ p < m
  ok : ∀ p ∈ C, Rch ts p
def Closed (ts : Ts) (C : List Int) : Prop := ∀ t ∈ ts, t.1 ∈ C ↔ t.2 ∈ C
theorem Come.le {m : Nat} {ts : Ts} {C : List Int} (h : Come m ts C) : C.length ≤ m := by
  have := nodup_sub C (upTo m) h.nd fun p hp => mem_upTo.mpr (h.win p hp)
  rwa [len_upTo] at this
theorem Come.whole {m : Nat} {ts : Ts} {C : List Int} (h : Come m ts C) (e : C.length = m) : Whole m ts := fun p h0 h1 => by
  by_cases hp : p ∈ C
  · exact h.ok p hp
  · have := nodup_sub (p :: C) (upTo m) (List.nodup_cons.mpr ⟨hp, h.nd⟩) fun q hq => by
      rcases List.mem_cons.mp hq with rfl | hq
      · exact mem_upTo.mpr ⟨h0, h1⟩
      · exact mem_upTo.mpr (h.win q hq)
    rw [len_upTo, List.length_cons] at this
    omega
theorem Come.full {m : Nat} {ts : Ts} {C : List Int} (h : Come m ts C) (c : Closed ts C) (w : Whole m ts) : C.length = m := by
  refine Nat.le_antisymm h.le ?_
  have := nodup_sub (upTo m) C (nodup_upTo m) fun p hp => by
    obtain ⟨h0, h1⟩ := mem_upTo.mp hp
    refine (w p h0 h1).within (S := fun p => p ∈ C) h.zero fun p hp q hq => ?_
    obtain ⟨t, ht, ⟨rfl, rfl⟩ | ⟨rfl, rfl⟩⟩ := mem_nbs.mp hq
    · exact (c t ht).mp hp
    · exact (c t ht).mpr hp
  rwa [len_upTo] at this
theorem Come.start {m : Nat} {ts : Ts} (h : 0 < m) : Come m ts [0] := ⟨by simp, by simp, fun p hp => by have := List.mem_singleton.mp hp; omega, fun p hp => by rw [List.mem_singleton.mp hp]; exact .zero⟩
theorem Come.add {m : Nat} {ts : Ts} {C : List Int} (h : Come m ts C) {p q : Int} (hp : p ∈ C) (hq : q ∉ C) (hn : q ∈ nbs ts p) (hw : InW m ts) : Come m ts (C ++ [q]) where
  nd := by
    rw [List.nodup_append]
    exact ⟨h.nd, by simp, fun a ha b hb z => by rw [List.mem_singleton.mp hb] at z; exact hq (z ▸ ha)⟩
  zero := List.mem_append_left _ h.zero
  win := fun x hx => by
    rcases List.mem_append.mp hx with z | z
    · exact h.win x z
    · rw [List.mem_singleton.mp z]; exact nbs_in hw hn
  ok := fun x hx => by
    rcases List.mem_append.mp hx with z | z
    · exact h.ok x z
    · rw [List.mem_singleton.mp z]; exact (h.ok p hp).step hn
def Pass (m : Nat) (ts : Ts) (C0 C : List Int) (k : Nat) : Prop :=
  Come m ts C ∧ ((C = C0 ∧ ∀ (j : Nat) t, j < k → ts[j]? = some t → (t.1 ∈ C0 ↔ t.2 ∈ C0)) ∨ (¬ Closed ts C0 ∧ C0.length < C.length))
def half (C : List Int) (a b : Int) : List Int := if a ∈ C ∧ b ∉ C then C ++ [b] else C
theorem half_come {m : Nat} {ts : Ts} {C : List Int} (h : Come m ts C) (hw : InW m ts) {a b : Int} (hn : b ∈ nbs ts a) : Come m ts (half C a b) := by
  unfold half
  split
  · rename_i c; exact h.add c.1 c.2 hn hw
  · exact h
theorem half_len (C : List Int) (a b : Int) : C.length ≤ (half C a b).length := by
  unfold half
  split
  · simp
  · exact Nat.le_refl _
theorem Pass.next {m : Nat} {ts : Ts} {C0 C : List Int} {k : Nat} {t : Int × Int} (h : Pass m ts C0 C k) (hw : InW m ts) (ht : ts[k]? = some t) : Pass m ts C0 (half (half C t.1 t.2) t.2 t.1) (k + 1) := by
  have hm := List.mem_of_getElem? ht
  have n1 : t.2 ∈ nbs ts t.1 := mem_nbs.mpr ⟨t, hm, .inl ⟨rfl, rfl⟩⟩
  have n2 : t.1 ∈ nbs ts t.2 := mem_nbs.mpr ⟨t, hm, .inr ⟨rfl, rfl⟩⟩
  refine ⟨half_come (half_come h.1 hw n1) hw n2, ?_⟩
  rcases h.2 with ⟨rfl, hc⟩ | ⟨hn, hl⟩
  · by_cases c : t.1 ∈ C ↔ t.2 ∈ C
    · left
      have e1 : half C t.1 t.2 = C := by unfold half; rw [if_neg (fun z => z.2 (c.mp z.1))]
      have e2 : half C t.2 t.1 = C := by unfold half; rw [if_neg (fun z => z.2 (c.mpr z.1))]
      rw [e1, e2]
      refine ⟨rfl, fun j u hj hu => ?_⟩
      by_cases hjk : j < k
      · exact hc j u hjk hu
      · have : j = k := by omega
        subst this
        rw [ht] at hu
        cases hu
        exact c
    · right
      refine ⟨fun z => c (z t hm), ?_⟩
      by_cases c1 : t.1 ∈ C
      · have c2 : t.2 ∉ C := fun z => c ⟨fun _ => z, fun _ => c1⟩
        have e1 : half C t.1 t.2 = C ++ [t.2] := by unfold half; rw [if_pos ⟨c1, c2⟩]
        have := half_len (half C t.1 t.2) t.2 t.1
        rw [e1] at this ⊢
        simp at this ⊢
        omega
      · have c2 : t.2 ∈ C := Classical.byContradiction fun z => c ⟨fun y => absurd y c1, fun y => absurd y z⟩
        have e1 : half C t.1 t.2 = C := by unfold half; rw [if_neg (fun z => c1 z.1)]
        have e2 : half C t.2 t.1 = C ++ [t.1] := by unfold half; rw [if_pos ⟨c2, c1⟩]
        rw [e1, e2]
        simp
  · right
    exact ⟨hn, Nat.lt_of_lt_of_le hl (Nat.le_trans (half_len C t.1 t.2) (half_len _ _ _))⟩
def Passed (m : Nat) (ts : Ts) (C : List Int) (k : Nat) : Prop := Come m ts C ∧ (Closed ts C ∨ k + 1 ≤ C.length)
theorem Pass.done {m : Nat} {ts : Ts} {C0 C : List Int} {k : Nat} (h0 : Passed m ts C0 k) (h : Pass m ts C0 C ts.length) : Passed m ts C (k + 1) := by
  refine ⟨h.1, ?_⟩
  rcases h.2 with ⟨rfl, hc⟩ | ⟨hn, hl⟩
  · left
    intro t ht
    obtain ⟨j, hj, rfl⟩ := List.mem_iff_getElem.mp ht
    exact hc j _ hj (List.getElem?_eq_getElem hj)
  · right
    rcases h0.2 with z | z
    · exact absurd z hn
    · omega
end AW

namespace TX
open PySem PySem.NumText
theorem char_back : ∀ c < 58, 48 ≤ c → (Char.ofNat c).toNat = c := by decide
theorem map_back {cs : List Nat} (h : AllDigits cs) : (cs.map Char.ofNat).map Char.toNat = cs := by
  rw [List.map_map]
  refine (List.map_congr_left fun c hc => ?_).trans (List.map_id cs)
  have := h c hc
  exact char_back c (by omega) this.1
theorem digits_back {cs : List Nat} (h : AllDigits cs) (hn : cs ≠ []) : (Nat.toDigits 10 (digitsVal cs)).map Char.toNat = cs ↔ ¬ (cs.head? = some 48 ∧ cs ≠ [48]) := by
  rw [toDigits_all cs h]
  cases cs with
  | nil => exact absurd rfl hn
  | cons a l =>
    by_cases ha : a = 48
    · subst ha
      have e : (48 :: l).dropWhile (· == 48) = l.dropWhile (· == 48) := rfl
      rw [e]
      have hl : (l.dropWhile (· == 48)).length ≤ l.length := (List.dropWhile_sublist _).length_le
      cases hd : l.dropWhile (· == 48) with
      | nil =>
        show [48] = 48 :: l ↔ _
        constructor
        · intro z y; exact y.2 z.symm
        · intro z
          apply Classical.byContradiction
          intro y
          exact z ⟨rfl, fun q => y q.symm⟩
      | cons c r =>
        rw [hd] at hl
        constructor
        · intro z
          have := congrArg List.length z
          simp at this hl
          omega
        · intro z
          exfalso
          refine z ⟨rfl, fun q => ?_⟩
          have : l = [] := by injection q
          rw [this] at hd
          cases hd
    · have e : (a :: l).dropWhile (· == 48) = a :: l := by rw [List.dropWhile_cons, if_neg (by simpa using ha)]
      rw [e]
      show ((a :: l).map Char.ofNat).map Char.toNat = a :: l ↔ _
      rw [map_back h]
      simp [ha]
def strL (n : Int) : List Nat := (Str.ofString (toString n)).cps.toList
theorem strL_sT (n : Int) : Str.ofString (toString n) = sT (strL n) := (sT_toList _).symm
theorem strL_nat (m : Nat) : strL (m : Int) = (Nat.toDigits 10 m).map Char.toNat := PySem.W.KIN.signs_num m
theorem strL_neg {m : Nat} (h : 0 < m) : strL (-(m : Int)) = 45 :: strL (m : Int) := by
  unfold strL
  rw [PyProof.Rows.toString_neg (by omega), show (0 : Int) - -(m : Int) = (m : Int) by omega, PyProof.Rows.signs_ofString, PyProof.Rows.signs_ofString, String.toList_append, List.map_append]
  rfl
theorem strL_digits (m : Nat) : AllDigits (strL (m : Int)) ∧ strL (m : Int) ≠ [] := by
  rw [strL_nat]
  constructor
  · intro c hc
    obtain ⟨ch, hch, e⟩ := List.mem_map.mp hc
    have r := PyProof.Rows.digit_range (Nat.isDigit_of_mem_toDigits (by decide) (by decide) hch)
    rw [← e]
    exact r
  · intro e
    have h := PyProof.Rows.tDigits_len_ge 10 m
    rw [List.map_eq_nil_iff.mp e] at h
    exact absurd h (by decide)
def figs (w : List Nat) : List Nat := if w.head? = some 45 then w.drop 1 else w
def Fig (w : List Nat) : Prop := (1 ≤ (figs w).length ∧ (figs w).length ≤ 40) ∧ AllDigits (figs w)
def Can (w : List Nat) : Prop := ¬ ((figs w).head? = some 48 ∧ w ≠ [48])
def numV (w : List Nat) : Int := if w.head? = some 45 then -((digitsVal (figs w) : Nat) : Int) else ((digitsVal (figs w) : Nat) : Int)
noncomputable def num (w : List Nat) : Option Int := open Classical in if Fig w ∧ Can w then some (numV w) else none
theorem num_some {w : List Nat} (h : Fig w) (c : Can w) : num w = some (numV w) := if_pos ⟨h, c⟩
theorem num_none {w : List Nat} (h : ¬ (Fig w ∧ Can w)) : num w = none := if_neg h
theorem head_neg {w : List Nat} (h : w.head? = some 45) : w = 45 :: w.drop 1 := by
  cases w with
  | nil => cases h
  | cons a l => cases h; rfl
theorem figs_len (w : List Nat) : w.length ≤ (figs w).length + 1 := by
  unfold figs
  split
  · rw [List.length_drop]; omega
  · omega
theorem int_text {w : List Nat} (h : Fig w) : (sT w).length ≤ 640 ∧ intText? (sT w) = some (numV w) := by
  have hl := figs_len w
  have h40 := h.1.2
  refine ⟨by rw [sT_len]; omega, ?_⟩
  have ne : figs w ≠ [] := fun z => by have := h.1.1; rw [z] at this; exact absurd this (by decide)
  by_cases hn : w.head? = some 45
  · have e : figs w = w.drop 1 := if_pos hn
    rw [numV, if_pos hn, e]
    exact intText_neg (by rw [sT_list]; exact head_neg hn) (e ▸ h.2) (e ▸ ne) (by rw [sT_len]; omega)
  · have e : figs w = w := if_neg hn
    rw [numV, if_neg hn, e]
    have := intText_digits (x := sT w) (by rw [sT_list]; exact e ▸ h.2) (by rw [sT_list]; exact e ▸ ne) (by rw [sT_len]; omega)
    rw [sT_list] at this
    exact this
theorem str_back {w : List Nat} (h : Fig w) : strL (numV w) = w ↔ Can w := by
  have ne : figs w ≠ [] := fun z => by have := h.1.1; rw [z] at this; exact absurd this (by decide)
  have db := digits_back h.2 ne
  by_cases hn : w.head? = some 45
  · have e : figs w = w.drop 1 := if_pos hn
    have hw := head_neg hn
    rw [numV, if_pos hn]
    unfold Can
    have hne : w ≠ [48] := fun z => by rw [z] at hn; exact absurd hn (by decide)
    by_cases h0 : digitsVal (figs w) = 0
    · rw [h0]
      constructor
      · intro z
        exfalso
        have : strL (-((0 : Nat) : Int)) = [48] := (strL_nat 0).trans (by decide)
        exact hne (z ▸ this ▸ rfl)
      · intro z
        exfalso
        apply z
        refine ⟨?_, hne⟩
        rw [h0] at db
        have e0 : (Nat.toDigits 10 0).map Char.toNat = [48] := by decide
        rw [e0] at db
        apply Classical.byContradiction
        intro y
        have := db.mpr fun q => y q.1
        rw [← this] at y
        exact y rfl
    · rw [strL_neg (by omega), strL_nat]
      constructor
      · intro z y
        have z2 : (Nat.toDigits 10 (digitsVal (figs w))).map Char.toNat = figs w := by
          rw [hw] at z
          injection z with _ z
          rw [e]; rw [hw] at z ⊢; exact z
        have := db.mp z2
        apply this
        refine ⟨y.1, fun q => ?_⟩
        rw [q] at h0
        exact h0 (by decide)
      · intro z
        have := db.mpr fun q => z ⟨q.1, hne⟩
        rw [this, e]
        exact hw.symm
  · have e : figs w = w := if_neg hn
    rw [numV, if_neg hn, strL_nat]
    unfold Can
    rw [e] at db ⊢
    exact db
theorem num_str (n : Int) (h : n.natAbs < 10 ^ 40) : num (strL n) = some n := by
  have key : ∀ m : Nat, m < 10 ^ 40 → (strL (m : Int)).length ≤ 40 := fun m hm => by
    rw [strL_nat, List.length_map]
    exact PyProof.Rows.digits10_le (by decide) hm
  have dv : ∀ m : Nat, digitsVal (strL (m : Int)) = m := fun m => by rw [strL_nat]; exact PySem.W.KIN.val_back m
  have hd0 : ∀ m : Nat, (strL (m : Int)).head? ≠ some 45 := fun m z => by
    obtain ⟨h1, h2⟩ := strL_digits m
    rw [head_neg z] at h1
    have := h1.head
    omega
  have fg : ∀ m : Nat, m < 10 ^ 40 → 1 ≤ (strL (m : Int)).length := fun m hm => by
    have := (strL_digits m).2
    cases hq : strL (m : Int) with
    | nil => exact absurd hq this
    | cons a l => simp
  have main : Fig (strL n) ∧ numV (strL n) = n := by
    rcases Int.eq_nat_or_neg n with ⟨m, rfl | rfl⟩
    · have hm : m < 10 ^ 40 := by simpa using h
      have e : figs (strL (m : Int)) = strL m := if_neg (hd0 m)
      exact ⟨⟨⟨e.symm ▸ fg m hm, e.symm ▸ key m hm⟩, e.symm ▸ (strL_digits m).1⟩, by rw [numV, if_neg (hd0 m), e, dv]⟩
    · have hm : m < 10 ^ 40 := by simpa using h
      by_cases h0 : m = 0
      · subst h0
        have e : figs (strL ((0 : Nat) : Int)) = strL ((0 : Nat) : Int) := if_neg (hd0 0)
        exact ⟨⟨⟨e.symm ▸ fg 0 (by decide), e.symm ▸ key 0 (by decide)⟩, e.symm ▸ (strL_digits 0).1⟩, by show numV (strL ((0 : Nat) : Int)) = _; rw [numV, if_neg (hd0 0), e, dv]; rfl⟩
      · rw [strL_neg (by omega)]
        have e : figs (45 :: strL (m : Int)) = strL m := if_pos rfl
        exact ⟨⟨⟨e.symm ▸ fg m hm, e.symm ▸ key m hm⟩, e.symm ▸ (strL_digits m).1⟩, by rw [numV, if_pos (show (45 :: strL (m : Int)).head? = some 45 from rfl), e, dv]⟩
  have c := (str_back main.1).mp (by rw [main.2])
  rw [num_some main.1 c, main.2]
end TX
namespace TX
open PySem
theorem starts_dash (w : List Nat) : Txt.startswith (sT w) (Str.ofString "-") = decide (w.head? = some 45) := by
  have e : Str.ofString "-" = sT [45] := by decide +kernel
  rw [e]
  unfold Txt.startswith
  rw [StrLaws.subAt_eq, sT_len, sT_len, sT_list, sT_list]
  cases w with
  | nil => rfl
  | cons a l =>
    show (decide (0 + 1 ≤ l.length + 1) && ((a :: l).drop 0).take 1 == [45]) = _
    simp
    by_cases h : a = 45 <;> simp [h]
theorem in_figs (c : Nat) : (!(Builtin.Str.occurrences (Str.ofString "0123456789") (sT [c]) 0 (Str.ofString "0123456789").length 1).isEmpty) = decide (48 ≤ c ∧ c ≤ 57) := by
  have h := StrLaws.found_one (Str.ofString "0123456789") c
  have e : (Str.ofString "0123456789").cps.toList = [48, 49, 50, 51, 52, 53, 54, 55, 56, 57] := by decide +kernel
  rw [e] at h
  rw [show (sT [c]) = (⟨#[c]⟩ : Str) from rfl, h]
  congr 1
  simp only [List.mem_cons, List.not_mem_nil, or_false, eq_iff_iff]
  omega
end TX
namespace TX
open PySem PySem.NumText
theorem dval_lt : ∀ (cs : List Nat), AllDigits cs → ∀ a : Nat, cs.foldl (fun acc c => acc * 10 + (c - 48)) a < (a + 1) * 10 ^ cs.length
  | [], _, a => by simp
  | c :: cs, h, a => by
    have hc := h.head
    have ih := dval_lt cs h.tail (a * 10 + (c - 48))
    rw [List.foldl_cons, List.length_cons, Nat.pow_succ]
    have : (a * 10 + (c - 48) + 1) * 10 ^ cs.length ≤ ((a + 1) * 10) * 10 ^ cs.length := Nat.mul_le_mul_right _ (by omega)
    have e : (a + 1) * 10 * 10 ^ cs.length = (a + 1) * (10 ^ cs.length * 10) := by rw [Nat.mul_assoc, Nat.mul_comm 10]
    omega
theorem num_big {w : List Nat} (h : Fig w) : (numV w).natAbs.log2 < 1920 := by
  have h1 := dval_lt (figs w) h.2 0
  have h2 : 10 ^ (figs w).length ≤ 10 ^ 40 := Nat.pow_le_pow_right (by decide) h.1.2
  have h3 : (numV w).natAbs = digitsVal (figs w) := by unfold numV; split <;> omega
  rw [h3]
  by_cases h0 : digitsVal (figs w) = 0
  · rw [h0]; decide
  · rw [Nat.log2_lt h0]
    have h4 : digitsVal (figs w) < 10 ^ 40 := by
      have : digitsVal (figs w) < (0 + 1) * 10 ^ (figs w).length := h1
      omega
    exact Nat.lt_trans h4 (by decide)
noncomputable def endV (w : List Nat) : Option Int :=
  if w.getLast? = some 62 then (num w.dropLast).map fun n => 2 * n
  else if w.getLast? = some 60 then (num w.dropLast).map fun n => 2 * n + 1 else none
theorem find_nil : Txt.find (Str.ofString "><") (sT []) = 0 := by decide +kernel
theorem find_side (c : Nat) : Txt.find (Str.ofString "><") (sT [c]) = if c = 62 then 0 else if c = 60 then 1 else -1 := by
  by_cases h1 : c = 62
  · subst h1; decide +kernel
  by_cases h2 : c = 60
  · subst h2; decide +kernel
  rw [if_neg h1, if_neg h2]
  have h := StrLaws.found_one (Str.ofString "><") c
  have e : (Str.ofString "><").cps.toList = [62, 60] := by decide +kernel
  rw [e] at h
  have : decide (c ∈ ([62, 60] : List Nat)) = false := decide_eq_false (by simp [h1, h2])
  rw [this] at h
  unfold Txt.find
  rw [show sT [c] = (⟨#[c]⟩ : Str) from rfl]
  cases ho : Builtin.Str.occurrences (Str.ofString "><") ⟨#[c]⟩ 0 (Str.ofString "><").length 1 with
  | nil => rfl
  | cons i r => rw [ho] at h; cases h
theorem drop_last (w : List Nat) : w.drop (w.length - 1) = match w.getLast? with | some c => [c] | none => [] := by
  cases h : w.getLast? with
  | none => rw [List.getLast?_eq_none_iff.mp h]; rfl
  | some c =>
    obtain ⟨r, rfl⟩ := List.getLast?_eq_some_iff.mp h
    show (r ++ [c]).drop ((r ++ [c]).length - 1) = [c]
    simp
abbrev Wd := List Nat
abbrev Rw := List Wd
def kMap : Wd := [109, 97, 112]
def kTie : Wd := [116, 105, 101]
def kOrd : Wd := [111, 114, 100, 101, 114]
def rows (l : List Nat) : List Rw := (sp 10 l).map (sp 32)
def run (k : Wd) (W : List Rw) : List Rw := (W.takeWhile fun r => r.head? == some k).map (·.drop 1)
def r3 (p : Wd × Wd) : Rw := [kTie, p.1, p.2]
def rO (r : Rw) : Rw := kOrd :: r
def Good (W : List Rw) (m : Int) (ts : List (Int × Int)) (os : List (List Int)) : Prop :=
  ∃ (w : Wd) (T : List (Wd × Wd)) (O : List Rw), W = [kMap, w] :: (T.map r3 ++ O.map rO) ∧ num w = some m ∧ (O.length : Int) = m ∧ O ≠ [] ∧ T.map (fun p => (num p.1, num p.2)) = ts.map (fun t => (some t.1, some t.2)) ∧ O.map (·.map endV) = os.map (·.map some)
theorem some_inj {α : Type} : ∀ {a b : List α}, a.map some = b.map some → a = b
  | [], [], _ => rfl
  | [], _ :: _, h => by cases h
  | _ :: _, [], h => by cases h
  | a :: l, b :: r, h => by
    rw [List.map_cons, List.map_cons] at h
    injection h with h1 h2
    injection h1 with h1
    rw [h1, some_inj h2]
theorem takeW_app {α : Type} {p : α → Bool} : ∀ {a b : List α}, (∀ x ∈ a, p x = true) → (∀ x ∈ b.head?, p x = false) → (a ++ b).takeWhile p = a
  | [], [], _, _ => rfl
  | [], b :: l, _, h => by rw [List.nil_append, List.takeWhile_cons, if_neg (by rw [h b rfl]; exact Bool.false_ne_true)]
  | a :: l, b, h, h' => by rw [List.cons_append, List.takeWhile_cons, if_pos (h a List.mem_cons_self), takeW_app (fun x hx => h x (List.mem_cons_of_mem _ hx)) h']
theorem run_len (k : Wd) (W : List Rw) : (run k W).length ≤ W.length := by
  unfold run
  rw [List.length_map]
  exact (List.takeWhile_sublist _).length_le
theorem run_take (k : Wd) (W : List Rw) : W.take (run k W).length = (run k W).map (k :: ·) := by
  unfold run
  rw [List.length_map, List.map_map]
  induction W with
  | nil => rfl
  | cons r W ih =>
    by_cases h : (r.head? == some k) = true
    · rw [List.takeWhile_cons, if_pos h, List.length_cons, List.take_succ_cons, List.map_cons, ih]
      congr 1
      have := beq_iff_eq.mp h
      cases r with
      | nil => cases this
      | cons a l => cases this; rfl
    · rw [List.takeWhile_cons, if_neg h]; rfl
end TX

namespace TX
theorem len_two {α : Type} : ∀ {l : List α}, l.length = 2 → ∃ x y, l = [x, y]
  | [x, y], _ => ⟨x, y, rfl⟩
  | [], h => by cases h
  | [_], h => by cases h
  | _ :: _ :: _ :: _, h => by simp at h
theorem head_ord (O : List Rw) : ∀ x ∈ (O.map rO).head?, (x.head? == some kTie) = false := by
  intro x hx
  cases O with
  | nil => cases hx
  | cons r O => cases hx; rfl
theorem runs_of {W : List Rw} {w : Wd} {T : List (Wd × Wd)} {O : List Rw} (h : W = [kMap, w] :: (T.map r3 ++ O.map rO)) :
    run kMap W = [[w]] ∧ run kTie (W.drop 1) = T.map (fun p => [p.1, p.2]) ∧ run kOrd (W.drop (1 + T.length)) = O := by
  subst h
  refine ⟨?_, ?_, ?_⟩
  · unfold run
    rw [show [kMap, w] :: (T.map r3 ++ O.map rO) = [[kMap, w]] ++ (T.map r3 ++ O.map rO) from rfl, takeW_app]
    · rfl
    · intro x hx; rw [List.mem_singleton.mp hx]; rfl
    · intro x hx
      cases T with
      | nil =>
        cases O with
        | nil => cases hx
        | cons r O => cases hx; rfl
      | cons p T => cases hx; rfl
  · unfold run
    rw [List.drop_one, List.tail_cons, takeW_app]
    · rw [List.map_map]; rfl
    · intro x hx
      obtain ⟨p, _, rfl⟩ := List.mem_map.mp hx
      rfl
    · exact head_ord O
  · unfold run
    rw [Nat.add_comm, List.drop_succ_cons, List.drop_left' (by simp)]
    have := takeW_app (p := fun r : Rw => r.head? == some kOrd) (a := O.map rO) (b := []) (fun x hx => by obtain ⟨r, _, rfl⟩ := List.mem_map.mp hx; rfl) (fun x hx => by cases hx)
    rw [List.append_nil] at this
    rw [this, List.map_map]
    exact List.map_id O
theorem of_runs {W : List Rw} (h1 : (run kMap W).length = 1) (h3 : 1 + (run kTie (W.drop 1)).length + (run kOrd (W.drop (1 + (run kTie (W.drop 1)).length))).length = W.length) :
    ∃ b, run kMap W = [b] ∧ W = (kMap :: b) :: ((run kTie (W.drop 1)).map (kTie :: ·) ++ (run kOrd (W.drop (1 + (run kTie (W.drop 1)).length))).map (kOrd :: ·)) := by
  have e1 := run_take kMap W
  have e2 := run_take kTie (W.drop 1)
  have e3 := run_take kOrd (W.drop (1 + (run kTie (W.drop 1)).length))
  match hb : run kMap W, h1 with
  | [b], _ =>
    rw [hb] at e1
    refine ⟨b, rfl, ?_⟩
    rw [← e2, ← e3]
    have f1 : W.take 1 = [kMap :: b] := e1
    have f2 : W = W.take 1 ++ W.drop 1 := (List.take_append_drop 1 W).symm
    have f3 : W.drop 1 = (W.drop 1).take (run kTie (W.drop 1)).length ++ W.drop (1 + (run kTie (W.drop 1)).length) := by
      rw [← List.drop_drop]; exact (List.take_append_drop _ _).symm
    have f4 : (W.drop (1 + (run kTie (W.drop 1)).length)).take (run kOrd (W.drop (1 + (run kTie (W.drop 1)).length))).length = W.drop (1 + (run kTie (W.drop 1)).length) :=
      List.take_of_length_le (by rw [List.length_drop]; omega)
    rw [f4]
    have f5 : W = [kMap :: b] ++ ((W.drop 1).take (run kTie (W.drop 1)).length ++ W.drop (1 + (run kTie (W.drop 1)).length)) := by
      rw [← f3, ← f1]; exact f2
    exact f5
theorem good_of {W : List Rw} {b : Rw} {Tr Or : List Rw} (h : W = (kMap :: b) :: (Tr.map (kTie :: ·) ++ Or.map (kOrd :: ·))) {m : Int} (hb : b.map num = [some m]) (hm : (Or.length : Int) = m) (hO : Or ≠ []) {ts : List (Int × Int)} (ht : Tr.map (·.map num) = ts.map fun t => [some t.1, some t.2])
    {os : List (List Int)} (ho : Or.map (·.map endV) = os.map (·.map some)) : Good W m ts os := by
  obtain ⟨w, rfl⟩ := List.length_eq_one_iff.mp (show b.length = 1 by have := congrArg List.length hb; simpa using this)
  have hw : num w = some m := by injection hb
  have key : ∀ (Tr : List Rw) (ts : List (Int × Int)), Tr.map (·.map num) = (ts.map fun t => [some t.1, some t.2]) → ∃ T : List (Wd × Wd), Tr.map (kTie :: ·) = T.map r3 ∧ T.map (fun p => (num p.1, num p.2)) = ts.map fun t => (some t.1, some t.2) := by
    intro Tr
    induction Tr with
    | nil => intro ts h; cases ts with
      | nil => exact ⟨[], rfl, rfl⟩
      | cons t ts => cases h
    | cons r Tr ih =>
      intro ts h
      cases ts with
      | nil => cases h
      | cons t ts =>
        rw [List.map_cons, List.map_cons] at h
        injection h with h1 h2
        obtain ⟨T, q1, q2⟩ := ih ts h2
        obtain ⟨x, y, rfl⟩ := len_two (show r.length = 2 by have := congrArg List.length h1; simpa using this)
        injection h1 with a1 a2
        injection a2 with a2
        exact ⟨(x, y) :: T, by rw [List.map_cons, List.map_cons, q1]; rfl, by rw [List.map_cons, List.map_cons, q2, a1, a2]⟩
  obtain ⟨T, q1, q2⟩ := key Tr ts ht
  exact ⟨w, T, Or, by rw [h, q1]; rfl, hw, hm, hO, q2, ho⟩
structure Told (W : List Rw) (m : Int) (ts : List (Int × Int)) (os : List (List Int)) : Prop where
  b : ∃ w, run kMap W = [[w]] ∧ num w = some m
  t : (run kTie (W.drop 1)).map (·.map num) = ts.map fun t => [some t.1, some t.2]
  o : (run kOrd (W.drop (1 + (run kTie (W.drop 1)).length))).map (·.map endV) = os.map (·.map some)
  ne : run kOrd (W.drop (1 + (run kTie (W.drop 1)).length)) ≠ []
  n : ((run kOrd (W.drop (1 + (run kTie (W.drop 1)).length))).length : Int) = m
  l : 1 + (run kTie (W.drop 1)).length + (run kOrd (W.drop (1 + (run kTie (W.drop 1)).length))).length = W.length
theorem Good.told {W : List Rw} {m : Int} {ts : List (Int × Int)} {os : List (List Int)} (h : Good W m ts os) : Told W m ts os := by
  obtain ⟨w, T, O, e, h1, h2, h3, h4, h5⟩ := h
  obtain ⟨q1, q2, q3⟩ := runs_of e
  have tl : (run kTie (W.drop 1)).length = T.length := by rw [q2, List.length_map]
  have q4 : run kOrd (W.drop (1 + (run kTie (W.drop 1)).length)) = O := by rw [tl]; exact q3
  refine ⟨⟨w, q1, h1⟩, ?_, by rw [q4]; exact h5, by rw [q4]; exact h3, by rw [q4]; exact h2, ?_⟩
  · rw [q2, List.map_map]
    have := congrArg (List.map fun p : Option Int × Option Int => [p.1, p.2]) h4
    rw [List.map_map, List.map_map] at this
    exact this
  · rw [q4, tl, e]
    simp
    omega
theorem pairs_inj : ∀ {a b : List (Int × Int)}, (a.map fun t => [some t.1, some t.2]) = (b.map fun t => [some t.1, some t.2]) → a = b
  | [], [], _ => rfl
  | [], _ :: _, h => by cases h
  | _ :: _, [], h => by cases h
  | (x, y) :: l, (x', y') :: r, h => by
    rw [List.map_cons, List.map_cons] at h
    injection h with h1 h2
    injection h1 with a1 a2
    injection a2 with a2
    injection a1 with a1
    injection a2 with a2
    rw [pairs_inj h2]
    simp only at a1 a2
    rw [a1, a2]
theorem lists_inj : ∀ {a b : List (List Int)}, a.map (·.map some) = b.map (·.map some) → a = b
  | [], [], _ => rfl
  | [], _ :: _, h => by cases h
  | _ :: _, [], h => by cases h
  | x :: l, y :: r, h => by
    rw [List.map_cons, List.map_cons] at h
    injection h with h1 h2
    rw [some_inj h1, lists_inj h2]
theorem Good.one {W : List Rw} {m m' : Int} {ts ts' : List (Int × Int)} {os os' : List (List Int)} (h : Good W m ts os) (h' : Good W m' ts' os') : m = m' ∧ ts = ts' ∧ os = os' := by
  have a := h.told
  have b := h'.told
  exact ⟨a.n.symm.trans b.n, pairs_inj (a.t.symm.trans b.t), lists_inj (a.o.symm.trans b.o)⟩
end TX

namespace TX
theorem part_next {R : List Rw} {T T' : List (Wd × Wd)} {O O' : List Rw} {i : Nat} {r : Rw} (h' : R = T'.map r3 ++ O'.map rO) (h : R.take i = T.map r3 ++ O.map rO) (hr : R[i]? = some r) :
    (O = [] ∧ ∃ p, r = r3 p) ∨ ∃ q, r = rO q := by
  have hi : i < R.length := (List.getElem?_eq_some_iff.mp hr).1
  by_cases hT : i < T'.length
  · left
    rw [h', List.getElem?_append_left (by simpa using hT), List.getElem?_map, List.getElem?_eq_getElem hT] at hr
    refine ⟨?_, T'[i], (Option.some.inj hr).symm⟩
    apply Classical.byContradiction
    intro z
    obtain ⟨q, O2, rfl⟩ := List.exists_cons_of_ne_nil z
    have hm : rO q ∈ R.take i := by rw [h]; exact List.mem_append_right _ (List.mem_map_of_mem List.mem_cons_self)
    rw [h', List.take_append_of_le_length (by simp; omega)] at hm
    obtain ⟨p, _, e⟩ := List.mem_map.mp ((List.take_sublist _ _).subset hm)
    cases e
  · right
    rw [h', List.getElem?_append_right (by simp; omega), List.getElem?_map] at hr
    obtain ⟨q, _, e⟩ := Option.map_eq_some_iff.mp hr
    exact ⟨q, e.symm⟩
theorem parts_one {T T' : List (Wd × Wd)} {O O' : List Rw} (h : T.map r3 ++ O.map rO = T'.map r3 ++ O'.map rO) : T = T' ∧ O = O' := by
  have h1 := (runs_of (w := []) (T := T) (O := O) rfl)
  have h2 := (runs_of (w := []) (T := T') (O := O') rfl)
  rw [h] at h1
  have e := h1.2.1.symm.trans h2.2.1
  have e2 : T = T' := by
    have key : ∀ {a b : List (Wd × Wd)}, a.map (fun p => [p.1, p.2]) = b.map (fun p => [p.1, p.2]) → a = b := by
      intro a
      induction a with
      | nil => intro b hb; cases b with
        | nil => rfl
        | cons q b => cases hb
      | cons p a ih => intro b hb; cases b with
        | nil => cases hb
        | cons q b =>
          rw [List.map_cons, List.map_cons] at hb
          injection hb with x y
          injection x with x1 x2
          injection x2 with x2
          rw [ih y]
          exact congrArg (· :: b) (Prod.ext x1 x2)
    exact key e
  subst e2
  exact ⟨rfl, h1.2.2.symm.trans h2.2.2⟩
end TX

namespace TX
open PySem PySem.NumText
def endT (e : Int) : List Nat := strL (e / 2) ++ [if e % 2 = 0 then 62 else 60]
def rowM (m : Int) : List Nat := jn 32 [kMap, strL m]
def rowT (t : Int × Int) : List Nat := jn 32 [kTie, strL t.1, strL t.2]
def rowO (o : List Int) : List Nat := jn 32 (kOrd :: o.map endT)
def txt (m : Int) (ts : List (Int × Int)) (os : List (List Int)) : List Nat := jn 10 (rowM m :: (ts.map rowT ++ os.map rowO))
theorem jn_snoc (c : Nat) : ∀ {ps : List (List Nat)}, ps ≠ [] → ∀ p, jn c (ps ++ [p]) = jn c ps ++ c :: p
  | [], h, _ => absurd rfl h
  | [q], _, p => rfl
  | q :: r :: s, _, p => by
    rw [List.cons_append, jn_cons c q (by simp), jn_snoc c (by simp), jn_cons c q (by simp), List.append_assoc]
    rfl
def Sm (n : Int) : Prop := 0 ≤ n ∧ n < 100
theorem sm_chars {n : Int} (h : Sm n) : AllDigits (strL n) ∧ strL n ≠ [] ∧ (strL n).length ≤ 2 ∧ num (strL n) = some n ∧ n.natAbs.log2 < 1920 := by
  obtain ⟨m, rfl⟩ := Int.eq_ofNat_of_zero_le h.1
  have hm : m < 100 := by have := h.2; omega
  have d := strL_digits m
  refine ⟨d.1, d.2, ?_, num_str _ (by simp; omega), ?_⟩
  · rw [strL_nat, List.length_map]
    exact PyProof.Rows.digits10_le (by decide) (by omega)
  · show (m : Int).natAbs.log2 < 1920
    rw [Int.natAbs_natCast]
    by_cases h0 : m = 0
    · subst h0; decide
    · exact Nat.lt_of_le_of_lt (Nat.log2_le_self m) (by omega)
theorem sm_half {e : Int} (h : Sm e) : Sm (e / 2) := ⟨by have := h.1; omega, by have := h.2; have := h.1; omega⟩
def Clean (w : List Nat) : Prop := ∀ c ∈ w, 33 ≤ c ∧ c < 128
theorem clean_num {n : Int} (h : Sm n) : Clean (strL n) := fun c hc => by
  have := (sm_chars h).1 c hc
  omega
theorem clean_end {e : Int} (h : Sm e) : Clean (endT e) := fun c hc => by
  rcases List.mem_append.mp hc with h1 | h1
  · exact clean_num (sm_half h) c h1
  · rw [List.mem_singleton.mp h1]; split <;> omega
theorem end_len {e : Int} (h : Sm e) : (endT e).length ≤ 3 := by
  unfold endT
  rw [List.length_append, List.length_singleton]
  have := (sm_chars (sm_half h)).2.2.1
  omega
theorem end_back {e : Int} (h : Sm e) : endV (endT e) = some e := by
  have hl : (endT e).getLast? = some (if e % 2 = 0 then 62 else 60) := by unfold endT; simp
  have hd : (endT e).dropLast = strL (e / 2) := by unfold endT; simp
  unfold endV
  rw [hl, hd, (sm_chars (sm_half h)).2.2.2.1]
  by_cases h2 : e % 2 = 0
  · rw [if_pos h2, if_pos rfl, Option.map_some]; congr 1; omega
  · rw [if_neg h2, if_neg (by decide), if_pos rfl, Option.map_some]; congr 1; omega
theorem clean_map : Clean kMap := by unfold Clean kMap; decide
theorem clean_tie : Clean kTie := by unfold Clean kTie; decide
theorem clean_ord : Clean kOrd := by unfold Clean kOrd; decide
theorem Clean.no32 {w : List Nat} (h : Clean w) : 32 ∉ w := fun z => by have := h 32 z; omega
theorem Clean.no10 {w : List Nat} (h : Clean w) : 10 ∉ w := fun z => by have := h 10 z; omega
theorem mem_jn {c d : Nat} : ∀ {ps : List (List Nat)}, d ∈ jn c ps → d = c ∨ ∃ p ∈ ps, d ∈ p
  | [], h => by cases h
  | [p], h => .inr ⟨p, List.mem_cons_self, h⟩
  | p :: q :: r, h => by
    rw [jn_cons c p (by simp)] at h
    rcases List.mem_append.mp h with h | h
    · exact .inr ⟨p, List.mem_cons_self, h⟩
    · rcases List.mem_cons.mp h with h | h
      · exact .inl h
      · rcases mem_jn h with h | ⟨x, h1, h2⟩
        · exact .inl h
        · exact .inr ⟨x, List.mem_cons_of_mem _ h1, h2⟩
theorem row_back {ws : List (List Nat)} (hne : ws ≠ []) (h : ∀ x ∈ ws, Clean x) : sp 32 (jn 32 ws) = ws ∧ 10 ∉ jn 32 ws ∧ ∀ c ∈ jn 32 ws, c < 128 := by
  refine ⟨sp_jn hne fun x hx => (h x hx).no32, fun z => ?_, fun c hc => ?_⟩
  · rcases mem_jn z with z | ⟨x, h1, h2⟩
    · cases z
    · exact (h x h1).no10 h2
  · rcases mem_jn hc with z | ⟨x, h1, h2⟩
    · omega
    · exact (h x h1 c h2).2
structure Chart (m : Int) (ts : List (Int × Int)) (os : List (List Int)) : Prop where
  m : Sm m
  t : ∀ t ∈ ts, Sm t.1 ∧ Sm t.2
  o : ∀ o ∈ os, o.length ≤ 4 ∧ ∀ e ∈ o, Sm e
theorem ws_M {m : Int} (h : Sm m) : ∀ x ∈ [kMap, strL m], Clean x := fun x hx => by
  rcases List.mem_cons.mp hx with rfl | hx
  · exact clean_map
  · rw [List.mem_singleton.mp hx]; exact clean_num h
theorem ws_T {t : Int × Int} (h : Sm t.1 ∧ Sm t.2) : ∀ x ∈ [kTie, strL t.1, strL t.2], Clean x := fun x hx => by
  simp only [List.mem_cons, List.not_mem_nil, or_false] at hx
  rcases hx with rfl | rfl | rfl
  · exact clean_tie
  · exact clean_num h.1
  · exact clean_num h.2
theorem ws_O {o : List Int} (h : ∀ e ∈ o, Sm e) : ∀ x ∈ kOrd :: o.map endT, Clean x := fun x hx => by
  rcases List.mem_cons.mp hx with rfl | hx
  · exact clean_ord
  · obtain ⟨e, he, rfl⟩ := List.mem_map.mp hx; exact clean_end (h e he)
theorem sum_le {α : Type} {f : α → Nat} {B : Nat} : ∀ {l : List α}, (∀ x ∈ l, f x ≤ B) → (l.map f).sum ≤ l.length * B
  | [], _ => by simp
  | a :: l, h => by
    have h1 := h a List.mem_cons_self
    have h2 := sum_le (l := l) fun x hx => h x (List.mem_cons_of_mem _ hx)
    simp only [List.map_cons, List.sum_cons, List.length_cons, Nat.succ_mul]
    omega
theorem len_M {m : Int} (h : Sm m) : (rowM m).length ≤ 6 := by
  have := (sm_chars h).2.2.1
  show (kMap ++ 32 :: strL m).length ≤ 6
  simp [kMap]; omega
theorem len_T {t : Int × Int} (h : Sm t.1 ∧ Sm t.2) : (rowT t).length ≤ 9 := by
  have h1 := (sm_chars h.1).2.2.1
  have h2 := (sm_chars h.2).2.2.1
  show (kTie ++ 32 :: (strL t.1 ++ 32 :: strL t.2)).length ≤ 9
  simp [kTie]; omega
theorem len_O {o : List Int} (h : o.length ≤ 4 ∧ ∀ e ∈ o, Sm e) : (rowO o).length ≤ 21 := by
  have e := jn_len 32 (ps := kOrd :: o.map endT) (by simp)
  have s := sum_le (f := fun e => (endT e).length) (B := 3) (l := o) fun e he => end_len (h.2 e he)
  have := h.1
  show (jn 32 (kOrd :: o.map endT)).length ≤ 21
  rw [List.map_cons, List.sum_cons, List.length_cons, List.length_map, List.map_map] at e
  have e2 : (o.map (List.length ∘ endT)).sum = (o.map fun e => (endT e).length).sum := rfl
  rw [e2] at e
  have e3 : kOrd.length = 5 := rfl
  rw [e3] at e
  omega
theorem row_len {m : Int} {ts : List (Int × Int)} {os : List (List Int)} (h : Chart m ts os) : ∀ p ∈ rowM m :: (ts.map rowT ++ os.map rowO), p.length ≤ 21 := fun p hp => by
  rcases List.mem_cons.mp hp with rfl | hp
  · have := len_M h.m; omega
  · rcases List.mem_append.mp hp with hp | hp
    · obtain ⟨t, ht, rfl⟩ := List.mem_map.mp hp; have := len_T (h.t t ht); omega
    · obtain ⟨o, ho, rfl⟩ := List.mem_map.mp hp; exact len_O (h.o o ho)
theorem rows_len' {B : Nat} {ps : List (List Nat)} (h : ∀ p ∈ ps, p.length ≤ B) : (jn 10 ps).length ≤ ps.length * (B + 1) := by
  by_cases hn : ps = []
  · subst hn; simp [jn]
  · have e := jn_len 10 hn
    have := sum_le (f := List.length) h
    rw [Nat.mul_succ]
    omega
theorem txt_rows {m : Int} {ts : List (Int × Int)} {os : List (List Int)} (h : Chart m ts os) : sp 10 (txt m ts os) = rowM m :: (ts.map rowT ++ os.map rowO) := by
  unfold txt
  refine sp_jn (by simp) fun p hp => ?_
  rcases List.mem_cons.mp hp with rfl | hp
  · exact (row_back (by simp) (ws_M h.m)).2.1
  · rcases List.mem_append.mp hp with hp | hp
    · obtain ⟨t, ht, rfl⟩ := List.mem_map.mp hp; exact (row_back (by simp) (ws_T (h.t t ht))).2.1
    · obtain ⟨o, ho, rfl⟩ := List.mem_map.mp hp; exact (row_back (by simp) (ws_O (h.o o ho).2)).2.1
theorem txt_words {m : Int} {ts : List (Int × Int)} {os : List (List Int)} (h : Chart m ts os) : rows (txt m ts os) = [kMap, strL m] :: (ts.map (fun t => [kTie, strL t.1, strL t.2]) ++ os.map fun o => kOrd :: o.map endT) := by
  unfold rows
  rw [txt_rows h, List.map_cons, List.map_append, List.map_map, List.map_map]
  congr 1
  · exact (row_back (by simp) (ws_M h.m)).1
  congr 1
  · exact List.map_congr_left fun t ht => (row_back (by simp) (ws_T (h.t t ht))).1
  · exact List.map_congr_left fun o ho => (row_back (by simp) (ws_O (h.o o ho).2)).1
theorem txt_good {m : Int} {ts : List (Int × Int)} {os : List (List Int)} (h : Chart m ts os) (hm : (os.length : Int) = m) (hne : os ≠ []) : Good (rows (txt m ts os)) m ts os := by
  refine ⟨strL m, ts.map fun t => (strL t.1, strL t.2), os.map fun o => o.map endT, ?_, (sm_chars h.m).2.2.2.1, by rw [List.length_map]; exact hm, by simpa using hne, ?_, ?_⟩
  · rw [txt_words h, List.map_map, List.map_map]; rfl
  · rw [List.map_map]
    exact List.map_congr_left fun t ht => by show (num (strL t.1), num (strL t.2)) = _; rw [(sm_chars (h.t t ht).1).2.2.2.1, (sm_chars (h.t t ht).2).2.2.2.1]
  · rw [List.map_map]
    refine List.map_congr_left fun o ho => ?_
    show (o.map endT).map endV = o.map some
    rw [List.map_map]
    exact List.map_congr_left fun e he => end_back ((h.o o ho).2 e he)
theorem txt_asc {m : Int} {ts : List (Int × Int)} {os : List (List Int)} (h : Chart m ts os) : ∀ c ∈ txt m ts os, c < 128 := fun c hc => by
  rcases mem_jn hc with z | ⟨p, hp, h2⟩
  · omega
  · rcases List.mem_cons.mp hp with rfl | hp
    · exact (row_back (by simp) (ws_M h.m)).2.2 c h2
    · rcases List.mem_append.mp hp with hp | hp
      · obtain ⟨t, ht, rfl⟩ := List.mem_map.mp hp; exact (row_back (by simp) (ws_T (h.t t ht))).2.2 c h2
      · obtain ⟨o, ho, rfl⟩ := List.mem_map.mp hp; exact (row_back (by simp) (ws_O (h.o o ho).2)).2.2 c h2
theorem txt_len {m : Int} {ts : List (Int × Int)} {os : List (List Int)} (h : Chart m ts os) (h1 : ts.length ≤ 16) (h2 : os.length ≤ 10) : (txt m ts os).length ≤ 600 := by
  have := rows_len' (row_len h)
  unfold txt
  simp only [List.length_cons, List.length_append, List.length_map] at this
  omega
theorem row_cnt {ws : List (List Nat)} (hne : ws ≠ []) (h : ∀ x ∈ ws, Clean x) : (jn 32 ws).count 32 + 1 = ws.length := by
  have := sp_len 32 (jn 32 ws)
  rw [(row_back hne h).1] at this
  omega
theorem txt_cnt {m : Int} {ts : List (Int × Int)} {os : List (List Int)} (h : Chart m ts os) : ∀ p ∈ sp 10 (txt m ts os), p.length ≤ 21 ∧ p.count 32 ≤ 4 := fun p hp => by
  rw [txt_rows h] at hp
  refine ⟨row_len h p hp, ?_⟩
  rcases List.mem_cons.mp hp with rfl | hp
  · have := row_cnt (by simp) (ws_M h.m); simp at this; unfold rowM; omega
  · rcases List.mem_append.mp hp with hp | hp
    · obtain ⟨t, ht, rfl⟩ := List.mem_map.mp hp; have := row_cnt (by simp) (ws_T (h.t t ht)); simp at this; unfold rowT; omega
    · obtain ⟨o, ho, rfl⟩ := List.mem_map.mp hp; have := row_cnt (by simp) (ws_O (h.o o ho).2); have h4 := (h.o o ho).1; simp at this; unfold rowO; omega
end TX

namespace AW
theorem ins_perm {α : Type} (l : List α) (i : Nat) (x : α) : (L2.insAt l i x).Perm (x :: l) := by
  unfold L2.insAt
  have := (List.perm_middle (a := x) (l₁ := l.take i) (l₂ := l.drop i))
  rwa [List.take_append_drop] at this
theorem lens_set : ∀ (os : Os) (p : Nat) (l : List Int) (h : p < os.length), ((os.set p l).map List.length).sum + os[p].length = (os.map List.length).sum + l.length
  | o :: os, 0, l, _ => by simp; omega
  | o :: os, p + 1, l, h => by
    have := lens_set os p l (by simpa using h)
    simp at this ⊢
    omega
theorem free_one : ∀ (os : Os) (c : Nat), (os.map List.length).sum < 4 * c → c ≤ os.length → ∃ p, p < c ∧ ∃ o, os[p]? = some o ∧ o.length < 4
  | _, 0, h, _ => by omega
  | [], c + 1, _, h => by simp at h
  | o :: os, c + 1, h, hc => by
    by_cases ho : o.length < 4
    · exact ⟨0, by omega, o, rfl, ho⟩
    · simp at h hc
      obtain ⟨p, h1, o', h2, h3⟩ := free_one os c (by omega) hc
      exact ⟨p + 1, by omega, o', by simpa using h2, h3⟩
theorem Rch.mono {ts : Ts} {p : Int} (h : Rch ts p) (t : Int × Int) : Rch (ts ++ [t]) p := by
  induction h with
  | zero => exact .zero
  | fwd ht _ ih => exact .fwd (List.mem_append_left _ ht) ih
  | bwd ht _ ih => exact .bwd (List.mem_append_left _ ht) ih
structure Gr (n k : Nat) (ts : Ts) (os : Os) : Prop where
  ol : os.length = n
  fit : Fit ts os
  inw : InW n ts
  sum : (os.map List.length).sum = 2 * ts.length
  rch : ∀ p : Int, 0 ≤ p → p < k → p < n → Rch ts p
  emp : ∀ p : Nat, k ≤ p → p < n → os[p]? = some []
  cnt : k ≤ n → ts.length + 1 = k
  tl : ts.length ≤ 16
  ne : 1 < k → 1 ≤ ts.length
theorem Gr.start {n : Nat} (h : 1 ≤ n) : Gr n 1 [] (List.replicate n []) where
  ol := by simp
  fit := fun i o ho => by
    obtain ⟨_, e⟩ := List.getElem?_eq_some_iff.mp ho
    rw [List.getElem_replicate] at e
    subst e
    exact ⟨by simp, List.Perm.nil⟩
  inw := fun t ht => by cases ht
  sum := by simp
  rch := fun p h0 h1 _ => by
    have : p = 0 := by omega
    subst this; exact .zero
  emp := fun p _ hp => by simp [hp]
  cnt := fun _ => rfl
  tl := by simp
  ne := fun h => absurd h (by decide)
theorem Gr.skip {n k : Nat} {ts : Ts} {os : Os} (g : Gr n k ts os) (h : n ≤ k) (h3 : 1 ≤ ts.length) : Gr n (k + 1) ts os where
  ol := g.ol
  fit := g.fit
  inw := g.inw
  sum := g.sum
  rch := fun p h0 _ h2 => g.rch p h0 (by omega) h2
  emp := fun p h1 h2 => by omega
  cnt := fun h => by omega
  tl := g.tl
  ne := fun _ => h3
theorem Gr.tie {n k : Nat} {ts : Ts} {os : Os} (g : Gr n k ts os) {one other f i1 i2 : Nat} {o1 o2 : List Int} (hf : f < 2) (ht : ts.length < 16) (hk : one < k) (h1 : os[one]? = some o1) (l1 : o1.length < 4) (hoth : k < n → other = k)
    (h2 : (os.set one (L2.insAt o1 i1 (2 * (ts.length : Int) + f)))[other]? = some o2) (l2 : o2.length < 4) :
    Gr n (k + 1) (ts ++ [if f = 0 then ((one : Int), (other : Int)) else ((other : Int), (one : Int))]) ((os.set one (L2.insAt o1 i1 (2 * (ts.length : Int) + f))).set other (L2.insAt o2 i2 (2 * (ts.length : Int) + 1 - f))) := by
  have n1 : one < n := by rw [← g.ol]; exact (List.getElem?_eq_some_iff.mp h1).1
  have n2 : other < n := by rw [← g.ol]; have := (List.getElem?_eq_some_iff.mp h2).1; simpa using this
  have len1 : (L2.insAt o1 i1 (2 * (ts.length : Int) + f)).length = o1.length + 1 := (ins_perm _ _ _).length_eq
  have len2 : (L2.insAt o2 i2 (2 * (ts.length : Int) + 1 - f)).length = o2.length + 1 := (ins_perm _ _ _).length_eq
  have hmem : (if f = 0 then ((one : Int), (other : Int)) else ((other : Int), (one : Int))) ∈ ts ++ [if f = 0 then ((one : Int), (other : Int)) else ((other : Int), (one : Int))] := by simp
  refine ⟨by simp [g.ol], fun p o hp => ?_, fun t htm => ?_, ?_, fun p p0 p1 p2 => ?_, fun p p1 p2 => ?_, fun hkn => ?_, by simp; omega, fun _ => by simp⟩
  · -- what lies at each place
    have key : o.Perm ((os.getD p []) ++ ((if one = p then [2 * (ts.length : Int) + f] else []) ++ if other = p then [2 * (ts.length : Int) + 1 - f] else [])) ∧ o.length ≤ 4 := by
      by_cases q2 : other = p
      · subst q2
        rw [List.getElem?_set_self (by rw [List.length_set, g.ol]; exact n2)] at hp
        cases hp
        refine ⟨(ins_perm _ _ _).trans ?_, by omega⟩
        rw [if_pos rfl]
        by_cases q1 : one = other
        · subst q1
          rw [List.getElem?_set_self (by rw [g.ol]; exact n1)] at h2
          cases h2
          rw [if_pos rfl, List.getD_eq_getElem?_getD, h1, Option.getD_some]
          refine ((ins_perm _ _ _).cons _).trans ?_
          have : (o1 ++ ([2 * (ts.length : Int) + f] ++ [2 * (ts.length : Int) + 1 - f])).Perm ([2 * (ts.length : Int) + f] ++ [2 * (ts.length : Int) + 1 - f] ++ o1) := List.perm_append_comm
          refine List.Perm.trans ?_ this.symm
          exact List.Perm.swap _ _ _
        · rw [List.getElem?_set_ne q1] at h2
          rw [if_neg q1, List.getD_eq_getElem?_getD, h2, Option.getD_some, List.nil_append]
          exact (List.perm_append_singleton _ _).symm
      · rw [List.getElem?_set_ne q2] at hp
        rw [if_neg q2, List.append_nil]
        by_cases q1 : one = p
        · subst q1
          rw [List.getElem?_set_self (by rw [g.ol]; exact n1)] at hp
          cases hp
          rw [if_pos rfl, List.getD_eq_getElem?_getD, h1, Option.getD_some]
          exact ⟨(ins_perm _ _ _).trans (List.perm_append_singleton _ _).symm, by omega⟩
        · rw [List.getElem?_set_ne q1] at hp
          rw [if_neg q1, List.append_nil, List.getD_eq_getElem?_getD, hp, Option.getD_some]
          exact ⟨List.Perm.refl _, (g.fit p o hp).1⟩
    refine ⟨key.2, key.1.trans ?_⟩
    have hp' : p < n := by have := (List.getElem?_eq_some_iff.mp hp).1; simp [g.ol] at this; exact this
    have hold := (g.fit p (os.getD p []) (by rw [List.getD_eq_getElem?_getD, List.getElem?_eq_getElem (by rw [g.ol]; exact hp')]; rfl)).2
    rw [endsAt_snoc]
    refine List.Perm.append hold ?_
    have c1 : ((one : Int) = (p : Int)) ↔ (one = p) := by omega
    have c2 : ((other : Int) = (p : Int)) ↔ (other = p) := by omega
    by_cases f0 : f = 0
    · subst f0
      simp only [if_true, c1, c2]
      exact List.Perm.of_eq (by congr 2 <;> (congr 2; omega))
    · have f1 : f = 1 := by omega
      subst f1
      simp only [show ¬ ((1 : Nat) = 0) by decide, if_false, c1, c2]
      refine List.Perm.trans List.perm_append_comm (List.Perm.of_eq ?_)
      congr 2 <;> (congr 2; omega)
  · rcases List.mem_append.mp htm with h | h
    · exact g.inw t h
    · rw [List.mem_singleton.mp h]
      split
      · exact ⟨⟨by omega, by omega⟩, by omega, by omega⟩
      · exact ⟨⟨by omega, by omega⟩, by omega, by omega⟩
  · have s1 := lens_set os one (L2.insAt o1 i1 (2 * (ts.length : Int) + f)) (by rw [g.ol]; exact n1)
    have s2 := lens_set (os.set one (L2.insAt o1 i1 (2 * (ts.length : Int) + f))) other (L2.insAt o2 i2 (2 * (ts.length : Int) + 1 - f)) (by rw [List.length_set, g.ol]; exact n2)
    have e1 : os[one]'(by rw [g.ol]; exact n1) = o1 := by have := List.getElem?_eq_some_iff.mp h1; exact this.2
    have e2 : (os.set one (L2.insAt o1 i1 (2 * (ts.length : Int) + f)))[other]'(by rw [List.length_set, g.ol]; exact n2) = o2 := by have := List.getElem?_eq_some_iff.mp h2; exact this.2
    rw [e1, len1] at s1
    rw [e2, len2] at s2
    have := g.sum
    rw [List.length_append, List.length_singleton]
    omega
  · by_cases hpk : p < k
    · exact (g.rch p p0 hpk p2).mono _
    · have hpe : p = k := by omega
      have hkn : k < n := by omega
      have e := hoth hkn
      have r1 := (g.rch (one : Int) (by omega) (by omega) (by omega)).mono (if f = 0 then ((one : Int), (other : Int)) else ((other : Int), (one : Int)))
      have : p = (other : Int) := by omega
      rw [this]
      by_cases f0 : f = 0
      · rw [if_pos f0] at r1 hmem ⊢
        exact Rch.fwd hmem r1
      · rw [if_neg f0] at r1 hmem ⊢
        exact Rch.bwd hmem r1
  · have a1 : one ≠ p := by omega
    have a2 : other ≠ p := by have := hoth (by omega); omega
    rw [List.getElem?_set_ne a2, List.getElem?_set_ne a1]
    exact g.emp p (by omega) p2
  · have := g.cnt (by omega)
    simp; omega
theorem Gr.whole {n k : Nat} {ts : Ts} {os : Os} (g : Gr n k ts os) (h : n ≤ k) (h1 : 1 ≤ n) (h2 : n ≤ 200) (h3 : 1 ≤ ts.length) : IsMap n ts os :=
  ⟨⟨⟨by omega, by omega⟩, h3, by have := g.tl; omega⟩, g.inw, by rw [g.ol], g.fit, fun p h0 hp => g.rch p h0 (by omega) hp⟩
end AW

namespace TX
def Wt (f : Nat → Nat) (l : List Nat) : Nat := (l.map f).sum
theorem Wt.app (f : Nat → Nat) (a b : List Nat) : Wt f (a ++ b) = Wt f a + Wt f b := by unfold Wt; simp
theorem Wt.len (l : List Nat) : Wt (fun _ => 1) l = l.length := by
  induction l with
  | nil => rfl
  | cons a l ih => unfold Wt at ih ⊢; rw [List.map_cons, List.sum_cons, ih, List.length_cons]; omega
theorem Wt.cnt (l : List Nat) : Wt (fun c => if c = 32 then 1 else 0) l = l.count 32 := by
  induction l with
  | nil => rfl
  | cons a l ih =>
    unfold Wt at ih ⊢
    rw [List.map_cons, List.sum_cons, ih, List.count_cons]
    by_cases h : a = 32
    · subst h; simp; omega
    · simp [h]
def MR (f : Nat → Nat) (c : Nat) (l : List Nat) : Prop := ∀ s, s <:+: l → 10 ∉ s → Wt f s ≤ c
theorem MR.sub {f : Nat → Nat} {c : Nat} {l s : List Nat} (h : MR f c l) (hs : s <:+: l) : MR f c s := fun _ h1 h2 => h _ (h1.trans hs) h2
theorem MR.take {f : Nat → Nat} {c : Nat} {l : List Nat} (h : MR f c l) (n : Nat) : MR f c (l.take n) := h.sub (List.take_prefix n l).isInfix
theorem MR.drop {f : Nat → Nat} {c : Nat} {l : List Nat} (h : MR f c l) (n : Nat) : MR f c (l.drop n) := h.sub (List.drop_suffix n l).isInfix
theorem MR.mono {f : Nat → Nat} {c d : Nat} {l : List Nat} (h : MR f c l) (hd : c ≤ d) : MR f d l := fun s h1 h2 => Nat.le_trans (h s h1 h2) hd
theorem infix_app {s x y : List Nat} (h : s <:+: x ++ y) : s <:+: x ∨ s <:+: y ∨ ∃ u v, s = u ++ v ∧ u <:+ x ∧ v <+: y := by
  obtain ⟨a, b, e⟩ := h
  rw [List.append_assoc] at e
  rcases List.append_eq_append_iff.mp e with ⟨d, rfl, e2⟩ | ⟨d, rfl, e2⟩
  · rcases List.append_eq_append_iff.mp e2 with ⟨u, rfl, e3⟩ | ⟨u, rfl, e3⟩
    · exact .inl ⟨a, u, by simp⟩
    · exact .inr (.inr ⟨d, u, rfl, ⟨a, rfl⟩, ⟨b, e3.symm⟩⟩)
  · exact .inr (.inl ⟨d, b, by rw [e2]; simp⟩)
theorem MR.app {f : Nat → Nat} {c d : Nat} {x y : List Nat} (h : MR f c x) (k : MR f d y) : MR f (c + d) (x ++ y) := fun s hs hn => by
  rcases infix_app hs with hs | hs | ⟨u, v, rfl, h1, h2⟩
  · exact Nat.le_trans (h s hs hn) (Nat.le_add_right _ _)
  · exact Nat.le_trans (k s hs hn) (Nat.le_add_left _ _)
  · rw [Wt.app]
    exact Nat.add_le_add (h u h1.isInfix fun z => hn (List.mem_append_left _ z)) (k v h2.isInfix fun z => hn (List.mem_append_right _ z))
theorem wt_sub {f : Nat → Nat} {s l : List Nat} (h : s <:+: l) : Wt f s ≤ Wt f l := by
  obtain ⟨a, b, rfl⟩ := h
  rw [Wt.app, Wt.app]; omega
theorem MR.one {f : Nat → Nat} (l : List Nat) : MR f (Wt f l) l := fun _ hs _ => wt_sub hs
theorem pre_ten {v y : List Nat} (h : v <+: 10 :: y) (hn : 10 ∉ v) : v = [] := by
  match v, h, hn with
  | [], _, _ => rfl
  | c :: v, ⟨b, e⟩, hn =>
    injection e with e1 _
    exact absurd (by rw [e1]; exact List.mem_cons_self) hn
theorem MR.cut {f : Nat → Nat} {c : Nat} {x y : List Nat} (h : MR f c x) (k : MR f c y) : MR f c (x ++ 10 :: y) := fun s hs hn => by
  rcases infix_app hs with hs | ⟨a, b, e⟩ | ⟨u, v, rfl, h1, h2⟩
  · exact h s hs hn
  · match a, e with
    | [], e => rw [pre_ten ⟨b, by simpa using e⟩ hn]; exact Nat.zero_le _
    | _ :: a, e =>
      injection e with _ e
      exact k s ⟨a, b, e⟩ hn
  · rw [pre_ten h2 fun z => hn (List.mem_append_right _ z), List.append_nil]
    exact h u h1.isInfix fun z => hn (List.mem_append_left _ z)
theorem MR.jn {f : Nat → Nat} {c : Nat} : ∀ {ps : List (List Nat)}, (∀ p ∈ ps, MR f c p) → MR f c (jn 10 ps)
  | [], _ => fun s hs _ => by
    obtain ⟨a, b, e⟩ := hs
    have : s = [] := by
      have := congrArg List.length e
      simp [TX.jn] at this
      exact this.2.1
    rw [this]; exact Nat.zero_le _
  | [p], h => h p List.mem_cons_self
  | p :: q :: r, h => by
    rw [jn_cons 10 p (by simp)]
    exact (h p List.mem_cons_self).cut (MR.jn fun x hx => h x (List.mem_cons_of_mem _ hx))
theorem infix_jn {c : Nat} {p : List Nat} : ∀ {ps : List (List Nat)}, p ∈ ps → p <:+: jn c ps
  | [q], h => by rw [List.mem_singleton.mp h]; exact List.infix_refl _
  | q :: r :: s, h => by
    rw [jn_cons c q (by simp)]
    rcases List.mem_cons.mp h with rfl | h
    · exact ⟨[], c :: TX.jn c (r :: s), by simp⟩
    · obtain ⟨a, b, e⟩ := infix_jn (c := c) h
      exact ⟨q ++ c :: a, b, by rw [← e]; simp⟩
theorem MR.row {f : Nat → Nat} {c : Nat} {l p : List Nat} (h : MR f c l) (hp : p ∈ sp 10 l) : Wt f p ≤ c := by
  have := infix_jn (c := 10) hp
  rw [jn_sp] at this
  exact h p this (sp_nin 10 l p hp)
theorem wt_jn {f : Nat → Nat} (hf : f 32 = 1) : ∀ {ps : List (List Nat)}, ps ≠ [] → Wt f (jn 32 ps) + 1 = (ps.map (Wt f)).sum + ps.length
  | [], h => absurd rfl h
  | [p], _ => by simp [TX.jn]
  | p :: q :: r, _ => by
    have ih := wt_jn hf (ps := q :: r) (by simp)
    rw [jn_cons 32 p (by simp), Wt.app, List.map_cons, List.sum_cons, List.length_cons]
    have : Wt f (32 :: TX.jn 32 (q :: r)) = 1 + Wt f (TX.jn 32 (q :: r)) := by unfold Wt; rw [List.map_cons, List.sum_cons, hf]
    omega
theorem wt_words {f : Nat → Nat} (hf : f 32 = 1) {l : List Nat} : ((sp 32 l).map (Wt f)).sum + (sp 32 l).length = Wt f l + 1 := by
  have := wt_jn hf (sp_ne 32 l)
  rw [jn_sp] at this
  omega
theorem wt_le {f : Nat → Nat} (hf : f 32 = 1) (ps : List (List Nat)) : Wt f (jn 32 ps) ≤ (ps.map (Wt f)).sum + ps.length := by
  by_cases h : ps = []
  · subst h; exact Nat.zero_le _
  · have := wt_jn hf h; omega
theorem sum_cut {g : List Nat → Nat} (ps : List (List Nat)) (i : Nat) : ((ps.take i).map g).sum + ((ps.drop i).map g).sum = (ps.map g).sum := by
  rw [← List.sum_append, ← List.map_append, List.take_append_drop]
theorem sum_cut1 {g : List Nat → Nat} (ps : List (List Nat)) (i : Nat) : ((ps.take i).map g).sum + ((ps.drop (i + 1)).map g).sum ≤ (ps.map g).sum := by
  have h1 := sum_cut (g := g) ps i
  have h2 : ((ps.drop (i + 1)).map g).sum ≤ ((ps.drop i).map g).sum := by
    have := sum_cut (g := g) (ps.drop i) 1
    rw [List.drop_drop] at this
    omega
  omega
structure Fit (L R B : Nat) (l : List Nat) : Prop where
  a : ∀ c ∈ l, c < 128
  n : l.length ≤ L
  r : MR (fun _ => 1) R l
  b : MR (fun c => if c = 32 then 1 else 0) B l
end TX

namespace K74
open PySem L2
def top (i : Nat) : Stmt := PySem.Challenge.pw_fewbends_k74_map_texts_that_are_none.main.body.getD i (.Pass ⟨0, 0, 0, 0⟩)
abbrev s_check_map : Stmt := top 16
theorem sc_check_map : FnScope ["web", "many", "ties"] ["web"] (defScope s_check_map) := ⟨rfl, rfl, rfl, by decide +kernel, rfl, by decide +kernel, by decide +kernel⟩
abbrev s_ties_name_places : Stmt := top 17
theorem sc_ties_name_places : FnScope ["many", "ties"] ["many", "ties"] (defScope s_ties_name_places) := ⟨rfl, rfl, rfl, by decide +kernel, rfl, by decide +kernel, by decide +kernel⟩
abbrev s_orders_fit : Stmt := top 18
theorem sc_orders_fit : FnScope ["web", "orders", "order", "ends"] ["web"] (defScope s_orders_fit) := ⟨rfl, rfl, rfl, by decide +kernel, rfl, by decide +kernel, by decide +kernel⟩
abbrev s_ends_at_places : Stmt := top 19
theorem sc_ends_at_places : FnScope ["many", "ties", "ends", "number", "tie"] ["many", "ties"] (defScope s_ends_at_places) := ⟨rfl, rfl, rfl, by decide +kernel, rfl, by decide +kernel, by decide +kernel⟩
abbrev s_hangs_together : Stmt := top 20
theorem sc_hangs_together : FnScope ["many", "ties", "near", "a", "b", "reached", "waiting", "place", "neighbour"] ["many", "ties"] (defScope s_hangs_together) := ⟨rfl, rfl, rfl, by decide +kernel, rfl, by decide +kernel, by decide +kernel⟩
abbrev s_read_number : Stmt := top 24
theorem sc_read_number : FnScope ["word", "figures"] ["word"] (defScope s_read_number) := ⟨rfl, rfl, rfl, by decide +kernel, rfl, by decide +kernel, by decide +kernel⟩
abbrev s_read_numbers : Stmt := top 25
theorem sc_read_numbers : FnScope ["words"] ["words"] (defScope s_read_numbers) := ⟨rfl, rfl, rfl, by decide +kernel, rfl, by decide +kernel, by decide +kernel⟩
abbrev s_refuse_unless : Stmt := top 28
theorem sc_refuse_unless : FnScope ["told"] ["told"] (defScope s_refuse_unless) := ⟨rfl, rfl, rfl, by decide +kernel, rfl, by decide +kernel, by decide +kernel⟩
abbrev s_rows_of : Stmt := top 29
theorem sc_rows_of : FnScope ["text"] ["text"] (defScope s_rows_of) := ⟨rfl, rfl, rfl, by decide +kernel, rfl, by decide +kernel, by decide +kernel⟩
abbrev s_rows_from : Stmt := top 30
theorem sc_rows_from : FnScope ["rows", "place", "word", "told", "row"] ["rows", "place", "word"] (defScope s_rows_from) := ⟨rfl, rfl, rfl, by decide +kernel, rfl, by decide +kernel, by decide +kernel⟩
abbrev s_read_map : Stmt := top 31
theorem sc_read_map : FnScope ["text", "rows", "begin", "ties", "orders", "many", "web"] ["text"] (defScope s_read_map) := ⟨rfl, rfl, rfl, by decide +kernel, rfl, by decide +kernel, by decide +kernel⟩
abbrev s_read_so_many : Stmt := top 32
theorem sc_read_so_many : FnScope ["words", "count"] ["words", "count"] (defScope s_read_so_many) := ⟨rfl, rfl, rfl, by decide +kernel, rfl, by decide +kernel, by decide +kernel⟩
abbrev s_read_pair : Stmt := top 33
theorem sc_read_pair : FnScope ["words", "numbers"] ["words"] (defScope s_read_pair) := ⟨rfl, rfl, rfl, by decide +kernel, rfl, by decide +kernel, by decide +kernel⟩
abbrev s_read_ends : Stmt := top 34
theorem sc_read_ends : FnScope ["words"] ["words"] (defScope s_read_ends) := ⟨rfl, rfl, rfl, by decide +kernel, rfl, by decide +kernel, by decide +kernel⟩
abbrev s_read_end : Stmt := top 35
theorem sc_read_end : FnScope ["word", "side"] ["word"] (defScope s_read_end) := ⟨rfl, rfl, rfl, by decide +kernel, rfl, by decide +kernel, by decide +kernel⟩
abbrev s_l_at : Stmt := top 37
theorem sc_l_at : FnScope ["_law_script", "_law_k"] ["_law_script", "_law_k"] (defScope s_l_at) := ⟨rfl, rfl, rfl, by decide +kernel, rfl, by decide +kernel, by decide +kernel⟩
abbrev s_l_mix : Stmt := top 38
theorem sc_l_mix : FnScope ["_law_cell", "_law_place", "_law_turn", "_law_part"] ["_law_cell", "_law_place"] (defScope s_l_mix) := ⟨rfl, rfl, rfl, by decide +kernel, rfl, by decide +kernel, by decide +kernel⟩
abbrev s_l_hung : Stmt := top 39
theorem sc_l_hung : FnScope ["_law_orders", "_law_end_here", "_law_place", "_law_number_here"] ["_law_orders", "_law_end_here", "_law_place", "_law_number_here"] (defScope s_l_hung) := ⟨rfl, rfl, rfl, by decide +kernel, rfl, by decide +kernel, by decide +kernel⟩
abbrev s_l_any_map : Stmt := top 40
theorem sc_l_any_map : FnScope ["_law_script", "_law_head", "_law_many", "_law_ties", "_law_orders", "_law_k", "_law_number_here", "_law_upto", "_law_some", "_law_left", "_law_one", "_law_first", "_law_rest", "_law_spot", "_law_other"] ["_law_script"] (defScope s_l_any_map) := ⟨rfl, rfl, rfl, by decide +kernel, rfl, by decide +kernel, by decide +kernel⟩
abbrev s_l_end_text : Stmt := top 41
theorem sc_l_end_text : FnScope ["_law_end_here"] ["_law_end_here"] (defScope s_l_end_text) := ⟨rfl, rfl, rfl, by decide +kernel, rfl, by decide +kernel, by decide +kernel⟩
abbrev s_l_map_text : Stmt := top 42
theorem sc_l_map_text : FnScope ["_law_chart", "_law_text", "_law_one", "_law_other", "_law_order", "_law_end_here"] ["_law_chart"] (defScope s_l_map_text) := ⟨rfl, rfl, rfl, by decide +kernel, rfl, by decide +kernel, by decide +kernel⟩
abbrev s_l_bent_row : Stmt := top 43
theorem sc_l_bent_row : FnScope ["_law_row", "_law_number_here", "_law_cell", "_law_odd", "_law_words", "_law_word", "_law_spot", "_law_way"] ["_law_row", "_law_number_here", "_law_cell"] (defScope s_l_bent_row) := ⟨rfl, rfl, rfl, by decide +kernel, rfl, by decide +kernel, by decide +kernel⟩
abbrev s_l_bent : Stmt := top 44
theorem sc_l_bent : FnScope ["_law_text", "_law_number_here", "_law_cell", "_law_rows", "_law_spot", "_law_to", "_law_way", "_law_row", "_law_some", "_law_sign", "_law_place"] ["_law_text", "_law_number_here", "_law_cell"] (defScope s_l_bent) := ⟨rfl, rfl, rfl, by decide +kernel, rfl, by decide +kernel, by decide +kernel⟩
abbrev s_l_number : Stmt := top 45
theorem sc_l_number : FnScope ["_law_word", "_law_figures"] ["_law_word"] (defScope s_l_number) := ⟨rfl, rfl, rfl, by decide +kernel, rfl, by decide +kernel, by decide +kernel⟩
abbrev s_l_end : Stmt := top 46
theorem sc_l_end : FnScope ["_law_word", "_law_number_here"] ["_law_word"] (defScope s_l_end) := ⟨rfl, rfl, rfl, by decide +kernel, rfl, by decide +kernel, by decide +kernel⟩
abbrev s_l_read : Stmt := top 47
theorem sc_l_read : FnScope ["_law_text", "_law_rows", "_law_ties", "_law_orders", "_law_many", "_law_words"] ["_law_text"] (defScope s_l_read) := ⟨rfl, rfl, rfl, by decide +kernel, rfl, by decide +kernel, by decide +kernel⟩
abbrev s_l_hangs : Stmt := top 48
theorem sc_l_hangs : FnScope ["_law_many", "_law_ties", "_law_there", "_law_turn", "_law_one", "_law_other"] ["_law_many", "_law_ties"] (defScope s_l_hangs) := ⟨rfl, rfl, rfl, by decide +kernel, rfl, by decide +kernel, by decide +kernel⟩
abbrev s_l_is_map : Stmt := top 49
theorem sc_l_is_map : FnScope ["_law_chart", "_law_many", "_law_ties", "_law_orders", "_law_ends", "_law_k", "_law_pair", "_law_j", "_law_place"] ["_law_chart"] (defScope s_l_is_map) := ⟨rfl, rfl, rfl, by decide +kernel, rfl, by decide +kernel, by decide +kernel⟩
abbrev s_l_kind : Stmt := top 50
theorem sc_l_kind : FnScope ["_law_kept", "_law_some"] ["_law_kept"] (defScope s_l_kind) := ⟨rfl, rfl, rfl, by decide +kernel, rfl, by decide +kernel, by decide +kernel⟩
abbrev s_l_right : Stmt := top 51
theorem sc_l_right : FnScope ["_law_text", "_law_kept", "_law_found", "e", "_law_due"] ["_law_text"] (defScope s_l_right) := ⟨rfl, rfl, rfl, by decide +kernel, rfl, by decide +kernel, by decide +kernel⟩
abbrev s_law : Stmt := top 52
theorem sc_law : FnScope ["_law_script", "_law_chart", "_law_text", "_law_k", "_law_one", "_law_other", "_law_bent_here", "_law_again"] ["_law_script"] (defScope s_law) := ⟨rfl, rfl, rfl, by decide +kernel, rfl, by decide +kernel, by decide +kernel⟩
set_option genInjectivity false in
structure Adr where
  q_MOST_PLACES : Tok
  q_MOST_TIES : Tok
  q_MOST_ENDS_AT_A_PLACE : Tok
  q_MOST_FIGURES : Tok
  q_FIGURES : Tok
  q_SIDES : Tok
  c_BendError : Addr
  c_NoMap : Addr
  c_NotFlat : Addr
  c_NoLand : Addr
  c_NoNet : Addr
  c_NoShape : Addr
  c_NoLaid : Addr
  c_NoText : Addr
  c_NoPicture : Addr
  c_NoRow : Addr
  c_NoThing : Addr
  a_check_map : Addr
  d_check_map : FuncData
  a_ties_name_places : Addr
  d_ties_name_places : FuncData
  a_orders_fit : Addr
  d_orders_fit : FuncData
  a_ends_at_places : Addr
  d_ends_at_places : FuncData
  a_hangs_together : Addr
  d_hangs_together : FuncData
  a_read_number : Addr
  d_read_number : FuncData
  a_read_numbers : Addr
  d_read_numbers : FuncData
  a_refuse_unless : Addr
  d_refuse_unless : FuncData
  a_rows_of : Addr
  d_rows_of : FuncData
  a_rows_from : Addr
  d_rows_from : FuncData
  a_read_map : Addr
  d_read_map : FuncData
  a_read_so_many : Addr
  d_read_so_many : FuncData
  a_read_pair : Addr
  d_read_pair : FuncData
  a_read_ends : Addr
  d_read_ends : FuncData
  a_read_end : Addr
  d_read_end : FuncData
  a_l_at : Addr
  d_l_at : FuncData
  a_l_mix : Addr
  d_l_mix : FuncData
  a_l_hung : Addr
  d_l_hung : FuncData
  a_l_any_map : Addr
  d_l_any_map : FuncData
  a_l_end_text : Addr
  d_l_end_text : FuncData
  a_l_map_text : Addr
  d_l_map_text : FuncData
  a_l_bent_row : Addr
  d_l_bent_row : FuncData
  a_l_bent : Addr
  d_l_bent : FuncData
  a_l_number : Addr
  d_l_number : FuncData
  a_l_end : Addr
  d_l_end : FuncData
  a_l_read : Addr
  d_l_read : FuncData
  a_l_hangs : Addr
  d_l_hangs : FuncData
  a_l_is_map : Addr
  d_l_is_map : FuncData
  a_l_kind : Addr
  d_l_kind : FuncData
  a_l_right : Addr
  d_l_right : FuncData
  a_law : Addr
  d_law : FuncData
structure Txt (K : PySem.W.Frag) (mg : Str → Option Value) (t : Adr) : Prop where
  F_check_map : Fun K "check_map" "check_map" s_check_map t.a_check_map t.d_check_map
  m_check_map : mg "check_map" = some (.ref t.a_check_map)
  k_check_map : PySem.W.keepIn K (.ref t.a_check_map) = true
  b_check_map : Binds K t.d_check_map ["web"] []
  F_ties_name_places : Fun K "ties_name_places" "ties_name_places" s_ties_name_places t.a_ties_name_places t.d_ties_name_places
  m_ties_name_places : mg "ties_name_places" = some (.ref t.a_ties_name_places)
  k_ties_name_places : PySem.W.keepIn K (.ref t.a_ties_name_places) = true
  b_ties_name_places : Binds K t.d_ties_name_places ["many", "ties"] []
  F_orders_fit : Fun K "orders_fit" "orders_fit" s_orders_fit t.a_orders_fit t.d_orders_fit
  m_orders_fit : mg "orders_fit" = some (.ref t.a_orders_fit)
  k_orders_fit : PySem.W.keepIn K (.ref t.a_orders_fit) = true
  b_orders_fit : Binds K t.d_orders_fit ["web"] []
  F_ends_at_places : Fun K "ends_at_places" "ends_at_places" s_ends_at_places t.a_ends_at_places t.d_ends_at_places
  m_ends_at_places : mg "ends_at_places" = some (.ref t.a_ends_at_places)
  k_ends_at_places : PySem.W.keepIn K (.ref t.a_ends_at_places) = true
  b_ends_at_places : Binds K t.d_ends_at_places ["many", "ties"] []
  F_hangs_together : Fun K "hangs_together" "hangs_together" s_hangs_together t.a_hangs_together t.d_hangs_together
  m_hangs_together : mg "hangs_together" = some (.ref t.a_hangs_together)
  k_hangs_together : PySem.W.keepIn K (.ref t.a_hangs_together) = true
  b_hangs_together : Binds K t.d_hangs_together ["many", "ties"] []
  F_read_number : Fun K "read_number" "read_number" s_read_number t.a_read_number t.d_read_number
  m_read_number : mg "read_number" = some (.ref t.a_read_number)
  k_read_number : PySem.W.keepIn K (.ref t.a_read_number) = true
  b_read_number : Binds K t.d_read_number ["word"] []
  F_read_numbers : Fun K "read_numbers" "read_numbers" s_read_numbers t.a_read_numbers t.d_read_numbers
  m_read_numbers : mg "read_numbers" = some (.ref t.a_read_numbers)
  k_read_numbers : PySem.W.keepIn K (.ref t.a_read_numbers) = true
  b_read_numbers : Binds K t.d_read_numbers ["words"] []
  F_refuse_unless : Fun K "refuse_unless" "refuse_unless" s_refuse_unless t.a_refuse_unless t.d_refuse_unless
  m_refuse_unless : mg "refuse_unless" = some (.ref t.a_refuse_unless)
  k_refuse_unless : PySem.W.keepIn K (.ref t.a_refuse_unless) = true
  b_refuse_unless : Binds K t.d_refuse_unless ["told"] []
  F_rows_of : Fun K "rows_of" "rows_of" s_rows_of t.a_rows_of t.d_rows_of
  m_rows_of : mg "rows_of" = some (.ref t.a_rows_of)
  k_rows_of : PySem.W.keepIn K (.ref t.a_rows_of) = true
  b_rows_of : Binds K t.d_rows_of ["text"] []
  F_rows_from : Fun K "rows_from" "rows_from" s_rows_from t.a_rows_from t.d_rows_from
  m_rows_from : mg "rows_from" = some (.ref t.a_rows_from)
  k_rows_from : PySem.W.keepIn K (.ref t.a_rows_from) = true
  b_rows_from : Binds K t.d_rows_from ["rows", "place", "word"] []
  F_read_map : Fun K "read_map" "read_map" s_read_map t.a_read_map t.d_read_map
  m_read_map : mg "read_map" = some (.ref t.a_read_map)
  k_read_map : PySem.W.keepIn K (.ref t.a_read_map) = true
  b_read_map : Binds K t.d_read_map ["text"] []
  F_read_so_many : Fun K "read_so_many" "read_so_many" s_read_so_many t.a_read_so_many t.d_read_so_many
  m_read_so_many : mg "read_so_many" = some (.ref t.a_read_so_many)
  k_read_so_many : PySem.W.keepIn K (.ref t.a_read_so_many) = true
  b_read_so_many : Binds K t.d_read_so_many ["words", "count"] []
  F_read_pair : Fun K "read_pair" "read_pair" s_read_pair t.a_read_pair t.d_read_pair
  m_read_pair : mg "read_pair" = some (.ref t.a_read_pair)
  k_read_pair : PySem.W.keepIn K (.ref t.a_read_pair) = true
  b_read_pair : Binds K t.d_read_pair ["words"] []
  F_read_ends : Fun K "read_ends" "read_ends" s_read_ends t.a_read_ends t.d_read_ends
  m_read_ends : mg "read_ends" = some (.ref t.a_read_ends)
  k_read_ends : PySem.W.keepIn K (.ref t.a_read_ends) = true
  b_read_ends : Binds K t.d_read_ends ["words"] []
  F_read_end : Fun K "read_end" "read_end" s_read_end t.a_read_end t.d_read_end
  m_read_end : mg "read_end" = some (.ref t.a_read_end)
  k_read_end : PySem.W.keepIn K (.ref t.a_read_end) = true
  b_read_end : Binds K t.d_read_end ["word"] []
  F_l_at : Fun K "_law_at" "_law_at" s_l_at t.a_l_at t.d_l_at
  m_l_at : mg "_law_at" = some (.ref t.a_l_at)
  k_l_at : PySem.W.keepIn K (.ref t.a_l_at) = true
  b_l_at : Binds K t.d_l_at ["_law_script", "_law_k"] []
  F_l_mix : Fun K "_law_mix" "_law_mix" s_l_mix t.a_l_mix t.d_l_mix
  m_l_mix : mg "_law_mix" = some (.ref t.a_l_mix)
  k_l_mix : PySem.W.keepIn K (.ref t.a_l_mix) = true
  b_l_mix : Binds K t.d_l_mix ["_law_cell", "_law_place"] []
  F_l_hung : Fun K "_law_hung" "_law_hung" s_l_hung t.a_l_hung t.d_l_hung
  m_l_hung : mg "_law_hung" = some (.ref t.a_l_hung)
  k_l_hung : PySem.W.keepIn K (.ref t.a_l_hung) = true
  b_l_hung : Binds K t.d_l_hung ["_law_orders", "_law_end_here", "_law_place", "_law_number_here"] []
  F_l_any_map : Fun K "_law_any_map" "_law_any_map" s_l_any_map t.a_l_any_map t.d_l_any_map
  m_l_any_map : mg "_law_any_map" = some (.ref t.a_l_any_map)
  k_l_any_map : PySem.W.keepIn K (.ref t.a_l_any_map) = true
  b_l_any_map : Binds K t.d_l_any_map ["_law_script"] []
  F_l_end_text : Fun K "_law_end_text" "_law_end_text" s_l_end_text t.a_l_end_text t.d_l_end_text
  m_l_end_text : mg "_law_end_text" = some (.ref t.a_l_end_text)
  k_l_end_text : PySem.W.keepIn K (.ref t.a_l_end_text) = true
  b_l_end_text : Binds K t.d_l_end_text ["_law_end_here"] []
  F_l_map_text : Fun K "_law_map_text" "_law_map_text" s_l_map_text t.a_l_map_text t.d_l_map_text
  m_l_map_text : mg "_law_map_text" = some (.ref t.a_l_map_text)
  k_l_map_text : PySem.W.keepIn K (.ref t.a_l_map_text) = true
  b_l_map_text : Binds K t.d_l_map_text ["_law_chart"] []
  F_l_bent_row : Fun K "_law_bent_row" "_law_bent_row" s_l_bent_row t.a_l_bent_row t.d_l_bent_row
  m_l_bent_row : mg "_law_bent_row" = some (.ref t.a_l_bent_row)
  k_l_bent_row : PySem.W.keepIn K (.ref t.a_l_bent_row) = true
  b_l_bent_row : Binds K t.d_l_bent_row ["_law_row", "_law_number_here", "_law_cell"] []
  F_l_bent : Fun K "_law_bent" "_law_bent" s_l_bent t.a_l_bent t.d_l_bent
  m_l_bent : mg "_law_bent" = some (.ref t.a_l_bent)
  k_l_bent : PySem.W.keepIn K (.ref t.a_l_bent) = true
  b_l_bent : Binds K t.d_l_bent ["_law_text", "_law_number_here", "_law_cell"] []
  F_l_number : Fun K "_law_number" "_law_number" s_l_number t.a_l_number t.d_l_number
  m_l_number : mg "_law_number" = some (.ref t.a_l_number)
  k_l_number : PySem.W.keepIn K (.ref t.a_l_number) = true
  b_l_number : Binds K t.d_l_number ["_law_word"] []
  F_l_end : Fun K "_law_end" "_law_end" s_l_end t.a_l_end t.d_l_end
  m_l_end : mg "_law_end" = some (.ref t.a_l_end)
  k_l_end : PySem.W.keepIn K (.ref t.a_l_end) = true
  b_l_end : Binds K t.d_l_end ["_law_word"] []
  F_l_read : Fun K "_law_read" "_law_read" s_l_read t.a_l_read t.d_l_read
  m_l_read : mg "_law_read" = some (.ref t.a_l_read)
  k_l_read : PySem.W.keepIn K (.ref t.a_l_read) = true
  b_l_read : Binds K t.d_l_read ["_law_text"] []
  F_l_hangs : Fun K "_law_hangs" "_law_hangs" s_l_hangs t.a_l_hangs t.d_l_hangs
  m_l_hangs : mg "_law_hangs" = some (.ref t.a_l_hangs)
  k_l_hangs : PySem.W.keepIn K (.ref t.a_l_hangs) = true
  b_l_hangs : Binds K t.d_l_hangs ["_law_many", "_law_ties"] []
  F_l_is_map : Fun K "_law_is_map" "_law_is_map" s_l_is_map t.a_l_is_map t.d_l_is_map
  m_l_is_map : mg "_law_is_map" = some (.ref t.a_l_is_map)
  k_l_is_map : PySem.W.keepIn K (.ref t.a_l_is_map) = true
  b_l_is_map : Binds K t.d_l_is_map ["_law_chart"] []
  F_l_kind : Fun K "_law_kind" "_law_kind" s_l_kind t.a_l_kind t.d_l_kind
  m_l_kind : mg "_law_kind" = some (.ref t.a_l_kind)
  k_l_kind : PySem.W.keepIn K (.ref t.a_l_kind) = true
  b_l_kind : Binds K t.d_l_kind ["_law_kept"] []
  F_l_right : Fun K "_law_right" "_law_right" s_l_right t.a_l_right t.d_l_right
  m_l_right : mg "_law_right" = some (.ref t.a_l_right)
  k_l_right : PySem.W.keepIn K (.ref t.a_l_right) = true
  b_l_right : Binds K t.d_l_right ["_law_text"] []
  F_law : Fun K "law" "law" s_law t.a_law t.d_law
  m_law : mg "law" = some (.ref t.a_law)
  k_law : PySem.W.keepIn K (.ref t.a_law) = true
  b_law : Binds K t.d_law ["_law_script"] []
  z_all : mg "all" = none
  z_enumerate : mg "enumerate" = none
  z_int : mg "int" = none
  z_isinstance : mg "isinstance" = none
  z_len : mg "len" = none
  z_min : mg "min" = none
  z_range : mg "range" = none
  z_sorted : mg "sorted" = none
  z_str : mg "str" = none
  z_sum : mg "sum" = none
  z_zip : mg "zip" = none
  g_MOST_PLACES : mg "MOST_PLACES" = some (.int 200 t.q_MOST_PLACES)
  g_MOST_TIES : mg "MOST_TIES" = some (.int 400 t.q_MOST_TIES)
  g_MOST_ENDS_AT_A_PLACE : mg "MOST_ENDS_AT_A_PLACE" = some (.int 4 t.q_MOST_ENDS_AT_A_PLACE)
  g_MOST_FIGURES : mg "MOST_FIGURES" = some (.int 40 t.q_MOST_FIGURES)
  g_FIGURES : mg "FIGURES" = some (.str (Str.ofString "0123456789") t.q_FIGURES)
  g_SIDES : mg "SIDES" = some (.str (Str.ofString "><") t.q_SIDES)
  m_BendError : mg "BendError" = some (.ref t.c_BendError)
  m_NoMap : mg "NoMap" = some (.ref t.c_NoMap)
  m_NotFlat : mg "NotFlat" = some (.ref t.c_NotFlat)
  m_NoLand : mg "NoLand" = some (.ref t.c_NoLand)
  m_NoNet : mg "NoNet" = some (.ref t.c_NoNet)
  m_NoShape : mg "NoShape" = some (.ref t.c_NoShape)
  m_NoLaid : mg "NoLaid" = some (.ref t.c_NoLaid)
  m_NoText : mg "NoText" = some (.ref t.c_NoText)
  m_NoPicture : mg "NoPicture" = some (.ref t.c_NoPicture)
  m_NoRow : mg "NoRow" = some (.ref t.c_NoRow)
  m_NoThing : mg "NoThing" = some (.ref t.c_NoThing)
  x_in : PySem.W.excIn K t.c_NoMap [.type "ValueError", .type "Exception", .type "BaseException", .type "object"] "ValueError.__new__" = true
  x_up : L2.ClsU K t.c_NoMap t.c_BendError
  x_ve : PySem.W.subIn K (.ref t.c_NoMap) (.type "ValueError") = some true
  x_NotFlat : L2.ClsN K t.c_NoMap t.c_NotFlat
  x_NoLand : L2.ClsN K t.c_NoMap t.c_NoLand
  x_NoNet : L2.ClsN K t.c_NoMap t.c_NoNet
  x_NoShape : L2.ClsN K t.c_NoMap t.c_NoShape
  x_NoLaid : L2.ClsN K t.c_NoMap t.c_NoLaid
  x_NoText : L2.ClsN K t.c_NoMap t.c_NoText
  x_NoPicture : L2.ClsN K t.c_NoMap t.c_NoPicture
  x_NoRow : L2.ClsN K t.c_NoMap t.c_NoRow
  x_NoThing : L2.ClsN K t.c_NoMap t.c_NoThing
  x_K : L2.ExcK K t.c_NoMap
  y_in : PySem.W.excIn K t.c_NoText [.type "ValueError", .type "Exception", .type "BaseException", .type "object"] "ValueError.__new__" = true
  y_up : L2.ClsU K t.c_NoText t.c_BendError
  y_ve : PySem.W.subIn K (.ref t.c_NoText) (.type "ValueError") = some true
  y_NoMap : L2.ClsN K t.c_NoText t.c_NoMap
  y_NotFlat : L2.ClsN K t.c_NoText t.c_NotFlat
  y_NoLand : L2.ClsN K t.c_NoText t.c_NoLand
  y_NoNet : L2.ClsN K t.c_NoText t.c_NoNet
  y_NoShape : L2.ClsN K t.c_NoText t.c_NoShape
  y_NoLaid : L2.ClsN K t.c_NoText t.c_NoLaid
  y_NoPicture : L2.ClsN K t.c_NoText t.c_NoPicture
  y_NoRow : L2.ClsN K t.c_NoText t.c_NoRow
  y_NoThing : L2.ClsN K t.c_NoText t.c_NoThing
  y_K : L2.ExcK K t.c_NoText
  z_ValueError : mg "ValueError" = none
end K74

abbrev K74.lawK : Nat := 60

namespace L2
open PySem PyProof.Rows
def TsI (H : Hp) (a : Addr) (ts : AW.Ts) : Prop := ∃ tr : List Addr, H a = some (.lst (tr.map V.ref)) ∧ tr.length = ts.length ∧ ∀ (i : Nat) t, ts[i]? = some t → ∃ r, tr[i]? = some r ∧ H r = some (.tup [.int t.1, .int t.2])
def OsI (H : Hp) (a : Addr) (os : AW.Os) : Prop := ∃ tr : List Addr, H a = some (.lst (tr.map V.ref)) ∧ tr.length = os.length ∧ ∀ (i : Nat) l, os[i]? = some l → ∃ r, tr[i]? = some r ∧ H r = some (.lst (l.map V.int))
def WebI (H : Hp) (w : Addr) (m : Int) (ts : AW.Ts) (os : AW.Os) : Prop := ∃ tA oA : Addr, H w = some (.tup [.int m, .ref tA, .ref oA]) ∧ TsI H tA ts ∧ OsI H oA os
theorem TsI.same {H H' : Hp} {a : Addr} {ts : AW.Ts} (h : TsI H a ts) (g : Same H H') : TsI H' a ts := by
  obtain ⟨tr, h1, h2, h3⟩ := h
  exact ⟨tr, g _ _ h1, h2, fun i t e => let ⟨r, q1, q2⟩ := h3 i t e; ⟨r, q1, g _ _ q2⟩⟩
theorem OsI.same {H H' : Hp} {a : Addr} {os : AW.Os} (h : OsI H a os) (g : Same H H') : OsI H' a os := by
  obtain ⟨tr, h1, h2, h3⟩ := h
  exact ⟨tr, g _ _ h1, h2, fun i t e => let ⟨r, q1, q2⟩ := h3 i t e; ⟨r, q1, g _ _ q2⟩⟩
theorem WebI.same {H H' : Hp} {w : Addr} {m : Int} {ts : AW.Ts} {os : AW.Os} (h : WebI H w m ts os) (g : Same H H') : WebI H' w m ts os := by
  obtain ⟨tA, oA, h1, h2, h3⟩ := h
  exact ⟨tA, oA, g _ _ h1, h2.same g, h3.same g⟩
theorem TsI.nth {H : Hp} {a : Addr} {ts : AW.Ts} {tr : List Addr} (h1 : tr.length = ts.length) (h2 : ∀ (i : Nat) t, ts[i]? = some t → ∃ r, tr[i]? = some r ∧ H r = some (.tup [.int t.1, .int t.2])) {i : Nat} {x : V} (hx : (tr.map V.ref)[i]? = some x) :
    ∃ t r, ts[i]? = some t ∧ x = .ref r ∧ H r = some (.tup [.int t.1, .int t.2]) := by
  rw [List.getElem?_map] at hx
  cases e : ts[i]? with
  | none =>
    have : tr[i]? = none := List.getElem?_eq_none (by rw [h1]; exact List.getElem?_eq_none_iff.mp e)
    rw [this] at hx; cases hx
  | some t =>
    obtain ⟨r, q1, q2⟩ := h2 i t e
    rw [q1] at hx
    cases hx
    exact ⟨t, r, rfl, rfl, q2⟩
theorem OsI.nth {H : Hp} {os : AW.Os} {tr : List Addr} (h1 : tr.length = os.length) (h2 : ∀ (i : Nat) l, os[i]? = some l → ∃ r, tr[i]? = some r ∧ H r = some (.lst (l.map V.int))) {i : Nat} {x : V} (hx : (tr.map V.ref)[i]? = some x) :
    ∃ l r, os[i]? = some l ∧ x = .ref r ∧ H r = some (.lst (l.map V.int)) := by
  rw [List.getElem?_map] at hx
  cases e : os[i]? with
  | none =>
    have : tr[i]? = none := List.getElem?_eq_none (by rw [h1]; exact List.getElem?_eq_none_iff.mp e)
    rw [this] at hx; cases hx
  | some t =>
    obtain ⟨r, q1, q2⟩ := h2 i t e
    rw [q1] at hx
    cases hx
    exact ⟨t, r, rfl, rfl, q2⟩

structure NewL (H H' : Hp) (r : Addr) (rr : List Addr) (ls : List (List V)) : Prop where
  at_ : H' r = some (.lst (rr.map V.ref))
  len : rr.length = ls.length
  row : ∀ (i : Nat) l, ls[i]? = some l → ∃ x, rr[i]? = some x ∧ H' x = some (.lst l)
  nd : rr.Nodup
  nin : r ∉ rr
  new : H r = none
  news : ∀ x ∈ rr, H x = none
theorem NewL.keep {H H' H2 : Hp} {r : Addr} {rr : List Addr} {ls : List (List V)} (n : NewL H H' r rr ls) (g : Same H' H2) : NewL H H2 r rr ls :=
  ⟨g _ _ n.at_, n.len, fun i l h => let ⟨x, h1, h2⟩ := n.row i l h; ⟨x, h1, g _ _ h2⟩, n.nd, n.nin, n.new, n.news⟩
theorem Same.fresh {H H' : Hp} (g : Same H H') {x : Addr} (hx : H x = none) (o : HO) : Same H (upd H' x o) := fun b u h => by rw [upd_ne (ne_of_none h hx)]; exact g _ _ h
theorem NewL.set {H0 H : Hp} {o x : Addr} {rr : List Addr} {ls : List (List V)} (n : NewL H0 H o rr ls) {p : Nat} {l : List V} (hx : rr[p]? = some x) : NewL H0 (upd H x (.lst l)) o rr (ls.set p l) where
  at_ := by rw [upd_ne (show o ≠ x from fun z => n.nin (z ▸ List.mem_of_getElem? hx))]; exact n.at_
  len := by rw [List.length_set]; exact n.len
  row := fun i m h => by
    by_cases e : p = i
    · subst e
      have hp : p < ls.length := n.len ▸ (List.getElem?_eq_some_iff.mp hx).1
      rw [List.getElem?_set_self hp] at h
      cases h
      exact ⟨x, hx, upd_same⟩
    · rw [List.getElem?_set_ne e] at h
      obtain ⟨y, h1, h2⟩ := n.row i m h
      refine ⟨y, h1, ?_⟩
      have ne : y ≠ x := by
        rintro rfl
        obtain ⟨a1, b1⟩ := List.getElem?_eq_some_iff.mp h1
        obtain ⟨a2, b2⟩ := List.getElem?_eq_some_iff.mp hx
        exact e ((List.getElem_inj n.nd).mp (b2.trans b1.symm))
      rw [upd_ne ne]; exact h2
  nd := n.nd
  nin := n.nin
  new := n.new
  news := n.news
theorem NewL.os {H H' : Hp} {r : Addr} {rr : List Addr} {os : AW.Os} (n : NewL H H' r rr (os.map fun l => l.map V.int)) : OsI H' r os :=
  ⟨rr, n.at_, by rw [n.len, List.length_map], fun i l h => n.row i _ (by rw [List.getElem?_map, h]; rfl)⟩

theorem comp_news {J : It} {js : List (Option Nat)} {σ : St} {H1 : Hp} {R : Hp → Prop} {D : Addr} {g : TG} {te : TE} (n : Nat) (fs : Nat → List V) (hD : H1 D = none) (hn : n ≤ 100000)
    (go : ∀ i H', i < n → Same H1 H' → J.go i H') (stop : ∀ H', Same H1 H' → J.stop n H')
    (hs : ∀ i H' x H'' (k : V → Hp → Prop), i < n → Same H1 H' → J.yld i H' x H'' → (∀ a H4, H' a = none → Same H' H4 → H4 a = some (.lst (fs i)) → k (.ref a) H4) → g x (inner js σ) H'' fun σ2 H2 => Fills (inner js σ) σ2 ∧ te σ2 H2 k)
    (hd : ∀ (rr : List Addr) H', NewL H1 H' D rr ((List.range n).map fs) → Same H1 H' → R H') :
    ∃ W : Nat → Nat → List V → Hp → Prop, (∃ m, W 0 m [] (upd H1 D (.lst []))) ∧
      ∀ i m ys H, W i m ys H → (J.stop i H ∧ R H) ∨ (J.go i H ∧ ∃ N : List V → Hp → Prop, (∀ ys' H', N ys' H' → ∃ m', m' < m ∧ W (i + 1) m' ys' H') ∧ ∀ x H', J.yld i H x H' → g x (inner js σ) H' fun σ2 H2 => Fills (inner js σ) σ2 ∧ tTrue σ2 H2 fun b H3 =>
        if b = true then te σ2 H3 fun y H4 => H4 D = some (.lst ys) ∧ ys.length < sizeLine ∧ N (ys ++ [y]) (upd H4 D (.lst (ys ++ [y]))) else N ys H3) := by
  refine comp_map n (fun i ys H' => ∃ rr : List Addr, ys = rr.map V.ref ∧ NewL H1 H' D rr ((List.range i).map fs) ∧ Same H1 H') ⟨[], rfl, ⟨upd_same, rfl, fun i l h => by simp at h, List.nodup_nil, by simp, hD, by simp⟩, same_new hD _⟩ ?_ ?_
  · rintro i ys H' hi ⟨rr, rfl, w, g1⟩
    have hl : rr.length = i := by rw [w.len]; simp
    refine ⟨go i H' hi g1, fun x H'' hy => hs i H' x H'' _ hi g1 hy fun a H4 ha g4 e4 => ⟨g4 _ _ w.at_, ?_, rr ++ [a], ?_, ?_, ?_⟩⟩
    · rw [List.length_map, hl]; exact Nat.lt_of_lt_of_le hi (Nat.le_trans hn (by decide))
    · rw [List.map_append]; rfl
    · have aD : a ≠ D := fun z => by rw [z, w.at_] at ha; cases ha
      have ain : a ∉ rr := fun z => by
        obtain ⟨j, hj, e⟩ := List.mem_iff_getElem.mp z
        have hj' : j < ((List.range i).map fs).length := w.len ▸ hj
        obtain ⟨y, h1, h2⟩ := w.row j _ (List.getElem?_eq_getElem hj')
        rw [List.getElem?_eq_getElem hj, e] at h1
        cases h1
        rw [ha] at h2; cases h2
      refine ⟨by rw [List.map_append]; exact upd_same, by simp [hl], fun j l h => ?_, ?_, ?_, hD, ?_⟩
      · by_cases hj : j < i
        · have e : ((List.range (i + 1)).map fs)[j]? = ((List.range i).map fs)[j]? := by simp [hj, Nat.lt_succ_of_lt hj]
          rw [e] at h
          obtain ⟨y, h1, h2⟩ := w.row j l h
          have yD : y ≠ D := fun z => w.nin (z ▸ List.mem_of_getElem? h1)
          exact ⟨y, by rw [List.getElem?_append_left (by omega)]; exact h1, by rw [upd_ne yD]; exact g4 _ _ h2⟩
        · have hj2 : j = i := by
            have := (List.getElem?_eq_some_iff.mp h).1
            simp at this; omega
          subst hj2
          have e : l = fs j := by simpa using h.symm
          subst e
          exact ⟨a, by rw [← hl, List.getElem?_concat_length], by rw [upd_ne aD]; exact e4⟩
      · rw [List.nodup_append]
        refine ⟨w.nd, by simp, fun b hb c hc z => ?_⟩
        have e : c = a := by simpa using hc
        subst e
        subst z
        exact ain hb
      · intro z
        rcases List.mem_append.mp z with z | z
        · exact w.nin z
        · exact aD (List.mem_singleton.mp z).symm
      · intro y hy
        rcases List.mem_append.mp hy with z | z
        · exact w.news y z
        · rw [List.mem_singleton.mp z]; exact g1.free ha
    · exact (g1.trans g4).fresh hD _
  · rintro ys H' ⟨rr, rfl, w, g1⟩
    exact ⟨stop H' g1, hd rr H' w g1⟩
theorem NewL.item {H0 H : Hp} {o : Addr} {rr : List Addr} {n : Nat} {f : Nat → List V} (w : NewL H0 H o rr ((List.range n).map f)) {p : Nat} (hp : p < n) :
    ∃ x, rr[p]? = some x ∧ H x = some (.lst (f p)) ∧ H0 x = none ∧ atI (rr.map V.ref) (p : Int) = some (.ref x) := by
  obtain ⟨x, h1, h2⟩ := w.row p (f p) (by simp [hp])
  exact ⟨x, h1, h2, w.news x (List.mem_of_getElem? h1), atI_nat (by rw [List.getElem?_map, h1]; rfl)⟩
theorem set_range {n p : Nat} {f : Nat → List V} {v : List V} : ((List.range n).map f).set p v = (List.range n).map fun i => if i = p then v else f i := by
  refine List.ext_getElem? fun i => ?_
  rw [List.getElem?_set]
  by_cases e : p = i
  · subst e
    by_cases h : p < n <;> simp [h]
  · rw [if_neg e]
    by_cases h : i < n
    · simp [h, Ne.symm e]
    · simp [h]
theorem NewL.put {H0 H : Hp} {o x : Addr} {rr : List Addr} {n p : Nat} {f : Nat → List V} (w : NewL H0 H o rr ((List.range n).map f)) (hx : rr[p]? = some x) (l : List V) :
    NewL H0 (upd H x (.lst l)) o rr ((List.range n).map fun i => if i = p then l else f i) := by
  rw [← set_range]; exact w.set hx
theorem NewL.other {H0 H : Hp} {o x : Addr} {rr : List Addr} {ls : List (List V)} (n : NewL H0 H o rr ls) (h1 : x ≠ o) (h2 : x ∉ rr) (u : HO) : NewL H0 (upd H x u) o rr ls :=
  ⟨by rw [upd_ne (Ne.symm h1)]; exact n.at_, n.len, fun i l h => by
    obtain ⟨y, a, b⟩ := n.row i l h
    have ne : y ≠ x := fun z => h2 (by rw [← z]; exact List.mem_of_getElem? a)
    exact ⟨y, a, by rw [upd_ne ne]; exact b⟩, n.nd, n.nin, n.new, n.news⟩
theorem NewL.notIn {H0 H : Hp} {o x : Addr} {rr : List Addr} {ls : List (List V)} (n : NewL H0 H o rr ls) (hx : H x = none) : x ∉ rr := fun z => by
  obtain ⟨i, hi, e⟩ := List.mem_iff_getElem.mp z
  obtain ⟨y, a, b⟩ := n.row i _ (List.getElem?_eq_getElem (n.len ▸ hi))
  rw [List.getElem?_eq_getElem hi, e] at a
  cases a
  rw [hx] at b; cases b
end L2

namespace L2
open PySem PyProof.Rows
theorem viaN {tt r : TS} {D : Ends} {σ : St} {H : Hp} (I : St → Hp → Prop) (ht : ∀ N : St → Hp → Prop, (∀ σ' H', I σ' H' → N σ' H') → tt { D with nx := N } σ H) (hr : ∀ σ' H', I σ' H' → r D σ' H') : tSeq tt r D σ H := ht _ hr
abbrev vv (os : AW.Os) : List (List V) := os.map fun l => l.map V.int
theorem NewL.at' {H0 H : Hp} {o : Addr} {rr : List Addr} {os : AW.Os} (w : NewL H0 H o rr (vv os)) {p : Nat} (hp : p < os.length) :
    ∃ x, rr[p]? = some x ∧ H x = some (.lst (os[p].map V.int)) ∧ H0 x = none ∧ atI (rr.map V.ref) (p : Int) = some (.ref x) := by
  obtain ⟨x, h1, h2⟩ := w.row p (os[p].map V.int) (by rw [List.getElem?_map, List.getElem?_eq_getElem hp]; rfl)
  exact ⟨x, h1, h2, w.news x (List.mem_of_getElem? h1), atI_nat (by rw [List.getElem?_map, h1]; rfl)⟩
theorem NewL.setI {H0 H : Hp} {o x : Addr} {rr : List Addr} {os : AW.Os} (w : NewL H0 H o rr (vv os)) {p : Nat} (hx : rr[p]? = some x) (l : List Int) : NewL H0 (upd H x (.lst (l.map V.int))) o rr (vv (os.set p l)) := by
  have := w.set (l := l.map V.int) hx
  rwa [show (vv os).set p (l.map V.int) = vv (os.set p l) from (List.map_set ..).symm] at this
end L2
namespace AW
end AW

namespace AW
def inWb (m : Int) (ts : Ts) : Bool := ts.all fun t => (decide (0 ≤ t.1) && decide (t.1 < m)) && (decide (0 ≤ t.2) && decide (t.2 < m))
theorem inWb_iff {m : Int} {ts : Ts} : inWb m ts = true ↔ InW m ts := by
  unfold inWb InW
  rw [List.all_eq_true]
  simp only [Bool.and_eq_true, decide_eq_true_eq]
end AW
namespace K74
open PySem L2 PyProof.Rows
variable {P : Program} {w : World} {K : PySem.W.Frag} {mg : Str → Option Value} {base : Heap} {t : Adr}
theorem ch0 {σ : L2.St} {H : Hp} {Q : VK} {i j : Nat} {x m : Int} (h1 : σ[i]? = some (some (.int x))) (h2 : σ[j]? = some (some (.int m))) (q : Q (.bl (decide (0 ≤ x) && decide (x < m))) H) :
    tChain (rI0 fun i j => V.bl (decide (i ≤ j))) (rI0 fun i j => V.bl (decide (i < j))) (tC (V.int 0)) (tVar i) (tVar j) σ H Q := by
  refine ⟨_, h1, _, _, rfl, rfl, _, rfl, ?_⟩
  by_cases c : (0 : Int) ≤ x
  · rw [if_pos (decide_eq_true c)]
    rw [decide_eq_true c, Bool.true_and] at q
    exact ⟨_, h2, _, _, rfl, rfl, q⟩
  · rw [if_neg (by simpa using c)]
    rw [decide_eq_false c, Bool.false_and] at q
    exact q
def spTnp : Sp := fun vs H Q _ => ∃ (m : Int) (a : Addr) (ts : AW.Ts), vs = [.int m, .ref a] ∧ TsI H a ts ∧ ts.length ≤ 1000 ∧ ∀ H', Same H H' → Q (.bl (AW.inWb m ts)) H'
theorem ok_tnp (T : Txt K mg t) : FnOk P w K mg base CX0 1 t.a_ties_name_places t.d_ties_name_places ["many", "ties"] spTnp := by
  refine T.F_ties_name_places.ok sc_ties_name_places (fun vs H Q E h => ?_) (fun cdv A outer s H vs Q E hr h => ?_)
  · obtain ⟨m, a, ts, rfl, _⟩ := h; rfl
  obtain ⟨m, a, ts, rfl, ⟨tr, e1, e2, e3⟩, hl, q⟩ := h
  have nd := sc_ties_name_places.nd
  have nd_a_b_many : (["a", "b", "many"] : List Str).Nodup := by decide
  refine ⟨_, (pss_one (ps_ret (pe_callB (call_allB rfl) rfl T.z_all boot_all (pa_cons (pe_comp (N' := ["a", "b", "many"]) (js := [none, none, some 0]) rfl (pi_list (pv 1)) (fun _ _ _ _ _ => (kpg_tup (K := K) (n := 2) rfl rfl (pgs_cons (pg_name (i := 0) nd_a_b_many rfl (Or.inl rfl)) (pgs_cons (pg_name (i := 1) nd_a_b_many rfl (Or.inl rfl)) pgs_nil)))) (fun _ _ _ _ _ => pf_nil) (fun _ _ _ _ _ => (pe_and (pe_chain op_le op_lt pe_int (pv 0) (pv 2)) (pe_one (pe_chain op_le op_lt pe_int (pv 1) (pv 2)))))) pa_nil)))), ?_⟩
  refine ⟨_, rfl, a, rfl, ⟨_, SqL.of e1⟩, fun D hD => ?_⟩
  let fs : Nat → Bool := fun k => (ts[k]?).any fun t => (decide (0 ≤ t.1) && decide (t.1 < m)) && (decide (0 ≤ t.2) && decide (t.2 < m))
  refine comp_pure ts.length (fun k => .bl (fs k)) hD (by omega) (fun i H' hi g2 => ?_) (fun H' g2 => ⟨_, SqL.of (g2 _ _ e1), by rw [List.length_map]; omega⟩) ?_ ?_
  · obtain ⟨r, q1, _⟩ := e3 i ts[i] (List.getElem?_eq_getElem hi)
    exact ⟨_, .ref r, SqL.of (g2 _ _ e1), by rw [List.getElem?_map, q1]; rfl⟩
  · rintro i H' x H'' k hi g2 ⟨rfl, hx⟩ hk
    obtain ⟨t, r, et, rfl, er⟩ := TsI.nth (a := a) e2 e3 (hx _ (SqL.of (g2 _ _ e1)))
    have hf : fs i = ((decide (0 ≤ t.1) && decide (t.1 < m)) && (decide (0 ≤ t.2) && decide (t.2 < m))) := by show (ts[i]?).any _ = _; rw [et]; rfl
    have hk0 := hk H'' (Same.refl _)
    rw [hf] at hk0
    refine ⟨r, _, rfl, SqT.of (g2 _ _ er), rfl, ?_⟩
    refine ⟨_, _, rfl, _, _, rfl, rfl, ((Fills.refl _).set _ rfl).set _ rfl, ?_⟩
    refine ch0 (x := t.1) (m := m) rfl rfl ⟨_, rfl, ?_⟩
    by_cases c : (decide (0 ≤ t.1) && decide (t.1 < m)) = true
    · rw [if_pos c]
      rw [c, Bool.true_and] at hk0
      exact ch0 (x := t.2) (m := m) rfl rfl hk0
    · rw [if_neg c]
      rw [Bool.eq_false_iff.mpr c, Bool.false_and] at hk0
      exact hk0
  · intro H' g2 hD'
    rw [show (List.range ts.length).map (fun k => V.bl (fs k)) = ((List.range ts.length).map fs).map V.bl by rw [List.map_map]; rfl] at hD'
    refine ⟨D, _, rfl, SqL.of hD', ?_⟩
    have e : ((List.range ts.length).map fs).all id = AW.inWb m ts := by
      unfold AW.inWb
      rw [Bool.eq_iff_iff, List.all_eq_true, List.all_eq_true]
      constructor
      · intro h x hx
        obtain ⟨i, hi, rfl⟩ := List.mem_iff_getElem.mp hx
        have := h (fs i) (List.mem_map.mpr ⟨i, List.mem_range.mpr hi, rfl⟩)
        have e : fs i = _ := (show (ts[i]?).any _ = _ from by rw [List.getElem?_eq_getElem hi])
        rw [e] at this
        exact this
      · intro h b hb
        obtain ⟨i, hi, rfl⟩ := List.mem_map.mp hb
        have hi := List.mem_range.mp hi
        have e : fs i = _ := (show (ts[i]?).any _ = _ from by rw [List.getElem?_eq_getElem hi])
        rw [e]
        exact h _ (List.getElem_mem hi)
    rw [e]
    exact q H' g2
end K74

namespace K74
open PySem L2 PyProof.Rows
variable {P : Program} {w : World} {K : PySem.W.Frag} {mg : Str → Option Value} {base : Heap} {t : Adr}
def spEap : Sp := fun vs H Q _ => ∃ (m : Nat) (a : Addr) (ts : AW.Ts), vs = [vn m, .ref a] ∧ TsI H a ts ∧ AW.InW m ts ∧ m ≤ 1000 ∧ ts.length ≤ 1000 ∧
  ∀ (r : Addr) (H' : Hp), Same H H' → OsI H' r ((List.range m).map fun p : Nat => AW.endsAt ts p) → Q (.ref r) H'
theorem ok_eap (T : Txt K mg t) : FnOk P w K mg base CX0 1 t.a_ends_at_places t.d_ends_at_places ["many", "ties"] spEap := by
  refine T.F_ends_at_places.ok sc_ends_at_places (fun vs H Q E h => ?_) (fun cdv A outer s H vs Q E hr h => ?_)
  · obtain ⟨m, a, ts, rfl, _⟩ := h; rfl
  obtain ⟨m, a, ts, rfl, ⟨tr, e1, e2, e3⟩, hw, hm, hl, q⟩ := h
  have nd := sc_ends_at_places.nd
  have nd_place : (["place"] : List Str).Nodup := by decide
  refine ⟨_, (pss_cons (ps_setComp (i := 2) nd rfl (Or.inl rfl)  (N' := ["place"]) (js := [none]) rfl (pi_range1 rfl T.z_range (pa_cons (pv 0) pa_nil)) (fun _ _ _ _ _ => (pg_name (i := 0) nd_place rfl (Or.inl rfl))) (fun _ _ _ _ _ => pf_nil) (fun _ _ _ _ _ => (pe_lst pa_nil)))
    (pss_cons (ps_for PassesOwn.never rfl (pi_enum rfl T.z_enumerate (pa_cons (pv 1) pa_nil)) (pg_tup rfl (pgs_cons (pg_name (i := 3) nd rfl (Or.inl rfl)) (pgs_cons (pg_name (i := 4) nd rfl (Or.inl rfl)) pgs_nil))) (pss_cons (ps_expr (pe_bm PySem.F.plainAttrs_list PySem.F.slot_list_append PySem.F.type_list_append mt_append (pe_ix ix_list (pv 2) (pe_ix ix_tup (pv 4) pe_int (fun _ _ => rfl)) (fun _ _ => rfl)) (pa_cons (pe_op op_mul pe_int (pv 3)) pa_nil)))
    (pss_one (ps_expr (pe_bm PySem.F.plainAttrs_list PySem.F.slot_list_append PySem.F.type_list_append mt_append (pe_ix ix_list (pv 2) (pe_ix ix_tup (pv 4) pe_int (fun _ _ => rfl)) (fun _ _ => rfl)) (pa_cons (pe_op op_add (pe_op op_mul pe_int (pv 3)) pe_int) pa_nil))))))
    (pss_one (ps_ret (pv 2))))), ?_⟩
  refine ⟨_, rfl, (m : Int), rfl, by omega, by omega, fun D hD => ?_⟩
  refine comp_news m (fun _ => []) hD (by omega) (fun i H' hi g2 => ?_) (fun H' g2 => ?_) ?_ ?_
  · show i < ((m : Int) - 0).toNat; omega
  · show ((m : Int) - 0).toNat ≤ m; omega
  · rintro i H' x H'' k hi g2 hy hk
    obtain ⟨e, y⟩ := hy
    subst e
    exact ⟨(Fills.refl _).set _ rfl, (by show 0 ≤ sizeLine; decide), fun l hl' => hk l _ hl' (same_new hl' _) upd_same⟩
  · intro rr H1 w1 g1
    let F : Nat → Nat → List V := fun k p => (AW.endsAt (ts.take k) p).map V.int
    refine ⟨_, rfl, a, rfl, ⟨_, SqL.of (g1 _ _ e1)⟩, for_enum (K := K) (a := a) (xs := tr.map V.ref) (fun k σ H' => (∃ v3 v4, σ = [some (vn m), some (.ref a), some (.ref D), v3, v4]) ∧ NewL H H' D rr ((List.range m).map (F k)) ∧ Same H H') ⟨⟨_, _, rfl⟩, ?_, g1⟩ ?_ ?_ ?_⟩
    · have e : F 0 = fun _ => [] := by funext p; show (AW.endsAt (ts.take 0) p).map V.int = []; rw [List.take_zero]; rfl
      rw [e]; exact w1
    · rintro i σ H' hi ⟨_, _, g2⟩
      exact SqL.of (g2 _ _ e1)
    · rintro i x σ H' Tp hx ⟨⟨v3, v4, rfl⟩, w2, g2⟩ hTp
      obtain ⟨⟨u, v⟩, r, et, rfl, er⟩ := TsI.nth (a := a) e2 e3 hx
      obtain ⟨⟨u0, u1⟩, v0, v1⟩ := hw _ (List.mem_of_getElem? et)
      obtain ⟨p1, rfl⟩ := Int.eq_ofNat_of_zero_le u0
      obtain ⟨p2, rfl⟩ := Int.eq_ofNat_of_zero_le v0
      have u1 : p1 < m := Int.ofNat_lt.mp u1
      have v1 : p2 < m := Int.ofNat_lt.mp v1
      have hi : i < ts.length := (List.getElem?_eq_some_iff.mp et).1
      have g3 := g2.trans (same_new hTp (.tup [vn i, .ref r]))
      have w3 := w2.keep (same_new hTp (.tup [vn i, .ref r]))
      have small : ∀ (k p : Nat), (F k p).length < sizeLine := fun k p => by
        show ((AW.endsAt (ts.take k) p).map V.int).length < sizeLine
        have h1 : (AW.endsAt (ts.take k) p).length ≤ (AW.all2 (ts.take k)).length := List.length_filter_le ..
        have h2 : (AW.all2 (ts.take k)).length ≤ 2000 := by unfold AW.all2; rw [List.length_map, List.length_range, List.length_take]; omega
        rw [List.length_map]
        exact Nat.lt_of_le_of_lt (Nat.le_trans h1 h2) (by decide)
      refine ⟨Tp, _, rfl, SqT.of upd_same, rfl, _, _, rfl, _, _, rfl, rfl, ?_⟩
      obtain ⟨x1, a1, b1, c1, d1⟩ := w3.item u1
      refine ⟨_, rfl, _, rfl, r, _, _, _, rfl, rfl, SqT.of (g3 _ _ er), rfl, D, _, _, _, rfl, rfl, SqL.of w3.at_, d1, .inl ⟨rfl, _, SqL.of b1⟩, _, rfl, _, _, rfl, rfl, .inl ⟨by decide, by decide⟩, x1, _, _, rfl, rfl, b1, small i p1, ?_⟩
      have w4 := w3.put a1 (F i p1 ++ [V.int (2 * (i : Int))])
      have g4 := g3.fresh c1 (.lst (F i p1 ++ [V.int (2 * (i : Int))]))
      obtain ⟨x2, a2, b2, c2, d2⟩ := w4.item v1
      refine ⟨_, rfl, _, rfl, r, _, _, _, rfl, rfl, SqT.of (g4 _ _ er), rfl, D, _, _, _, rfl, rfl, SqL.of w4.at_, d2, .inl ⟨rfl, _, SqL.of b2⟩, _, rfl, _, _, rfl, rfl, .inl ⟨by decide, by decide⟩, _, _, rfl, rfl, x2, _, _, rfl, rfl, b2, ?_, ⟨_, _, rfl⟩, ?_, g4.fresh c2 _⟩
      · show (if p2 = p1 then F i p1 ++ [V.int (2 * (i : Int))] else F i p2).length < sizeLine
        have h1 := small i p1
        have h2 := small i p2
        split
        · rw [List.length_append]
          have h3 : (AW.endsAt (ts.take i) p1).length ≤ (AW.all2 (ts.take i)).length := List.length_filter_le ..
          have h4 : (AW.all2 (ts.take i)).length ≤ 2000 := by unfold AW.all2; rw [List.length_map, List.length_range, List.length_take]; omega
          have h5 : (F i p1).length = (AW.endsAt (ts.take i) p1).length := List.length_map ..
          exact Nat.lt_of_le_of_lt (show _ ≤ 2001 by rw [h5]; simp; omega) (by decide)
        · exact h2
      · have w5 := w4.put a2 ((if p2 = p1 then F i p1 ++ [V.int (2 * (i : Int))] else F i p2) ++ [V.int (2 * (i : Int) + 1)])
        have e : (fun j => if j = p2 then (if p2 = p1 then F i p1 ++ [V.int (2 * (i : Int))] else F i p2) ++ [V.int (2 * (i : Int) + 1)] else if j = p1 then F i p1 ++ [V.int (2 * (i : Int))] else F i j) = F (i + 1) := by
          funext j
          have ht : ts.take (i + 1) = ts.take i ++ [((p1 : Int), (p2 : Int))] := by rw [List.take_add_one, et]; rfl
          have hlt : (ts.take i).length = i := by rw [List.length_take]; omega
          show _ = (AW.endsAt (ts.take (i + 1)) j).map V.int
          rw [ht, AW.endsAt_snoc, hlt, List.map_append, List.map_append]
          have c1 : ((p1 : Int) = (j : Int)) ↔ (j = p1) := by omega
          have c2 : ((p2 : Int) = (j : Int)) ↔ (j = p2) := by omega
          simp only [c1, c2]
          by_cases k2 : j = p2
          · subst k2
            by_cases k1 : j = p1
            · subst k1; simp [F]
            · simp [F, k1]
          · by_cases k1 : j = p1
            · subst k1; simp [F, k2]
            · simp [F, k1, k2]
        rw [e] at w5
        exact w5
    · rintro σ H' ⟨⟨v3, v4, rfl⟩, w2, g2⟩
      refine ⟨_, rfl, q D H' g2 ?_⟩
      have e : F (tr.map V.ref).length = fun p : Nat => (AW.endsAt ts p).map V.int := by funext p; show (AW.endsAt (ts.take _) p).map V.int = _; rw [List.length_map, e2, List.take_length]
      rw [e] at w2
      refine NewL.os (rr := rr) (H := H) ?_
      rw [List.map_map]
      exact w2
end K74

namespace L2
open PySem PySem.Spec PyProof.Rows TX
theorem comp_objs {J : It} {js : List (Option Nat)} {σ : St} {H1 : Hp} {R : Hp → Prop} {D : Addr} {g : TG} {te : TE} (n : Nat) (Pe : Nat → HO → Prop) (hD : H1 D = none) (hn : n ≤ 100000)
    (go : ∀ i H', i < n → Same H1 H' → J.go i H') (stop : ∀ H', Same H1 H' → J.stop n H')
    (hs : ∀ i H' x H'' (k : V → Hp → Prop), i < n → Same H1 H' → J.yld i H' x H'' → (∀ a o H4, Pe i o → H' a = none → Same H' H4 → H4 a = some o → k (.ref a) H4) → g x (inner js σ) H'' fun σ2 H2 => Fills (inner js σ) σ2 ∧ te σ2 H2 k)
    (hd : ∀ (rr : List Addr) H', rr.length = n → (∀ (i : Nat) a, rr[i]? = some a → ∃ o, Pe i o ∧ H' a = some o) → Same H1 H' → H' D = some (.lst (rr.map V.ref)) → R H') :
    ∃ W : Nat → Nat → List V → Hp → Prop, (∃ m, W 0 m [] (upd H1 D (.lst []))) ∧
      ∀ i m ys H, W i m ys H → (J.stop i H ∧ R H) ∨ (J.go i H ∧ ∃ N : List V → Hp → Prop, (∀ ys' H', N ys' H' → ∃ m', m' < m ∧ W (i + 1) m' ys' H') ∧ ∀ x H', J.yld i H x H' → g x (inner js σ) H' fun σ2 H2 => Fills (inner js σ) σ2 ∧ tTrue σ2 H2 fun b H3 =>
        if b = true then te σ2 H3 fun y H4 => H4 D = some (.lst ys) ∧ ys.length < sizeLine ∧ N (ys ++ [y]) (upd H4 D (.lst (ys ++ [y]))) else N ys H3) := by
  refine comp_map n (fun i ys H' => ∃ rr : List Addr, ys = rr.map V.ref ∧ rr.length = i ∧ (∀ (j : Nat) a, rr[j]? = some a → ∃ o, Pe j o ∧ H' a = some o) ∧ D ∉ rr ∧ Same H1 H' ∧ H' D = some (.lst (rr.map V.ref))) ⟨[], rfl, rfl, fun j a h => by simp at h, by simp, same_new hD _, upd_same⟩ ?_ ?_
  · rintro i ys H' hi ⟨rr, rfl, hl, hp, nD, g1, eD⟩
    refine ⟨go i H' hi g1, fun x H'' hy => hs i H' x H'' _ hi g1 hy fun a o H4 hP ha g4 e4 => ⟨g4 _ _ eD, ?_, rr ++ [a], ?_, ?_, ?_, ?_, ?_, ?_⟩⟩
    · rw [List.length_map, hl]; exact Nat.lt_of_lt_of_le hi (Nat.le_trans hn (by decide))
    · rw [List.map_append]; rfl
    · simp [hl]
    · have aD : a ≠ D := fun z => by rw [z, eD] at ha; cases ha
      intro j b hb
      by_cases hj : j < i
      · rw [List.getElem?_append_left (by omega)] at hb
        obtain ⟨o', h1, h2⟩ := hp j b hb
        exact ⟨o', h1, by rw [upd_ne (show b ≠ D from fun z => nD (z ▸ List.mem_of_getElem? hb))]; exact g4 _ _ h2⟩
      · have hj2 : j = i := by
          have := (List.getElem?_eq_some_iff.mp hb).1
          simp at this; omega
        subst hj2
        rw [← hl, List.getElem?_concat_length] at hb
        cases hb
        exact ⟨o, hP, by rw [upd_ne aD]; exact e4⟩
    · intro z
      rcases List.mem_append.mp z with z | z
      · exact nD z
      · have := List.mem_singleton.mp z
        rw [← this, eD] at ha; cases ha
    · exact (g1.trans g4).fresh hD _
    · rw [List.map_append]; exact upd_same
  · rintro ys H' ⟨rr, rfl, hl, hp, nD, g1, eD⟩
    exact ⟨stop H' g1, hd rr H' hl hp g1 eD⟩
def RwsAt (H : Hp) (a : Addr) (W : List Rw) : Prop := ∃ rr : List Addr, H a = some (.lst (rr.map V.ref)) ∧ rr.length = W.length ∧ ∀ (i : Nat) r, W[i]? = some r → ∃ x, rr[i]? = some x ∧ H x = some (.lst (vxs r))
theorem RwsAt.same {H H' : Hp} {a : Addr} {W : List Rw} (h : RwsAt H a W) (g : Same H H') : RwsAt H' a W := by
  obtain ⟨rr, h1, h2, h3⟩ := h
  exact ⟨rr, g _ _ h1, h2, fun i r e => let ⟨x, q1, q2⟩ := h3 i r e; ⟨x, q1, g _ _ q2⟩⟩
theorem rws_nth {H : Hp} {W : List Rw} {rr : List Addr} (h1 : rr.length = W.length) (h2 : ∀ (i : Nat) r, W[i]? = some r → ∃ x, rr[i]? = some x ∧ H x = some (.lst (vxs r))) {i : Nat} {v : V} (hx : (rr.map V.ref)[i]? = some v) :
    ∃ r x, W[i]? = some r ∧ v = .ref x ∧ H x = some (.lst (vxs r)) := by
  rw [List.getElem?_map] at hx
  cases e : W[i]? with
  | none =>
    have : rr[i]? = none := List.getElem?_eq_none (by rw [h1]; exact List.getElem?_eq_none_iff.mp e)
    rw [this] at hx; cases hx
  | some r =>
    obtain ⟨x, q1, q2⟩ := h2 i r e
    rw [q1] at hx
    cases hx
    exact ⟨r, x, rfl, rfl, q2⟩
theorem passF {P : Program} {w : World} {C : Addr} {X : Cx} : Passes (CXr P w C) X (fun _ _ _ => False) := fun _ _ _ _ _ _ _ h => by
  obtain ⟨_, _, _, _, _, _, _, _, _, _, _, _, hE⟩ := h
  exact hE.elim
theorem cut_fromV (xs : List V) (k : Nat) : cutV xs (some (k : Int)) none = xs.drop k := by
  unfold cutV
  rw [HT.sIx_none, HT.sIx_nat]
  by_cases h : k ≤ xs.length
  · rw [Nat.min_eq_left h, List.take_of_length_le (by rw [List.length_drop]; omega)]
  · rw [Nat.min_eq_right (by omega), List.drop_of_length_le (Nat.le_refl _), List.drop_of_length_le (by omega), List.take_nil]
theorem cut_toV (xs : List V) (k : Nat) : cutV xs none (some (k : Int)) = xs.take k := by
  unfold cutV
  rw [HT.sIx_none, HT.sIx_nat, List.drop_zero, Nat.sub_zero]
  by_cases h : k ≤ xs.length
  · rw [Nat.min_eq_left h]
  · rw [Nat.min_eq_right (by omega), List.take_of_length_le (Nat.le_refl _), List.take_of_length_le (by omega)]
section
variable {X : Cx} {a b : Expr} {rest : List Expr} {pos : Pos} {ta tb : TE}
def tAndT (K : PySem.W.Frag) (ta tb : TE) : TE := fun σ H Q => ta σ H fun x H1 => ∃ k, TruV K x H1 k ∧ if k = true then tb σ H1 Q else Q x H1
theorem pe_andT (ha : PE X a ta) (hb : PE X (.BoolOp .And (b :: rest) pos) tb) : PE X (.BoolOp .And (a :: b :: rest) pos) (tAndT X.K ta tb) := by
  intro pins s σ H Q I h
  refine BoolOp_and (thn (ha pins s σ H _ I h) fun v s1 ⟨x, H1, I1, r1, q1⟩ => ?_)
  obtain ⟨k, e, q1⟩ := q1
  refine thn (tru_ok pins s1 σ H1 x v (fun c H2 => c = k ∧ H2 = H1) I1 r1 ⟨k, e, rfl, rfl⟩) fun c s2 ⟨H2, I2, h1, h2⟩ => ?_
  subst h1 h2
  cases c with
  | true => exact hb pins s2 σ H2 Q I2 q1
  | false => exact ⟨x, H2, I2, r1, q1⟩
end
end L2

namespace L2
open PySem PySem.Spec PyProof.Rows
theorem inV_ints (x : Int) (ns : List Int) : inV (.int x) (ns.map V.int) = decide (x ∈ ns) := by
  unfold inV
  rw [Bool.eq_iff_iff, List.any_eq_true, decide_eq_true_iff]
  constructor
  · rintro ⟨y, hy, h⟩
    obtain ⟨z, hz, rfl⟩ := List.mem_map.mp hy
    have : z = x := by simpa [eqV] using h
    exact this ▸ hz
  · intro h
    exact ⟨.int x, List.mem_map.mpr ⟨x, h, rfl⟩, by simp [eqV]⟩
theorem flat_ints (ns : List Int) : (ns.map V.int).all flatV = true := by
  rw [List.all_eq_true]; intro y hy; obtain ⟨n, _, rfl⟩ := List.mem_map.mp hy; rfl
end L2

namespace L2
open PySem PySem.Spec PyProof.Rows
section
variable {X : Cx}
def CDivW (_ j : Int) : Prop := 0 < j ∧ j.natAbs.log2 < 9000
theorem op_fdivW : OpR X (binaryOp .FloorDiv) (rI CDivW fun i j => .int (i / j)) := opI fun i j _ _ _ _ _ hc q => by
  have h1 : (0 : Int) < j := hc.1
  exact floordiv_int (by omega) (by rw [Int.fdiv_eq_ediv_of_nonneg i (by omega)]; exact q) (.inl (PyProof.noPylong_of_log2 hc.2))
def rIndexV : V → List V → Hp → VK → Prop := fun x vs H Q => ∃ (l : Addr) (xs : List V) (v : V) (j : Nat), x = .ref l ∧ vs = [v] ∧ H l = some (.lst xs) ∧ flatV v = true ∧ xs.all flatV = true ∧ (∃ y, xs[j]? = some y ∧ eqV y v = true) ∧ (∀ m y, m < j → xs[m]? = some y → eqV y v = false) ∧ Q (vn j) H
theorem mt_indexV : MtM X "list.index" rIndexV := by
  intro pins s σ H x vs v us Q I rx rv h
  obtain ⟨l, xs, k, j, rfl, rfl, hH, fk, fl, ⟨yj, ey, hy⟩, hm, q⟩ := h
  cases rx
  obtain ⟨u, rfl, ru⟩ := rv.one
  obtain ⟨z, its, n, r, hl, e⟩ := I.lstM hH
  have item : ∀ (m : Nat) (hm : m < its.toArray.size) (y : V), xs[m]? = some y → eqU k its.toArray[m] = eqV y k := fun m hm' y hx => by
    obtain ⟨u', hu', ru'⟩ := r.get hx
    have e1 : its.toArray[m] = u' := by
      have : its[m]? = some its.toArray[m] := by simp at hm' ⊢
      rw [this] at hu'; exact Option.some.inj hu'
    rw [e1, eqU_of ru' (List.all_eq_true.mp fl y (List.mem_of_getElem? hx))]
  have hj : j < xs.length := (List.getElem?_eq_some_iff.mp ey).1
  have hsm : ((j : Nat) : Int) < 2 ^ 63 - 1 := by
    have h1 := line63
    omega
  refine call_meets F.slot_list_index ⟨_, e, rfl⟩ F.entry_list_index (F.args_list_index_2 _ _) (SeqAt.list_indexAt l its.toArray n none #[] u (eqU k) j (by rw [List.size_toArray]; omega) hsm ?_ ?_) ⟨e, fun y hy => ?_, ?_⟩
  · rw [item j _ yj ey]; exact hy
  · intro m hm' hlt
    rw [item m hm' xs[m] (List.getElem?_eq_getElem (by omega))]
    exact hm m _ hlt (List.getElem?_eq_getElem (by omega))
  · exact mem_eqAt (x := k) ru fk r fl y (by simpa using hy)
  · exact ⟨vn j, H, I.tok _, ⟨_, rfl⟩, q⟩
def rCountV : V → List V → Hp → VK → Prop := fun x vs H Q => ∃ (l : Addr) (xs : List V) (v : V), x = .ref l ∧ vs = [v] ∧ H l = some (.lst xs) ∧ flatV v = true ∧ xs.all flatV = true ∧ Q (vn (xs.countP fun y => eqV y v)) H
theorem countP_vals {k : V} : ∀ {xs : List V} {us : List Value}, Vals xs us → xs.all flatV = true → us.countP (eqU k) = xs.countP fun y => eqV y k
  | _, _, .nil, _ => rfl
  | y :: xs, u :: us, .cons r t, f => by
    rw [List.all_cons, Bool.and_eq_true] at f
    rw [List.countP_cons, List.countP_cons, countP_vals t f.2, eqU_of r f.1]
theorem mt_countV : MtM X "list.count" rCountV := by
  intro pins s σ H x vs v us Q I rx rv h
  obtain ⟨l, xs, k, rfl, rfl, hH, fk, fl, q⟩ := h
  cases rx
  obtain ⟨u, rfl, ru⟩ := rv.one
  obtain ⟨z, its, n, r, hl, e⟩ := I.lstM hH
  refine call_meets PySem.F.slot_list_count ⟨_, e, rfl⟩ PySem.F.entry_list_count (PySem.F.args_list_count_2 _ _) (SeqAt.list_countAt l its.toArray n none #[] u (eqU k)) ⟨e, fun y hy => mem_eqAt (x := k) ru fk r fl y (by simpa using hy), ?_⟩
  rw [show its.toArray.toList = its from rfl, countP_vals r fl]
  exact ⟨vn (xs.countP fun y => eqV y k), H, I.tok _, ⟨_, rfl⟩, q⟩
end
theorem comp_fil {J : It} {js : List (Option Nat)} {σ : St} {H1 : Hp} {R : Hp → Prop} {D : Addr} {g : TG} {tc : TT} {te : TE} (n : Nat) (fs : Nat → V) (p : Nat → Bool) (hD : H1 D = none) (hn : n ≤ 100000)
    (go : ∀ i H', i < n → Same H1 H' → J.go i H') (stop : ∀ H', Same H1 H' → J.stop n H')
    (hs : ∀ i H' x H'' (kt : V → Hp → Prop) (kf : Hp → Prop), i < n → Same H1 H' → J.yld i H' x H'' → (p i = true → ∀ H4, Same H' H4 → kt (fs i) H4) → (p i = false → ∀ H4, Same H' H4 → kf H4) →
      g x (inner js σ) H'' fun σ2 H2 => Fills (inner js σ) σ2 ∧ tc σ2 H2 fun b H3 => if b = true then te σ2 H3 kt else kf H3)
    (hd : ∀ H', Same H1 H' → H' D = some (.lst (((List.range n).filter p).map fs)) → R H') :
    ∃ W : Nat → Nat → List V → Hp → Prop, (∃ m, W 0 m [] (upd H1 D (.lst []))) ∧
      ∀ i m ys H, W i m ys H → (J.stop i H ∧ R H) ∨ (J.go i H ∧ ∃ N : List V → Hp → Prop, (∀ ys' H', N ys' H' → ∃ m', m' < m ∧ W (i + 1) m' ys' H') ∧ ∀ x H', J.yld i H x H' → g x (inner js σ) H' fun σ2 H2 => Fills (inner js σ) σ2 ∧ tc σ2 H2 fun b H3 =>
        if b = true then te σ2 H3 fun y H4 => H4 D = some (.lst ys) ∧ ys.length < sizeLine ∧ N (ys ++ [y]) (upd H4 D (.lst (ys ++ [y]))) else N ys H3) := by
  refine comp_by n (fun i ys H' => ys = ((List.range i).filter p).map fs ∧ Same H1 H' ∧ H' D = some (.lst ys)) ⟨rfl, same_new hD _, upd_same⟩ ?_ ?_
  · rintro i ys H' hi ⟨rfl, g1, eD⟩
    have en : ((List.range (i + 1)).filter p).map fs = ((List.range i).filter p).map fs ++ (if p i = true then [fs i] else []) := by
      rw [List.range_succ, List.filter_append, List.map_append]
      congr 1
      by_cases h : p i = true
      · simp [h]
      · simp [h]
    refine ⟨go i H' hi g1, fun x H'' hy => hs i H' x H'' _ _ hi g1 hy (fun hp H4 g4 => ⟨g4 _ _ eD, ?_, ?_, (g1.trans g4).fresh hD _, upd_same⟩) (fun hp H4 g4 => ⟨?_, g1.trans g4, g4 _ _ eD⟩)⟩
    · rw [List.length_map]
      refine Nat.lt_of_le_of_lt (List.length_filter_le _ _) ?_
      rw [List.length_range]
      exact Nat.lt_of_lt_of_le hi (Nat.le_trans hn (by decide))
    · rw [en, if_pos hp]
    · rw [en, if_neg (by rw [hp]; exact Bool.false_ne_true), List.append_nil]
  · rintro ys H' ⟨rfl, g1, eD⟩
    exact ⟨stop H' g1, hd H' g1 eD⟩
end L2

namespace K74
open PySem L2 PyProof.Rows
variable {P : Program} {w : World} {K : PySem.W.Frag} {mg : Str → Option Value} {base : Heap} {t : Adr}
def spOfit : Sp := fun vs H Q _ => ∃ (wa : Addr) (m : Nat) (ts : AW.Ts) (os : AW.Os), vs = [.ref wa] ∧ WebI H wa m ts os ∧ AW.InW m ts ∧ m ≤ 1000 ∧ ts.length ≤ 1000 ∧
  ∀ (b : Bool) (H' : Hp), Same H H' → (b = true ↔ os.length = m ∧ AW.Fit ts os) → Q (.bl b) H'
theorem ok_ofit (T : Txt K mg t) : FnOk P w K mg base CX0 2 t.a_orders_fit t.d_orders_fit ["web"] spOfit := by
  have G_ends_at_places := ok_eap (P := P) (w := w) (base := base) T
  refine T.F_orders_fit.ok sc_orders_fit (fun vs H Q E h => ?_) (fun cdv A outer s H vs Q E hr h => ?_)
  · obtain ⟨wa, m, ts, os, rfl, _⟩ := h; rfl
  obtain ⟨wa, m, ts, os, rfl, ⟨tA, oA, hw, hT, or, o1, o2, o3⟩, hin, hm, hl, q⟩ := h
  have nd := sc_orders_fit.nd
  refine ⟨_, (pss_cons (ps_set (i := 1) nd rfl (Or.inl rfl) (pe_ix ix_tup (pv 0) pe_int (fun _ _ => rfl)))
    (pss_cons (ps_if (pt_cmpR op_ne (pe_callB call_len_seq rfl T.z_len PySem.boot_len (pa_cons (pv 1) pa_nil)) (pe_ix ix_tup (pv 0) pe_int (fun _ _ => rfl)) (nomark _)) (pss_one (ps_ret pe_bl)) pss_nil)
    (pss_cons (ps_for PassesOwn.never rfl (pi_zip rfl T.z_zip (pa_cons (pv 1) (pa_cons (pe_call G_ends_at_places (hr.mono (by decide)) rfl T.m_ends_at_places T.k_ends_at_places T.b_ends_at_places .nil pass0 (pa_cons (pe_ix ix_tup (pv 0) pe_int (fun _ _ => rfl)) (pa_cons (pe_ix ix_tup (pv 0) pe_int (fun _ _ => rfl)) pa_nil))) pa_nil))) (pg_tup rfl (pgs_cons (pg_name (i := 2) nd rfl (Or.inl rfl)) (pgs_cons (pg_name (i := 3) nd rfl (Or.inl rfl)) pgs_nil))) (pss_one (ps_if (PW.pt (pw_or (pt_cmpR op_gt (pe_callB call_len_seq rfl T.z_len PySem.boot_len (pa_cons (pv 2) pa_nil)) (pe_glob (v := .int 4) rfl T.g_MOST_ENDS_AT_A_PLACE ⟨_, rfl⟩) (nomark _)) (pw_or1 (pt_cmpR (op_neD hr.units) (pe_callB call_sortedI rfl T.z_sorted boot_sorted (pa_cons (pv 2) pa_nil)) (pv 3) (nomark _))))) (pss_one (ps_ret pe_bl)) pss_nil)))
    (pss_one (ps_ret pe_bl))))), ?_⟩
  refine ⟨_, rfl, wa, _, _, _, rfl, rfl, SqT.of hw, rfl, ?_⟩
  refine ⟨_, rfl, oA, _, rfl, .inl (SqL.of o1), _, rfl, wa, _, _, _, rfl, rfl, SqT.of hw, rfl, rfl, _, rfl, ite2 (fun c => ?_) (fun c => ?_)⟩
  · refine q false H (Same.refl _) ⟨fun z => Bool.noConfusion z, fun z => ?_⟩
    rw [List.length_map, o2, z.1] at c
    simp at c
  have hlen : os.length = m := by
    rw [List.length_map, o2] at c
    apply Classical.byContradiction
    intro z
    apply c
    simp only [Bool.not_eq_true', decide_eq_false_iff_not]
    intro z2
    exact z (Int.ofNat.inj (V.int.inj z2))
  refine ⟨_, rfl, _, rfl, wa, _, _, _, rfl, rfl, SqT.of hw, rfl, _, rfl, wa, _, _, _, rfl, rfl, SqT.of hw, rfl, m, tA, ts, rfl, hT, hin, hm, hl, fun r H1 g1 hE => ?_⟩
  obtain ⟨er, r1, r2, r3⟩ := hE
  refine ⟨oA, r, _, _, rfl, g1 _ _ o1, r1, for_zip (xs := or.map V.ref) (ys := er.map V.ref) (fun k σ H' => (∃ v2 v3, σ = [some (.ref wa), some (.ref oA), v2, v3]) ∧ Same H1 H' ∧ ∀ (i : Nat) o, i < k → os[i]? = some o → o.length ≤ 4 ∧ o.Perm (AW.endsAt ts i)) ?_ ⟨⟨_, _, rfl⟩, Same.refl _, fun i o hi => by omega⟩ ?_ ?_ ?_⟩
  · rw [List.length_map, List.length_map, o2, r2, List.length_map, List.length_range, hlen]
  · rintro i σ H' hi ⟨_, g2, _⟩
    exact ⟨g2 _ _ (g1 _ _ o1), g2 _ _ r1⟩
  · rintro i x y σ H' Tp hx hy ⟨⟨v2, v3, rfl⟩, g2, ih⟩ hTp
    obtain ⟨o, ra, eo, rfl, era⟩ := OsI.nth o2 o3 hx
    obtain ⟨l, rb, el, rfl, erb⟩ := OsI.nth r2 r3 hy
    have hi : i < m := by rw [← hlen]; exact (List.getElem?_eq_some_iff.mp eo).1
    have el2 : l = AW.endsAt ts i := by
      have : ((List.range m).map fun p : Nat => AW.endsAt ts p)[i]? = some (AW.endsAt ts i) := by simp [hi]
      rw [this] at el
      exact (Option.some.inj el).symm
    subst el2
    have g3 := g2.trans (same_new hTp (.tup [.ref ra, .ref rb]))
    refine ⟨Tp, _, rfl, SqT.of upd_same, rfl, _, _, rfl, _, _, rfl, rfl, ?_⟩
    refine ⟨_, rfl, ra, _, rfl, .inl (SqL.of (g3 _ _ (g1 _ _ era))), _, _, rfl, rfl, _, rfl, ite2 (fun c => iteT ?_) (fun c => ?_)⟩
    · have c : (4 : Int) < ((o.map V.int).length : Nat) := of_decide_eq_true c
      rw [List.length_map] at c
      refine q false _ (g1.trans g3) ⟨fun z => Bool.noConfusion z, fun z => ?_⟩
      have := (z.2 i o eo).1
      omega
    have c4 : o.length ≤ 4 := by
      rw [List.length_map] at c
      simp only [decide_eq_true_eq] at c
      omega
    refine ⟨_, rfl, ra, o, rfl, SqL.of (g3 _ _ (g1 _ _ era)), by omega, fun ls ns' hls p1 p2 => ?_⟩
    have g4 := g3.trans (same_new hls (.lst (ns'.map V.int)))
    refine ⟨_, rfl, _, _, bd_ints upd_same, bd_ints (g4 _ _ erb), shaped_ints _, shaped_ints _, _, rfl, ?_⟩
    rw [eqv_intsL]
    by_cases e : ns' = AW.endsAt ts i
    · rw [decide_eq_true e]
      refine iteF ⟨⟨_, _, rfl⟩, g4, fun j o' hj ho' => ?_⟩
      by_cases hj2 : j < i
      · exact ih j o' hj2 ho'
      · have : j = i := by omega
        subst this
        rw [eo] at ho'
        cases ho'
        exact ⟨c4, e ▸ p1.symm⟩
    · rw [decide_eq_false e]
      refine iteT (q false _ (g1.trans g4) ⟨fun z => Bool.noConfusion z, fun z => ?_⟩)
      exact absurd (AW.sorted_eq (p1.trans (z.2 i o eo).2) p2 (AW.up_endsAt ts i)) e
  · rintro σ H' ⟨⟨v2, v3, rfl⟩, g2, ih⟩
    refine q true H' (g1.trans g2) ⟨fun _ => ⟨hlen, fun i o hio => ih i o ?_ hio⟩, fun _ => rfl⟩
    rw [List.length_map, o2]
    exact (List.getElem?_eq_some_iff.mp hio).1
end K74

namespace K74
open PySem L2 PyProof.Rows
variable {P : Program} {w : World} {K : PySem.W.Frag} {mg : Str → Option Value} {base : Heap} {t : Adr}
def spHang : Sp := fun vs H Q _ => ∃ (m : Nat) (a : Addr) (ts : AW.Ts), vs = [vn m, .ref a] ∧ TsI H a ts ∧ AW.InW m ts ∧ 0 < m ∧ m ≤ 1000 ∧ ts.length ≤ 1000 ∧
  ∀ (b : Bool) (H' : Hp), Same H H' → (b = true ↔ AW.Whole m ts) → Q (.bl b) H'
def HangI (H : Hp) (m : Nat) (ts : AW.Ts) (D rA wA : Addr) (rr : List Addr) (R : List Bool) (W : List Int) (H' : Hp) : Prop :=
  NewL H H' D rr ((List.range m).map fun p : Nat => (AW.nbs ts p).map V.int) ∧ H' rA = some (.lst (R.map V.bl)) ∧ H' wA = some (.lst (W.map V.int)) ∧ Same H H'
theorem nbs_len (ts : AW.Ts) (p : Int) : (AW.nbs ts p).length ≤ 2 * ts.length := by
  induction ts with
  | nil => exact Nat.le_refl _
  | cons t ts ih =>
    unfold AW.nbs AW.nb at ih ⊢
    rw [List.flatMap_cons, List.length_append, List.length_cons, List.length_append]
    have h1 : (if t.1 = p then [t.2] else []).length ≤ 1 := by split <;> simp
    have h2 : (if t.2 = p then [t.1] else []).length ≤ 1 := by split <;> simp
    omega
theorem ok_hang (T : Txt K mg t) : FnOk P w K mg base CX0 1 t.a_hangs_together t.d_hangs_together ["many", "ties"] spHang := by
  refine T.F_hangs_together.ok sc_hangs_together (fun vs H Q E h => ?_) (fun cdv A outer s H vs Q E hr h => ?_)
  · obtain ⟨m, a, ts, rfl, _⟩ := h; rfl
  obtain ⟨m, a, ts, rfl, ⟨tr, e1, e2, e3⟩, hw, hm0, hm, hl, q⟩ := h
  have nd := sc_hangs_together.nd
  have nd_place : (["place"] : List Str).Nodup := by decide
  refine ⟨_, (pss_cons (ps_setComp (i := 2) nd rfl (Or.inl rfl)  (N' := ["place"]) (js := [none]) rfl (pi_range1 rfl T.z_range (pa_cons (pv 0) pa_nil)) (fun _ _ _ _ _ => (pg_name (i := 0) nd_place rfl (Or.inl rfl))) (fun _ _ _ _ _ => pf_nil) (fun _ _ _ _ _ => (pe_lst pa_nil)))
    (pss_cons (ps_for PassesOwn.never rfl (pi_list (pv 1)) (pg_tup rfl (pgs_cons (pg_name (i := 3) nd rfl (Or.inl rfl)) (pgs_cons (pg_name (i := 4) nd rfl (Or.inl rfl)) pgs_nil))) (pss_cons (ps_expr (pe_bm PySem.F.plainAttrs_list PySem.F.slot_list_append PySem.F.type_list_append mt_append (pe_ix ix_list (pv 2) (pv 3) (fun _ _ => rfl)) (pa_cons (pv 4) pa_nil)))
    (pss_one (ps_expr (pe_bm PySem.F.plainAttrs_list PySem.F.slot_list_append PySem.F.type_list_append mt_append (pe_ix ix_list (pv 2) (pv 4) (fun _ _ => rfl)) (pa_cons (pv 3) pa_nil))))))
    (pss_cons (ps_setComp (i := 5) nd rfl (Or.inl rfl)  (N' := ["place"]) (js := [none]) rfl (pi_range1 rfl T.z_range (pa_cons (pv 0) pa_nil)) (fun _ _ _ _ _ => (pg_name (i := 0) nd_place rfl (Or.inl rfl))) (fun _ _ _ _ _ => pf_nil) (fun _ _ _ _ _ => (pe_cmpR op_eq (pv 0) pe_int (nomark _))))
    (pss_cons (ps_set (i := 6) nd rfl (Or.inl rfl) (pe_lst (pa_cons pe_int pa_nil)))
    (pss_cons (ps_while PassesOwn.never (pt_truth (pv 6) (fun _ => rfl)) (pss_cons (ps_set (i := 7) nd rfl (Or.inl rfl) (pe_bm0 PySem.F.plainAttrs_list PySem.F.slot_list_pop PySem.F.type_list_pop mt_pop (pv 6)))
    (pss_one (ps_for PassesOwn.never rfl (pi_list (pe_ix ix_list (pv 2) (pv 7) (fun _ _ => rfl))) (pg_name (i := 8) nd rfl (Or.inl rfl)) (pss_one (ps_if (pt_not (pt_truth (pe_ix ix_list (pv 5) (pv 8) (fun _ _ => rfl)) (fun _ => rfl))) (pss_cons (ps_asg pe_bl (pg_sub (pv 5) (pv 8) set_list))
    (pss_one (ps_expr (pe_bm PySem.F.plainAttrs_list PySem.F.slot_list_append PySem.F.type_list_append mt_append (pv 6) (pa_cons (pv 8) pa_nil))))) pss_nil))))))
    (pss_one (ps_ret (pe_callB (call_allB rfl) rfl T.z_all boot_all (pa_cons (pv 5) pa_nil))))))))), ?_⟩
  refine ⟨_, rfl, (m : Int), rfl, by omega, by omega, fun D hD => ?_⟩
  refine comp_news m (fun _ => []) hD (by omega) (fun i H' hi g2 => ?_) (fun H' g2 => ?_) ?_ ?_
  · show i < ((m : Int) - 0).toNat; omega
  · show ((m : Int) - 0).toNat ≤ m; omega
  · rintro i H' x H'' k hi g2 ⟨e, y⟩ hk
    subst e
    exact ⟨(Fills.refl _).set _ rfl, (by show 0 ≤ sizeLine; decide), fun l hl' => hk l _ hl' (same_new hl' _) upd_same⟩
  intro rr H1 w1 g1
  let F : Nat → Nat → List V := fun k p => (AW.nbs (ts.take k) p).map V.int
  have small : ∀ (k p : Nat), (F k p).length ≤ 2000 := fun k p => by
    show ((AW.nbs (ts.take k) p).map V.int).length ≤ 2000
    have h1 := nbs_len (ts.take k) p
    rw [List.length_take] at h1
    rw [List.length_map]; omega
  refine ⟨_, rfl, a, rfl, ⟨_, SqL.of (g1 _ _ e1)⟩, for_list (K := K) (a := a) (xs := tr.map V.ref) (fun k σ H' => (∃ v3 v4, σ = [some (vn m), some (.ref a), some (.ref D), v3, v4, none, none, none, none]) ∧ NewL H H' D rr ((List.range m).map (F k)) ∧ Same H H') ⟨⟨_, _, rfl⟩, ?_, g1⟩ ?_ ?_ ?_⟩
  · have e : F 0 = fun _ => [] := by funext p; show (AW.nbs (ts.take 0) p).map V.int = []; rw [List.take_zero]; rfl
    rw [e]; exact w1
  · rintro i σ H' hi ⟨_, _, g2⟩
    exact SqL.of (g2 _ _ e1)
  · rintro i x σ H' hx ⟨⟨v3, v4, rfl⟩, w2, g2⟩
    obtain ⟨⟨u, v⟩, r, et, rfl, er⟩ := TsI.nth (a := a) e2 e3 hx
    obtain ⟨⟨u0, u1⟩, v0, v1⟩ := hw _ (List.mem_of_getElem? et)
    obtain ⟨p1, rfl⟩ := Int.eq_ofNat_of_zero_le u0
    obtain ⟨p2, rfl⟩ := Int.eq_ofNat_of_zero_le v0
    have u1 : p1 < m := Int.ofNat_lt.mp u1
    have v1 : p2 < m := Int.ofNat_lt.mp v1
    refine ⟨r, _, rfl, SqT.of (g2 _ _ er), rfl, _, _, rfl, _, _, rfl, rfl, ?_⟩
    obtain ⟨x1, a1, b1, c1, d1⟩ := w2.item u1
    refine ⟨_, rfl, _, rfl, D, _, _, _, rfl, rfl, SqL.of w2.at_, d1, .inl ⟨rfl, _, SqL.of b1⟩, _, rfl, x1, _, _, rfl, rfl, b1, Nat.lt_of_le_of_lt (small i p1) (by decide), ?_⟩
    have w4 := w2.put a1 (F i p1 ++ [V.int (p2 : Int)])
    have g4 := g2.fresh c1 (.lst (F i p1 ++ [V.int (p2 : Int)]))
    obtain ⟨x2, a2, b2, c2, d2⟩ := w4.item v1
    refine ⟨_, rfl, _, rfl, D, _, _, _, rfl, rfl, SqL.of w4.at_, d2, .inl ⟨rfl, _, SqL.of b2⟩, _, rfl, x2, _, _, rfl, rfl, b2, ?_, ⟨_, _, rfl⟩, ?_, g4.fresh c2 _⟩
    · show (if p2 = p1 then F i p1 ++ [V.int (p2 : Int)] else F i p2).length < sizeLine
      have h1 := small i p1
      have h2 := small i p2
      refine Nat.lt_of_le_of_lt (show _ ≤ 2001 from ?_) (by decide)
      split
      · rw [List.length_append]; simp; omega
      · omega
    · have w5 := w4.put a2 ((if p2 = p1 then F i p1 ++ [V.int (p2 : Int)] else F i p2) ++ [V.int (p1 : Int)])
      have e : (fun j => if j = p2 then (if p2 = p1 then F i p1 ++ [V.int (p2 : Int)] else F i p2) ++ [V.int (p1 : Int)] else if j = p1 then F i p1 ++ [V.int (p2 : Int)] else F i j) = F (i + 1) := by
        funext j
        have ht : ts.take (i + 1) = ts.take i ++ [((p1 : Int), (p2 : Int))] := by rw [List.take_add_one, et]; rfl
        show _ = (AW.nbs (ts.take (i + 1)) j).map V.int
        rw [ht, AW.nbs_snoc, List.map_append]
        unfold AW.nb
        have c1 : ((p1 : Int) = (j : Int)) ↔ (j = p1) := by omega
        have c2 : ((p2 : Int) = (j : Int)) ↔ (j = p2) := by omega
        simp only [c1, c2]
        by_cases k2 : j = p2
        · subst k2
          by_cases k1 : j = p1
          · subst k1; simp [F]
          · simp [F, k1]
        · by_cases k1 : j = p1
          · subst k1; simp [F, k2]
          · simp [F, k1, k2]
      rw [e] at w5
      exact w5
  rintro σ H2 ⟨⟨v3, v4, rfl⟩, w2, g2⟩
  have eF : F (tr.map V.ref).length = fun p : Nat => (AW.nbs ts p).map V.int := by funext p; show (AW.nbs (ts.take _) p).map V.int = _; rw [List.length_map, e2, List.take_length]
  rw [eF] at w2
  refine ⟨_, rfl, (m : Int), rfl, by omega, by omega, fun rA hrA => ?_⟩
  refine comp_pure m (fun p => .bl (decide ((V.int (0 + (p : Int))) = V.int 0))) hrA (by omega) (fun i H' hi g3 => ?_) (fun H' g3 => ?_) ?_ ?_
  · show i < ((m : Int) - 0).toNat; omega
  · show ((m : Int) - 0).toNat ≤ m; omega
  · rintro i H' x H'' k hi g3 ⟨e, y⟩ hk
    subst e
    subst y
    exact ⟨(Fills.refl _).set _ rfl, _, rfl, rfl, hk _ (Same.refl _)⟩
  intro H3 g3 eR
  have eR0 : (List.range m).map (fun p : Nat => V.bl (decide ((V.int (0 + (p : Int))) = V.int 0))) = ((List.range m).map fun p => decide (p = 0)).map V.bl := by
    rw [List.map_map]
    refine List.map_congr_left fun p _ => ?_
    show V.bl (decide _) = V.bl (decide (p = 0))
    have hp : (V.int (0 + (p : Int)) = V.int 0) ↔ p = 0 := ⟨fun z => by have := V.int.inj z; omega, fun z => by rw [z]; rfl⟩
    simp only [hp]
  rw [eR0] at eR
  refine ⟨(by show 1 ≤ sizeLine; decide), fun wA hwA => ?_⟩
  have w3 := w2.keep g3
  have g23 := g2.trans g3
  have rD : rA ≠ D := fun z => by rw [z, w2.at_] at hrA; cases hrA
  have rin : rA ∉ rr := w2.notIn hrA
  have wD : wA ≠ D := fun z => by rw [z, w3.at_] at hwA; cases hwA
  have win : wA ∉ rr := w3.notIn hwA
  have wr : wA ≠ rA := fun z => by rw [z, eR] at hwA; cases hwA
  have r0 : H rA = none := g2.free hrA
  have w0 : H wA = none := g23.free hwA
  refine ⟨fun M σ H' => ∃ R W v3 v4 v7 v8, (M = 2 * AW.falses R + W.length ∧ M ≤ 2001) ∧ σ = [some (vn m), some (.ref a), some (.ref D), v3, v4, some (.ref rA), some (.ref wA), v7, v8] ∧ HangI H m ts D rA wA rr R W H' ∧ AW.Srch m ts R W,
    ⟨_, _, _, _, _, _, _, ⟨rfl, ?bnd⟩, rfl, ⟨w3.other wD win _, by rw [upd_ne (Ne.symm wr)]; exact eR, by exact upd_same, g23.fresh w0 _⟩, AW.Srch.start hm0⟩, ?_⟩
  case bnd =>
    have h1 : AW.falses ((List.range m).map fun p => decide (p = 0)) ≤ m := by
      unfold AW.falses
      exact Nat.le_trans (List.length_filter_le ..) (by simp)
    show _ + 1 ≤ 2001
    omega
  rintro M σ H' ⟨R, W, v3, v4, v7, v8, ⟨rfl, hB⟩, rfl, ⟨w4, hR, hW, g4⟩, hS⟩
  refine ⟨_, rfl, _, .inl ⟨_, SqL.of hW, rfl⟩, ?_⟩
  rcases List.eq_nil_or_concat W with rfl | ⟨W0, pz, rfl⟩
  · refine iteF ⟨_, rfl, rA, R, rfl, SqL.of hR, q _ H' g4 (hS.done hw)⟩
  rw [List.concat_eq_append] at *
  obtain ⟨p0, rfl, hp0⟩ := hS.win pz (by simp)
  have hpm : p0 < m := by rw [← hS.len]; exact (List.getElem?_eq_some_iff.mp hp0).1
  have eW : (W0 ++ [(p0 : Int)]).map V.int = W0.map V.int ++ [vn p0] := by rw [List.map_append]; rfl
  rw [eW]
  rw [show (!(W0.map V.int ++ [vn p0]).isEmpty) = true by simp]
  refine iteT ⟨fun σ' H'' => ∃ R' W' v3 v4 v7 v8, 2 * AW.falses R' + W'.length < 2 * AW.falses R + (W0 ++ [(p0 : Int)]).length ∧ σ' = [some (vn m), some (.ref a), some (.ref D), v3, v4, some (.ref rA), some (.ref wA), v7, v8] ∧ HangI H m ts D rA wA rr R' W' H'' ∧ AW.Srch m ts R' W', ?_, ?_⟩
  · rintro σ' H'' ⟨R', W', v3, v4, v7, v8, hM, rfl, hI, hS'⟩
    exact ⟨_, hM, R', W', _, _, _, _, ⟨rfl, by omega⟩, rfl, hI, hS'⟩
  rw [eW] at hW
  refine ⟨_, rfl, .inl ⟨rfl, _, SqL.of hW⟩, wA, _, vn p0, rfl, rfl, hW, by rw [List.length_append]; simp, ?_⟩
  rw [List.dropLast_concat]
  have w5 := w4.other wD win (.lst (W0.map V.int))
  have g5 := g4.fresh w0 (.lst (W0.map V.int))
  obtain ⟨x1, a1, b1, c1, d1⟩ := w5.item hpm
  have hlen : (W0 ++ [(p0 : Int)]).length = W0.length + 1 := by simp
  rw [hlen]
  refine ⟨_, rfl, _, rfl, D, _, _, _, rfl, rfl, SqL.of w5.at_, d1, x1, rfl, ⟨_, SqL.of b1⟩, for_list (K := K) (a := x1) (xs := (AW.nbs ts p0).map V.int) (fun k σ H'' => ∃ R' W' v8, 2 * AW.falses R' + W'.length < 2 * AW.falses R + (W0.length + 1) ∧
    σ = [some (vn m), some (.ref a), some (.ref D), v3, v4, some (.ref rA), some (.ref wA), some (vn p0), v8] ∧ HangI H m ts D rA wA rr R' W' H'' ∧ AW.SrchI m ts R' W' p0 k) ⟨R, W0, _, by omega, rfl, ⟨w5, by rw [upd_ne (Ne.symm wr)]; exact hR, upd_same, g5⟩, .start hS⟩ ?_ ?_ ?_⟩
  · rintro i σ H'' hi ⟨R', W', v8, _, _, ⟨w6, _⟩, _⟩
    obtain ⟨x2, a2, b2, _⟩ := w6.item hpm
    rw [a1] at a2
    cases a2
    exact SqL.of b2
  · rintro i x σ H'' hx ⟨R', W', v8, hM, rfl, ⟨w6, hR', hW', g6⟩, hI⟩
    rw [List.getElem?_map] at hx
    cases eq' : (AW.nbs ts p0)[i]? with
    | none => rw [eq'] at hx; cases hx
    | some qz =>
      rw [eq'] at hx
      cases hx
      obtain ⟨q0, q1⟩ := AW.nbs_in hw (List.mem_of_getElem? eq')
      obtain ⟨qn, rfl⟩ := Int.eq_ofNat_of_zero_le q0
      have q1 : qn < m := Int.ofNat_lt.mp q1
      have hql : qn < R'.length := by rw [hI.len]; exact q1
      have eb : R'[qn]? = some R'[qn] := List.getElem?_eq_getElem hql
      refine ⟨_, rfl, _, rfl, rA, _, _, .bl R'[qn], rfl, rfl, SqL.of hR', atI_nat (by rw [List.getElem?_map, eb]; rfl), R'[qn], rfl, ?_⟩
      cases hb : R'[qn] with
      | true =>
        refine iteF ⟨R', W', _, hM, rfl, ⟨w6, hR', hW', g6⟩, hI.skip eq' ?_⟩
        rw [show ((qn : Int)).toNat = qn from rfl, eb, hb]
      | false =>
        rw [hb] at eb
        have hset : (R'.map V.bl).set qn (.bl true) = (R'.set qn true).map V.bl := by rw [List.map_set]
        have hf := AW.falses_set eb
        refine iteT ⟨_, rfl, _, rfl, rA, _, _, qn, rfl, rfl, hR', ?_, ?_⟩
        · exact ixN_ok (by rw [List.length_map]; exact hql) rfl
        rw [hset]
        refine ⟨_, rfl, .inl ⟨rfl, _, SqL.of (by rw [upd_ne wr]; exact hW')⟩, _, rfl, wA, _, _, rfl, rfl, by rw [upd_ne wr]; exact hW', ?_, ?_⟩
        · rw [List.length_map]
          exact Nat.lt_of_le_of_lt (show _ ≤ 2001 by rw [hlen] at hB; omega) (by decide)
        refine ⟨R'.set qn true, W' ++ [(qn : Int)], _, ?_, rfl, ⟨(w6.other rD rin _).other wD win _, ?_, ?_, (g6.fresh r0 _).fresh w0 _⟩, hI.reach eq' q1⟩
        · rw [List.length_append]; simp; omega
        · rw [upd_ne (Ne.symm wr)]; exact upd_same
        · rw [List.map_append]; exact upd_same
  · rintro σ H'' ⟨R', W', v8, hM, rfl, hI, hS'⟩
    exact ⟨R', W', _, _, _, _, by simpa using hM, rfl, hI, hS'.finish (by rw [List.length_map]; exact Nat.le_refl _)⟩
end K74

namespace L2
open PySem PySem.Spec PyProof.Rows
theorem Fun.okX {P : Program} {w : World} {K : PySem.W.Frag} {mg : Str → Option Value} {base : Heap} {C : Addr} {x qual : Str} {st : Stmt} {f : Addr} {fd : FuncData} {N ps : List Str} {k : Nat} {sp : Sp} (F : Fun K x qual st f fd) (S : FnScope N ps (defScope st)) (len : ∀ vs H Q E, sp vs H Q E → vs.length = ps.length)
    (hbody : ∀ (cdv : Value) (A : Around) (outer : List Env) (s : Shared) (H : Hp) (vs : List V) (Q : VK) (E : XK), Room k (A.deeper (envOfC qual (defScope st) s.heap.objs.size f cdv)) → sp vs H Q E →
      ∃ t, PSs (cxOf (CXr P w C) P w K mg base N qual (defScope st) f cdv A outer s H E) (defBody st) t ∧ t { nx := fun _ H' => Q .non H', rt := Q } (start N vs) H) : FnOk P w K mg base (CXr P w C) (k + 1) f fd ps sp := by
  obtain ⟨oc, od, kV, doc, pm, an, cdv, ct, osl, rfl, lk, hcd⟩ := F.ex
  exact fn_of lk hcd S len fun A outer s H vs Q E hr hsp => hbody cdv A outer s H vs Q E hr hsp
end L2
namespace K74
open PySem L2 PyProof.Rows
variable {P : Program} {w : World} {K : PySem.W.Frag} {mg : Str → Option Value} {base : Heap} {t : Adr}
theorem chLe {σ : L2.St} {H : Hp} {Q : VK} {a c x : Int} {tb : TE} (hb : ∀ R : VK, R (.int x) H → tb σ H R) (q : Q (.bl (decide (a ≤ x) && decide (x ≤ c))) H) :
    tChain (rI0 fun i j => V.bl (decide (i ≤ j))) (rI0 fun i j => V.bl (decide (i ≤ j))) (tC (V.int a)) tb (tC (V.int c)) σ H Q := by
  refine hb _ ⟨_, _, rfl, rfl, _, rfl, ?_⟩
  by_cases h : a ≤ x
  · rw [if_pos (decide_eq_true h)]
    rw [decide_eq_true h, Bool.true_and] at q
    exact ⟨_, _, rfl, rfl, q⟩
  · rw [if_neg (by simpa using h)]
    rw [decide_eq_false h, Bool.false_and] at q
    exact q
def spCheck : Sp := fun vs H Q E => ∃ (wa : Addr) (m : Int) (ts : AW.Ts) (os : AW.Os), vs = [.ref wa] ∧ WebI H wa m ts os ∧ ts.length ≤ 1000 ∧
  (AW.IsMap m ts os → ∀ H', Same H H' → Q .non H') ∧ (¬ AW.IsMap m ts os → ∀ x H', Same H H' → E (.ref x) none H')
theorem ok_check (T : Txt K mg t) : FnOk P w K mg base (CXr P w t.c_NoMap) 3 t.a_check_map t.d_check_map ["web"] spCheck := by
  have G_ties_name_places := ok_tnp (P := P) (w := w) (base := base) T
  have G_orders_fit := ok_ofit (P := P) (w := w) (base := base) T
  have G_hangs_together := ok_hang (P := P) (w := w) (base := base) T
  refine T.F_check_map.okX sc_check_map (fun vs H Q E h => ?_) (fun cdv A outer s H vs Q E hr h => ?_)
  · obtain ⟨wa, m, ts, os, rfl, _⟩ := h; rfl
  obtain ⟨wa, m, ts, os, rfl, ⟨tA, oA, hw, hT, hO⟩, hl, q1, q2⟩ := h
  have nd := sc_check_map.nd
  refine ⟨_, (pss_cons (ps_set (i := 1) nd rfl (Or.inl rfl) (pe_ix ix_tup (pv 0) pe_int (fun _ _ => rfl)))
    (pss_cons (ps_set (i := 2) nd rfl (Or.inl rfl) (pe_ix ix_tup (pv 0) pe_int (fun _ _ => rfl)))
    (pss_cons (ps_if (pt_not (pt_chain op_le op_le pe_int (pv 1) (pe_glob (v := .int 200) rfl T.g_MOST_PLACES ⟨_, rfl⟩))) (pss_one (ps_raise T.x_in PySem.F.excBase_ValueError T.m_NoMap)) pss_nil)
    (pss_cons (ps_if (pt_not (pt_chain op_le op_le pe_int (pe_callB call_len_seq rfl T.z_len PySem.boot_len (pa_cons (pv 2) pa_nil)) (pe_glob (v := .int 400) rfl T.g_MOST_TIES ⟨_, rfl⟩))) (pss_one (ps_raise T.x_in PySem.F.excBase_ValueError T.m_NoMap)) pss_nil)
    (pss_cons (ps_if (pt_not (pt_truth (pe_call G_ties_name_places (hr.mono (by decide)) rfl T.m_ties_name_places T.k_ties_name_places T.b_ties_name_places .nil pass0 (pa_cons (pv 1) (pa_cons (pv 2) pa_nil))) (fun _ => rfl))) (pss_one (ps_raise T.x_in PySem.F.excBase_ValueError T.m_NoMap)) pss_nil)
    (pss_cons (ps_if (pt_not (pt_truth (pe_call G_orders_fit (hr.mono (by decide)) rfl T.m_orders_fit T.k_orders_fit T.b_orders_fit .nil pass0 (pa_cons (pv 0) pa_nil)) (fun _ => rfl))) (pss_one (ps_raise T.x_in PySem.F.excBase_ValueError T.m_NoMap)) pss_nil)
    (pss_one (ps_if (pt_not (pt_truth (pe_call G_hangs_together (hr.mono (by decide)) rfl T.m_hangs_together T.k_hangs_together T.b_hangs_together .nil pass0 (pa_cons (pv 1) (pa_cons (pv 2) pa_nil))) (fun _ => rfl))) (pss_one (ps_raise T.x_in PySem.F.excBase_ValueError T.m_NoMap)) pss_nil)))))))), ?_⟩
  refine ⟨_, rfl, wa, _, _, _, rfl, rfl, SqT.of hw, rfl, ?_⟩
  refine ⟨_, rfl, wa, _, _, _, rfl, rfl, SqT.of hw, rfl, ?_⟩
  dsimp only [gName, tSeq, tIfS, tNot, tTest]
  refine chLe (x := m) ?h1 ?h2
  case h1 => exact fun R h => ⟨_, rfl, h⟩
  refine ⟨_, rfl, ?_⟩
  by_cases c1 : 1 ≤ m ∧ m ≤ 200
  case neg =>
    rw [show (decide ((1 : Int) ≤ m) && decide (m ≤ 200)) = false by rw [← Bool.decide_and]; exact decide_eq_false c1]
    exact iteT fun x => q2 (fun z => c1 z.1.1) x H (Same.refl _)
  rw [show (decide ((1 : Int) ≤ m) && decide (m ≤ 200)) = true by rw [← Bool.decide_and]; exact decide_eq_true c1]
  refine iteF ?_
  obtain ⟨tr, e1, e2, e3⟩ := id hT
  dsimp only [tNext, tSeq, tIfS, tNot, tTest]
  refine chLe (x := ((tr.map V.ref).length : Nat)) ?h3 ?h4
  case h3 => exact fun R h => ⟨_, rfl, tA, _, rfl, .inl (SqL.of e1), h⟩
  refine ⟨_, rfl, ?_⟩
  rw [List.length_map, e2]
  by_cases c2 : 1 ≤ ts.length ∧ ts.length ≤ 400
  case neg =>
    rw [show (decide ((1 : Int) ≤ (ts.length : Nat)) && decide (((ts.length : Nat) : Int) ≤ 400)) = false by rw [← Bool.decide_and]; exact decide_eq_false (fun z => c2 (by omega))]
    exact iteT fun x => q2 (fun z => c2 z.1.2) x H (Same.refl _)
  rw [show (decide ((1 : Int) ≤ (ts.length : Nat)) && decide (((ts.length : Nat) : Int) ≤ 400)) = true by rw [← Bool.decide_and]; exact decide_eq_true (by omega)]
  refine iteF ⟨_, rfl, _, rfl, m, tA, ts, rfl, hT, hl, fun H1 g1 => ⟨_, rfl, ?_⟩⟩
  by_cases c3 : AW.InW m ts
  case neg =>
    rw [show AW.inWb m ts = false from Bool.eq_false_iff.mpr fun z => c3 (AW.inWb_iff.mp z)]
    exact iteT fun x => q2 (fun z => c3 z.2.1) x H1 g1
  rw [AW.inWb_iff.mpr c3]
  obtain ⟨n, rfl⟩ := Int.eq_ofNat_of_zero_le (show 0 ≤ m by omega)
  refine iteF ⟨_, rfl, wa, n, ts, os, rfl, ⟨tA, oA, g1 _ _ hw, hT.same g1, hO.same g1⟩, c3, by omega, hl, fun b H2 g2 hb => ⟨_, rfl, ?_⟩⟩
  cases b with
  | false => exact iteT fun x => q2 (fun z => Bool.noConfusion (hb.mpr ⟨Int.ofNat.inj z.2.2.1, z.2.2.2.1⟩)) x H2 (g1.trans g2)
  | true =>
    obtain ⟨f1, f2⟩ := hb.mp rfl
    refine iteF ⟨_, rfl, _, rfl, n, tA, ts, rfl, (hT.same g1).same g2, c3, by omega, by omega, hl, fun b H3 g3 hb => ⟨_, rfl, ?_⟩⟩
    cases b with
    | false => exact iteT fun x => q2 (fun z => Bool.noConfusion (hb.mpr z.2.2.2.2)) x H3 ((g1.trans g2).trans g3)
    | true => exact iteF (q1 ⟨⟨c1, c2⟩, c3, congrArg Int.ofNat f1, f2, hb.mp rfl⟩ H3 ((g1.trans g2).trans g3))
end K74

namespace K74
open PySem L2 PyProof.Rows TX
variable {P : Program} {w : World} {K : PySem.W.Frag} {mg : Str → Option Value} {base : Heap} {t : Adr}
def Asc (l : List Nat) : Prop := ∀ c ∈ l, c < 128
theorem Asc.figs {l : List Nat} (h : Asc l) : Asc (figs l) := fun c hc => by
  unfold TX.figs at hc
  split at hc
  · exact h c ((List.drop_sublist _ _).subset hc)
  · exact h c hc
def spRN : Sp := fun vs H Q E => ∃ (z : Str) (w : List Nat), vs = [.str z] ∧ z = sT w ∧ Asc w ∧ w.length ≤ 1000 ∧ (∀ n, num w = some n → ∀ H', Same H H' → Q (.int n) H') ∧ (num w = none → ∀ x H', Same H H' → E (.ref x) none H')
theorem ok_rn (T : Txt K mg t) : FnOk P w K mg base (CXr P w t.c_NoText) 1 t.a_read_number t.d_read_number ["word"] spRN := by
  refine T.F_read_number.okX sc_read_number (fun vs H Q E h => ?_) (fun cdv A outer s H vs Q E hr h => ?_)
  · obtain ⟨z, w, rfl, _⟩ := h; rfl
  obtain ⟨z, wd, rfl, rfl, ha, hl, q, qe⟩ := h
  have nd := sc_read_number.nd
  have nd_sign : (["sign"] : List Str).Nodup := by decide
  refine ⟨_, (pss_cons (ps_set (i := 1) nd rfl (Or.inl rfl) (pe_ifExp (pt_truth (pe_bm PySem.F.plainAttrs_str PySem.F.slot_str_startswith PySem.F.type_str_startswith mt_starts (pv 0) (pa_cons pe_str pa_nil)) (fun _ => rfl)) (pe_slice sl_str (pv 0) (po_some pe_int) po_none) (pv 0)))
    (pss_cons (ps_if (PW.pt (pw_or (pt_not (pt_chain op_le op_le pe_int (pe_callB call_len_str rfl T.z_len PySem.boot_len (pa_cons (pv 1) pa_nil)) (pe_glob (v := .int 40) rfl T.g_MOST_FIGURES ⟨_, rfl⟩))) (pw_or1 (pt_not (pt_truth (pe_callB (call_allB rfl) rfl T.z_all boot_all (pa_cons (pe_comp (N' := ["sign"]) (js := [none]) rfl (pi_str (pv 1)) (fun _ _ _ _ _ => (pg_name (i := 0) nd_sign rfl (Or.inl rfl))) (fun _ _ _ _ _ => pf_nil) (fun _ _ _ _ _ => (pe_cmpR op_in_str (pv 0) (pe_glob (v := .str (Str.ofString "0123456789")) rfl T.g_FIGURES ⟨_, rfl⟩) rfl))) pa_nil)) (fun _ => rfl)))))) (pss_one (ps_raise T.y_in PySem.F.excBase_ValueError T.m_NoText)) pss_nil)
    (pss_cons (ps_if (pt_cmpR op_ne (pe_callTy call_str_int rfl T.z_str boot_str (pa_cons (pe_callTy call_intX rfl T.z_int boot_int (pa_cons (pv 0) pa_nil)) pa_nil)) (pv 0) (nomark _)) (pss_one (ps_raise T.y_in PySem.F.excBase_ValueError T.m_NoText)) pss_nil)
    (pss_one (ps_ret (pe_callTy call_intX rfl T.z_int boot_int (pa_cons (pv 0) pa_nil))))))), ?_⟩
  refine via (fun σ' H' => σ' = [some (vx wd), some (vx (figs wd))] ∧ H' = H) (fun r1 => ?_) ?_
  · refine ⟨_, rfl, rfl, _, _, rfl, rfl, _, rfl, ?_⟩
    rw [starts_dash]
    refine ite2 (fun c => ?_) (fun c => ?_)
    · have c := of_decide_eq_true c
      refine ⟨_, rfl, 1, rfl, _, wd, rfl, rfl, Nat.le_trans hl (by decide), r1 _ _ ⟨?_, rfl⟩⟩
      rw [show figs wd = wd.drop 1 from if_pos c, ← cut_from]
      rfl
    · refine ⟨_, rfl, r1 _ _ ⟨?_, rfl⟩⟩
      rw [show figs wd = wd from if_neg fun z => c (decide_eq_true z)]
      rfl
  rintro σ' H' ⟨rfl, rfl⟩
  have fl : (figs wd).length ≤ wd.length := by
    unfold figs
    split
    · rw [List.length_drop]; omega
    · exact Nat.le_refl _
  have sz : (sT (figs wd)).length ≤ sizeLine := by rw [sT_len]; exact Nat.le_trans (by omega : _ ≤ 1000) (by decide)
  refine via (fun σ' H2 => σ' = [some (vx wd), some (vx (figs wd))] ∧ Same H' H2 ∧ Fig wd) (fun r1 => ?_) ?_
  · refine chLe (fun R h => ⟨_, rfl, _, rfl, sz, h⟩) ⟨_, rfl, ?_⟩
    rw [sT_len]
    refine ite2 (fun c => iteT fun x => ?_) (fun c => ?_)
    · refine qe (num_none fun z => ?_) x H' (Same.refl _)
      have := z.1.1
      simp at c
      omega
    have c1 : 1 ≤ (figs wd).length ∧ (figs wd).length ≤ 40 := by
      simp at c
      omega
    refine ⟨_, rfl, _, figs wd, rfl, rfl, ha.figs, fun D hD => ?_⟩
    refine comp_pure (figs wd).length (fun i => V.bl (decide (48 ≤ (figs wd).getD i 0 ∧ (figs wd).getD i 0 ≤ 57))) hD (by omega) (fun i H2 hi g2 => hi) (fun H2 g2 => Nat.le_refl _) ?_ ?_
    · rintro i H2 x H3 k hi g2 ⟨rfl, c, hc, rfl⟩ hk
      refine ⟨(Fills.refl _).set _ rfl, _, rfl, _, _, rfl, rfl, ?_⟩
      rw [in_figs]
      have e : (figs wd).getD i 0 = c := by rw [List.getD_eq_getElem?_getD, hc]; rfl
      rw [← e]
      exact hk _ (Same.refl _)
    · intro H2 g2 e2
      have eb : ((List.range (figs wd).length).map fun i => V.bl (decide (48 ≤ (figs wd).getD i 0 ∧ (figs wd).getD i 0 ≤ 57))) = ((figs wd).map fun c => decide (48 ≤ c ∧ c ≤ 57)).map V.bl := by
        rw [List.map_map]
        refine List.ext_getElem (by simp) fun i h1 h2 => ?_
        simp only [List.length_map, List.length_range] at h1
        simp [List.getD_eq_getElem?_getD, h1]
      rw [eb] at e2
      refine ⟨D, _, rfl, SqL.of e2, _, rfl, ite2 (fun c => fun x => ?_) (fun c => r1 _ _ ⟨rfl, g2, c1, fun d hd => ?_⟩)⟩
      · refine qe (num_none fun z => ?_) x H2 g2
        simp only [Bool.not_eq_true', List.all_map, List.all_eq_false] at c
        obtain ⟨d, hd, e⟩ := c
        exact e (decide_eq_true (z.1.2 d hd))
      · simp only [Bool.not_eq_true', Bool.not_eq_false, List.all_map, List.all_eq_true] at c
        exact of_decide_eq_true (c d hd)
  rintro σ' H2 ⟨rfl, g2, hf⟩
  obtain ⟨i1, i2⟩ := int_text hf
  have big := num_big hf
  refine ⟨_, rfl, _, _, rfl, i1, i2, _, rfl, big, _, rfl, rfl, _, rfl, ite2 (fun c => fun x => qe (num_none fun z => ?_) x H2 g2) (fun c => ?_)⟩
  · have := (str_back hf).mpr z.2
    rw [strL_sT, this] at c
    simp at c
  · have hc : Can wd := (str_back hf).mp (by
      rw [strL_sT] at c
      simp only [Bool.not_eq_true', decide_eq_false_iff_not, Bool.not_eq_false, decide_eq_true_eq, Classical.not_not] at c
      exact sT_inj (V.str.inj c))
    exact ⟨_, rfl, _, _, rfl, i1, i2, q _ (num_some hf hc) H2 g2⟩
def spRNs (K : PySem.W.Frag) : Sp := fun vs H Q E => ∃ (p : Addr) (ws : List (List Nat)), vs = [.ref p] ∧ SqL K H p (vxs ws) ∧ (∀ w ∈ ws, Asc w ∧ w.length ≤ 1000) ∧ ws.length ≤ 1000 ∧
  (∀ ns : List Int, ws.map num = ns.map some → ∀ D H', H D = none → Same H H' → H' D = some (.lst (ns.map V.int)) → Q (.ref D) H') ∧ ((¬ ∃ ns : List Int, ws.map num = ns.map some) → ∀ x H', Same H H' → E (.ref x) none H')
theorem rel_some {f : List Nat → Option Int} {ws : List (List Nat)} {vs : List V} (hl : vs.length = ws.length) (h : ∀ (i : Nat) v, vs[i]? = some v → ∃ n, v = .int n ∧ f (ws.getD i []) = some n) : ∃ ns : List Int, vs = ns.map V.int ∧ ws.map f = ns.map some := by
  obtain ⟨ns, rfl, e⟩ := rel_ints fun i v hv => let ⟨n, a, _⟩ := h i v hv; ⟨n, a⟩
  refine ⟨ns, rfl, List.ext_getElem? fun i => ?_⟩
  rw [List.length_map] at hl
  by_cases hi : i < ws.length
  · obtain ⟨n, h1, h2⟩ := h i (.int ns[i]) (by rw [List.getElem?_map, List.getElem?_eq_getElem (by omega)]; rfl)
    rw [List.getD_eq_getElem?_getD, List.getElem?_eq_getElem hi] at h2
    have h2 : f ws[i] = some n := h2
    rw [List.getElem?_map, List.getElem?_map, List.getElem?_eq_getElem hi, List.getElem?_eq_getElem (by omega), Option.map_some, Option.map_some, h2, V.int.inj h1]
  · rw [List.getElem?_eq_none (by simp; omega), List.getElem?_eq_none (by simp; omega)]
theorem none_no {f : List Nat → Option Int} {ws : List (List Nat)} {w : List Nat} (hw : w ∈ ws) (h : f w = none) : ¬ ∃ ns : List Int, ws.map f = ns.map some := fun ⟨ns, e⟩ => by
  have : (none : Option Int) ∈ ns.map some := e ▸ h ▸ List.mem_map_of_mem hw
  obtain ⟨n, _, z⟩ := List.mem_map.mp this
  cases z
theorem ok_rns (T : Txt K mg t) : FnOk P w K mg base (CXr P w t.c_NoText) 2 t.a_read_numbers t.d_read_numbers ["words"] (spRNs K) := by
  have G_read_number := ok_rn (P := P) (w := w) (base := base) T
  refine T.F_read_numbers.okX sc_read_numbers (fun vs H Q E h => ?_) (fun cdv A outer s H vs Q E hr h => ?_)
  · obtain ⟨p, ws, rfl, _⟩ := h; rfl
  obtain ⟨p, ws, rfl, hp, hw, hl, q, qe⟩ := h
  have nd := sc_read_numbers.nd
  have nd_word : (["word"] : List Str).Nodup := by decide
  refine ⟨_, (pss_one (ps_ret (pe_compE xg_of (N' := ["word"]) (js := [none]) rfl (pi_list (pv 0)) (fun _ _ _ _ _ => (pg_name (i := 0) nd_word rfl (Or.inl rfl))) (fun _ _ _ _ _ => pf_nil) (fun _ _ _ _ _ => (pe_call G_read_number (hr.mono (by decide)) rfl T.m_read_number T.k_read_number T.b_read_number .nil passE (pa_cons (pv 0) pa_nil)))))), ?_⟩
  refine ⟨_, rfl, p, rfl, ⟨_, hp⟩, fun D hD => ?_⟩
  refine comp_rel ws.length (fun i v => ∃ n, v = .int n ∧ num (ws.getD i []) = some n) hD (by omega) (fun i H' hi g1 => ⟨_, vx ws[i], g1.seq hp, by rw [List.getElem?_map, List.getElem?_eq_getElem hi]; rfl⟩) (fun H' g1 => ⟨_, g1.seq hp, by rw [List.length_map]; exact Nat.le_refl _⟩) ?_ ?_
  · rintro i H' x H'' k hi g1 ⟨rfl, hx⟩ hk
    have hx := hx _ (g1.seq hp)
    rw [List.getElem?_map, List.getElem?_eq_getElem hi] at hx
    cases hx
    have hm : ws[i] ∈ ws := List.getElem_mem hi
    have e : ws.getD i [] = ws[i] := by rw [List.getD_eq_getElem?_getD, List.getElem?_eq_getElem hi]; rfl
    exact ⟨(Fills.refl _).set _ rfl, _, rfl, _, ws[i], rfl, rfl, (hw _ hm).1, (hw _ hm).2, fun n hn H4 g4 => hk _ H4 ⟨n, rfl, by rw [e]; exact hn⟩ g4, fun hn y H4 g4 => qe (none_no hm hn) y H4 (g1.trans g4)⟩
  · intro vs H' hlv hP g1 eD
    obtain ⟨ns, rfl, e⟩ := rel_some hlv hP
    exact q ns e D H' hD g1 eD
def spRef (K : PySem.W.Frag) : Sp := fun vs H Q E => ∃ (v : V) (b : Bool), vs = [v] ∧ TruV K v H b ∧ (b = true → Q .non H) ∧ (b = false → ∀ x, E (.ref x) none H)
theorem ok_refuse (T : Txt K mg t) : FnOk P w K mg base (CXr P w t.c_NoText) 1 t.a_refuse_unless t.d_refuse_unless ["told"] (spRef K) := by
  refine T.F_refuse_unless.okX sc_refuse_unless (fun vs H Q E h => ?_) (fun cdv A outer s H vs Q E hr h => ?_)
  · obtain ⟨v, b, rfl, _⟩ := h; rfl
  obtain ⟨v, b, rfl, hv, q, qe⟩ := h
  have nd := sc_refuse_unless.nd
  refine ⟨_, (pss_one (ps_if (pt_not (pt_truth (pv 0) (fun _ => rfl))) (pss_one (ps_raise T.y_in PySem.F.excBase_ValueError T.m_NoText)) pss_nil)), ?_⟩
  refine ⟨_, rfl, b, hv, ?_⟩
  cases b with
  | false => exact iteT fun x => qe rfl x
  | true => exact iteF (q rfl)
def spMany (K : PySem.W.Frag) : Sp := fun vs H Q E => ∃ (p : Addr) (ws : List (List Nat)) (c : Int), vs = [.ref p, .int c] ∧ SqL K H p (vxs ws) ∧ (∀ w ∈ ws, Asc w ∧ w.length ≤ 1000) ∧ ws.length ≤ 1000 ∧
  (∀ ns : List Int, ws.map num = ns.map some → (ns.length : Int) = c → ∀ D H', H D = none → Same H H' → H' D = some (.lst (ns.map V.int)) → Q (.ref D) H') ∧ ((¬ ∃ ns : List Int, ws.map num = ns.map some ∧ (ns.length : Int) = c) → ∀ x H', Same H H' → E (.ref x) none H')
theorem ok_many (T : Txt K mg t) : FnOk P w K mg base (CXr P w t.c_NoText) 3 t.a_read_so_many t.d_read_so_many ["words", "count"] (spMany K) := by
  have G_read_numbers := ok_rns (P := P) (w := w) (base := base) T
  have G_refuse_unless := ok_refuse (P := P) (w := w) (base := base) T
  refine T.F_read_so_many.okX sc_read_so_many (fun vs H Q E h => ?_) (fun cdv A outer s H vs Q E hr h => ?_)
  · obtain ⟨p, ws, c, rfl, _⟩ := h; rfl
  obtain ⟨p, ws, c, rfl, hp, hw, hl, q, qe⟩ := h
  have nd := sc_read_so_many.nd
  refine ⟨_, (pss_cons (ps_expr (pe_call G_refuse_unless (hr.mono (by decide)) rfl T.m_refuse_unless T.k_refuse_unless T.b_refuse_unless .nil passX (pa_cons (pe_cmpR op_eq (pe_callB call_len_seq rfl T.z_len PySem.boot_len (pa_cons (pv 0) pa_nil)) (pv 1) (nomark _)) pa_nil)))
    (pss_one (ps_ret (pe_call G_read_numbers (hr.mono (by decide)) rfl T.m_read_numbers T.k_read_numbers T.b_read_numbers .nil passX (pa_cons (pv 0) pa_nil))))), ?_⟩
  have len : ∀ {ns : List Int}, ws.map num = ns.map some → ns.length = ws.length := fun e => by have := congrArg List.length e; simpa using this.symm
  refine ⟨_, rfl, p, _, rfl, .inl hp, _, rfl, rfl, _, _, rfl, rfl, fun cb => ?_, fun cb x => ?_⟩
  · have cb : ((vxs ws).length : Int) = c := V.int.inj (of_decide_eq_true cb)
    rw [List.length_map] at cb
    refine ⟨_, rfl, p, ws, rfl, hp, hw, hl, fun ns e D H' hD g1 eD => q ns e (by rw [len e]; exact cb) D H' hD g1 eD, fun hn x H' g1 => qe (fun ⟨ns, e, _⟩ => hn ⟨ns, e⟩) x H' g1⟩
  · refine qe (fun ⟨ns, e, e2⟩ => ?_) x H (Same.refl _)
    have := of_decide_eq_false cb
    apply this
    rw [List.length_map, ← len e, e2]
def spPair (K : PySem.W.Frag) : Sp := fun vs H Q E => ∃ (p : Addr) (ws : List (List Nat)), vs = [.ref p] ∧ SqL K H p (vxs ws) ∧ (∀ w ∈ ws, Asc w ∧ w.length ≤ 1000) ∧ ws.length ≤ 1000 ∧
  (∀ a b, ws.map num = [some a, some b] → ∀ D H', H D = none → Same H H' → H' D = some (.tup [.int a, .int b]) → Q (.ref D) H') ∧ ((¬ ∃ a b : Int, ws.map num = [some a, some b]) → ∀ x H', Same H H' → E (.ref x) none H')
theorem ok_pair (T : Txt K mg t) : FnOk P w K mg base (CXr P w t.c_NoText) 4 t.a_read_pair t.d_read_pair ["words"] (spPair K) := by
  have G_read_so_many := ok_many (P := P) (w := w) (base := base) T
  refine T.F_read_pair.okX sc_read_pair (fun vs H Q E h => ?_) (fun cdv A outer s H vs Q E hr h => ?_)
  · obtain ⟨p, ws, rfl, _⟩ := h; rfl
  obtain ⟨p, ws, rfl, hp, hw, hl, q, qe⟩ := h
  have nd := sc_read_pair.nd
  refine ⟨_, (pss_cons (ps_set (i := 1) nd rfl (Or.inl rfl) (pe_call G_read_so_many (hr.mono (by decide)) rfl T.m_read_so_many T.k_read_so_many T.b_read_so_many .nil passX (pa_cons (pv 0) (pa_cons pe_int pa_nil))))
    (pss_one (ps_ret (pe_tup (pa_cons (pe_ix ix_list (pv 1) pe_int (fun _ _ => rfl)) (pa_cons (pe_ix ix_list (pv 1) pe_int (fun _ _ => rfl)) pa_nil)))))), ?_⟩
  refine ⟨_, rfl, p, ws, 2, rfl, hp, hw, hl, fun ns e e2 D H' hD g1 eD => ?_, fun hn x H' g1 => qe (fun ⟨a, b, e⟩ => hn ⟨[a, b], e, rfl⟩) x H' g1⟩
  match ns, e, e2 with
  | [a, b], e, _ =>
    refine ⟨_, rfl, D, _, _, .int a, rfl, rfl, SqL.of eD, rfl, _, rfl, D, _, _, .int b, rfl, rfl, SqL.of eD, rfl, (by show 2 ≤ sizeLine; decide), fun r hr' => ?_⟩
    exact q a b e r _ (g1.free hr') (g1.trans (same_new hr' _)) upd_same
  | [], _, e2 => exact absurd e2 (by decide)
  | [_], _, e2 => exact absurd e2 (by simp)
  | _ :: _ :: _ :: l, _, e2 => exact absurd e2 (by simp; omega)
def spEnd : Sp := fun vs H Q E => ∃ (z : Str) (w : List Nat), vs = [.str z] ∧ z = sT w ∧ Asc w ∧ w.length ≤ 1000 ∧ (∀ n, endV w = some n → ∀ H', Same H H' → Q (.int n) H') ∧ (endV w = none → ∀ x H', Same H H' → E (.ref x) none H')
theorem ok_end (T : Txt K mg t) : FnOk P w K mg base (CXr P w t.c_NoText) 2 t.a_read_end t.d_read_end ["word"] spEnd := by
  have G_read_number := ok_rn (P := P) (w := w) (base := base) T
  have G_refuse_unless := ok_refuse (P := P) (w := w) (base := base) T
  refine T.F_read_end.okX sc_read_end (fun vs H Q E h => ?_) (fun cdv A outer s H vs Q E hr h => ?_)
  · obtain ⟨z, w, rfl, _⟩ := h; rfl
  obtain ⟨z, wd, rfl, rfl, ha, hl, q, qe⟩ := h
  have nd := sc_read_end.nd
  refine ⟨_, (pss_cons (ps_set (i := 1) nd rfl (Or.inl rfl) (pe_bm PySem.F.plainAttrs_str PySem.F.slot_str_find PySem.F.type_str_find mt_find (pe_glob (v := .str (Str.ofString "><")) rfl T.g_SIDES ⟨_, rfl⟩) (pa_cons (pe_slice sl_str (pv 0) (po_some (pe_un un_neg pe_int)) po_none) pa_nil)))
    (pss_cons (ps_expr (pe_call G_refuse_unless (hr.mono (by decide)) rfl T.m_refuse_unless T.k_refuse_unless T.b_refuse_unless .nil passX (pa_cons (pe_cmpR op_ge (pv 1) pe_int (nomark _)) pa_nil)))
    (pss_one (ps_ret (pe_op op_add (pe_op op_mul pe_int (pe_call G_read_number (hr.mono (by decide)) rfl T.m_read_number T.k_read_number T.b_read_number .nil passX (pa_cons (pe_slice sl_str (pv 0) po_none (po_some (pe_un un_neg pe_int))) pa_nil))) (pv 1)))))), ?_⟩
  have bl : wd.length ≤ 1000000 := Nat.le_trans hl (by decide)
  have dl : Asc wd.dropLast ∧ wd.dropLast.length ≤ 1000 := ⟨fun c hc => ha c ((List.dropLast_sublist _).subset hc), by rw [List.length_dropLast]; omega⟩
  refine via (fun σ' H' => H' = H ∧ ∃ side : Int, σ' = [some (vx wd), some (.int side)] ∧ ((0 ≤ side ∧ (∀ n, num wd.dropLast = some n → endV wd = some (2 * n + side)) ∧ (num wd.dropLast = none → endV wd = none)) ∨ (side < 0 ∧ endV wd = none))) (fun r1 => ?_) ?_
  · refine ⟨rfl, _, rfl, _, rfl, -1, rfl, _, wd, rfl, rfl, bl, _, _, rfl, rfl, r1 _ _ ⟨rfl, _, rfl, ?_⟩⟩
    rw [cut_last, drop_last]
    have fg : num ([] : List Nat) = none := num_none fun z => absurd z.1.1.1 (by decide)
    cases e : wd.getLast? with
    | none =>
      have : wd = [] := List.getLast?_eq_none_iff.mp e
      subst this
      show (0 ≤ Txt.find (Str.ofString "><") (sT []) ∧ _) ∨ _
      rw [find_nil]
      exact .inl ⟨by decide, ⟨fun n hn => absurd (fg.symm.trans hn) (by simp), fun _ => rfl⟩⟩
    | some c =>
      show (0 ≤ Txt.find (Str.ofString "><") (sT [c]) ∧ _) ∨ (Txt.find (Str.ofString "><") (sT [c]) < 0 ∧ _)
      rw [find_side]
      by_cases h1 : c = 62
      · subst h1
        rw [if_pos rfl]
        refine .inl ⟨by decide, fun n hn => ?_, fun hn => ?_⟩
        · unfold endV; rw [if_pos e, hn, Option.map_some]; congr 1; omega
        · unfold endV; rw [if_pos e, hn]; rfl
      rw [if_neg h1]
      by_cases h2 : c = 60
      · subst h2
        rw [if_pos rfl]
        refine .inl ⟨by decide, fun n hn => ?_, fun hn => ?_⟩
        · unfold endV; rw [if_neg (by rw [e]; decide), if_pos e, hn, Option.map_some]
        · unfold endV; rw [if_neg (by rw [e]; decide), if_pos e, hn]; rfl
      rw [if_neg h2]
      refine .inr ⟨by decide, ?_⟩
      unfold endV
      rw [if_neg (by rw [e]; intro z; exact h1 (Option.some.inj z)), if_neg (by rw [e]; intro z; exact h2 (Option.some.inj z))]
  rintro σ' H' ⟨rfl, side, rfl, hs⟩
  refine ⟨_, rfl, _, _, rfl, rfl, _, _, rfl, rfl, fun cb => ?_, fun cb x => ?_⟩
  · have cb : 0 ≤ side := of_decide_eq_true cb
    rcases hs with ⟨_, h1, h2⟩ | ⟨h1, _⟩
    · refine ⟨_, rfl, _, rfl, -1, rfl, _, wd, rfl, rfl, bl, _, _, rfl, by rw [cut_but], dl.1, dl.2, fun n hn H2 g2 => ?_, fun hn x H2 g2 => qe (h2 hn) x H2 g2⟩
      exact ⟨_, _, rfl, rfl, .inl ⟨by decide, by decide⟩, _, rfl, _, _, rfl, rfl, q _ (h1 n hn) H2 g2⟩
    · omega
  · have cb : ¬ 0 ≤ side := of_decide_eq_false cb
    rcases hs with ⟨h1, _⟩ | ⟨_, h2⟩
    · omega
    · exact qe h2 x H' (Same.refl _)
def spEnds (K : PySem.W.Frag) : Sp := fun vs H Q E => ∃ (p : Addr) (ws : List (List Nat)), vs = [.ref p] ∧ SqL K H p (vxs ws) ∧ (∀ w ∈ ws, Asc w ∧ w.length ≤ 1000) ∧ ws.length ≤ 1000 ∧
  (∀ ns : List Int, ws.map endV = ns.map some → ∀ D H', H D = none → Same H H' → H' D = some (.lst (ns.map V.int)) → Q (.ref D) H') ∧ ((¬ ∃ ns : List Int, ws.map endV = ns.map some) → ∀ x H', Same H H' → E (.ref x) none H')
theorem ok_ends (T : Txt K mg t) : FnOk P w K mg base (CXr P w t.c_NoText) 3 t.a_read_ends t.d_read_ends ["words"] (spEnds K) := by
  have G_read_end := ok_end (P := P) (w := w) (base := base) T
  refine T.F_read_ends.okX sc_read_ends (fun vs H Q E h => ?_) (fun cdv A outer s H vs Q E hr h => ?_)
  · obtain ⟨p, ws, rfl, _⟩ := h; rfl
  obtain ⟨p, ws, rfl, hp, hw, hl, q, qe⟩ := h
  have nd := sc_read_ends.nd
  have nd_word : (["word"] : List Str).Nodup := by decide
  refine ⟨_, (pss_one (ps_ret (pe_compE xg_of (N' := ["word"]) (js := [none]) rfl (pi_list (pv 0)) (fun _ _ _ _ _ => (pg_name (i := 0) nd_word rfl (Or.inl rfl))) (fun _ _ _ _ _ => pf_nil) (fun _ _ _ _ _ => (pe_call G_read_end (hr.mono (by decide)) rfl T.m_read_end T.k_read_end T.b_read_end .nil passE (pa_cons (pv 0) pa_nil)))))), ?_⟩
  refine ⟨_, rfl, p, rfl, ⟨_, hp⟩, fun D hD => ?_⟩
  refine comp_rel ws.length (fun i v => ∃ n, v = .int n ∧ endV (ws.getD i []) = some n) hD (by omega) (fun i H' hi g1 => ⟨_, vx ws[i], g1.seq hp, by rw [List.getElem?_map, List.getElem?_eq_getElem hi]; rfl⟩) (fun H' g1 => ⟨_, g1.seq hp, by rw [List.length_map]; exact Nat.le_refl _⟩) ?_ ?_
  · rintro i H' x H'' k hi g1 ⟨rfl, hx⟩ hk
    have hx := hx _ (g1.seq hp)
    rw [List.getElem?_map, List.getElem?_eq_getElem hi] at hx
    cases hx
    have hm : ws[i] ∈ ws := List.getElem_mem hi
    have e : ws.getD i [] = ws[i] := by rw [List.getD_eq_getElem?_getD, List.getElem?_eq_getElem hi]; rfl
    exact ⟨(Fills.refl _).set _ rfl, _, rfl, _, ws[i], rfl, rfl, (hw _ hm).1, (hw _ hm).2, fun n hn H4 g4 => hk _ H4 ⟨n, rfl, by rw [e]; exact hn⟩ g4, fun hn y H4 g4 => qe (none_no hm hn) y H4 (g1.trans g4)⟩
  · intro vs H' hlv hP g1 eD
    obtain ⟨ns, rfl, e⟩ := rel_some hlv hP
    exact q ns e D H' hD g1 eD
end K74

namespace K74
open PySem L2 PyProof.Rows TX
variable {P : Program} {w : World} {K : PySem.W.Frag} {mg : Str → Option Value} {base : Heap} {t : Adr}
theorem asc_sp {c : Nat} {l p : List Nat} (h : Asc l) (hp : p ∈ sp c l) : Asc p := fun d hd => by
  have e := jn_sp c l
  have key : ∀ (ps : List (List Nat)), p ∈ ps → d ∈ jn c ps := by
    intro ps
    induction ps with
    | nil => intro z; cases z
    | cons q r ih =>
      intro z
      cases r with
      | nil => rw [List.mem_singleton.mp z] at hd; exact hd
      | cons q' r' =>
        rw [jn_cons c q (by simp)]
        rcases List.mem_cons.mp z with rfl | z
        · exact List.mem_append_left _ hd
        · exact List.mem_append_right _ (List.mem_cons_of_mem _ (ih z))
  exact h d (e ▸ key _ hp)
def spRows : Sp := fun vs H Q _ => ∃ (z : Str) (l : List Nat), vs = [.str z] ∧ z = sT l ∧ l.length ≤ 1000 ∧ ∀ D H', H D = none → Same H H' → RwsAt H' D (rows l) → Q (.ref D) H'
theorem e_nl : Str.ofString "\n" = sT [10] := by decide +kernel
theorem e_sp : Str.ofString " " = sT [32] := by decide +kernel
theorem ok_rows (T : Txt K mg t) : FnOk P w K mg base CX0 1 t.a_rows_of t.d_rows_of ["text"] spRows := by
  refine T.F_rows_of.ok sc_rows_of (fun vs H Q E h => ?_) (fun cdv A outer s H vs Q E hr h => ?_)
  · obtain ⟨z, l, rfl, _⟩ := h; rfl
  obtain ⟨z, l, rfl, rfl, hl, q⟩ := h
  have nd := sc_rows_of.nd
  have nd_row : (["row"] : List Str).Nodup := by decide
  refine ⟨_, (pss_one (ps_ret (pe_comp (N' := ["row"]) (js := [none]) rfl (pi_list (pe_bm PySem.F.plainAttrs_str PySem.F.slot_str_split PySem.F.type_str_split mt_split (pv 0) (pa_cons pe_str pa_nil))) (fun _ _ _ _ _ => (pg_name (i := 0) nd_row rfl (Or.inl rfl))) (fun _ _ _ _ _ => pf_nil) (fun _ _ _ _ _ => (kpe_bm (K := K) rfl PySem.F.plainAttrs_str PySem.F.slot_str_split PySem.F.type_str_split mt_split (pv 0) (pa_cons pe_str pa_nil)))))), ?_⟩
  refine ⟨_, rfl, rfl, _, _, l, 10, rfl, rfl, rfl, e_nl, Nat.le_trans hl (by decide), fun D1 hD1 => ?_⟩
  have g1 := same_new hD1 (.lst (vxs (sp 10 l)))
  refine ⟨D1, rfl, ⟨_, SqL.of upd_same⟩, fun D hD => ?_⟩
  have sl : (sp 10 l).length ≤ 1001 := by
    rw [sp_len]
    have : l.count 10 ≤ l.length := List.count_le_length
    omega
  refine comp_objs (sp 10 l).length (fun i o => o = .lst (vxs (sp 32 ((sp 10 l).getD i [])))) hD (by omega) (fun i H' hi g2 => ⟨_, vx (sp 10 l)[i], SqL.of (g2 _ _ upd_same), by rw [List.getElem?_map, List.getElem?_eq_getElem hi]; rfl⟩) (fun H' g2 => ⟨_, SqL.of (g2 _ _ upd_same), by rw [List.length_map]; exact Nat.le_refl _⟩) ?_ ?_
  · rintro i H' x H'' k hi g2 ⟨rfl, hx⟩ hk
    have hx := hx _ (SqL.of (g2 _ _ upd_same))
    rw [List.getElem?_map, List.getElem?_eq_getElem hi] at hx
    cases hx
    have hm : (sp 10 l)[i] ∈ sp 10 l := List.getElem_mem hi
    have e : (sp 10 l).getD i [] = (sp 10 l)[i] := by rw [List.getD_eq_getElem?_getD, List.getElem?_eq_getElem hi]; rfl
    have hs := sp_short 10 l hm
    exact ⟨(Fills.refl _).set _ rfl, _, rfl, rfl, _, _, (sp 10 l)[i], 32, rfl, rfl, rfl, e_sp, Nat.le_trans (by omega : _ ≤ 1000) (by decide), fun D2 hD2 => hk D2 _ _ (by rw [e]) hD2 (same_new hD2 _) upd_same⟩
  · intro rr H' hlr hP g2 eD
    refine q D H' (g1.free hD) (g1.trans g2) ⟨rr, eD, by rw [hlr]; unfold rows; rw [List.length_map], fun i r hr => ?_⟩
    unfold rows at hr
    rw [List.getElem?_map] at hr
    obtain ⟨p, hp, rfl⟩ := Option.map_eq_some_iff.mp hr
    have hi : i < (sp 10 l).length := (List.getElem?_eq_some_iff.mp hp).1
    obtain ⟨o, rfl, ho⟩ := hP i rr[i] (List.getElem?_eq_getElem (by omega))
    refine ⟨_, List.getElem?_eq_getElem (by omega), ?_⟩
    rw [ho, List.getD_eq_getElem?_getD, hp]
    rfl
def spFrom : Sp := fun vs H Q _ => ∃ (a : Addr) (W : List Rw) (k : Nat) (z : Str) (wd : List Nat), vs = [.ref a, .int (k : Int), .str z] ∧ z = sT wd ∧ RwsAt H a W ∧ (∀ r ∈ W, r ≠ []) ∧ W.length ≤ 2000 ∧ ∀ D H', H D = none → Same H H' → RwsAt H' D (run wd (W.drop k)) → Q (.ref D) H'
theorem ok_from (T : Txt K mg t) : FnOk P w K mg base CX0 1 t.a_rows_from t.d_rows_from ["rows", "place", "word"] spFrom := by
  refine T.F_rows_from.ok sc_rows_from (fun vs H Q E h => ?_) (fun cdv A outer s H vs Q E hr h => ?_)
  · obtain ⟨a, W, k, z, wd, rfl, _⟩ := h; rfl
  obtain ⟨a, W, k, z, wd, rfl, rfl, hW, hne, hl, q⟩ := h
  have nd := sc_rows_from.nd
  refine ⟨_, (pss_cons (ps_set (i := 3) nd rfl (Or.inl rfl) (pe_lst pa_nil))
    (pss_cons (ps_for PassesOwn.never rfl (pi_list (pe_slice sl_list (pv 0) (po_some (pv 1)) po_none)) (pg_name (i := 4) nd rfl (Or.inl rfl)) (pss_cons (ps_if (pt_cmpR op_ne (pe_ix ix_list (pv 4) pe_int (fun _ _ => rfl)) (pv 2) (nomark _)) (pss_one (ps_ret (pv 3))) pss_nil)
    (pss_one (ps_expr (pe_bm PySem.F.plainAttrs_list PySem.F.slot_list_append PySem.F.type_list_append mt_append (pv 3) (pa_cons (pe_slice sl_list (pv 4) (po_some pe_int) po_none) pa_nil))))))
    (pss_one (ps_ret (pv 3))))), ?_⟩
  obtain ⟨rr, e1, e2, e3⟩ := id hW
  refine ⟨(by show 0 ≤ sizeLine; decide), fun tl htl => ?_⟩
  have g1 := same_new htl (.lst [])
  refine ⟨_, rfl, _, rfl, _, rfl, a, _, rfl, SqL.of (g1 _ _ e1), fun sl hsl => ?_⟩
  rw [cut_fromV]
  have g2 := same_new hsl (.lst ((rr.map V.ref).drop k))
  have slt : sl ≠ tl := fun z => by rw [z, upd_same] at hsl; cases hsl
  refine ⟨sl, rfl, ⟨_, SqL.of upd_same⟩, for_list (K := K) (a := sl) (xs := (rr.map V.ref).drop k) (fun i σ H' => (∃ v4, σ = [some (.ref a), some (.int k), some (vx wd), some (.ref tl), v4]) ∧ Same H H' ∧ H' sl = some (.lst ((rr.map V.ref).drop k)) ∧
    ((W.drop k).take i).all (fun r => r.head? == some wd) = true ∧ ∃ tr : List Addr, H' tl = some (.lst (tr.map V.ref)) ∧ tr.length = min i (W.drop k).length ∧ tl ∉ tr ∧ sl ∉ tr ∧ ∀ (j : Nat) r, ((W.drop k).take i)[j]? = some r → ∃ x, tr[j]? = some x ∧ H' x = some (.lst (vxs (r.drop 1)))) ?_ ?_ ?_ ?_⟩
  · refine ⟨⟨_, rfl⟩, g1.trans g2, upd_same, rfl, [], by rw [upd_ne slt.symm]; exact upd_same, by simp, by simp, by simp, fun j r h => by simp at h⟩
  · rintro i σ H' _ ⟨_, _, h, _⟩
    exact SqL.of h
  · rintro i x σ H' hx ⟨⟨v4, rfl⟩, g3, es, ha, tr, t1, t2, t3, t4, t5⟩
    rw [List.getElem?_drop] at hx
    obtain ⟨r, xa, er, rfl, exa⟩ := rws_nth e2 e3 hx
    have exa := g3 _ _ exa
    have er' : (W.drop k)[i]? = some r := by rw [List.getElem?_drop]; exact er
    have hi : i < (W.drop k).length := (List.getElem?_eq_some_iff.mp er').1
    have hr0 := hne r (List.mem_of_getElem? er)
    have tk : (W.drop k).take (i + 1) = (W.drop k).take i ++ [r] := by rw [List.take_add_one, er']; rfl
    obtain ⟨w0, rt, rfl⟩ : ∃ w0 rt, r = w0 :: rt := by cases r with
      | nil => exact absurd rfl hr0
      | cons w0 rt => exact ⟨w0, rt, rfl⟩
    refine ⟨_, rfl, xa, _, _, vx w0, rfl, rfl, SqL.of exa, atI_nat (j := 0) rfl, _, rfl, rfl, _, rfl, ite2 (fun c => ?_) (fun c => ?_)⟩
    · have c : w0 ≠ wd := fun z => by rw [z] at c; simp at c
      have er2 : run wd (W.drop k) = ((W.drop k).take i).map (·.drop 1) := by
        unfold TX.run
        have e : W.drop k = (W.drop k).take i ++ (W.drop k).drop i := (List.take_append_drop _ _).symm
        rw [e, takeW_app]
        · rw [← e]
        · intro y hy; exact List.all_eq_true.mp ha y hy
        · intro y hy
          rw [List.head?_drop, er'] at hy
          cases hy
          exact beq_eq_false_iff_ne.mpr fun z => c (Option.some.inj z)
      refine ⟨_, rfl, q tl H' htl g3 ?_⟩
      rw [er2]
      refine ⟨tr, t1, by rw [List.length_map, List.length_take]; exact t2, fun j r hr => ?_⟩
      rw [List.getElem?_map] at hr
      obtain ⟨r', h1, rfl⟩ := Option.map_eq_some_iff.mp hr
      exact t5 j r' h1
    · have c : w0 = wd := by
        have c : V.str (sT w0) = V.str (sT wd) := by simpa using c
        exact sT_inj (V.str.inj c)
      subst c
      refine ⟨_, rfl, .inl ⟨rfl, _, SqL.of t1⟩, _, rfl, 1, rfl, xa, _, rfl, SqL.of exa, fun pn hpn => ?_⟩
      have e1d : cutV (vxs (w0 :: rt)) (some 1) none = vxs rt := (cut_fromV _ 1).trans rfl
      rw [e1d]
      have g4 := same_new hpn (.lst (vxs rt))
      have pt : pn ≠ tl := (ne_of_none t1 hpn).symm
      have ps : pn ≠ sl := (ne_of_none es hpn).symm
      refine ⟨tl, _, _, rfl, rfl, g4 _ _ t1, ?_, ⟨_, rfl⟩, (g3.trans g4).fresh htl _, by rw [upd_ne slt]; exact g4 _ _ es, ?_, tr ++ [pn], ?_, ?_, ?_, ?_, fun j r hj => ?_⟩
      · rw [List.length_map, t2]; exact Nat.lt_of_le_of_lt (by rw [List.length_drop]; omega : _ ≤ 2000) (by decide)
      · rw [tk, List.all_append, ha]; simp
      · rw [List.map_append]; exact upd_same
      · rw [List.length_append, t2, List.length_singleton]; omega
      · intro z; rcases List.mem_append.mp z with z | z
        · exact t3 z
        · exact pt (List.mem_singleton.mp z).symm
      · intro z; rcases List.mem_append.mp z with z | z
        · exact t4 z
        · exact ps (List.mem_singleton.mp z).symm
      · have tl2 : tr.length = i := by rw [t2]; omega
        have ll : ((W.drop k).take i).length = i := by rw [List.length_take]; omega
        rw [tk] at hj
        by_cases h : j < i
        · rw [List.getElem?_append_left (by omega)] at hj
          obtain ⟨y, y1, y2⟩ := t5 j r hj
          refine ⟨y, by rw [List.getElem?_append_left (by omega)]; exact y1, ?_⟩
          rw [upd_ne (show y ≠ tl from fun z => t3 (z ▸ List.mem_of_getElem? y1))]
          exact g4 _ _ y2
        · have hj2 : j = i := by
            have := (List.getElem?_eq_some_iff.mp hj).1
            rw [List.length_append, ll] at this
            simp at this; omega
          subst hj2
          rw [List.getElem?_append_right (by omega), ll, Nat.sub_self] at hj
          cases hj
          exact ⟨pn, by rw [← tl2, List.getElem?_concat_length], by rw [upd_ne pt]; exact upd_same⟩
  · rintro σ H' ⟨⟨v4, rfl⟩, g3, es, ha, tr, t1, t2, t3, t4, t5⟩
    have ef : ((rr.map V.ref).drop k).length = (W.drop k).length := by rw [List.length_drop, List.length_map, e2, List.length_drop]
    rw [ef] at ha t2 t5
    rw [List.take_of_length_le (Nat.le_refl _)] at ha t5
    have er2 : run wd (W.drop k) = (W.drop k).map (·.drop 1) := by
      unfold TX.run
      have := takeW_app (p := fun r : Rw => r.head? == some wd) (a := W.drop k) (b := []) (fun y hy => List.all_eq_true.mp ha y hy) (fun x hx => by cases hx)
      rw [List.append_nil] at this
      rw [this]
    refine ⟨_, rfl, q tl H' htl g3 ?_⟩
    rw [er2]
    refine ⟨tr, t1, by rw [List.length_map, t2]; omega, fun j r hr => ?_⟩
    rw [List.getElem?_map] at hr
    obtain ⟨r', h1, rfl⟩ := Option.map_eq_some_iff.mp hr
    exact t5 j r' h1
end K74

namespace L2
open PySem TX
theorem e_map : Str.ofString "map" = sT kMap := by decide +kernel
theorem e_tie : Str.ofString "tie" = sT kTie := by decide +kernel
theorem e_ord : Str.ofString "order" = sT kOrd := by decide +kernel
end L2
namespace K74
open PySem L2 PyProof.Rows TX
variable {P : Program} {w : World} {K : PySem.W.Frag} {mg : Str → Option Value} {base : Heap} {t : Adr}
structure Fine (l : List Nat) : Prop where
  a : Asc l
  n : l.length ≤ 1000
theorem rows_ne {l : List Nat} : ∀ r ∈ rows l, r ≠ [] := fun r hr => by
  unfold rows at hr
  obtain ⟨p, _, rfl⟩ := List.mem_map.mp hr
  exact sp_ne 32 p
theorem rows_len {l : List Nat} (h : l.length ≤ 1000) : (rows l).length ≤ 1001 := by
  unfold rows
  rw [List.length_map, sp_len]
  have : l.count 10 ≤ l.length := List.count_le_length
  omega
theorem rows_word {l : List Nat} (h : Fine l) : ∀ r ∈ rows l, r.length ≤ 1001 ∧ ∀ x ∈ r, Asc x ∧ x.length ≤ 1000 := fun r hr => by
  unfold rows at hr
  obtain ⟨p, hp, rfl⟩ := List.mem_map.mp hr
  have h1 := sp_short 10 l hp
  have hn := h.n
  refine ⟨?_, fun x hx => ⟨asc_sp (asc_sp h.a hp) hx, ?_⟩⟩
  · rw [sp_len]
    have : p.count 32 ≤ p.length := List.count_le_length
    omega
  · have := sp_short 32 p hx
    omega
theorem run_sub {k : Wd} {W : List Rw} {r : Rw} (h : r ∈ TX.run k W) : ∃ r' ∈ W, r = r'.drop 1 := by
  unfold TX.run at h
  obtain ⟨r', h1, rfl⟩ := List.mem_map.mp h
  exact ⟨r', (List.takeWhile_sublist _).subset h1, rfl⟩
theorem run_word {l : List Nat} (hf : Fine l) {k : Wd} {n : Nat} {r : Rw} (h : r ∈ TX.run k ((rows l).drop n)) : r.length ≤ 1000 ∧ ∀ x ∈ r, Asc x ∧ x.length ≤ 1000 := by
  obtain ⟨r', h1, rfl⟩ := run_sub h
  obtain ⟨h2, h3⟩ := rows_word hf r' ((List.drop_sublist _ _).subset h1)
  exact ⟨by rw [List.length_drop]; omega, fun x hx => h3 x ((List.drop_sublist _ _).subset hx)⟩
theorem lift_rel {α : Type} (R : Nat → α → Prop) : ∀ n : Nat, (∀ i, i < n → ∃ x, R i x) → ∃ xs : List α, xs.length = n ∧ ∀ (i : Nat) x, xs[i]? = some x → R i x
  | 0, _ => ⟨[], rfl, fun i x h => by simp at h⟩
  | n + 1, h => by
    obtain ⟨xs, h1, h2⟩ := lift_rel R n fun i hi => h i (by omega)
    obtain ⟨x, hx⟩ := h n (by omega)
    refine ⟨xs ++ [x], by simp [h1], fun i y e => ?_⟩
    by_cases hi : i < n
    · rw [List.getElem?_append_left (by omega)] at e
      exact h2 i y e
    · have := (List.getElem?_eq_some_iff.mp e).1
      rw [List.length_append, h1, List.length_singleton] at this
      have hi2 : i = n := by omega
      subst hi2
      rw [← h1, List.getElem?_concat_length] at e
      cases e
      exact hx
theorem webI_of {H : Hp} {r tA oA : Addr} {m : Int} {ts : AW.Ts} {os : AW.Os} {tr orr : List Addr} (h : H r = some (.tup [.int m, .ref tA, .ref oA])) (h1 : H tA = some (.lst (tr.map V.ref))) (h2 : tr.length = ts.length)
    (h3 : ∀ (i : Nat) a, tr[i]? = some a → ∃ t, ts[i]? = some t ∧ H a = some (.tup [.int t.1, .int t.2])) (k1 : H oA = some (.lst (orr.map V.ref))) (k2 : orr.length = os.length) (k3 : ∀ (i : Nat) a, orr[i]? = some a → ∃ o, os[i]? = some o ∧ H a = some (.lst (o.map V.int))) : WebI H r m ts os := by
  refine ⟨tA, oA, h, ⟨tr, h1, h2, fun i t e => ?_⟩, orr, k1, k2, fun i o e => ?_⟩
  · have hi : i < tr.length := by rw [h2]; exact (List.getElem?_eq_some_iff.mp e).1
    obtain ⟨t', e1, e2⟩ := h3 i _ (List.getElem?_eq_getElem hi)
    rw [e] at e1; cases e1
    exact ⟨_, List.getElem?_eq_getElem hi, e2⟩
  · have hi : i < orr.length := by rw [k2]; exact (List.getElem?_eq_some_iff.mp e).1
    obtain ⟨t', e1, e2⟩ := k3 i _ (List.getElem?_eq_getElem hi)
    rw [e] at e1; cases e1
    exact ⟨_, List.getElem?_eq_getElem hi, e2⟩
def spRMT : Sp := fun vs H Q E => ∃ (z : Str) (l : List Nat), vs = [.str z] ∧ z = sT l ∧ Fine l ∧ (∀ m ts os, Good (rows l) m ts os → AW.IsMap m ts os ∧ ∀ r H', Same H H' → WebI H' r m ts os → Q (.ref r) H') ∧ ((¬ ∃ m ts os, Good (rows l) m ts os) → ∀ x H', Same H H' → E (.ref x) none H')
theorem ok_rmT (T : Txt K mg t) : FnOk P w K mg base (CXr P w t.c_NoText) 6 t.a_read_map t.d_read_map ["text"] spRMT := by
  have G_rows_of := ok_rows (P := P) (w := w) (base := base) T
  have G_rows_from := ok_from (P := P) (w := w) (base := base) T
  have G_refuse_unless := ok_refuse (P := P) (w := w) (base := base) T
  have G_read_so_many := ok_many (P := P) (w := w) (base := base) T
  have G_read_pair := ok_pair (P := P) (w := w) (base := base) T
  have G_read_ends := ok_ends (P := P) (w := w) (base := base) T
  have G_check_map := ok_check (P := P) (w := w) (base := base) T
  refine T.F_read_map.okX sc_read_map (fun vs H Q E h => ?_) (fun cdv A outer s H vs Q E hr h => ?_)
  · obtain ⟨z, l, rfl, _⟩ := h; rfl
  obtain ⟨z, l, rfl, rfl, hf, q, qe⟩ := h
  have nd := sc_read_map.nd
  have nd_words : (["words"] : List Str).Nodup := by decide
  refine ⟨_, (pss_cons (ps_set (i := 1) nd rfl (Or.inl rfl) (pe_call G_rows_of (hr.mono (by decide)) rfl T.m_rows_of T.k_rows_of T.b_rows_of .nil pass0 (pa_cons (pv 0) pa_nil)))
    (pss_cons (ps_set (i := 2) nd rfl (Or.inl rfl) (pe_call G_rows_from (hr.mono (by decide)) rfl T.m_rows_from T.k_rows_from T.b_rows_from .nil pass0 (pa_cons (pv 1) (pa_cons pe_int (pa_cons pe_str pa_nil)))))
    (pss_cons (ps_set (i := 3) nd rfl (Or.inl rfl) (pe_call G_rows_from (hr.mono (by decide)) rfl T.m_rows_from T.k_rows_from T.b_rows_from .nil pass0 (pa_cons (pv 1) (pa_cons pe_int (pa_cons pe_str pa_nil)))))
    (pss_cons (ps_set (i := 4) nd rfl (Or.inl rfl) (pe_call G_rows_from (hr.mono (by decide)) rfl T.m_rows_from T.k_rows_from T.b_rows_from .nil pass0 (pa_cons (pv 1) (pa_cons (pe_op op_add pe_int (pe_callB call_len_seq rfl T.z_len PySem.boot_len (pa_cons (pv 3) pa_nil))) (pa_cons pe_str pa_nil)))))
    (pss_cons (ps_expr (pe_call G_refuse_unless (hr.mono (by decide)) rfl T.m_refuse_unless T.k_refuse_unless T.b_refuse_unless .nil passX (pa_cons (pe_and (pe_cmpR op_eq (pe_callB call_len_seq rfl T.z_len PySem.boot_len (pa_cons (pv 2) pa_nil)) pe_int (nomark _)) (pe_andT (pv 4) (pe_one (pe_cmpR op_eq (pe_op op_add (pe_op op_add pe_int (pe_callB call_len_seq rfl T.z_len PySem.boot_len (pa_cons (pv 3) pa_nil))) (pe_callB call_len_seq rfl T.z_len PySem.boot_len (pa_cons (pv 4) pa_nil))) (pe_callB call_len_seq rfl T.z_len PySem.boot_len (pa_cons (pv 1) pa_nil)) (nomark _))))) pa_nil)))
    (pss_cons (ps_set (i := 5) nd rfl (Or.inl rfl) (pe_ix ix_seq (pe_call G_read_so_many (hr.mono (by decide)) rfl T.m_read_so_many T.k_read_so_many T.b_read_so_many .nil passX (pa_cons (pe_ix ix_list (pv 2) pe_int (fun _ _ => rfl)) (pa_cons pe_int pa_nil))) pe_int (fun _ _ => rfl)))
    (pss_cons (ps_expr (pe_call G_refuse_unless (hr.mono (by decide)) rfl T.m_refuse_unless T.k_refuse_unless T.b_refuse_unless .nil passX (pa_cons (pe_cmpR op_eq (pv 5) (pe_callB call_len_seq rfl T.z_len PySem.boot_len (pa_cons (pv 4) pa_nil)) (nomark _)) pa_nil)))
    (pss_cons (ps_set (i := 6) nd rfl (Or.inl rfl) (pe_tup (pa_cons (pv 5) (pa_cons (pe_compE xg_of (N' := ["words"]) (js := [none]) rfl (pi_list (pv 3)) (fun _ _ _ _ _ => (pg_name (i := 0) nd_words rfl (Or.inl rfl))) (fun _ _ _ _ _ => pf_nil) (fun _ _ _ _ _ => (pe_call G_read_pair (hr.mono (by decide)) rfl T.m_read_pair T.k_read_pair T.b_read_pair .nil passE (pa_cons (pv 0) pa_nil)))) (pa_cons (pe_compE xg_of (N' := ["words"]) (js := [none]) rfl (pi_list (pv 4)) (fun _ _ _ _ _ => (pg_name (i := 0) nd_words rfl (Or.inl rfl))) (fun _ _ _ _ _ => pf_nil) (fun _ _ _ _ _ => (pe_call G_read_ends (hr.mono (by decide)) rfl T.m_read_ends T.k_read_ends T.b_read_ends .nil passE (pa_cons (pv 0) pa_nil)))) pa_nil)))))
    (pss_cons (ps_expr (pe_call G_check_map (hr.mono (by decide)) rfl T.m_check_map T.k_check_map T.b_check_map .nil passF (pa_cons (pv 6) pa_nil)))
    (pss_one (ps_ret (pv 6)))))))))))), ?_⟩
  skip
  have hn := hf.n
  have rl := rows_len hn
  refine ⟨_, rfl, _, l, rfl, rfl, hn, fun ra H1 _ g1 r1 => ?_⟩
  refine ⟨_, rfl, ra, _, 0, _, kMap, rfl, e_map, r1, rows_ne, by omega, fun ba H2 _ g2 b2 => ?_⟩
  refine ⟨_, rfl, ra, _, 1, _, kTie, rfl, e_tie, r1.same g2, rows_ne, by omega, fun ta H3 _ g3 t3 => ?_⟩
  rw [List.drop_zero] at b2
  obtain ⟨br, bb1, bb2, bb3⟩ := b2
  obtain ⟨tr, tt1, tt2, tt3⟩ := t3
  have g23 := g2.trans g3
  have g13 := g1.trans g23
  refine ⟨_, rfl, _, rfl, ta, _, rfl, .inl (SqL.of tt1), _, _, rfl, rfl, ra, rows l, 1 + (TX.run kTie ((rows l).drop 1)).length, _, kOrd, ?_, e_ord, r1.same g23, rows_ne, by omega, fun oa H4 _ g4 o4 => ?_⟩
  · rw [List.length_map, tt2]; rfl
  obtain ⟨orr, oo1, oo2, oo3⟩ := o4
  have g14 := g13.trans g4
  have r4 := r1.same (g23.trans g4)
  obtain ⟨rr, rr1, rr2, rr3⟩ := r4
  generalize hT : TX.run kTie ((rows l).drop 1) = Tn at tt2 tt3 oo2 oo3
  generalize hO : TX.run kOrd ((rows l).drop (1 + Tn.length)) = On at oo2 oo3
  have told : ∀ {m ts os}, Good (rows l) m ts os → Told (rows l) m ts os := fun h => h.told
  have wT : ∀ r ∈ Tn, r.length ≤ 1000 ∧ ∀ x ∈ r, Asc x ∧ x.length ≤ 1000 := fun r hr => run_word hf (hT ▸ hr)
  have wO : ∀ r ∈ On, r.length ≤ 1000 ∧ ∀ x ∈ r, Asc x ∧ x.length ≤ 1000 := fun r hr => run_word hf (hO ▸ hr)
  have lT : Tn.length ≤ 1001 := by rw [← hT]; exact Nat.le_trans (run_len _ _) (by rw [List.length_drop]; omega)
  have lO : On.length ≤ 1001 := by rw [← hO]; exact Nat.le_trans (run_len _ _) (by rw [List.length_drop]; omega)
  dsimp only [gName]
  refine viaN (fun σ' H' => H' = H4 ∧ σ' = [some (vx l), some (.ref ra), some (.ref ba), some (.ref ta), some (.ref oa), none, none] ∧ (TX.run kMap (rows l)).length = 1 ∧ On ≠ [] ∧ 1 + Tn.length + On.length = (rows l).length) (fun N n1 => ?_) ?_
  · refine ⟨_, rfl, ba, _, rfl, .inl (SqL.of (g4 _ _ (g3 _ _ bb1))), rfl, _, rfl, ite2 (fun c => ?_) (fun c => ?_)⟩
    · have c1 : (TX.run kMap (rows l)).length = 1 := by
        have c := V.int.inj (of_decide_eq_true c)
        rw [List.length_map, bb2] at c
        exact Int.ofNat.inj c
      refine ⟨_, rfl, _, .inl ⟨_, SqL.of oo1, rfl⟩, ite2 (fun c => ?_) (fun c => ?_)⟩
      · have c2 : On ≠ [] := fun z => by
          rw [z] at oo2
          rw [List.length_eq_zero_iff.mp oo2] at c
          cases c
        refine ⟨_, rfl, ta, _, rfl, .inl (SqL.of (g4 _ _ tt1)), _, _, rfl, rfl, _, rfl, oa, _, rfl, .inl (SqL.of oo1), _, _, rfl, rfl, _, rfl, ra, _, rfl, .inl (SqL.of rr1), rfl, _, _, rfl, rfl, fun cb => ?_, fun cb x => ?_⟩
        · refine n1 _ _ ⟨rfl, rfl, c1, c2, ?_⟩
          have cb := V.int.inj (of_decide_eq_true cb)
          rw [List.length_map, List.length_map, List.length_map, tt2, oo2, rr2] at cb
          omega
        · refine qe (fun ⟨m, ts, os, h⟩ => ?_) x H4 g14
          have := (told h).l
          rw [hT, hO] at this
          apply of_decide_eq_false cb
          rw [List.length_map, List.length_map, List.length_map, tt2, oo2, rr2]
          exact congrArg V.int (by omega)
      · refine ⟨_, false, rfl, .inl ⟨_, SqL.of oo1, ?_⟩, fun z => Bool.noConfusion z, fun _ x => qe (fun ⟨m, ts, os, h⟩ => ?_) x H4 g14⟩
        · simpa using c
        · have := (told h).ne
          rw [hT, hO] at this
          apply this
          have c : orr = [] := by simpa using c
          rw [c] at oo2
          exact List.length_eq_zero_iff.mp oo2.symm
    · refine ⟨_, false, rfl, rfl, fun z => Bool.noConfusion z, fun _ x => qe (fun ⟨m, ts, os, h⟩ => c ?_) x H4 g14⟩
      obtain ⟨w, e, _⟩ := (told h).b
      rw [e] at bb2
      refine decide_eq_true (congrArg V.int ?_)
      rw [List.length_map, bb2]
      rfl
  rintro σ' H4' ⟨rfl, rfl, c1, c2, c3⟩
  have ew := of_runs c1 (by rw [hT, hO]; exact c3)
  rw [hT, hO] at ew
  obtain ⟨b, eb, eW⟩ := ew
  rw [eb] at bb2 bb3
  obtain ⟨bx, bx1, bx2⟩ := bb3 0 b rfl
  have bx2 := g4 _ _ (g3 _ _ bx2)
  have wb : b.length ≤ 1000 ∧ ∀ x ∈ b, Asc x ∧ x.length ≤ 1000 := run_word (n := 0) (k := kMap) hf (by rw [List.drop_zero, eb]; exact List.mem_cons_self)
  refine ⟨_, rfl, ba, _, _, .ref bx, rfl, rfl, SqL.of (g4 _ _ (g3 _ _ bb1)), atI_nat (j := 0) (by rw [List.getElem?_map, bx1]; rfl), bx, b, 1, rfl, SqL.of bx2, wb.2, wb.1, fun ns en e1 D5 H5 _ g5 e5 => ?_, fun hn x H5 g5 => qe (fun ⟨m, ts, os, h⟩ => hn ?_) x H5 (g14.trans g5)⟩
  rotate_left
  · obtain ⟨w, e, e2⟩ := (told h).b
    rw [eb] at e
    injection e with e
    exact ⟨[m], by rw [e, List.map_cons, e2]; rfl, rfl⟩
  obtain ⟨m, rfl⟩ := List.length_eq_one_iff.mp (show ns.length = 1 by omega)
  have g15 := g14.trans g5
  refine .inl ⟨D5, _, _, .int m, rfl, rfl, SqL.of e5, rfl, ?_⟩
  dsimp only [gName]
  refine viaN (fun σ' H' => H' = H5 ∧ σ' = [some (vx l), some (.ref ra), some (.ref ba), some (.ref ta), some (.ref oa), some (.int m), none] ∧ (On.length : Int) = m) (fun N n1 => ?_) ?_
  · refine ⟨_, rfl, _, rfl, oa, _, rfl, .inl (SqL.of (g5 _ _ oo1)), rfl, _, _, rfl, rfl, fun cb => n1 _ _ ⟨rfl, rfl, ?_⟩, fun cb x => qe (fun ⟨m', ts, os, h⟩ => of_decide_eq_false cb ?_) x H5 g15⟩
    · have := V.int.inj (of_decide_eq_true cb)
      rw [List.length_map, oo2] at this
      exact this.symm
    · have h1 := (told h).n
      rw [hT, hO] at h1
      obtain ⟨w, e, e2⟩ := (told h).b
      rw [eb] at e
      injection e with e
      rw [e] at en
      have e3 : num w = some m := by injection en
      rw [e2] at e3
      rw [List.length_map, oo2, h1, Option.some.inj e3]
  rintro σ' H5' ⟨rfl, rfl, cm⟩
  refine ⟨_, rfl, _, rfl, ta, rfl, ⟨_, SqL.of (g5 _ _ (g4 _ _ tt1))⟩, fun D6 hD6 => ?_⟩
  have k1 := fun {H' : Hp} (g : Same H5' H') => g _ _ (g5 _ _ (g4 _ _ tt1))
  refine comp_objs Tn.length (fun i o => ∃ a c : Int, o = .tup [.int a, .int c] ∧ (Tn.getD i []).map num = [some a, some c]) hD6 (by omega) (fun i H' hi g => ⟨_, .ref tr[i], SqL.of (k1 g), by rw [List.getElem?_map, List.getElem?_eq_getElem (by omega)]; rfl⟩) (fun H' g => ⟨_, SqL.of (k1 g), by rw [List.length_map]; omega⟩) ?_ ?_
  · rintro i H' x H'' k hi g ⟨rfl, hx⟩ hk
    obtain ⟨r, xa, er, rfl, exa⟩ := rws_nth tt2 tt3 (hx _ (SqL.of (k1 g)))
    have er2 : Tn.getD i [] = r := by rw [List.getD_eq_getElem?_getD, er]; rfl
    have hm := List.mem_of_getElem? er
    refine ⟨(Fills.refl _).set _ rfl, _, rfl, xa, r, rfl, SqL.of (g _ _ (g5 _ _ (g4 _ _ exa))), (wT r hm).2, (wT r hm).1, fun a c e D7 H7 hD7 g7 e7 => hk D7 _ H7 ⟨a, c, rfl, by rw [er2]; exact e⟩ hD7 g7 e7, fun hn y H7 g7 => qe (fun ⟨m', ts, os, h⟩ => hn ?_) y H7 (g15.trans (g.trans g7))⟩
    have h1 := (told h).t
    rw [hT] at h1
    have h2 : r.map num ∈ ts.map fun t => [some t.1, some t.2] := h1 ▸ List.mem_map_of_mem hm
    obtain ⟨t', _, e⟩ := List.mem_map.mp h2
    exact ⟨_, _, e.symm⟩
  intro tr6 H6 l6 p6 g6 e6
  refine ⟨_, rfl, oa, rfl, ⟨_, SqL.of (g6 _ _ (g5 _ _ oo1))⟩, fun D7 hD7 => ?_⟩
  have k2 := fun {H' : Hp} (g : Same H6 H') => g _ _ (g6 _ _ (g5 _ _ oo1))
  refine comp_objs On.length (fun i o => ∃ ns : List Int, o = .lst (ns.map V.int) ∧ (On.getD i []).map endV = ns.map some) hD7 (by omega) (fun i H' hi g => ⟨_, .ref orr[i], SqL.of (k2 g), by rw [List.getElem?_map, List.getElem?_eq_getElem (by omega)]; rfl⟩) (fun H' g => ⟨_, SqL.of (k2 g), by rw [List.length_map]; omega⟩) ?_ ?_
  · rintro i H' x H'' k hi g ⟨rfl, hx⟩ hk
    obtain ⟨r, xa, er, rfl, exa⟩ := rws_nth oo2 oo3 (hx _ (SqL.of (k2 g)))
    have er2 : On.getD i [] = r := by rw [List.getD_eq_getElem?_getD, er]; rfl
    have hm := List.mem_of_getElem? er
    refine ⟨(Fills.refl _).set _ rfl, _, rfl, xa, r, rfl, SqL.of (g _ _ (g6 _ _ (g5 _ _ exa))), (wO r hm).2, (wO r hm).1, fun ns e D8 H8 hD8 g8 e8 => hk D8 _ H8 ⟨ns, rfl, by rw [er2]; exact e⟩ hD8 g8 e8, fun hn y H8 g8 => qe (fun ⟨m', ts, os, h⟩ => hn ?_) y H8 (g15.trans (g6.trans (g.trans g8)))⟩
    have h1 := (told h).o
    rw [hT, hO] at h1
    have h2 : r.map endV ∈ os.map (·.map some) := h1 ▸ List.mem_map_of_mem hm
    obtain ⟨t', _, e⟩ := List.mem_map.mp h2
    exact ⟨_, e.symm⟩
  intro or7 H7 l7 p7 g7 e7
  refine ⟨(by show 3 ≤ sizeLine; decide), fun wb' hwb => ?_⟩
  have g8 := same_new hwb (.tup [.int m, .ref D6, .ref D7])
  obtain ⟨ts, tsl, tsp⟩ := lift_rel (fun i (t : Int × Int) => (Tn.getD i []).map num = [some t.1, some t.2] ∧ ∃ a, tr6[i]? = some a ∧ H6 a = some (.tup [.int t.1, .int t.2])) Tn.length fun i hi => by
    obtain ⟨o, ⟨a, c, rfl, e⟩, h⟩ := p6 i tr6[i] (List.getElem?_eq_getElem (by omega))
    exact ⟨(a, c), e, _, List.getElem?_eq_getElem (by omega), h⟩
  obtain ⟨os, osl, osp⟩ := lift_rel (fun i (o : List Int) => (On.getD i []).map endV = o.map some ∧ ∃ a, or7[i]? = some a ∧ H7 a = some (.lst (o.map V.int))) On.length fun i hi => by
    obtain ⟨o, ⟨ns, rfl, e⟩, h⟩ := p7 i or7[i] (List.getElem?_eq_getElem (by omega))
    exact ⟨ns, e, _, List.getElem?_eq_getElem (by omega), h⟩
  have hw : WebI (upd H7 wb' (.tup [.int m, .ref D6, .ref D7])) wb' m ts os := by
    refine webI_of upd_same (g8 _ _ (g7 _ _ e6)) (by omega) (fun i a ha => ?_) (g8 _ _ e7) (by omega) (fun i a ha => ?_)
    · have hi : i < ts.length := by have := (List.getElem?_eq_some_iff.mp ha).1; omega
      obtain ⟨_, a', h1, h2⟩ := tsp i _ (List.getElem?_eq_getElem hi)
      rw [ha] at h1; cases h1
      exact ⟨_, List.getElem?_eq_getElem hi, g8 _ _ (g7 _ _ h2)⟩
    · have hi : i < os.length := by have := (List.getElem?_eq_some_iff.mp ha).1; omega
      obtain ⟨_, a', h1, h2⟩ := osp i _ (List.getElem?_eq_getElem hi)
      rw [ha] at h1; cases h1
      exact ⟨_, List.getElem?_eq_getElem hi, g8 _ _ h2⟩
  have hgood : Good (rows l) m ts os := by
    refine good_of eW en cm c2 ?_ ?_
    · refine List.ext_getElem? fun i => ?_
      rw [List.getElem?_map, List.getElem?_map]
      by_cases hi : i < ts.length
      · have := (tsp i _ (List.getElem?_eq_getElem hi)).1
        rw [List.getD_eq_getElem?_getD, List.getElem?_eq_getElem (show i < Tn.length by omega)] at this
        rw [List.getElem?_eq_getElem (show i < Tn.length by omega), List.getElem?_eq_getElem hi]
        exact congrArg some this
      · rw [List.getElem?_eq_none (show Tn.length ≤ i by omega), List.getElem?_eq_none (by omega)]; rfl
    · refine List.ext_getElem? fun i => ?_
      rw [List.getElem?_map, List.getElem?_map]
      by_cases hi : i < os.length
      · have := (osp i _ (List.getElem?_eq_getElem hi)).1
        rw [List.getD_eq_getElem?_getD, List.getElem?_eq_getElem (show i < On.length by omega)] at this
        rw [List.getElem?_eq_getElem (show i < On.length by omega), List.getElem?_eq_getElem hi]
        exact congrArg some this
      · rw [List.getElem?_eq_none (show On.length ≤ i by omega), List.getElem?_eq_none (by omega)]; rfl
  have g18 := g15.trans (g6.trans (g7.trans g8))
  have tl1 : ts.length ≤ 1000 := by omega
  obtain ⟨hM, qq⟩ := q m ts os hgood
  exact ⟨_, rfl, wb', m, ts, os, rfl, hw, tl1, fun _ H9 g9 => ⟨_, rfl, qq wb' H9 (g18.trans g9) (hw.same g9)⟩, fun z => absurd hM z⟩
def spRMM : Sp := fun vs H Q E => ∃ (z : Str) (l : List Nat), vs = [.str z] ∧ z = sT l ∧ Fine l ∧ ∃ m ts os, Good (rows l) m ts os ∧ ¬ AW.IsMap m ts os ∧ ∀ x H', Same H H' → E (.ref x) none H'
theorem ok_rmM (T : Txt K mg t) : FnOk P w K mg base (CXr P w t.c_NoMap) 6 t.a_read_map t.d_read_map ["text"] spRMM := by
  have G_rows_of := ok_rows (P := P) (w := w) (base := base) T
  have G_rows_from := ok_from (P := P) (w := w) (base := base) T
  have G_refuse_unless := ok_refuse (P := P) (w := w) (base := base) T
  have G_read_so_many := ok_many (P := P) (w := w) (base := base) T
  have G_read_pair := ok_pair (P := P) (w := w) (base := base) T
  have G_read_ends := ok_ends (P := P) (w := w) (base := base) T
  have G_check_map := ok_check (P := P) (w := w) (base := base) T
  refine T.F_read_map.okX sc_read_map (fun vs H Q E h => ?_) (fun cdv A outer s H vs Q E hr h => ?_)
  · obtain ⟨z, l, rfl, _⟩ := h; rfl
  obtain ⟨z, l, rfl, rfl, hf, m0, ts0, os0, hG, hM, q⟩ := h
  have nd := sc_read_map.nd
  have nd_words : (["words"] : List Str).Nodup := by decide
  refine ⟨_, (pss_cons (ps_set (i := 1) nd rfl (Or.inl rfl) (pe_call G_rows_of (hr.mono (by decide)) rfl T.m_rows_of T.k_rows_of T.b_rows_of .nil pass0 (pa_cons (pv 0) pa_nil)))
    (pss_cons (ps_set (i := 2) nd rfl (Or.inl rfl) (pe_call G_rows_from (hr.mono (by decide)) rfl T.m_rows_from T.k_rows_from T.b_rows_from .nil pass0 (pa_cons (pv 1) (pa_cons pe_int (pa_cons pe_str pa_nil)))))
    (pss_cons (ps_set (i := 3) nd rfl (Or.inl rfl) (pe_call G_rows_from (hr.mono (by decide)) rfl T.m_rows_from T.k_rows_from T.b_rows_from .nil pass0 (pa_cons (pv 1) (pa_cons pe_int (pa_cons pe_str pa_nil)))))
    (pss_cons (ps_set (i := 4) nd rfl (Or.inl rfl) (pe_call G_rows_from (hr.mono (by decide)) rfl T.m_rows_from T.k_rows_from T.b_rows_from .nil pass0 (pa_cons (pv 1) (pa_cons (pe_op op_add pe_int (pe_callB call_len_seq rfl T.z_len PySem.boot_len (pa_cons (pv 3) pa_nil))) (pa_cons pe_str pa_nil)))))
    (pss_cons (ps_expr (pe_call G_refuse_unless (hr.mono (by decide)) rfl T.m_refuse_unless T.k_refuse_unless T.b_refuse_unless .nil passF (pa_cons (pe_and (pe_cmpR op_eq (pe_callB call_len_seq rfl T.z_len PySem.boot_len (pa_cons (pv 2) pa_nil)) pe_int (nomark _)) (pe_andT (pv 4) (pe_one (pe_cmpR op_eq (pe_op op_add (pe_op op_add pe_int (pe_callB call_len_seq rfl T.z_len PySem.boot_len (pa_cons (pv 3) pa_nil))) (pe_callB call_len_seq rfl T.z_len PySem.boot_len (pa_cons (pv 4) pa_nil))) (pe_callB call_len_seq rfl T.z_len PySem.boot_len (pa_cons (pv 1) pa_nil)) (nomark _))))) pa_nil)))
    (pss_cons (ps_set (i := 5) nd rfl (Or.inl rfl) (pe_ix ix_seq (pe_call G_read_so_many (hr.mono (by decide)) rfl T.m_read_so_many T.k_read_so_many T.b_read_so_many .nil passF (pa_cons (pe_ix ix_list (pv 2) pe_int (fun _ _ => rfl)) (pa_cons pe_int pa_nil))) pe_int (fun _ _ => rfl)))
    (pss_cons (ps_expr (pe_call G_refuse_unless (hr.mono (by decide)) rfl T.m_refuse_unless T.k_refuse_unless T.b_refuse_unless .nil passF (pa_cons (pe_cmpR op_eq (pv 5) (pe_callB call_len_seq rfl T.z_len PySem.boot_len (pa_cons (pv 4) pa_nil)) (nomark _)) pa_nil)))
    (pss_cons (ps_set (i := 6) nd rfl (Or.inl rfl) (pe_tup (pa_cons (pv 5) (pa_cons (pe_comp (N' := ["words"]) (js := [none]) rfl (pi_list (pv 3)) (fun _ _ _ _ _ => (pg_name (i := 0) nd_words rfl (Or.inl rfl))) (fun _ _ _ _ _ => pf_nil) (fun _ _ _ _ _ => (pe_call G_read_pair (hr.mono (by decide)) rfl T.m_read_pair T.k_read_pair T.b_read_pair .nil passF (pa_cons (pv 0) pa_nil)))) (pa_cons (pe_comp (N' := ["words"]) (js := [none]) rfl (pi_list (pv 4)) (fun _ _ _ _ _ => (pg_name (i := 0) nd_words rfl (Or.inl rfl))) (fun _ _ _ _ _ => pf_nil) (fun _ _ _ _ _ => (pe_call G_read_ends (hr.mono (by decide)) rfl T.m_read_ends T.k_read_ends T.b_read_ends .nil passF (pa_cons (pv 0) pa_nil)))) pa_nil)))))
    (pss_cons (ps_expr (pe_call G_check_map (hr.mono (by decide)) rfl T.m_check_map T.k_check_map T.b_check_map .nil passX (pa_cons (pv 6) pa_nil)))
    (pss_one (ps_ret (pv 6)))))))))))), ?_⟩
  have qe : (¬ ∃ m ts os, Good (rows l) m ts os) → ∀ (x : Addr) (H' : Hp), Same H H' → False := fun z _ _ _ => z ⟨m0, ts0, os0, hG⟩
  have hn := hf.n
  have rl := rows_len hn
  refine ⟨_, rfl, _, l, rfl, rfl, hn, fun ra H1 _ g1 r1 => ?_⟩
  refine ⟨_, rfl, ra, _, 0, _, kMap, rfl, e_map, r1, rows_ne, by omega, fun ba H2 _ g2 b2 => ?_⟩
  refine ⟨_, rfl, ra, _, 1, _, kTie, rfl, e_tie, r1.same g2, rows_ne, by omega, fun ta H3 _ g3 t3 => ?_⟩
  rw [List.drop_zero] at b2
  obtain ⟨br, bb1, bb2, bb3⟩ := b2
  obtain ⟨tr, tt1, tt2, tt3⟩ := t3
  have g23 := g2.trans g3
  have g13 := g1.trans g23
  refine ⟨_, rfl, _, rfl, ta, _, rfl, .inl (SqL.of tt1), _, _, rfl, rfl, ra, rows l, 1 + (TX.run kTie ((rows l).drop 1)).length, _, kOrd, ?_, e_ord, r1.same g23, rows_ne, by omega, fun oa H4 _ g4 o4 => ?_⟩
  · rw [List.length_map, tt2]; rfl
  obtain ⟨orr, oo1, oo2, oo3⟩ := o4
  have g14 := g13.trans g4
  have r4 := r1.same (g23.trans g4)
  obtain ⟨rr, rr1, rr2, rr3⟩ := r4
  generalize hT : TX.run kTie ((rows l).drop 1) = Tn at tt2 tt3 oo2 oo3
  generalize hO : TX.run kOrd ((rows l).drop (1 + Tn.length)) = On at oo2 oo3
  have told : ∀ {m ts os}, Good (rows l) m ts os → Told (rows l) m ts os := fun h => h.told
  have wT : ∀ r ∈ Tn, r.length ≤ 1000 ∧ ∀ x ∈ r, Asc x ∧ x.length ≤ 1000 := fun r hr => run_word hf (hT ▸ hr)
  have wO : ∀ r ∈ On, r.length ≤ 1000 ∧ ∀ x ∈ r, Asc x ∧ x.length ≤ 1000 := fun r hr => run_word hf (hO ▸ hr)
  have lT : Tn.length ≤ 1001 := by rw [← hT]; exact Nat.le_trans (run_len _ _) (by rw [List.length_drop]; omega)
  have lO : On.length ≤ 1001 := by rw [← hO]; exact Nat.le_trans (run_len _ _) (by rw [List.length_drop]; omega)
  dsimp only [gName]
  refine viaN (fun σ' H' => H' = H4 ∧ σ' = [some (vx l), some (.ref ra), some (.ref ba), some (.ref ta), some (.ref oa), none, none] ∧ (TX.run kMap (rows l)).length = 1 ∧ On ≠ [] ∧ 1 + Tn.length + On.length = (rows l).length) (fun N n1 => ?_) ?_
  · refine ⟨_, rfl, ba, _, rfl, .inl (SqL.of (g4 _ _ (g3 _ _ bb1))), rfl, _, rfl, ite2 (fun c => ?_) (fun c => ?_)⟩
    · have c1 : (TX.run kMap (rows l)).length = 1 := by
        have c := V.int.inj (of_decide_eq_true c)
        rw [List.length_map, bb2] at c
        exact Int.ofNat.inj c
      refine ⟨_, rfl, _, .inl ⟨_, SqL.of oo1, rfl⟩, ite2 (fun c => ?_) (fun c => ?_)⟩
      · have c2 : On ≠ [] := fun z => by
          rw [z] at oo2
          rw [List.length_eq_zero_iff.mp oo2] at c
          cases c
        refine ⟨_, rfl, ta, _, rfl, .inl (SqL.of (g4 _ _ tt1)), _, _, rfl, rfl, _, rfl, oa, _, rfl, .inl (SqL.of oo1), _, _, rfl, rfl, _, rfl, ra, _, rfl, .inl (SqL.of rr1), rfl, _, _, rfl, rfl, fun cb => ?_, fun cb x => ?_⟩
        · refine n1 _ _ ⟨rfl, rfl, c1, c2, ?_⟩
          have cb := V.int.inj (of_decide_eq_true cb)
          rw [List.length_map, List.length_map, List.length_map, tt2, oo2, rr2] at cb
          omega
        · refine qe (fun ⟨m, ts, os, h⟩ => ?_) x H4 g14
          have := (told h).l
          rw [hT, hO] at this
          apply of_decide_eq_false cb
          rw [List.length_map, List.length_map, List.length_map, tt2, oo2, rr2]
          exact congrArg V.int (by omega)
      · refine ⟨_, false, rfl, .inl ⟨_, SqL.of oo1, ?_⟩, fun z => Bool.noConfusion z, fun _ x => qe (fun ⟨m, ts, os, h⟩ => ?_) x H4 g14⟩
        · simpa using c
        · have := (told h).ne
          rw [hT, hO] at this
          apply this
          have c : orr = [] := by simpa using c
          rw [c] at oo2
          exact List.length_eq_zero_iff.mp oo2.symm
    · refine ⟨_, false, rfl, rfl, fun z => Bool.noConfusion z, fun _ x => qe (fun ⟨m, ts, os, h⟩ => c ?_) x H4 g14⟩
      obtain ⟨w, e, _⟩ := (told h).b
      rw [e] at bb2
      refine decide_eq_true (congrArg V.int ?_)
      rw [List.length_map, bb2]
      rfl
  rintro σ' H4' ⟨rfl, rfl, c1, c2, c3⟩
  have ew := of_runs c1 (by rw [hT, hO]; exact c3)
  rw [hT, hO] at ew
  obtain ⟨b, eb, eW⟩ := ew
  rw [eb] at bb2 bb3
  obtain ⟨bx, bx1, bx2⟩ := bb3 0 b rfl
  have bx2 := g4 _ _ (g3 _ _ bx2)
  have wb : b.length ≤ 1000 ∧ ∀ x ∈ b, Asc x ∧ x.length ≤ 1000 := run_word (n := 0) (k := kMap) hf (by rw [List.drop_zero, eb]; exact List.mem_cons_self)
  refine ⟨_, rfl, ba, _, _, .ref bx, rfl, rfl, SqL.of (g4 _ _ (g3 _ _ bb1)), atI_nat (j := 0) (by rw [List.getElem?_map, bx1]; rfl), bx, b, 1, rfl, SqL.of bx2, wb.2, wb.1, fun ns en e1 D5 H5 _ g5 e5 => ?_, fun hn x H5 g5 => qe (fun ⟨m, ts, os, h⟩ => hn ?_) x H5 (g14.trans g5)⟩
  rotate_left
  · obtain ⟨w, e, e2⟩ := (told h).b
    rw [eb] at e
    injection e with e
    exact ⟨[m], by rw [e, List.map_cons, e2]; rfl, rfl⟩
  obtain ⟨m, rfl⟩ := List.length_eq_one_iff.mp (show ns.length = 1 by omega)
  have g15 := g14.trans g5
  refine .inl ⟨D5, _, _, .int m, rfl, rfl, SqL.of e5, rfl, ?_⟩
  dsimp only [gName]
  refine viaN (fun σ' H' => H' = H5 ∧ σ' = [some (vx l), some (.ref ra), some (.ref ba), some (.ref ta), some (.ref oa), some (.int m), none] ∧ (On.length : Int) = m) (fun N n1 => ?_) ?_
  · refine ⟨_, rfl, _, rfl, oa, _, rfl, .inl (SqL.of (g5 _ _ oo1)), rfl, _, _, rfl, rfl, fun cb => n1 _ _ ⟨rfl, rfl, ?_⟩, fun cb x => qe (fun ⟨m', ts, os, h⟩ => of_decide_eq_false cb ?_) x H5 g15⟩
    · have := V.int.inj (of_decide_eq_true cb)
      rw [List.length_map, oo2] at this
      exact this.symm
    · have h1 := (told h).n
      rw [hT, hO] at h1
      obtain ⟨w, e, e2⟩ := (told h).b
      rw [eb] at e
      injection e with e
      rw [e] at en
      have e3 : num w = some m := by injection en
      rw [e2] at e3
      rw [List.length_map, oo2, h1, Option.some.inj e3]
  rintro σ' H5' ⟨rfl, rfl, cm⟩
  refine ⟨_, rfl, _, rfl, ta, rfl, ⟨_, SqL.of (g5 _ _ (g4 _ _ tt1))⟩, fun D6 hD6 => ?_⟩
  have k1 := fun {H' : Hp} (g : Same H5' H') => g _ _ (g5 _ _ (g4 _ _ tt1))
  refine comp_objs Tn.length (fun i o => ∃ a c : Int, o = .tup [.int a, .int c] ∧ (Tn.getD i []).map num = [some a, some c]) hD6 (by omega) (fun i H' hi g => ⟨_, .ref tr[i], SqL.of (k1 g), by rw [List.getElem?_map, List.getElem?_eq_getElem (by omega)]; rfl⟩) (fun H' g => ⟨_, SqL.of (k1 g), by rw [List.length_map]; omega⟩) ?_ ?_
  · rintro i H' x H'' k hi g ⟨rfl, hx⟩ hk
    obtain ⟨r, xa, er, rfl, exa⟩ := rws_nth tt2 tt3 (hx _ (SqL.of (k1 g)))
    have er2 : Tn.getD i [] = r := by rw [List.getD_eq_getElem?_getD, er]; rfl
    have hm := List.mem_of_getElem? er
    refine ⟨(Fills.refl _).set _ rfl, _, rfl, xa, r, rfl, SqL.of (g _ _ (g5 _ _ (g4 _ _ exa))), (wT r hm).2, (wT r hm).1, fun a c e D7 H7 hD7 g7 e7 => hk D7 _ H7 ⟨a, c, rfl, by rw [er2]; exact e⟩ hD7 g7 e7, fun hn y H7 g7 => qe (fun ⟨m', ts, os, h⟩ => hn ?_) y H7 (g15.trans (g.trans g7))⟩
    have h1 := (told h).t
    rw [hT] at h1
    have h2 : r.map num ∈ ts.map fun t => [some t.1, some t.2] := h1 ▸ List.mem_map_of_mem hm
    obtain ⟨t', _, e⟩ := List.mem_map.mp h2
    exact ⟨_, _, e.symm⟩
  intro tr6 H6 l6 p6 g6 e6
  refine ⟨_, rfl, oa, rfl, ⟨_, SqL.of (g6 _ _ (g5 _ _ oo1))⟩, fun D7 hD7 => ?_⟩
  have k2 := fun {H' : Hp} (g : Same H6 H') => g _ _ (g6 _ _ (g5 _ _ oo1))
  refine comp_objs On.length (fun i o => ∃ ns : List Int, o = .lst (ns.map V.int) ∧ (On.getD i []).map endV = ns.map some) hD7 (by omega) (fun i H' hi g => ⟨_, .ref orr[i], SqL.of (k2 g), by rw [List.getElem?_map, List.getElem?_eq_getElem (by omega)]; rfl⟩) (fun H' g => ⟨_, SqL.of (k2 g), by rw [List.length_map]; omega⟩) ?_ ?_
  · rintro i H' x H'' k hi g ⟨rfl, hx⟩ hk
    obtain ⟨r, xa, er, rfl, exa⟩ := rws_nth oo2 oo3 (hx _ (SqL.of (k2 g)))
    have er2 : On.getD i [] = r := by rw [List.getD_eq_getElem?_getD, er]; rfl
    have hm := List.mem_of_getElem? er
    refine ⟨(Fills.refl _).set _ rfl, _, rfl, xa, r, rfl, SqL.of (g _ _ (g6 _ _ (g5 _ _ exa))), (wO r hm).2, (wO r hm).1, fun ns e D8 H8 hD8 g8 e8 => hk D8 _ H8 ⟨ns, rfl, by rw [er2]; exact e⟩ hD8 g8 e8, fun hn y H8 g8 => qe (fun ⟨m', ts, os, h⟩ => hn ?_) y H8 (g15.trans (g6.trans (g.trans g8)))⟩
    have h1 := (told h).o
    rw [hT, hO] at h1
    have h2 : r.map endV ∈ os.map (·.map some) := h1 ▸ List.mem_map_of_mem hm
    obtain ⟨t', _, e⟩ := List.mem_map.mp h2
    exact ⟨_, e.symm⟩
  intro or7 H7 l7 p7 g7 e7
  refine ⟨(by show 3 ≤ sizeLine; decide), fun wb' hwb => ?_⟩
  have g8 := same_new hwb (.tup [.int m, .ref D6, .ref D7])
  obtain ⟨ts, tsl, tsp⟩ := lift_rel (fun i (t : Int × Int) => (Tn.getD i []).map num = [some t.1, some t.2] ∧ ∃ a, tr6[i]? = some a ∧ H6 a = some (.tup [.int t.1, .int t.2])) Tn.length fun i hi => by
    obtain ⟨o, ⟨a, c, rfl, e⟩, h⟩ := p6 i tr6[i] (List.getElem?_eq_getElem (by omega))
    exact ⟨(a, c), e, _, List.getElem?_eq_getElem (by omega), h⟩
  obtain ⟨os, osl, osp⟩ := lift_rel (fun i (o : List Int) => (On.getD i []).map endV = o.map some ∧ ∃ a, or7[i]? = some a ∧ H7 a = some (.lst (o.map V.int))) On.length fun i hi => by
    obtain ⟨o, ⟨ns, rfl, e⟩, h⟩ := p7 i or7[i] (List.getElem?_eq_getElem (by omega))
    exact ⟨ns, e, _, List.getElem?_eq_getElem (by omega), h⟩
  have hw : WebI (upd H7 wb' (.tup [.int m, .ref D6, .ref D7])) wb' m ts os := by
    refine webI_of upd_same (g8 _ _ (g7 _ _ e6)) (by omega) (fun i a ha => ?_) (g8 _ _ e7) (by omega) (fun i a ha => ?_)
    · have hi : i < ts.length := by have := (List.getElem?_eq_some_iff.mp ha).1; omega
      obtain ⟨_, a', h1, h2⟩ := tsp i _ (List.getElem?_eq_getElem hi)
      rw [ha] at h1; cases h1
      exact ⟨_, List.getElem?_eq_getElem hi, g8 _ _ (g7 _ _ h2)⟩
    · have hi : i < os.length := by have := (List.getElem?_eq_some_iff.mp ha).1; omega
      obtain ⟨_, a', h1, h2⟩ := osp i _ (List.getElem?_eq_getElem hi)
      rw [ha] at h1; cases h1
      exact ⟨_, List.getElem?_eq_getElem hi, g8 _ _ h2⟩
  have hgood : Good (rows l) m ts os := by
    refine good_of eW en cm c2 ?_ ?_
    · refine List.ext_getElem? fun i => ?_
      rw [List.getElem?_map, List.getElem?_map]
      by_cases hi : i < ts.length
      · have := (tsp i _ (List.getElem?_eq_getElem hi)).1
        rw [List.getD_eq_getElem?_getD, List.getElem?_eq_getElem (show i < Tn.length by omega)] at this
        rw [List.getElem?_eq_getElem (show i < Tn.length by omega), List.getElem?_eq_getElem hi]
        exact congrArg some this
      · rw [List.getElem?_eq_none (show Tn.length ≤ i by omega), List.getElem?_eq_none (by omega)]; rfl
    · refine List.ext_getElem? fun i => ?_
      rw [List.getElem?_map, List.getElem?_map]
      by_cases hi : i < os.length
      · have := (osp i _ (List.getElem?_eq_getElem hi)).1
        rw [List.getD_eq_getElem?_getD, List.getElem?_eq_getElem (show i < On.length by omega)] at this
        rw [List.getElem?_eq_getElem (show i < On.length by omega), List.getElem?_eq_getElem hi]
        exact congrArg some this
      · rw [List.getElem?_eq_none (show On.length ≤ i by omega), List.getElem?_eq_none (by omega)]; rfl
  have g18 := g15.trans (g6.trans (g7.trans g8))
  have tl1 : ts.length ≤ 1000 := by omega
  obtain ⟨rfl, rfl, rfl⟩ := hG.one hgood
  exact ⟨_, rfl, wb', _, _, _, rfl, hw, tl1, fun z => absurd z hM, fun _ x H9 g9 => q x H9 (g18.trans g9)⟩
end K74

namespace K74
open PySem L2 PyProof.Rows TX
variable {P : Program} {w : World} {K : PySem.W.Frag} {mg : Str → Option Value} {base : Heap} {t : Adr}
def spAt (K : PySem.W.Frag) : Sp := fun vs H Q _ => ∃ (a : Addr) (ns : List Int) (k : Int), vs = [.ref a, .int k] ∧ SqL K H a (ns.map V.int) ∧ 0 ≤ k ∧ ∀ c : Int, Q (.int c) H
theorem at_int {ns : List Int} {k : Int} (h0 : 0 ≤ k) (h : k < (ns.length : Int)) : ∃ v : Int, atI (ns.map V.int) k = some (.int v) := by
  have hk : k.toNat < ns.length := by omega
  have ek : k = ((k.toNat : Nat) : Int) := by omega
  have q : atI (ns.map V.int) ((k.toNat : Nat) : Int) = some (.int ns[k.toNat]) := atI_nat (by rw [List.getElem?_map, List.getElem?_eq_getElem hk] <;> rfl)
  rw [← ek] at q
  exact ⟨_, q⟩
theorem ok_at (T : Txt K mg t) : FnOk P w K mg base CX0 1 t.a_l_at t.d_l_at ["_law_script", "_law_k"] (spAt K) := by
  refine T.F_l_at.ok sc_l_at (fun vs H Q E h => ?_) (fun cdv A outer s H vs Q E hr h => ?_)
  · obtain ⟨a, ns, k, rfl, _⟩ := h; rfl
  obtain ⟨a, ns, k, rfl, hS, h0, q⟩ := h
  refine ⟨_, (pss_cons (ps_if (pt_cmpR op_lt (pv 1) (pe_callB call_len_seq rfl T.z_len PySem.boot_len (pa_cons (pv 0) pa_nil)) (nomark _)) (pss_one (ps_ret (pe_ix ix_list (pv 0) (pv 1) (fun _ _ => rfl)))) pss_nil)
    (pss_one (ps_ret (pe_op op_add (pe_op op_mul pe_int (pv 1)) pe_int)))), ?_⟩
  refine ⟨_, rfl, _, rfl, a, _, rfl, .inl hS, _, _, rfl, rfl, _, rfl, ?_⟩
  refine ite2 (fun c => ?_) (fun c => ?_)
  · have c' : k < (((ns.map V.int).length : Nat) : Int) := of_decide_eq_true c
    rw [List.length_map] at c'
    obtain ⟨v, hv⟩ := at_int h0 c'
    exact ⟨_, rfl, _, rfl, a, _, _, _, rfl, rfl, hS, hv, q v⟩
  · exact ⟨_, rfl, _, _, rfl, rfl, .inl ⟨by decide, by decide⟩, _, _, rfl, rfl, q _⟩
def spMix : Sp := fun vs H Q _ => ∃ c k : Int, vs = [.int c, .int k] ∧ 0 ≤ k ∧ k ≤ 60 ∧ ∀ m : Int, 0 ≤ m → m < 2147483648 → Q (.int m) H
theorem ok_mix (T : Txt K mg t) : FnOk P w K mg base CX0 1 t.a_l_mix t.d_l_mix ["_law_cell", "_law_place"] spMix := by
  refine T.F_l_mix.ok sc_l_mix (fun vs H Q E h => ?_) (fun cdv A outer s H vs Q E hr h => ?_)
  · obtain ⟨a, k, rfl, _⟩ := h; rfl
  obtain ⟨c, k, rfl, h0, h1, q⟩ := h
  have nd := sc_l_mix.nd
  refine ⟨_, (pss_cons (ps_if (pt_cmpR op_ge (pv 0) (pe_op op_pow pe_int pe_int) (nomark _)) (pss_cons (ps_set (i := 0) nd rfl (Or.inl rfl) (pe_op op_sub (pe_op op_fdivW (pv 0) (pe_op op_pow pe_int pe_int)) pe_int))
    (pss_cons (ps_for PassesOwn.never rfl (pi_range1 rfl T.z_range (pa_cons (pe_op op_mod (pv 1) pe_int) pa_nil)) (pg_name (i := 2) nd rfl (Or.inl rfl)) (pss_one (ps_set (i := 0) nd rfl (Or.inl rfl) (pe_op op_fdivW (pv 0) pe_int))))
    (pss_one (ps_ret (pe_op op_mod (pv 0) pe_int))))) pss_nil)
    (pss_cons (ps_set (i := 3) nd rfl (Or.inl rfl) (pe_op op_mod (pe_op op_mul (pe_op op_add (pe_op op_add (pe_op op_mod (pv 0) pe_int) (pv 1)) pe_int) (pe_op op_add (pe_op op_mul (pe_op op_mul pe_int (pv 1)) (pv 1)) pe_int)) pe_int))
    (pss_cons (ps_set (i := 3) nd rfl (Or.inl rfl) (pe_op op_mod (pe_op op_mul (pv 3) (pv 3)) pe_int))
    (pss_one (ps_ret (pe_op op_mod (pe_op op_mul (pv 3) (pe_op op_add (pv 3) pe_int)) pe_int)))))), ?_⟩
  have p12 : CPow 10 12 := ⟨by decide, by decide, by decide⟩
  refine ⟨_, rfl, _, _, rfl, rfl, p12, _, _, rfl, rfl, _, rfl, ?_⟩
  refine ite2 (fun _ => ?_) (fun _ => ?_)
  · refine ⟨_, rfl, _, _, rfl, rfl, p12, _, _, rfl, rfl, ⟨by decide, by decide⟩, _, _, rfl, rfl, ?_⟩
    refine ⟨_, rfl, _, _, rfl, rfl, (by show (0 : Int) < 61; decide), k % 61, rfl, by omega, by omega, for_range (lo := 0) (n := (k % 61).toNat) (fun _ σ H' => H' = H ∧ ∃ (c' : Int) (o : Option V), σ = [some (.int c'), some (.int k), o, none]) ⟨rfl, _, none, rfl⟩ ?_ ?_⟩
    · rintro i σ H' hi ⟨rfl, c', o, rfl⟩
      exact ⟨_, rfl, _, _, rfl, rfl, ⟨by decide, by decide⟩, rfl, _, _, rfl⟩
    · rintro σ H' ⟨rfl, c', o, rfl⟩
      exact ⟨_, rfl, _, _, rfl, rfl, (by show (0 : Int) < 2147483648; decide), q _ (Int.emod_nonneg _ (by decide)) (Int.emod_lt_of_pos _ (by decide))⟩
  · refine ⟨_, rfl, _, _, rfl, rfl, (by show (0 : Int) < 2147483629; decide), _, rfl, _, _, rfl, rfl, _, _, rfl, rfl, _, rfl, _, _, rfl, rfl, .inl ⟨by decide, by decide⟩, _, rfl, _, _, rfl, rfl, .inl ⟨by omega, by omega⟩, _, _, rfl, rfl, _, _, rfl, rfl, ?_, _, _, rfl, rfl, (by show (0 : Int) < 2147483647; decide), ?_⟩
    · have := Int.emod_nonneg c (show (2147483629 : Int) ≠ 0 by decide)
      have := Int.emod_lt_of_pos c (show (0 : Int) < 2147483629 by decide)
      exact .inl ⟨by omega, by omega⟩
    have b1 : ∀ x : Int, 0 ≤ x % 2147483647 ∧ x % 2147483647 < 2147483647 := fun x => ⟨Int.emod_nonneg _ (by decide), Int.emod_lt_of_pos _ (by decide)⟩
    have b2 : ∀ x : Int, 0 ≤ x % 2147483587 ∧ x % 2147483587 < 2147483587 := fun x => ⟨Int.emod_nonneg _ (by decide), Int.emod_lt_of_pos _ (by decide)⟩
    have r1 := b1 ((c % 2147483629 + k + 1) * (8 * k * k + 48271))
    generalize ((c % 2147483629 + k + 1) * (8 * k * k + 48271) % 2147483647 : Int) = n1 at r1 ⊢
    refine ⟨_, rfl, _, rfl, _, _, rfl, rfl, .inl ⟨by omega, by omega⟩, _, _, rfl, rfl, (by show (0 : Int) < 2147483587; decide), ?_⟩
    have r2 := b2 (n1 * n1)
    generalize n1 * n1 % 2147483587 = n2 at r2 ⊢
    refine ⟨_, rfl, _, rfl, _, _, rfl, rfl, _, _, rfl, rfl, .inl ⟨by omega, by omega⟩, _, _, rfl, rfl, (by show (0 : Int) < 2147483579; decide), q _ (Int.emod_nonneg _ (by decide)) ?_⟩
    exact Int.lt_trans (Int.emod_lt_of_pos _ (by decide)) (by decide)
theorem e_dash : Str.ofString "-" = sT [45] := by decide +kernel
theorem e_nil : Str.ofString "" = sT [] := by decide +kernel
theorem e_zero : Str.ofString "0" = sT [48] := by decide +kernel
theorem e_lt : Str.ofString "<" = sT [60] := by decide +kernel
theorem e_gt : Str.ofString ">" = sT [62] := by decide +kernel
theorem vx_eq {a b : List Nat} : (V.str (sT a) = V.str (sT b)) ↔ a = b := ⟨fun h => sT_inj (V.str.inj h), fun h => by rw [h]⟩
theorem take1 (w : List Nat) (c : Nat) : w.take 1 = [c] ↔ w.head? = some c := by
  cases w with
  | nil => simp
  | cons a l => simp
def spNum : Sp := fun vs H Q _ => ∃ (z : Str) (w : List Nat), vs = [.str z] ∧ z = sT w ∧ Asc w ∧ w.length ≤ 1000 ∧ ∀ H', Same H H' → Q (vo (num w)) H'
theorem ok_num (T : Txt K mg t) : FnOk P w K mg base CX0 1 t.a_l_number t.d_l_number ["_law_word"] spNum := by
  refine T.F_l_number.ok sc_l_number (fun vs H Q E h => ?_) (fun cdv A outer s H vs Q E hr h => ?_)
  · obtain ⟨z, w, rfl, _⟩ := h; rfl
  obtain ⟨z, wd, rfl, rfl, ha, hl, q⟩ := h
  have nd := sc_l_number.nd
  have nd_l_sign : (["_law_sign"] : List Str).Nodup := by decide
  refine ⟨_, (pss_cons (ps_set (i := 1) nd rfl (Or.inl rfl) (pe_slice sl_str (pv 0) (po_some (pe_callTy call_int1 rfl T.z_int boot_int (pa_cons (pe_cmpR op_eq (pe_slice sl_str (pv 0) po_none (po_some pe_int)) pe_str (nomark _)) pa_nil))) po_none))
    (pss_cons (ps_if (PW.pt (pw_or (pt_cmpR op_eq (pv 1) pe_str (nomark _)) (pw_or (pt_cmpR op_gt (pe_callB call_len_str rfl T.z_len PySem.boot_len (pa_cons (pv 1) pa_nil)) pe_int (nomark _)) (pw_or1 (pt_cmpR op_gt (pe_callB call_len_seq rfl T.z_len PySem.boot_len (pa_cons (pe_comp (N' := ["_law_sign"]) (js := [none]) rfl (pi_str (pv 1)) (fun _ _ _ _ _ => (pg_name (i := 0) nd_l_sign rfl (Or.inl rfl))) (fun _ _ _ _ _ => (pf_one (pt_cmpR op_notin_str (pv 0) pe_str rfl))) (fun _ _ _ _ _ => (pv 0))) pa_nil)) pe_int (nomark _)))))) (pss_one (ps_ret pe_non)) pss_nil)
    (pss_cons (ps_if (PW.pt (pw_and (pt_cmpR op_eq (pe_ix ix_str (pv 1) pe_int (fun _ _ => rfl)) pe_str (nomark _)) (pw_and1 (pt_cmpR op_ne (pv 0) pe_str (nomark _))))) (pss_one (ps_ret pe_non)) pss_nil)
    (pss_one (ps_ret (pe_callTy call_intX rfl T.z_int boot_int (pa_cons (pv 0) pa_nil))))))), ?_⟩
  have bl : wd.length ≤ 1000000 := Nat.le_trans hl (by decide)
  have no : ¬ (Fig wd ∧ Can wd) → ∀ H', Same H H' → Q .non H' := fun h H' g => by
    have := q H' g
    rw [num_none h] at this
    exact this
  refine via (fun σ' H' => σ' = [some (vx wd), some (vx (figs wd))] ∧ H' = H) (fun r1 => ?_) ?_
  · refine ⟨_, rfl, _, rfl, 1, rfl, _, wd, rfl, rfl, bl, rfl, .inr ⟨_, rfl, _, rfl, _, wd, rfl, rfl, bl, r1 _ _ ⟨?_, rfl⟩⟩⟩
    have e1 : (decide (vx (cutL wd none (some 1)) = V.str (Str.ofString "-"))) = decide (wd.head? = some 45) := by
      rw [e_dash, show cutL wd none (some 1) = wd.take 1 from cut_to wd 1]
      congr 1
      rw [eq_iff_iff, vx_eq, take1]
    rw [e1]
    by_cases c : wd.head? = some 45
    · rw [decide_eq_true c, if_pos rfl, show figs wd = wd.drop 1 from if_pos c, ← cut_from]; rfl
    · rw [decide_eq_false c, if_neg (by decide), show figs wd = wd from if_neg c]
      have : cutL wd (some 0) none = wd := (cut_from wd 0).trans (List.drop_zero)
      rw [this]; rfl
  rintro σ' H' ⟨rfl, rfl⟩
  have fl : (figs wd).length ≤ wd.length := by
    unfold figs
    split
    · rw [List.length_drop]; omega
    · exact Nat.le_refl _
  have sz : (sT (figs wd)).length ≤ sizeLine := by rw [sT_len]; exact Nat.le_trans (by omega : _ ≤ 1000) (by decide)
  refine via (fun σ' H2 => σ' = [some (vx wd), some (vx (figs wd))] ∧ Same H' H2 ∧ Fig wd) (fun r1 => ?_) ?_
  · refine ⟨_, rfl, rfl, _, rfl, ite2 (fun c => iteT (no (fun z => ?_) H' (Same.refl _))) (fun c => ?_)⟩
    · have c := of_decide_eq_true c
      rw [e_nil, vx_eq] at c
      have := z.1.1.1
      rw [c] at this
      exact absurd this (by decide)
    have c0 : figs wd ≠ [] := fun z => c (decide_eq_true (by rw [e_nil, vx_eq]; exact z))
    refine ⟨_, rfl, _, rfl, sz, _, _, rfl, rfl, _, rfl, ?_⟩
    rw [sT_len]
    refine ite2 (fun c => iteT (no (fun z => ?_) H' (Same.refl _))) (fun c => ?_)
    · have c : (40 : Int) < ((figs wd).length : Nat) := of_decide_eq_true c
      have := z.1.1.2
      omega
    have c1 : 1 ≤ (figs wd).length ∧ (figs wd).length ≤ 40 := by
      have c : ¬ (40 : Int) < ((figs wd).length : Nat) := fun z => c (decide_eq_true z)
      have : (figs wd).length ≠ 0 := fun z => c0 (List.length_eq_zero_iff.mp z)
      omega
    refine ⟨_, rfl, _, figs wd, rfl, rfl, ha.figs, fun D hD => ?_⟩
    refine comp_fil (figs wd).length (fun i => vx [(figs wd).getD i 0]) (fun i => !decide (48 ≤ (figs wd).getD i 0 ∧ (figs wd).getD i 0 ≤ 57)) hD (by omega) (fun i H2 hi g2 => hi) (fun H2 g2 => Nat.le_refl _) ?_ ?_
    · rintro i H2 x H3 kt kf hi g2 ⟨rfl, c, hc, rfl⟩ ht hf
      have e : (figs wd).getD i 0 = c := by rw [List.getD_eq_getElem?_getD, hc]; rfl
      rw [e] at ht hf
      refine ⟨(Fills.refl _).set _ rfl, _, rfl, _, _, rfl, rfl, _, rfl, ?_⟩
      rw [in_figs]
      cases hb : !decide (48 ≤ c ∧ c ≤ 57) with
      | true => exact iteT ⟨_, rfl, ht hb _ (Same.refl _)⟩
      | false => exact iteF (hf hb _ (Same.refl _))
    · intro H2 g2 e2
      refine ⟨D, _, rfl, .inl (SqL.of e2), _, _, rfl, rfl, _, rfl, ?_⟩
      rw [List.length_map]
      refine ite2 (fun c => no (fun z => ?_) H2 g2) (fun c => r1 _ _ ⟨rfl, g2, c1, fun d hd => ?_⟩)
      · have c : (0 : Int) < _ := of_decide_eq_true c
        have c : 0 < ((List.range (figs wd).length).filter fun i => !decide (48 ≤ (figs wd).getD i 0 ∧ (figs wd).getD i 0 ≤ 57)).length := by omega
        obtain ⟨i, hi⟩ := List.exists_mem_of_length_pos c
        obtain ⟨h1, h2⟩ := List.mem_filter.mp hi
        have hi := List.mem_range.mp h1
        have e : (figs wd).getD i 0 = (figs wd)[i] := by rw [List.getD_eq_getElem?_getD, List.getElem?_eq_getElem hi]; rfl
        rw [e] at h2
        simp only [Bool.not_eq_true', decide_eq_false_iff_not] at h2
        exact h2 (z.1.2 _ (List.getElem_mem hi))
      · apply Classical.byContradiction
        intro z
        apply c
        refine decide_eq_true ?_
        obtain ⟨i, hi, rfl⟩ := List.mem_iff_getElem.mp hd
        have : i ∈ (List.range (figs wd).length).filter fun i => !decide (48 ≤ (figs wd).getD i 0 ∧ (figs wd).getD i 0 ≤ 57) := List.mem_filter.mpr ⟨List.mem_range.mpr hi, by
          have e : (figs wd).getD i 0 = (figs wd)[i] := by rw [List.getD_eq_getElem?_getD, List.getElem?_eq_getElem hi]; rfl
          rw [e, Bool.not_eq_true']
          exact decide_eq_false z⟩
        have := List.length_pos_of_mem this
        omega
  rintro σ' H2 ⟨rfl, g2, hf⟩
  obtain ⟨i1, i2⟩ := int_text hf
  have ne : figs wd ≠ [] := fun z => by have := hf.1.1; rw [z] at this; exact absurd this (by decide)
  obtain ⟨d0, dr, ed⟩ := List.exists_cons_of_ne_nil ne
  refine via (fun σ' H3 => σ' = [some (vx wd), some (vx (figs wd))] ∧ H3 = H2 ∧ Can wd) (fun r1 => ?_) ?_
  · refine ⟨_, rfl, _, _, d0, rfl, rfl, sz, by rw [sT_list, ed]; exact atI_nat (j := 0) rfl, rfl, _, rfl, ite2 (fun c => ?_) (fun c => iteF (r1 _ _ ⟨rfl, rfl, fun z => ?_⟩))⟩
    · have c := of_decide_eq_true c
      rw [e_zero] at c
      have c := vx_eq.mp c
      refine ⟨_, rfl, rfl, _, rfl, ite2 (fun c2 => no (fun z => ?_) H2 g2) (fun c2 => r1 _ _ ⟨rfl, rfl, fun z => ?_⟩)⟩
      · apply z.2
        refine ⟨by rw [ed]; injection c with c; rw [c]; rfl, fun y => ?_⟩
        rw [e_zero, y] at c2
        simp at c2
      · apply c2
        have : V.str (sT wd) ≠ V.str (Str.ofString "0") := by rw [e_zero]; exact fun y => z.2 (vx_eq.mp y)
        simp [this]
    · apply c
      refine decide_eq_true ?_
      have := z.1
      rw [ed] at this
      injection this with this
      rw [e_zero, this]
      rfl
  rintro σ' H3 ⟨rfl, rfl, hc⟩
  refine ⟨_, rfl, _, _, rfl, i1, i2, ?_⟩
  have := q H3 g2
  rw [num_some hf hc] at this
  exact this
theorem in_sides (l : List Nat) : inV (vx l) [.str (Str.ofString "<"), .str (Str.ofString ">")] = decide (l = [60] ∨ l = [62]) := by
  have e : ∀ a : List Nat, (sT a == sT l) = decide (l = a) := fun a => by
    by_cases h : l = a
    · rw [h]; simp
    · rw [decide_eq_false h]; exact beq_eq_false_iff_ne.mpr fun z => h (sT_inj z).symm
  rw [e_lt, e_gt]
  show ((sT [60] == sT l) || ((sT [62] == sT l) || false)) = _
  rw [e, e, Bool.or_false, Bool.decide_or]
def spEndL : Sp := fun vs H Q _ => ∃ (z : Str) (w : List Nat), vs = [.str z] ∧ z = sT w ∧ Asc w ∧ w.length ≤ 1000 ∧ ∀ H', Same H H' → Q (vo (endV w)) H'
theorem ok_endl (T : Txt K mg t) : FnOk P w K mg base CX0 2 t.a_l_end t.d_l_end ["_law_word"] spEndL := by
  have G_l_number := ok_num (P := P) (w := w) (base := base) T
  refine T.F_l_end.ok sc_l_end (fun vs H Q E h => ?_) (fun cdv A outer s H vs Q E hr h => ?_)
  · obtain ⟨z, w, rfl, _⟩ := h; rfl
  obtain ⟨z, wd, rfl, rfl, ha, hl, q⟩ := h
  have nd := sc_l_end.nd
  refine ⟨_, (pss_cons (ps_set (i := 1) nd rfl (Or.inl rfl) (pe_call G_l_number (hr.mono (by decide)) rfl T.m_l_number T.k_l_number T.b_l_number .nil pass0 (pa_cons (pe_slice sl_str (pv 0) po_none (po_some (pe_un un_neg pe_int))) pa_nil)))
    (pss_cons (ps_if (PW.pt (pw_or (pt_cmpR op_isN (pv 1) pe_non (nomark _)) (pw_or1 (pt_cmpR op_notIn_seq (pe_slice sl_str (pv 0) (po_some (pe_un un_neg pe_int)) po_none) (pe_lst (pa_cons pe_str (pa_cons pe_str pa_nil))) rfl)))) (pss_one (ps_ret pe_non)) pss_nil)
    (pss_one (ps_ret (pe_op op_add (pe_op op_mul pe_int (pv 1)) (pe_callTy call_int1 rfl T.z_int boot_int (pa_cons (pe_cmpR op_eq (pe_slice sl_str (pv 0) (po_some (pe_un un_neg pe_int)) po_none) pe_str (nomark _)) pa_nil))))))), ?_⟩
  have bl : wd.length ≤ 1000000 := Nat.le_trans hl (by decide)
  have dl : Asc wd.dropLast ∧ wd.dropLast.length ≤ 1000 := ⟨fun c hc => ha c ((List.dropLast_sublist _).subset hc), by rw [List.length_dropLast]; omega⟩
  refine ⟨_, rfl, _, rfl, -1, rfl, _, wd, rfl, rfl, bl, _, _, rfl, by rw [cut_but], dl.1, dl.2, fun H1 g1 => ?_⟩
  cases hn : num wd.dropLast with
  | none =>
    refine ⟨_, rfl, rfl, _, rfl, iteT ?_⟩
    have : endV wd = none := by unfold endV; rw [hn]; split <;> (try split) <;> rfl
    have q := q H1 g1
    rw [this] at q
    exact q
  | some n =>
    refine ⟨_, rfl, rfl, _, rfl, iteF ?_⟩
    refine ⟨_, rfl, _, rfl, -1, rfl, _, wd, rfl, rfl, bl, (by show 2 ≤ sizeLine; decide), fun p hp => ?_⟩
    rw [cut_last, drop_last]
    have g2 := g1.trans (same_new hp (.lst [.str (Str.ofString "<"), .str (Str.ofString ">")]))
    refine ⟨p, _, rfl, .inl (SqL.of upd_same), rfl, rfl, _, rfl, ?_⟩
    rw [in_sides]
    have q := q _ g2
    cases e : wd.getLast? with
    | none =>
      have ev : endV wd = none := by unfold endV; rw [e]; rfl
      rw [ev] at q
      exact iteTb (by decide) q
    | some c =>
      have cv : cutL wd (some (-1)) none = [c] := by rw [cut_last, drop_last, e]
      show if (!decide ([c] = [60] ∨ [c] = [62])) = true then _ else _
      by_cases h1 : c = 62
      · subst h1
        have ev : endV wd = some (2 * n) := by unfold endV; rw [if_pos e, hn]; rfl
        rw [ev] at q
        refine iteFb (by decide) ⟨_, rfl, _, _, rfl, rfl, .inl ⟨by decide, by decide⟩, _, rfl, _, rfl, -1, rfl, _, wd, rfl, rfl, bl, rfl, .inr ⟨_, rfl, _, _, rfl, rfl, ?_⟩⟩
        rw [show (decide (vx (cutL wd (some (-1)) none) = V.str (Str.ofString "<"))) = false from decide_eq_false (by rw [cv, e_lt, vx_eq]; decide), if_neg (by decide)]
        show Q (V.int (2 * n + 0)) _
        rw [Int.add_zero]
        exact q
      by_cases h2 : c = 60
      · subst h2
        have ev : endV wd = some (2 * n + 1) := by unfold endV; rw [if_neg (by rw [e]; decide), if_pos e, hn]; rfl
        rw [ev] at q
        refine iteFb (by decide) ⟨_, rfl, _, _, rfl, rfl, .inl ⟨by decide, by decide⟩, _, rfl, _, rfl, -1, rfl, _, wd, rfl, rfl, bl, rfl, .inr ⟨_, rfl, _, _, rfl, rfl, ?_⟩⟩
        rw [show (decide (vx (cutL wd (some (-1)) none) = V.str (Str.ofString "<"))) = true from decide_eq_true (by rw [cv, e_lt]), if_pos rfl]
        exact q
      have ev : endV wd = none := by
        unfold endV
        rw [if_neg (by rw [e]; intro z; exact h1 (Option.some.inj z)), if_neg (by rw [e]; intro z; exact h2 (Option.some.inj z))]
      rw [ev] at q
      refine iteTb ?_ q
      rw [Bool.not_eq_true']
      refine decide_eq_false fun z => ?_
      rcases z with z | z
      · injection z with z; exact h2 z
      · injection z with z; exact h1 z
end K74

namespace L2
open PySem PySem.Spec PyProof.Rows TX
def PrsAt (H : Hp) (a : Addr) (T : List (Wd × Wd)) : Prop := ∃ tr : List Addr, H a = some (.lst (tr.map V.ref)) ∧ tr.length = T.length ∧ ∀ (i : Nat) p, T[i]? = some p → ∃ x, tr[i]? = some x ∧ H x = some (.tup [vo (num p.1), vo (num p.2)])
def EdsAt (H : Hp) (a : Addr) (O : List Rw) : Prop := ∃ tr : List Addr, H a = some (.lst (tr.map V.ref)) ∧ tr.length = O.length ∧ a ∉ tr ∧ ∀ (i : Nat) r, O[i]? = some r → ∃ x, tr[i]? = some x ∧ H x = some (.lst (vos (r.map endV)))
theorem PrsAt.same {H H' : Hp} {a : Addr} {T : List (Wd × Wd)} (h : PrsAt H a T) (g : Same H H') : PrsAt H' a T := by
  obtain ⟨tr, h1, h2, h3⟩ := h
  exact ⟨tr, g _ _ h1, h2, fun i p e => let ⟨x, q1, q2⟩ := h3 i p e; ⟨x, q1, g _ _ q2⟩⟩
theorem EdsAt.same {H H' : Hp} {a : Addr} {O : List Rw} (h : EdsAt H a O) (g : Same H H') : EdsAt H' a O := by
  obtain ⟨tr, h1, h2, hn, h3⟩ := h
  exact ⟨tr, g _ _ h1, h2, hn, fun i p e => let ⟨x, q1, q2⟩ := h3 i p e; ⟨x, q1, g _ _ q2⟩⟩
theorem snoc_at {α : Type} {T : List α} {tr : List Addr} {x : Addr} {p : α} {P : Addr → α → Prop} (hl : tr.length = T.length) (h : ∀ (i : Nat) q, T[i]? = some q → ∃ y, tr[i]? = some y ∧ P y q) (hx : P x p) : ∀ (i : Nat) q, (T ++ [p])[i]? = some q → ∃ y, (tr ++ [x])[i]? = some y ∧ P y q := by
  intro i q e
  by_cases hi : i < T.length
  · rw [List.getElem?_append_left hi] at e
    obtain ⟨y, a, b⟩ := h i q e
    exact ⟨y, by rw [List.getElem?_append_left (by omega)]; exact a, b⟩
  · have := (List.getElem?_eq_some_iff.mp e).1
    rw [List.length_append, List.length_singleton] at this
    have hi2 : i = T.length := by omega
    subst hi2
    rw [List.getElem?_concat_length] at e
    cases e
    exact ⟨x, by rw [← hl, List.getElem?_concat_length], hx⟩
noncomputable def dEds (O : List Rw) : PyData := .list (O.map fun r => .list ((r.map endV).map dvo))
theorem shaped_eds (O : List Rw) : SeqAt.shaped (dEds O) = true := by
  have h := lay_all (ds := O.map fun r => PyData.list ((r.map endV).map dvo)) 4 fun d hd => by
    obtain ⟨r, _, rfl⟩ := List.mem_map.mp hd
    have := lay_vos (r.map endV)
    exact ⟨this.1, by rw [PyData.depth]; omega⟩
  unfold SeqAt.shaped dEds
  rw [Bool.and_eq_true]
  exact ⟨h.1, decide_eq_true (by rw [PyData.depth]; omega)⟩
theorem bds_all {K : PySem.W.Frag} {H : Hp} : ∀ (xs : List V) (ds : List PyData), xs.length = ds.length → (∀ (i : Nat) x d, xs[i]? = some x → ds[i]? = some d → Bd K H x d) → Bds K H xs ds
  | [], [], _, _ => .nil
  | [], _ :: _, h, _ => by simp at h
  | _ :: _, [], h, _ => by simp at h
  | x :: xs, d :: ds, h, f => .cons (f 0 x d rfl rfl) (bds_all xs ds (by simpa using h) fun i x' d' h1 h2 => f (i + 1) x' d' (by simpa using h1) (by simpa using h2))
theorem bd_eds {K : PySem.W.Frag} {H : Hp} {a : Addr} {O : List Rw} (h : EdsAt H a O) : Bd K H (.ref a) (dEds O) := by
  obtain ⟨tr, h1, h2, _, h3⟩ := h
  refine .lst (SqL.of h1) (bds_all _ _ (by simp [h2]) fun i x d hx hd => ?_)
  rw [List.getElem?_map] at hx hd
  obtain ⟨r, e1, rfl⟩ := Option.map_eq_some_iff.mp hd
  obtain ⟨y, q1, q2⟩ := h3 i r e1
  rw [q1] at hx
  cases hx
  exact bd_vos q2
theorem bd_nil {K : PySem.W.Frag} {H : Hp} {a : Addr} (h : H a = some (.lst [])) : Bd K H (.ref a) (.list []) := .lst (SqL.of h) .nil
theorem eqv_nil0 (ds : List PyData) : PyData.eqv (.list ds) (.list []) = ds.isEmpty := by
  cases ds with
  | nil => rfl
  | cons d ds => rfl
theorem flat_vos (l : List (Option Int)) : (vos l).all flatV = true := by
  rw [List.all_eq_true]
  intro y hy
  obtain ⟨o, _, rfl⟩ := List.mem_map.mp hy
  cases o <;> rfl
theorem in_non (l : List (Option Int)) : inV .non (vos l) = l.any Option.isNone := by
  unfold inV
  rw [List.any_map]
  congr 1
  funext o
  cases o <;> rfl
theorem k_by {K0 : Bool → Hp → Prop} {b : Bool} {H : Hp} (ht : b = true → K0 true H) (hf : ¬ b = true → K0 false H) : K0 b H := by
  cases b with
  | true => exact ht rfl
  | false => exact hf Bool.false_ne_true
theorem ifS_by {tA : TT} {a b : TS} {D : Ends} {σ : St} {H : Hp} (R : Prop) (h : ∀ K0 : Bool → Hp → Prop, (∀ H1, Same H H1 → R → K0 true H1) → (∀ H1, Same H H1 → ¬ R → K0 false H1) → tA σ H K0) (ht : ∀ H1, Same H H1 → R → a D σ H1) (hf : ∀ H1, Same H H1 → ¬ R → b D σ H1) : tIfS tA a b D σ H :=
  h _ (fun H1 g p => iteT (ht H1 g p)) (fun H1 g p => iteF (hf H1 g p))
end L2
namespace K74
open PySem L2 PyProof.Rows TX
variable {P : Program} {w : World} {K : PySem.W.Frag} {mg : Str → Option Value} {base : Heap} {t : Adr}
def spRead : Sp := fun vs H Q _ => ∃ (z : Str) (l : List Nat), vs = [.str z] ∧ z = sT l ∧ Fine l ∧ (∀ m ts os, Good (rows l) m ts os → ∀ r H', Same H H' → WebI H' r m ts os → Q (.ref r) H') ∧ ((¬ ∃ m ts os, Good (rows l) m ts os) → ∀ H', Same H H' → Q .non H')
theorem ok_read (T : Txt K mg t) : FnOk P w K mg base CX0 3 t.a_l_read t.d_l_read ["_law_text"] spRead := by
  have G_l_number := ok_num (P := P) (w := w) (base := base) T
  have G_l_end := ok_endl (P := P) (w := w) (base := base) T
  refine T.F_l_read.ok sc_l_read (fun vs H Q E h => ?_) (fun cdv A outer s H vs Q E hr h => ?_)
  · obtain ⟨z, l, rfl, _⟩ := h; rfl
  obtain ⟨z, l, rfl, rfl, hf, q, qn⟩ := h
  have nd := sc_l_read.nd
  have nd_l_pair : (["_law_pair"] : List Str).Nodup := by decide
  have nd_l_row : (["_law_row"] : List Str).Nodup := by decide
  have nd_l_word : (["_law_word"] : List Str).Nodup := by decide
  refine ⟨_, (pss_cons (ps_setComp (i := 1) nd rfl (Or.inl rfl)  (N' := ["_law_row"]) (js := [none]) rfl (pi_list (pe_bm PySem.F.plainAttrs_str PySem.F.slot_str_split PySem.F.type_str_split mt_split (pv 0) (pa_cons pe_str pa_nil))) (fun _ _ _ _ _ => (pg_name (i := 0) nd_l_row rfl (Or.inl rfl))) (fun _ _ _ _ _ => pf_nil) (fun _ _ _ _ _ => (kpe_bm (K := K) rfl PySem.F.plainAttrs_str PySem.F.slot_str_split PySem.F.type_str_split mt_split (pv 0) (pa_cons pe_str pa_nil))))
    (pss_cons (ps_set (i := 2) nd rfl (Or.inl rfl) (pe_lst pa_nil))
    (pss_cons (ps_set (i := 3) nd rfl (Or.inl rfl) (pe_lst pa_nil))
    (pss_cons (ps_set (i := 4) nd rfl (Or.inl rfl) pe_non)
    (pss_cons (ps_if (PW.pt (pw_and (pt_cmpR op_eq (pe_callB call_len_seq rfl T.z_len PySem.boot_len (pa_cons (pe_ix ix_list (pv 1) pe_int (fun _ _ => rfl)) pa_nil)) pe_int (nomark _)) (pw_and1 (pt_cmpR op_eq (pe_ix ix_list (pe_ix ix_list (pv 1) pe_int (fun _ _ => rfl)) pe_int (fun _ _ => rfl)) pe_str (nomark _))))) (pss_one (ps_set (i := 4) nd rfl (Or.inl rfl) (pe_call G_l_number (hr.mono (by decide)) rfl T.m_l_number T.k_l_number T.b_l_number .nil pass0 (pa_cons (pe_ix ix_list (pe_ix ix_list (pv 1) pe_int (fun _ _ => rfl)) pe_int (fun _ _ => rfl)) pa_nil)))) pss_nil)
    (pss_cons (ps_if (PW.pt (pw_or (pt_cmpR op_isN (pv 4) pe_non (nomark _)) (pw_or1 (pt_cmpR op_lt (pv 4) pe_int (nomark _))))) (pss_one (ps_ret pe_non)) pss_nil)
    (pss_cons (ps_for PassesOwn.never rfl (pi_list (pe_slice sl_list (pv 1) (po_some pe_int) po_none)) (pg_name (i := 5) nd rfl (Or.inl rfl)) (pss_one (ps_if (PW.pt (pw_and (pt_cmpR op_eq (pe_ix ix_list (pv 5) pe_int (fun _ _ => rfl)) pe_str (nomark _)) (pw_and (pt_cmpR (op_eqD hr.units) (pv 3) (pe_lst pa_nil) (nomark _)) (pw_and1 (pt_cmpR op_eq (pe_callB call_len_seq rfl T.z_len PySem.boot_len (pa_cons (pv 5) pa_nil)) pe_int (nomark _)))))) (pss_one (ps_expr (pe_bm PySem.F.plainAttrs_list PySem.F.slot_list_append PySem.F.type_list_append mt_append (pv 2) (pa_cons (pe_tup (pa_cons (pe_call G_l_number (hr.mono (by decide)) rfl T.m_l_number T.k_l_number T.b_l_number .nil pass0 (pa_cons (pe_ix ix_list (pv 5) pe_int (fun _ _ => rfl)) pa_nil)) (pa_cons (pe_call G_l_number (hr.mono (by decide)) rfl T.m_l_number T.k_l_number T.b_l_number .nil pass0 (pa_cons (pe_ix ix_list (pv 5) pe_int (fun _ _ => rfl)) pa_nil)) pa_nil))) pa_nil)))) (pss_one (ps_if (pt_cmpR op_eq (pe_ix ix_list (pv 5) pe_int (fun _ _ => rfl)) pe_str (nomark _)) (pss_one (ps_expr (pe_bm PySem.F.plainAttrs_list PySem.F.slot_list_append PySem.F.type_list_append mt_append (pv 3) (pa_cons (pe_comp (N' := ["_law_word"]) (js := [none]) rfl (pi_list (pe_slice sl_list (pv 5) (po_some pe_int) po_none)) (fun _ _ _ _ _ => (pg_name (i := 0) nd_l_word rfl (Or.inl rfl))) (fun _ _ _ _ _ => pf_nil) (fun _ _ _ _ _ => (pe_call G_l_end (hr.mono (by decide)) rfl T.m_l_end T.k_l_end T.b_l_end .nil pass0 (pa_cons (pv 0) pa_nil)))) pa_nil)))) (pss_one (ps_ret pe_non)))))))
    (pss_cons (ps_if (pt_cmpR op_gt (pe_op op_add (pe_callB call_len_seq rfl T.z_len PySem.boot_len (pa_cons (pe_comp (N' := ["_law_pair"]) (js := [none]) rfl (pi_list (pv 2)) (fun _ _ _ _ _ => (pg_name (i := 0) nd_l_pair rfl (Or.inl rfl))) (fun _ _ _ _ _ => (pf_one (pt_cmpR (kop_in (K := K) rfl) pe_non (pv 0) rfl))) (fun _ _ _ _ _ => (pv 0))) pa_nil)) (pe_callB call_len_seq rfl T.z_len PySem.boot_len (pa_cons (pe_comp (N' := ["_law_row"]) (js := [none]) rfl (pi_list (pv 3)) (fun _ _ _ _ _ => (pg_name (i := 0) nd_l_row rfl (Or.inl rfl))) (fun _ _ _ _ _ => (pf_one (pt_cmpR (kop_in (K := K) rfl) pe_non (pv 0) rfl))) (fun _ _ _ _ _ => (pv 0))) pa_nil))) pe_int (nomark _)) (pss_one (ps_ret pe_non)) pss_nil)
    (pss_cons (ps_if (pt_cmpR op_ne (pe_callB call_len_seq rfl T.z_len PySem.boot_len (pa_cons (pv 3) pa_nil)) (pv 4) (nomark _)) (pss_one (ps_ret pe_non)) pss_nil)
    (pss_one (ps_ret (pe_tup (pa_cons (pv 4) (pa_cons (pv 2) (pa_cons (pv 3) pa_nil))))))))))))))), ?_⟩
  have hn := hf.n
  have rl := rows_len hn
  refine ⟨_, rfl, rfl, _, _, l, 10, rfl, rfl, rfl, e_nl, Nat.le_trans hn (by decide), fun D1 hD1 => ?_⟩
  have g1 := same_new hD1 (.lst (vxs (sp 10 l)))
  refine ⟨D1, rfl, ⟨_, SqL.of upd_same⟩, fun ra hra => ?_⟩
  have sl : (sp 10 l).length ≤ 1001 := by
    rw [sp_len]
    have : l.count 10 ≤ l.length := List.count_le_length
    omega
  refine comp_objs (sp 10 l).length (fun i o => o = .lst (vxs (sp 32 ((sp 10 l).getD i [])))) hra (by omega) (fun i H' hi g2 => ⟨_, vx (sp 10 l)[i], SqL.of (g2 _ _ upd_same), by rw [List.getElem?_map, List.getElem?_eq_getElem hi]; rfl⟩) (fun H' g2 => ⟨_, SqL.of (g2 _ _ upd_same), by rw [List.length_map]; exact Nat.le_refl _⟩) ?_ ?_
  · rintro i H' x H'' k hi g2 ⟨rfl, hx⟩ hk
    have hx := hx _ (SqL.of (g2 _ _ upd_same))
    rw [List.getElem?_map, List.getElem?_eq_getElem hi] at hx
    cases hx
    have hm : (sp 10 l)[i] ∈ sp 10 l := List.getElem_mem hi
    have e : (sp 10 l).getD i [] = (sp 10 l)[i] := by rw [List.getD_eq_getElem?_getD, List.getElem?_eq_getElem hi]; rfl
    have hs := sp_short 10 l hm
    exact ⟨(Fills.refl _).set _ rfl, _, rfl, rfl, _, _, (sp 10 l)[i], 32, rfl, rfl, rfl, e_sp, Nat.le_trans (by omega : _ ≤ 1000) (by decide), fun D2 hD2 => hk D2 _ _ (by rw [e]) hD2 (same_new hD2 _) upd_same⟩
  intro rr H1 hlr hP g2 eD
  have hR : RwsAt H1 ra (rows l) := by
    refine ⟨rr, eD, by rw [hlr]; unfold rows; rw [List.length_map], fun i r hr => ?_⟩
    unfold rows at hr
    rw [List.getElem?_map] at hr
    obtain ⟨p, hp, rfl⟩ := Option.map_eq_some_iff.mp hr
    have hi : i < (sp 10 l).length := (List.getElem?_eq_some_iff.mp hp).1
    obtain ⟨o, rfl, ho⟩ := hP i rr[i] (List.getElem?_eq_getElem (by omega))
    refine ⟨_, List.getElem?_eq_getElem (by omega), ?_⟩
    rw [ho, List.getD_eq_getElem?_getD, hp]
    rfl
  clear hP eD hlr
  have g01 := g1.trans g2
  refine ⟨(by show 0 ≤ sizeLine; decide), fun ta hta => ⟨(by show 0 ≤ sizeLine; decide), fun oa hoa => ?_⟩⟩
  have b1 := same_new hta (.lst [])
  have b2 := same_new hoa (.lst [])
  have b12 := b1.trans b2
  have hoa1 : H1 oa = none := b1.free hoa
  have toa : ta ≠ oa := fun z => by rw [← z, upd_same] at hoa; cases hoa
  obtain ⟨r0, Rr, eW⟩ := List.exists_cons_of_ne_nil (show rows l ≠ [] from fun z => by unfold rows at z; exact sp_ne 10 l (List.map_eq_nil_iff.mp z))
  obtain ⟨rr', rr1, rr2, rr3⟩ := id hR
  obtain ⟨x0, x01, x02⟩ := rr3 0 r0 (by rw [eW]; rfl)
  have y1 := b12 _ _ rr1
  have y2 := b12 _ _ x02
  have at0 : atI (rr'.map V.ref) 0 = some (.ref x0) := atI_nat (j := 0) (by rw [List.getElem?_map, x01]; rfl)
  have w0 := rows_word hf r0 (by rw [eW]; exact List.mem_cons_self)
  have notGood : ∀ {H'}, Same H H' → (¬ ∃ m ts os, Good (rows l) m ts os) → Q .non H' := fun g h => qn h _ g
  have g02 := g01.trans b12
  dsimp only [gName]
  refine viaN (fun σ' H' => σ' = [some (vx l), some (.ref ra), some (.ref ta), some (.ref oa), some .non, none] ∧ H' = upd (upd H1 ta (.lst [])) oa (.lst [])) (fun N n1 => n1 _ _ ⟨rfl, rfl⟩) ?_
  rintro σ' H2 ⟨rfl, rfl⟩
  refine viaN (fun σ' H' => Same (upd (upd H1 ta (.lst [])) oa (.lst [])) H' ∧ ∃ mo : Option Int, σ' = [some (vx l), some (.ref ra), some (.ref ta), some (.ref oa), some (vo mo), none] ∧ ((∃ wd, r0 = [kMap, wd] ∧ mo = num wd) ∨ (mo = none ∧ ¬ ∃ wd, r0 = [kMap, wd]))) (fun N n1 => ?_) ?_
  · refine ⟨_, rfl, ra, _, _, _, rfl, rfl, SqL.of y1, at0, x0, _, rfl, .inl (SqL.of y2), rfl, _, rfl, ite2 (fun c => ?_) (fun c => iteF (n1 _ _ ⟨Same.refl _, none, rfl, .inr ⟨rfl, fun ⟨wd, e⟩ => c ?_⟩⟩))⟩
    · have c : r0.length = 2 := by
        have c := V.int.inj (of_decide_eq_true c)
        rw [List.length_map] at c
        exact Int.ofNat.inj c
      obtain ⟨v0, v1, rfl⟩ := len_two c
      refine ⟨_, rfl, ra, _, _, _, rfl, rfl, SqL.of y1, at0, x0, _, _, vx v0, rfl, rfl, SqL.of y2, atI_nat (j := 0) rfl, rfl, _, rfl, ite2 (fun c => ?_) (fun c => n1 _ _ ⟨Same.refl _, none, rfl, .inr ⟨rfl, fun ⟨wd, e⟩ => c ?_⟩⟩)⟩
      · have c := of_decide_eq_true c
        rw [e_map] at c
        have c := vx_eq.mp c
        subst c
        exact ⟨_, rfl, ra, _, _, _, rfl, rfl, SqL.of y1, at0, x0, _, _, vx v1, rfl, rfl, SqL.of y2, atI_nat (j := 1) rfl, _, v1, rfl, rfl, (w0.2 v1 (by simp)).1, (w0.2 v1 (by simp)).2, fun H3 g3 => n1 _ _ ⟨g3, _, rfl, .inl ⟨v1, rfl, rfl⟩⟩⟩
      · injection e with e1 e2
        exact decide_eq_true (by rw [e_map, e1])
    · rw [e]; exact decide_eq_true rfl
  rintro σ' H3 ⟨g3, mo, rfl, hmo⟩
  have g03 := g02.trans g3
  refine viaN (fun σ' H' => H' = H3 ∧ ∃ (m : Int) (wd : Wd), 1 ≤ m ∧ σ' = [some (vx l), some (.ref ra), some (.ref ta), some (.ref oa), some (.int m), none] ∧ r0 = [kMap, wd] ∧ num wd = some m) (fun N n1 => ?_) ?_
  · cases mo with
    | none =>
      refine ⟨_, rfl, rfl, _, rfl, iteT (notGood g03 fun ⟨m, ts, os, wd, T', O', e, h1, _⟩ => ?_)⟩
      have e0 : r0 = [kMap, wd] := by rw [eW] at e; injection e
      rcases hmo with ⟨wd', e1, e2⟩ | ⟨_, h⟩
      · rw [e1] at e0
        injection e0 with _ e0
        injection e0 with e0
        rw [e0, h1] at e2; cases e2
      · exact h ⟨wd, e0⟩
    | some m =>
      obtain ⟨wd, e1, e2⟩ : ∃ wd, r0 = [kMap, wd] ∧ some m = num wd := by
        rcases hmo with h | ⟨h, _⟩
        · exact h
        · cases h
      refine ⟨_, rfl, rfl, _, rfl, iteF ⟨_, rfl, _, _, rfl, rfl, _, rfl, ite2 (fun c => notGood g03 fun ⟨m', ts, os, wd', T', O', e, h1, h2, h3, _⟩ => ?_) (fun c => n1 _ _ ⟨rfl, m, wd, ?_, rfl, e1, e2.symm⟩)⟩⟩
      · have c : m < 1 := of_decide_eq_true c
        have e0 : r0 = [kMap, wd'] := by rw [eW] at e; injection e
        rw [e1] at e0
        injection e0 with _ e0
        injection e0 with e0
        rw [e0, h1] at e2
        have : m = m' := Option.some.inj e2
        have : O'.length ≠ 0 := fun z => h3 (List.length_eq_zero_iff.mp z)
        omega
      · have c : ¬ m < 1 := fun z => c (decide_eq_true z)
        omega
  rintro σ' H3' ⟨rfl, m, wd, hm1, rfl, er0, hwd⟩
  clear hmo
  have g13 := b12.trans g3
  have hta3 : H3' ta = some (.lst []) := g3 _ _ (b2 _ _ upd_same)
  have hoa3 : H3' oa = some (.lst []) := g3 _ _ upd_same
  have eR : (rows l).drop 1 = Rr := by rw [eW]; rfl
  have dl : ((rr'.map V.ref).drop 1).length = Rr.length := by rw [List.length_drop, List.length_map, rr2, eW]; simp
  have rrl : Rr.length ≤ 1001 := by rw [eW] at rl; simp at rl; omega
  refine viaN (fun σ' H' => (∃ v5, σ' = [some (vx l), some (.ref ra), some (.ref ta), some (.ref oa), some (.int m), v5]) ∧ Same H H' ∧ ∃ T O, Rr = T.map r3 ++ O.map rO ∧ PrsAt H' ta T ∧ EdsAt H' oa O) (fun N n1 => ?_) ?_
  · refine ⟨_, rfl, 1, rfl, ra, _, rfl, SqL.of (g13 _ _ rr1), fun sa hsa => ?_⟩
    rw [show (some (1 : Int)) = some ((1 : Nat) : Int) from rfl, cut_fromV]
    have g4 := same_new hsa (.lst ((rr'.map V.ref).drop 1))
    have sat : sa ≠ ta := (ne_of_none hta3 hsa).symm
    have sao : sa ≠ oa := (ne_of_none hoa3 hsa).symm
    refine ⟨sa, rfl, ⟨_, SqL.of upd_same⟩, for_list (K := K) (a := sa) (xs := (rr'.map V.ref).drop 1) (fun i σ H' => (∃ v5, σ = [some (vx l), some (.ref ra), some (.ref ta), some (.ref oa), some (.int m), v5]) ∧ Same H1 H' ∧ H' sa = some (.lst ((rr'.map V.ref).drop 1)) ∧
      ∃ (T : List (Wd × Wd)) (O : List Rw), Rr.take i = T.map r3 ++ O.map rO ∧ PrsAt H' ta T ∧ ∃ orr : List Addr, H' oa = some (.lst (orr.map V.ref)) ∧ orr.length = O.length ∧ (∀ x ∈ orr, x ≠ oa ∧ x ≠ ta ∧ x ≠ sa) ∧ ∀ (i : Nat) (r : Rw), O[i]? = some r → ∃ x, orr[i]? = some x ∧ H' x = some (.lst (vos (r.map endV)))) ?_ ?_ ?_ ?_⟩
    · refine ⟨⟨_, rfl⟩, g13.trans g4, upd_same, [], [], by simp, ⟨[], g4 _ _ hta3, rfl, fun i p h => by simp at h⟩, [], g4 _ _ hoa3, rfl, by simp, fun i r h => by simp at h⟩
    · rintro i σ H' _ ⟨_, _, h, _⟩
      exact SqL.of h
    · rintro i x σ H' hx ⟨⟨v5, rfl⟩, k1, es, T0, O0, eT, ⟨tr, t1, t2, t3⟩, orr, o1, o2, o3, o4⟩
      rw [List.getElem?_drop] at hx
      obtain ⟨r, xa, er, rfl, exa⟩ := rws_nth rr2 rr3 hx
      have exa := k1 _ _ exa
      have er' : Rr[i]? = some r := by rw [eW, Nat.add_comm, List.getElem?_cons_succ] at er; exact er
      have hi : i < Rr.length := (List.getElem?_eq_some_iff.mp er').1
      have hmem := List.mem_of_getElem? er
      have hr0 := rows_ne r hmem
      have wr := rows_word hf r hmem
      have tk : Rr.take (i + 1) = Rr.take i ++ [r] := by rw [List.take_add_one, er']; rfl
      have lT0 : T0.length + O0.length = i := by
        have := congrArg List.length eT
        rw [List.length_take, List.length_append, List.length_map, List.length_map] at this
        omega
      obtain ⟨w0, rt, rfl⟩ : ∃ w0 rt, r = w0 :: rt := by cases r with
        | nil => exact absurd rfl hr0
        | cons w0 rt => exact ⟨w0, rt, rfl⟩
      have hE : ∀ {H2 : Hp}, Same H' H2 → EdsAt H2 oa O0 := fun g => ⟨orr, g _ _ o1, o2, fun z => (o3 _ z).1 rfl, fun i r e => let ⟨x, q1, q2⟩ := o4 i r e; ⟨x, q1, g _ _ q2⟩⟩
      refine ifS_by (O0 = [] ∧ ∃ p, w0 :: rt = r3 p) (fun K0 kt kf => ?_) (fun H2 g2 hc => ?_) (fun H2 g2 hc => ?_)
      · refine ⟨_, rfl, xa, _, _, vx w0, rfl, rfl, SqL.of exa, atI_nat (j := 0) rfl, rfl, _, rfl, ite2 (fun c => ?_) (fun c => kf H' (Same.refl _) fun ⟨_, p, e⟩ => c ?_)⟩
        · have c := of_decide_eq_true c
          rw [e_tie] at c
          have c := vx_eq.mp c
          refine ⟨_, rfl, (by show 0 ≤ sizeLine; decide), fun el hel => ?_⟩
          have g5 := same_new hel (.lst [])
          refine ⟨_, _, bd_eds (hE g5), bd_nil upd_same, shaped_eds _, rfl, _, rfl, ?_⟩
          rw [show PyData.eqv (dEds O0) (.list []) = O0.isEmpty from (eqv_nil0 _).trans (by cases O0 <;> rfl), Bool.xor_false]
          refine ite2 (fun c2 => ?_) (fun c2 => kf _ g5 fun ⟨e, _⟩ => c2 (by rw [e]; rfl))
          refine ⟨_, rfl, xa, _, rfl, .inl (SqL.of (g5 _ _ exa)), rfl, _, rfl, k_by (fun c3 => kt _ g5 ⟨List.isEmpty_iff.mp c2, ?_⟩) (fun c3 => kf _ g5 fun ⟨_, p, e⟩ => c3 ?_)⟩
          · have c3 := V.int.inj (of_decide_eq_true c3)
            rw [List.length_map] at c3
            obtain ⟨a, b, rfl⟩ := len_two (show rt.length = 2 by simp at c3; omega)
            exact ⟨(a, b), by rw [c]; rfl⟩
          · rw [e]; exact decide_eq_true rfl
        · injection e with e1 e2
          exact decide_eq_true (by rw [e_tie, e1])
      · obtain ⟨rfl, ⟨a, b⟩, e⟩ := hc
        rw [e] at exa wr tk
        have exa := g2 _ _ exa
        have wa := wr.2 a (by simp [r3])
        have wb := wr.2 b (by simp [r3])
        refine ⟨_, rfl, .inl ⟨rfl, _, SqL.of (g2 _ _ t1)⟩, ?_⟩
        refine ⟨_, rfl, xa, _, _, vx a, rfl, rfl, SqL.of exa, atI_nat (j := 1) rfl, _, a, rfl, rfl, wa.1, wa.2, fun H5 g5 => ?_⟩
        refine ⟨_, rfl, xa, _, _, vx b, rfl, rfl, SqL.of (g5 _ _ exa), atI_nat (j := 2) rfl, _, b, rfl, rfl, wb.1, wb.2, fun H6 g6 => ?_⟩
        refine ⟨(by show 2 ≤ sizeLine; decide), fun tp htp => ?_⟩
        have g7 := same_new htp (.tup [vo (num a), vo (num b)])
        have g27 := g2.trans (g5.trans (g6.trans g7))
        have nt : ∀ {x : Addr} {xs : List V}, upd H6 tp (.tup [vo (num a), vo (num b)]) x = some (.tup xs) → x ≠ ta := fun hx z => by rw [z, g27 _ _ t1] at hx; cases hx
        refine ⟨ta, _, _, rfl, rfl, g27 _ _ t1, ?_, ⟨_, rfl⟩, (k1.trans g27).fresh hta _, by rw [upd_ne sat]; exact g27 _ _ es, T0 ++ [(a, b)], [], ?_, ⟨tr ++ [tp], by rw [List.map_append]; exact upd_same, by simp [t2], ?_⟩, orr, by rw [upd_ne toa.symm]; exact g27 _ _ o1, o2, o3, fun i r h => by simp at h⟩
        · rw [List.length_map, t2]; exact Nat.lt_of_le_of_lt (by omega : _ ≤ 1001) (by decide)
        · rw [tk, eT]; simp
        · exact snoc_at t2 (fun i p e => let ⟨x, q1, q2⟩ := t3 i p e; ⟨x, q1, by rw [upd_ne (nt (g27 _ _ q2))]; exact g27 _ _ q2⟩) (by rw [upd_ne (nt upd_same)]; exact upd_same)
      · refine ifS_by (w0 = kOrd) (fun K0 kt kf => ?_) (fun H5 g5 hc2 => ?_) (fun H5 g5 hc2 => ?_)
        · refine ⟨_, rfl, xa, _, _, vx w0, rfl, rfl, SqL.of (g2 _ _ exa), atI_nat (j := 0) rfl, rfl, _, rfl, ?_⟩
          rw [show decide (vx w0 = V.str (Str.ofString "order")) = decide (w0 = kOrd) by rw [e_ord]; congr 1; rw [eq_iff_iff, vx_eq]]
          exact k_by (fun c => kt _ (Same.refl _) (of_decide_eq_true c)) (fun c => kf _ (Same.refl _) fun z => c (decide_eq_true z))
        · subst hc2
          have g25 := g2.trans g5
          refine ⟨_, rfl, .inl ⟨rfl, _, SqL.of (g25 _ _ o1)⟩, _, rfl, 1, rfl, xa, _, rfl, SqL.of (g25 _ _ exa), fun pn hpn => ?_⟩
          rw [show cutV (vxs (kOrd :: rt)) (some 1) none = vxs rt from (cut_fromV _ 1).trans rfl]
          have g6 := same_new hpn (.lst (vxs rt))
          refine ⟨pn, rfl, ⟨_, SqL.of upd_same⟩, fun D hD => ?_⟩
          have lrt : rt.length ≤ 1000 := by have := wr.1; simp at this; omega
          refine comp_pure rt.length (fun i => vo (endV (rt.getD i []))) hD (by omega) (fun i H7 hi g7 => ⟨_, vx rt[i], SqL.of (g7 _ _ upd_same), by rw [List.getElem?_map, List.getElem?_eq_getElem hi]; rfl⟩) (fun H7 g7 => ⟨_, SqL.of (g7 _ _ upd_same), by rw [List.length_map]; exact Nat.le_refl _⟩) ?_ ?_
          · rintro i H7 x H8 k hi g7 ⟨rfl, hx⟩ hk
            have hx := hx _ (SqL.of (g7 _ _ upd_same))
            rw [List.getElem?_map, List.getElem?_eq_getElem hi] at hx
            cases hx
            have hm : rt[i] ∈ rt := List.getElem_mem hi
            have e : rt.getD i [] = rt[i] := by rw [List.getD_eq_getElem?_getD, List.getElem?_eq_getElem hi]; rfl
            have ww := wr.2 rt[i] (List.mem_cons_of_mem _ hm)
            exact ⟨(Fills.refl _).set _ rfl, _, rfl, _, rt[i], rfl, rfl, ww.1, ww.2, fun H9 g9 => by rw [← e]; exact hk _ g9⟩
          · intro H7 g7 e7
            have ev : ((List.range rt.length).map fun i => vo (endV (rt.getD i []))) = vos (rt.map endV) := by
              refine List.ext_getElem (by simp) fun i h1 h2 => ?_
              simp only [List.length_map, List.length_range] at h1
              simp [List.getD_eq_getElem?_getD, h1]
            rw [ev] at e7
            have g27 := g25.trans (g6.trans g7)
            have hD' : H' D = none := (g25.trans g6).free hD
            have dn : D ≠ oa ∧ D ≠ ta ∧ D ≠ sa := ⟨(ne_of_none o1 hD').symm, (ne_of_none t1 hD').symm, (ne_of_none es hD').symm⟩
            refine ⟨oa, _, _, rfl, rfl, g27 _ _ o1, ?_, ⟨_, rfl⟩, (k1.trans g27).fresh hoa1 _, by rw [upd_ne sao]; exact g27 _ _ es, T0, O0 ++ [rt], ?_, ⟨tr, by rw [upd_ne toa]; exact g27 _ _ t1, t2, fun i p e => ?_⟩, orr ++ [D], by rw [List.map_append]; exact upd_same, by simp [o2], ?_, ?_⟩
            · rw [List.length_map, o2]; exact Nat.lt_of_le_of_lt (by omega : _ ≤ 1001) (by decide)
            · rw [tk, eT]; simp [rO]
            · obtain ⟨x, q1, q2⟩ := t3 i p e
              refine ⟨x, q1, ?_⟩
              rw [upd_ne (show x ≠ oa from fun z => by rw [z, o1] at q2; cases q2)]
              exact g27 _ _ q2
            · intro x hx
              rcases List.mem_append.mp hx with h | h
              · exact o3 x h
              · rw [List.mem_singleton.mp h]; exact dn
            · exact snoc_at o2 (fun i r e => let ⟨x, q1, q2⟩ := o4 i r e; ⟨x, q1, by rw [upd_ne (o3 x (List.mem_of_getElem? q1)).1]; exact g27 _ _ q2⟩) (by rw [upd_ne dn.1]; exact e7)
        · refine notGood (g01.trans (k1.trans (g2.trans g5))) fun ⟨m', ts, os, wd', T', O', e, _⟩ => ?_
          have e2 : Rr = T'.map r3 ++ O'.map rO := by rw [eW] at e; injection e
          rcases part_next e2 eT er' with h | ⟨q, h⟩
          · exact hc h
          · injection h with h1 h2
            exact hc2 h1
    · rintro σ H' ⟨h1, k1, es, T0, O0, eT, hT, orr, o1, o2, o3, o4⟩
      rw [dl, List.take_of_length_le (Nat.le_refl _)] at eT
      exact n1 _ _ ⟨h1, g01.trans k1, T0, O0, eT, hT, orr, o1, o2, fun z => (o3 _ z).1 rfl, o4⟩
  rintro σ' H5 ⟨⟨v5, rfl⟩, g5, T0, O0, eT, hT, hO⟩
  have uniq : ∀ {m' ts os}, Good (rows l) m' ts os → m' = m ∧ (O0.length : Int) = m ∧ T0.map (fun p => (num p.1, num p.2)) = ts.map (fun t => (some t.1, some t.2)) ∧ O0.map (·.map endV) = os.map (·.map some) := by
    rintro m' ts os ⟨wd', T', O', e, h1, h2, h3, h4, h5⟩
    have e0 : r0 = [kMap, wd'] := by rw [eW] at e; injection e
    have e2 : Rr = T'.map r3 ++ O'.map rO := by rw [eW] at e; injection e
    obtain ⟨rfl, rfl⟩ := parts_one (eT.symm.trans e2)
    rw [er0] at e0
    injection e0 with _ e0
    injection e0 with e0
    rw [e0, h1] at hwd
    have : m' = m := Option.some.inj hwd
    exact ⟨this, h2.trans this, h4, h5⟩
  obtain ⟨tr, t1, t2, t3⟩ := id hT
  obtain ⟨orr, o1, o2, o3, o4⟩ := id hO
  have lTO : T0.length + O0.length ≤ 1001 := by
    have := congrArg List.length eT
    rw [List.length_append, List.length_map, List.length_map] at this
    omega
  refine viaN (fun σ' H' => σ' = [some (vx l), some (.ref ra), some (.ref ta), some (.ref oa), some (.int m), v5] ∧ Same H5 H' ∧ (∀ p ∈ T0, (num p.1).isSome ∧ (num p.2).isSome) ∧ ∀ r ∈ O0, ∀ x ∈ r, (endV x).isSome) (fun N n1 => ?_) ?_
  · refine ⟨_, rfl, ta, rfl, ⟨_, SqL.of t1⟩, fun D1 hD1 => ?_⟩
    let pT : Nat → Bool := fun i => [num (T0.getD i ([], [])).1, num (T0.getD i ([], [])).2].any Option.isNone
    let pO : Nat → Bool := fun i => ((O0.getD i []).map endV).any Option.isNone
    refine comp_fil T0.length (fun i => .ref (tr.getD i 0)) pT hD1 (by omega) (fun i H' hi g => ⟨_, .ref tr[i], SqL.of (g _ _ t1), by rw [List.getElem?_map, List.getElem?_eq_getElem (by omega)]; rfl⟩) (fun H' g => ⟨_, SqL.of (g _ _ t1), by rw [List.length_map]; omega⟩) ?_ ?_
    · rintro i H' x H'' kt kf hi g ⟨rfl, hx⟩ ht hff
      have hx := hx _ (SqL.of (g _ _ t1))
      rw [List.getElem?_map, List.getElem?_eq_getElem (by omega : i < tr.length)] at hx
      cases hx
      obtain ⟨y, q1, q2⟩ := t3 i _ (List.getElem?_eq_getElem hi)
      rw [List.getElem?_eq_getElem (by omega : i < tr.length)] at q1
      cases q1
      have e : T0.getD i ([], []) = T0[i] := by rw [List.getD_eq_getElem?_getD, List.getElem?_eq_getElem hi]; rfl
      have e3 : tr.getD i 0 = tr[i] := by rw [List.getD_eq_getElem?_getD, List.getElem?_eq_getElem (by omega : i < tr.length)]; rfl
      rw [e3] at ht
      refine ⟨(Fills.refl _).set _ rfl, _, rfl, tr[i], vos [num T0[i].1, num T0[i].2], rfl, .inr (SqT.of (g _ _ q2)), rfl, flat_vos _, _, rfl, ?_⟩
      rw [show (if false = true then !inV V.non (vos [num T0[i].1, num T0[i].2]) else inV V.non (vos [num T0[i].1, num T0[i].2])) = pT i by show inV V.non _ = _; rw [in_non, ← e]]
      cases hb : pT i with
      | true => exact iteT ⟨_, rfl, ht hb _ (Same.refl _)⟩
      | false => exact iteF (hff hb _ (Same.refl _))
    intro H6 g6 e6
    refine ⟨D1, _, rfl, .inl (SqL.of e6), _, rfl, oa, rfl, ⟨_, SqL.of (g6 _ _ o1)⟩, fun D2 hD2 => ?_⟩
    refine comp_fil O0.length (fun i => .ref (orr.getD i 0)) pO hD2 (by omega) (fun i H' hi g => ⟨_, .ref orr[i], SqL.of (g _ _ (g6 _ _ o1)), by rw [List.getElem?_map, List.getElem?_eq_getElem (by omega)]; rfl⟩) (fun H' g => ⟨_, SqL.of (g _ _ (g6 _ _ o1)), by rw [List.length_map]; omega⟩) ?_ ?_
    · rintro i H' x H'' kt kf hi g ⟨rfl, hx⟩ ht hff
      have hx := hx _ (SqL.of (g _ _ (g6 _ _ o1)))
      rw [List.getElem?_map, List.getElem?_eq_getElem (by omega : i < orr.length)] at hx
      cases hx
      obtain ⟨y, q1, q2⟩ := o4 i _ (List.getElem?_eq_getElem hi)
      rw [List.getElem?_eq_getElem (by omega : i < orr.length)] at q1
      cases q1
      have e : O0.getD i [] = O0[i] := by rw [List.getD_eq_getElem?_getD, List.getElem?_eq_getElem hi]; rfl
      have e3 : orr.getD i 0 = orr[i] := by rw [List.getD_eq_getElem?_getD, List.getElem?_eq_getElem (by omega : i < orr.length)]; rfl
      rw [e3] at ht
      refine ⟨(Fills.refl _).set _ rfl, _, rfl, orr[i], vos (O0[i].map endV), rfl, .inl (SqL.of (g _ _ (g6 _ _ q2))), rfl, flat_vos _, _, rfl, ?_⟩
      rw [show (if false = true then !inV V.non (vos (O0[i].map endV)) else inV V.non (vos (O0[i].map endV))) = pO i by show inV V.non _ = _; rw [in_non, ← e]]
      cases hb : pO i with
      | true => exact iteT ⟨_, rfl, ht hb _ (Same.refl _)⟩
      | false => exact iteF (hff hb _ (Same.refl _))
    intro H7 g7 e7
    have g57 := g6.trans g7
    have fp : ∀ {n : Nat} {p : Nat → Bool} {fs : Nat → V}, (((List.range n).filter p).map fs).length = 0 ↔ ∀ i, i < n → p i = false := by
      intro n p fs
      rw [List.length_map]
      constructor
      · intro h i hi
        have h := List.length_eq_zero_iff.mp h
        cases hb : p i with
        | false => rfl
        | true =>
          have : i ∈ (List.range n).filter p := List.mem_filter.mpr ⟨List.mem_range.mpr hi, hb⟩
          rw [h] at this; cases this
      · intro h
        rw [List.length_eq_zero_iff]
        refine List.filter_eq_nil_iff.mpr fun i hi => ?_
        rw [h i (List.mem_range.mp hi)]; exact Bool.false_ne_true
    refine ⟨D2, _, rfl, .inl (SqL.of e7), _, _, rfl, rfl, _, _, rfl, rfl, _, rfl, ite2 (fun c => ?_) (fun c => n1 _ _ ⟨rfl, g57, ?_, ?_⟩)⟩
    · refine notGood (g5.trans g57) fun ⟨m', ts, os, h⟩ => ?_
      obtain ⟨_, _, h4, h5⟩ := uniq h
      have c : (0 : Int) < _ := of_decide_eq_true c
      have z1 : (((List.range T0.length).filter pT).map fun i => V.ref (tr.getD i 0)).length = 0 := fp.mpr fun i hi => by
        have e : T0.getD i ([], []) = T0[i] := by rw [List.getD_eq_getElem?_getD, List.getElem?_eq_getElem hi]; rfl
        have hm : (num T0[i].1, num T0[i].2) ∈ ts.map fun t => (some t.1, some t.2) := h4 ▸ List.mem_map_of_mem (f := fun p : Wd × Wd => (num p.1, num p.2)) (List.getElem_mem hi)
        obtain ⟨t', _, e2⟩ := List.mem_map.mp hm
        injection e2 with e3 e4
        show [num (T0.getD i ([], [])).1, num (T0.getD i ([], [])).2].any Option.isNone = false
        rw [e, ← e3, ← e4]; rfl
      have z2 : (((List.range O0.length).filter pO).map fun i => V.ref (orr.getD i 0)).length = 0 := fp.mpr fun i hi => by
        have e : O0.getD i [] = O0[i] := by rw [List.getD_eq_getElem?_getD, List.getElem?_eq_getElem hi]; rfl
        have hm : O0[i].map endV ∈ os.map (·.map some) := h5 ▸ List.mem_map_of_mem (f := fun r : Rw => r.map endV) (List.getElem_mem hi)
        obtain ⟨t', _, e2⟩ := List.mem_map.mp hm
        show ((O0.getD i []).map endV).any Option.isNone = false
        rw [e, ← e2, List.any_eq_false]
        intro x hx
        obtain ⟨y, _, rfl⟩ := List.mem_map.mp hx
        exact Bool.false_ne_true
      rw [z1, z2] at c
      exact absurd c (by decide)
    · intro p hp
      have c : ¬ (0 : Int) < _ := fun z => c (decide_eq_true z)
      have z1 := fp.mp (show (((List.range T0.length).filter pT).map fun i => V.ref (tr.getD i 0)).length = 0 by omega)
      obtain ⟨i, hi, rfl⟩ := List.mem_iff_getElem.mp hp
      have := z1 i hi
      have e : T0.getD i ([], []) = T0[i] := by rw [List.getD_eq_getElem?_getD, List.getElem?_eq_getElem hi]; rfl
      simp only [pT, e, List.any_cons, List.any_nil, Bool.or_false, Bool.or_eq_false_iff] at this
      exact ⟨by simpa using this.1, by simpa using this.2⟩
    · intro r hr x hx
      have c : ¬ (0 : Int) < _ := fun z => c (decide_eq_true z)
      have z1 := fp.mp (show (((List.range O0.length).filter pO).map fun i => V.ref (orr.getD i 0)).length = 0 by omega)
      obtain ⟨i, hi, rfl⟩ := List.mem_iff_getElem.mp hr
      have := z1 i hi
      have e : O0.getD i [] = O0[i] := by rw [List.getD_eq_getElem?_getD, List.getElem?_eq_getElem hi]; rfl
      simp only [pO, e] at this
      have := List.any_eq_false.mp this (endV x) (List.mem_map_of_mem hx)
      rw [Option.isSome_iff_ne_none]
      simpa using this
  rintro σ' H6 ⟨rfl, g6, aT, aO⟩
  have g06 := g5.trans g6
  refine viaN (fun σ' H' => σ' = [some (vx l), some (.ref ra), some (.ref ta), some (.ref oa), some (.int m), v5] ∧ H' = H6 ∧ (O0.length : Int) = m) (fun N n1 => ?_) ?_
  · refine ⟨_, rfl, oa, _, rfl, .inl (SqL.of (g6 _ _ o1)), _, rfl, rfl, _, rfl, ite2 (fun c => notGood g06 fun ⟨m', ts, os, h⟩ => ?_) (fun c => n1 _ _ ⟨rfl, rfl, ?_⟩)⟩
    · have := (uniq h).2.1
      rw [List.length_map, o2, this] at c
      simp at c
    · rw [List.length_map, o2] at c
      apply Classical.byContradiction
      intro z
      apply c
      rw [Bool.not_eq_true', decide_eq_false_iff_not]
      exact fun y => z (V.int.inj y)
  rintro σ' H6' ⟨rfl, rfl, om⟩
  refine ⟨_, rfl, _, rfl, _, rfl, (by show 3 ≤ sizeLine; decide), fun wb hwb => ?_⟩
  have g7 := same_new hwb (.tup [.int m, .ref ta, .ref oa])
  have g67 := g6.trans g7
  let ts : List (Int × Int) := T0.map fun p => ((num p.1).getD 0, (num p.2).getD 0)
  let os : List (List Int) := O0.map fun r => r.map fun x => (endV x).getD 0
  have sg : ∀ {o : Option Int}, o.isSome = true → o = some (o.getD 0) := fun h => by
    obtain ⟨n, e⟩ := Option.isSome_iff_exists.mp h
    rw [e]; rfl
  have h4 : T0.map (fun p => (num p.1, num p.2)) = ts.map (fun t => (some t.1, some t.2)) := by
    rw [List.map_map]
    refine List.map_congr_left fun p hp => ?_
    exact Prod.ext (sg (aT p hp).1) (sg (aT p hp).2)
  have h5 : O0.map (·.map endV) = os.map (·.map some) := by
    rw [List.map_map]
    refine List.map_congr_left fun r hr => ?_
    show r.map endV = (r.map fun x => (endV x).getD 0).map some
    rw [List.map_map]
    exact List.map_congr_left fun x hx => sg (aO r hr x hx)
  have good : Good (rows l) m ts os := ⟨wd, T0, O0, by rw [eW, er0, eT], hwd, om, fun z => by rw [z] at om; simp at om; omega, h4, h5⟩
  refine q m ts os good wb _ (g06.trans g7) ⟨ta, oa, upd_same, ⟨tr, g67 _ _ t1, by rw [t2, List.length_map], fun i t' e => ?_⟩, orr, g67 _ _ o1, by rw [o2, List.length_map], fun i o e => ?_⟩
  · rw [List.getElem?_map] at e
    obtain ⟨p, hp, rfl⟩ := Option.map_eq_some_iff.mp e
    obtain ⟨x, q1, q2⟩ := t3 i p hp
    refine ⟨x, q1, ?_⟩
    have hm := List.mem_of_getElem? hp
    rw [g67 _ _ q2, sg (aT p hm).1, sg (aT p hm).2]
    rfl
  · rw [List.getElem?_map] at e
    obtain ⟨r, hp, rfl⟩ := Option.map_eq_some_iff.mp e
    obtain ⟨x, q1, q2⟩ := o4 i r hp
    refine ⟨x, q1, ?_⟩
    rw [g67 _ _ q2]
    congr 2
    unfold vos
    rw [List.map_map, List.map_map]
    refine List.map_congr_left fun y hy => ?_
    show vo (endV y) = V.int ((endV y).getD 0)
    rw [sg (aO r (List.mem_of_getElem? hp) y hy)]
    rfl
end K74

namespace AW
def ins (ts : Ts) (C : List Int) : Nat := ts.countP fun t => decide (t.1 ∈ C ∧ t.2 ∈ C)
theorem countP_lt {p q : Int × Int → Bool} : ∀ {ts : Ts}, (∀ t ∈ ts, p t = true → q t = true) → ∀ {t : Int × Int}, t ∈ ts → p t = false → q t = true → ts.countP p < ts.countP q
  | u :: ts, h, t, ht, h1, h2 => by
    have mono : ts.countP p ≤ ts.countP q := List.countP_mono_left fun x hx => h x (List.mem_cons_of_mem _ hx)
    rcases List.mem_cons.mp ht with rfl | ht
    · rw [List.countP_cons, List.countP_cons, h1, h2]
      simp; omega
    · have := countP_lt (fun x hx => h x (List.mem_cons_of_mem _ hx)) ht h1 h2
      have hu := h u List.mem_cons_self
      rw [List.countP_cons, List.countP_cons]
      cases e : p u with
      | true => rw [hu e]; simp; omega
      | false => simp; omega
theorem half_ins {ts : Ts} {C : List Int} (h : C.length ≤ 1 + ins ts C) {a b : Int} (hn : b ∈ nbs ts a) : (half C a b).length ≤ 1 + ins ts (half C a b) := by
  unfold half
  split
  · rename_i c
    rw [List.length_append, List.length_singleton]
    obtain ⟨t, ht, hab⟩ := mem_nbs.mp hn
    have := countP_lt (p := fun t => decide (t.1 ∈ C ∧ t.2 ∈ C)) (q := fun t => decide (t.1 ∈ C ++ [b] ∧ t.2 ∈ C ++ [b])) (ts := ts) (fun t _ h => by
      have h := of_decide_eq_true h
      exact decide_eq_true ⟨List.mem_append_left _ h.1, List.mem_append_left _ h.2⟩) ht (decide_eq_false fun z => by
      rcases hab with ⟨rfl, rfl⟩ | ⟨rfl, rfl⟩
      · exact c.2 z.2
      · exact c.2 z.1) (decide_eq_true (by
      rcases hab with ⟨rfl, rfl⟩ | ⟨rfl, rfl⟩
      · exact ⟨List.mem_append_left _ c.1, by simp⟩
      · exact ⟨by simp, List.mem_append_left _ c.1⟩))
    have e1 : ins ts C = ts.countP fun t => decide (t.1 ∈ C ∧ t.2 ∈ C) := rfl
    have e2 : ins ts (C ++ [b]) = ts.countP fun t => decide (t.1 ∈ C ++ [b] ∧ t.2 ∈ C ++ [b]) := rfl
    omega
  · exact h
theorem Passed.end_ {m : Nat} {ts : Ts} {C : List Int} (h : Passed m ts C ts.length) (hi : C.length ≤ 1 + ins ts C) : C.length = m ↔ Whole m ts := by
  refine ⟨h.1.whole, fun w => ?_⟩
  rcases h.2 with c | c
  · exact h.1.full c w
  · refine h.1.full (fun t ht => ?_) w
    have h1 : ins ts C ≤ ts.length := List.countP_le_length
    have h2 : ins ts C = ts.length := by omega
    have := of_decide_eq_true (List.countP_eq_length.mp h2 t ht)
    exact ⟨fun _ => this.2, fun _ => this.1⟩
end AW
namespace K74
open PySem L2 PyProof.Rows TX
variable {P : Program} {w : World} {K : PySem.W.Frag} {mg : Str → Option Value} {base : Heap} {t : Adr}
def spHangs : Sp := fun vs H Q _ => ∃ (n : Nat) (tA : Addr) (ts : AW.Ts), vs = [vn n, .ref tA] ∧ TsI H tA ts ∧ AW.InW n ts ∧ 1 ≤ n ∧ n ≤ 200 ∧ ts.length ≤ 1000 ∧ ∀ (b : Bool) (H' : Hp), Same H H' → (b = true ↔ AW.Whole n ts) → Q (.bl b) H'
theorem ok_hangs (T : Txt K mg t) : FnOk P w K mg base CX0 1 t.a_l_hangs t.d_l_hangs ["_law_many", "_law_ties"] spHangs := by
  refine T.F_l_hangs.ok sc_l_hangs (fun vs H Q E h => ?_) (fun cdv A outer s H vs Q E hr h => ?_)
  · obtain ⟨n, tA, ts, rfl, _⟩ := h; rfl
  obtain ⟨n, tA, ts, rfl, ⟨tr, e1, e2, e3⟩, c6, n1, n2, tl, q⟩ := h
  have nd := sc_l_hangs.nd
  refine ⟨_, (pss_cons (ps_set (i := 2) nd rfl (Or.inl rfl) (pe_lst (pa_cons pe_int pa_nil)))
    (pss_cons (ps_for PassesOwn.never rfl (pi_range1 rfl T.z_range (pa_cons (pe_callB call_len_seq rfl T.z_len PySem.boot_len (pa_cons (pv 1) pa_nil)) pa_nil)) (pg_name (i := 3) nd rfl (Or.inl rfl)) (pss_one (ps_for PassesOwn.never rfl (pi_list (pv 1)) (pg_tup rfl (pgs_cons (pg_name (i := 4) nd rfl (Or.inl rfl)) (pgs_cons (pg_name (i := 5) nd rfl (Or.inl rfl)) pgs_nil))) (pss_cons (ps_if (PW.pt (pw_and (pt_cmpR op_in_seq (pv 4) (pv 2) rfl) (pw_and1 (pt_cmpR op_notIn_seq (pv 5) (pv 2) rfl)))) (pss_one (ps_expr (pe_bm PySem.F.plainAttrs_list PySem.F.slot_list_append PySem.F.type_list_append mt_append (pv 2) (pa_cons (pv 5) pa_nil)))) pss_nil)
    (pss_one (ps_if (PW.pt (pw_and (pt_cmpR op_in_seq (pv 5) (pv 2) rfl) (pw_and1 (pt_cmpR op_notIn_seq (pv 4) (pv 2) rfl)))) (pss_one (ps_expr (pe_bm PySem.F.plainAttrs_list PySem.F.slot_list_append PySem.F.type_list_append mt_append (pv 2) (pa_cons (pv 4) pa_nil)))) pss_nil))))))
    (pss_one (ps_ret (pe_cmpR op_eq (pe_callB call_len_seq rfl T.z_len PySem.boot_len (pa_cons (pv 2) pa_nil)) (pv 0) (nomark _)))))), ?_⟩
  refine ⟨(by show 1 ≤ sizeLine; decide), fun cA c0 => ?_⟩
  refine ⟨_, rfl, tA, _, rfl, .inl (SqL.of ((same_new c0 _) _ _ e1)), (ts.length : Int), ?_, by omega, by omega, for_range (n := ts.length) (lo := 0) (fun k σ H' => (∃ v3 v4 v5, σ = [some (vn n), some (.ref tA), some (.ref cA), v3, v4, v5]) ∧ Same H H' ∧ ∃ C : List Int, H' cA = some (.lst (C.map V.int)) ∧ AW.Passed n ts C k ∧ C.length ≤ 1 + AW.ins ts C) ⟨⟨_, _, _, rfl⟩, same_new c0 _, [0], upd_same, ⟨.start (by omega), .inr (Nat.le_refl _)⟩, by simp⟩ ?_ ?_⟩
  · rw [List.length_map, e2]
  · rintro i σ H' hi ⟨⟨v3, v4', v5', rfl⟩, g, C0, hC0, hp, hin⟩
    refine ⟨_, rfl, tA, rfl, ⟨_, SqL.of (g _ _ e1)⟩, for_list (K := K) (a := tA) (xs := tr.map V.ref) (fun k σ H5 => (∃ v4 v5, σ = [some (vn n), some (.ref tA), some (.ref cA), some (.int (0 + (i : Int))), v4, v5]) ∧ Same H H5 ∧ ∃ C : List Int, H5 cA = some (.lst (C.map V.int)) ∧ AW.Pass n ts C0 C k ∧ C.length ≤ 1 + AW.ins ts C) ⟨⟨_, _, rfl⟩, g, C0, hC0, ⟨hp.1, .inl ⟨rfl, fun j t hj => absurd hj (Nat.not_lt_zero _)⟩⟩, hin⟩ ?_ ?_ ?_⟩
    · rintro k σ H5 hk ⟨_, g5, _⟩
      exact SqL.of (g5 _ _ e1)
    · rintro k x σ H5 hx ⟨⟨v4'', v5'', rfl⟩, g5, C, hC, hP, hI⟩
      obtain ⟨⟨u, v⟩, r, et, rfl, er⟩ := TsI.nth (a := tA) e2 e3 hx
      have hP2 := hP.next c6 et
      have m1 : v ∈ AW.nbs ts u := AW.mem_nbs.mpr ⟨_, List.mem_of_getElem? et, .inl ⟨rfl, rfl⟩⟩
      have m2 : u ∈ AW.nbs ts v := AW.mem_nbs.mpr ⟨_, List.mem_of_getElem? et, .inr ⟨rfl, rfl⟩⟩
      have l1 := hP.1.le
      have l2 := (AW.half_come hP.1 c6 m1).le
      have hI2 := AW.half_ins (AW.half_ins hI m1) m2
      refine ⟨r, _, rfl, SqT.of (g5 _ _ er), rfl, _, _, rfl, _, _, rfl, rfl, ?_⟩
      refine via (fun σ' H6 => σ' = [some (vn n), some (.ref tA), some (.ref cA), some (.int (0 + (i : Int))), some (.int u), some (.int v)] ∧ Same H H6 ∧ H6 cA = some (.lst ((AW.half C u v).map V.int))) (fun hr1 => ?_) ?_
      · refine ⟨_, rfl, _, rfl, cA, _, rfl, .inl (SqL.of hC), rfl, flat_ints _, _, rfl, ?_⟩
        by_cases b1 : u ∈ C
        case neg =>
          refine iteFb (by simp [inV_ints, b1]) (iteF (hr1 _ _ ⟨rfl, g5, ?_⟩))
          rw [show AW.half C u v = C by unfold AW.half; rw [if_neg (fun z => b1 z.1)]]; exact hC
        refine iteTb (by simp [inV_ints, b1]) ⟨_, rfl, _, rfl, cA, _, rfl, .inl (SqL.of hC), rfl, flat_ints _, _, rfl, ?_⟩
        by_cases b2 : v ∈ C
        · refine iteFb (by simp [inV_ints, b2]) (hr1 _ _ ⟨rfl, g5, ?_⟩)
          rw [show AW.half C u v = C by unfold AW.half; rw [if_neg (fun z => z.2 b2)]]; exact hC
        · refine iteTb (by simp [inV_ints, b2]) ⟨_, rfl, .inl ⟨rfl, _, SqL.of hC⟩, _, rfl, cA, _, _, rfl, rfl, hC, Nat.lt_of_le_of_lt (show _ ≤ 200 by rw [List.length_map]; omega) (by decide), hr1 _ _ ⟨rfl, g5.fresh c0 _, ?_⟩⟩
          rw [show AW.half C u v = C ++ [v] by unfold AW.half; rw [if_pos ⟨b1, b2⟩], List.map_append]; exact upd_same
      · rintro σ' H6 ⟨rfl, g6, hC6⟩
        generalize hCC : AW.half C u v = CC at hC6 hP2 l2 hI2
        refine ⟨_, rfl, _, rfl, cA, _, rfl, .inl (SqL.of hC6), rfl, flat_ints _, _, rfl, ?_⟩
        by_cases b1 : v ∈ CC
        case neg =>
          refine iteFb (by simp [inV_ints, b1]) (iteF ⟨⟨_, _, rfl⟩, g6, _, ?_, hP2, hI2⟩)
          rw [show AW.half CC v u = CC by unfold AW.half; rw [if_neg (fun z => b1 z.1)]]; exact hC6
        refine iteTb (by simp [inV_ints, b1]) ⟨_, rfl, _, rfl, cA, _, rfl, .inl (SqL.of hC6), rfl, flat_ints _, _, rfl, ?_⟩
        by_cases b2 : u ∈ CC
        · refine iteFb (by simp [inV_ints, b2]) ⟨⟨_, _, rfl⟩, g6, _, ?_, hP2, hI2⟩
          rw [show AW.half CC v u = CC by unfold AW.half; rw [if_neg (fun z => z.2 b2)]]; exact hC6
        · refine iteTb (by simp [inV_ints, b2]) ⟨_, rfl, .inl ⟨rfl, _, SqL.of hC6⟩, _, rfl, cA, _, _, rfl, rfl, hC6, Nat.lt_of_le_of_lt (show _ ≤ 200 by rw [List.length_map]; omega) (by decide), ⟨_, _, rfl⟩, g6.fresh c0 _, _, ?_, hP2, hI2⟩
          rw [show AW.half CC v u = CC ++ [u] by unfold AW.half; rw [if_pos ⟨b1, b2⟩], List.map_append]; exact upd_same
    · rintro σ H5 ⟨⟨v4'', v5'', rfl⟩, g5, C, hC, hP, hI⟩
      rw [List.length_map, e2] at hP
      exact ⟨⟨_, _, _, rfl⟩, g5, C, hC, hP.done hp, hI⟩
  · rintro σ H' ⟨⟨v3, v4', v5', rfl⟩, g, C, hC, hp, hI⟩
    refine ⟨_, rfl, cA, _, rfl, .inl (SqL.of hC), _, rfl, rfl, ?_⟩
    rw [List.length_map]
    refine q _ H' g ?_
    rw [decide_eq_true_iff, ← hp.end_ hI]
    exact ⟨fun z => Int.ofNat.inj (V.int.inj z), fun z => by rw [z]⟩
def spIsM : Sp := fun vs H Q _ => ∃ (wa : Addr) (n : Nat) (ts : AW.Ts) (os : AW.Os), vs = [.ref wa] ∧ WebI H wa (n : Int) ts os ∧ 1 ≤ n ∧ n ≤ 1100 ∧ ts.length ≤ 1000 ∧ os.length = n ∧ (∀ o ∈ os, o.length < 64) ∧ ∀ (b : Bool) (H' : Hp), Same H H' → (b = true ↔ AW.IsMap n ts os) → Q (.bl b) H'
theorem ok_ism (T : Txt K mg t) : FnOk P w K mg base CX0 2 t.a_l_is_map t.d_l_is_map ["_law_chart"] spIsM := by
  have G_l_hangs := ok_hangs (P := P) (w := w) (base := base) T
  refine T.F_l_is_map.ok sc_l_is_map (fun vs H Q E h => ?_) (fun cdv A outer s H vs Q E hr h => ?_)
  · obtain ⟨wa, n, ts, os, rfl, _⟩ := h; rfl
  obtain ⟨wa, n, ts, os, rfl, ⟨tA, oA, w1, hT, hO⟩, n1, n2, tl, ol, ob, q⟩ := h
  obtain ⟨tr, e1, e2, e3⟩ := id hT
  obtain ⟨orr, o1, o2, o3⟩ := id hO
  have nd := sc_l_is_map.nd
  have nd_l_place : (["_law_place"] : List Str).Nodup := by decide
  refine ⟨_, (pss_cons (ps_asg (pv 0) (pg_tup rfl (pgs_cons (pg_name (i := 1) nd rfl (Or.inl rfl)) (pgs_cons (pg_name (i := 2) nd rfl (Or.inl rfl)) (pgs_cons (pg_name (i := 3) nd rfl (Or.inl rfl)) pgs_nil)))))
    (pss_cons (ps_if (PW.pt (pw_or (pt_cmpR op_gt (pv 1) pe_int (nomark _)) (pw_or (pt_cmpR op_lt (pe_callB call_len_seq rfl T.z_len PySem.boot_len (pa_cons (pv 2) pa_nil)) pe_int (nomark _)) (pw_or1 (pt_cmpR op_gt (pe_callB call_len_seq rfl T.z_len PySem.boot_len (pa_cons (pv 2) pa_nil)) pe_int (nomark _)))))) (pss_one (ps_ret pe_bl)) pss_nil)
    (pss_cons (ps_setComp (i := 4) nd rfl (Or.inl rfl)  (N' := ["_law_place"]) (js := [none]) rfl (pi_range1 rfl T.z_range (pa_cons (pv 1) pa_nil)) (fun _ _ _ _ _ => (pg_name (i := 0) nd_l_place rfl (Or.inl rfl))) (fun _ _ _ _ _ => pf_nil) (fun _ _ _ _ _ => (pe_lst pa_nil)))
    (pss_cons (ps_for PassesOwn.never rfl (pi_enum rfl T.z_enumerate (pa_cons (pv 2) pa_nil)) (pg_tup rfl (pgs_cons (pg_name (i := 5) nd rfl (Or.inl rfl)) (pgs_cons (pg_name (i := 6) nd rfl (Or.inl rfl)) pgs_nil))) (pss_one (ps_for PassesOwn.never rfl (pi_range1 rfl T.z_range (pa_cons pe_int pa_nil)) (pg_name (i := 7) nd rfl (Or.inl rfl)) (pss_cons (ps_if (PW.pt (pw_or (pt_cmpR op_lt (pe_ix ix_tup (pv 6) (pv 7) (fun _ _ => rfl)) pe_int (nomark _)) (pw_or1 (pt_cmpR op_ge (pe_ix ix_tup (pv 6) (pv 7) (fun _ _ => rfl)) (pv 1) (nomark _))))) (pss_one (ps_ret pe_bl)) pss_nil)
    (pss_one (ps_expr (pe_bm PySem.F.plainAttrs_list PySem.F.slot_list_append PySem.F.type_list_append mt_append (pe_ix ix_list (pv 4) (pe_ix ix_tup (pv 6) (pv 7) (fun _ _ => rfl)) (fun _ _ => rfl)) (pa_cons (pe_op op_add (pe_op op_mul pe_int (pv 5)) (pv 7)) pa_nil))))))))
    (pss_cons (ps_for PassesOwn.never rfl (pi_range1 rfl T.z_range (pa_cons (pv 1) pa_nil)) (pg_name (i := 8) nd rfl (Or.inl rfl)) (pss_one (ps_if (PW.pt (pw_or (pt_cmpR op_gt (pe_callB call_len_seq rfl T.z_len PySem.boot_len (pa_cons (pe_ix ix_list (pv 4) (pv 8) (fun _ _ => rfl)) pa_nil)) pe_int (nomark _)) (pw_or1 (pt_cmpR (op_neD hr.units) (pe_callB call_sortedI rfl T.z_sorted boot_sorted (pa_cons (pe_ix ix_list (pv 3) (pv 8) (fun _ _ => rfl)) pa_nil)) (pe_callB call_sortedI rfl T.z_sorted boot_sorted (pa_cons (pe_ix ix_list (pv 4) (pv 8) (fun _ _ => rfl)) pa_nil)) (nomark _))))) (pss_one (ps_ret pe_bl)) pss_nil)))
    (pss_one (ps_ret (pe_call G_l_hangs (hr.mono (by decide)) rfl T.m_l_hangs T.k_l_hangs T.b_l_hangs .nil pass0 (pa_cons (pv 1) (pa_cons (pv 2) pa_nil)))))))))), ?_⟩
  have no : ∀ {H'}, Same H H' → ¬ AW.IsMap n ts os → Q (.bl false) H' := fun g h => q false _ g ⟨fun z => Bool.noConfusion z, fun z => absurd z h⟩
  refine ⟨_, rfl, wa, _, rfl, SqT.of w1, rfl, _, _, rfl, _, _, rfl, _, _, rfl, rfl, ?_⟩
  dsimp only [gName]
  refine viaN (fun σ' H' => H' = H ∧ σ' = [some (.ref wa), some (vn n), some (.ref tA), some (.ref oA), none, none, none, none, none] ∧ n ≤ 200 ∧ 1 ≤ ts.length ∧ ts.length ≤ 400) (fun N n3 => ?_) ?_
  · refine ⟨_, rfl, _, _, rfl, rfl, _, rfl, ite2 (fun c => iteT (no (Same.refl _) fun z => ?_)) (fun c => ?_)⟩
    · have c : (200 : Int) < n := of_decide_eq_true c
      have := z.1.1.2
      omega
    refine ⟨_, rfl, tA, _, rfl, .inl (SqL.of e1), _, _, rfl, rfl, _, rfl, ite2 (fun c2 => iteT (no (Same.refl _) fun z => ?_)) (fun c2 => ?_)⟩
    · have c2 : (((tr.map V.ref).length : Nat) : Int) < 1 := of_decide_eq_true c2
      rw [List.length_map, e2] at c2
      have := z.1.2.1
      omega
    refine ⟨_, rfl, tA, _, rfl, .inl (SqL.of e1), _, _, rfl, rfl, _, rfl, ite2 (fun c3 => no (Same.refl _) fun z => ?_) (fun c3 => n3 _ _ ⟨rfl, rfl, ?_, ?_, ?_⟩)⟩
    · have c3 : (400 : Int) < (((tr.map V.ref).length : Nat) : Int) := of_decide_eq_true c3
      rw [List.length_map, e2] at c3
      have := z.1.2.2
      omega
    · have c : ¬ (200 : Int) < n := fun z => c (decide_eq_true z)
      omega
    · have c2 : ¬ (((tr.map V.ref).length : Nat) : Int) < 1 := fun z => c2 (decide_eq_true z)
      rw [List.length_map, e2] at c2
      omega
    · have c3 : ¬ (400 : Int) < (((tr.map V.ref).length : Nat) : Int) := fun z => c3 (decide_eq_true z)
      rw [List.length_map, e2] at c3
      omega
  rintro σ' H' ⟨rfl, rfl, m2, t1, t4⟩
  refine ⟨_, rfl, (n : Int), rfl, by omega, by omega, fun D hD => ?_⟩
  refine comp_news n (fun _ => []) hD (by omega) (fun i H2 hi g2 => ?_) (fun H2 g2 => ?_) ?_ ?_
  · show i < ((n : Int) - 0).toNat; omega
  · show ((n : Int) - 0).toNat ≤ n; omega
  · rintro i H2 x H3 k hi g2 ⟨rfl, y⟩ hk
    exact ⟨(Fills.refl _).set _ rfl, (by show 0 ≤ sizeLine; decide), fun l hl' => hk l _ hl' (same_new hl' _) upd_same⟩
  intro rr H1 nw1 g1
  let F : Nat → Nat → List V := fun k p => (AW.endsAt (ts.take k) p).map V.int
  have small : ∀ (k p : Nat), (F k p).length ≤ 2000 := fun k p => by
    show ((AW.endsAt (ts.take k) p).map V.int).length ≤ 2000
    have h1 : (AW.endsAt (ts.take k) p).length ≤ (AW.all2 (ts.take k)).length := List.length_filter_le ..
    have h2 : (AW.all2 (ts.take k)).length ≤ 2000 := by unfold AW.all2; rw [List.length_map, List.length_range, List.length_take]; omega
    rw [List.length_map]
    omega
  dsimp only [gName]
  refine viaN (fun σ' H2 => (∃ v5 v6 v7, σ' = [some (.ref wa), some (vn n), some (.ref tA), some (.ref oA), some (.ref D), v5, v6, v7, none]) ∧ Same H' H2 ∧ NewL H' H2 D rr ((List.range n).map (F ts.length)) ∧ AW.InW n ts) (fun N n3 => ?_) ?_
  · refine ⟨_, rfl, tA, rfl, ⟨_, SqL.of (g1 _ _ e1)⟩, for_enum (K := K) (a := tA) (xs := tr.map V.ref) (fun k σ H2 => (∃ v5 v6 v7, σ = [some (.ref wa), some (vn n), some (.ref tA), some (.ref oA), some (.ref D), v5, v6, v7, none]) ∧ Same H' H2 ∧ NewL H' H2 D rr ((List.range n).map (F k)) ∧ AW.InW n (ts.take k)) ⟨⟨_, _, _, rfl⟩, g1, ?_, fun t' h => by simp at h⟩ ?_ ?_ ?_⟩
    · have e : F 0 = fun _ => [] := by funext p; show (AW.endsAt (ts.take 0) p).map V.int = []; rw [List.take_zero]; rfl
      rw [e]; exact nw1
    · rintro i σ H2 hi ⟨_, g2, _⟩
      exact SqL.of (g2 _ _ e1)
    · rintro i x σ H2 Tp hx ⟨⟨v5, v6, v7, rfl⟩, g2, w2, hin⟩ hTp
      obtain ⟨⟨u, v⟩, r, et, rfl, er⟩ := TsI.nth (a := tA) e2 e3 hx
      have hi : i < ts.length := (List.getElem?_eq_some_iff.mp et).1
      have g3 := g2.trans (same_new hTp (.tup [vn i, .ref r]))
      have w3 := w2.keep (same_new hTp (.tup [vn i, .ref r]))
      have hmem := List.mem_of_getElem? et
      have er3 := g3 _ _ er
      have htk : ts.take (i + 1) = ts.take i ++ [(u, v)] := by rw [List.take_add_one, et]; rfl
      have hlt : (ts.take i).length = i := by rw [List.length_take]; omega
      refine ⟨Tp, _, rfl, SqT.of upd_same, rfl, _, _, rfl, _, _, rfl, rfl, ?_⟩
      let Fj : Nat → Nat → List V := fun j p => F i p ++ ((if 1 ≤ j ∧ u = (p : Int) then [V.int (2 * (i : Int))] else []) ++ if 2 ≤ j ∧ v = (p : Int) then [V.int (2 * (i : Int) + 1)] else [])
      have at_j : ∀ j : Nat, j < 2 → atI [V.int u, V.int v] (0 + (j : Int)) = some (.int (if j = 0 then u else v)) := fun j hj => by
        match j, hj with
        | 0, _ => rfl
        | 1, _ => rfl
      refine ⟨2, rfl, by decide, by decide, for_range (n := 2) (lo := 0) (fun j σ H4 => (∃ v7, σ = [some (.ref wa), some (vn n), some (.ref tA), some (.ref oA), some (.ref D), some (vn i), some (.ref r), v7, none]) ∧ Same H' H4 ∧ NewL H' H4 D rr ((List.range n).map (Fj j)) ∧ H4 r = some (.tup [.int u, .int v]) ∧ (1 ≤ j → 0 ≤ u ∧ u < n) ∧ (2 ≤ j → 0 ≤ v ∧ v < n)) ⟨⟨_, rfl⟩, g3, ?_, er3, fun z => absurd z (by decide), fun z => absurd z (by decide)⟩ ?_ ?_⟩
      · have e : Fj 0 = F i := by funext p; simp [Fj]
        rw [e]; exact w3
      · rintro j σ H4 hj ⟨⟨v7', rfl⟩, g4, w4, er4, hu, hv⟩
        let y : Int := if j = 0 then u else v
        have aj : atI [V.int u, V.int v] (0 + (j : Int)) = some (.int y) := at_j j hj
        have badY : ¬ (0 ≤ y ∧ y < n) → ¬ AW.IsMap n ts os := fun z im => by
          have := im.2.1 _ hmem
          apply z
          show 0 ≤ (if j = 0 then u else v) ∧ (if j = 0 then u else v) < (n : Int)
          split
          · exact this.1
          · exact this.2
        refine viaN (fun σ' H5 => H5 = H4 ∧ σ' = [some (.ref wa), some (vn n), some (.ref tA), some (.ref oA), some (.ref D), some (vn i), some (.ref r), some (.int (0 + (j : Int))), none] ∧ 0 ≤ y ∧ y < n) (fun N n4 => ?_) ?_
        · refine ⟨_, rfl, _, rfl, r, _, _, _, rfl, rfl, SqT.of er4, aj, _, _, rfl, rfl, _, rfl, ite2 (fun c => iteT (no g4 (badY fun z => ?_))) (fun c => ?_)⟩
          · have c : y < 0 := of_decide_eq_true c
            omega
          refine ⟨_, rfl, _, rfl, r, _, _, _, rfl, rfl, SqT.of er4, aj, _, rfl, _, _, rfl, rfl, _, rfl, ite2 (fun c2 => no g4 (badY fun z => ?_)) (fun c2 => n4 _ _ ⟨rfl, rfl, ?_, ?_⟩)⟩
          · have c2 : (n : Int) ≤ y := of_decide_eq_true c2
            omega
          · have c : ¬ y < 0 := fun z => c (decide_eq_true z)
            omega
          · have c2 : ¬ (n : Int) ≤ y := fun z => c2 (decide_eq_true z)
            omega
        rintro σ' H5 ⟨rfl, rfl, y0, y1⟩
        obtain ⟨p, hp⟩ := Int.eq_ofNat_of_zero_le y0
        have pn : p < n := by omega
        obtain ⟨x1, a1, b1, c1, d1⟩ := w4.item pn
        have lfj : ∀ p, (Fj j p).length ≤ 2002 := fun p => by
          have := small i p
          show (F i p ++ _).length ≤ 2002
          rw [List.length_append, List.length_append]
          have h1 : (if 1 ≤ j ∧ u = (p : Int) then [V.int (2 * (i : Int))] else []).length ≤ 1 := by split <;> simp
          have h2 : (if 2 ≤ j ∧ v = (p : Int) then [V.int (2 * (i : Int) + 1)] else []).length ≤ 1 := by split <;> simp
          omega
        refine ⟨_, rfl, _, rfl, _, rfl, r, _, _, _, rfl, rfl, SqT.of er4, aj, D, _, _, .ref x1, rfl, rfl, SqL.of w4.at_, by rw [hp]; exact d1, .inl ⟨rfl, _, SqL.of b1⟩, _, rfl, _, _, rfl, rfl, .inl ⟨by decide, by decide⟩, _, rfl, _, _, rfl, rfl, x1, _, _, rfl, rfl, b1, ?_, ⟨_, rfl⟩, g4.fresh c1 _, ?_, ?_, ?_, ?_⟩
        · exact Nat.lt_of_le_of_lt (lfj p) (by decide)
        · have w5 := w4.put a1 (Fj j p ++ [V.int (2 * (i : Int) + (0 + (j : Int)))])
          have e : (fun z => if z = p then Fj j p ++ [V.int (2 * (i : Int) + (0 + (j : Int)))] else Fj j z) = Fj (j + 1) := by
            funext z
            by_cases hj0 : j = 0
            · have yu : y = u := if_pos hj0
              rw [yu] at hp
              subst hj0
              by_cases hz : z = p
              · subst hz
                rw [if_pos rfl]
                simp [Fj, hp]
              · rw [if_neg hz]
                have : u ≠ (z : Int) := by omega
                simp [Fj, this]
            · have yv : y = v := if_neg hj0
              rw [yv] at hp
              have hj1 : j = 1 := by omega
              subst hj1
              by_cases hz : z = p
              · subst hz
                rw [if_pos rfl]
                simp [Fj, hp]
              · rw [if_neg hz]
                have : v ≠ (z : Int) := by omega
                simp [Fj, this]
          rw [e] at w5
          exact w5
        · rw [upd_ne (show r ≠ x1 from fun z => by rw [z, b1] at er4; cases er4)]; exact er4
        · intro _
          by_cases h0 : j = 0
          · have : y = u := if_pos h0
            omega
          · exact hu (by omega)
        · intro h2
          have h0 : j ≠ 0 := by omega
          have : y = v := if_neg h0
          omega
      · rintro σ H4 ⟨⟨v7', rfl⟩, g4, w4, er4, hu, hv⟩
        refine ⟨⟨_, _, _, rfl⟩, g4, ?_, ?_⟩
        · have e : Fj 2 = F (i + 1) := by
            funext p
            show _ = (AW.endsAt (ts.take (i + 1)) p).map V.int
            rw [htk, AW.endsAt_snoc, hlt, List.map_append, List.map_append]
            show F i p ++ _ = F i p ++ _
            congr 1
            congr 1
            · by_cases h : u = (p : Int) <;> simp [h]
            · by_cases h : v = (p : Int) <;> simp [h]
          rw [e] at w4; exact w4
        · intro t' ht'
          rw [htk] at ht'
          rcases List.mem_append.mp ht' with h | h
          · exact hin t' h
          · rw [List.mem_singleton.mp h]; exact ⟨hu (by decide), hv (by decide)⟩
    · rintro σ H2 ⟨h1, g2, w2, hin⟩
      rw [List.length_map, e2] at w2 hin
      rw [List.take_length] at hin
      exact n3 _ _ ⟨h1, g2, w2, hin⟩
  rintro σ' H2 ⟨⟨v5, v6, v7, rfl⟩, g2, w2, hin⟩
  have eF : F ts.length = fun p : Nat => (AW.endsAt ts p).map V.int := by funext p; show (AW.endsAt (ts.take _) p).map V.int = _; rw [List.take_length]
  rw [eF] at w2
  refine viaN (fun σ' H3 => (∃ v8, σ' = [some (.ref wa), some (vn n), some (.ref tA), some (.ref oA), some (.ref D), v5, v6, v7, v8]) ∧ Same H2 H3 ∧ AW.Fit ts os) (fun N n3 => ?_) ?_
  · refine ⟨_, rfl, (n : Int), rfl, by omega, by omega, for_range (n := n) (lo := 0) (fun k σ H3 => (∃ v8, σ = [some (.ref wa), some (vn n), some (.ref tA), some (.ref oA), some (.ref D), v5, v6, v7, v8]) ∧ Same H2 H3 ∧ ∀ (i : Nat) o, i < k → os[i]? = some o → o.length ≤ 4 ∧ o.Perm (AW.endsAt ts i)) ⟨⟨_, rfl⟩, Same.refl _, fun i o h => by omega⟩ ?_ ?_⟩
    · rintro i σ H3 hi ⟨⟨v8, rfl⟩, g3, ih⟩
      have g13 := g2.trans g3
      obtain ⟨x1, a1, b1, c1, d1⟩ := w2.item hi
      have ei : os[i]? = some os[i] := List.getElem?_eq_getElem (by omega)
      obtain ⟨oa, f1, f2⟩ := o3 i _ ei
      have io : atI (orr.map V.ref) (0 + (i : Int)) = some (.ref oa) := by rw [Int.zero_add]; exact atI_nat (by rw [List.getElem?_map, f1]; rfl)
      have ie : atI (rr.map V.ref) (0 + (i : Int)) = some (.ref x1) := by rw [Int.zero_add]; exact d1
      have bad : ¬ (os[i].length ≤ 4 ∧ os[i].Perm (AW.endsAt ts i)) → ¬ AW.IsMap n ts os := fun z im => z (im.2.2.2.1 i _ ei)
      refine ⟨_, rfl, _, rfl, D, _, _, _, rfl, rfl, SqL.of (g3 _ _ w2.at_), ie, x1, _, rfl, .inl (SqL.of (g3 _ _ b1)), _, _, rfl, rfl, _, rfl, ite2 (fun c => iteT (no g13 (bad fun z => ?_))) (fun c => ?_)⟩
      · have c : (4 : Int) < ((((AW.endsAt ts i).map V.int).length : Nat) : Int) := of_decide_eq_true c
        rw [List.length_map] at c
        have := z.2.length_eq
        omega
      have c4 : (AW.endsAt ts i).length ≤ 4 := by
        have c : ¬ (4 : Int) < ((((AW.endsAt ts i).map V.int).length : Nat) : Int) := fun z => c (decide_eq_true z)
        rw [List.length_map] at c
        omega
      refine ⟨_, rfl, _, rfl, oA, _, _, _, rfl, rfl, SqL.of (g13 _ _ o1), io, oa, os[i], rfl, SqL.of (g13 _ _ f2), ob _ (List.getElem_mem (by omega)), fun la na hla pa ua => ?_⟩
      have g4 := same_new hla (.lst (na.map V.int))
      refine ⟨_, rfl, _, rfl, D, _, _, _, rfl, rfl, SqL.of (g4 _ _ (g3 _ _ w2.at_)), ie, x1, AW.endsAt ts i, rfl, SqL.of (g4 _ _ (g3 _ _ b1)), by omega, fun lb nb hlb pb ub => ?_⟩
      have g5 := same_new hlb (.lst (nb.map V.int))
      refine ⟨_, _, bd_ints (g5 _ _ upd_same), bd_ints upd_same, shaped_ints _, shaped_ints _, _, rfl, ?_⟩
      rw [eqv_intsL]
      by_cases e : na = nb
      · refine iteFb (by simp [e]) ⟨⟨_, rfl⟩, g3.trans (g4.trans g5), fun j o hj ho => ?_⟩
        by_cases h : j < i
        · exact ih j o h ho
        · have : j = i := by omega
          subst this
          rw [ei] at ho; cases ho
          have pp : os[j].Perm (AW.endsAt ts j) := pa.symm.trans (by rw [e]; exact pb)
          exact ⟨by rw [pp.length_eq]; exact c4, pp⟩
      · refine iteTb (by simp [e]) (no (g13.trans (g4.trans g5)) (bad fun z => e ?_))
        exact AW.sorted_eq (pa.trans (z.2.trans pb.symm)) ua ub
    · rintro σ H3 ⟨⟨v8, rfl⟩, g3, ih⟩
      refine n3 _ _ ⟨⟨_, rfl⟩, g3, fun i o ho => ih i o ?_ ho⟩
      rw [← ol]; exact (List.getElem?_eq_some_iff.mp ho).1
  rintro σ' H3 ⟨⟨v8, rfl⟩, g3, hfit⟩
  have g13 := g2.trans g3
  refine ⟨_, rfl, _, rfl, n, tA, ts, rfl, hT.same g13, hin, n1, m2, tl, fun b H4 g4 hb => q b H4 (g13.trans g4) ?_⟩
  rw [hb]
  exact ⟨fun z => ⟨⟨⟨by omega, by omega⟩, t1, t4⟩, hin, by rw [ol], hfit, z⟩, fun z => z.2.2.2.2⟩
end K74

namespace L2
open PySem PyProof.Rows
def dTI (ts : AW.Ts) : List PyData := ts.map fun t => .tuple [.int t.1, .int t.2]
def dOI (os : AW.Os) : List PyData := os.map fun l => .list (l.map PyData.int)
def dWI (m : Int) (ts : AW.Ts) (os : AW.Os) : PyData := .tuple [.int m, .list (dTI ts), .list (dOI os)]
theorem bds_of {K : PySem.W.Frag} {H : Hp} : ∀ (xs : List V) (ds : List PyData), xs.length = ds.length → (∀ (i : Nat) x d, xs[i]? = some x → ds[i]? = some d → Bd K H x d) → Bds K H xs ds
  | [], [], _, _ => .nil
  | [], _ :: _, h, _ => by cases h
  | _ :: _, [], h, _ => by cases h
  | x :: xs, d :: ds, h, f => .cons (f 0 x d rfl rfl) (bds_of xs ds (by simpa using h) fun i x' d' h1 h2 => f (i + 1) x' d' h1 h2)
theorem bd_webI {K : PySem.W.Frag} {H : Hp} {w : Addr} {m : Int} {ts : AW.Ts} {os : AW.Os} (h : WebI H w m ts os) : Bd K H (.ref w) (dWI m ts os) := by
  obtain ⟨tA, oA, h1, ⟨tr, t1, t2, t3⟩, ⟨rr, o1, o2, o3⟩⟩ := h
  refine .tup (SqT.of h1) (.cons (.int _) (.cons (.lst (SqL.of t1) (bds_of _ _ (by rw [dTI, List.length_map, List.length_map, t2]) fun i x d hx hd => ?_)) (.cons (.lst (SqL.of o1) (bds_of _ _ (by rw [dOI, List.length_map, List.length_map, o2]) fun i x d hx hd => ?_)) .nil)))
  · obtain ⟨t, r, e1, rfl, e2⟩ := TsI.nth (a := tA) t2 t3 hx
    rw [dTI, List.getElem?_map, e1] at hd
    cases hd
    exact .tup (SqT.of e2) (.cons (.int _) (.cons (.int _) .nil))
  · obtain ⟨l, r, e1, rfl, e2⟩ := OsI.nth o2 o3 hx
    rw [dOI, List.getElem?_map, e1] at hd
    cases hd
    exact bd_ints e2
theorem webI_shaped (m : Int) (ts : AW.Ts) (os : AW.Os) : SeqAt.shaped (dWI m ts os) = true := by
  have h1 : PyData.canLayAll0 (dTI ts) = true ∧ PyData.depthAll (dTI ts) ≤ 3 := lay_all 3 fun d hd => by
    obtain ⟨n, _, rfl⟩ := List.mem_map.mp hd
    exact ⟨rfl, by simp [PyData.depth, PyData.depthAll]⟩
  have h2 : PyData.canLayAll0 (dOI os) = true ∧ PyData.depthAll (dOI os) ≤ 3 := lay_all 3 fun d hd => by
    obtain ⟨n, _, rfl⟩ := List.mem_map.mp hd
    have := lay_ints n
    exact ⟨this.1, by rw [PyData.depth]; omega⟩
  have h : PyData.canLayAll0 [PyData.int m, .list (dTI ts), .list (dOI os)] = true ∧ PyData.depthAll [PyData.int m, .list (dTI ts), .list (dOI os)] ≤ 4 := lay_all 4 fun d hd => by
    simp only [List.mem_cons, List.not_mem_nil, or_false] at hd
    rcases hd with rfl | rfl | rfl
    · exact ⟨rfl, by simp [PyData.depth]⟩
    · exact ⟨h1.1, by rw [PyData.depth]; omega⟩
    · exact ⟨h2.1, by rw [PyData.depth]; omega⟩
  unfold SeqAt.shaped
  rw [Bool.and_eq_true]
  refine ⟨h.1, decide_eq_true ?_⟩
  unfold dWI
  rw [PyData.depth]
  omega
theorem webI_eqv (m : Int) (ts : AW.Ts) (os : AW.Os) : PyData.eqv (dWI m ts os) (dWI m ts os) = true := SeqAt.eqv_refl _ (SeqAt.canLay_of_shaped (webI_shaped m ts os))
end L2

namespace K74
open PySem L2 PyProof.Rows TX
variable {P : Program} {w : World} {K : PySem.W.Frag} {mg : Str → Option Value} {base : Heap} {t : Adr}
def spKind (C : Addr) (m : String) : Sp := fun vs H Q _ => ∃ x : Addr, vs = [.ref x] ∧ H x = some (excO C x) ∧ ∀ H', Same H H' → Q (.str (Str.ofString m)) H'
theorem ok_kindx (T : Txt K mg t) : FnOk P w K mg base CX0 1 t.a_l_kind t.d_l_kind ["_law_kept"] (spKind t.c_NoMap "map") := by
  refine T.F_l_kind.ok sc_l_kind (fun vs H Q E h => ?_) (fun cdv A outer s H vs Q E hr h => ?_)
  · obtain ⟨x, rfl, _⟩ := h; rfl
  obtain ⟨x, rfl, hx, q⟩ := h
  have nd := sc_l_kind.nd
  refine ⟨_, (pss_cons (ps_if (pt_cmpR op_isN (pv 0) pe_non (nomark _)) (pss_one (ps_ret pe_str)) pss_nil)
    (pss_cons (ps_set (i := 1) nd rfl (Or.inl rfl) (pe_lst (pa_cons (pe_callB call_isiX rfl T.z_isinstance boot_isinstance (pa_cons (pv 0) (pa_cons (pe_glob (v := .ref t.c_NoText) rfl T.m_NoText rfl) pa_nil))) (pa_cons (pe_callB call_isiX rfl T.z_isinstance boot_isinstance (pa_cons (pv 0) (pa_cons (pe_glob (v := .ref t.c_NoMap) rfl T.m_NoMap rfl) pa_nil))) (pa_cons (pe_callB call_isiX rfl T.z_isinstance boot_isinstance (pa_cons (pv 0) (pa_cons (pe_glob (v := .ref t.c_NoPicture) rfl T.m_NoPicture rfl) pa_nil))) (pa_cons (pe_callB call_isiX rfl T.z_isinstance boot_isinstance (pa_cons (pv 0) (pa_cons (pe_glob (v := .ref t.c_NoLaid) rfl T.m_NoLaid rfl) pa_nil))) pa_nil))))))
    (pss_cons (ps_if (PW.pt (pw_or (pt_truth (pe_callB call_isiXs rfl T.z_isinstance boot_isinstance (pa_cons (pv 0) (pa_cons (pe_tup (pa_cons (pe_glob (v := .ref t.c_NotFlat) rfl T.m_NotFlat rfl) (pa_cons (pe_glob (v := .ref t.c_NoLand) rfl T.m_NoLand rfl) (pa_cons (pe_glob (v := .ref t.c_NoNet) rfl T.m_NoNet rfl) (pa_cons (pe_glob (v := .ref t.c_NoShape) rfl T.m_NoShape rfl) (pa_cons (pe_glob (v := .ref t.c_NoRow) rfl T.m_NoRow rfl) (pa_cons (pe_glob (v := .ref t.c_NoThing) rfl T.m_NoThing rfl) pa_nil))))))) pa_nil))) (fun _ => rfl)) (pw_or1 (pt_not (pt_truth (pe_callB call_isiX rfl T.z_isinstance boot_isinstance (pa_cons (pv 0) (pa_cons (pe_bltn (v := .ty "ValueError") rfl T.z_ValueError PyProof.Rows.Boot.«ValueError» rfl) pa_nil))) (fun _ => rfl)))))) (pss_one (ps_ret pe_str)) pss_nil)
    (pss_cons (ps_if (pt_cmpR op_ne (pe_bm PySem.F.plainAttrs_list PySem.F.slot_list_count PySem.F.type_list_count mt_countV (pv 1) (pa_cons pe_bl pa_nil)) pe_int (nomark _)) (pss_one (ps_ret pe_str)) pss_nil)
    (pss_one (ps_ret (pe_ix ix_list (pe_lst (pa_cons pe_str (pa_cons pe_str (pa_cons pe_str (pa_cons pe_str pa_nil))))) (pe_bm PySem.F.plainAttrs_list PySem.F.slot_list_index PySem.F.type_list_index mt_indexV (pv 1) (pa_cons pe_bl pa_nil)) (fun _ _ => rfl)))))))), ?_⟩
  refine ⟨_, rfl, rfl, _, rfl, iteF ?_⟩
  refine ⟨_, rfl, x, t.c_NoMap, _, _, false, rfl, .inl ⟨_, rfl, rfl⟩, hx, T.x_K, (T.x_NoText).one, ?_⟩
  refine ⟨_, rfl, x, t.c_NoMap, _, _, true, rfl, .inl ⟨_, rfl, rfl⟩, hx, T.x_K, kit_self, ?_⟩
  refine ⟨_, rfl, x, t.c_NoMap, _, _, false, rfl, .inl ⟨_, rfl, rfl⟩, hx, T.x_K, (T.x_NoPicture).one, ?_⟩
  refine ⟨_, rfl, x, t.c_NoMap, _, _, false, rfl, .inl ⟨_, rfl, rfl⟩, hx, T.x_K, (T.x_NoLaid).one, ?_⟩
  refine ⟨(by show 4 ≤ sizeLine; decide), fun l hl => ?_⟩
  have g1 := same_new hl (.lst [.bl false, .bl true, .bl false, .bl false])
  refine ⟨_, rfl, (by show 6 ≤ sizeLine; decide), fun tp htp => ?_⟩
  have g2 := g1.trans (same_new htp (.tup ([t.c_NotFlat, t.c_NoLand, t.c_NoNet, t.c_NoShape, t.c_NoRow, t.c_NoThing].map V.ref)))
  refine ⟨x, t.c_NoMap, tp, [t.c_NotFlat, t.c_NoLand, t.c_NoNet, t.c_NoShape, t.c_NoRow, t.c_NoThing], false, rfl, g2 _ _ hx, upd_same, T.x_K, kitAny_none ?_, _, rfl, iteF ?_⟩
  · simp only [List.mem_cons, List.not_mem_nil, or_false]
    rintro D (rfl | rfl | rfl | rfl | rfl | rfl)
    · exact T.x_NotFlat
    · exact T.x_NoLand
    · exact T.x_NoNet
    · exact T.x_NoShape
    · exact T.x_NoRow
    · exact T.x_NoThing
  refine ⟨_, rfl, x, t.c_NoMap, _, _, true, rfl, .inr ⟨_, rfl, rfl⟩, g2 _ _ hx, T.x_K, kit_ve T.x_ve, _, rfl, iteF ?_⟩
  have el : (upd (upd H l (.lst [.bl false, .bl true, .bl false, .bl false])) tp (.tup ([t.c_NotFlat, t.c_NoLand, t.c_NoNet, t.c_NoShape, t.c_NoRow, t.c_NoThing].map V.ref))) l = some (.lst [.bl false, .bl true, .bl false, .bl false]) := (same_new htp _) _ _ upd_same
  refine ⟨_, rfl, .inl ⟨rfl, _, SqL.of el⟩, l, _, _, rfl, rfl, el, rfl, rfl, rfl, _, rfl, iteFb (by decide) ?_⟩
  refine ⟨(by show 4 ≤ sizeLine; decide), fun p hp => ?_⟩
  have g3 := g2.trans (same_new hp (.lst [.str (Str.ofString "text"), .str (Str.ofString "map"), .str (Str.ofString "picture"), .str (Str.ofString "laid")]))
  refine ⟨_, rfl, .inl ⟨rfl, _, SqL.of ((same_new hp _) _ _ el)⟩, l, _, _, 1, rfl, rfl, (same_new hp _) _ _ el, rfl, rfl, ⟨_, rfl, rfl⟩, ?_, p, _, _, .str (Str.ofString "map"), rfl, rfl, SqL.of upd_same, rfl, q _ g3⟩
  intro m y hm hy
  match m, hm, hy with
  | 0, _, hy => cases hy; rfl
theorem ok_kindy (T : Txt K mg t) : FnOk P w K mg base CX0 1 t.a_l_kind t.d_l_kind ["_law_kept"] (spKind t.c_NoText "text") := by
  refine T.F_l_kind.ok sc_l_kind (fun vs H Q E h => ?_) (fun cdv A outer s H vs Q E hr h => ?_)
  · obtain ⟨x, rfl, _⟩ := h; rfl
  obtain ⟨x, rfl, hx, q⟩ := h
  have nd := sc_l_kind.nd
  refine ⟨_, (pss_cons (ps_if (pt_cmpR op_isN (pv 0) pe_non (nomark _)) (pss_one (ps_ret pe_str)) pss_nil)
    (pss_cons (ps_set (i := 1) nd rfl (Or.inl rfl) (pe_lst (pa_cons (pe_callB call_isiX rfl T.z_isinstance boot_isinstance (pa_cons (pv 0) (pa_cons (pe_glob (v := .ref t.c_NoText) rfl T.m_NoText rfl) pa_nil))) (pa_cons (pe_callB call_isiX rfl T.z_isinstance boot_isinstance (pa_cons (pv 0) (pa_cons (pe_glob (v := .ref t.c_NoMap) rfl T.m_NoMap rfl) pa_nil))) (pa_cons (pe_callB call_isiX rfl T.z_isinstance boot_isinstance (pa_cons (pv 0) (pa_cons (pe_glob (v := .ref t.c_NoPicture) rfl T.m_NoPicture rfl) pa_nil))) (pa_cons (pe_callB call_isiX rfl T.z_isinstance boot_isinstance (pa_cons (pv 0) (pa_cons (pe_glob (v := .ref t.c_NoLaid) rfl T.m_NoLaid rfl) pa_nil))) pa_nil))))))
    (pss_cons (ps_if (PW.pt (pw_or (pt_truth (pe_callB call_isiXs rfl T.z_isinstance boot_isinstance (pa_cons (pv 0) (pa_cons (pe_tup (pa_cons (pe_glob (v := .ref t.c_NotFlat) rfl T.m_NotFlat rfl) (pa_cons (pe_glob (v := .ref t.c_NoLand) rfl T.m_NoLand rfl) (pa_cons (pe_glob (v := .ref t.c_NoNet) rfl T.m_NoNet rfl) (pa_cons (pe_glob (v := .ref t.c_NoShape) rfl T.m_NoShape rfl) (pa_cons (pe_glob (v := .ref t.c_NoRow) rfl T.m_NoRow rfl) (pa_cons (pe_glob (v := .ref t.c_NoThing) rfl T.m_NoThing rfl) pa_nil))))))) pa_nil))) (fun _ => rfl)) (pw_or1 (pt_not (pt_truth (pe_callB call_isiX rfl T.z_isinstance boot_isinstance (pa_cons (pv 0) (pa_cons (pe_bltn (v := .ty "ValueError") rfl T.z_ValueError PyProof.Rows.Boot.«ValueError» rfl) pa_nil))) (fun _ => rfl)))))) (pss_one (ps_ret pe_str)) pss_nil)
    (pss_cons (ps_if (pt_cmpR op_ne (pe_bm PySem.F.plainAttrs_list PySem.F.slot_list_count PySem.F.type_list_count mt_countV (pv 1) (pa_cons pe_bl pa_nil)) pe_int (nomark _)) (pss_one (ps_ret pe_str)) pss_nil)
    (pss_one (ps_ret (pe_ix ix_list (pe_lst (pa_cons pe_str (pa_cons pe_str (pa_cons pe_str (pa_cons pe_str pa_nil))))) (pe_bm PySem.F.plainAttrs_list PySem.F.slot_list_index PySem.F.type_list_index mt_indexV (pv 1) (pa_cons pe_bl pa_nil)) (fun _ _ => rfl)))))))), ?_⟩
  refine ⟨_, rfl, rfl, _, rfl, iteF ?_⟩
  refine ⟨_, rfl, x, t.c_NoText, _, _, true, rfl, .inl ⟨_, rfl, rfl⟩, hx, T.y_K, kit_self, ?_⟩
  refine ⟨_, rfl, x, t.c_NoText, _, _, false, rfl, .inl ⟨_, rfl, rfl⟩, hx, T.y_K, (T.y_NoMap).one, ?_⟩
  refine ⟨_, rfl, x, t.c_NoText, _, _, false, rfl, .inl ⟨_, rfl, rfl⟩, hx, T.y_K, (T.y_NoPicture).one, ?_⟩
  refine ⟨_, rfl, x, t.c_NoText, _, _, false, rfl, .inl ⟨_, rfl, rfl⟩, hx, T.y_K, (T.y_NoLaid).one, ?_⟩
  refine ⟨(by show 4 ≤ sizeLine; decide), fun l hl => ?_⟩
  have g1 := same_new hl (.lst [.bl true, .bl false, .bl false, .bl false])
  refine ⟨_, rfl, (by show 6 ≤ sizeLine; decide), fun tp htp => ?_⟩
  have g2 := g1.trans (same_new htp (.tup ([t.c_NotFlat, t.c_NoLand, t.c_NoNet, t.c_NoShape, t.c_NoRow, t.c_NoThing].map V.ref)))
  refine ⟨x, t.c_NoText, tp, [t.c_NotFlat, t.c_NoLand, t.c_NoNet, t.c_NoShape, t.c_NoRow, t.c_NoThing], false, rfl, g2 _ _ hx, upd_same, T.y_K, kitAny_none ?_, _, rfl, iteF ?_⟩
  · simp only [List.mem_cons, List.not_mem_nil, or_false]
    rintro D (rfl | rfl | rfl | rfl | rfl | rfl)
    · exact T.y_NotFlat
    · exact T.y_NoLand
    · exact T.y_NoNet
    · exact T.y_NoShape
    · exact T.y_NoRow
    · exact T.y_NoThing
  refine ⟨_, rfl, x, t.c_NoText, _, _, true, rfl, .inr ⟨_, rfl, rfl⟩, g2 _ _ hx, T.y_K, kit_ve T.y_ve, _, rfl, iteF ?_⟩
  have el : (upd (upd H l (.lst [.bl true, .bl false, .bl false, .bl false])) tp (.tup ([t.c_NotFlat, t.c_NoLand, t.c_NoNet, t.c_NoShape, t.c_NoRow, t.c_NoThing].map V.ref))) l = some (.lst [.bl true, .bl false, .bl false, .bl false]) := (same_new htp _) _ _ upd_same
  refine ⟨_, rfl, .inl ⟨rfl, _, SqL.of el⟩, l, _, _, rfl, rfl, el, rfl, rfl, rfl, _, rfl, iteFb (by decide) ?_⟩
  refine ⟨(by show 4 ≤ sizeLine; decide), fun p hp => ?_⟩
  have g3 := g2.trans (same_new hp (.lst [.str (Str.ofString "text"), .str (Str.ofString "map"), .str (Str.ofString "picture"), .str (Str.ofString "laid")]))
  refine ⟨_, rfl, .inl ⟨rfl, _, SqL.of ((same_new hp _) _ _ el)⟩, l, _, _, 0, rfl, rfl, (same_new hp _) _ _ el, rfl, rfl, ⟨_, rfl, rfl⟩, ?_, p, _, _, .str (Str.ofString "text"), rfl, rfl, SqL.of upd_same, rfl, q _ g3⟩
  intro m y hm hy
  match m, hm, hy with
  | 0, hm, _ => exact absurd hm (by decide)
  | m + 1, hm, _ => exact absurd hm (by omega)
def spRight : Sp := fun vs H Q _ => ∃ (z : Str) (l : List Nat), vs = [.str z] ∧ z = sT l ∧ Fine l ∧ (∀ r ∈ rows l, r.length ≤ 60) ∧ ∀ H', Same H H' → Q (.bl true) H'
theorem good_len {W : List Rw} {m : Int} {ts : AW.Ts} {os : AW.Os} (h : Good W m ts os) (hr : ∀ r ∈ W, r.length ≤ 60) : (os.length : Int) = m ∧ 1 ≤ os.length ∧ os.length + ts.length ≤ W.length ∧ ∀ o ∈ os, o.length < 64 := by
  obtain ⟨wd, T, O, rfl, h1, h2, h3, h4, h5⟩ := h
  have e1 : O.length = os.length := by have := congrArg List.length h5; simpa using this
  have e2 : T.length = ts.length := by have := congrArg List.length h4; simpa using this
  have : O.length ≠ 0 := fun z => h3 (List.length_eq_zero_iff.mp z)
  refine ⟨by omega, by omega, by simp; omega, fun o ho => ?_⟩
  have : o.map some ∈ O.map (·.map endV) := h5 ▸ List.mem_map_of_mem ho
  obtain ⟨r, hr1, e⟩ := List.mem_map.mp this
  have el := congrArg List.length e
  rw [List.length_map, List.length_map] at el
  have := hr (rO r) (List.mem_cons_of_mem _ (List.mem_append_right _ (List.mem_map_of_mem hr1)))
  simp [rO] at this
  omega
theorem ok_right (T : Txt K mg t) : FnOk P w K mg base CX0 8 t.a_l_right t.d_l_right ["_law_text"] spRight := by
  have G_T := ok_rmT (P := P) (w := w) (base := base) T
  have G_M := ok_rmM (P := P) (w := w) (base := base) T
  have G_l_kindx := ok_kindx (P := P) (w := w) (base := base) T
  have G_l_kindy := ok_kindy (P := P) (w := w) (base := base) T
  have G_l_read := ok_read (P := P) (w := w) (base := base) T
  have G_l_is_map := ok_ism (P := P) (w := w) (base := base) T
  refine T.F_l_right.ok sc_l_right (fun vs H Q E h => ?_) (fun cdv A outer s H vs Q E hr h => ?_)
  · obtain ⟨z, l, rfl, _⟩ := h; rfl
  obtain ⟨z, l, rfl, rfl, hf, hw, q⟩ := h
  have nd := sc_l_right.nd
  have rl := rows_len hf.n
  by_cases hb : ∃ m ts os, Good (rows l) m ts os ∧ ¬ AW.IsMap m ts os
  · obtain ⟨m, ts, os, hG, hM⟩ := hb
    obtain ⟨l1, l2, l3, l4⟩ := good_len hG hw
    refine ⟨_, (pss_cons (ps_set (i := 1) nd rfl (Or.inl rfl) pe_non)
    (pss_cons (ps_set (i := 2) nd rfl (Or.inl rfl) pe_non)
    (pss_cons (ps_tryAt (i := 3) (E := fun _ _ H2 => Same H H2) rfl rfl rfl rfl T.m_BendError rfl T.x_up.exm nd rfl rfl (fun pn xe σ hx => (pss_call (i := 2) G_M (hr.mono (by decide)) rfl T.m_read_map T.k_read_map T.b_read_map hx (pa_cons (pv 0) pa_nil) nd rfl rfl)) (fun pn xe e => (pss_one (ps_set (i := 1) nd rfl (Or.inl rfl) (pv 3)))))
    (pss_cons (ps_set (i := 4) nd rfl (Or.inl rfl) (pe_call G_l_read (hr.mono (by decide)) rfl T.m_l_read T.k_l_read T.b_l_read .nil pass0 (pa_cons (pv 0) pa_nil)))
    (pss_cons (ps_if (pt_cmpR op_isN (pv 4) pe_non (nomark _)) (pss_one (ps_ret (pe_cmpR op_eq (pe_call G_l_kindx (hr.mono (by decide)) rfl T.m_l_kind T.k_l_kind T.b_l_kind .nil pass0 (pa_cons (pv 1) pa_nil)) pe_str (nomark _)))) pss_nil)
    (pss_cons (ps_if (pt_not (pt_truth (pe_call G_l_is_map (hr.mono (by decide)) rfl T.m_l_is_map T.k_l_is_map T.b_l_is_map .nil pass0 (pa_cons (pv 4) pa_nil)) (fun _ => rfl))) (pss_one (ps_ret (pe_cmpR op_eq (pe_call G_l_kindx (hr.mono (by decide)) rfl T.m_l_kind T.k_l_kind T.b_l_kind .nil pass0 (pa_cons (pv 1) pa_nil)) pe_str (nomark _)))) pss_nil)
    (pss_one (ps_ret (pe_and (pe_cmpR op_isN (pv 1) pe_non (nomark _)) (pe_one (pe_cmpR (op_eqD hr.units) (pv 2) (pv 4) (nomark _)))))))))))), ?_⟩
    refine ⟨?_, ?_⟩
    · exact ⟨_, rfl, _, l, rfl, rfl, hf, m, ts, os, hG, hM, fun x H1 g1 => g1⟩
    · intro x H1 g1 hx
      have g2 := g1.trans (same_new hx (excO t.c_NoMap x))
      refine ⟨_, rfl, ?_⟩
      refine ⟨_, rfl, _, l, rfl, rfl, hf, fun m' ts' os' hG' r H3 g3 hW => ?_, fun z => absurd ⟨m, ts, os, hG⟩ z⟩
      obtain ⟨rfl, rfl, rfl⟩ := hG'.one hG
      refine ⟨_, rfl, rfl, _, rfl, iteF ?_⟩
      refine ⟨_, rfl, r, os'.length, ts', os', rfl, by rw [l1]; exact hW, by omega, by omega, by omega, rfl, l4, fun b H4 g4 hb => ?_⟩
      rw [l1] at hb
      have hb0 : b = false := by
        cases b with
        | false => rfl
        | true => exact absurd (hb.mp rfl) hM
      subst hb0
      refine ⟨_, rfl, iteT ⟨_, rfl, x, rfl, (g3.trans g4) _ _ upd_same, fun H5 g5 => ⟨rfl, ?_⟩⟩⟩
      exact q _ (g2.trans (g3.trans (g4.trans g5)))
  · have hI : ∀ m ts os, Good (rows l) m ts os → AW.IsMap m ts os := fun m ts os h => Classical.byContradiction fun z => hb ⟨m, ts, os, h, z⟩
    refine ⟨_, (pss_cons (ps_set (i := 1) nd rfl (Or.inl rfl) pe_non)
    (pss_cons (ps_set (i := 2) nd rfl (Or.inl rfl) pe_non)
    (pss_cons (ps_tryAt (i := 3) (E := fun _ _ H2 => Same H H2 ∧ ¬ ∃ m ts os, Good (rows l) m ts os) rfl rfl rfl rfl T.m_BendError rfl T.y_up.exm nd rfl rfl (fun pn xe σ hx => (pss_call (i := 2) G_T (hr.mono (by decide)) rfl T.m_read_map T.k_read_map T.b_read_map hx (pa_cons (pv 0) pa_nil) nd rfl rfl)) (fun pn xe e => (pss_one (ps_set (i := 1) nd rfl (Or.inl rfl) (pv 3)))))
    (pss_cons (ps_set (i := 4) nd rfl (Or.inl rfl) (pe_call G_l_read (hr.mono (by decide)) rfl T.m_l_read T.k_l_read T.b_l_read .nil pass0 (pa_cons (pv 0) pa_nil)))
    (pss_cons (ps_if (pt_cmpR op_isN (pv 4) pe_non (nomark _)) (pss_one (ps_ret (pe_cmpR op_eq (pe_call G_l_kindy (hr.mono (by decide)) rfl T.m_l_kind T.k_l_kind T.b_l_kind .nil pass0 (pa_cons (pv 1) pa_nil)) pe_str (nomark _)))) pss_nil)
    (pss_cons (ps_if (pt_not (pt_truth (pe_call G_l_is_map (hr.mono (by decide)) rfl T.m_l_is_map T.k_l_is_map T.b_l_is_map .nil pass0 (pa_cons (pv 4) pa_nil)) (fun _ => rfl))) (pss_one (ps_ret (pe_cmpR op_eq (pe_call G_l_kindy (hr.mono (by decide)) rfl T.m_l_kind T.k_l_kind T.b_l_kind .nil pass0 (pa_cons (pv 1) pa_nil)) pe_str (nomark _)))) pss_nil)
    (pss_one (ps_ret (pe_and (pe_cmpR op_isN (pv 1) pe_non (nomark _)) (pe_one (pe_cmpR (op_eqD hr.units) (pv 2) (pv 4) (nomark _)))))))))))), ?_⟩
    refine ⟨?_, ?_⟩
    · refine ⟨_, rfl, _, l, rfl, rfl, hf, fun m ts os hG => ⟨hI m ts os hG, fun r H1 g1 hW => ?_⟩, fun z x H1 g1 => ⟨g1, z⟩⟩
      obtain ⟨l1, l2, l3, l4⟩ := good_len hG hw
      refine ⟨_, rfl, _, l, rfl, rfl, hf, fun m' ts' os' hG' r' H3 g3 hW' => ?_, fun z => absurd ⟨m, ts, os, hG⟩ z⟩
      obtain ⟨rfl, rfl, rfl⟩ := hG'.one hG
      refine ⟨_, rfl, rfl, _, rfl, iteF ?_⟩
      refine ⟨_, rfl, r', os'.length, ts', os', rfl, by rw [l1]; exact hW', by omega, by omega, by omega, rfl, l4, fun b H4 g4 hb => ?_⟩
      rw [l1] at hb
      have hb0 : b = true := hb.mpr (hI _ _ _ hG')
      subst hb0
      refine ⟨_, rfl, iteF ⟨_, rfl, rfl, _, rfl, iteT ⟨_, rfl, _, rfl, _, _, bd_webI (hW.same (g3.trans g4)), bd_webI (hW'.same g4), webI_shaped _ _ _, webI_shaped _ _ _, ?_⟩⟩⟩
      rw [webI_eqv]
      exact q _ (g1.trans (g3.trans g4))
    · rintro x H1 ⟨g1, hN⟩ hx
      have g2 := g1.trans (same_new hx (excO t.c_NoText x))
      refine ⟨_, rfl, ?_⟩
      refine ⟨_, rfl, _, l, rfl, rfl, hf, fun m' ts' os' hG' => absurd ⟨m', ts', os', hG'⟩ hN, fun _ H3 g3 => ?_⟩
      refine ⟨_, rfl, rfl, _, rfl, iteT ⟨_, rfl, x, rfl, g3 _ _ upd_same, fun H5 g5 => ⟨rfl, ?_⟩⟩⟩
      exact q _ (g2.trans (g3.trans g5))
end K74

namespace L2
open PySem PySem.Spec PyProof.Rows
theorem ints_insA (gs : List Int) (i : Nat) (x : Int) : insAt (gs.map V.int) i (.int x) = (insAt gs i x).map V.int := by unfold insAt; simp [List.map_take, List.map_drop]
theorem vns_filter (n : Nat) (p : Nat → Bool) : (((List.range n).filter p).map fun i : Nat => V.int (0 + (i : Int))) = vns ((List.range n).filter p) := List.map_congr_left fun i _ => by rw [Int.zero_add]
theorem at_pick {S : List Nat} (h : 0 < S.length) (m : Int) : ∃ one : Nat, one ∈ S ∧ atI (vns S) (m % (((vns S).length : Nat) : Int)) = some (vn one) := by
  rw [List.length_map]
  have b0 : 0 ≤ m % ((S.length : Nat) : Int) := Int.emod_nonneg _ (by omega)
  have b1 : m % ((S.length : Nat) : Int) < _ := Int.emod_lt_of_pos m (show (0 : Int) < ((S.length : Nat) : Int) by omega)
  have hj : (m % ((S.length : Nat) : Int)).toNat < S.length := by omega
  refine ⟨_, List.getElem_mem hj, ?_⟩
  have := at_vns hj (k := m % ((S.length : Nat) : Int)) (by omega)
  rw [this, List.getD_eq_getElem?_getD, List.getElem?_eq_getElem hj]
  rfl
end L2
namespace K74
open PySem L2 PyProof.Rows TX
variable {P : Program} {w : World} {K : PySem.W.Frag} {mg : Str → Option Value} {base : Heap} {t : Adr}
def spHung : Sp := fun vs H Q _ => ∃ (oa x : Addr) (rr : List Addr) (l : List Int) (e : Int) (p : Nat) (m : Int), vs = [.ref oa, .int e, vn p, .int m] ∧ H oa = some (.lst (rr.map V.ref)) ∧ rr[p]? = some x ∧ H x = some (.lst (l.map V.int)) ∧ l.length ≤ 1000 ∧ ∀ i, Q .non (upd H x (.lst ((insAt l i e).map V.int)))
theorem ok_hung (T : Txt K mg t) : FnOk P w K mg base CX0 1 t.a_l_hung t.d_l_hung ["_law_orders", "_law_end_here", "_law_place", "_law_number_here"] spHung := by
  refine T.F_l_hung.ok sc_l_hung (fun vs H Q E h => ?_) (fun cdv A outer s H vs Q E hr h => ?_)
  · obtain ⟨oa, x, rr, l, e, p, m, rfl, _⟩ := h; rfl
  obtain ⟨oa, x, rr, l, e, p, m, rfl, h1, h2, h3, hl, q⟩ := h
  refine ⟨_, (pss_one (ps_expr (pe_bm PySem.F.plainAttrs_list PySem.F.slot_list_insert PySem.F.type_list_insert mt_insert (pe_ix ix_list (pv 0) (pv 2) (fun _ _ => rfl)) (pa_cons (pe_op op_mod (pv 3) (pe_op op_add (pe_callB call_len_seq rfl T.z_len PySem.boot_len (pa_cons (pe_ix ix_list (pv 0) (pv 2) (fun _ _ => rfl)) pa_nil)) pe_int)) (pa_cons (pv 1) pa_nil))))), ?_⟩
  have ix : atI (rr.map V.ref) (p : Int) = some (.ref x) := atI_nat (by rw [List.getElem?_map, h2]; rfl)
  have b0 : 0 ≤ m % ((l.length : Int) + 1) := Int.emod_nonneg _ (by omega)
  have b1 : m % ((l.length : Int) + 1) < (l.length : Int) + 1 := Int.emod_lt_of_pos _ (by omega)
  refine ⟨_, rfl, _, rfl, oa, _, _, .ref x, rfl, rfl, SqL.of h1, ix, .inl ⟨rfl, _, SqL.of h3⟩, _, rfl, _, rfl, _, rfl, oa, _, _, .ref x, rfl, rfl, SqL.of h1, ix, x, _, rfl, .inl (SqL.of h3), _, _, rfl, rfl, _, _, rfl, rfl, ?_, _, rfl, x, _, (m % ((l.length : Int) + 1)).toNat, .int e, rfl, ?_, h3, ?_, ?_, ?_⟩
  · show (0 : Int) < (((l.map V.int).length : Nat) : Int) + 1
    omega
  · rw [List.length_map]
    exact congrArg (fun z => [V.int z, V.int e]) (show m % ((l.length : Int) + 1) = (((m % ((l.length : Int) + 1)).toNat : Nat) : Int) by omega)
  · rw [List.length_map]; omega
  · rw [List.length_map]; exact Nat.lt_of_le_of_lt hl (by decide)
  · rw [ints_insA]; exact q _
def spAny (K : PySem.W.Frag) : Sp := fun vs H Q _ => ∃ (a : Addr) (ns : List Int), vs = [.ref a] ∧ SqL K H a (ns.map V.int) ∧ ∀ (r : Addr) (n : Nat) (ts : AW.Ts) (os : AW.Os) (H' : Hp), Same H H' → WebI H' r n ts os → AW.IsMap n ts os → n ≤ 10 → ts.length ≤ 16 → Q (.ref r) H'
theorem ok_any (T : Txt K mg t) : FnOk P w K mg base CX0 3 t.a_l_any_map t.d_l_any_map ["_law_script"] (spAny K) := by
  have G_l_at := ok_at (P := P) (w := w) (base := base) T
  have G_l_mix := ok_mix (P := P) (w := w) (base := base) T
  have G_l_hung := ok_hung (P := P) (w := w) (base := base) T
  refine T.F_l_any_map.ok sc_l_any_map (fun vs H Q E h => ?_) (fun cdv A outer s H vs Q E hr h => ?_)
  · obtain ⟨a, ns, rfl, _⟩ := h; rfl
  obtain ⟨sa, ns, rfl, hS, q⟩ := h
  have nd := sc_l_any_map.nd
  have nd_l_place_l_orders : (["_law_place", "_law_orders"] : List Str).Nodup := by decide
  have nd_l_order : (["_law_order"] : List Str).Nodup := by decide
  have nd_l_place : (["_law_place"] : List Str).Nodup := by decide
  refine ⟨_, (pss_cons (ps_set (i := 1) nd rfl (Or.inl rfl) (pe_call G_l_mix (hr.mono (by decide)) rfl T.m_l_mix T.k_l_mix T.b_l_mix .nil pass0 (pa_cons (pe_call G_l_at (hr.mono (by decide)) rfl T.m_l_at T.k_l_at T.b_l_at .nil pass0 (pa_cons (pv 0) (pa_cons pe_int pa_nil))) (pa_cons pe_int pa_nil))))
    (pss_cons (ps_set (i := 2) nd rfl (Or.inl rfl) (pe_op op_add pe_int (pe_op op_mod (pv 1) pe_int)))
    (pss_cons (ps_set (i := 3) nd rfl (Or.inl rfl) (pe_lst pa_nil))
    (pss_cons (ps_set (i := 4) nd rfl (Or.inr rfl) (pe_comp (N' := ["_law_place"]) (js := [none]) rfl (pi_range1 rfl T.z_range (pa_cons (pv 2) pa_nil)) (fun _ _ _ _ _ => (pg_name (i := 0) nd_l_place rfl (Or.inl rfl))) (fun _ _ _ _ _ => pf_nil) (fun _ _ _ _ _ => (pe_lst pa_nil))))
    (pss_cons (ps_for PassesOwn.never rfl (pi_range2 rfl T.z_range (pa_cons pe_int (pa_cons (pe_op op_add (pe_op op_add (pv 2) (pe_op op_mod (pe_op op_fdiv (pv 1) pe_int) pe_int)) (pe_callTy call_int1 rfl T.z_int boot_int (pa_cons (pe_cmpR op_eq (pv 2) pe_int (nomark _)) pa_nil))) pa_nil))) (pg_name (i := 5) nd rfl (Or.inl rfl)) (pss_cons (ps_set (i := 6) nd rfl (Or.inl rfl) (pe_call G_l_mix (hr.mono (by decide)) rfl T.m_l_mix T.k_l_mix T.b_l_mix .nil pass0 (pa_cons (pe_call G_l_at (hr.mono (by decide)) rfl T.m_l_at T.k_l_at T.b_l_at .nil pass0 (pa_cons (pv 0) (pa_cons (pv 5) pa_nil))) (pa_cons pe_int pa_nil))))
    (pss_cons (ps_set (i := 7) nd rfl (Or.inl rfl) (pe_callB (call_min2 rfl) rfl T.z_min boot_min (pa_cons (pv 5) (pa_cons (pv 2) pa_nil))))
    (pss_cons (ps_setComp (i := 8) nd rfl (Or.inl rfl)  (N' := ["_law_place", "_law_orders"]) (js := [none, some 4]) rfl (pi_range1 rfl T.z_range (pa_cons (pv 7) pa_nil)) (fun _ _ _ _ _ => (pg_name (i := 0) nd_l_place_l_orders rfl (Or.inl rfl))) (fun _ _ _ _ _ => (pf_one (pt_cmpR op_lt (pe_callB (kcall_len (K := K) rfl) rfl T.z_len PySem.boot_len (pa_cons (pe_ix (kix_list (K := K) rfl) (pv 1) (pv 0) (fun _ _ => rfl)) pa_nil)) pe_int (nomark _)))) (fun _ _ _ _ _ => (pv 0)))
    (pss_cons (ps_set (i := 9) nd rfl (Or.inl rfl) (pe_callB (call_sumI rfl) rfl T.z_sum boot_sum (pa_cons (pe_comp (N' := ["_law_order"]) (js := [none]) rfl (pi_list (pv 4)) (fun _ _ _ _ _ => (pg_name (i := 0) nd_l_order rfl (Or.inl rfl))) (fun _ _ _ _ _ => pf_nil) (fun _ _ _ _ _ => (pe_op op_sub pe_int (pe_callB (kcall_len (K := K) rfl) rfl T.z_len PySem.boot_len (pa_cons (pv 0) pa_nil))))) pa_nil)))
    (pss_one (ps_if (PW.pt (pw_and (pt_cmpR op_gt (pv 9) pe_int (nomark _)) (pw_and1 (pt_cmpR op_lt (pe_callB call_len_seq rfl T.z_len PySem.boot_len (pa_cons (pv 3) pa_nil)) pe_int (nomark _))))) (pss_cons (ps_set (i := 10) nd rfl (Or.inl rfl) (pe_ix ix_list (pv 8) (pe_op op_mod (pv 6) (pe_callB call_len_seq rfl T.z_len PySem.boot_len (pa_cons (pv 8) pa_nil))) (fun _ _ => rfl)))
    (pss_cons (ps_set (i := 11) nd rfl (Or.inl rfl) (pe_op op_mod (pe_op op_fdiv (pv 6) pe_int) pe_int))
    (pss_cons (ps_expr (pe_call G_l_hung (hr.mono (by decide)) rfl T.m_l_hung T.k_l_hung T.b_l_hung .nil pass0 (pa_cons (pv 4) (pa_cons (pe_op op_add (pe_op op_mul pe_int (pe_callB call_len_seq rfl T.z_len PySem.boot_len (pa_cons (pv 3) pa_nil))) (pv 11)) (pa_cons (pv 10) (pa_cons (pe_op op_fdiv (pv 6) pe_int) pa_nil))))))
    (pss_cons (ps_setComp (i := 12) nd rfl (Or.inl rfl)  (N' := ["_law_place", "_law_orders"]) (js := [none, some 4]) rfl (pi_range1 rfl T.z_range (pa_cons (pv 2) pa_nil)) (fun _ _ _ _ _ => (pg_name (i := 0) nd_l_place_l_orders rfl (Or.inl rfl))) (fun _ _ _ _ _ => (pf_one (pt_cmpR op_lt (pe_callB (kcall_len (K := K) rfl) rfl T.z_len PySem.boot_len (pa_cons (pe_ix (kix_list (K := K) rfl) (pv 1) (pv 0) (fun _ _ => rfl)) pa_nil)) pe_int (nomark _)))) (fun _ _ _ _ _ => (pv 0)))
    (pss_cons (ps_set (i := 13) nd rfl (Or.inl rfl) (pe_op op_add pe_int (pe_op op_mod (pe_op op_fdiv (pv 6) pe_int) (pe_callB call_len_seq rfl T.z_len PySem.boot_len (pa_cons (pv 12) pa_nil)))))
    (pss_cons (ps_set (i := 14) nd rfl (Or.inl rfl) (pe_ix ix_seq (pe_op op_cat (pe_lst (pa_cons (pv 5) pa_nil)) (pv 12)) (pe_op op_mul (pe_callTy call_int1 rfl T.z_int boot_int (pa_cons (pe_cmpR op_ge (pv 5) (pv 2) (nomark _)) pa_nil)) (pv 13)) (fun _ _ => rfl)))
    (pss_cons (ps_expr (pe_call G_l_hung (hr.mono (by decide)) rfl T.m_l_hung T.k_l_hung T.b_l_hung .nil pass0 (pa_cons (pv 4) (pa_cons (pe_op op_sub (pe_op op_add (pe_op op_mul pe_int (pe_callB call_len_seq rfl T.z_len PySem.boot_len (pa_cons (pv 3) pa_nil))) pe_int) (pv 11)) (pa_cons (pv 14) (pa_cons (pe_op op_fdiv (pv 6) pe_int) pa_nil))))))
    (pss_one (ps_expr (pe_bm PySem.F.plainAttrs_list PySem.F.slot_list_append PySem.F.type_list_append mt_append (pv 3) (pa_cons (pe_ix ix_list (pe_lst (pa_cons (pe_tup (pa_cons (pv 10) (pa_cons (pv 14) pa_nil))) (pa_cons (pe_tup (pa_cons (pv 14) (pa_cons (pv 10) pa_nil))) pa_nil))) (pv 11) (fun _ _ => rfl)) pa_nil))))))))))) pss_nil)))))))
    (pss_one (ps_ret (pe_tup (pa_cons (pv 2) (pa_cons (pv 3) (pa_cons (pv 4) pa_nil))))))))))), ?_⟩
  refine ⟨_, rfl, sa, ns, 0, rfl, hS, by decide, fun c => ⟨c, 0, rfl, by decide, by decide, fun hd hd0 hd1 => ?_⟩⟩
  refine ⟨_, rfl, _, _, rfl, rfl, (by show (0 : Int) < 10; decide), _, _, rfl, rfl, ?_⟩
  obtain ⟨n, hn⟩ : ∃ n : Nat, (1 + hd % 10 : Int) = (n : Int) := ⟨(1 + hd % 10).toNat, by omega⟩
  have n1 : 1 ≤ n := by omega
  have n10 : n ≤ 10 := by omega
  show gName 2 (V.int (1 + hd % 10)) _ _ _
  rw [hn]
  refine ⟨(by show 0 ≤ sizeLine; decide), fun ta hta => ?_⟩
  have b1 := same_new hta (.lst [])
  refine ⟨_, rfl, (n : Int), rfl, by omega, by omega, fun D hD => ?_⟩
  refine comp_news n (fun _ => []) hD (by omega) (fun i H2 hi g2 => ?_) (fun H2 g2 => ?_) ?_ ?_
  · show i < ((n : Int) - 0).toNat; omega
  · show ((n : Int) - 0).toNat ≤ n; omega
  · rintro i H2 x H3 k hi g2 ⟨rfl, y⟩ hk
    exact ⟨(Fills.refl _).set _ rfl, (by show 0 ≤ sizeLine; decide), fun l hl' => hk l _ hl' (same_new hl' _) upd_same⟩
  intro rr H1 nw1 g1
  have nw1 : NewL (upd H ta (.lst [])) H1 D rr (vv (List.replicate n [])) := by
    have e : (List.range n).map (fun _ => ([] : List V)) = vv (List.replicate n []) := by
      unfold vv
      refine List.ext_getElem (by simp) fun i h1 h2 => ?_
      simp
    rw [← e]; exact nw1
  have ta1 : H1 ta = some (.lst []) := g1 _ _ upd_same
  obtain ⟨kk, hkk⟩ : ∃ kk : Nat, ((n : Int) + hd / 10 % 8 + (if decide (vn n = V.int 1) = true then 1 else 0)) = (kk : Int) := ⟨_, (Int.toNat_of_nonneg (by split <;> omega)).symm⟩
  have kk1 : 1 ≤ kk ∧ n ≤ kk ∧ 2 ≤ kk ∧ kk ≤ 20 := by
    by_cases h : n = 1
    · rw [if_pos (decide_eq_true (by rw [h]; rfl))] at hkk; omega
    · rw [if_neg (by rw [decide_eq_true_iff]; exact fun z => h (Int.ofNat.inj (V.int.inj z)))] at hkk; omega
  dsimp only [gName]
  refine viaN (fun σ' H' => (∃ v5 v6 v7 v8 v9 v10 v11 v12 v13 v14, σ' = [some (.ref sa), some (.int hd), some (vn n), some (.ref ta), some (.ref D), v5, v6, v7, v8, v9, v10, v11, v12, v13, v14]) ∧ Same H H' ∧ ∃ ts os, TsI H' ta ts ∧ NewL (upd H ta (.lst [])) H' D rr (vv os) ∧ AW.Gr n kk ts os) (fun N n3 => ?_) ?_
  · refine ⟨_, rfl, _, rfl, _, _, rfl, rfl, ⟨by decide, by decide⟩, _, _, rfl, rfl, (by show (0 : Int) < 8; decide), _, _, rfl, rfl, _, rfl, rfl, .inr ⟨_, rfl, _, _, rfl, rfl, 1, (kk : Int), ?_, ⟨by omega, by omega, by omega, by omega⟩, ?_⟩⟩
    · rw [← hkk]
    refine for_range (n := ((kk : Int) - 1).toNat) (lo := 1) (fun i σ H' => (∃ v5 v6 v7 v8 v9 v10 v11 v12 v13 v14, σ = [some (.ref sa), some (.int hd), some (vn n), some (.ref ta), some (.ref D), v5, v6, v7, v8, v9, v10, v11, v12, v13, v14]) ∧ Same H H' ∧ ∃ ts os, TsI H' ta ts ∧ NewL (upd H ta (.lst [])) H' D rr (vv os) ∧ AW.Gr n (1 + i) ts os) ⟨⟨_, _, _, _, _, _, _, _, _, _, rfl⟩, b1.trans g1, [], _, ⟨[], ta1, rfl, fun i t h => by simp at h⟩, nw1, .start n1⟩ ?_ ?_
    · rintro i σ H' hi ⟨⟨v5, v6, v7, v8, v9, v10, v11, v12, v13, v14, rfl⟩, g2, ts, os, hT, hN, hG⟩
      obtain ⟨tr, t1, t2, t3⟩ := id hT
      have ol := hG.ol
      have item : ∀ {p : Nat} (hp : p < n) {H2 : Hp}, Same H' H2 → ∃ x, rr[p]? = some x ∧ H2 x = some (.lst ((os.getD p []).map V.int)) ∧ atI (rr.map V.ref) (0 + (p : Int)) = some (.ref x) := fun {p} hp {H2} g => by
        obtain ⟨x, h1, h2, _, h4⟩ := hN.at' (p := p) (by rw [ol]; exact hp)
        exact ⟨x, h1, by rw [g _ _ h2, List.getD_eq_getElem?_getD, List.getElem?_eq_getElem (by rw [ol]; exact hp)]; rfl, by rw [Int.zero_add]; exact h4⟩
      refine ⟨_, rfl, _, rfl, sa, ns, 1 + (i : Int), rfl, g2.seq hS, by omega, fun c => ⟨c, 1, rfl, by decide, by decide, fun m m0 m1 => ?_⟩⟩
      refine ⟨_, rfl, _, rfl, _, _, rfl, ?_⟩
      obtain ⟨up, hup⟩ : ∃ up : Nat, (if (n : Int) < 1 + (i : Int) then (n : Int) else 1 + (i : Int)) = (up : Int) := ⟨_, (Int.toNat_of_nonneg (by split <;> omega)).symm⟩
      have upn : up ≤ n ∧ up ≤ 1 + i ∧ (up = n ∨ up = 1 + i) := by
        by_cases h : (n : Int) < 1 + (i : Int)
        · rw [if_pos h] at hup; omega
        · rw [if_neg h] at hup; omega
      show gName 7 (V.int (if (n : Int) < 1 + (i : Int) then (n : Int) else 1 + (i : Int))) _ _ _
      rw [hup]
      let fr : AW.Os → Nat → Bool := fun os p => decide ((os.getD p []).length < 4)
      refine ⟨_, rfl, (up : Int), rfl, by omega, by omega, fun S1 hS1 => ?_⟩
      refine comp_fil up (fun j => .int (0 + (j : Int))) (fr os) hS1 (by omega) (fun j H2 hj g => ?_) (fun H2 g => ?_) ?_ ?_
      · show j < ((up : Int) - 0).toNat; omega
      · show ((up : Int) - 0).toNat ≤ up; omega
      · rintro j H2 x H3 kt kf hj g ⟨rfl, rfl⟩ ht hff
        obtain ⟨x, x1, x2, x3⟩ := item (p := j) (by omega) g
        refine ⟨(Fills.refl _).set _ rfl, _, rfl, _, rfl, D, _, _, .ref x, rfl, rfl, SqL.of (g _ _ hN.at_), x3, x, _, rfl, .inl (SqL.of x2), _, _, rfl, rfl, _, rfl, ?_⟩
        have e : decide (((((os.getD j []).map V.int).length : Nat) : Int) < 4) = fr os j := by rw [List.length_map]; show decide _ = decide _; congr 1; rw [eq_iff_iff]; omega
        rw [e]
        cases hb : fr os j with
        | true => exact iteT ⟨_, rfl, ht hb _ (Same.refl _)⟩
        | false => exact iteF (hff hb _ (Same.refl _))
      intro H2 g3 eS1
      rw [vns_filter] at eS1
      refine ⟨_, rfl, D, rfl, ⟨_, SqL.of (g3 _ _ hN.at_)⟩, fun L1 hL1 => ?_⟩
      refine comp_pure n (fun j => .int (4 - ((os.getD j []).length : Int))) hL1 (by omega) (fun j H3 hj g => ⟨_, .ref (rr[j]'(by rw [hN.len, List.length_map, ol]; exact hj)), SqL.of (g _ _ (g3 _ _ hN.at_)), by rw [List.getElem?_map, List.getElem?_eq_getElem]; rfl⟩) (fun H3 g => ⟨_, SqL.of (g _ _ (g3 _ _ hN.at_)), by rw [List.length_map, hN.len, List.length_map, ol]; exact Nat.le_refl _⟩) ?_ ?_
      · rintro j H3 x H4 k hj g ⟨rfl, hx⟩ hk
        obtain ⟨x', x1, x2, x3⟩ := item (p := j) hj (g3.trans g)
        have hx := hx _ (SqL.of (g _ _ (g3 _ _ hN.at_)))
        rw [List.getElem?_map, x1] at hx
        cases hx
        refine ⟨(Fills.refl _).set _ rfl, _, rfl, x', _, rfl, .inl (SqL.of x2), _, _, rfl, rfl, ?_⟩
        rw [List.length_map]
        exact hk _ (Same.refl _)
      intro H3 g4 eL1
      have eL : ((List.range n).map fun j => V.int (4 - ((os.getD j []).length : Int))) = (os.map fun o => 4 - (o.length : Int)).map V.int := by
        rw [List.map_map]
        refine List.ext_getElem (by simp [ol]) fun j h1 h2 => ?_
        simp only [List.length_map, List.length_range] at h1
        simp [List.getD_eq_getElem?_getD, List.getElem?_eq_getElem (show j < os.length by omega)]
      rw [eL] at eL1
      have sumE : ∀ os : AW.Os, (os.map fun o => 4 - (o.length : Int)).sum = 4 * (os.length : Int) - (((os.map List.length).sum : Nat) : Int) := by
        intro os
        induction os with
        | nil => rfl
        | cons o os ih => simp only [List.map_cons, List.sum_cons, List.length_cons, ih]; omega
      refine ⟨L1, _, rfl, SqL.of eL1, ?_⟩
      rw [sumE, ol, hG.sum]
      have g34 := g3.trans g4
      have g24 := g2.trans g34
      have hT4 := hT.same g34
      have hN4 := hN.keep g34
      have guard : n ≤ 1 + i ∨ ts.length + 1 = 1 + i := by
        by_cases h : 1 + i ≤ n
        · exact .inr (hG.cnt h)
        · exact .inl (by omega)
      have skip : ¬ ((1 : Int) < 4 * (n : Int) - ((2 * ts.length : Nat) : Int) ∧ ts.length < 16) → AW.Gr n (1 + (i + 1)) ts os := fun hc => by
        have htl := hG.tl
        have h3 : 1 ≤ ts.length := by
          apply Classical.byContradiction
          intro z
          exact hc ⟨by omega, by omega⟩
        have hnk : n ≤ 1 + i := by
          apply Classical.byContradiction
          intro z
          have := hG.cnt (by omega)
          exact hc ⟨by omega, by omega⟩
        exact hG.skip hnk h3
      refine ⟨_, rfl, _, _, rfl, rfl, _, rfl, ite2 (fun c1 => ?_) (fun c1 => iteF ⟨⟨_, _, _, _, _, _, _, _, _, _, rfl⟩, g24, ts, os, hT4, hN4, skip fun z => c1 (decide_eq_true z.1)⟩)⟩
      have c1 : (1 : Int) < 4 * (n : Int) - ((2 * ts.length : Nat) : Int) := of_decide_eq_true c1
      refine ⟨_, rfl, ta, _, rfl, .inl (SqL.of (g34 _ _ t1)), _, _, rfl, rfl, _, rfl, ite2 (fun c2 => ?_) (fun c2 => ⟨⟨_, _, _, _, _, _, _, _, _, _, rfl⟩, g24, ts, os, hT4, hN4, skip fun z => c2 (decide_eq_true ?_)⟩)⟩
      rotate_left
      · rw [List.length_map, t2]; omega
      have c2 : ts.length < 16 := by
        have c2 : (((tr.map V.ref).length : Nat) : Int) < 16 := of_decide_eq_true c2
        rw [List.length_map, t2] at c2; omega
      -- one of the places so far
      obtain ⟨p0, q1, o0, q2, q3⟩ := AW.free_one os up (by rw [hG.sum]; omega) (by omega)
      have ne1 : 0 < ((List.range up).filter (fr os)).length := List.length_pos_of_mem (List.mem_filter.mpr ⟨List.mem_range.mpr q1, decide_eq_true (by rw [List.getD_eq_getElem?_getD, q2]; exact q3)⟩)
      obtain ⟨one, om, oi⟩ := at_pick ne1 m
      obtain ⟨or1, or2⟩ := List.mem_filter.mp om
      have onu := List.mem_range.mp or1
      have onl : (os.getD one []).length < 4 := of_decide_eq_true or2
      refine ⟨_, rfl, _, rfl, _, rfl, S1, _, rfl, .inl (SqL.of (g4 _ _ eS1)), _, _, rfl, rfl, ?_, S1, _, _, vn one, rfl, rfl, SqL.of (g4 _ _ eS1), oi, ?_⟩
      · show (0 : Int) < (((vns ((List.range up).filter (fr os))).length : Nat) : Int)
        rw [List.length_map]; omega
      have one_n : one < n := by omega
      have eo1 : os[one]? = some (os.getD one []) := by rw [List.getD_eq_getElem?_getD, List.getElem?_eq_getElem (by omega : one < os.length)]; rfl
      generalize ho1 : os.getD one [] = o1 at eo1 onl
      obtain ⟨f, hfq⟩ : ∃ f : Nat, m / 128 % 2 = (f : Int) := ⟨_, (Int.toNat_of_nonneg (by omega)).symm⟩
      have f2 : f < 2 := by omega
      refine ⟨_, rfl, _, _, rfl, rfl, ⟨by decide, by decide⟩, _, _, rfl, rfl, (by show (0 : Int) < 2; decide), ?_⟩
      show gName 11 (V.int (m / 128 % 2)) _ _ _
      rw [hfq]
      obtain ⟨x1, x11, x12, x13, _⟩ := hN4.at' (p := one) (by omega)
      have x12 : H3 x1 = some (.lst (o1.map V.int)) := by
        rw [x12]
        have : os[one]'(by omega) = o1 := by rw [List.getElem?_eq_getElem (by omega : one < os.length)] at eo1; exact Option.some.inj eo1
        rw [this]
      have tx1 : x1 ≠ ta := fun z => by rw [z, upd_same] at x13; cases x13
      have hx1 : H x1 = none := b1.free x13
      have tl3 : (((tr.map V.ref).length : Nat) : Int) = (ts.length : Int) := by rw [List.length_map, t2]
      refine ⟨_, rfl, _, rfl, ta, _, rfl, .inl (SqL.of (g34 _ _ t1)), _, _, rfl, rfl, .inl ⟨by decide, by decide⟩, _, rfl, _, _, rfl, rfl, _, rfl, _, rfl, _, _, rfl, rfl, ⟨by decide, by decide⟩, D, x1, rr, o1, _, one, _, rfl, hN4.at_, x11, x12, by omega, fun i1 => ?_⟩
      rw [tl3]
      have hN5 := hN4.setI x11 (insAt o1 i1 (2 * (ts.length : Int) + (f : Int)))
      have g5 := g24.fresh hx1 (.lst ((insAt o1 i1 (2 * (ts.length : Int) + (f : Int))).map V.int))
      have st5 : ∀ {b : Addr} {u : HO}, b ≠ x1 → H3 b = some u → upd H3 x1 (.lst ((insAt o1 i1 (2 * (ts.length : Int) + (f : Int))).map V.int)) b = some u := fun hb e => by rw [upd_ne hb]; exact e
      generalize hH5 : upd H3 x1 (.lst ((insAt o1 i1 (2 * (ts.length : Int) + (f : Int))).map V.int)) = H5 at hN5 g5 st5 ⊢
      generalize hos1 : os.set one (insAt o1 i1 (2 * (ts.length : Int) + (f : Int))) = os1 at hN5
      have ol1 : os1.length = n := by rw [← hos1, List.length_set, ol]
      have t15 : H5 ta = some (.lst (tr.map V.ref)) := st5 tx1.symm (g34 _ _ t1)
      have t35 : ∀ (i : Nat) t, ts[i]? = some t → ∃ r, tr[i]? = some r ∧ H5 r = some (.tup [.int t.1, .int t.2]) := fun i t e => by
        obtain ⟨r, q1, q2⟩ := t3 i t e
        have q2 := g34 _ _ q2
        exact ⟨r, q1, st5 (fun z => by rw [z, x12] at q2; cases q2) q2⟩
      have item1 : ∀ {p : Nat} (hp : p < n) {H2 : Hp}, Same H5 H2 → ∃ x, rr[p]? = some x ∧ H2 x = some (.lst ((os1.getD p []).map V.int)) ∧ atI (rr.map V.ref) (0 + (p : Int)) = some (.ref x) := fun {p} hp {H2} g => by
        obtain ⟨x, h1, h2, _, h4⟩ := hN5.at' (p := p) (by rw [ol1]; exact hp)
        exact ⟨x, h1, by rw [g _ _ h2, List.getD_eq_getElem?_getD, List.getElem?_eq_getElem (by rw [ol1]; exact hp)]; rfl, by rw [Int.zero_add]; exact h4⟩
      -- the places with room
      refine ⟨_, rfl, (n : Int), rfl, by omega, by omega, fun S2 hS2 => ?_⟩
      refine comp_fil n (fun j => .int (0 + (j : Int))) (fr os1) hS2 (by omega) (fun j H2 hj g => ?_) (fun H2 g => ?_) ?_ ?_
      · show j < ((n : Int) - 0).toNat; omega
      · show ((n : Int) - 0).toNat ≤ n; omega
      · rintro j H2 x H3 kt kf hj g ⟨rfl, rfl⟩ ht hff
        obtain ⟨x, x1, x2, x3⟩ := item1 (p := j) hj g
        refine ⟨(Fills.refl _).set _ rfl, _, rfl, _, rfl, D, _, _, .ref x, rfl, rfl, SqL.of (g _ _ hN5.at_), x3, x, _, rfl, .inl (SqL.of x2), _, _, rfl, rfl, _, rfl, ?_⟩
        have e : decide (((((os1.getD j []).map V.int).length : Nat) : Int) < 4) = fr os1 j := by rw [List.length_map]; show decide _ = decide _; congr 1; rw [eq_iff_iff]; omega
        rw [e]
        cases hb : fr os1 j with
        | true => exact iteT ⟨_, rfl, ht hb _ (Same.refl _)⟩
        | false => exact iteF (hff hb _ (Same.refl _))
      intro H6 g6 eS2
      rw [vns_filter] at eS2
      have sum1 : (os1.map List.length).sum = 2 * ts.length + 1 := by
        have := AW.lens_set os one (insAt o1 i1 (2 * (ts.length : Int) + (f : Int))) (by omega)
        have e1 : os[one]'(by omega) = o1 := by rw [List.getElem?_eq_getElem (by omega : one < os.length)] at eo1; exact Option.some.inj eo1
        rw [e1, hos1, (AW.ins_perm _ _ _).length_eq, hG.sum] at this
        simp at this
        omega
      obtain ⟨p2, r1, o2', r2, r3⟩ := AW.free_one os1 n (by rw [sum1]; omega) (by omega)
      have ne2 : 0 < ((List.range n).filter (fr os1)).length := List.length_pos_of_mem (List.mem_filter.mpr ⟨List.mem_range.mpr r1, decide_eq_true (by rw [List.getD_eq_getElem?_getD, r2]; exact r3)⟩)
      refine ⟨_, rfl, _, _, rfl, rfl, ⟨by decide, by decide⟩, _, rfl, S2, _, rfl, .inl (SqL.of eS2), _, _, rfl, rfl, ?_, _, _, rfl, rfl, ?_⟩
      · show (0 : Int) < (((vns ((List.range n).filter (fr os1))).length : Nat) : Int)
        rw [List.length_map]; omega
      obtain ⟨oth2, ot1, ot2⟩ := at_pick ne2 (m / 256)
      -- the other place
      refine ⟨_, rfl, (by show 1 ≤ sizeLine; decide), fun l1 hl1 => ?_⟩
      have g7 := same_new hl1 (.lst [.int (1 + (i : Int))])
      refine ⟨_, rfl, l1, S2, _, _, rfl, rfl, upd_same, g7 _ _ eS2, ?_, fun l2 hl2 => ?_⟩
      · rw [List.length_map]
        refine Nat.le_trans (Nat.add_le_add_left (List.length_filter_le _ _) _) ?_
        rw [List.length_range]
        exact Nat.le_trans (show 1 + n ≤ 11 by omega) (by decide)
      have g8 := same_new hl2 (.lst ([.int (1 + (i : Int))] ++ vns ((List.range n).filter (fr os1))))
      obtain ⟨other, hoth, hot, hon, hol⟩ : ∃ other : Nat, atI ([V.int (1 + (i : Int))] ++ vns ((List.range n).filter (fr os1))) ((if decide ((n : Int) ≤ 1 + (i : Int)) = true then 1 else 0) * (1 + m / 256 % (((vns ((List.range n).filter (fr os1))).length : Nat) : Int))) = some (vn other) ∧ (1 + i < n → other = 1 + i) ∧ other < n ∧ (os1.getD other []).length < 4 := by
        by_cases h : (n : Int) ≤ 1 + (i : Int)
        · rw [if_pos (decide_eq_true h), Int.one_mul]
          have hm := List.mem_filter.mp ot1
          refine ⟨oth2, ?_, fun z => by omega, List.mem_range.mp hm.1, of_decide_eq_true hm.2⟩
          have b0 : 0 ≤ m / 256 % (((vns ((List.range n).filter (fr os1))).length : Nat) : Int) := Int.emod_nonneg _ (by rw [List.length_map]; omega)
          obtain ⟨j, hj⟩ := Int.eq_ofNat_of_zero_le b0
          rw [hj] at ot2 ⊢
          obtain ⟨j', h1, h2, h3, _⟩ := atI_get ot2
          have ej : j' = j := by
            rw [seqIndex_of (by omega) (by omega)] at h1
            have := Option.some.inj h1
            omega
          subst ej
          rw [show (1 : Int) + ((j' : Nat) : Int) = ((1 + j' : Nat) : Int) by omega]
          refine atI_nat ?_
          rw [Nat.add_comm, List.singleton_append, List.getElem?_cons_succ]
          exact h2
        · rw [if_neg (by rw [decide_eq_true_iff]; exact h), Int.zero_mul]
          refine ⟨1 + i, (atI_nat (j := 0) (by simp)), fun _ => rfl, by omega, ?_⟩
          have e := hG.emp (1 + i) (Nat.le_refl _) (by omega)
          have ne : one ≠ 1 + i := by omega
          rw [← hos1, List.getD_eq_getElem?_getD, List.getElem?_set_ne ne, e]
          exact (by decide : ([] : List Int).length < 4)
      refine ⟨_, rfl, _, rfl, _, _, rfl, rfl, .inr ⟨_, rfl, _, rfl, _, _, rfl, rfl, ?_, .inl ⟨l2, _, _, vn other, rfl, rfl, SqL.of upd_same, hoth, ?_⟩⟩⟩
      · exact .inl (by split <;> exact ⟨by decide, by decide⟩)
      generalize ho2 : os1.getD other [] = o2 at hol
      have eo2 : os1[other]? = some o2 := by rw [← ho2, List.getD_eq_getElem?_getD, List.getElem?_eq_getElem (by omega : other < os1.length)]; rfl
      have g58 := g6.trans (g7.trans g8)
      have hN8 := hN5.keep g58
      obtain ⟨x2, y1, y2, y3, _⟩ := hN8.at' (p := other) (by omega)
      have y2 : upd (upd H6 l1 (.lst [.int (1 + (i : Int))])) l2 (.lst ([.int (1 + (i : Int))] ++ vns ((List.range n).filter (fr os1)))) x2 = some (.lst (o2.map V.int)) := by
        rw [y2]
        have : os1[other]'(by omega) = o2 := by rw [List.getElem?_eq_getElem (by omega : other < os1.length)] at eo2; exact Option.some.inj eo2
        rw [this]
      have tx2 : x2 ≠ ta := fun z => by rw [z, upd_same] at y3; cases y3
      have hx2 : H x2 = none := b1.free y3
      have t18 := g58 _ _ t15
      generalize hH8 : upd (upd H6 l1 (.lst [.int (1 + (i : Int))])) l2 (.lst ([.int (1 + (i : Int))] ++ vns ((List.range n).filter (fr os1)))) = H8 at g58 hN8 y2 t18 ⊢
      refine ⟨_, rfl, _, rfl, ta, _, rfl, .inl (SqL.of t18), _, _, rfl, rfl, .inl ⟨by decide, by decide⟩, _, _, rfl, rfl, _, rfl, _, _, rfl, rfl, _, rfl, _, rfl, _, _, rfl, rfl, ⟨by decide, by decide⟩, D, x2, rr, o2, _, other, _, rfl, hN8.at_, y1, y2, by omega, fun i2 => ?_⟩
      rw [tl3]
      have hN9 := hN8.setI y1 (insAt o2 i2 (2 * (ts.length : Int) + 1 - (f : Int)))
      have g9 := (g5.trans g58).fresh hx2 (.lst ((insAt o2 i2 (2 * (ts.length : Int) + 1 - (f : Int))).map V.int))
      have st9 : ∀ {b : Addr} {u : HO}, b ≠ x2 → H8 b = some u → upd H8 x2 (.lst ((insAt o2 i2 (2 * (ts.length : Int) + 1 - (f : Int))).map V.int)) b = some u := fun hb e => by rw [upd_ne hb]; exact e
      generalize upd H8 x2 (.lst ((insAt o2 i2 (2 * (ts.length : Int) + 1 - (f : Int))).map V.int)) = H9 at hN9 g9 st9 ⊢
      have t19 : H9 ta = some (.lst (tr.map V.ref)) := st9 tx2.symm t18
      have t39 : ∀ (i : Nat) t, ts[i]? = some t → ∃ r, tr[i]? = some r ∧ H9 r = some (.tup [.int t.1, .int t.2]) := fun i t e => by
        obtain ⟨r, q1, q2⟩ := t35 i t e
        have q2 := g58 _ _ q2
        exact ⟨r, q1, st9 (fun z => by rw [z, y2] at q2; cases q2) q2⟩
      have hG2 := hG.tie (i1 := i1) (i2 := i2) f2 c2 (by omega : one < 1 + i) eo1 onl hot (by rw [hos1]; exact eo2) hol
      rw [hos1] at hG2
      -- the tie itself
      refine ⟨_, rfl, .inl ⟨rfl, _, SqL.of t19⟩, _, rfl, _, rfl, (by show 2 ≤ sizeLine; decide), fun ta1 hta1 => ?_⟩
      have k1 := same_new hta1 (.tup [vn one, vn other])
      refine ⟨_, rfl, _, rfl, (by show 2 ≤ sizeLine; decide), fun ta2 hta2 => ?_⟩
      have k2 := same_new hta2 (.tup [vn other, vn one])
      refine ⟨(by show 2 ≤ sizeLine; decide), fun tl hhtl => ?_⟩
      have k3 := same_new hhtl (.lst [.ref ta1, .ref ta2])
      have k13 := k1.trans (k2.trans k3)
      obtain ⟨tt, e1, e2⟩ : ∃ tt, atI [V.ref ta1, V.ref ta2] (f : Int) = some (.ref tt) ∧ upd (upd (upd H9 ta1 (.tup [vn one, vn other])) ta2 (.tup [vn other, vn one])) tl (.lst [.ref ta1, .ref ta2]) tt = some (.tup [.int (if f = 0 then ((one : Int), (other : Int)) else ((other : Int), (one : Int))).1, .int (if f = 0 then ((one : Int), (other : Int)) else ((other : Int), (one : Int))).2]) := by
        by_cases h : f = 0
        · subst h; exact ⟨ta1, rfl, k3 _ _ (k2 _ _ upd_same)⟩
        · have : f = 1 := by omega
          subst this; exact ⟨ta2, rfl, k3 _ _ upd_same⟩
      refine ⟨_, rfl, tl, _, _, .ref tt, rfl, rfl, SqL.of upd_same, e1, ta, _, _, rfl, rfl, k13 _ _ t19, ?_, ⟨_, _, _, _, _, _, _, _, _, _, rfl⟩, (g9.trans k13).fresh hta _, ts ++ [_], _, ⟨tr ++ [tt], by rw [List.map_append]; exact upd_same, by simp [t2], ?_⟩, ?_, hG2⟩
      · rw [List.length_map, t2]; exact Nat.lt_of_le_of_lt (by omega : _ ≤ 16) (by decide)
      · have nt : ∀ {x : Addr} {xs : List V}, upd (upd (upd H9 ta1 (.tup [vn one, vn other])) ta2 (.tup [vn other, vn one])) tl (.lst [.ref ta1, .ref ta2]) x = some (.tup xs) → x ≠ ta := fun hx z => by rw [z, k13 _ _ t19] at hx; cases hx
        exact snoc_at t2 (fun i t e => let ⟨r, q1, q2⟩ := t39 i t e; ⟨r, q1, by rw [upd_ne (nt (k13 _ _ q2))]; exact k13 _ _ q2⟩) (by rw [upd_ne (nt e2)]; exact e2)
      · refine (hN9.keep k13).other ?_ ?_ _
        · exact fun z => by rw [z] at hta; have := hN9.new; rw [← z, upd_same] at this; cases this
        · exact fun z => by have := hN9.news ta z; rw [upd_same] at this; cases this
    · rintro σ H' ⟨h1, g2, ts, os, hT, hN, hG⟩
      rw [show 1 + ((kk : Int) - 1).toNat = kk by omega] at hG
      exact n3 _ _ ⟨h1, g2, ts, os, hT, hN, hG⟩
  rintro σ' H' ⟨⟨v5, v6, v7, v8, v9, v10, v11, v12, v13, v14, rfl⟩, g2, ts, os, hT, hN, hG⟩
  refine ⟨_, rfl, _, rfl, _, rfl, (by show 3 ≤ sizeLine; decide), fun r hr' => ?_⟩
  have g3 := same_new hr' (.tup [vn n, .ref ta, .ref D])
  exact q r n ts os _ (g2.trans g3) ⟨ta, D, upd_same, hT.same g3, hN.os.same g3⟩ (hG.whole kk1.2.1 n1 (by omega) (hG.ne (by omega))) n10 hG.tl
end K74

namespace TX
theorem pre_len {m : Int} {ts : List (Int × Int)} {os : List (List Int)} (h : Chart m ts os) {ps : List (List Nat)} (hp : ∀ p ∈ ps, p ∈ rowM m :: (ts.map rowT ++ os.map rowO)) (hn : ps.length ≤ 27) : (jn 10 ps).length ≤ 594 := by
  have := rows_len' (B := 21) (ps := ps) fun p h1 => row_len h p (hp p h1)
  omega
theorem take_snoc {α : Type} {l : List α} {i : Nat} {x : α} (h : l[i]? = some x) : l.take (i + 1) = l.take i ++ [x] := by
  rw [List.take_add_one, h]; rfl
end TX
namespace K74
open PySem L2 PyProof.Rows TX
variable {P : Program} {w : World} {K : PySem.W.Frag} {mg : Str → Option Value} {base : Heap} {t : Adr}
theorem sz_of {a b : List Nat} (h : a.length + b.length ≤ 100000) : (sT a).length + (sT b).length ≤ sizeLine := by
  rw [sT_len, sT_len]; exact Nat.le_trans h (by decide)
def spEndText : Sp := fun vs H Q _ => ∃ e : Int, vs = [.int e] ∧ Sm e ∧ ∀ H', Same H H' → Q (vx (endT e)) H'
theorem ok_endtext (T : Txt K mg t) : FnOk P w K mg base CX0 1 t.a_l_end_text t.d_l_end_text ["_law_end_here"] spEndText := by
  refine T.F_l_end_text.ok sc_l_end_text (fun vs H Q E h => ?_) (fun cdv A outer s H vs Q E hr h => ?_)
  · obtain ⟨e, rfl, _⟩ := h; rfl
  obtain ⟨e, rfl, he, q⟩ := h
  refine ⟨_, (pss_one (ps_ret (pe_op op_add_str (pe_callTy call_str_int rfl T.z_str boot_str (pa_cons (pe_op op_fdiv (pv 0) pe_int) pa_nil)) (pe_ix ix_list (pe_lst (pa_cons pe_str (pa_cons pe_str pa_nil))) (pe_op op_mod (pv 0) pe_int) (fun _ _ => rfl))))), ?_⟩
  have hs := sm_chars (sm_half he)
  have at2 : atI [V.str (Str.ofString ">"), V.str (Str.ofString "<")] (e % 2) = some (vx [if e % 2 = 0 then 62 else 60]) := by
    by_cases h2 : e % 2 = 0
    · rw [h2, if_pos rfl]; show _ = some (V.str (sT [62])); rw [← e_gt]; rfl
    · have : e % 2 = 1 := by omega
      rw [this, if_neg (by decide)]; show _ = some (V.str (sT [60])); rw [← e_lt]; rfl
  refine ⟨_, rfl, _, _, rfl, rfl, ⟨by decide, by decide⟩, _, rfl, hs.2.2.2.2, (by show 2 ≤ sizeLine; decide), fun l hl => ⟨_, rfl, _, _, rfl, rfl, (by show (0 : Int) < 2; decide), l, _, _, _, rfl, rfl, SqL.of upd_same, at2, _, _, rfl, rfl, ?_, ?_⟩⟩
  · show (Str.ofString (toString (e / 2))).length + _ ≤ sizeLine
    rw [strL_sT]
    exact sz_of (by have := hs.2.2.1; simp; omega)
  · show Q (.str (Str.ofString (toString (e / 2)) ++ sT _)) _
    rw [strL_sT, sT_app]
    exact q _ (same_new hl _)
theorem e_map1 : Str.ofString "map " = sT (kMap ++ [32]) := by decide +kernel
theorem e_tie1 : Str.ofString "\ntie " = sT (10 :: (kTie ++ [32])) := by decide +kernel
theorem e_ord1 : Str.ofString "\norder" = sT (10 :: kOrd) := by decide +kernel
theorem chart_of {n : Nat} {ts : AW.Ts} {os : AW.Os} (h : AW.IsMap n ts os) (hn : n ≤ 10) (ht : ts.length ≤ 16) : Chart n ts os := by
  obtain ⟨h1, h2, h3, h4, h5⟩ := h
  refine ⟨⟨by omega, by omega⟩, fun t ht => ?_, fun o ho => ?_⟩
  · obtain ⟨a, b⟩ := h2 t ht
    exact ⟨⟨a.1, by omega⟩, ⟨b.1, by omega⟩⟩
  · obtain ⟨i, hi, rfl⟩ := List.mem_iff_getElem.mp ho
    obtain ⟨k1, k2⟩ := h4 i _ (List.getElem?_eq_getElem hi)
    refine ⟨k1, fun e he => ?_⟩
    have := (k2.mem_iff).mp he
    unfold AW.endsAt AW.all2 at this
    obtain ⟨j, hj, rfl⟩ := List.mem_map.mp (List.mem_filter.mp this).1
    have := List.mem_range.mp hj
    exact ⟨by omega, by omega⟩
def spMapText : Sp := fun vs H Q _ => ∃ (r : Addr) (n : Nat) (ts : AW.Ts) (os : AW.Os), vs = [.ref r] ∧ WebI H r n ts os ∧ Chart n ts os ∧ ts.length ≤ 16 ∧ os.length ≤ 10 ∧ ∀ H', Same H H' → Q (vx (txt n ts os)) H'
theorem ok_maptext (T : Txt K mg t) : FnOk P w K mg base CX0 2 t.a_l_map_text t.d_l_map_text ["_law_chart"] spMapText := by
  have G_l_end_text := ok_endtext (P := P) (w := w) (base := base) T
  refine T.F_l_map_text.ok sc_l_map_text (fun vs H Q E h => ?_) (fun cdv A outer s H vs Q E hr h => ?_)
  · obtain ⟨r, n, ts, os, rfl, _⟩ := h; rfl
  obtain ⟨r, n, ts, os, rfl, hW, hC, h16, h10, q⟩ := h
  have nd := sc_l_map_text.nd
  refine ⟨_, (pss_cons (ps_set (i := 1) nd rfl (Or.inl rfl) (pe_op op_add_str pe_str (pe_callTy call_str_int rfl T.z_str boot_str (pa_cons (pe_ix ix_tup (pv 0) pe_int (fun _ _ => rfl)) pa_nil))))
    (pss_cons (ps_for PassesOwn.never rfl (pi_list (pe_ix ix_tup (pv 0) pe_int (fun _ _ => rfl))) (pg_tup rfl (pgs_cons (pg_name (i := 2) nd rfl (Or.inl rfl)) (pgs_cons (pg_name (i := 3) nd rfl (Or.inl rfl)) pgs_nil))) (pss_one (ps_set (i := 1) nd rfl (Or.inl rfl) (pe_op op_add_str (pe_op op_add_str (pe_op op_add_str (pe_op op_add_str (pv 1) pe_str) (pe_callTy call_str_int rfl T.z_str boot_str (pa_cons (pv 2) pa_nil))) pe_str) (pe_callTy call_str_int rfl T.z_str boot_str (pa_cons (pv 3) pa_nil))))))
    (pss_cons (ps_for PassesOwn.never rfl (pi_list (pe_ix ix_tup (pv 0) pe_int (fun _ _ => rfl))) (pg_name (i := 4) nd rfl (Or.inl rfl)) (pss_cons (ps_set (i := 1) nd rfl (Or.inl rfl) (pe_op op_add_str (pv 1) pe_str))
    (pss_one (ps_for PassesOwn.never rfl (pi_list (pv 4)) (pg_name (i := 5) nd rfl (Or.inl rfl)) (pss_one (ps_set (i := 1) nd rfl (Or.inl rfl) (pe_op op_add_str (pe_op op_add_str (pv 1) pe_str) (pe_call G_l_end_text (hr.mono (by decide)) rfl T.m_l_end_text T.k_l_end_text T.b_l_end_text .nil pass0 (pa_cons (pv 5) pa_nil)))))))))
    (pss_one (ps_ret (pv 1)))))), ?_⟩
  obtain ⟨tA, oA, w1, ⟨tr, t1, t2, t3⟩, ⟨orr, o1, o2, o3⟩⟩ := hW
  have hn := sm_chars hC.m
  have eM : Str.ofString "map " ++ Str.ofString (toString (n : Int)) = sT (jn 10 (rowM n :: (ts.take 0).map rowT)) := by
    rw [e_map1, strL_sT, sT_app]; congr 1
  refine ⟨_, rfl, r, _, _, _, rfl, rfl, SqT.of w1, rfl, _, rfl, hn.2.2.2.2, _, _, rfl, rfl, ?_, ?_⟩
  · show _ + (Str.ofString (toString (n : Int))).length ≤ sizeLine
    rw [e_map1, strL_sT]
    exact sz_of (by have := hn.2.2.1; simp [kMap]; omega)
  show gName 1 (V.str (Str.ofString "map " ++ Str.ofString (toString (n : Int)))) _ _ _
  rw [eM]
  refine ⟨_, rfl, r, _, _, _, rfl, rfl, SqT.of w1, rfl, tA, rfl, ⟨_, SqL.of t1⟩, for_list (fun i σ H' => (∃ o2 o3, σ = [some (.ref r), some (vx (jn 10 (rowM n :: (ts.take i).map rowT))), o2, o3, none, none]) ∧ H' = H) ⟨⟨none, none, rfl⟩, rfl⟩ (fun _ _ _ _ ⟨_, e⟩ => e ▸ SqL.of t1) ?_ ?_⟩
  · rintro i x σ H' hx ⟨⟨o2', o3', rfl⟩, rfl⟩
    obtain ⟨tt, tx, e1, rfl, e2⟩ := TsI.nth (a := tA) t2 t3 hx
    have hi : i < ts.length := (List.getElem?_eq_some_iff.mp e1).1
    have hm : tt ∈ ts := List.mem_of_getElem? e1
    have s1 := sm_chars (hC.t tt hm).1
    have s2 := sm_chars (hC.t tt hm).2
    have pl : (jn 10 (rowM n :: (ts.take i).map rowT)).length ≤ 594 := pre_len hC (fun p hp => by
      rcases List.mem_cons.mp hp with rfl | hp
      · exact List.mem_cons_self
      · obtain ⟨u, hu, rfl⟩ := List.mem_map.mp hp
        exact List.mem_cons_of_mem _ (List.mem_append_left _ (List.mem_map_of_mem (List.mem_of_mem_take hu)))) (by simp; omega)
    have kl : kTie.length = 3 := rfl
    refine ⟨tx, _, rfl, SqT.of e2, rfl, _, _, rfl, _, _, rfl, rfl, _, rfl, _, _, rfl, rfl, ?_, _, rfl, _, rfl, s1.2.2.2.2, _, _, rfl, rfl, ?_, _, _, rfl, rfl, ?_, _, rfl, _, rfl, s2.2.2.2.2, _, _, rfl, rfl, ?_, ?_⟩
    · rw [e_tie1]; exact sz_of (by simp only [List.length_append, List.length_cons, List.length_nil, kl]; omega)
    · show _ + (Str.ofString (toString tt.1)).length ≤ sizeLine
      rw [e_tie1, sT_app, strL_sT]
      exact sz_of (by simp only [List.length_append, List.length_cons, List.length_nil, kl]; omega)
    · show (_ ++ Str.ofString (toString tt.1)).length + _ ≤ sizeLine
      rw [e_tie1, sT_app, strL_sT, sT_app, e_sp]
      exact sz_of (by simp only [List.length_append, List.length_cons, List.length_nil, kl]; omega)
    · show (_ ++ Str.ofString (toString tt.1) ++ _).length + (Str.ofString (toString tt.2)).length ≤ sizeLine
      rw [e_tie1, sT_app, strL_sT, sT_app, e_sp, sT_app, strL_sT]
      exact sz_of (by simp only [List.length_append, List.length_cons, List.length_nil, kl]; omega)
    · show gName 1 (V.str (_ ++ Str.ofString (toString tt.1) ++ _ ++ Str.ofString (toString tt.2))) _ _ _
      rw [e_tie1, sT_app, strL_sT, sT_app, e_sp, sT_app, strL_sT, sT_app]
      have e : jn 10 (rowM n :: (ts.take i).map rowT) ++ 10 :: (kTie ++ [32]) ++ strL tt.1 ++ [32] ++ strL tt.2 = jn 10 (rowM n :: (ts.take (i + 1)).map rowT) := by
        rw [take_snoc e1, List.map_append, ← List.cons_append]
        show _ = jn 10 (rowM n :: (ts.take i).map rowT ++ [rowT tt])
        rw [jn_snoc 10 (by simp)]
        show _ = _ ++ 10 :: (kTie ++ 32 :: (strL tt.1 ++ 32 :: strL tt.2))
        simp
      rw [e]
      exact ⟨⟨_, _, rfl⟩, rfl⟩
  rintro σ H1 ⟨⟨v2, v3, rfl⟩, rfl⟩
  have e0 : jn 10 (rowM n :: (ts.take (tr.map V.ref).length).map rowT) = jn 10 (rowM n :: (ts.map rowT ++ (os.take 0).map rowO)) := by
    rw [List.length_map, t2, List.take_length]; simp
  rw [e0]
  refine ⟨_, rfl, r, _, _, _, rfl, rfl, SqT.of w1, rfl, oA, rfl, ⟨_, SqL.of o1⟩, for_list (fun i σ H' => (∃ o2 o3 o4 o5, σ = [some (.ref r), some (vx (jn 10 (rowM n :: (ts.map rowT ++ (os.take i).map rowO)))), o2, o3, o4, o5]) ∧ Same H1 H') ⟨⟨_, _, _, _, rfl⟩, Same.refl _⟩ (fun _ _ _ _ ⟨_, e⟩ => SqL.of (e _ _ o1)) ?_ ?_⟩
  · rintro i x σ H' hx ⟨⟨u2, u3, u4, u5, rfl⟩, g1⟩
    obtain ⟨o, ox, e1, rfl, e2⟩ := OsI.nth o2 o3 hx
    have hi : i < os.length := (List.getElem?_eq_some_iff.mp e1).1
    have hm : o ∈ os := List.mem_of_getElem? e1
    have pl : (jn 10 (rowM n :: (ts.map rowT ++ (os.take i).map rowO))).length ≤ 594 := pre_len hC (fun p hp => by
      rcases List.mem_cons.mp hp with rfl | hp
      · exact List.mem_cons_self
      · refine List.mem_cons_of_mem _ ?_
        rcases List.mem_append.mp hp with hp | hp
        · exact List.mem_append_left _ hp
        · obtain ⟨u, hu, rfl⟩ := List.mem_map.mp hp
          exact List.mem_append_right _ (List.mem_map_of_mem (List.mem_of_mem_take hu))) (by simp; omega)
    have kl : kOrd.length = 5 := rfl
    generalize hpre : jn 10 (rowM n :: (ts.map rowT ++ (os.take i).map rowO)) = pre at pl ⊢
    refine ⟨_, rfl, _, _, rfl, rfl, ?_, ?_⟩
    · rw [e_ord1]; exact sz_of (by simp only [List.length_append, List.length_cons, List.length_nil, kl]; omega)
    show gName 1 (V.str (sT pre ++ Str.ofString "\norder")) _ _ _
    rw [e_ord1, sT_app]
    have oL : ∀ j, (jn 32 (kOrd :: (o.take j).map endT)).length ≤ 21 := fun j => len_O (o := o.take j) ⟨Nat.le_trans (List.length_take_le' j o) (hC.o o hm).1, fun e he => (hC.o o hm).2 e (List.mem_of_mem_take he)⟩
    refine ⟨_, rfl, ox, rfl, ⟨_, SqL.of (g1 _ _ e2)⟩, for_list (fun j σ H' => (∃ o2 o3 o5, σ = [some (.ref r), some (vx (pre ++ 10 :: jn 32 (kOrd :: (o.take j).map endT))), o2, o3, some (.ref ox), o5]) ∧ Same H1 H') ⟨⟨_, _, _, rfl⟩, g1⟩ (fun _ _ _ _ ⟨_, e⟩ => SqL.of (e _ _ e2)) ?_ ?_⟩
    · rintro j x σ H2 hx ⟨⟨y2, y3, y5, rfl⟩, g2⟩
      obtain ⟨e, f1, rfl⟩ : ∃ e, o[j]? = some e ∧ x = .int e := by
        rw [List.getElem?_map] at hx
        cases f : o[j]? with
        | none => rw [f] at hx; cases hx
        | some e => rw [f] at hx; exact ⟨e, rfl, (Option.some.inj hx).symm⟩
      have he := (hC.o o hm).2 e (List.mem_of_getElem? f1)
      have := oL j
      refine ⟨_, rfl, _, _, rfl, rfl, ?_, _, rfl, e, rfl, he, fun H3 g3 => ⟨_, _, rfl, rfl, ?_, ?_⟩⟩
      · rw [e_sp]; exact sz_of (by rw [List.length_append, List.length_cons, List.length_singleton]; omega)
      · rw [e_sp, sT_app]; exact sz_of (by have := end_len he; rw [List.length_append, List.length_append, List.length_cons, List.length_singleton]; omega)
      · show gName 1 (V.str (_ ++ _ ++ sT (endT e))) _ _ _
        rw [e_sp, sT_app, sT_app]
        have ee : pre ++ 10 :: jn 32 (kOrd :: (o.take j).map endT) ++ [32] ++ endT e = pre ++ 10 :: jn 32 (kOrd :: (o.take (j + 1)).map endT) := by
          rw [take_snoc f1, List.map_append, ← List.cons_append]
          show _ = pre ++ 10 :: jn 32 (kOrd :: (o.take j).map endT ++ [endT e])
          rw [jn_snoc 32 (by simp)]
          simp
        rw [ee]
        exact ⟨⟨_, _, _, rfl⟩, g2.trans g3⟩
    · rintro σ H2 ⟨⟨y2, y3, y5, rfl⟩, g2⟩
      have ee : pre ++ 10 :: jn 32 (kOrd :: (o.take (o.map V.int).length).map endT) = jn 10 (rowM n :: (ts.map rowT ++ (os.take (i + 1)).map rowO)) := by
        rw [List.length_map, List.take_length, take_snoc e1, List.map_append, ← List.append_assoc, ← List.cons_append]
        show _ = jn 10 (rowM n :: (ts.map rowT ++ (os.take i).map rowO) ++ [rowO o])
        rw [jn_snoc 10 (by simp), hpre]
        rfl
      rw [ee]
      exact ⟨⟨_, _, _, _, rfl⟩, g2⟩
  · rintro σ H2 ⟨⟨y2, y3, y4, y5, rfl⟩, g2⟩
    rw [List.length_map, o2, List.take_length]
    exact ⟨_, rfl, q _ g2⟩
end K74

namespace TX
theorem row_new {f : Nat → Nat} (hf : f 32 = 1) {l : List Nat} {ps : List (List Nat)} {k : Nat} (hn : ps.length ≤ (sp 32 l).length + 1) (hs : (ps.map (Wt f)).sum ≤ ((sp 32 l).map (Wt f)).sum + k) : Wt f (jn 32 ps) ≤ Wt f l + k + 2 := by
  have h1 := wt_le hf ps
  have h2 := wt_words hf (l := l)
  omega
structure Rowd (l l' : List Nat) : Prop where
  a : ∀ c ∈ l', c < 128 ∧ c ≠ 10
  n : l'.length ≤ 2 * l.length + 43
  b : l'.count 32 ≤ 2 * l.count 32 + 3
structure WordOk (l x : List Nat) : Prop where
  a : ∀ c ∈ x, c < 128 ∧ c ≠ 10
  n : x.length ≤ l.length + 41
  b : x.count 32 ≤ l.count 32 + 1
theorem word_in {l x : List Nat} (ha : ∀ c ∈ l, c < 128 ∧ c ≠ 10) (h : x ∈ sp 32 l) : WordOk l x := by
  have hi := infix_jn (c := 32) h
  rw [jn_sp] at hi
  exact ⟨fun c hc => ha c (hi.subset hc), Nat.le_trans hi.length_le (Nat.le_add_right _ _), Nat.le_trans (hi.sublist.count_le 32) (Nat.le_add_right _ _)⟩
theorem rowd {l : List Nat} {ps : List (List Nat)} (h1 : ∀ x ∈ ps, WordOk l x) (hn : ps.length ≤ (sp 32 l).length + 1) (hs : ∀ g : List Nat → Nat, ∀ k, (∀ x, WordOk l x → g x ≤ k) → (ps.map g).sum ≤ ((sp 32 l).map g).sum + k) : Rowd l (jn 32 ps) := by
  refine ⟨fun c hc => ?_, ?_, ?_⟩
  · rcases mem_jn hc with z | ⟨p, hp, h2⟩
    · omega
    · exact (h1 p hp).a c h2
  · have := row_new (f := fun _ => 1) rfl hn (hs _ (l.length + 41) fun x hx => by rw [Wt.len]; exact hx.n)
    rw [Wt.len, Wt.len] at this
    omega
  · have := row_new (f := fun c => if c = 32 then 1 else 0) rfl hn (hs _ (l.count 32 + 1) fun x hx => by rw [Wt.cnt]; exact hx.b)
    rw [Wt.cnt, Wt.cnt] at this
    omega
theorem rowd_in {l x : List Nat} (ha : ∀ c ∈ l, c < 128 ∧ c ≠ 10) (hx : WordOk l x) (i : Nat) : Rowd l (jn 32 ((sp 32 l).take i ++ [x] ++ (sp 32 l).drop i)) := by
  refine rowd (fun y hy => ?_) ?_ fun g k hg => ?_
  · rcases List.mem_append.mp hy with hy | hy
    · rcases List.mem_append.mp hy with hy | hy
      · exact word_in ha (List.mem_of_mem_take hy)
      · rw [List.mem_singleton.mp hy]; exact hx
    · exact word_in ha (List.mem_of_mem_drop hy)
  · simp only [List.length_append, List.length_cons, List.length_nil, List.length_take, List.length_drop]; omega
  · have := sum_cut (g := g) (sp 32 l) i
    have := hg x hx
    simp only [List.map_append, List.sum_append, List.map_cons, List.map_nil, List.sum_cons, List.sum_nil]
    omega
theorem rowd_for {l x : List Nat} (ha : ∀ c ∈ l, c < 128 ∧ c ≠ 10) (hx : WordOk l x) (i : Nat) : Rowd l (jn 32 ((sp 32 l).take i ++ [x] ++ (sp 32 l).drop (i + 1))) := by
  refine rowd (fun y hy => ?_) ?_ fun g k hg => ?_
  · rcases List.mem_append.mp hy with hy | hy
    · rcases List.mem_append.mp hy with hy | hy
      · exact word_in ha (List.mem_of_mem_take hy)
      · rw [List.mem_singleton.mp hy]; exact hx
    · exact word_in ha (List.mem_of_mem_drop hy)
  · simp only [List.length_append, List.length_cons, List.length_nil, List.length_take, List.length_drop]; omega
  · have := sum_cut1 (g := g) (sp 32 l) i
    have := hg x hx
    simp only [List.map_append, List.sum_append, List.map_cons, List.map_nil, List.sum_cons, List.sum_nil]
    omega
theorem rowd_out {l : List Nat} (ha : ∀ c ∈ l, c < 128 ∧ c ≠ 10) (i : Nat) : Rowd l (jn 32 ((sp 32 l).take i ++ (sp 32 l).drop (i + 1))) := by
  refine rowd (fun y hy => ?_) ?_ fun g k hg => ?_
  · rcases List.mem_append.mp hy with hy | hy
    · exact word_in ha (List.mem_of_mem_take hy)
    · exact word_in ha (List.mem_of_mem_drop hy)
  · simp only [List.length_append, List.length_take, List.length_drop]; omega
  · have := sum_cut1 (g := g) (sp 32 l) i
    simp only [List.map_append, List.sum_append]
    omega
theorem take_len {ps : List (List Nat)} {g : List Nat → Nat} (i : Nat) : ((ps.take i).map g).sum ≤ (ps.map g).sum ∧ ((ps.drop i).map g).sum ≤ (ps.map g).sum := by
  have := sum_cut (g := g) ps i
  omega
end TX
namespace L2
open PySem PySem.Spec PyProof.Rows TX
theorem pe_mulc {X : Cx} {x : Str} {l : List Nat} {n : Nat} {j k} {p q pos : Pos} (h : x = sT l) (hn : n ≤ 1000 ∧ l.length ≤ 100) : PE X (.BinOp (.Constant (.str x) j p) .Mult (.Constant (.int (n : Int)) k q) pos) (tC (vx (List.replicate n l).flatten)) :=
  fun pins s σ H Q I hq => pe_op op_mul_str pe_str pe_int pins s σ H Q I ⟨_, l, n, rfl, h, rfl, Nat.le_trans (Nat.mul_le_mul hn.2 hn.1) (by decide), by omega, hq⟩
inductive Lits : List Expr → List V → Prop
  | nil : Lits [] []
  | str {x : Str} {j} {p : Pos} {es : List Expr} {vs : List V} : Lits es vs → Lits (.Constant (.str x) j p :: es) (.str x :: vs)
  | mul {x : Str} {l : List Nat} {n : Nat} {j k} {p q pos : Pos} {es : List Expr} {vs : List V} : x = sT l → n ≤ 1000 ∧ l.length ≤ 100 → Lits es vs → Lits (.BinOp (.Constant (.str x) j p) .Mult (.Constant (.int (n : Int)) k q) pos :: es) (vx (List.replicate n l).flatten :: vs)
def tLits (vs : List V) : TA := fun _ H Q => Q vs H
theorem pa_lits {X : Cx} : ∀ {es : List Expr} {vs : List V}, Lits es vs → PA X es (tLits vs)
  | _, _, .nil => pa_nil
  | _, _, .str h => pa_cons pe_str (pa_lits h) rfl
  | _, _, .mul h1 h2 h => pa_cons (pe_mulc h1 h2) (pa_lits h) rfl
theorem pe_lits {X : Cx} {es : List Expr} {vs : List V} {pos : Pos} (h : Lits es vs) : PE X (.List es pos) (tLst (tLits vs)) := pe_lst (pa_lits h)
theorem e_one : Str.ofString "1" = sT [49] := by decide +kernel
def oddV : V → Bool
  | .str z => z.cps.toList.all (fun c => decide (c < 128) && decide (c ≠ 10)) && decide (z.cps.toList.length ≤ 41) && decide (z.cps.toList.count 32 ≤ 1)
  | _ => false
theorem odd_word {v : V} (h : oddV v = true) (l : List Nat) : ∃ x, v = vx x ∧ WordOk l x := by
  cases v with
  | str z =>
    simp only [oddV, Bool.and_eq_true, decide_eq_true_eq, List.all_eq_true] at h
    refine ⟨z.cps.toList, by rw [vx, sT_toList], h.1.1, Nat.le_trans h.1.2 (Nat.le_add_left _ _), Nat.le_trans h.2 (Nat.le_add_left _ _)⟩
  | _ => cases h
theorem cut_upto (ps : List (List Nat)) (i : Nat) : cutV (vxs ps) none (some (i : Int)) = vxs (ps.take i) := by rw [cut_toV]; exact List.map_take.symm
theorem cut_on (ps : List (List Nat)) (i : Nat) : cutV (vxs ps) (some (i : Int)) none = vxs (ps.drop i) := by rw [cut_fromV]; exact List.map_drop.symm
theorem vxs_app (a b : List (List Nat)) : vxs a ++ vxs b = vxs (a ++ b) := (List.map_append).symm
theorem vxs_len (a : List (List Nat)) : (vxs a).length = a.length := List.length_map _
theorem vxs_at {ps : List (List Nat)} {i : Nat} (h : i < ps.length) : atI (vxs ps) (i : Int) = some (vx ps[i]) := atI_nat (by rw [List.getElem?_map, List.getElem?_eq_getElem h]; rfl)
end L2
namespace K74
open PySem L2 PyProof.Rows TX
variable {P : Program} {w : World} {K : PySem.W.Frag} {mg : Str → Option Value} {base : Heap} {t : Adr}
def spBR : Sp := fun vs H Q _ => ∃ (z : Str) (l : List Nat) (n c : Int), vs = [.str z, .int n, .int c] ∧ z = sT l ∧ (∀ c ∈ l, c < 128 ∧ c ≠ 10) ∧ l.length ≤ 1000 ∧ ∀ l' H', Same H H' → Rowd l l' → Q (vx l') H'
theorem odds_ok : ([V.str (Str.ofString ""), V.str (Str.ofString "0"), V.str (Str.ofString "00"), V.str (Str.ofString "-0"), V.str (Str.ofString "+1"), V.str (Str.ofString "01"), V.str (Str.ofString "1>"), V.str (Str.ofString "0<"), V.str (Str.ofString "<"), V.str (Str.ofString ">"), V.str (Str.ofString "-1"), V.str (Str.ofString "-1>"), V.str (Str.ofString "9"), V.str (Str.ofString "10"), V.str (Str.ofString "map"), V.str (Str.ofString "tie"), V.str (Str.ofString "order"), V.str (Str.ofString "Map")] ++ [V.str (Str.ofString "1."), V.str (Str.ofString "x"), vx (List.replicate 40 [49]).flatten, vx (List.replicate 41 [49]).flatten, V.str (Str.ofString "0>>"), V.str (Str.ofString "200"), V.str (Str.ofString "201"), V.str (Str.ofString "2"), V.str (Str.ofString "3>"), V.str (Str.ofString "ties"), V.str (Str.ofString "1<"), V.str (Str.ofString "order 0>")]).all oddV = true := by decide +kernel
theorem ok_br (T : Txt K mg t) : FnOk P w K mg base CX0 1 t.a_l_bent_row t.d_l_bent_row ["_law_row", "_law_number_here", "_law_cell"] spBR := by
  refine T.F_l_bent_row.ok sc_l_bent_row (fun vs H Q E h => ?_) (fun cdv A outer s H vs Q E hr h => ?_)
  · obtain ⟨z, l, n, c, rfl, _⟩ := h; rfl
  obtain ⟨z, l, n, c, rfl, rfl, hA, hL, q⟩ := h
  have nd := sc_l_bent_row.nd
  refine' ⟨_, ?hp, ?hq⟩
  case hp =>
    refine' pss_cons ?a ?b
    case a =>
      refine' ps_set (i := 3) ?n1 ?n2 ?n3 ?n4
      case n1 => exact nd
      case n2 => exact rfl
      case n3 => exact Or.inl rfl
      case n4 =>
        refine' pe_lits (vs := [V.str (Str.ofString ""), V.str (Str.ofString "0"), V.str (Str.ofString "00"), V.str (Str.ofString "-0"), V.str (Str.ofString "+1"), V.str (Str.ofString "01"), V.str (Str.ofString "1>"), V.str (Str.ofString "0<"), V.str (Str.ofString "<"), V.str (Str.ofString ">"), V.str (Str.ofString "-1"), V.str (Str.ofString "-1>"), V.str (Str.ofString "9"), V.str (Str.ofString "10"), V.str (Str.ofString "map"), V.str (Str.ofString "tie"), V.str (Str.ofString "order"), V.str (Str.ofString "Map")]) ?p
        case p => exact (.str (.str (.str (.str (.str (.str (.str (.str (.str (.str (.str (.str (.str (.str (.str (.str (.str (.str .nil))))))))))))))))))
    case b =>
      refine' pss_cons ?c ?d
      case c =>
        refine' ps_set (i := 3) ?m1 ?m2 ?m3 ?m4
        case m1 => exact nd
        case m2 => exact rfl
        case m3 => exact Or.inl rfl
        case m4 =>
          refine' pe_op ?q1 ?q2 ?q
          case q1 => exact op_cat
          case q2 => exact pv 3
          case q =>
            refine' pe_lits (vs := [V.str (Str.ofString "1."), V.str (Str.ofString "x"), vx (List.replicate 40 [49]).flatten, vx (List.replicate 41 [49]).flatten, V.str (Str.ofString "0>>"), V.str (Str.ofString "200"), V.str (Str.ofString "201"), V.str (Str.ofString "2"), V.str (Str.ofString "3>"), V.str (Str.ofString "ties"), V.str (Str.ofString "1<"), V.str (Str.ofString "order 0>")]) ?r
            case r => exact (.str (.str (.mul (l := [49]) e_one (by decide) (.mul (l := [49]) e_one (by decide) (.str (.str (.str (.str (.str (.str (.str (.str .nil))))))))))))
      case d => exact (pss_cons (ps_set (i := 4) nd rfl (Or.inl rfl) (pe_bm PySem.F.plainAttrs_str PySem.F.slot_str_split PySem.F.type_str_split mt_split (pv 0) (pa_cons pe_str pa_nil)))
    (pss_cons (ps_set (i := 5) nd rfl (Or.inl rfl) (pe_ix ix_list (pv 3) (pe_op op_mod (pv 2) (pe_callB call_len_seq rfl T.z_len PySem.boot_len (pa_cons (pv 3) pa_nil))) (fun _ _ => rfl)))
    (pss_cons (ps_set (i := 6) nd rfl (Or.inl rfl) (pe_op op_mod (pv 1) (pe_callB call_len_seq rfl T.z_len PySem.boot_len (pa_cons (pv 4) pa_nil))))
    (pss_cons (ps_set (i := 7) nd rfl (Or.inl rfl) (pe_op op_mod (pe_op op_fdiv (pv 1) pe_int) pe_int))
    (pss_cons (ps_if (pt_cmpR op_eq (pv 7) pe_int (nomark _)) (pss_one (ps_ret (pe_bm PySem.F.plainAttrs_str PySem.F.slot_str_join PySem.F.type_str_join mt_join pe_str (pa_cons (pe_op op_cat (pe_op op_cat (pe_slice sl_list (pv 4) po_none (po_some (pv 6))) (pe_lst (pa_cons (pv 5) pa_nil))) (pe_slice sl_list (pv 4) (po_some (pv 6)) po_none)) pa_nil)))) pss_nil)
    (pss_cons (ps_if (pt_cmpR op_eq (pv 7) pe_int (nomark _)) (pss_one (ps_ret (pe_bm PySem.F.plainAttrs_str PySem.F.slot_str_join PySem.F.type_str_join mt_join pe_str (pa_cons (pe_op op_cat (pe_slice sl_list (pv 4) po_none (po_some (pv 6))) (pe_slice sl_list (pv 4) (po_some (pe_op op_add (pv 6) pe_int)) po_none)) pa_nil)))) pss_nil)
    (pss_cons (ps_if (pt_cmpR op_eq (pv 7) pe_int (nomark _)) (pss_one (ps_ret (pe_bm PySem.F.plainAttrs_str PySem.F.slot_str_join PySem.F.type_str_join mt_join pe_str (pa_cons (pe_op op_cat (pe_op op_cat (pe_slice sl_list (pv 4) po_none (po_some (pv 6))) (pe_lst (pa_cons (pe_ix ix_list (pv 4) (pv 6) (fun _ _ => rfl)) pa_nil))) (pe_slice sl_list (pv 4) (po_some (pv 6)) po_none)) pa_nil)))) pss_nil)
    (pss_one (ps_ret (pe_bm PySem.F.plainAttrs_str PySem.F.slot_str_join PySem.F.type_str_join mt_join pe_str (pa_cons (pe_op op_cat (pe_op op_cat (pe_slice sl_list (pv 4) po_none (po_some (pv 6))) (pe_lst (pa_cons (pv 5) pa_nil))) (pe_slice sl_list (pv 4) (po_some (pe_op op_add (pv 6) pe_int)) po_none)) pa_nil)))))))))))
  have ok := odds_ok
  have hl1 : [V.str (Str.ofString ""), V.str (Str.ofString "0"), V.str (Str.ofString "00"), V.str (Str.ofString "-0"), V.str (Str.ofString "+1"), V.str (Str.ofString "01"), V.str (Str.ofString "1>"), V.str (Str.ofString "0<"), V.str (Str.ofString "<"), V.str (Str.ofString ">"), V.str (Str.ofString "-1"), V.str (Str.ofString "-1>"), V.str (Str.ofString "9"), V.str (Str.ofString "10"), V.str (Str.ofString "map"), V.str (Str.ofString "tie"), V.str (Str.ofString "order"), V.str (Str.ofString "Map")].length + [V.str (Str.ofString "1."), V.str (Str.ofString "x"), vx (List.replicate 40 [49]).flatten, vx (List.replicate 41 [49]).flatten, V.str (Str.ofString "0>>"), V.str (Str.ofString "200"), V.str (Str.ofString "201"), V.str (Str.ofString "2"), V.str (Str.ofString "3>"), V.str (Str.ofString "ties"), V.str (Str.ofString "1<"), V.str (Str.ofString "order 0>")].length = 30 := rfl
  generalize e1 : [V.str (Str.ofString ""), V.str (Str.ofString "0"), V.str (Str.ofString "00"), V.str (Str.ofString "-0"), V.str (Str.ofString "+1"), V.str (Str.ofString "01"), V.str (Str.ofString "1>"), V.str (Str.ofString "0<"), V.str (Str.ofString "<"), V.str (Str.ofString ">"), V.str (Str.ofString "-1"), V.str (Str.ofString "-1>"), V.str (Str.ofString "9"), V.str (Str.ofString "10"), V.str (Str.ofString "map"), V.str (Str.ofString "tie"), V.str (Str.ofString "order"), V.str (Str.ofString "Map")] = xs1 at ok hl1 ⊢
  generalize e2 : [V.str (Str.ofString "1."), V.str (Str.ofString "x"), vx (List.replicate 40 [49]).flatten, vx (List.replicate 41 [49]).flatten, V.str (Str.ofString "0>>"), V.str (Str.ofString "200"), V.str (Str.ofString "201"), V.str (Str.ofString "2"), V.str (Str.ofString "3>"), V.str (Str.ofString "ties"), V.str (Str.ofString "1<"), V.str (Str.ofString "order 0>")] = xs2 at ok hl1 ⊢
  have l1 : xs1.length = 18 := by rw [← e1]; rfl
  have l2 : xs2.length = 12 := by rw [← e2]; rfl
  refine ⟨by rw [l1]; decide, fun A1 hA1 => ?_⟩
  have s1 := same_new hA1 (.lst xs1)
  refine ⟨_, rfl, by rw [l2]; decide, fun A2 hA2 => ?_⟩
  have s2 := same_new hA2 (.lst xs2)
  refine ⟨A1, A2, xs1, xs2, rfl, rfl, s2 _ _ upd_same, upd_same, by rw [hl1]; decide, fun A3 hA3 => ?_⟩
  have s3 := same_new hA3 (.lst (xs1 ++ xs2))
  have g3 := s1.trans (s2.trans s3)
  have ll : (xs1 ++ xs2).length = 30 := by rw [List.length_append, hl1]
  generalize hH3 : upd (upd (upd H A1 (.lst xs1)) A2 (.lst xs2)) A3 (.lst (xs1 ++ xs2)) = H3 at g3 ⊢
  have a3 : H3 A3 = some (.lst (xs1 ++ xs2)) := by rw [← hH3]; exact upd_same
  refine ⟨_, rfl, rfl, _, _, l, 32, rfl, rfl, rfl, e_sp, by omega, fun D hD => ?_⟩
  have s4 := same_new hD (.lst (vxs (sp 32 l)))
  have sl := sp_len 32 l
  have cl : l.count 32 ≤ l.length := List.count_le_length
  generalize hH4 : upd H3 D (.lst (vxs (sp 32 l))) = H4 at s4 ⊢
  have d4 : H4 D = some (.lst (vxs (sp 32 l))) := by rw [← hH4]; exact upd_same
  have g4 := g3.trans s4
  have b0 : 0 ≤ c % 30 := Int.emod_nonneg _ (by decide)
  have b1 : c % 30 < 30 := Int.emod_lt_of_pos _ (by decide)
  obtain ⟨k, hk⟩ := Int.eq_ofNat_of_zero_le b0
  have hk30 : k < (xs1 ++ xs2).length := by rw [ll]; omega
  obtain ⟨x, ex, hx⟩ := odd_word (List.all_eq_true.mp ok _ (List.getElem_mem hk30)) l
  have at3 : atI (xs1 ++ xs2) (c % (((xs1 ++ xs2).length : Nat) : Int)) = some (vx x) := by
    rw [ll]
    show atI (xs1 ++ xs2) (c % 30) = _
    rw [hk]
    exact atI_nat (by rw [List.getElem?_eq_getElem hk30, ex])
  refine ⟨_, rfl, _, rfl, _, rfl, A3, _, rfl, .inl (SqL.of (s4 _ _ a3)), _, _, rfl, rfl, ?_, A3, _, _, vx x, rfl, rfl, SqL.of (s4 _ _ a3), at3, ?_⟩
  · show (0 : Int) < (((xs1 ++ xs2).length : Nat) : Int)
    rw [ll]; decide
  have vl := vxs_len (sp 32 l)
  have p0 : (0 : Int) < (((vxs (sp 32 l)).length : Nat) : Int) := by rw [vl]; omega
  obtain ⟨i, hi⟩ := Int.eq_ofNat_of_zero_le (Int.emod_nonneg n (show ((((vxs (sp 32 l)).length : Nat) : Int)) ≠ 0 by omega))
  have hi2 := Int.emod_lt_of_pos n p0
  rw [hi, vl] at hi2
  have hi3 : i < (sp 32 l).length := by omega
  refine ⟨_, rfl, _, rfl, D, _, rfl, .inl (SqL.of d4), _, _, rfl, rfl, p0, ?_⟩
  show gName 6 (V.int (n % (((vxs (sp 32 l)).length : Nat) : Int))) _ _ _
  rw [hi]
  refine ⟨_, rfl, _, _, rfl, rfl, ⟨by decide, by decide⟩, _, _, rfl, rfl, (by show (0 : Int) < 4; decide), ?_⟩
  -- the end of each way: a row of words, told with blanks between
  have fin : ∀ {ws : List (List Nat)} {H' : Hp} {p : Addr}, Same H4 H' → Rowd l (jn 32 ws) → H' p = some (.lst (vxs ws)) → (ws.map List.length).sum + ws.length ≤ 1000000 → rJoin K (.str (Str.ofString " ")) [.ref p] H' Q := fun {ws} {H'} {p} g hr hp hs => ⟨_, 32, p, ws, rfl, e_sp, rfl, SqL.of hp, hs, q _ _ (g4.trans g) hr⟩
  have sw := wt_words (f := fun _ => 1) rfl (l := l)
  have swl : ((sp 32 l).map (Wt fun _ => 1)) = (sp 32 l).map List.length := List.map_congr_left fun x _ => Wt.len x
  rw [swl, Wt.len] at sw
  have tl := fun i => take_len (ps := sp 32 l) (g := List.length) i
  have sz : ∀ {a b : Nat}, a ≤ 2000 → b ≤ 2000 → a + b ≤ sizeLine := fun h1 h2 => Nat.le_trans (Nat.add_le_add h1 h2) (by decide)
  have k1 : ∀ j, (vxs ((sp 32 l).take j)).length ≤ 1001 := fun j => by rw [vxs_len, List.length_take]; omega
  have k2 : ∀ j, (vxs ((sp 32 l).drop j)).length ≤ 1001 := fun j => by rw [vxs_len, List.length_drop]; omega
  refine ⟨_, rfl, rfl, _, rfl, ite2 (fun _ => ?_) (fun _ => ?_)⟩
  · refine ⟨rfl, _, rfl, _, rfl, _, rfl, D, _, rfl, SqL.of d4, fun p1 hp1 => ?_⟩
    rw [cut_upto]
    have w1 := same_new hp1 (.lst (vxs ((sp 32 l).take i)))
    refine ⟨_, rfl, (by show 1 ≤ sizeLine; decide), fun p2 hp2 => ?_⟩
    have w2 := same_new hp2 (.lst [vx x])
    refine ⟨p1, p2, _, [vx x], rfl, rfl, w2 _ _ upd_same, upd_same, sz (Nat.le_trans (k1 i) (by decide)) (show 1 ≤ 2000 by decide), fun p3 hp3 => ?_⟩
    rw [show vxs ((sp 32 l).take i) ++ [vx x] = vxs ((sp 32 l).take i ++ [x]) from vxs_app _ [x]] at *
    have w3 := same_new hp3 (.lst (vxs ((sp 32 l).take i ++ [x])))
    have w13 := w1.trans (w2.trans w3)
    refine ⟨_, rfl, _, rfl, _, rfl, D, _, rfl, SqL.of (w13 _ _ d4), fun p4 hp4 => ?_⟩
    rw [cut_on]
    have w4 := same_new hp4 (.lst (vxs ((sp 32 l).drop i)))
    refine ⟨p3, p4, _, _, rfl, rfl, w4 _ _ upd_same, upd_same, sz ?_ (Nat.le_trans (k2 i) (by decide)), fun p5 hp5 => ?_⟩
    · rw [vxs_len, List.length_append, List.length_take]; simp; omega
    rw [vxs_app] at *
    refine fin (w13.trans (w4.trans (same_new hp5 _))) (rowd_in hA hx i) upd_same ?_
    have h1 := (tl i).1
    have h2 := (tl i).2
    have h3 := hx.n
    simp only [List.map_append, List.sum_append, List.map_cons, List.map_nil, List.sum_cons, List.sum_nil, List.length_append, List.length_cons, List.length_nil, List.length_take, List.length_drop]
    omega
  refine ⟨_, rfl, rfl, _, rfl, ite2 (fun _ => ?_) (fun _ => ?_)⟩
  · refine ⟨rfl, _, rfl, _, rfl, _, rfl, D, _, rfl, SqL.of d4, fun p1 hp1 => ?_⟩
    rw [cut_upto]
    have w1 := same_new hp1 (.lst (vxs ((sp 32 l).take i)))
    refine ⟨_, rfl, _, rfl, _, _, rfl, rfl, _, rfl, D, _, rfl, SqL.of (w1 _ _ d4), fun p4 hp4 => ?_⟩
    rw [show ((i : Int) + 1) = ((i + 1 : Nat) : Int) from rfl, cut_on] at *
    have w4 := same_new hp4 (.lst (vxs ((sp 32 l).drop (i + 1))))
    refine ⟨p1, p4, _, _, rfl, rfl, w4 _ _ upd_same, upd_same, sz (Nat.le_trans (k1 i) (by decide)) (Nat.le_trans (k2 _) (by decide)), fun p5 hp5 => ?_⟩
    rw [vxs_app] at *
    refine fin (w1.trans (w4.trans (same_new hp5 _))) (rowd_out hA i) upd_same ?_
    have h1 := (tl i).1
    have h2 := (tl (i + 1)).2
    simp only [List.map_append, List.sum_append, List.length_append, List.length_take, List.length_drop]
    omega
  refine ⟨_, rfl, rfl, _, rfl, ite2 (fun _ => ?_) (fun _ => ?_)⟩
  · refine ⟨rfl, _, rfl, _, rfl, _, rfl, D, _, rfl, SqL.of d4, fun p1 hp1 => ?_⟩
    rw [cut_upto]
    have w1 := same_new hp1 (.lst (vxs ((sp 32 l).take i)))
    have hx := word_in hA (List.getElem_mem hi3)
    refine ⟨_, rfl, _, rfl, D, _, _, _, rfl, rfl, SqL.of (w1 _ _ d4), vxs_at hi3, (by show 1 ≤ sizeLine; decide), fun p2 hp2 => ?_⟩
    generalize (sp 32 l)[i] = x at hx hp2 ⊢
    have w2 := same_new hp2 (.lst [vx x])
    refine ⟨p1, p2, _, [vx x], rfl, rfl, w2 _ _ upd_same, upd_same, sz (Nat.le_trans (k1 i) (by decide)) (show 1 ≤ 2000 by decide), fun p3 hp3 => ?_⟩
    rw [show vxs ((sp 32 l).take i) ++ [vx x] = vxs ((sp 32 l).take i ++ [x]) from vxs_app _ [x]] at *
    have w3 := same_new hp3 (.lst (vxs ((sp 32 l).take i ++ [x])))
    have w13 := w1.trans (w2.trans w3)
    refine ⟨_, rfl, _, rfl, _, rfl, D, _, rfl, SqL.of (w13 _ _ d4), fun p4 hp4 => ?_⟩
    rw [cut_on]
    have w4 := same_new hp4 (.lst (vxs ((sp 32 l).drop i)))
    refine ⟨p3, p4, _, _, rfl, rfl, w4 _ _ upd_same, upd_same, sz ?_ (Nat.le_trans (k2 i) (by decide)), fun p5 hp5 => ?_⟩
    · rw [vxs_len, List.length_append, List.length_take]; simp; omega
    rw [vxs_app] at *
    refine fin (w13.trans (w4.trans (same_new hp5 _))) (rowd_in hA hx i) upd_same ?_
    have h1 := (tl i).1
    have h2 := (tl i).2
    have h3 := hx.n
    simp only [List.map_append, List.sum_append, List.map_cons, List.map_nil, List.sum_cons, List.sum_nil, List.length_append, List.length_cons, List.length_nil, List.length_take, List.length_drop]
    omega
  · refine ⟨rfl, _, rfl, _, rfl, _, rfl, D, _, rfl, SqL.of d4, fun p1 hp1 => ?_⟩
    rw [cut_upto]
    have w1 := same_new hp1 (.lst (vxs ((sp 32 l).take i)))
    refine ⟨_, rfl, (by show 1 ≤ sizeLine; decide), fun p2 hp2 => ?_⟩
    have w2 := same_new hp2 (.lst [vx x])
    refine ⟨p1, p2, _, [vx x], rfl, rfl, w2 _ _ upd_same, upd_same, sz (Nat.le_trans (k1 i) (by decide)) (show 1 ≤ 2000 by decide), fun p3 hp3 => ?_⟩
    rw [show vxs ((sp 32 l).take i) ++ [vx x] = vxs ((sp 32 l).take i ++ [x]) from vxs_app _ [x]] at *
    have w3 := same_new hp3 (.lst (vxs ((sp 32 l).take i ++ [x])))
    have w13 := w1.trans (w2.trans w3)
    refine ⟨_, rfl, _, rfl, _, _, rfl, rfl, _, rfl, D, _, rfl, SqL.of (w13 _ _ d4), fun p4 hp4 => ?_⟩
    rw [show ((i : Int) + 1) = ((i + 1 : Nat) : Int) from rfl, cut_on] at *
    have w4 := same_new hp4 (.lst (vxs ((sp 32 l).drop (i + 1))))
    refine ⟨p3, p4, _, _, rfl, rfl, w4 _ _ upd_same, upd_same, sz ?_ (Nat.le_trans (k2 _) (by decide)), fun p5 hp5 => ?_⟩
    · rw [vxs_len, List.length_append, List.length_take]; simp; omega
    rw [vxs_app] at *
    refine fin (w13.trans (w4.trans (same_new hp5 _))) (rowd_for hA hx i) upd_same ?_
    have h1 := (tl i).1
    have h2 := (tl (i + 1)).2
    have h3 := hx.n
    simp only [List.map_append, List.sum_append, List.map_cons, List.map_nil, List.sum_cons, List.sum_nil, List.length_append, List.length_cons, List.length_nil, List.length_take, List.length_drop]
    omega
end K74

namespace TX
structure RowOk (R B : Nat) (p : List Nat) : Prop where
  a : ∀ c ∈ p, c < 128
  n : p.length ≤ 2 * R + 43
  b : p.count 32 ≤ 2 * B + 3
abbrev Fit' (L R B : Nat) (l : List Nat) : Prop := Fit (L + 2 * R + 45) (2 * R + 43) (2 * B + 3) l
theorem jn_le (ps : List (List Nat)) : (jn 10 ps).length ≤ (ps.map List.length).sum + ps.length := by
  by_cases h : ps = []
  · subst h; exact Nat.zero_le _
  · have := jn_len 10 h; omega
theorem fit_rows {L R B : Nat} {ps : List (List Nat)} (h : ∀ p ∈ ps, RowOk R B p) (hn : (ps.map List.length).sum + ps.length ≤ L + 2 * R + 45) : Fit' L R B (jn 10 ps) := by
  refine ⟨fun c hc => ?_, Nat.le_trans (jn_le ps) hn, MR.jn fun p hp => (MR.one p).mono ?_, MR.jn fun p hp => (MR.one p).mono ?_⟩
  · rcases mem_jn hc with z | ⟨p, hp, h2⟩
    · omega
    · exact (h p hp).a c h2
  · rw [Wt.len]; exact (h p hp).n
  · rw [Wt.cnt]; exact (h p hp).b
theorem Fit.row {L R B : Nat} {l p : List Nat} (h : Fit L R B l) (hp : p ∈ sp 10 l) : (∀ c ∈ p, c < 128 ∧ c ≠ 10) ∧ p.length ≤ R ∧ p.count 32 ≤ B := by
  have hi := infix_jn (c := 10) hp
  rw [jn_sp] at hi
  have h1 := h.r.row hp
  have h2 := h.b.row hp
  rw [Wt.len] at h1
  rw [Wt.cnt] at h2
  exact ⟨fun c hc => ⟨h.a c (hi.subset hc), fun z => sp_nin 10 l p hp (z ▸ hc)⟩, h1, h2⟩
theorem Fit.rowOk {L R B : Nat} {l p : List Nat} (h : Fit L R B l) (hp : p ∈ sp 10 l) : RowOk R B p := by
  obtain ⟨h1, h2, h3⟩ := h.row hp
  exact ⟨fun c hc => (h1 c hc).1, by omega, by omega⟩
theorem Rowd.rowOk {L R B : Nat} {l p p' : List Nat} (h : Fit L R B l) (hp : p ∈ sp 10 l) (hr : Rowd p p') : RowOk R B p' := by
  obtain ⟨h1, h2, h3⟩ := h.row hp
  exact ⟨fun c hc => (hr.a c hc).1, by have := hr.n; omega, by have := hr.b; omega⟩
theorem rows_sum (l : List Nat) : ((sp 10 l).map List.length).sum + (sp 10 l).length = l.length + 1 := by
  have := jn_len 10 (sp_ne 10 l)
  rw [jn_sp] at this
  omega
theorem fit_mid {L R B : Nat} {l x : List Nat} (h : Fit L R B l) (hx : RowOk R B x) {i j : Nat} (hj : j = i ∨ j = i + 1) : Fit' L R B (jn 10 ((sp 10 l).take i ++ [x] ++ (sp 10 l).drop j)) := by
  refine fit_rows (fun y hy => ?_) ?_
  · rcases List.mem_append.mp hy with hy | hy
    · rcases List.mem_append.mp hy with hy | hy
      · exact h.rowOk (List.mem_of_mem_take hy)
      · rw [List.mem_singleton.mp hy]; exact hx
    · exact h.rowOk (List.mem_of_mem_drop hy)
  · have h1 := rows_sum l
    have h2 := h.n
    have h3 := hx.n
    have h4 : (((sp 10 l).take i).map List.length).sum + (((sp 10 l).drop j).map List.length).sum ≤ ((sp 10 l).map List.length).sum := by
      rcases hj with rfl | rfl
      · exact Nat.le_of_eq (sum_cut (sp 10 l) j)
      · exact sum_cut1 (sp 10 l) i
    simp only [List.map_append, List.sum_append, List.map_cons, List.map_nil, List.sum_cons, List.sum_nil, List.length_append, List.length_cons, List.length_nil, List.length_take, List.length_drop]
    omega
theorem fit_out {L R B : Nat} {l : List Nat} (h : Fit L R B l) (i : Nat) : Fit' L R B (jn 10 ((sp 10 l).take i ++ (sp 10 l).drop (i + 1))) := by
  refine fit_rows (fun y hy => ?_) ?_
  · rcases List.mem_append.mp hy with hy | hy
    · exact h.rowOk (List.mem_of_mem_take hy)
    · exact h.rowOk (List.mem_of_mem_drop hy)
  · have h1 := rows_sum l
    have h2 := h.n
    have h4 := sum_cut1 (g := List.length) (sp 10 l) i
    simp only [List.map_append, List.sum_append, List.length_append, List.length_take, List.length_drop]
    omega
theorem sum_set {g : List Nat → Nat} : ∀ (ps : List (List Nat)) (i : Nat) (h : i < ps.length) (a : List Nat), ((ps.set i a).map g).sum + g ps[i] = (ps.map g).sum + g a
  | p :: ps, 0, _, a => by simp only [List.set_cons_zero, List.map_cons, List.sum_cons, List.getElem_cons_zero]; omega
  | p :: ps, i + 1, h, a => by
    have ih := sum_set (g := g) ps i (by simpa using h) a
    simp only [List.set_cons_succ, List.map_cons, List.sum_cons, List.getElem_cons_succ]
    omega
theorem fit_swap {L R B : Nat} {l : List Nat} (h : Fit L R B l) {i j : Nat} (hi : i < (sp 10 l).length) (hj : j < (sp 10 l).length) : Fit' L R B (jn 10 (((sp 10 l).set i (sp 10 l)[j]).set j (sp 10 l)[i])) := by
  refine fit_rows (fun y hy => ?_) ?_
  · rcases List.mem_or_eq_of_mem_set hy with hy | rfl
    · rcases List.mem_or_eq_of_mem_set hy with hy | rfl
      · exact h.rowOk hy
      · exact h.rowOk (List.getElem_mem hj)
    · exact h.rowOk (List.getElem_mem hi)
  · have h1 := rows_sum l
    have h2 := h.n
    have e1 := sum_set (g := List.length) (sp 10 l) i hi (sp 10 l)[j]
    have e2 := sum_set (g := List.length) ((sp 10 l).set i (sp 10 l)[j]) j (by rw [List.length_set]; exact hj) (sp 10 l)[i]
    have e3 : ((sp 10 l).set i (sp 10 l)[j])[j]'(by rw [List.length_set]; exact hj) = (sp 10 l)[j] := by
      rw [List.getElem_set]; split <;> rfl
    rw [e3] at e2
    rw [List.length_set, List.length_set]
    omega
theorem fit_sign {L R B : Nat} {l s : List Nat} (h : Fit L R B l) (hs : s.length ≤ 1) (ha : ∀ c ∈ s, c < 128) {i j : Nat} (hij : i ≤ j) : Fit' L R B (l.take i ++ s ++ l.drop j) := by
  refine ⟨fun c hc => ?_, ?_, (((h.r.take i).app ((MR.one s).mono (d := 1) (by rw [Wt.len]; exact hs))).app (h.r.drop j)).mono (by omega), (((h.b.take i).app ((MR.one s).mono (d := 1) (by rw [Wt.cnt]; exact Nat.le_trans List.count_le_length hs))).app (h.b.drop j)).mono (by omega)⟩
  · rcases List.mem_append.mp hc with hc | hc
    · rcases List.mem_append.mp hc with hc | hc
      · exact h.a c (List.mem_of_mem_take hc)
      · exact ha c hc
    · exact h.a c (List.mem_of_mem_drop hc)
  · have := h.n
    simp only [List.length_append, List.length_take, List.length_drop]
    omega
theorem fit_cut {L R B : Nat} {l : List Nat} (h : Fit L R B l) (i : Nat) : Fit' L R B (l.take i) := by
  refine ⟨fun c hc => h.a c (List.mem_of_mem_take hc), ?_, (h.r.take i).mono (by omega), (h.b.take i).mono (by omega)⟩
  have := h.n
  rw [List.length_take]; omega
def sgnOk (z : PySem.Str) : Bool := z.cps.toList.all (fun c => decide (c < 128)) && decide (0 < z.cps.toList.length) && decide (z.cps.toList.length ≤ 100)
end TX
namespace K74
open PySem L2 PyProof.Rows TX
variable {P : Program} {w : World} {K : PySem.W.Frag} {mg : Str → Option Value} {base : Heap} {t : Adr}
theorem sg1 : sgnOk (Str.ofString " 0123456789<>-lrenws\n+.x") = true := by decide +kernel
theorem sg2 : sgnOk (Str.ofString "!\"#$&'()*,/:;=?@ABCDEFGHIJKLMNOPQRSTUVWXYZ[\\]^_`abcdefghijklmopqtuvyz{|}~") = true := by decide +kernel
def spBent : Sp := fun vs H Q _ => ∃ (z : Str) (l : List Nat) (n c : Int) (L R B : Nat), vs = [.str z, .int n, .int c] ∧ z = sT l ∧ Fit L R B l ∧ L ≤ 1000 ∧ R ≤ 1000 ∧ ∀ l' H', Same H H' → Fit' L R B l' → Q (vx l') H'
theorem ok_bent (T : Txt K mg t) : FnOk P w K mg base CX0 2 t.a_l_bent t.d_l_bent ["_law_text", "_law_number_here", "_law_cell"] spBent := by
  have G_l_bent_row := ok_br (P := P) (w := w) (base := base) T
  refine T.F_l_bent.ok sc_l_bent (fun vs H Q E h => ?_) (fun cdv A outer s H vs Q E hr h => ?_)
  · obtain ⟨z, l, n, c, L, R, B, rfl, _⟩ := h; rfl
  obtain ⟨z, l, n, c, L, R, B, rfl, rfl, hF, hL, hR, q⟩ := h
  have nd := sc_l_bent.nd
  refine ⟨_, (pss_cons (ps_set (i := 3) nd rfl (Or.inl rfl) (pe_bm PySem.F.plainAttrs_str PySem.F.slot_str_split PySem.F.type_str_split mt_split (pv 0) (pa_cons pe_str pa_nil)))
    (pss_cons (ps_set (i := 4) nd rfl (Or.inl rfl) (pe_op op_mod (pe_op op_fdiv (pv 1) pe_int) (pe_callB call_len_seq rfl T.z_len PySem.boot_len (pa_cons (pv 3) pa_nil))))
    (pss_cons (ps_set (i := 5) nd rfl (Or.inl rfl) (pe_op op_mod (pe_op op_fdiv (pv 1) pe_int) (pe_callB call_len_seq rfl T.z_len PySem.boot_len (pa_cons (pv 3) pa_nil))))
    (pss_cons (ps_set (i := 6) nd rfl (Or.inl rfl) (pe_op op_mod (pv 1) pe_int))
    (pss_cons (ps_if (pt_cmpR op_lt (pv 6) pe_int (nomark _)) (pss_cons (ps_set (i := 7) nd rfl (Or.inl rfl) (pe_call G_l_bent_row (hr.mono (by decide)) rfl T.m_l_bent_row T.k_l_bent_row T.b_l_bent_row .nil pass0 (pa_cons (pe_ix ix_list (pv 3) (pv 4) (fun _ _ => rfl)) (pa_cons (pe_op op_fdiv (pv 1) pe_int) (pa_cons (pv 2) pa_nil)))))
    (pss_one (ps_ret (pe_bm PySem.F.plainAttrs_str PySem.F.slot_str_join PySem.F.type_str_join mt_join pe_str (pa_cons (pe_op op_cat (pe_op op_cat (pe_slice sl_list (pv 3) po_none (po_some (pv 4))) (pe_lst (pa_cons (pv 7) pa_nil))) (pe_slice sl_list (pv 3) (po_some (pe_op op_add (pv 4) pe_int)) po_none)) pa_nil))))) pss_nil)
    (pss_cons (ps_if (pt_cmpR op_eq (pv 6) pe_int (nomark _)) (pss_one (ps_ret (pe_bm PySem.F.plainAttrs_str PySem.F.slot_str_join PySem.F.type_str_join mt_join pe_str (pa_cons (pe_op op_cat (pe_slice sl_list (pv 3) po_none (po_some (pv 4))) (pe_slice sl_list (pv 3) (po_some (pe_op op_add (pv 4) pe_int)) po_none)) pa_nil)))) pss_nil)
    (pss_cons (ps_if (pt_cmpR op_eq (pv 6) pe_int (nomark _)) (pss_one (ps_ret (pe_bm PySem.F.plainAttrs_str PySem.F.slot_str_join PySem.F.type_str_join mt_join pe_str (pa_cons (pe_op op_cat (pe_op op_cat (pe_slice sl_list (pv 3) po_none (po_some (pv 4))) (pe_lst (pa_cons (pe_ix ix_list (pv 3) (pv 5) (fun _ _ => rfl)) pa_nil))) (pe_slice sl_list (pv 3) (po_some (pv 4)) po_none)) pa_nil)))) pss_nil)
    (pss_cons (ps_if (pt_cmpR op_eq (pv 6) pe_int (nomark _)) (pss_cons (ps_asg (pe_tup (pa_cons (pe_ix ix_list (pv 3) (pv 5) (fun _ _ => rfl)) (pa_cons (pe_ix ix_list (pv 3) (pv 4) (fun _ _ => rfl)) pa_nil))) (pg_tup rfl (pgs_cons (pg_sub (pv 3) (pv 4) set_list) (pgs_cons (pg_sub (pv 3) (pv 5) set_list) pgs_nil))))
    (pss_one (ps_ret (pe_bm PySem.F.plainAttrs_str PySem.F.slot_str_join PySem.F.type_str_join mt_join pe_str (pa_cons (pv 3) pa_nil))))) pss_nil)
    (pss_cons (ps_set (i := 8) nd rfl (Or.inl rfl) pe_str)
    (pss_cons (ps_if (pt_cmpR op_eq (pe_op op_mod (pv 2) pe_int) pe_int (nomark _)) (pss_one (ps_set (i := 8) nd rfl (Or.inl rfl) pe_str)) pss_nil)
    (pss_cons (ps_set (i := 9) nd rfl (Or.inl rfl) (pe_ix ix_str (pv 8) (pe_op op_mod (pe_op op_fdiv (pv 2) pe_int) (pe_callB call_len_str rfl T.z_len PySem.boot_len (pa_cons (pv 8) pa_nil))) (fun _ _ => rfl)))
    (pss_cons (ps_set (i := 10) nd rfl (Or.inl rfl) (pe_op op_mod (pe_op op_fdiv (pv 1) pe_int) (pe_op op_add (pe_callB call_len_str rfl T.z_len PySem.boot_len (pa_cons (pv 0) pa_nil)) pe_int)))
    (pss_cons (ps_if (pt_cmpR op_lt (pv 6) pe_int (nomark _)) (pss_one (ps_ret (pe_op op_add_str (pe_op op_add_str (pe_slice sl_str (pv 0) po_none (po_some (pv 10))) (pv 9)) (pe_slice sl_str (pv 0) (po_some (pv 10)) po_none)))) pss_nil)
    (pss_cons (ps_if (pt_cmpR op_eq (pv 6) pe_int (nomark _)) (pss_one (ps_ret (pe_slice sl_str (pv 0) po_none (po_some (pv 10))))) pss_nil)
    (pss_one (ps_ret (pe_op op_add_str (pe_op op_add_str (pe_slice sl_str (pv 0) po_none (po_some (pv 10))) (pe_op op_mul_str (pv 9) (pe_op op_sub (pv 6) pe_int))) (pe_slice sl_str (pv 0) (po_some (pe_op op_add (pv 10) pe_int)) po_none)))))))))))))))))), ?_⟩
  have hn := hF.n
  refine ⟨_, rfl, rfl, _, _, l, 10, rfl, rfl, rfl, e_nl, by omega, fun D hD => ?_⟩
  have s4 := same_new hD (.lst (vxs (sp 10 l)))
  have sl := sp_len 10 l
  have cl : l.count 10 ≤ l.length := List.count_le_length
  generalize hH4 : upd H D (.lst (vxs (sp 10 l))) = H4 at s4 ⊢
  have d4 : H4 D = some (.lst (vxs (sp 10 l))) := by rw [← hH4]; exact upd_same
  have vl := vxs_len (sp 10 l)
  have p0 : (0 : Int) < (((vxs (sp 10 l)).length : Nat) : Int) := by rw [vl]; omega
  have pick : ∀ m : Int, ∃ i : Nat, m % (((vxs (sp 10 l)).length : Nat) : Int) = (i : Int) ∧ i < (sp 10 l).length := fun m => by
    obtain ⟨i, hi⟩ := Int.eq_ofNat_of_zero_le (Int.emod_nonneg m (show ((((vxs (sp 10 l)).length : Nat) : Int)) ≠ 0 by omega))
    have hi2 := Int.emod_lt_of_pos m p0
    rw [hi, vl] at hi2
    exact ⟨i, hi, by omega⟩
  obtain ⟨i, hi, hi3⟩ := pick (n / 16)
  obtain ⟨j, hj, hj3⟩ := pick (n / 512)
  refine ⟨_, rfl, _, _, rfl, rfl, ⟨by decide, by decide⟩, _, rfl, D, _, rfl, .inl (SqL.of d4), _, _, rfl, rfl, p0, ?_⟩
  show gName 4 (V.int (n / 16 % (((vxs (sp 10 l)).length : Nat) : Int))) _ _ _
  rw [hi]
  refine ⟨_, rfl, _, _, rfl, rfl, ⟨by decide, by decide⟩, _, rfl, D, _, rfl, .inl (SqL.of d4), _, _, rfl, rfl, p0, ?_⟩
  show gName 5 (V.int (n / 512 % (((vxs (sp 10 l)).length : Nat) : Int))) _ _ _
  rw [hj]
  refine ⟨_, rfl, _, _, rfl, rfl, (by show (0 : Int) < 12; decide), ?_⟩
  obtain ⟨wy, hwy⟩ := Int.eq_ofNat_of_zero_le (Int.emod_nonneg n (show (12 : Int) ≠ 0 by decide))
  have hwy2 : wy < 12 := by have := Int.emod_lt_of_pos n (show (0 : Int) < 12 by decide); omega
  show gName 6 (V.int (n % 12)) _ _ _
  rw [hwy]
  have fin : ∀ {ws : List (List Nat)} {H' : Hp} {p : Addr}, Same H H' → Fit' L R B (jn 10 ws) → H' p = some (.lst (vxs ws)) → (ws.map List.length).sum + ws.length ≤ 1000000 → rJoin K (.str (Str.ofString "\n")) [.ref p] H' Q := fun {ws} {H'} {p} g hr hp hs => ⟨_, 10, p, ws, rfl, e_nl, rfl, SqL.of hp, hs, q _ _ g hr⟩
  have sw := rows_sum l
  have tl := fun i => take_len (ps := sp 10 l) (g := List.length) i
  have sz : ∀ {a b : Nat}, a ≤ 2000 → b ≤ 2000 → a + b ≤ sizeLine := fun h1 h2 => Nat.le_trans (Nat.add_le_add h1 h2) (by decide)
  have k1 : ∀ j, (vxs ((sp 10 l).take j)).length ≤ 1001 := fun j => by rw [vxs_len, List.length_take]; omega
  have k2 : ∀ j, (vxs ((sp 10 l).drop j)).length ≤ 1001 := fun j => by rw [vxs_len, List.length_drop]; omega
  have hw := fun {p : List Nat} (hp : p ∈ sp 10 l) => Fit.row hF hp
  refine ⟨_, rfl, _, _, rfl, rfl, _, rfl, ite2 (fun _ => ?_) (fun c4 => ?_)⟩
  · have pm := List.getElem_mem hi3
    refine ⟨_, rfl, _, rfl, D, _, _, _, rfl, rfl, SqL.of d4, vxs_at hi3, _, rfl, _, _, rfl, rfl, ⟨by decide, by decide⟩, _, rfl, _, (sp 10 l)[i], _, _, rfl, rfl, (hw pm).1, ?_, fun x H5 s5 hx => ?_⟩
    · have := (hw pm).2.1; omega
    have hx := hx.rowOk hF pm
    refine ⟨rfl, _, rfl, _, rfl, _, rfl, D, _, rfl, SqL.of (s5 _ _ d4), fun p1 hp1 => ?_⟩
    rw [cut_upto]
    have w1 := same_new hp1 (.lst (vxs ((sp 10 l).take i)))
    refine ⟨_, rfl, (by show 1 ≤ sizeLine; decide), fun p2 hp2 => ?_⟩
    have w2 := same_new hp2 (.lst [vx x])
    refine ⟨p1, p2, _, [vx x], rfl, rfl, w2 _ _ upd_same, upd_same, sz (Nat.le_trans (k1 i) (by decide)) (show 1 ≤ 2000 by decide), fun p3 hp3 => ?_⟩
    rw [show vxs ((sp 10 l).take i) ++ [vx x] = vxs ((sp 10 l).take i ++ [x]) from vxs_app _ [x]] at *
    have w3 := same_new hp3 (.lst (vxs ((sp 10 l).take i ++ [x])))
    have w13 := s5.trans (w1.trans (w2.trans w3))
    refine ⟨_, rfl, _, rfl, _, _, rfl, rfl, _, rfl, D, _, rfl, SqL.of (w13 _ _ d4), fun p4 hp4 => ?_⟩
    rw [show ((i : Int) + 1) = ((i + 1 : Nat) : Int) from rfl, cut_on] at *
    have w4 := same_new hp4 (.lst (vxs ((sp 10 l).drop (i + 1))))
    refine ⟨p3, p4, _, _, rfl, rfl, w4 _ _ upd_same, upd_same, sz ?_ (Nat.le_trans (k2 _) (by decide)), fun p5 hp5 => ?_⟩
    · rw [vxs_len, List.length_append, List.length_take, List.length_singleton]; omega
    rw [vxs_app] at *
    refine fin (s4.trans (w13.trans (w4.trans (same_new hp5 _)))) (fit_mid hF hx (.inr rfl)) upd_same ?_
    have h1 := (tl i).1
    have h2 := (tl (i + 1)).2
    have h3 := hx.n
    simp only [List.map_append, List.sum_append, List.map_cons, List.map_nil, List.sum_cons, List.sum_nil, List.length_append, List.length_cons, List.length_nil, List.length_take, List.length_drop]
    omega
  refine ⟨_, rfl, rfl, _, rfl, ite2 (fun _ => ?_) (fun _ => ?_)⟩
  · refine ⟨rfl, _, rfl, _, rfl, _, rfl, D, _, rfl, SqL.of d4, fun p1 hp1 => ?_⟩
    rw [cut_upto]
    have w1 := same_new hp1 (.lst (vxs ((sp 10 l).take i)))
    refine ⟨_, rfl, _, rfl, _, _, rfl, rfl, _, rfl, D, _, rfl, SqL.of (w1 _ _ d4), fun p4 hp4 => ?_⟩
    rw [show ((i : Int) + 1) = ((i + 1 : Nat) : Int) from rfl, cut_on] at *
    have w4 := same_new hp4 (.lst (vxs ((sp 10 l).drop (i + 1))))
    refine ⟨p1, p4, _, _, rfl, rfl, w4 _ _ upd_same, upd_same, sz (Nat.le_trans (k1 i) (by decide)) (Nat.le_trans (k2 _) (by decide)), fun p5 hp5 => ?_⟩
    rw [vxs_app] at *
    refine fin (s4.trans (w1.trans (w4.trans (same_new hp5 _)))) (fit_out hF i) upd_same ?_
    have h1 := (tl i).1
    have h2 := (tl (i + 1)).2
    simp only [List.map_append, List.sum_append, List.length_append, List.length_take, List.length_drop]
    omega
  refine ⟨_, rfl, rfl, _, rfl, ite2 (fun _ => ?_) (fun _ => ?_)⟩
  · refine ⟨rfl, _, rfl, _, rfl, _, rfl, D, _, rfl, SqL.of d4, fun p1 hp1 => ?_⟩
    rw [cut_upto]
    have w1 := same_new hp1 (.lst (vxs ((sp 10 l).take i)))
    have hx := hF.rowOk (List.getElem_mem hj3)
    refine ⟨_, rfl, _, rfl, D, _, _, _, rfl, rfl, SqL.of (w1 _ _ d4), vxs_at hj3, (by show 1 ≤ sizeLine; decide), fun p2 hp2 => ?_⟩
    generalize (sp 10 l)[j] = x at hx hp2 ⊢
    have w2 := same_new hp2 (.lst [vx x])
    refine ⟨p1, p2, _, [vx x], rfl, rfl, w2 _ _ upd_same, upd_same, sz (Nat.le_trans (k1 i) (by decide)) (show 1 ≤ 2000 by decide), fun p3 hp3 => ?_⟩
    rw [show vxs ((sp 10 l).take i) ++ [vx x] = vxs ((sp 10 l).take i ++ [x]) from vxs_app _ [x]] at *
    have w3 := same_new hp3 (.lst (vxs ((sp 10 l).take i ++ [x])))
    have w13 := w1.trans (w2.trans w3)
    refine ⟨_, rfl, _, rfl, _, rfl, D, _, rfl, SqL.of (w13 _ _ d4), fun p4 hp4 => ?_⟩
    rw [cut_on]
    have w4 := same_new hp4 (.lst (vxs ((sp 10 l).drop i)))
    refine ⟨p3, p4, _, _, rfl, rfl, w4 _ _ upd_same, upd_same, sz ?_ (Nat.le_trans (k2 i) (by decide)), fun p5 hp5 => ?_⟩
    · rw [vxs_len, List.length_append, List.length_take, List.length_singleton]; omega
    rw [vxs_app] at *
    refine fin (s4.trans (w13.trans (w4.trans (same_new hp5 _)))) (fit_mid hF hx (.inl rfl)) upd_same ?_
    have h1 := (tl i).1
    have h2 := (tl i).2
    have h3 := hx.n
    simp only [List.map_append, List.sum_append, List.map_cons, List.map_nil, List.sum_cons, List.sum_nil, List.length_append, List.length_cons, List.length_nil, List.length_take, List.length_drop]
    omega
  refine ⟨_, rfl, rfl, _, rfl, ite2 (fun _ => ?_) (fun _ => ?_)⟩
  · refine ⟨_, rfl, _, rfl, D, _, _, _, rfl, rfl, SqL.of d4, vxs_at hj3, _, rfl, _, rfl, D, _, _, _, rfl, rfl, SqL.of d4, vxs_at hi3, (by show 2 ≤ sizeLine; decide), fun p1 hp1 => ?_⟩
    have w1 := same_new hp1 (.tup [vx (sp 10 l)[j], vx (sp 10 l)[i]])
    refine ⟨p1, _, rfl, SqT.of upd_same, rfl, _, _, rfl, _, rfl, _, rfl, D, _, _, i, rfl, rfl, w1 _ _ d4, ixN_ok (by rw [vl]; exact hi3) rfl, _, _, rfl, _, rfl, _, rfl, D, _, _, j, rfl, rfl, upd_same, ixN_ok (by rw [List.length_set, vl]; exact hj3) rfl, rfl, ?_⟩
    have e : (((vxs (sp 10 l)).set i (vx (sp 10 l)[j])).set j (vx (sp 10 l)[i])) = vxs (((sp 10 l).set i (sp 10 l)[j]).set j (sp 10 l)[i]) := by simp only [List.map_set]
    refine ⟨rfl, _, rfl, ?_⟩
    rw [e]
    refine fin (((s4.trans w1).fresh hD _).fresh hD _) (fit_swap hF hi3 hj3) upd_same ?_
    have e1 := sum_set (g := List.length) (sp 10 l) i hi3 (sp 10 l)[j]
    have e2 := sum_set (g := List.length) ((sp 10 l).set i (sp 10 l)[j]) j (by rw [List.length_set]; exact hj3) (sp 10 l)[i]
    have r1 := (hw (List.getElem_mem hi3)).2.1
    have r2 := (hw (List.getElem_mem hj3)).2.1
    rw [List.length_set, List.length_set]
    omega
  dsimp only [tNext]
  refine viaN (fun σ' H' => H4 = H' ∧ σ' = [some (vx l), some (.int n), some (.int c), some (.ref D), some (vn i), some (vn j), some (vn wy), none, some (.str (Str.ofString " 0123456789<>-lrenws\n+.x")), none, none]) (fun N n1 => n1 _ _ ⟨rfl, rfl⟩) ?_
  rintro σ' H' ⟨rfl, rfl⟩
  refine viaN (fun σ' H' => H4 = H' ∧ ∃ z, σ' = [some (vx l), some (.int n), some (.int c), some (.ref D), some (vn i), some (vn j), some (vn wy), none, some (.str z), none, none] ∧ sgnOk z = true) (fun N n1 => ?_) ?_
  · refine ⟨_, rfl, _, _, rfl, rfl, (by show (0 : Int) < 4; decide), rfl, _, rfl, ite2 (fun _ => ?_) (fun _ => ?_)⟩
    · exact n1 _ _ ⟨rfl, _, rfl, sg2⟩
    · exact n1 _ _ ⟨rfl, _, rfl, sg1⟩
  rintro σ' H' ⟨rfl, z, rfl, hz⟩
  simp only [sgnOk, Bool.and_eq_true, decide_eq_true_eq, List.all_eq_true] at hz
  obtain ⟨⟨z1, z2⟩, z3⟩ := hz
  have zl : z.length = z.cps.toList.length := by simp [Str.length]
  have zp : (0 : Int) < ((z.length : Nat) : Int) := by rw [zl]; omega
  obtain ⟨k, hk⟩ := Int.eq_ofNat_of_zero_le (Int.emod_nonneg (c / 4) (show ((z.length : Nat) : Int) ≠ 0 by omega))
  have hk2 := Int.emod_lt_of_pos (c / 4) zp
  rw [hk] at hk2
  have hk3 : k < z.cps.toList.length := by rw [← zl]; omega
  have zsz : z.length ≤ sizeLine := by rw [zl]; exact Nat.le_trans z3 (by decide)
  have ez : atI z.cps.toList (c / 4 % ((z.length : Nat) : Int)) = some z.cps.toList[k] := by rw [hk]; exact atI_nat (List.getElem?_eq_getElem hk3)
  refine ⟨_, rfl, _, rfl, _, _, rfl, rfl, ⟨by decide, by decide⟩, _, rfl, z, rfl, zsz, _, _, rfl, rfl, zp, z, _, _, rfl, rfl, zsz, ez, ?_⟩
  have hs1 : z.cps.toList[k] < 128 := z1 _ (List.getElem_mem hk3)
  generalize z.cps.toList[k] = sg at hs1 ⊢
  show gName 9 (V.str (sT [sg])) _ _ _
  have lsz : (sT l).length ≤ sizeLine := by rw [sT_len]; exact Nat.le_trans (show l.length ≤ 1000 by omega) (by decide)
  have lp : (0 : Int) < (((sT l).length : Nat) : Int) + 1 := by omega
  obtain ⟨p, hp⟩ := Int.eq_ofNat_of_zero_le (Int.emod_nonneg (n / 16) (show (((sT l).length : Nat) : Int) + 1 ≠ 0 by omega))
  refine ⟨_, rfl, _, _, rfl, rfl, ⟨by decide, by decide⟩, _, rfl, _, rfl, lsz, _, _, rfl, rfl, _, _, rfl, rfl, lp, ?_⟩
  show gName 10 (V.int (n / 16 % ((((sT l).length : Nat) : Int) + 1))) _ _ _
  rw [hp]
  have l6 : l.length ≤ 1000000 := by omega
  have tk : (l.take p).length ≤ 1000 := by rw [List.length_take]; omega
  have dk : ∀ p, (l.drop p).length ≤ 1000 := fun p => by rw [List.length_drop]; omega
  refine ⟨_, rfl, _, _, rfl, rfl, _, rfl, ite2 (fun _ => ?_) (fun c9 => ?_)⟩
  · refine ⟨_, rfl, _, rfl, _, rfl, _, l, rfl, rfl, l6, _, rfl, _, _, rfl, rfl, ?_, _, rfl, _, rfl, _, rfl, _, l, rfl, rfl, l6, _, _, rfl, rfl, ?_, ?_⟩
    · rw [cut_to]; exact sz_of (by simp only [List.length_singleton]; omega)
    · rw [cut_to, cut_from, sT_app]; exact sz_of (by have := dk p; simp only [List.length_append, List.length_singleton]; omega)
    · rw [cut_to, cut_from, sT_app, sT_app]
      exact q _ _ s4 (fit_sign hF (by simp) (fun c hc => by rw [List.mem_singleton.mp hc]; exact hs1) (Nat.le_refl p))
  refine ⟨_, rfl, rfl, _, rfl, ite2 (fun _ => ?_) (fun c10 => ?_)⟩
  · refine ⟨_, rfl, _, rfl, _, rfl, _, l, rfl, rfl, l6, ?_⟩
    rw [cut_to]
    exact q _ _ s4 (fit_cut hF p)
  have w10 : 10 ≤ wy := by
    have c9 : ¬ decide ((wy : Int) < 9) = true := c9
    have c10 : ¬ decide (V.int (wy : Int) = V.int 9) = true := c10
    rw [decide_eq_true_iff] at c9 c10
    have : ¬ ((wy : Int) = 9) := fun z => c10 (by rw [z])
    omega
  obtain ⟨r, hr1, hr2⟩ : ∃ r : Nat, (wy : Int) - 10 = (r : Int) ∧ r ≤ 1 := ⟨wy - 10, by omega, by omega⟩
  have fl : (List.replicate r [sg]).flatten.length ≤ 1 ∧ ∀ c ∈ (List.replicate r [sg]).flatten, c < 128 := by
    match r, hr2 with
    | 0, _ => exact ⟨by simp, fun c hc => by simp at hc⟩
    | 1, _ => exact ⟨by simp, fun c hc => by simp at hc; rw [hc]; exact hs1⟩
  refine ⟨_, rfl, _, rfl, _, rfl, _, l, rfl, rfl, l6, _, rfl, _, rfl, _, _, rfl, rfl, _, [sg], r, rfl, rfl, (show V.int ((wy : Int) - 10) = V.int (r : Int) by rw [hr1]), by simp; omega, by omega, _, _, rfl, rfl, ?_, _, rfl, _, rfl, _, _, rfl, rfl, _, rfl, _, l, rfl, rfl, l6, _, _, rfl, rfl, ?_, ?_⟩
  · rw [cut_to]; exact sz_of (by have := fl.1; omega)
  · rw [cut_to, show ((p : Int) + 1) = ((p + 1 : Nat) : Int) from rfl, cut_from, sT_app]; exact sz_of (by have := dk (p + 1); have := fl.1; simp only [List.length_append]; omega)
  · rw [cut_to, show ((p : Int) + 1) = ((p + 1 : Nat) : Int) from rfl, cut_from, sT_app, sT_app]
    exact q _ _ s4 (fit_sign hF fl.1 fl.2 (Nat.le_succ p))
end K74

namespace K74
open PySem L2 PyProof.Rows TX
variable {P : Program} {w : World} {K : PySem.W.Frag} {mg : Str → Option Value} {base : Heap} {t : Adr}
theorem fine_of {L R B : Nat} {l : List Nat} (h : Fit L R B l) (hL : L ≤ 1000) (hB : B ≤ 59) : Fine l ∧ ∀ r ∈ rows l, r.length ≤ 60 := by
  refine ⟨⟨h.a, Nat.le_trans h.n hL⟩, fun r hr => ?_⟩
  unfold rows at hr
  obtain ⟨p, hp, rfl⟩ := List.mem_map.mp hr
  have := (h.row hp).2.2
  rw [sp_len]; omega
theorem txt_fit {m : Int} {ts : List (Int × Int)} {os : List (List Int)} (h : Chart m ts os) (h1 : ts.length ≤ 16) (h2 : os.length ≤ 10) : Fit 600 21 4 (txt m ts os) := by
  have c := txt_cnt h
  have e := jn_sp 10 (txt m ts os)
  refine ⟨txt_asc h, txt_len h h1 h2, ?_, ?_⟩
  · rw [← e]; exact MR.jn fun p hp => (MR.one p).mono (by rw [Wt.len]; exact (c p hp).1)
  · rw [← e]; exact MR.jn fun p hp => (MR.one p).mono (by rw [Wt.cnt]; exact (c p hp).2)
def spLaw (K : PySem.W.Frag) : Sp := fun vs H Q _ => ∃ (a : Addr) (ns : List Int), vs = [.ref a] ∧ SqL K H a (ns.map V.int) ∧ ns.length ≤ 63 ∧ ∀ H', Q (.bl true) H'
theorem ok_law (T : Txt K mg t) : FnOk P w K mg base CX0 lawK t.a_law t.d_law ["_law_script"] (spLaw K) := by
  have G_l_at := ok_at (P := P) (w := w) (base := base) T
  have G_l_mix := ok_mix (P := P) (w := w) (base := base) T
  have G_l_any_map := ok_any (P := P) (w := w) (base := base) T
  have G_l_map_text := ok_maptext (P := P) (w := w) (base := base) T
  have G_l_bent := ok_bent (P := P) (w := w) (base := base) T
  have G_l_right := ok_right (P := P) (w := w) (base := base) T
  have G_read_map := ok_rmT (P := P) (w := w) (base := base) T
  refine T.F_law.ok sc_law (fun vs H Q E h => ?_) (fun cdv A outer s H vs Q E hr h => ?_)
  · obtain ⟨a, ns, rfl, _⟩ := h; rfl
  obtain ⟨a, ns, rfl, hS, hl, q⟩ := h
  have nd := sc_law.nd
  refine ⟨_, (pss_cons (ps_set (i := 1) nd rfl (Or.inl rfl) (pe_call G_l_any_map (hr.mono (by decide)) rfl T.m_l_any_map T.k_l_any_map T.b_l_any_map .nil pass0 (pa_cons (pv 0) pa_nil)))
    (pss_cons (ps_set (i := 2) nd rfl (Or.inl rfl) (pe_call G_l_map_text (hr.mono (by decide)) rfl T.m_l_map_text T.k_l_map_text T.b_l_map_text .nil pass0 (pa_cons (pv 1) pa_nil)))
    (pss_cons (ps_for PassesOwn.never rfl (pi_range1 rfl T.z_range (pa_cons pe_int pa_nil)) (pg_name (i := 3) nd rfl (Or.inl rfl)) (pss_cons (ps_set (i := 4) nd rfl (Or.inl rfl) (pe_call G_l_at (hr.mono (by decide)) rfl T.m_l_at T.k_l_at T.b_l_at .nil pass0 (pa_cons (pv 0) (pa_cons (pe_op op_add pe_int (pe_op op_mul pe_int (pv 3))) pa_nil))))
    (pss_cons (ps_set (i := 5) nd rfl (Or.inl rfl) (pe_call G_l_at (hr.mono (by decide)) rfl T.m_l_at T.k_l_at T.b_l_at .nil pass0 (pa_cons (pv 0) (pa_cons (pe_op op_add pe_int (pe_op op_mul pe_int (pv 3))) pa_nil))))
    (pss_cons (ps_set (i := 6) nd rfl (Or.inl rfl) (pe_call G_l_bent (hr.mono (by decide)) rfl T.m_l_bent T.k_l_bent T.b_l_bent .nil pass0 (pa_cons (pv 2) (pa_cons (pe_call G_l_mix (hr.mono (by decide)) rfl T.m_l_mix T.k_l_mix T.b_l_mix .nil pass0 (pa_cons (pv 4) (pa_cons pe_int pa_nil))) (pa_cons (pe_call G_l_mix (hr.mono (by decide)) rfl T.m_l_mix T.k_l_mix T.b_l_mix .nil pass0 (pa_cons (pv 5) (pa_cons pe_int pa_nil))) pa_nil)))))
    (pss_cons (ps_set (i := 7) nd rfl (Or.inl rfl) (pe_call G_l_bent (hr.mono (by decide)) rfl T.m_l_bent T.k_l_bent T.b_l_bent .nil pass0 (pa_cons (pv 6) (pa_cons (pe_call G_l_mix (hr.mono (by decide)) rfl T.m_l_mix T.k_l_mix T.b_l_mix .nil pass0 (pa_cons (pv 4) (pa_cons pe_int pa_nil))) (pa_cons (pe_call G_l_mix (hr.mono (by decide)) rfl T.m_l_mix T.k_l_mix T.b_l_mix .nil pass0 (pa_cons (pv 5) (pa_cons pe_int pa_nil))) pa_nil)))))
    (pss_one (ps_if (PW.pt (pw_or (pt_not (pt_truth (pe_call G_l_right (hr.mono (by decide)) rfl T.m_l_right T.k_l_right T.b_l_right .nil pass0 (pa_cons (pv 6) pa_nil)) (fun _ => rfl))) (pw_or1 (pt_not (pt_truth (pe_call G_l_right (hr.mono (by decide)) rfl T.m_l_right T.k_l_right T.b_l_right .nil pass0 (pa_cons (pv 7) pa_nil)) (fun _ => rfl)))))) (pss_one (ps_ret pe_bl)) pss_nil)))))))
    (pss_one (ps_ret (pe_and (pe_call G_l_right (hr.mono (by decide)) rfl T.m_l_right T.k_l_right T.b_l_right .nil pass0 (pa_cons (pv 2) pa_nil)) (pe_one (pe_cmpR (op_eqD hr.units) (pe_call G_read_map (hr.mono (by decide)) rfl T.m_read_map T.k_read_map T.b_read_map .nil passF (pa_cons (pv 2) pa_nil)) (pv 1) (nomark _))))))))), ?_⟩
  refine ⟨_, rfl, a, ns, rfl, hS, fun r n ts os H1 g1 hW hM n10 t16 => ?_⟩
  have hC := chart_of hM n10 t16
  have o10 : os.length ≤ 10 := by have := hM.2.2.1; omega
  refine ⟨_, rfl, r, n, ts, os, rfl, hW, hC, t16, o10, fun H2 g2 => ?_⟩
  have hF := txt_fit hC t16 o10
  have hgood : Good (rows (txt n ts os)) n ts os := txt_good hC hM.2.2.1 (fun z => by have := hM.2.2.1; have := hM.1.1.1; rw [z] at *; simp at *; omega)
  generalize htx : txt n ts os = tx at hF hgood ⊢
  obtain ⟨f0, r0⟩ := fine_of hF (by decide) (by decide)
  have g12 := g1.trans g2
  refine ⟨4, rfl, by decide, by decide, for_range (lo := 0) (n := 4) (fun i σ H' => (∃ v3 v4 v5 v6 v7, σ = [some (.ref a), some (.ref r), some (vx tx), v3, v4, v5, v6, v7]) ∧ Same H2 H') ⟨⟨_, _, _, _, _, rfl⟩, Same.refl _⟩ ?_ ?_⟩
  · rintro i σ H3 hi ⟨⟨v3, v4, v5, v6, v7, rfl⟩, g3⟩
    have gS := g12.trans g3
    have i4 : i < 4 := hi
    refine ⟨_, rfl, _, rfl, _, _, rfl, rfl, .inl ⟨by decide, by decide⟩, _, _, rfl, rfl, a, ns, _, rfl, gS.seq hS, by omega, fun c1 => ?_⟩
    refine ⟨_, rfl, _, rfl, _, _, rfl, rfl, .inl ⟨by decide, by decide⟩, _, _, rfl, rfl, a, ns, _, rfl, gS.seq hS, by omega, fun c2 => ?_⟩
    refine ⟨_, rfl, _, rfl, c1, 0, rfl, by decide, by decide, fun m1 _ _ => ⟨_, rfl, c2, 0, rfl, by decide, by decide, fun m2 _ _ => ⟨_, tx, m1, m2, 600, 21, 4, rfl, rfl, hF, by decide, by decide, fun l1 H4 g4 hF1 => ?_⟩⟩⟩
    refine ⟨_, rfl, _, rfl, c1, 1, rfl, by decide, by decide, fun m3 _ _ => ⟨_, rfl, c2, 1, rfl, by decide, by decide, fun m4 _ _ => ⟨_, l1, m3, m4, _, _, _, rfl, rfl, hF1, by decide, by decide, fun l2 H5 g5 hF2 => ?_⟩⟩⟩
    obtain ⟨f1, r1⟩ := fine_of hF1 (by decide) (by decide)
    obtain ⟨f2, r2⟩ := fine_of hF2 (by decide) (by decide)
    refine ⟨_, rfl, _, l1, rfl, rfl, f1, r1, fun H6 g6 => ⟨_, rfl, iteF ⟨_, rfl, _, l2, rfl, rfl, f2, r2, fun H7 g7 => ⟨_, rfl, iteF ?_⟩⟩⟩⟩
    exact ⟨⟨_, _, _, _, _, rfl⟩, g3.trans (g4.trans (g5.trans (g6.trans g7)))⟩
  · rintro σ H3 ⟨⟨v3, v4, v5, v6, v7, rfl⟩, g3⟩
    refine ⟨_, rfl, _, tx, rfl, rfl, f0, r0, fun H4 g4 => ⟨_, rfl, iteT ⟨_, rfl, _, tx, rfl, rfl, f0, fun m ts' os' hG => ?_, fun z => absurd ⟨_, _, _, hgood⟩ z⟩⟩⟩
    obtain ⟨rfl, rfl, rfl⟩ := hG.one hgood
    refine ⟨hM, fun r' H5 g5 hW' => ?_⟩
    have hW5 := hW.same (g2.trans (g3.trans (g4.trans g5)))
    refine ⟨_, rfl, _, _, bd_webI hW', bd_webI hW5, webI_shaped _ _ _, webI_shaped _ _ _, ?_⟩
    rw [webI_eqv]
    exact q _
end K74

def PySem.W.Fast.tw4577704079454450906 : Nat := 0
def PySem.W.Fast.tw15033965537045894011 : Nat := 0
def PySem.W.Fast.tw5784067874434580694 : Nat := 0
def PySem.W.Fast.tw17671809338290828165 : Nat := 0
def PySem.W.Fast.tw14423799035998426346 : Nat := 0
def PySem.W.Fast.tw1766891444027910131 : Nat := 0
def PySem.W.Fast.tw10837037570571845938 : Nat := 0
def PySem.W.Fast.tw12524898086552017778 : Nat := 0
def PySem.W.Fast.tw15367958751381874427 : Nat := 0
def PySem.W.Fast.tw11836352519082329249 : Nat := 0
def PySem.W.Fast.tw8675982560701567200 : Nat := 0
def PySem.W.Fast.tw12626253353629706615 : Nat := 0
def PySem.W.Fast.tw4420265278859029713 : Nat := 0
def PySem.W.Fast.tw15162492709104387421 : Nat := 0
def PySem.W.Fast.tw16207916043689120440 : Nat := 0
def PySem.W.Fast.tw8726808967925572975 : Nat := 0
def PySem.W.Fast.tw64966027454992820 : Nat := 0
def PySem.W.Fast.tw6562032445374723220 : Nat := 0
def PySem.W.Fast.tw1049966803762195373 : Nat := 0
def PySem.W.Fast.tw17324158139280639764 : Nat := 0
def PySem.W.Fast.tw9462674366455069835 : Nat := 0
def PySem.W.Fast.tw17306772568822964268 : Nat := 0
def PySem.W.Fast.tw17088357928564539767 : Nat := 0
def PySem.W.Fast.tw14716225901462999032 : Nat := 0
def PySem.W.Fast.tw9907674980463622383 : Nat := 0
def PySem.W.Fast.tw14645404795855958092 : Nat := 0
def PySem.W.Fast.tw2582462187224502179 : Nat := 0
def PySem.W.Fast.tw7319310947893801796 : Nat := 0
def PySem.W.Fast.tw13267442509885743110 : Nat := 0
def PySem.W.Fast.tw1099859327650741665 : Nat := 0
def PySem.W.Fast.tw11758726362647484700 : Nat := 0
def PySem.W.Fast.tw1536277408981325940 : Nat := 0
def PySem.W.Fast.tw3803847265434893024 : Nat := 0
def PySem.W.Fast.tw4755909855763699837 : Nat := 0
def PySem.W.Fast.tw10576643227510337543 : Nat := 0
def PySem.W.Fast.tw15110090123030947674 : Nat := 0
def PySem.W.Fast.tw9078372780169856819 : Nat := 0
def PySem.W.Fast.tw7549606646929663448 : Nat := 0
def PySem.W.Fast.tw6557409934721049772 : Nat := 0
def PySem.W.Fast.tw17824547375909087265 : Nat := 0
def PySem.W.Fast.tw15692732759417073572 : Nat := 0
def PySem.W.Fast.tw17206780532130843801 : Nat := 0

namespace L2
open PySem
theorem len0 {p : List Value → Prop} (h : p []) : ∀ us : List Value, us.length = 0 → p us
  | [], _ => h
theorem lenS {n : Nat} {p : List Value → Prop} (h : ∀ a us, us.length = n → p (a :: us)) : ∀ us : List Value, us.length = n + 1 → p us
  | a :: us, e => h a us (Nat.succ.inj e)
theorem len1 {p : List Value → Prop} (h : ∀ a, p [a]) : ∀ us : List Value, us.length = 1 → p us := lenS fun a => len0 (h a)
theorem len2 {p : List Value → Prop} (h : ∀ a b, p [a, b]) : ∀ us : List Value, us.length = 2 → p us := lenS fun a => lenS fun b => len0 (h a b)
theorem len3 {p : List Value → Prop} (h : ∀ a b c, p [a, b, c]) : ∀ us : List Value, us.length = 3 → p us := lenS fun a => lenS fun b => lenS fun c => len0 (h a b c)
theorem len4 {p : List Value → Prop} (h : ∀ a b c d, p [a, b, c, d]) : ∀ us : List Value, us.length = 4 → p us := lenS fun a => lenS fun b => lenS fun c => lenS fun d => len0 (h a b c d)
end L2
namespace K74
open PySem L2
theorem all_mk {l : PySem.W.OpenLaw} {w : World} {K : PySem.W.Frag} {h : Heap} {mg : Str → Option Value} {fa f0 f1 f2 f3 f4 f5 f6 f7 f8 f9 f10 f11 f12 f13 f14 f15 f16 f17 f18 f19 f20 f21 f22 f23 f24 f25 f26 f27 f28 f29 f30 : Addr} (X : K.In h) (G : h.Ns mainGlobals mg) (hfa : mg "law" = some (.ref fa)) {q_MOST_PLACES q_MOST_TIES q_MOST_ENDS_AT_A_PLACE q_MOST_FIGURES q_FIGURES q_SIDES : Tok} {c_BendError c_NoMap c_NotFlat c_NoLand c_NoNet c_NoShape c_NoLaid c_NoText c_NoPicture c_NoRow c_NoThing : Addr}
    {od0 an0 od1 an1 od2 an2 od3 an3 od4 an4 od5 an5 od6 an6 od7 an7 od8 an8 od9 an9 od10 an10 od11 an11 od12 an12 od13 an13 od14 an14 od15 an15 od16 an16 od17 an17 od18 an18 od19 an19 od20 an20 od21 an21 od22 an22 od23 an23 od24 an24 od25 an25 od26 an26 od27 an27 od28 an28 od29 an29 od30 an30 : Option Addr} {sl0 sl1 sl2 sl3 sl4 sl5 sl6 sl7 sl8 sl9 sl10 sl11 sl12 sl13 sl14 sl15 sl16 sl17 sl18 sl19 sl20 sl21 sl22 sl23 sl24 sl25 sl26 sl27 sl28 sl29 sl30 : Array (Option Value)} {oc0 kV0 dc0 pm0 cd0 ct0 oc1 kV1 dc1 pm1 cd1 ct1 oc2 kV2 dc2 pm2 cd2 ct2 oc3 kV3 dc3 pm3 cd3 ct3 oc4 kV4 dc4 pm4 cd4 ct4 oc5 kV5 dc5 pm5 cd5 ct5 oc6 kV6 dc6 pm6 cd6 ct6 oc7 kV7 dc7 pm7 cd7 ct7 oc8 kV8 dc8 pm8 cd8 ct8 oc9 kV9 dc9 pm9 cd9 ct9 oc10 kV10 dc10 pm10 cd10 ct10 oc11 kV11 dc11 pm11 cd11 ct11 oc12 kV12 dc12 pm12 cd12 ct12 oc13 kV13 dc13 pm13 cd13 ct13 oc14 kV14 dc14 pm14 cd14 ct14 oc15 kV15 dc15 pm15 cd15 ct15 oc16 kV16 dc16 pm16 cd16 ct16 oc17 kV17 dc17 pm17 cd17 ct17 oc18 kV18 dc18 pm18 cd18 ct18 oc19 kV19 dc19 pm19 cd19 ct19 oc20 kV20 dc20 pm20 cd20 ct20 oc21 kV21 dc21 pm21 cd21 ct21 oc22 kV22 dc22 pm22 cd22 ct22 oc23 kV23 dc23 pm23 cd23 ct23 oc24 kV24 dc24 pm24 cd24 ct24 oc25 kV25 dc25 pm25 cd25 ct25 oc26 kV26 dc26 pm26 cd26 ct26 oc27 kV27 dc27 pm27 cd27 ct27 oc28 kV28 dc28 pm28 cd28 ct28 oc29 kV29 dc29 pm29 cd29 ct29 oc30 kV30 dc30 pm30 cd30 ct30 : Value}
    (a0 : PySem.W.nsIn K mainGlobals "check_map" = some (some (.ref f0))) (l0 : K.lookup f0 = some ⟨oc0, od0, .func (PySem.W.fnOf "check_map" "check_map" (defArgs s_check_map) (defBody s_check_map) (defScope s_check_map) .none kV0 dc0 pm0 an0 cd0 ct0), sl0⟩) (c0 : PySem.W.codeIn K cd0 "check_map" = true) (k0 : PySem.W.keepIn K (.ref f0) = true)
    (a1 : PySem.W.nsIn K mainGlobals "ties_name_places" = some (some (.ref f1))) (l1 : K.lookup f1 = some ⟨oc1, od1, .func (PySem.W.fnOf "ties_name_places" "ties_name_places" (defArgs s_ties_name_places) (defBody s_ties_name_places) (defScope s_ties_name_places) .none kV1 dc1 pm1 an1 cd1 ct1), sl1⟩) (c1 : PySem.W.codeIn K cd1 "ties_name_places" = true) (k1 : PySem.W.keepIn K (.ref f1) = true)
    (a2 : PySem.W.nsIn K mainGlobals "orders_fit" = some (some (.ref f2))) (l2 : K.lookup f2 = some ⟨oc2, od2, .func (PySem.W.fnOf "orders_fit" "orders_fit" (defArgs s_orders_fit) (defBody s_orders_fit) (defScope s_orders_fit) .none kV2 dc2 pm2 an2 cd2 ct2), sl2⟩) (c2 : PySem.W.codeIn K cd2 "orders_fit" = true) (k2 : PySem.W.keepIn K (.ref f2) = true)
    (a3 : PySem.W.nsIn K mainGlobals "ends_at_places" = some (some (.ref f3))) (l3 : K.lookup f3 = some ⟨oc3, od3, .func (PySem.W.fnOf "ends_at_places" "ends_at_places" (defArgs s_ends_at_places) (defBody s_ends_at_places) (defScope s_ends_at_places) .none kV3 dc3 pm3 an3 cd3 ct3), sl3⟩) (c3 : PySem.W.codeIn K cd3 "ends_at_places" = true) (k3 : PySem.W.keepIn K (.ref f3) = true)
    (a4 : PySem.W.nsIn K mainGlobals "hangs_together" = some (some (.ref f4))) (l4 : K.lookup f4 = some ⟨oc4, od4, .func (PySem.W.fnOf "hangs_together" "hangs_together" (defArgs s_hangs_together) (defBody s_hangs_together) (defScope s_hangs_together) .none kV4 dc4 pm4 an4 cd4 ct4), sl4⟩) (c4 : PySem.W.codeIn K cd4 "hangs_together" = true) (k4 : PySem.W.keepIn K (.ref f4) = true)
    (a5 : PySem.W.nsIn K mainGlobals "read_number" = some (some (.ref f5))) (l5 : K.lookup f5 = some ⟨oc5, od5, .func (PySem.W.fnOf "read_number" "read_number" (defArgs s_read_number) (defBody s_read_number) (defScope s_read_number) .none kV5 dc5 pm5 an5 cd5 ct5), sl5⟩) (c5 : PySem.W.codeIn K cd5 "read_number" = true) (k5 : PySem.W.keepIn K (.ref f5) = true)
    (a6 : PySem.W.nsIn K mainGlobals "read_numbers" = some (some (.ref f6))) (l6 : K.lookup f6 = some ⟨oc6, od6, .func (PySem.W.fnOf "read_numbers" "read_numbers" (defArgs s_read_numbers) (defBody s_read_numbers) (defScope s_read_numbers) .none kV6 dc6 pm6 an6 cd6 ct6), sl6⟩) (c6 : PySem.W.codeIn K cd6 "read_numbers" = true) (k6 : PySem.W.keepIn K (.ref f6) = true)
    (a7 : PySem.W.nsIn K mainGlobals "refuse_unless" = some (some (.ref f7))) (l7 : K.lookup f7 = some ⟨oc7, od7, .func (PySem.W.fnOf "refuse_unless" "refuse_unless" (defArgs s_refuse_unless) (defBody s_refuse_unless) (defScope s_refuse_unless) .none kV7 dc7 pm7 an7 cd7 ct7), sl7⟩) (c7 : PySem.W.codeIn K cd7 "refuse_unless" = true) (k7 : PySem.W.keepIn K (.ref f7) = true)
    (a8 : PySem.W.nsIn K mainGlobals "rows_of" = some (some (.ref f8))) (l8 : K.lookup f8 = some ⟨oc8, od8, .func (PySem.W.fnOf "rows_of" "rows_of" (defArgs s_rows_of) (defBody s_rows_of) (defScope s_rows_of) .none kV8 dc8 pm8 an8 cd8 ct8), sl8⟩) (c8 : PySem.W.codeIn K cd8 "rows_of" = true) (k8 : PySem.W.keepIn K (.ref f8) = true)
    (a9 : PySem.W.nsIn K mainGlobals "rows_from" = some (some (.ref f9))) (l9 : K.lookup f9 = some ⟨oc9, od9, .func (PySem.W.fnOf "rows_from" "rows_from" (defArgs s_rows_from) (defBody s_rows_from) (defScope s_rows_from) .none kV9 dc9 pm9 an9 cd9 ct9), sl9⟩) (c9 : PySem.W.codeIn K cd9 "rows_from" = true) (k9 : PySem.W.keepIn K (.ref f9) = true)
    (a10 : PySem.W.nsIn K mainGlobals "read_map" = some (some (.ref f10))) (l10 : K.lookup f10 = some ⟨oc10, od10, .func (PySem.W.fnOf "read_map" "read_map" (defArgs s_read_map) (defBody s_read_map) (defScope s_read_map) .none kV10 dc10 pm10 an10 cd10 ct10), sl10⟩) (c10 : PySem.W.codeIn K cd10 "read_map" = true) (k10 : PySem.W.keepIn K (.ref f10) = true)
    (a11 : PySem.W.nsIn K mainGlobals "read_so_many" = some (some (.ref f11))) (l11 : K.lookup f11 = some ⟨oc11, od11, .func (PySem.W.fnOf "read_so_many" "read_so_many" (defArgs s_read_so_many) (defBody s_read_so_many) (defScope s_read_so_many) .none kV11 dc11 pm11 an11 cd11 ct11), sl11⟩) (c11 : PySem.W.codeIn K cd11 "read_so_many" = true) (k11 : PySem.W.keepIn K (.ref f11) = true)
    (a12 : PySem.W.nsIn K mainGlobals "read_pair" = some (some (.ref f12))) (l12 : K.lookup f12 = some ⟨oc12, od12, .func (PySem.W.fnOf "read_pair" "read_pair" (defArgs s_read_pair) (defBody s_read_pair) (defScope s_read_pair) .none kV12 dc12 pm12 an12 cd12 ct12), sl12⟩) (c12 : PySem.W.codeIn K cd12 "read_pair" = true) (k12 : PySem.W.keepIn K (.ref f12) = true)
    (a13 : PySem.W.nsIn K mainGlobals "read_ends" = some (some (.ref f13))) (l13 : K.lookup f13 = some ⟨oc13, od13, .func (PySem.W.fnOf "read_ends" "read_ends" (defArgs s_read_ends) (defBody s_read_ends) (defScope s_read_ends) .none kV13 dc13 pm13 an13 cd13 ct13), sl13⟩) (c13 : PySem.W.codeIn K cd13 "read_ends" = true) (k13 : PySem.W.keepIn K (.ref f13) = true)
    (a14 : PySem.W.nsIn K mainGlobals "read_end" = some (some (.ref f14))) (l14 : K.lookup f14 = some ⟨oc14, od14, .func (PySem.W.fnOf "read_end" "read_end" (defArgs s_read_end) (defBody s_read_end) (defScope s_read_end) .none kV14 dc14 pm14 an14 cd14 ct14), sl14⟩) (c14 : PySem.W.codeIn K cd14 "read_end" = true) (k14 : PySem.W.keepIn K (.ref f14) = true)
    (a15 : PySem.W.nsIn K mainGlobals "_law_at" = some (some (.ref f15))) (l15 : K.lookup f15 = some ⟨oc15, od15, .func (PySem.W.fnOf "_law_at" "_law_at" (defArgs s_l_at) (defBody s_l_at) (defScope s_l_at) .none kV15 dc15 pm15 an15 cd15 ct15), sl15⟩) (c15 : PySem.W.codeIn K cd15 "_law_at" = true) (k15 : PySem.W.keepIn K (.ref f15) = true)
    (a16 : PySem.W.nsIn K mainGlobals "_law_mix" = some (some (.ref f16))) (l16 : K.lookup f16 = some ⟨oc16, od16, .func (PySem.W.fnOf "_law_mix" "_law_mix" (defArgs s_l_mix) (defBody s_l_mix) (defScope s_l_mix) .none kV16 dc16 pm16 an16 cd16 ct16), sl16⟩) (c16 : PySem.W.codeIn K cd16 "_law_mix" = true) (k16 : PySem.W.keepIn K (.ref f16) = true)
    (a17 : PySem.W.nsIn K mainGlobals "_law_hung" = some (some (.ref f17))) (l17 : K.lookup f17 = some ⟨oc17, od17, .func (PySem.W.fnOf "_law_hung" "_law_hung" (defArgs s_l_hung) (defBody s_l_hung) (defScope s_l_hung) .none kV17 dc17 pm17 an17 cd17 ct17), sl17⟩) (c17 : PySem.W.codeIn K cd17 "_law_hung" = true) (k17 : PySem.W.keepIn K (.ref f17) = true)
    (a18 : PySem.W.nsIn K mainGlobals "_law_any_map" = some (some (.ref f18))) (l18 : K.lookup f18 = some ⟨oc18, od18, .func (PySem.W.fnOf "_law_any_map" "_law_any_map" (defArgs s_l_any_map) (defBody s_l_any_map) (defScope s_l_any_map) .none kV18 dc18 pm18 an18 cd18 ct18), sl18⟩) (c18 : PySem.W.codeIn K cd18 "_law_any_map" = true) (k18 : PySem.W.keepIn K (.ref f18) = true)
    (a19 : PySem.W.nsIn K mainGlobals "_law_end_text" = some (some (.ref f19))) (l19 : K.lookup f19 = some ⟨oc19, od19, .func (PySem.W.fnOf "_law_end_text" "_law_end_text" (defArgs s_l_end_text) (defBody s_l_end_text) (defScope s_l_end_text) .none kV19 dc19 pm19 an19 cd19 ct19), sl19⟩) (c19 : PySem.W.codeIn K cd19 "_law_end_text" = true) (k19 : PySem.W.keepIn K (.ref f19) = true)
    (a20 : PySem.W.nsIn K mainGlobals "_law_map_text" = some (some (.ref f20))) (l20 : K.lookup f20 = some ⟨oc20, od20, .func (PySem.W.fnOf "_law_map_text" "_law_map_text" (defArgs s_l_map_text) (defBody s_l_map_text) (defScope s_l_map_text) .none kV20 dc20 pm20 an20 cd20 ct20), sl20⟩) (c20 : PySem.W.codeIn K cd20 "_law_map_text" = true) (k20 : PySem.W.keepIn K (.ref f20) = true)
    (a21 : PySem.W.nsIn K mainGlobals "_law_bent_row" = some (some (.ref f21))) (l21 : K.lookup f21 = some ⟨oc21, od21, .func (PySem.W.fnOf "_law_bent_row" "_law_bent_row" (defArgs s_l_bent_row) (defBody s_l_bent_row) (defScope s_l_bent_row) .none kV21 dc21 pm21 an21 cd21 ct21), sl21⟩) (c21 : PySem.W.codeIn K cd21 "_law_bent_row" = true) (k21 : PySem.W.keepIn K (.ref f21) = true)
    (a22 : PySem.W.nsIn K mainGlobals "_law_bent" = some (some (.ref f22))) (l22 : K.lookup f22 = some ⟨oc22, od22, .func (PySem.W.fnOf "_law_bent" "_law_bent" (defArgs s_l_bent) (defBody s_l_bent) (defScope s_l_bent) .none kV22 dc22 pm22 an22 cd22 ct22), sl22⟩) (c22 : PySem.W.codeIn K cd22 "_law_bent" = true) (k22 : PySem.W.keepIn K (.ref f22) = true)
    (a23 : PySem.W.nsIn K mainGlobals "_law_number" = some (some (.ref f23))) (l23 : K.lookup f23 = some ⟨oc23, od23, .func (PySem.W.fnOf "_law_number" "_law_number" (defArgs s_l_number) (defBody s_l_number) (defScope s_l_number) .none kV23 dc23 pm23 an23 cd23 ct23), sl23⟩) (c23 : PySem.W.codeIn K cd23 "_law_number" = true) (k23 : PySem.W.keepIn K (.ref f23) = true)
    (a24 : PySem.W.nsIn K mainGlobals "_law_end" = some (some (.ref f24))) (l24 : K.lookup f24 = some ⟨oc24, od24, .func (PySem.W.fnOf "_law_end" "_law_end" (defArgs s_l_end) (defBody s_l_end) (defScope s_l_end) .none kV24 dc24 pm24 an24 cd24 ct24), sl24⟩) (c24 : PySem.W.codeIn K cd24 "_law_end" = true) (k24 : PySem.W.keepIn K (.ref f24) = true)
    (a25 : PySem.W.nsIn K mainGlobals "_law_read" = some (some (.ref f25))) (l25 : K.lookup f25 = some ⟨oc25, od25, .func (PySem.W.fnOf "_law_read" "_law_read" (defArgs s_l_read) (defBody s_l_read) (defScope s_l_read) .none kV25 dc25 pm25 an25 cd25 ct25), sl25⟩) (c25 : PySem.W.codeIn K cd25 "_law_read" = true) (k25 : PySem.W.keepIn K (.ref f25) = true)
    (a26 : PySem.W.nsIn K mainGlobals "_law_hangs" = some (some (.ref f26))) (l26 : K.lookup f26 = some ⟨oc26, od26, .func (PySem.W.fnOf "_law_hangs" "_law_hangs" (defArgs s_l_hangs) (defBody s_l_hangs) (defScope s_l_hangs) .none kV26 dc26 pm26 an26 cd26 ct26), sl26⟩) (c26 : PySem.W.codeIn K cd26 "_law_hangs" = true) (k26 : PySem.W.keepIn K (.ref f26) = true)
    (a27 : PySem.W.nsIn K mainGlobals "_law_is_map" = some (some (.ref f27))) (l27 : K.lookup f27 = some ⟨oc27, od27, .func (PySem.W.fnOf "_law_is_map" "_law_is_map" (defArgs s_l_is_map) (defBody s_l_is_map) (defScope s_l_is_map) .none kV27 dc27 pm27 an27 cd27 ct27), sl27⟩) (c27 : PySem.W.codeIn K cd27 "_law_is_map" = true) (k27 : PySem.W.keepIn K (.ref f27) = true)
    (a28 : PySem.W.nsIn K mainGlobals "_law_kind" = some (some (.ref f28))) (l28 : K.lookup f28 = some ⟨oc28, od28, .func (PySem.W.fnOf "_law_kind" "_law_kind" (defArgs s_l_kind) (defBody s_l_kind) (defScope s_l_kind) .none kV28 dc28 pm28 an28 cd28 ct28), sl28⟩) (c28 : PySem.W.codeIn K cd28 "_law_kind" = true) (k28 : PySem.W.keepIn K (.ref f28) = true)
    (a29 : PySem.W.nsIn K mainGlobals "_law_right" = some (some (.ref f29))) (l29 : K.lookup f29 = some ⟨oc29, od29, .func (PySem.W.fnOf "_law_right" "_law_right" (defArgs s_l_right) (defBody s_l_right) (defScope s_l_right) .none kV29 dc29 pm29 an29 cd29 ct29), sl29⟩) (c29 : PySem.W.codeIn K cd29 "_law_right" = true) (k29 : PySem.W.keepIn K (.ref f29) = true)
    (a30 : PySem.W.nsIn K mainGlobals "law" = some (some (.ref f30))) (l30 : K.lookup f30 = some ⟨oc30, od30, .func (PySem.W.fnOf "law" "law" (defArgs s_law) (defBody s_law) (defScope s_law) .none kV30 dc30 pm30 an30 cd30 ct30), sl30⟩) (c30 : PySem.W.codeIn K cd30 "law" = true) (k30 : PySem.W.keepIn K (.ref f30) = true)
    (z0 : PySem.W.nsIn K mainGlobals "all" = some none)
    (z1 : PySem.W.nsIn K mainGlobals "enumerate" = some none)
    (z2 : PySem.W.nsIn K mainGlobals "int" = some none)
    (z3 : PySem.W.nsIn K mainGlobals "isinstance" = some none)
    (z4 : PySem.W.nsIn K mainGlobals "len" = some none)
    (z5 : PySem.W.nsIn K mainGlobals "min" = some none)
    (z6 : PySem.W.nsIn K mainGlobals "range" = some none)
    (z7 : PySem.W.nsIn K mainGlobals "sorted" = some none)
    (z8 : PySem.W.nsIn K mainGlobals "str" = some none)
    (z9 : PySem.W.nsIn K mainGlobals "sum" = some none)
    (z10 : PySem.W.nsIn K mainGlobals "zip" = some none)
    (g_MOST_PLACES : PySem.W.nsIn K mainGlobals "MOST_PLACES" = some (some (.int 200 q_MOST_PLACES)))
    (g_MOST_TIES : PySem.W.nsIn K mainGlobals "MOST_TIES" = some (some (.int 400 q_MOST_TIES)))
    (g_MOST_ENDS_AT_A_PLACE : PySem.W.nsIn K mainGlobals "MOST_ENDS_AT_A_PLACE" = some (some (.int 4 q_MOST_ENDS_AT_A_PLACE)))
    (g_MOST_FIGURES : PySem.W.nsIn K mainGlobals "MOST_FIGURES" = some (some (.int 40 q_MOST_FIGURES)))
    (g_FIGURES : PySem.W.nsIn K mainGlobals "FIGURES" = some (some (.str (Str.ofString "0123456789") q_FIGURES)))
    (g_SIDES : PySem.W.nsIn K mainGlobals "SIDES" = some (some (.str (Str.ofString "><") q_SIDES)))
    (m_BendError : PySem.W.nsIn K mainGlobals "BendError" = some (some (.ref c_BendError)))
    (m_NoMap : PySem.W.nsIn K mainGlobals "NoMap" = some (some (.ref c_NoMap)))
    (m_NotFlat : PySem.W.nsIn K mainGlobals "NotFlat" = some (some (.ref c_NotFlat)))
    (m_NoLand : PySem.W.nsIn K mainGlobals "NoLand" = some (some (.ref c_NoLand)))
    (m_NoNet : PySem.W.nsIn K mainGlobals "NoNet" = some (some (.ref c_NoNet)))
    (m_NoShape : PySem.W.nsIn K mainGlobals "NoShape" = some (some (.ref c_NoShape)))
    (m_NoLaid : PySem.W.nsIn K mainGlobals "NoLaid" = some (some (.ref c_NoLaid)))
    (m_NoText : PySem.W.nsIn K mainGlobals "NoText" = some (some (.ref c_NoText)))
    (m_NoPicture : PySem.W.nsIn K mainGlobals "NoPicture" = some (some (.ref c_NoPicture)))
    (m_NoRow : PySem.W.nsIn K mainGlobals "NoRow" = some (some (.ref c_NoRow)))
    (m_NoThing : PySem.W.nsIn K mainGlobals "NoThing" = some (some (.ref c_NoThing)))
    (x_in : PySem.W.excIn K c_NoMap [.type "ValueError", .type "Exception", .type "BaseException", .type "object"] "ValueError.__new__" = true)
    (x_up : L2.ClsU K c_NoMap c_BendError)
    (x_ve : PySem.W.subIn K (.ref c_NoMap) (.type "ValueError") = some true)
    (x_NotFlat : L2.ClsN K c_NoMap c_NotFlat)
    (x_NoLand : L2.ClsN K c_NoMap c_NoLand)
    (x_NoNet : L2.ClsN K c_NoMap c_NoNet)
    (x_NoShape : L2.ClsN K c_NoMap c_NoShape)
    (x_NoLaid : L2.ClsN K c_NoMap c_NoLaid)
    (x_NoText : L2.ClsN K c_NoMap c_NoText)
    (x_NoPicture : L2.ClsN K c_NoMap c_NoPicture)
    (x_NoRow : L2.ClsN K c_NoMap c_NoRow)
    (x_NoThing : L2.ClsN K c_NoMap c_NoThing)
    (x_K : L2.ExcK K c_NoMap)
    (y_in : PySem.W.excIn K c_NoText [.type "ValueError", .type "Exception", .type "BaseException", .type "object"] "ValueError.__new__" = true)
    (y_up : L2.ClsU K c_NoText c_BendError)
    (y_ve : PySem.W.subIn K (.ref c_NoText) (.type "ValueError") = some true)
    (y_NoMap : L2.ClsN K c_NoText c_NoMap)
    (y_NotFlat : L2.ClsN K c_NoText c_NotFlat)
    (y_NoLand : L2.ClsN K c_NoText c_NoLand)
    (y_NoNet : L2.ClsN K c_NoText c_NoNet)
    (y_NoShape : L2.ClsN K c_NoText c_NoShape)
    (y_NoLaid : L2.ClsN K c_NoText c_NoLaid)
    (y_NoPicture : L2.ClsN K c_NoText c_NoPicture)
    (y_NoRow : L2.ClsN K c_NoText c_NoRow)
    (y_NoThing : L2.ClsN K c_NoText c_NoThing)
    (y_K : L2.ExcK K c_NoText)
    (z_ValueError : PySem.W.nsIn K mainGlobals "ValueError" = some none)
    : ∃ fd : FuncData, (∀ (s : Shared) (v : Value), BindsTo s fd ⟨[v], []⟩ [("_law_script", v)]) ∧ ∀ base : Heap, K.In base → base.Ns mainGlobals mg → FnOk l.prog w K mg base CX0 lawK fa fd ["_law_script"] (spLaw K) := by
  have e := hfa.symm.trans (PySem.W.mg_of X G a30)
  cases e
  have F0 := fun_mk (st := s_check_map) l0 c0 k0
  have b0 := F0.binds (ps := ["web"]) fun _ _ _ _ _ _ => len1 fun _ => rfl
  have F1 := fun_mk (st := s_ties_name_places) l1 c1 k1
  have b1 := F1.binds (ps := ["many", "ties"]) fun _ _ _ _ _ _ => len2 fun _ _ => rfl
  have F2 := fun_mk (st := s_orders_fit) l2 c2 k2
  have b2 := F2.binds (ps := ["web"]) fun _ _ _ _ _ _ => len1 fun _ => rfl
  have F3 := fun_mk (st := s_ends_at_places) l3 c3 k3
  have b3 := F3.binds (ps := ["many", "ties"]) fun _ _ _ _ _ _ => len2 fun _ _ => rfl
  have F4 := fun_mk (st := s_hangs_together) l4 c4 k4
  have b4 := F4.binds (ps := ["many", "ties"]) fun _ _ _ _ _ _ => len2 fun _ _ => rfl
  have F5 := fun_mk (st := s_read_number) l5 c5 k5
  have b5 := F5.binds (ps := ["word"]) fun _ _ _ _ _ _ => len1 fun _ => rfl
  have F6 := fun_mk (st := s_read_numbers) l6 c6 k6
  have b6 := F6.binds (ps := ["words"]) fun _ _ _ _ _ _ => len1 fun _ => rfl
  have F7 := fun_mk (st := s_refuse_unless) l7 c7 k7
  have b7 := F7.binds (ps := ["told"]) fun _ _ _ _ _ _ => len1 fun _ => rfl
  have F8 := fun_mk (st := s_rows_of) l8 c8 k8
  have b8 := F8.binds (ps := ["text"]) fun _ _ _ _ _ _ => len1 fun _ => rfl
  have F9 := fun_mk (st := s_rows_from) l9 c9 k9
  have b9 := F9.binds (ps := ["rows", "place", "word"]) fun _ _ _ _ _ _ => len3 fun _ _ _ => rfl
  have F10 := fun_mk (st := s_read_map) l10 c10 k10
  have b10 := F10.binds (ps := ["text"]) fun _ _ _ _ _ _ => len1 fun _ => rfl
  have F11 := fun_mk (st := s_read_so_many) l11 c11 k11
  have b11 := F11.binds (ps := ["words", "count"]) fun _ _ _ _ _ _ => len2 fun _ _ => rfl
  have F12 := fun_mk (st := s_read_pair) l12 c12 k12
  have b12 := F12.binds (ps := ["words"]) fun _ _ _ _ _ _ => len1 fun _ => rfl
  have F13 := fun_mk (st := s_read_ends) l13 c13 k13
  have b13 := F13.binds (ps := ["words"]) fun _ _ _ _ _ _ => len1 fun _ => rfl
  have F14 := fun_mk (st := s_read_end) l14 c14 k14
  have b14 := F14.binds (ps := ["word"]) fun _ _ _ _ _ _ => len1 fun _ => rfl
  have F15 := fun_mk (st := s_l_at) l15 c15 k15
  have b15 := F15.binds (ps := ["_law_script", "_law_k"]) fun _ _ _ _ _ _ => len2 fun _ _ => rfl
  have F16 := fun_mk (st := s_l_mix) l16 c16 k16
  have b16 := F16.binds (ps := ["_law_cell", "_law_place"]) fun _ _ _ _ _ _ => len2 fun _ _ => rfl
  have F17 := fun_mk (st := s_l_hung) l17 c17 k17
  have b17 := F17.binds (ps := ["_law_orders", "_law_end_here", "_law_place", "_law_number_here"]) fun _ _ _ _ _ _ => len4 fun _ _ _ _ => rfl
  have F18 := fun_mk (st := s_l_any_map) l18 c18 k18
  have b18 := F18.binds (ps := ["_law_script"]) fun _ _ _ _ _ _ => len1 fun _ => rfl
  have F19 := fun_mk (st := s_l_end_text) l19 c19 k19
  have b19 := F19.binds (ps := ["_law_end_here"]) fun _ _ _ _ _ _ => len1 fun _ => rfl
  have F20 := fun_mk (st := s_l_map_text) l20 c20 k20
  have b20 := F20.binds (ps := ["_law_chart"]) fun _ _ _ _ _ _ => len1 fun _ => rfl
  have F21 := fun_mk (st := s_l_bent_row) l21 c21 k21
  have b21 := F21.binds (ps := ["_law_row", "_law_number_here", "_law_cell"]) fun _ _ _ _ _ _ => len3 fun _ _ _ => rfl
  have F22 := fun_mk (st := s_l_bent) l22 c22 k22
  have b22 := F22.binds (ps := ["_law_text", "_law_number_here", "_law_cell"]) fun _ _ _ _ _ _ => len3 fun _ _ _ => rfl
  have F23 := fun_mk (st := s_l_number) l23 c23 k23
  have b23 := F23.binds (ps := ["_law_word"]) fun _ _ _ _ _ _ => len1 fun _ => rfl
  have F24 := fun_mk (st := s_l_end) l24 c24 k24
  have b24 := F24.binds (ps := ["_law_word"]) fun _ _ _ _ _ _ => len1 fun _ => rfl
  have F25 := fun_mk (st := s_l_read) l25 c25 k25
  have b25 := F25.binds (ps := ["_law_text"]) fun _ _ _ _ _ _ => len1 fun _ => rfl
  have F26 := fun_mk (st := s_l_hangs) l26 c26 k26
  have b26 := F26.binds (ps := ["_law_many", "_law_ties"]) fun _ _ _ _ _ _ => len2 fun _ _ => rfl
  have F27 := fun_mk (st := s_l_is_map) l27 c27 k27
  have b27 := F27.binds (ps := ["_law_chart"]) fun _ _ _ _ _ _ => len1 fun _ => rfl
  have F28 := fun_mk (st := s_l_kind) l28 c28 k28
  have b28 := F28.binds (ps := ["_law_kept"]) fun _ _ _ _ _ _ => len1 fun _ => rfl
  have F29 := fun_mk (st := s_l_right) l29 c29 k29
  have b29 := F29.binds (ps := ["_law_text"]) fun _ _ _ _ _ _ => len1 fun _ => rfl
  have F30 := fun_mk (st := s_law) l30 c30 k30
  have b30 := F30.binds (ps := ["_law_script"]) fun _ _ _ _ _ _ => len1 fun _ => rfl
  have T : Txt K mg { q_MOST_PLACES := q_MOST_PLACES, q_MOST_TIES := q_MOST_TIES, q_MOST_ENDS_AT_A_PLACE := q_MOST_ENDS_AT_A_PLACE, q_MOST_FIGURES := q_MOST_FIGURES, q_FIGURES := q_FIGURES, q_SIDES := q_SIDES, c_BendError := c_BendError, c_NoMap := c_NoMap, c_NotFlat := c_NotFlat, c_NoLand := c_NoLand, c_NoNet := c_NoNet, c_NoShape := c_NoShape, c_NoLaid := c_NoLaid, c_NoText := c_NoText, c_NoPicture := c_NoPicture, c_NoRow := c_NoRow, c_NoThing := c_NoThing, a_check_map := f0, d_check_map := _, a_ties_name_places := f1, d_ties_name_places := _, a_orders_fit := f2, d_orders_fit := _, a_ends_at_places := f3, d_ends_at_places := _, a_hangs_together := f4, d_hangs_together := _, a_read_number := f5, d_read_number := _, a_read_numbers := f6, d_read_numbers := _, a_refuse_unless := f7, d_refuse_unless := _, a_rows_of := f8, d_rows_of := _, a_rows_from := f9, d_rows_from := _, a_read_map := f10, d_read_map := _, a_read_so_many := f11, d_read_so_many := _, a_read_pair := f12, d_read_pair := _, a_read_ends := f13, d_read_ends := _, a_read_end := f14, d_read_end := _, a_l_at := f15, d_l_at := _, a_l_mix := f16, d_l_mix := _, a_l_hung := f17, d_l_hung := _, a_l_any_map := f18, d_l_any_map := _, a_l_end_text := f19, d_l_end_text := _, a_l_map_text := f20, d_l_map_text := _, a_l_bent_row := f21, d_l_bent_row := _, a_l_bent := f22, d_l_bent := _, a_l_number := f23, d_l_number := _, a_l_end := f24, d_l_end := _, a_l_read := f25, d_l_read := _, a_l_hangs := f26, d_l_hangs := _, a_l_is_map := f27, d_l_is_map := _, a_l_kind := f28, d_l_kind := _, a_l_right := f29, d_l_right := _, a_law := fa, d_law := _ } := { g_MOST_PLACES := PySem.W.mg_of X G g_MOST_PLACES, g_MOST_TIES := PySem.W.mg_of X G g_MOST_TIES, g_MOST_ENDS_AT_A_PLACE := PySem.W.mg_of X G g_MOST_ENDS_AT_A_PLACE, g_MOST_FIGURES := PySem.W.mg_of X G g_MOST_FIGURES, g_FIGURES := PySem.W.mg_of X G g_FIGURES, g_SIDES := PySem.W.mg_of X G g_SIDES, m_BendError := PySem.W.mg_of X G m_BendError, m_NoMap := PySem.W.mg_of X G m_NoMap, m_NotFlat := PySem.W.mg_of X G m_NotFlat, m_NoLand := PySem.W.mg_of X G m_NoLand, m_NoNet := PySem.W.mg_of X G m_NoNet, m_NoShape := PySem.W.mg_of X G m_NoShape, m_NoLaid := PySem.W.mg_of X G m_NoLaid, m_NoText := PySem.W.mg_of X G m_NoText, m_NoPicture := PySem.W.mg_of X G m_NoPicture, m_NoRow := PySem.W.mg_of X G m_NoRow, m_NoThing := PySem.W.mg_of X G m_NoThing, x_in := x_in, x_up := x_up, x_ve := x_ve, x_NotFlat := x_NotFlat, x_NoLand := x_NoLand, x_NoNet := x_NoNet, x_NoShape := x_NoShape, x_NoLaid := x_NoLaid, x_NoText := x_NoText, x_NoPicture := x_NoPicture, x_NoRow := x_NoRow, x_NoThing := x_NoThing, x_K := x_K, y_in := y_in, y_up := y_up, y_ve := y_ve, y_NoMap := y_NoMap, y_NotFlat := y_NotFlat, y_NoLand := y_NoLand, y_NoNet := y_NoNet, y_NoShape := y_NoShape, y_NoLaid := y_NoLaid, y_NoPicture := y_NoPicture, y_NoRow := y_NoRow, y_NoThing := y_NoThing, y_K := y_K, z_ValueError := PySem.W.mg_none_of X G z_ValueError, F_check_map := F0, m_check_map := PySem.W.mg_of X G a0, k_check_map := k0, b_check_map := b0, F_ties_name_places := F1, m_ties_name_places := PySem.W.mg_of X G a1, k_ties_name_places := k1, b_ties_name_places := b1, F_orders_fit := F2, m_orders_fit := PySem.W.mg_of X G a2, k_orders_fit := k2, b_orders_fit := b2, F_ends_at_places := F3, m_ends_at_places := PySem.W.mg_of X G a3, k_ends_at_places := k3, b_ends_at_places := b3, F_hangs_together := F4, m_hangs_together := PySem.W.mg_of X G a4, k_hangs_together := k4, b_hangs_together := b4, F_read_number := F5, m_read_number := PySem.W.mg_of X G a5, k_read_number := k5, b_read_number := b5, F_read_numbers := F6, m_read_numbers := PySem.W.mg_of X G a6, k_read_numbers := k6, b_read_numbers := b6, F_refuse_unless := F7, m_refuse_unless := PySem.W.mg_of X G a7, k_refuse_unless := k7, b_refuse_unless := b7, F_rows_of := F8, m_rows_of := PySem.W.mg_of X G a8, k_rows_of := k8, b_rows_of := b8, F_rows_from := F9, m_rows_from := PySem.W.mg_of X G a9, k_rows_from := k9, b_rows_from := b9, F_read_map := F10, m_read_map := PySem.W.mg_of X G a10, k_read_map := k10, b_read_map := b10, F_read_so_many := F11, m_read_so_many := PySem.W.mg_of X G a11, k_read_so_many := k11, b_read_so_many := b11, F_read_pair := F12, m_read_pair := PySem.W.mg_of X G a12, k_read_pair := k12, b_read_pair := b12, F_read_ends := F13, m_read_ends := PySem.W.mg_of X G a13, k_read_ends := k13, b_read_ends := b13, F_read_end := F14, m_read_end := PySem.W.mg_of X G a14, k_read_end := k14, b_read_end := b14, F_l_at := F15, m_l_at := PySem.W.mg_of X G a15, k_l_at := k15, b_l_at := b15, F_l_mix := F16, m_l_mix := PySem.W.mg_of X G a16, k_l_mix := k16, b_l_mix := b16, F_l_hung := F17, m_l_hung := PySem.W.mg_of X G a17, k_l_hung := k17, b_l_hung := b17, F_l_any_map := F18, m_l_any_map := PySem.W.mg_of X G a18, k_l_any_map := k18, b_l_any_map := b18, F_l_end_text := F19, m_l_end_text := PySem.W.mg_of X G a19, k_l_end_text := k19, b_l_end_text := b19, F_l_map_text := F20, m_l_map_text := PySem.W.mg_of X G a20, k_l_map_text := k20, b_l_map_text := b20, F_l_bent_row := F21, m_l_bent_row := PySem.W.mg_of X G a21, k_l_bent_row := k21, b_l_bent_row := b21, F_l_bent := F22, m_l_bent := PySem.W.mg_of X G a22, k_l_bent := k22, b_l_bent := b22, F_l_number := F23, m_l_number := PySem.W.mg_of X G a23, k_l_number := k23, b_l_number := b23, F_l_end := F24, m_l_end := PySem.W.mg_of X G a24, k_l_end := k24, b_l_end := b24, F_l_read := F25, m_l_read := PySem.W.mg_of X G a25, k_l_read := k25, b_l_read := b25, F_l_hangs := F26, m_l_hangs := PySem.W.mg_of X G a26, k_l_hangs := k26, b_l_hangs := b26, F_l_is_map := F27, m_l_is_map := PySem.W.mg_of X G a27, k_l_is_map := k27, b_l_is_map := b27, F_l_kind := F28, m_l_kind := PySem.W.mg_of X G a28, k_l_kind := k28, b_l_kind := b28, F_l_right := F29, m_l_right := PySem.W.mg_of X G a29, k_l_right := k29, b_l_right := b29, F_law := F30, m_law := PySem.W.mg_of X G a30, k_law := k30, b_law := b30, z_all := PySem.W.mg_none_of X G z0, z_enumerate := PySem.W.mg_none_of X G z1, z_int := PySem.W.mg_none_of X G z2, z_isinstance := PySem.W.mg_none_of X G z3, z_len := PySem.W.mg_none_of X G z4, z_min := PySem.W.mg_none_of X G z5, z_range := PySem.W.mg_none_of X G z6, z_sorted := PySem.W.mg_none_of X G z7, z_str := PySem.W.mg_none_of X G z8, z_sum := PySem.W.mg_none_of X G z9, z_zip := PySem.W.mg_none_of X G z10 }
  exact ⟨_, fun s v => .of_eq rfl, fun base _ _ => ok_law T⟩
theorem walk {l : PySem.W.OpenLaw} {q : Program} {loose : List Str} {XP : (Str → Option Value) → Heap → Prop} {YP : World → Heap → Prop} {d : DefRec} {K : Params → PySem.W.Frag} (hn : l.most = some 63) (hdf : d.params.defaults = [])
    (hY : ∀ (w : World) (h : Heap), YP w h → (K w.params).In h)
    (F : ∀ (w : World) (mg : Str → Option Value) (fa : Addr) (h : Heap), (K w.params).In h → h.Ns mainGlobals mg → mg d.name = some (.ref fa) →
      ∃ fd : FuncData, (∀ (s : Shared) (u : Value), BindsTo s fd ⟨[u], []⟩ [("_law_script", u)]) ∧ ∀ base : Heap, (K w.params).In base → base.Ns mainGlobals mg → FnOk l.prog w (K w.params) mg base CX0 lawK fa fd ["_law_script"] (spLaw (K w.params))) :
    PySem.W.WalkO q loose XP YP l.row.toRowW d [] (fun f vs => PySem.call f vs) :=
  L2.walk_of (n := 63) (k := lawK) (x := "_law_script") (CX := fun _ => CX0) (sp := fun w => spLaw (K w.params)) hn (by decide) hdf ⟨rfl, by decide, by decide⟩ hY F (fun _ _ a ns hl _ hS => ⟨a, ns, rfl, hS, hl, fun _ => rfl⟩) fun _ _ _ _ _ z => z
end K74
open PySem PySem.W PyProof.Rows
set_option maxRecDepth 100000 in
set_option maxHeartbeats 0 in
theorem PySem.Challenge.cw_fewbends_k74_map_texts_that_are_none_holds : PySem.Challenge.rw_fewbends_k74_map_texts_that_are_none.Holds := by
  w_on; o_law; k_head; (case hw => w_witness2)
  k_fill
  refine K74.walk (l := PySem.Challenge.rw_fewbends_k74_map_texts_that_are_none) rfl rfl (fun w h Y => PySem.W.kIn_of Y) ?F
  case F =>
    intro w mg fa h KX G hmg
    refine' K74.all_mk KX G hmg ?a0 ?l0 ?c0 ?k0 ?a1 ?l1 ?c1 ?k1 ?a2 ?l2 ?c2 ?k2 ?a3 ?l3 ?c3 ?k3 ?a4 ?l4 ?c4 ?k4 ?a5 ?l5 ?c5 ?k5 ?a6 ?l6 ?c6 ?k6 ?a7 ?l7 ?c7 ?k7 ?a8 ?l8 ?c8 ?k8 ?a9 ?l9 ?c9 ?k9 ?a10 ?l10 ?c10 ?k10 ?a11 ?l11 ?c11 ?k11 ?a12 ?l12 ?c12 ?k12 ?a13 ?l13 ?c13 ?k13 ?a14 ?l14 ?c14 ?k14 ?a15 ?l15 ?c15 ?k15 ?a16 ?l16 ?c16 ?k16 ?a17 ?l17 ?c17 ?k17 ?a18 ?l18 ?c18 ?k18 ?a19 ?l19 ?c19 ?k19 ?a20 ?l20 ?c20 ?k20 ?a21 ?l21 ?c21 ?k21 ?a22 ?l22 ?c22 ?k22 ?a23 ?l23 ?c23 ?k23 ?a24 ?l24 ?c24 ?k24 ?a25 ?l25 ?c25 ?k25 ?a26 ?l26 ?c26 ?k26 ?a27 ?l27 ?c27 ?k27 ?a28 ?l28 ?c28 ?k28 ?a29 ?l29 ?c29 ?k29 ?a30 ?l30 ?c30 ?k30 ?z0 ?z1 ?z2 ?z3 ?z4 ?z5 ?z6 ?z7 ?z8 ?z9 ?z10 ?g_MOST_PLACES ?g_MOST_TIES ?g_MOST_ENDS_AT_A_PLACE ?g_MOST_FIGURES ?g_FIGURES ?g_SIDES ?m_BendError ?m_NoMap ?m_NotFlat ?m_NoLand ?m_NoNet ?m_NoShape ?m_NoLaid ?m_NoText ?m_NoPicture ?m_NoRow ?m_NoThing ?x_in ?x_up ?x_ve ?x_NotFlat ?x_NoLand ?x_NoNet ?x_NoShape ?x_NoLaid ?x_NoText ?x_NoPicture ?x_NoRow ?x_NoThing ?x_K ?y_in ?y_up ?y_ve ?y_NoMap ?y_NotFlat ?y_NoLand ?y_NoNet ?y_NoShape ?y_NoLaid ?y_NoPicture ?y_NoRow ?y_NoThing ?y_K ?z_ValueError
    (case a0 => k_is); (case l0 => k_is); (case c0 => k_is); (case k0 => k_is)
    (case a1 => k_is); (case l1 => k_is); (case c1 => k_is); (case k1 => k_is)
    (case a2 => k_is); (case l2 => k_is); (case c2 => k_is); (case k2 => k_is)
    (case a3 => k_is); (case l3 => k_is); (case c3 => k_is); (case k3 => k_is)
    (case a4 => k_is); (case l4 => k_is); (case c4 => k_is); (case k4 => k_is)
    (case a5 => k_is); (case l5 => k_is); (case c5 => k_is); (case k5 => k_is)
    (case a6 => k_is); (case l6 => k_is); (case c6 => k_is); (case k6 => k_is)
    (case a7 => k_is); (case l7 => k_is); (case c7 => k_is); (case k7 => k_is)
    (case a8 => k_is); (case l8 => k_is); (case c8 => k_is); (case k8 => k_is)
    (case a9 => k_is); (case l9 => k_is); (case c9 => k_is); (case k9 => k_is)
    (case a10 => k_is); (case l10 => k_is); (case c10 => k_is); (case k10 => k_is)
    (case a11 => k_is); (case l11 => k_is); (case c11 => k_is); (case k11 => k_is)
    (case a12 => k_is); (case l12 => k_is); (case c12 => k_is); (case k12 => k_is)
    (case a13 => k_is); (case l13 => k_is); (case c13 => k_is); (case k13 => k_is)
    (case a14 => k_is); (case l14 => k_is); (case c14 => k_is); (case k14 => k_is)
    (case a15 => k_is); (case l15 => k_is); (case c15 => k_is); (case k15 => k_is)
    (case a16 => k_is); (case l16 => k_is); (case c16 => k_is); (case k16 => k_is)
    (case a17 => k_is); (case l17 => k_is); (case c17 => k_is); (case k17 => k_is)
    (case a18 => k_is); (case l18 => k_is); (case c18 => k_is); (case k18 => k_is)
    (case a19 => k_is); (case l19 => k_is); (case c19 => k_is); (case k19 => k_is)
    (case a20 => k_is); (case l20 => k_is); (case c20 => k_is); (case k20 => k_is)
    (case a21 => k_is); (case l21 => k_is); (case c21 => k_is); (case k21 => k_is)
    (case a22 => k_is); (case l22 => k_is); (case c22 => k_is); (case k22 => k_is)
    (case a23 => k_is); (case l23 => k_is); (case c23 => k_is); (case k23 => k_is)
    (case a24 => k_is); (case l24 => k_is); (case c24 => k_is); (case k24 => k_is)
    (case a25 => k_is); (case l25 => k_is); (case c25 => k_is); (case k25 => k_is)
    (case a26 => k_is); (case l26 => k_is); (case c26 => k_is); (case k26 => k_is)
    (case a27 => k_is); (case l27 => k_is); (case c27 => k_is); (case k27 => k_is)
    (case a28 => k_is); (case l28 => k_is); (case c28 => k_is); (case k28 => k_is)
    (case a29 => k_is); (case l29 => k_is); (case c29 => k_is); (case k29 => k_is)
    (case a30 => k_is); (case l30 => k_is); (case c30 => k_is); (case k30 => k_is)
    (case z0 => k_is); (case z1 => k_is); (case z2 => k_is); (case z3 => k_is); (case z4 => k_is); (case z5 => k_is); (case z6 => k_is); (case z7 => k_is); (case z8 => k_is); (case z9 => k_is); (case z10 => k_is)
    (case g_MOST_PLACES => k_is)
    (case g_MOST_TIES => k_is)
    (case g_MOST_ENDS_AT_A_PLACE => k_is)
    (case g_MOST_FIGURES => k_is)
    (case g_FIGURES => k_is)
    (case g_SIDES => k_is)
    (case m_BendError => k_is)
    (case m_NoMap => k_is)
    (case m_NotFlat => k_is)
    (case m_NoLand => k_is)
    (case m_NoNet => k_is)
    (case m_NoShape => k_is)
    (case m_NoLaid => k_is)
    (case m_NoText => k_is)
    (case m_NoPicture => k_is)
    (case m_NoRow => k_is)
    (case m_NoThing => k_is)
    (case x_in => k_exc)
    (case x_up => exact ⟨by k_is, by k_is, by k_is, by k_is⟩)
    (case x_ve => k_is)
    (case x_NotFlat => exact ⟨by k_is, by k_is, by k_is, by decide⟩)
    (case x_NoLand => exact ⟨by k_is, by k_is, by k_is, by decide⟩)
    (case x_NoNet => exact ⟨by k_is, by k_is, by k_is, by decide⟩)
    (case x_NoShape => exact ⟨by k_is, by k_is, by k_is, by decide⟩)
    (case x_NoLaid => exact ⟨by k_is, by k_is, by k_is, by decide⟩)
    (case x_NoText => exact ⟨by k_is, by k_is, by k_is, by decide⟩)
    (case x_NoPicture => exact ⟨by k_is, by k_is, by k_is, by decide⟩)
    (case x_NoRow => exact ⟨by k_is, by k_is, by k_is, by decide⟩)
    (case x_NoThing => exact ⟨by k_is, by k_is, by k_is, by decide⟩)
    (case x_K => exact ⟨by k_is, by k_is, by k_is, by k_is, by k_is, by k_is⟩)
    (case y_in => k_exc)
    (case y_up => exact ⟨by k_is, by k_is, by k_is, by k_is⟩)
    (case y_ve => k_is)
    (case y_NoMap => exact ⟨by k_is, by k_is, by k_is, by decide⟩)
    (case y_NotFlat => exact ⟨by k_is, by k_is, by k_is, by decide⟩)
    (case y_NoLand => exact ⟨by k_is, by k_is, by k_is, by decide⟩)
    (case y_NoNet => exact ⟨by k_is, by k_is, by k_is, by decide⟩)
    (case y_NoShape => exact ⟨by k_is, by k_is, by k_is, by decide⟩)
    (case y_NoLaid => exact ⟨by k_is, by k_is, by k_is, by decide⟩)
    (case y_NoPicture => exact ⟨by k_is, by k_is, by k_is, by decide⟩)
    (case y_NoRow => exact ⟨by k_is, by k_is, by k_is, by decide⟩)
    (case y_NoThing => exact ⟨by k_is, by k_is, by k_is, by decide⟩)
    (case y_K => exact ⟨by k_is, by k_is, by k_is, by k_is, by k_is, by k_is⟩)
    (case z_ValueError => k_is)

