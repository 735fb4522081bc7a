import PyProof.Rows.All
import Wide.All
import OpenK.AllK
import Wide.FinOn
import Lean
import PyProof.EqAt
import PyProof.EqKinds
import PyProof.TupleCall
import KE.BitLaws
import KE.KSortTup
import PyProof.MeetsSeq3
import PyProof.FactsAll.list_2
import PyProof.Rows.SortRuns
import PyProof.Rows.SortShell
import PyProof.Rows.SortRev
import PyProof.Rows.SortWalk
import PyProof.FactsAll.tuple_1
import PyProof.DictItems
import KE.KDictSum
import PySem.Challenge.RW_fewbends_k01_maps_looked_at
set_option Elab.async false
set_option linter.all false
set_option maxRecDepth 100000
namespace AR
section
variable {a b c d e : Nat}
theorem n1 (h : a < b) : a ≤ b := Nat.le_of_lt h
theorem n2 (h : a < b) (g : b ≤ c) : a < c := Nat.lt_of_lt_of_le h g
theorem n3 (h : a ≤ b) (g : b < c) : a < c := Nat.lt_of_le_of_lt h g
theorem n4 (h : a ≤ b) (g : b ≤ c) : a ≤ c := Nat.le_trans h g
theorem n5 (h : a < b) (g : b < c) : a < c := Nat.lt_trans h g
theorem n5' (h : a < b) (g : b < c) : a ≤ c := Nat.le_of_lt (Nat.lt_trans h g)
theorem n2' (h : a < b) (g : b ≤ c) : a ≤ c := n1 (n2 h g)
theorem n3' (h : a ≤ b) (g : b < c) : a ≤ c := n1 (n3 h g)
theorem n6 (h : ¬ a < b) : b ≤ a := Nat.le_of_not_lt h
theorem n7 (h : ¬ a ≤ b) : b < a := Nat.lt_of_not_le h
theorem n7' (h : ¬ a ≤ b) : b ≤ a := n1 (n7 h)
theorem n8 (h : a < b) : ¬ b ≤ a := Nat.not_le_of_lt h
theorem n9 (h : a ≤ b) : ¬ b < a := Nat.not_lt_of_le h
theorem n10 (h : a < b) : a ≠ b := Nat.ne_of_lt h
theorem n11 (h : a < b) : b ≠ a := Nat.ne_of_gt h
theorem n12 (h : a ≠ 0) : 0 < a := Nat.pos_of_ne_zero h
theorem n14 (h : b < c) (g : a + c ≤ d) : a + b < d := Nat.lt_of_lt_of_le (Nat.add_lt_add_left h a) g
theorem n15 (h : b ≤ c) (g : a + c ≤ d) : a + b ≤ d := Nat.le_trans (Nat.add_le_add_left h a) g
theorem n16 (h : a + b ≤ c) : a ≤ c := Nat.le_trans (Nat.le_add_right a b) h
theorem n16' (h : a + b < c) : a < c := Nat.lt_of_le_of_lt (Nat.le_add_right a b) h
theorem n17 (h : a + b ≤ c) : b ≤ c := Nat.le_trans (Nat.le_add_left b a) h
theorem n18 (h : a ≤ b) : a ≤ b + c := Nat.le_trans h (Nat.le_add_right b c)
theorem n18' (h : a ≤ b) : a ≤ c + b := Nat.le_trans h (Nat.le_add_left b c)
theorem n18s (h : a < b) : a < b + c := Nat.lt_of_lt_of_le h (Nat.le_add_right b c)
theorem n18t (h : a < b) : a < c + b := Nat.lt_of_lt_of_le h (Nat.le_add_left b c)
theorem n18u (h : a ≤ b) : a < b + 1 := Nat.lt_succ_of_le h
theorem n19 (h : a < b) : a - c < b := Nat.lt_of_le_of_lt (Nat.sub_le a c) h
theorem n19' (h : a ≤ b) : a - c ≤ b := Nat.le_trans (Nat.sub_le a c) h
theorem n20 (h : a < b) : a ≤ b - 1 := Nat.le_sub_one_of_lt h
theorem n20' (h : 0 < a) : a - 1 < a := Nat.sub_lt h Nat.one_pos
theorem n21 (h : a ≤ b) (g : c ≤ d) : a + c ≤ b + d := Nat.add_le_add h g
theorem n21a (h : a ≤ b) : a + c ≤ b + c := Nat.add_le_add_right h c
theorem n21b (h : a ≤ b) : c + a ≤ c + b := Nat.add_le_add_left h c
theorem n21c (h : a < b) : c + a < c + b := Nat.add_lt_add_left h c
theorem n21d (h : a < b) : a + c < b + c := Nat.add_lt_add_right h c
theorem n22 (h : a = b) : a ≤ b := Nat.le_of_eq h
theorem n22a (h : a = b) (g : b < c) : a < c := h ▸ g
theorem n22b (h : a = b) (g : b ≤ c) : a ≤ c := h ▸ g
theorem n22c (h : a = b) (g : a < c) : b < c := h ▸ g
theorem n22d (h : a = b) (g : a ≤ c) : b ≤ c := h ▸ g
theorem n22e (h : a = b) (g : c < a) : c < b := h ▸ g
theorem n22f (h : a = b) (g : c ≤ a) : c ≤ b := h ▸ g
theorem n22g (h : a = b) (g : c < b) : c < a := h ▸ g
theorem n22h (h : a = b) (g : c ≤ b) : c ≤ a := h ▸ g
theorem n23 (h : a ≤ b) (g : ¬ a = b) : a < b := Nat.lt_of_le_of_ne h g
theorem n23' (h : a < b + 1) (g : ¬ a = b) : a < b := Nat.lt_of_le_of_ne (Nat.le_of_lt_succ h) g
theorem n24 (h : a ≤ b) (g : ¬ a < b) : a = b := Nat.le_antisymm h (n6 g)
theorem n24' (h : a ≤ b) (g : b ≤ a) : a = b := Nat.le_antisymm h g
theorem n24a (h : a ≤ b) (g : ¬ a < b) : b = a := (n24 h g).symm
theorem n24b (h : a < b + 1) (g : ¬ a < b) : a = b := Nat.le_antisymm (Nat.le_of_lt_succ h) (Nat.le_of_not_lt g)
theorem n25a (h : a < b) (g : b < a) : False := Nat.lt_asymm h g
theorem n25b (h : a < b) (g : a = b) : False := n10 h g
theorem n25c (h : a < b) (g : b = a) : False := n11 h g
theorem n26c (h : ¬ b < a) (g : b ≤ c) : a ≤ c := n4 (n6 h) g
theorem n28 (h : a < b) (g : b ≤ c) (k : c ≤ d) : a < d := n2 h (n4 g k)
theorem n28c (h : a ≤ b) (g : b < c) (k : c ≤ d) : a < d := n2 (n3 h g) k
theorem n29 (h : a ≠ b) : ¬ b = a := fun z => h z.symm
end
section
variable {a b c d : Int}
theorem i1 (h : a < b) : a ≤ b := Int.le_of_lt h
theorem i2 (h : a < b) (g : b ≤ c) : a < c := Int.lt_of_lt_of_le h g
theorem i4 (h : a ≤ b) (g : b ≤ c) : a ≤ c := Int.le_trans h g
theorem i2' (h : a < b) (g : b ≤ c) : a ≤ c := i1 (i2 h g)
theorem i6 (h : ¬ a < b) : b ≤ a := Int.not_lt.mp h
theorem i7 (h : ¬ a ≤ b) : b < a := Int.not_le.mp h
theorem i8 (h : ¬ b < a) (g : b ≤ c) : a ≤ c := i4 (i6 h) g
theorem i9 (h : a ≤ b) (g : ¬ c < b) : a ≤ c := i4 h (i6 g)
theorem i10 (h : a < b) : ¬ b ≤ a := Int.not_le.mpr h
theorem i12 (h : a = b) (g : b ≤ c) : a ≤ c := h ▸ g
theorem i13 (h : a ≤ b) (g : c = b) : a ≤ c := g ▸ h
theorem i14 (h : a = b) (g : a ≤ c) : b ≤ c := h ▸ g
theorem i16 (h : ¬ a < b) (g : ¬ b < a) : a = b := Int.le_antisymm (i6 g) (i6 h)
theorem i18 (h : ¬ a < b) (g : b = c) (k : a = d) : c ≤ d := k ▸ g ▸ i6 h
theorem i19 (h : -a ≤ -b) : b ≤ a := Int.le_of_neg_le_neg h
theorem i20 (h : a ≤ b) : -b ≤ -a := Int.neg_le_neg h
theorem i22 (h : ¬ a ≤ b) : b ≤ a := i1 (i7 h)
theorem i23 (h : ¬ a ≤ b) (g : a = c) : b ≤ c := g ▸ i22 h
end
section
variable {a b c d e : Nat}
theorem m1 : a ≤ a + b := Nat.le_add_right a b
theorem m3 : a < a + 1 := Nat.lt_succ_self a
theorem m4 : a - b ≤ a := Nat.sub_le a b
theorem m5 (h : b ≤ a) : b + (a - b) = a := Nat.add_sub_cancel' h
theorem m6 (h : b ≤ a) : a - b + b = a := Nat.sub_add_cancel h
theorem m7 (h : a + b ≤ c) : b ≤ c - a := Nat.le_sub_of_add_le' h
theorem m8 (h : a + b ≤ c) : a ≤ c - b := Nat.le_sub_of_add_le h
theorem m9 (h : a < b - c) : c + a < b := Nat.add_comm a c ▸ Nat.add_lt_of_lt_sub h
theorem m11 (h : a ≤ b - c) (g : c ≤ b) : c + a ≤ b := Nat.add_comm a c ▸ Nat.add_le_of_le_sub g h
theorem m12 (h : 0 < a) (g : a ≤ b) : a - 1 < b := Nat.lt_of_lt_of_le (Nat.sub_lt h Nat.one_pos) g
theorem m14 (h : a < b) (g : ¬ a + 1 = b) : a + 1 < b := Nat.lt_of_le_of_ne h g
theorem m15 (h : a < b) : a + 1 ≤ b := h
theorem m16 (h : a + 1 ≤ b) : a < b := h
theorem m17 (h : a + b < c) : b < c := Nat.lt_of_le_of_lt (Nat.le_add_left b a) h
theorem m18 (h : a + b ≤ c) (g : 0 < b) : a < c := Nat.lt_of_lt_of_le (Nat.lt_add_of_pos_right g) h
theorem m19 (h : ¬ 0 < a) : a = 0 := Nat.eq_zero_of_not_pos h
theorem m21 (h : ¬ a = 0) : 1 ≤ a := Nat.pos_of_ne_zero h
theorem m22 (h : a ≤ b) (g : ¬ b - a > 0) : a = b := Nat.le_antisymm h (Nat.le_of_sub_eq_zero (Nat.eq_zero_of_not_pos g))
theorem m23 (h : a ≤ b) : max a b = b := Nat.max_eq_right h
theorem m24 (h : a ≤ b) : min a b = a := Nat.min_eq_left h
theorem m26 : min a b ≤ a := Nat.min_le_left a b
theorem m27 : min a b ≤ b := Nat.min_le_right a b
theorem m28 (h : a < min b c) : a < b := Nat.lt_of_lt_of_le h (Nat.min_le_left b c)
theorem m29 (h : a < min b c) : a < c := Nat.lt_of_lt_of_le h (Nat.min_le_right b c)
theorem m30 (h : a ≤ b) (g : a ≤ c) : a ≤ min b c := Nat.le_min.mpr ⟨h, g⟩
theorem m31 (h : a < b) (g : b ≤ c + 1) : a ≤ c := Nat.le_of_lt_succ (Nat.lt_of_lt_of_le h g)
theorem m32 (h : a < b + 1) : a ≤ b := Nat.le_of_lt_succ h
theorem m35 (h : a < b) : 0 < b := Nat.zero_lt_of_lt h
theorem m36 (h : a < b) : 1 ≤ b := Nat.zero_lt_of_lt h
theorem m42 (h : a ≤ b) (g : c ≤ a) : ¬ b < c := Nat.not_lt_of_le (Nat.le_trans g h)
theorem m46 (h : a = b) : b = a := h.symm
theorem m47 (h : a = b) (g : b = c) : a = c := h.trans g
theorem m48 {p q : Prop} (h : p) (g : q) : p ∧ q := ⟨h, g⟩
theorem m49 {p q : Prop} (h : ¬ p) : ¬ (p ∧ q) := fun z => h z.1
theorem m50 {p q : Prop} (h : ¬ q) : ¬ (p ∧ q) := fun z => h z.2
theorem m51 {p q : Prop} (h : p) : p ∨ q := .inl h
theorem m52 {p q : Prop} (h : q) : p ∨ q := .inr h
theorem m53 {p : Prop} (h : a < b) (g : b ≤ a) : p := absurd g (Nat.not_le_of_lt h)
theorem m54 {p : Prop} (h : a < b) (g : b < a) : p := absurd g (Nat.lt_asymm h)
theorem m55 (h : a ≤ b) : a - c ≤ b - c := Nat.sub_le_sub_right h c
theorem m59 (h : ¬ a ≥ b) : a + (b - a) / 2 < b := by omega
theorem m63 : 0 + a = a := Nat.zero_add a
theorem m65 (h : a < 0 + b) : a < b := Nat.zero_add b ▸ h
theorem m67 (h : a + b + c ≤ d) : a + (b + c) ≤ d := Nat.add_assoc a b c ▸ h
theorem m70 (h : a ≤ b) (g : b < a + c) : b - a < c := Nat.sub_lt_left_of_lt_add h g
theorem m72 (h : 0 < a) (g : 0 < b) : a - 1 < a + b := Nat.lt_of_lt_of_le (Nat.sub_lt h Nat.one_pos) (Nat.le_add_right a b)
theorem m74 (h : a ≤ b) (g : c < d) : a + c < b + d := Nat.add_lt_add_of_le_of_lt h g
theorem m78 (h : 0 < a) : a - 1 + 1 = a := Nat.sub_add_cancel h
theorem m79 (h : 1 < a) : a - 1 < a := Nat.sub_lt (Nat.lt_trans Nat.one_pos h) Nat.one_pos
theorem m81 (h : a < b) : b - (a + 1) < b - a := by omega
theorem m82 (h : a ≤ b) (g : ¬ c ≥ a) : c + (a - c) / 2 < b := by omega
theorem m83 (h : a < 2 * b) : a / 2 < b := Nat.div_lt_of_lt_mul h
theorem m84 : ¬ ((2 * a + 1) % 2 = 0) := by omega
theorem m85 : 2 * a / 2 = a := Nat.mul_div_cancel_left a (by decide)
theorem m86 : 2 * a % 2 = 0 := Nat.mul_mod_right 2 a
theorem m87 : (2 * a + 1) / 2 = a := by omega
theorem m88 (h : a + b ≤ c) (g : a = d) (k : b = e) : d + e ≤ c := g ▸ k ▸ h
theorem m89 : a < 2 * a + 1 := Nat.lt_succ_of_le (Nat.le_mul_of_pos_left a (by decide))
theorem m90 (h : a > 1) : a - 2 < a := Nat.sub_lt (Nat.lt_trans Nat.one_pos h) (by decide)
theorem m91 (h : a > 1) : a - 2 + 1 < a := by omega
theorem m92 (h : a < 2) : a = 0 ∨ a = 1 := match a, h with | 0, _ => .inl rfl | 1, _ => .inr rfl
end
section
variable {a b c d : Int}
theorem j3 (h : a < b) (g : b = c) (k : a = d) : d ≤ c := k ▸ g ▸ Int.le_of_lt h
theorem j5 (h : a = b) : b = a := h.symm
theorem j7 (h : a = b) (g : c = b) : a = c := h.trans g.symm
theorem j8 (h : a = b) : a ≤ b := Int.le_of_eq h
theorem j9 (h : a = b) : b ≤ a := Int.le_of_eq h.symm
theorem j11 {n : Nat} : 0 ≤ (n : Int) := Int.natCast_nonneg n
theorem j12 {n m : Nat} (h : n < m) : (n : Int) < (m : Int) := Int.ofNat_lt.mpr h
theorem j14 {n m : Nat} (h : (n : Int) < (m : Int)) : n < m := Int.ofNat_lt.mp h
theorem j15 {n m : Nat} (h : (n : Int) ≤ (m : Int)) : n ≤ m := Int.ofNat_le.mp h
theorem j16 {n : Nat} (h : 0 < n) : (0 : Int) < (n : Int) := Int.ofNat_lt.mpr h
theorem j18 (h : 0 ≤ a) : 0 ≤ a / 20 := Int.ediv_nonneg h (by decide)
theorem j21 {n : Nat} (h : 0 ≤ a) (g : a < (n : Int)) : a.toNat < n := (Int.toNat_lt h).mpr g
theorem j22 {n m : Nat} : ((n : Int) = (m : Int)) ↔ m = n := ⟨fun h => (Int.ofNat.inj h).symm, fun h => congrArg _ h.symm⟩
theorem j23 (h : 0 < a) : a ≠ 0 := Int.ne_of_gt h
theorem j24 {n : Nat} : (n : Int).toNat = n := rfl
theorem j25 (h : 0 ≤ a) (g : a ≤ b) : 0 < a + 1 := Int.lt_add_one_of_le h
theorem j26 {n m : Nat} (h : (n : Int) = (m : Int)) : n = m := Int.ofNat.inj h
theorem j27 {n m : Nat} (h : a = (n : Int)) (g : a = (m : Int)) : m = n := Int.ofNat.inj (g.symm.trans h)
theorem j28 {n : Nat} : ((n : Int) / 2) = ((n / 2 : Nat) : Int) := rfl
theorem j29 (h : ¬ a < b) (g : -b ≤ -c) : c ≤ a := Int.le_trans (Int.le_of_neg_le_neg g) (Int.not_lt.mp h)
theorem j30 (h : a < b) (g : -a ≤ -c) : c ≤ b := Int.le_trans (Int.le_of_neg_le_neg g) (Int.le_of_lt h)
theorem j31 {n : Nat} (h : a = (n : Int)) : ¬ a < 0 := h ▸ Int.not_lt.mpr (Int.natCast_nonneg _)
theorem j19 (h : 0 ≤ a) : (a.toNat : Int) = a := Int.toNat_of_nonneg h
theorem j20 (h : 0 ≤ a) : a = (a.toNat : Int) := (Int.toNat_of_nonneg h).symm
end
theorem g52 {y0 : Int} {x1 : Nat} (h1 : (y0 < (0 : Int))) : ((max (0 : Int) (min (y0 + ((x1 : Nat) : Int)) ((x1 : Nat) : Int))) = (((Int.toNat (y0 + ((x1 : Nat) : Int))) : Nat) : Int)) := by omega
theorem g53 {y0 : Int} {x1 : Nat} (h1 : (¬ (y0 < (0 : Int)))) : ((max (0 : Int) (min y0 ((x1 : Nat) : Int))) = (((min (Int.toNat y0) x1) : Nat) : Int)) := by omega
theorem g129 {x0 : Nat} {x1 : Nat} {x2 : Nat} {x3 : Nat} (h1 : (x0 ≤ x1)) (h2 : (x1 ≤ x2)) (h3 : (x2 < (x3 + 1))) (h4 : (¬ (x2 < x3))) (h5 : (¬ (x1 = x3))) : ((x3 - 1) < x3) := by omega
theorem g153 {x0 : Nat} {x1 : Nat} (h1 : (x0 < x1)) : ((x0 + 1) < ((2 * x1) + 1)) := by omega
theorem g159 {x0 : Nat} {x1 : Nat} {x2 : Nat} {x3 : Nat} (h1 : (x0 < x1)) (h2 : ((x2 - x3) ≤ (x1 - x0))) (h3 : (¬ (x3 ≥ x2))) : ((x2 - ((x3 + ((x2 - x3) / 2)) + 1)) ≤ (x1 - (x0 + 1))) := by
  rw [Nat.sub_add_eq, Nat.sub_add_eq, Nat.sub_add_eq x1]; exact Nat.sub_le_sub_right (Nat.le_trans (Nat.sub_le _ _) h2) 1
theorem g162 {x0 : Nat} {x1 : Nat} {x2 : Nat} {x3 : Nat} (h1 : (x0 < x1)) (h2 : ((x2 - x3) ≤ (x1 - x0))) (h3 : (¬ (x3 ≥ x2))) : (((x3 + ((x2 - x3) / 2)) - x3) ≤ (x1 - (x0 + 1))) := by
  rw [Nat.add_sub_cancel_left, Nat.sub_add_eq]; exact Nat.le_sub_one_of_lt (Nat.lt_of_lt_of_le (Nat.div_lt_self (Nat.sub_pos_of_lt (Nat.lt_of_not_le h3)) (by decide)) h2)
theorem g165 {x0 : Nat} {x1 : Nat} {x2 : Nat} (h1 : ((x0 - x1) ≤ (x2 - (max 0 x2)))) (h2 : (x1 ≤ x0)) : (x1 = x0) :=
  Nat.le_antisymm h2 (Nat.le_of_sub_eq_zero (Nat.le_zero.mp (Nat.le_trans h1 (by rw [Nat.zero_max, Nat.sub_self]; exact Nat.le_refl 0))))
theorem g255 {x0 : Nat} {x1 : Nat} {x2 : Nat} {x3 : Nat} (h1 : (x0 ≤ x1)) (h2 : (x2 < ((min x0 x1) - x3))) : ((x3 + x2) < x0) := by omega
theorem g290 {x0 : Nat} {x1 : Nat} {x2 : Nat} {x3 : Nat} {x4 : Nat} (h1 : (x0 = x1)) (h2 : (¬ (x2 < ((x3 + x4) + x1)))) : ((x3 + x4) ≤ x2) := by omega
theorem g320 {y0 : Int} {x1 : Nat} (h1 : ((0 : Int) ≤ y0)) (h2 : (y0 < ((2 : Int) * ((x1 : Nat) : Int)))) : ((Int.toNat y0) < (2 * x1)) := by omega
theorem g359 {x0 : Nat} (h1 : ((x0 % 2) = 0)) : ((((x0 : Nat) : Int) % (2 : Int)) = (0 : Int)) := by omega
theorem g375 {x0 : Nat} {x1 : Nat} (h1 : (x0 = x1)) (h2 : (x1 < 400)) : ((0 : Int) < (((0 : Int) + ((x1 : Nat) : Int)) + (1 : Int))) := by omega
theorem g394 {x0 : Nat} {x1 : Nat} (h1 : (((x0 : Nat) : Int) = ((x1 : Nat) : Int))) (h2 : (((x1 : Nat) : Int) < ((4 : Int) - (1 : Int)))) : ((x1 < 4) ∧ ((x1 + 1) < 4)) := by omega
theorem g445 {x0 : Nat} {x1 : Nat} (h1 : (0 < x0)) (h2 : (x0 ≤ 1000)) (h3 : (x1 < x0)) : (x1 < (Int.toNat (((x0 : Nat) : Int) - (0 : Int)))) := by omega
theorem g446 {x0 : Nat} (h1 : (0 < x0)) (h2 : (x0 ≤ 1000)) : ((Int.toNat (((x0 : Nat) : Int) - (0 : Int))) ≤ x0) := by omega
theorem g473 {x0 : Nat} {x1 : Nat} (h1 : ((1 : Int) ≤ ((x0 : Nat) : Int))) (h2 : (((x0 : Nat) : Int) ≤ (200 : Int))) (h3 : (((x1 : Nat) : Int) = ((x0 : Nat) : Int))) : (0 < x0) := by omega
theorem g483 {x0 : Nat} {x1 : Nat} {x2 : Nat} {x3 : Nat} {x4 : Nat} {x5 : Nat} (h1 : (x0 < x1)) (h2 : (x2 ≤ (x3 + 1))) (h3 : ((x4 + x3) = (x5 + x2))) : (x4 ≤ (x5 + 1)) := by omega
theorem z1 {e : Nat} (h : ¬ e % 2 = 0) : (e - 1) % 2 = 1 - e % 2 := by
  have h1 := (Nat.mod_two_eq_zero_or_one e).resolve_left h
  have h2 := Nat.div_add_mod e 2
  rw [h1] at h2 ⊢
  generalize e / 2 = k at h2
  subst h2
  rw [Nat.add_sub_cancel, Nat.mul_mod_right]
theorem z2 {e : Nat} (h : e % 2 = 0) : (e + 1) % 2 = 1 - e % 2 := by
  have h2 := Nat.div_add_mod e 2
  rw [h] at h2 ⊢
  generalize e / 2 = k at h2
  subst h2
  exact Nat.mul_add_mod 2 k 1
theorem z3 {e : Nat} (h : ¬ e % 2 = 0) : (e - 1) / 2 = e / 2 := by
  have h1 := (Nat.mod_two_eq_zero_or_one e).resolve_left h
  have h2 := Nat.div_add_mod e 2
  rw [h1] at h2
  generalize e / 2 = k at h2 ⊢
  subst h2
  rw [Nat.add_sub_cancel, Nat.mul_div_cancel_left k (by decide)]
theorem z4 {e : Nat} (h : e % 2 = 0) : (e + 1) / 2 = e / 2 := by
  have h2 := Nat.div_add_mod e 2
  rw [h] at h2
  generalize e / 2 = k at h2 ⊢
  subst h2
  exact Nat.mul_add_div (by decide) k 1
theorem z5 {l r : Nat} (h : l < r) : l ≤ (l + r) / 2 := (Nat.le_div_iff_mul_le (by decide)).mpr (by rw [Nat.mul_two]; exact Nat.add_le_add_left (Nat.le_of_lt h) l)
theorem z6 {l r : Nat} (h : l < r) : (l + r) / 2 < r := Nat.div_lt_of_lt_mul (by rw [Nat.two_mul]; exact Nat.add_lt_add_right h r)
theorem z7 {l r m x : Nat} (hs : r - l ≤ m - x) (h : ¬ l ≥ r) : (l + r) / 2 - l ≤ m - (x + 1) := by
  rw [Nat.sub_add_eq]; exact Nat.le_sub_one_of_lt (Nat.lt_of_lt_of_le (Nat.sub_lt_sub_right (z5 (Nat.lt_of_not_le h)) (z6 (Nat.lt_of_not_le h))) hs)
theorem z8 {l r m x : Nat} (hs : r - l ≤ m - x) (h : ¬ l ≥ r) : r - ((l + r) / 2 + 1) ≤ m - (x + 1) := by
  rw [Nat.sub_add_eq, Nat.sub_add_eq m]; exact Nat.sub_le_sub_right (Nat.le_trans (Nat.sub_le_sub_left (z5 (Nat.lt_of_not_le h)) r) hs) 1
end AR
section
variable {A B C D E F G H I J : Type}
theorem xPP {K L R : Prop} (k : K) (l : L) (r : R) : K ∧ L ∧ R := ⟨k, l, r⟩
theorem xWW {R : A → B → Prop} (a : A) (b : B) (r : R a b) : ∃ a b, R a b := ⟨a, b, r⟩
theorem xWP {K R : A → Prop} (a : A) (k : K a) (r : R a) : ∃ a, K a ∧ R a := ⟨a, k, r⟩
theorem xWWP {K R : A → B → Prop} (a : A) (b : B) (k : K a b) (r : R a b) : ∃ a b, K a b ∧ R a b := ⟨a, b, k, r⟩
theorem xWPP {K L R : A → Prop} (a : A) (k : K a) (l : L a) (r : R a) : ∃ a, K a ∧ L a ∧ R a := ⟨a, k, l, r⟩
theorem xPWP {K : Prop} {L R : A → Prop} (k : K) (a : A) (l : L a) (r : R a) : K ∧ ∃ a, L a ∧ R a := ⟨k, a, l, r⟩
theorem xPWW {K : Prop} {R : A → B → Prop} (k : K) (a : A) (b : B) (r : R a b) : K ∧ ∃ a b, R a b := ⟨k, a, b, r⟩
theorem xWWW {R : A → B → C → Prop} (a : A) (b : B) (c : C) (r : R a b c) : ∃ a b c, R a b c := ⟨a, b, c, r⟩
theorem xPPP {K L M R : Prop} (k : K) (l : L) (m : M) (r : R) : K ∧ L ∧ M ∧ R := ⟨k, l, m, r⟩
theorem xPWPP {K : Prop} {L M R : A → Prop} (k : K) (a : A) (l : L a) (m : M a) (r : R a) : K ∧ ∃ a, L a ∧ M a ∧ R a := ⟨k, a, l, m, r⟩
theorem xWWPP {K L R : A → B → Prop} (a : A) (b : B) (k : K a b) (l : L a b) (r : R a b) : ∃ a b, K a b ∧ L a b ∧ R a b := ⟨a, b, k, l, r⟩
theorem xWWWW {R : A → B → C → D → Prop} (a : A) (b : B) (c : C) (d : D) (r : R a b c d) : ∃ a b c d, R a b c d := ⟨a, b, c, d, r⟩
theorem xPPWP {K L : Prop} {M R : A → Prop} (k : K) (l : L) (a : A) (m : M a) (r : R a) : K ∧ L ∧ ∃ a, M a ∧ R a := ⟨k, l, a, m, r⟩
theorem xPWWW {K : Prop} {R : A → B → C → Prop} (k : K) (a : A) (b : B) (c : C) (r : R a b c) : K ∧ ∃ a b c, R a b c := ⟨k, a, b, c, r⟩
theorem xPWWP {K : Prop} {L R : A → B → Prop} (k : K) (a : A) (b : B) (l : L a b) (r : R a b) : K ∧ ∃ a b, L a b ∧ R a b := ⟨k, a, b, l, r⟩
theorem xWPPP {K L M R : A → Prop} (a : A) (k : K a) (l : L a) (m : M a) (r : R a) : ∃ a, K a ∧ L a ∧ M a ∧ R a := ⟨a, k, l, m, r⟩
theorem xWPWW {K : A → Prop} {R : A → B → C → Prop} (a : A) (k : K a) (b : B) (c : C) (r : R a b c) : ∃ a, K a ∧ ∃ b c, R a b c := ⟨a, k, b, c, r⟩
theorem xPPWW {K L : Prop} {R : A → B → Prop} (k : K) (l : L) (a : A) (b : B) (r : R a b) : K ∧ L ∧ ∃ a b, R a b := ⟨k, l, a, b, r⟩
theorem xWWWP {K R : A → B → C → Prop} (a : A) (b : B) (c : C) (k : K a b c) (r : R a b c) : ∃ a b c, K a b c ∧ R a b c := ⟨a, b, c, k, r⟩
theorem xPPPP {K L M N R : Prop} (k : K) (l : L) (m : M) (n : N) (r : R) : K ∧ L ∧ M ∧ N ∧ R := ⟨k, l, m, n, r⟩
theorem xWPWP {K : A → Prop} {L R : A → B → Prop} (a : A) (k : K a) (b : B) (l : L a b) (r : R a b) : ∃ a, K a ∧ ∃ b, L a b ∧ R a b := ⟨a, k, b, l, r⟩
theorem xWWWWP {K R : A → B → C → D → Prop} (a : A) (b : B) (c : C) (d : D) (k : K a b c d) (r : R a b c d) : ∃ a b c d, K a b c d ∧ R a b c d := xWW a b (xWWP c d k r)
theorem xPWWPP {K : Prop} {L M R : A → B → Prop} (k : K) (a : A) (b : B) (l : L a b) (m : M a b) (r : R a b) : K ∧ ∃ a b, L a b ∧ M a b ∧ R a b := xPWW k a b (xPP l m r)
theorem xWWWPP {K L R : A → B → C → Prop} (a : A) (b : B) (c : C) (k : K a b c) (l : L a b c) (r : R a b c) : ∃ a b c, K a b c ∧ L a b c ∧ R a b c := xWW a b (xWPP c k l r)
theorem xPPPWP {K L M : Prop} {N R : A → Prop} (k : K) (l : L) (m : M) (a : A) (n : N a) (r : R a) : K ∧ L ∧ M ∧ ∃ a, N a ∧ R a := xPP k l (xPWP m a n r)
theorem xWPPWP {K L : A → Prop} {M R : A → B → Prop} (a : A) (k : K a) (l : L a) (b : B) (m : M a b) (r : R a b) : ∃ a, K a ∧ L a ∧ ∃ b, M a b ∧ R a b := xWP a k (xPWP l b m r)
theorem xPWPPP {K : Prop} {L M N R : A → Prop} (k : K) (a : A) (l : L a) (m : M a) (n : N a) (r : R a) : K ∧ ∃ a, L a ∧ M a ∧ N a ∧ R a := xPWP k a l (xPP m n r)
theorem xPPWWP {K L : Prop} {M R : A → B → Prop} (k : K) (l : L) (a : A) (b : B) (m : M a b) (r : R a b) : K ∧ L ∧ ∃ a b, M a b ∧ R a b := xPP k l (xWWP a b m r)
theorem xPPWPP {K L : Prop} {M N R : A → Prop} (k : K) (l : L) (a : A) (m : M a) (n : N a) (r : R a) : K ∧ L ∧ ∃ a, M a ∧ N a ∧ R a := xPP k l (xWPP a m n r)
theorem xWPWPP {K : A → Prop} {L M R : A → B → Prop} (a : A) (k : K a) (b : B) (l : L a b) (m : M a b) (r : R a b) : ∃ a, K a ∧ ∃ b, L a b ∧ M a b ∧ R a b := xWP a k (xWPP b l m r)
theorem xPPPPP {K L M N O R : Prop} (k : K) (l : L) (m : M) (n : N) (o : O) (r : R) : K ∧ L ∧ M ∧ N ∧ O ∧ R := xPP k l (xPPP m n o r)
theorem xWPPPP {K L M N R : A → Prop} (a : A) (k : K a) (l : L a) (m : M a) (n : N a) (r : R a) : ∃ a, K a ∧ L a ∧ M a ∧ N a ∧ R a := xWP a k (xPPP l m n r)
theorem xWPWWP {K : A → Prop} {L R : A → B → C → Prop} (a : A) (k : K a) (b : B) (c : C) (l : L a b c) (r : R a b c) : ∃ a, K a ∧ ∃ b c, L a b c ∧ R a b c := xWP a k (xWWP b c l r)
theorem xPWPWP {K : Prop} {L : A → Prop} {M R : A → B → Prop} (k : K) (a : A) (l : L a) (b : B) (m : M a b) (r : R a b) : K ∧ ∃ a, L a ∧ ∃ b, M a b ∧ R a b := xPWP k a l (xWP b m r)
theorem xWWPPP {K L M R : A → B → Prop} (a : A) (b : B) (k : K a b) (l : L a b) (m : M a b) (r : R a b) : ∃ a b, K a b ∧ L a b ∧ M a b ∧ R a b := xWWP a b k (xPP l m r)
theorem xPPPPPP {K L M N O P R : Prop} (k : K) (l : L) (m : M) (n : N) (o : O) (p : P) (r : R) : K ∧ L ∧ M ∧ N ∧ O ∧ P ∧ R := xPPP k l m (xPPP n o p r)
theorem xPPWWPP {K L : Prop} {M N R : A → B → Prop} (k : K) (l : L) (a : A) (b : B) (m : M a b) (n : N a b) (r : R a b) : K ∧ L ∧ ∃ a b, M a b ∧ N a b ∧ R a b := xPP k l (xWWPP a b m n r)
theorem xWWPWWP {K : A → B → Prop} {L R : A → B → C → D → Prop} (a : A) (b : B) (k : K a b) (c : C) (d : D) (l : L a b c d) (r : R a b c d) : ∃ a b, K a b ∧ ∃ c d, L a b c d ∧ R a b c d := xWWP a b k (xWWP c d l r)
theorem xWWWPPP {K L M R : A → B → C → Prop} (a : A) (b : B) (c : C) (k : K a b c) (l : L a b c) (m : M a b c) (r : R a b c) : ∃ a b c, K a b c ∧ L a b c ∧ M a b c ∧ R a b c := xWWW a b c (xPPP k l m r)
theorem xPWPPPP {K : Prop} {L M N O R : A → Prop} (k : K) (a : A) (l : L a) (m : M a) (n : N a) (o : O a) (r : R a) : K ∧ ∃ a, L a ∧ M a ∧ N a ∧ O a ∧ R a := xPWP k a l (xPPP m n o r)
theorem xWWPPPP {K L M N R : A → B → Prop} (a : A) (b : B) (k : K a b) (l : L a b) (m : M a b) (n : N a b) (r : R a b) : ∃ a b, K a b ∧ L a b ∧ M a b ∧ N a b ∧ R a b := xWWP a b k (xPPP l m n r)
theorem xWPPPPP {K L M N O R : A → Prop} (a : A) (k : K a) (l : L a) (m : M a) (n : N a) (o : O a) (r : R a) : ∃ a, K a ∧ L a ∧ M a ∧ N a ∧ O a ∧ R a := xWPP a k l (xPPP m n o r)
theorem xPWWWWP {K : Prop} {L R : A → B → C → D → Prop} (k : K) (a : A) (b : B) (c : C) (d : D) (l : L a b c d) (r : R a b c d) : K ∧ ∃ a b c d, L a b c d ∧ R a b c d := xPWW k a b (xWWP c d l r)
theorem xPPPPWP {K L M N : Prop} {O R : A → Prop} (k : K) (l : L) (m : M) (n : N) (a : A) (o : O a) (r : R a) : K ∧ L ∧ M ∧ N ∧ ∃ a, O a ∧ R a := xPPP k l m (xPWP n a o r)
theorem xWPWPPP {K : A → Prop} {L M N R : A → B → Prop} (a : A) (k : K a) (b : B) (l : L a b) (m : M a b) (n : N a b) (r : R a b) : ∃ a, K a ∧ ∃ b, L a b ∧ M a b ∧ N a b ∧ R a b := xWP a k (xWPPP b l m n r)
theorem xPWWPPP {K : Prop} {L M N R : A → B → Prop} (k : K) (a : A) (b : B) (l : L a b) (m : M a b) (n : N a b) (r : R a b) : K ∧ ∃ a b, L a b ∧ M a b ∧ N a b ∧ R a b := xPWW k a b (xPPP l m n r)
theorem xWPWWPP {K : A → Prop} {L M R : A → B → C → Prop} (a : A) (k : K a) (b : B) (c : C) (l : L a b c) (m : M a b c) (r : R a b c) : ∃ a, K a ∧ ∃ b c, L a b c ∧ M a b c ∧ R a b c := xWP a k (xWWPP b c l m r)
theorem xWWPPWP {K L : A → B → Prop} {M R : A → B → C → Prop} (a : A) (b : B) (k : K a b) (l : L a b) (c : C) (m : M a b c) (r : R a b c) : ∃ a b, K a b ∧ L a b ∧ ∃ c, M a b c ∧ R a b c := xWWP a b k (xPWP l c m r)
theorem xWPWPWP {K : A → Prop} {L : A → B → Prop} {M R : A → B → C → Prop} (a : A) (k : K a) (b : B) (l : L a b) (c : C) (m : M a b c) (r : R a b c) : ∃ a, K a ∧ ∃ b, L a b ∧ ∃ c, M a b c ∧ R a b c := xWP a k (xWPWP b l c m r)
theorem xWPWPPWP {K : A → Prop} {L M : A → B → Prop} {N R : A → B → C → Prop} (a : A) (k : K a) (b : B) (l : L a b) (m : M a b) (c : C) (n : N a b c) (r : R a b c) : ∃ a, K a ∧ ∃ b, L a b ∧ M a b ∧ ∃ c, N a b c ∧ R a b c := xWPWP a k b l (xPWP m c n r)
theorem xWWWPPPP {K L M N R : A → B → C → Prop} (a : A) (b : B) (c : C) (k : K a b c) (l : L a b c) (m : M a b c) (n : N a b c) (r : R a b c) : ∃ a b c, K a b c ∧ L a b c ∧ M a b c ∧ N a b c ∧ R a b c := xWWWP a b c k (xPPP l m n r)
theorem xPWWPPPP {K : Prop} {L M N O R : A → B → Prop} (k : K) (a : A) (b : B) (l : L a b) (m : M a b) (n : N a b) (o : O a b) (r : R a b) : K ∧ ∃ a b, L a b ∧ M a b ∧ N a b ∧ O a b ∧ R a b := xPWWP k a b l (xPPP m n o r)
theorem xPPPPPPP {K L M N O P Q R : Prop} (k : K) (l : L) (m : M) (n : N) (o : O) (p : P) (q : Q) (r : R) : K ∧ L ∧ M ∧ N ∧ O ∧ P ∧ Q ∧ R := xPPP k l m (xPPPP n o p q r)
theorem xPWPWWPP {K : Prop} {L : A → Prop} {M N R : A → B → C → Prop} (k : K) (a : A) (l : L a) (b : B) (c : C) (m : M a b c) (n : N a b c) (r : R a b c) : K ∧ ∃ a, L a ∧ ∃ b c, M a b c ∧ N a b c ∧ R a b c := xPWP k a l (xWWPP b c m n r)
theorem xWWWWPPP {K L M R : A → B → C → D → Prop} (a : A) (b : B) (c : C) (d : D) (k : K a b c d) (l : L a b c d) (m : M a b c d) (r : R a b c d) : ∃ a b c d, K a b c d ∧ L a b c d ∧ M a b c d ∧ R a b c d := xWWW a b c (xWPPP d k l m r)
theorem xWPWWPPP {K : A → Prop} {L M N R : A → B → C → Prop} (a : A) (k : K a) (b : B) (c : C) (l : L a b c) (m : M a b c) (n : N a b c) (r : R a b c) : ∃ a, K a ∧ ∃ b c, L a b c ∧ M a b c ∧ N a b c ∧ R a b c := xWP a k (xWWPPP b c l m n r)
theorem xPWWWWWP {K : Prop} {L R : A → B → C → D → E → Prop} (k : K) (a : A) (b : B) (c : C) (d : D) (e : E) (l : L a b c d e) (r : R a b c d e) : K ∧ ∃ a b c d e, L a b c d e ∧ R a b c d e := xPWW k a b (xWWWP c d e l r)
theorem xPWWWPPP {K : Prop} {L M N R : A → B → C → Prop} (k : K) (a : A) (b : B) (c : C) (l : L a b c) (m : M a b c) (n : N a b c) (r : R a b c) : K ∧ ∃ a b c, L a b c ∧ M a b c ∧ N a b c ∧ R a b c := xPWW k a b (xWPPP c l m n r)
theorem xPPWWPPP {K L : Prop} {M N O R : A → B → Prop} (k : K) (l : L) (a : A) (b : B) (m : M a b) (n : N a b) (o : O a b) (r : R a b) : K ∧ L ∧ ∃ a b, M a b ∧ N a b ∧ O a b ∧ R a b := xPP k l (xWWPPP a b m n o r)
theorem xWWPWPWP {K : A → B → Prop} {L : A → B → C → Prop} {M R : A → B → C → D → Prop} (a : A) (b : B) (k : K a b) (c : C) (l : L a b c) (d : D) (m : M a b c d) (r : R a b c d) : ∃ a b, K a b ∧ ∃ c, L a b c ∧ ∃ d, M a b c d ∧ R a b c d := xWWP a b k (xWPWP c l d m r)
theorem xPWWPPWP {K : Prop} {L M : A → B → Prop} {N R : A → B → C → Prop} (k : K) (a : A) (b : B) (l : L a b) (m : M a b) (c : C) (n : N a b c) (r : R a b c) : K ∧ ∃ a b, L a b ∧ M a b ∧ ∃ c, N a b c ∧ R a b c := xPWWP k a b l (xPWP m c n r)
theorem xWPWPWPP {K : A → Prop} {L : A → B → Prop} {M N R : A → B → C → Prop} (a : A) (k : K a) (b : B) (l : L a b) (c : C) (m : M a b c) (n : N a b c) (r : R a b c) : ∃ a, K a ∧ ∃ b, L a b ∧ ∃ c, M a b c ∧ N a b c ∧ R a b c := xWPWP a k b l (xWPP c m n r)
theorem xWPPWPWP {K L : A → Prop} {M : A → B → Prop} {N R : A → B → C → Prop} (a : A) (k : K a) (l : L a) (b : B) (m : M a b) (c : C) (n : N a b c) (r : R a b c) : ∃ a, K a ∧ L a ∧ ∃ b, M a b ∧ ∃ c, N a b c ∧ R a b c := xWPP a k l (xWPWP b m c n r)
theorem xWWPPPPP {K L M N O R : A → B → Prop} (a : A) (b : B) (k : K a b) (l : L a b) (m : M a b) (n : N a b) (o : O a b) (r : R a b) : ∃ a b, K a b ∧ L a b ∧ M a b ∧ N a b ∧ O a b ∧ R a b := xWWP a b k (xPPPP l m n o r)
theorem xWWPPPWP {K L M : A → B → Prop} {N R : A → B → C → Prop} (a : A) (b : B) (k : K a b) (l : L a b) (m : M a b) (c : C) (n : N a b c) (r : R a b c) : ∃ a b, K a b ∧ L a b ∧ M a b ∧ ∃ c, N a b c ∧ R a b c := xWWP a b k (xPPWP l m c n r)
theorem xWWPPPPWP {K L M N : A → B → Prop} {O R : A → B → C → Prop} (a : A) (b : B) (k : K a b) (l : L a b) (m : M a b) (n : N a b) (c : C) (o : O a b c) (r : R a b c) : ∃ a b, K a b ∧ L a b ∧ M a b ∧ N a b ∧ ∃ c, O a b c ∧ R a b c := xWWPP a b k l (xPPWP m n c o r)
theorem xWPPWPWWP {K L : A → Prop} {M : A → B → Prop} {N R : A → B → C → D → Prop} (a : A) (k : K a) (l : L a) (b : B) (m : M a b) (c : C) (d : D) (n : N a b c d) (r : R a b c d) : ∃ a, K a ∧ L a ∧ ∃ b, M a b ∧ ∃ c d, N a b c d ∧ R a b c d := xWPP a k l (xWPWWP b m c d n r)
theorem xWWWWWWPP {K L R : A → B → C → D → E → F → Prop} (a : A) (b : B) (c : C) (d : D) (e : E) (f : F) (k : K a b c d e f) (l : L a b c d e f) (r : R a b c d e f) : ∃ a b c d e f, K a b c d e f ∧ L a b c d e f ∧ R a b c d e f := xWWWW a b c d (xWWPP e f k l r)
theorem xWPWWWWPP {K : A → Prop} {L M R : A → B → C → D → E → Prop} (a : A) (k : K a) (b : B) (c : C) (d : D) (e : E) (l : L a b c d e) (m : M a b c d e) (r : R a b c d e) : ∃ a, K a ∧ ∃ b c d e, L a b c d e ∧ M a b c d e ∧ R a b c d e := xWPWW a k b c (xWWPP d e l m r)
theorem xWWWWWWWW {R : A → B → C → D → E → F → G → H → Prop} (a : A) (b : B) (c : C) (d : D) (e : E) (f : F) (g : G) (h : H) (r : R a b c d e f g h) : ∃ a b c d e f g h, R a b c d e f g h := xWWWW a b c d (xWWWW e f g h r)
theorem xWPWPWWWP {K : A → Prop} {L : A → B → Prop} {M R : A → B → C → D → E → Prop} (a : A) (k : K a) (b : B) (l : L a b) (c : C) (d : D) (e : E) (m : M a b c d e) (r : R a b c d e) : ∃ a, K a ∧ ∃ b, L a b ∧ ∃ c d e, M a b c d e ∧ R a b c d e := xWPWP a k b l (xWWWP c d e m r)
theorem xWPWWPPWP {K : A → Prop} {L M : A → B → C → Prop} {N R : A → B → C → D → Prop} (a : A) (k : K a) (b : B) (c : C) (l : L a b c) (m : M a b c) (d : D) (n : N a b c d) (r : R a b c d) : ∃ a, K a ∧ ∃ b c, L a b c ∧ M a b c ∧ ∃ d, N a b c d ∧ R a b c d := xWPWW a k b c (xPPWP l m d n r)
theorem xWWWWWWWP {K R : A → B → C → D → E → F → G → Prop} (a : A) (b : B) (c : C) (d : D) (e : E) (f : F) (g : G) (k : K a b c d e f g) (r : R a b c d e f g) : ∃ a b c d e f g, K a b c d e f g ∧ R a b c d e f g := xWWWW a b c d (xWWWP e f g k r)
theorem xWWPPPWPP {K L M : A → B → Prop} {N O R : A → B → C → Prop} (a : A) (b : B) (k : K a b) (l : L a b) (m : M a b) (c : C) (n : N a b c) (o : O a b c) (r : R a b c) : ∃ a b, K a b ∧ L a b ∧ M a b ∧ ∃ c, N a b c ∧ O a b c ∧ R a b c := xWWPP a b k l (xPWPP m c n o r)
theorem xPPWPWPWP {K L : Prop} {M : A → Prop} {N : A → B → Prop} {O R : A → B → C → Prop} (k : K) (l : L) (a : A) (m : M a) (b : B) (n : N a b) (c : C) (o : O a b c) (r : R a b c) : K ∧ L ∧ ∃ a, M a ∧ ∃ b, N a b ∧ ∃ c, O a b c ∧ R a b c := xPPWP k l a m (xWPWP b n c o r)
theorem xWPWWWPPP {K : A → Prop} {L M N R : A → B → C → D → Prop} (a : A) (k : K a) (b : B) (c : C) (d : D) (l : L a b c d) (m : M a b c d) (n : N a b c d) (r : R a b c d) : ∃ a, K a ∧ ∃ b c d, L a b c d ∧ M a b c d ∧ N a b c d ∧ R a b c d := xWPWW a k b c (xWPPP d l m n r)
theorem xWPPWWWPP {K L : A → Prop} {M N R : A → B → C → D → Prop} (a : A) (k : K a) (l : L a) (b : B) (c : C) (d : D) (m : M a b c d) (n : N a b c d) (r : R a b c d) : ∃ a, K a ∧ L a ∧ ∃ b c d, M a b c d ∧ N a b c d ∧ R a b c d := xWPP a k l (xWWWPP b c d m n r)
theorem xWWPPWWWP {K L : A → B → Prop} {M R : A → B → C → D → E → Prop} (a : A) (b : B) (k : K a b) (l : L a b) (c : C) (d : D) (e : E) (m : M a b c d e) (r : R a b c d e) : ∃ a b, K a b ∧ L a b ∧ ∃ c d e, M a b c d e ∧ R a b c d e := xWWPP a b k l (xWWWP c d e m r)
theorem xPPWPWWWP {K L : Prop} {M : A → Prop} {N R : A → B → C → D → Prop} (k : K) (l : L) (a : A) (m : M a) (b : B) (c : C) (d : D) (n : N a b c d) (r : R a b c d) : K ∧ L ∧ ∃ a, M a ∧ ∃ b c d, N a b c d ∧ R a b c d := xPPWP k l a m (xWWWP b c d n r)
theorem xWWPPWPWP {K L : A → B → Prop} {M : A → B → C → Prop} {N R : A → B → C → D → Prop} (a : A) (b : B) (k : K a b) (l : L a b) (c : C) (m : M a b c) (d : D) (n : N a b c d) (r : R a b c d) : ∃ a b, K a b ∧ L a b ∧ ∃ c, M a b c ∧ ∃ d, N a b c d ∧ R a b c d := xWWPP a b k l (xWPWP c m d n r)
theorem xWWPWWPPP {K : A → B → Prop} {L M N R : A → B → C → D → Prop} (a : A) (b : B) (k : K a b) (c : C) (d : D) (l : L a b c d) (m : M a b c d) (n : N a b c d) (r : R a b c d) : ∃ a b, K a b ∧ ∃ c d, L a b c d ∧ M a b c d ∧ N a b c d ∧ R a b c d := xWWP a b k (xWWPPP c d l m n r)
theorem xWWWWPPPP {K L M N R : A → B → C → D → Prop} (a : A) (b : B) (c : C) (d : D) (k : K a b c d) (l : L a b c d) (m : M a b c d) (n : N a b c d) (r : R a b c d) : ∃ a b c d, K a b c d ∧ L a b c d ∧ M a b c d ∧ N a b c d ∧ R a b c d := xWWWW a b c d (xPPPP k l m n r)
theorem xWPWPPPPP {K : A → Prop} {L M N O P R : A → B → Prop} (a : A) (k : K a) (b : B) (l : L a b) (m : M a b) (n : N a b) (o : O a b) (p : P a b) (r : R a b) : ∃ a, K a ∧ ∃ b, L a b ∧ M a b ∧ N a b ∧ O a b ∧ P a b ∧ R a b := xWPWP a k b l (xPPPP m n o p r)
theorem xPWPWWWPP {K : Prop} {L : A → Prop} {M N R : A → B → C → D → Prop} (k : K) (a : A) (l : L a) (b : B) (c : C) (d : D) (m : M a b c d) (n : N a b c d) (r : R a b c d) : K ∧ ∃ a, L a ∧ ∃ b c d, M a b c d ∧ N a b c d ∧ R a b c d := xPWP k a l (xWWWPP b c d m n r)
theorem xWWPPPWWP {K L M : A → B → Prop} {N R : A → B → C → D → Prop} (a : A) (b : B) (k : K a b) (l : L a b) (m : M a b) (c : C) (d : D) (n : N a b c d) (r : R a b c d) : ∃ a b, K a b ∧ L a b ∧ M a b ∧ ∃ c d, N a b c d ∧ R a b c d := xWWPP a b k l (xPWWP m c d n r)
theorem xWWWPPPPP {K L M N O R : A → B → C → Prop} (a : A) (b : B) (c : C) (k : K a b c) (l : L a b c) (m : M a b c) (n : N a b c) (o : O a b c) (r : R a b c) : ∃ a b c, K a b c ∧ L a b c ∧ M a b c ∧ N a b c ∧ O a b c ∧ R a b c := xWWWP a b c k (xPPPP l m n o r)
theorem xPWPWWWWP {K : Prop} {L : A → Prop} {M R : A → B → C → D → E → Prop} (k : K) (a : A) (l : L a) (b : B) (c : C) (d : D) (e : E) (m : M a b c d e) (r : R a b c d e) : K ∧ ∃ a, L a ∧ ∃ b c d e, M a b c d e ∧ R a b c d e := xPWP k a l (xWWWWP b c d e m r)
theorem xWPWPWWPP {K : A → Prop} {L : A → B → Prop} {M N R : A → B → C → D → Prop} (a : A) (k : K a) (b : B) (l : L a b) (c : C) (d : D) (m : M a b c d) (n : N a b c d) (r : R a b c d) : ∃ a, K a ∧ ∃ b, L a b ∧ ∃ c d, M a b c d ∧ N a b c d ∧ R a b c d := xWPWP a k b l (xWWPP c d m n r)
theorem xPPWPWWPP {K L : Prop} {M : A → Prop} {N O R : A → B → C → Prop} (k : K) (l : L) (a : A) (m : M a) (b : B) (c : C) (n : N a b c) (o : O a b c) (r : R a b c) : K ∧ L ∧ ∃ a, M a ∧ ∃ b c, N a b c ∧ O a b c ∧ R a b c := xPPWP k l a m (xWWPP b c n o r)
theorem xPWPWWPPP {K : Prop} {L : A → Prop} {M N O R : A → B → C → Prop} (k : K) (a : A) (l : L a) (b : B) (c : C) (m : M a b c) (n : N a b c) (o : O a b c) (r : R a b c) : K ∧ ∃ a, L a ∧ ∃ b c, M a b c ∧ N a b c ∧ O a b c ∧ R a b c := xPWP k a l (xWWPPP b c m n o r)
theorem xWPWWWWWP {K : A → Prop} {L R : A → B → C → D → E → F → Prop} (a : A) (k : K a) (b : B) (c : C) (d : D) (e : E) (f : F) (l : L a b c d e f) (r : R a b c d e f) : ∃ a, K a ∧ ∃ b c d e f, L a b c d e f ∧ R a b c d e f := xWPWW a k b c (xWWWP d e f l r)
theorem xWWWWWPPP {K L M R : A → B → C → D → E → Prop} (a : A) (b : B) (c : C) (d : D) (e : E) (k : K a b c d e) (l : L a b c d e) (m : M a b c d e) (r : R a b c d e) : ∃ a b c d e, K a b c d e ∧ L a b c d e ∧ M a b c d e ∧ R a b c d e := xWWWW a b c d (xWPPP e k l m r)
theorem xPWWPPPWP {K : Prop} {L M N : A → B → Prop} {O R : A → B → C → Prop} (k : K) (a : A) (b : B) (l : L a b) (m : M a b) (n : N a b) (c : C) (o : O a b c) (r : R a b c) : K ∧ ∃ a b, L a b ∧ M a b ∧ N a b ∧ ∃ c, O a b c ∧ R a b c := xPWWP k a b l (xPPWP m n c o r)
theorem xWWPPWPPP {K L : A → B → Prop} {M N O R : A → B → C → Prop} (a : A) (b : B) (k : K a b) (l : L a b) (c : C) (m : M a b c) (n : N a b c) (o : O a b c) (r : R a b c) : ∃ a b, K a b ∧ L a b ∧ ∃ c, M a b c ∧ N a b c ∧ O a b c ∧ R a b c := xWWPP a b k l (xWPPP c m n o r)
theorem xWWPPWWPP {K L : A → B → Prop} {M N R : A → B → C → D → Prop} (a : A) (b : B) (k : K a b) (l : L a b) (c : C) (d : D) (m : M a b c d) (n : N a b c d) (r : R a b c d) : ∃ a b, K a b ∧ L a b ∧ ∃ c d, M a b c d ∧ N a b c d ∧ R a b c d := xWWPP a b k l (xWWPP c d m n r)
theorem xPWWWWWPP {K : Prop} {L M R : A → B → C → D → E → Prop} (k : K) (a : A) (b : B) (c : C) (d : D) (e : E) (l : L a b c d e) (m : M a b c d e) (r : R a b c d e) : K ∧ ∃ a b c d e, L a b c d e ∧ M a b c d e ∧ R a b c d e := xPWWW k a b c (xWWPP d e l m r)
theorem xPPWWWPPP {K L : Prop} {M N O R : A → B → C → Prop} (k : K) (l : L) (a : A) (b : B) (c : C) (m : M a b c) (n : N a b c) (o : O a b c) (r : R a b c) : K ∧ L ∧ ∃ a b c, M a b c ∧ N a b c ∧ O a b c ∧ R a b c := xPPWW k l a b (xWPPP c m n o r)
theorem xWPPWPWPP {K L : A → Prop} {M : A → B → Prop} {N O R : A → B → C → Prop} (a : A) (k : K a) (l : L a) (b : B) (m : M a b) (c : C) (n : N a b c) (o : O a b c) (r : R a b c) : ∃ a, K a ∧ L a ∧ ∃ b, M a b ∧ ∃ c, N a b c ∧ O a b c ∧ R a b c := xWPP a k l (xWPWPP b m c n o r)
theorem xWPWPWPWP {K : A → Prop} {L : A → B → Prop} {M : A → B → C → Prop} {N R : A → B → C → D → Prop} (a : A) (k : K a) (b : B) (l : L a b) (c : C) (m : M a b c) (d : D) (n : N a b c d) (r : R a b c d) : ∃ a, K a ∧ ∃ b, L a b ∧ ∃ c, M a b c ∧ ∃ d, N a b c d ∧ R a b c d := xWPWP a k b l (xWPWP c m d n r)
theorem xPWWWWPPP {K : Prop} {L M N R : A → B → C → D → Prop} (k : K) (a : A) (b : B) (c : C) (d : D) (l : L a b c d) (m : M a b c d) (n : N a b c d) (r : R a b c d) : K ∧ ∃ a b c d, L a b c d ∧ M a b c d ∧ N a b c d ∧ R a b c d := xPWWW k a b c (xWPPP d l m n r)
theorem xPWWPPPPP {K : Prop} {L M N O P R : A → B → Prop} (k : K) (a : A) (b : B) (l : L a b) (m : M a b) (n : N a b) (o : O a b) (p : P a b) (r : R a b) : K ∧ ∃ a b, L a b ∧ M a b ∧ N a b ∧ O a b ∧ P a b ∧ R a b := xPWWP k a b l (xPPPP m n o p r)
theorem xWPWWPPPP {K : A → Prop} {L M N O R : A → B → C → Prop} (a : A) (k : K a) (b : B) (c : C) (l : L a b c) (m : M a b c) (n : N a b c) (o : O a b c) (r : R a b c) : ∃ a, K a ∧ ∃ b c, L a b c ∧ M a b c ∧ N a b c ∧ O a b c ∧ R a b c := xWPWW a k b c (xPPPP l m n o r)
theorem yWP {K R : A → Prop} {Z : Prop} (h : ∃ a, K a ∧ R a) (k : ∀ a, K a → R a → Z) : Z := by obtain ⟨a_, k_, r⟩ := h; exact k a_ k_ r
theorem yPP {K L R : Prop} {Z : Prop} (h : K ∧ L ∧ R) (k : K → L → R → Z) : Z := by obtain ⟨k_, l_, r⟩ := h; exact k k_ l_ r
theorem yWW {R : A → B → Prop} {Z : Prop} (h : ∃ a b, R a b) (k : ∀ a b, R a b → Z) : Z := by obtain ⟨a_, b_, r⟩ := h; exact k a_ b_ r
theorem yPWP {K : Prop} {L R : A → Prop} {Z : Prop} (h : K ∧ ∃ a, L a ∧ R a) (k : K → ∀ a, L a → R a → Z) : Z := by obtain ⟨k_, a_, l_, r⟩ := h; exact k k_ a_ l_ r
theorem yPPP {K L M R : Prop} {Z : Prop} (h : K ∧ L ∧ M ∧ R) (k : K → L → M → R → Z) : Z := by obtain ⟨k_, l_, m_, r⟩ := h; exact k k_ l_ m_ r
theorem yWWP {K R : A → B → Prop} {Z : Prop} (h : ∃ a b, K a b ∧ R a b) (k : ∀ a b, K a b → R a b → Z) : Z := by obtain ⟨a_, b_, k_, r⟩ := h; exact k a_ b_ k_ r
theorem yPWW {K : Prop} {R : A → B → Prop} {Z : Prop} (h : K ∧ ∃ a b, R a b) (k : K → ∀ a b, R a b → Z) : Z := by obtain ⟨k_, a_, b_, r⟩ := h; exact k k_ a_ b_ r
theorem yWWW {R : A → B → C → Prop} {Z : Prop} (h : ∃ a b c, R a b c) (k : ∀ a b c, R a b c → Z) : Z := by obtain ⟨a_, b_, c_, r⟩ := h; exact k a_ b_ c_ r
theorem yWPP {K L R : A → Prop} {Z : Prop} (h : ∃ a, K a ∧ L a ∧ R a) (k : ∀ a, K a → L a → R a → Z) : Z := by obtain ⟨a_, k_, l_, r⟩ := h; exact k a_ k_ l_ r
theorem yPWPP {K : Prop} {L M R : A → Prop} {Z : Prop} (h : K ∧ ∃ a, L a ∧ M a ∧ R a) (k : K → ∀ a, L a → M a → R a → Z) : Z := by obtain ⟨k_, a_, l_, m_, r⟩ := h; exact k k_ a_ l_ m_ r
theorem yWWWW {R : A → B → C → D → Prop} {Z : Prop} (h : ∃ a b c d, R a b c d) (k : ∀ a b c d, R a b c d → Z) : Z := by obtain ⟨a_, b_, c_, d_, r⟩ := h; exact k a_ b_ c_ d_ r
theorem yPPWP {K L : Prop} {M R : A → Prop} {Z : Prop} (h : K ∧ L ∧ ∃ a, M a ∧ R a) (k : K → L → ∀ a, M a → R a → Z) : Z := by obtain ⟨k_, l_, a_, m_, r⟩ := h; exact k k_ l_ a_ m_ r
theorem yPWWW {K : Prop} {R : A → B → C → Prop} {Z : Prop} (h : K ∧ ∃ a b c, R a b c) (k : K → ∀ a b c, R a b c → Z) : Z := by obtain ⟨k_, a_, b_, c_, r⟩ := h; exact k k_ a_ b_ c_ r
theorem yPPPP {K L M N R : Prop} {Z : Prop} (h : K ∧ L ∧ M ∧ N ∧ R) (k : K → L → M → N → R → Z) : Z := by obtain ⟨k_, l_, m_, n_, r⟩ := h; exact k k_ l_ m_ n_ r
theorem yWPPP {K L M R : A → Prop} {Z : Prop} (h : ∃ a, K a ∧ L a ∧ M a ∧ R a) (k : ∀ a, K a → L a → M a → R a → Z) : Z := by obtain ⟨a_, k_, l_, m_, r⟩ := h; exact k a_ k_ l_ m_ r
theorem yWWPP {K L R : A → B → Prop} {Z : Prop} (h : ∃ a b, K a b ∧ L a b ∧ R a b) (k : ∀ a b, K a b → L a b → R a b → Z) : Z := by obtain ⟨a_, b_, k_, l_, r⟩ := h; exact k a_ b_ k_ l_ r
theorem yPWWP {K : Prop} {L R : A → B → Prop} {Z : Prop} (h : K ∧ ∃ a b, L a b ∧ R a b) (k : K → ∀ a b, L a b → R a b → Z) : Z := by obtain ⟨k_, a_, b_, l_, r⟩ := h; exact k k_ a_ b_ l_ r
theorem yWWWP {K R : A → B → C → Prop} {Z : Prop} (h : ∃ a b c, K a b c ∧ R a b c) (k : ∀ a b c, K a b c → R a b c → Z) : Z := by obtain ⟨a_, b_, c_, k_, r⟩ := h; exact k a_ b_ c_ k_ r
theorem yWWWWP {K R : A → B → C → D → Prop} {Z : Prop} (h : ∃ a b c d, K a b c d ∧ R a b c d) (k : ∀ a b c d, K a b c d → R a b c d → Z) : Z := yWW h fun a_ b_ h => yWWP h fun c_ d_ k_ r => k a_ b_ c_ d_ k_ r
theorem yPPPPP {K L M N O R : Prop} {Z : Prop} (h : K ∧ L ∧ M ∧ N ∧ O ∧ R) (k : K → L → M → N → O → R → Z) : Z := yPP h fun k_ l_ h => yPPP h fun m_ n_ o_ r => k k_ l_ m_ n_ o_ r
theorem yWPPPP {K L M N R : A → Prop} {Z : Prop} (h : ∃ a, K a ∧ L a ∧ M a ∧ N a ∧ R a) (k : ∀ a, K a → L a → M a → N a → R a → Z) : Z := yWP h fun a_ k_ h => yPPP h fun l_ m_ n_ r => k a_ k_ l_ m_ n_ r
theorem yPWWPP {K : Prop} {L M R : A → B → Prop} {Z : Prop} (h : K ∧ ∃ a b, L a b ∧ M a b ∧ R a b) (k : K → ∀ a b, L a b → M a b → R a b → Z) : Z := yPWW h fun k_ a_ b_ h => yPP h fun l_ m_ r => k k_ a_ b_ l_ m_ r
theorem yWWWPP {K L R : A → B → C → Prop} {Z : Prop} (h : ∃ a b c, K a b c ∧ L a b c ∧ R a b c) (k : ∀ a b c, K a b c → L a b c → R a b c → Z) : Z := yWW h fun a_ b_ h => yWPP h fun c_ k_ l_ r => k a_ b_ c_ k_ l_ r
theorem yPWPPP {K : Prop} {L M N R : A → Prop} {Z : Prop} (h : K ∧ ∃ a, L a ∧ M a ∧ N a ∧ R a) (k : K → ∀ a, L a → M a → N a → R a → Z) : Z := yPWP h fun k_ a_ l_ h => yPP h fun m_ n_ r => k k_ a_ l_ m_ n_ r
theorem yPWPWP {K : Prop} {L : A → Prop} {M R : A → B → Prop} {Z : Prop} (h : K ∧ ∃ a, L a ∧ ∃ b, M a b ∧ R a b) (k : K → ∀ a, L a → ∀ b, M a b → R a b → Z) : Z := yPWP h fun k_ a_ l_ h => yWP h fun b_ m_ r => k k_ a_ l_ b_ m_ r
theorem yWWPPP {K L M R : A → B → Prop} {Z : Prop} (h : ∃ a b, K a b ∧ L a b ∧ M a b ∧ R a b) (k : ∀ a b, K a b → L a b → M a b → R a b → Z) : Z := yWWP h fun a_ b_ k_ h => yPP h fun l_ m_ r => k a_ b_ k_ l_ m_ r
theorem yPPWPP {K L : Prop} {M N R : A → Prop} {Z : Prop} (h : K ∧ L ∧ ∃ a, M a ∧ N a ∧ R a) (k : K → L → ∀ a, M a → N a → R a → Z) : Z := yPP h fun k_ l_ h => yWPP h fun a_ m_ n_ r => k k_ l_ a_ m_ n_ r
theorem yPPPPPP {K L M N O P R : Prop} {Z : Prop} (h : K ∧ L ∧ M ∧ N ∧ O ∧ P ∧ R) (k : K → L → M → N → O → P → R → Z) : Z := yPPP h fun k_ l_ m_ h => yPPP h fun n_ o_ p_ r => k k_ l_ m_ n_ o_ p_ r
theorem yPWWWWP {K : Prop} {L R : A → B → C → D → Prop} {Z : Prop} (h : K ∧ ∃ a b c d, L a b c d ∧ R a b c d) (k : K → ∀ a b c d, L a b c d → R a b c d → Z) : Z := yPWW h fun k_ a_ b_ h => yWWP h fun c_ d_ l_ r => k k_ a_ b_ c_ d_ l_ r
theorem yWWWWPP {K L R : A → B → C → D → Prop} {Z : Prop} (h : ∃ a b c d, K a b c d ∧ L a b c d ∧ R a b c d) (k : ∀ a b c d, K a b c d → L a b c d → R a b c d → Z) : Z := yWWW h fun a_ b_ c_ h => yWPP h fun d_ k_ l_ r => k a_ b_ c_ d_ k_ l_ r
theorem yPPPPWP {K L M N : Prop} {O R : A → Prop} {Z : Prop} (h : K ∧ L ∧ M ∧ N ∧ ∃ a, O a ∧ R a) (k : K → L → M → N → ∀ a, O a → R a → Z) : Z := yPPP h fun k_ l_ m_ h => yPWP h fun n_ a_ o_ r => k k_ l_ m_ n_ a_ o_ r
theorem yPWPWPP {K : Prop} {L : A → Prop} {M N R : A → B → Prop} {Z : Prop} (h : K ∧ ∃ a, L a ∧ ∃ b, M a b ∧ N a b ∧ R a b) (k : K → ∀ a, L a → ∀ b, M a b → N a b → R a b → Z) : Z := yPWP h fun k_ a_ l_ h => yWPP h fun b_ m_ n_ r => k k_ a_ l_ b_ m_ n_ r
theorem yWWPPPP {K L M N R : A → B → Prop} {Z : Prop} (h : ∃ a b, K a b ∧ L a b ∧ M a b ∧ N a b ∧ R a b) (k : ∀ a b, K a b → L a b → M a b → N a b → R a b → Z) : Z := yWWP h fun a_ b_ k_ h => yPPP h fun l_ m_ n_ r => k a_ b_ k_ l_ m_ n_ r
theorem yWWWWWP {K R : A → B → C → D → E → Prop} {Z : Prop} (h : ∃ a b c d e, K a b c d e ∧ R a b c d e) (k : ∀ a b c d e, K a b c d e → R a b c d e → Z) : Z := yWWW h fun a_ b_ c_ h => yWWP h fun d_ e_ k_ r => k a_ b_ c_ d_ e_ k_ r
theorem yWPPPPP {K L M N O R : A → Prop} {Z : Prop} (h : ∃ a, K a ∧ L a ∧ M a ∧ N a ∧ O a ∧ R a) (k : ∀ a, K a → L a → M a → N a → O a → R a → Z) : Z := yWPP h fun a_ k_ l_ h => yPPP h fun m_ n_ o_ r => k a_ k_ l_ m_ n_ o_ r
theorem yWWWPPP {K L M R : A → B → C → Prop} {Z : Prop} (h : ∃ a b c, K a b c ∧ L a b c ∧ M a b c ∧ R a b c) (k : ∀ a b c, K a b c → L a b c → M a b c → R a b c → Z) : Z := yWWW h fun a_ b_ c_ h => yPPP h fun k_ l_ m_ r => k a_ b_ c_ k_ l_ m_ r
theorem yWWWWWWP {K R : A → B → C → D → E → F → Prop} {Z : Prop} (h : ∃ a b c d e f, K a b c d e f ∧ R a b c d e f) (k : ∀ a b c d e f, K a b c d e f → R a b c d e f → Z) : Z := yWWW h fun a_ b_ c_ h => yWWWP h fun d_ e_ f_ k_ r => k a_ b_ c_ d_ e_ f_ k_ r
theorem yWWWPPPP {K L M N R : A → B → C → Prop} {Z : Prop} (h : ∃ a b c, K a b c ∧ L a b c ∧ M a b c ∧ N a b c ∧ R a b c) (k : ∀ a b c, K a b c → L a b c → M a b c → N a b c → R a b c → Z) : Z := yWWWP h fun a_ b_ c_ k_ h => yPPP h fun l_ m_ n_ r => k a_ b_ c_ k_ l_ m_ n_ r
theorem yWWWWPPP {K L M R : A → B → C → D → Prop} {Z : Prop} (h : ∃ a b c d, K a b c d ∧ L a b c d ∧ M a b c d ∧ R a b c d) (k : ∀ a b c d, K a b c d → L a b c d → M a b c d → R a b c d → Z) : Z := yWWW h fun a_ b_ c_ h => yWPPP h fun d_ k_ l_ m_ r => k a_ b_ c_ d_ k_ l_ m_ r
theorem yPWWPPPP {K : Prop} {L M N O R : A → B → Prop} {Z : Prop} (h : K ∧ ∃ a b, L a b ∧ M a b ∧ N a b ∧ O a b ∧ R a b) (k : K → ∀ a b, L a b → M a b → N a b → O a b → R a b → Z) : Z := yPWWP h fun k_ a_ b_ l_ h => yPPP h fun m_ n_ o_ r => k k_ a_ b_ l_ m_ n_ o_ r
theorem yWWPPPPP {K L M N O R : A → B → Prop} {Z : Prop} (h : ∃ a b, K a b ∧ L a b ∧ M a b ∧ N a b ∧ O a b ∧ R a b) (k : ∀ a b, K a b → L a b → M a b → N a b → O a b → R a b → Z) : Z := yWWP h fun a_ b_ k_ h => yPPPP h fun l_ m_ n_ o_ r => k a_ b_ k_ l_ m_ n_ o_ r
theorem yWWWWWPP {K L R : A → B → C → D → E → Prop} {Z : Prop} (h : ∃ a b c d e, K a b c d e ∧ L a b c d e ∧ R a b c d e) (k : ∀ a b c d e, K a b c d e → L a b c d e → R a b c d e → Z) : Z := yWWW h fun a_ b_ c_ h => yWWPP h fun d_ e_ k_ l_ r => k a_ b_ c_ d_ e_ k_ l_ r
theorem yPPPPPPP {K L M N O P Q R : Prop} {Z : Prop} (h : K ∧ L ∧ M ∧ N ∧ O ∧ P ∧ Q ∧ R) (k : K → L → M → N → O → P → Q → R → Z) : Z := yPPP h fun k_ l_ m_ h => yPPPP h fun n_ o_ p_ q_ r => k k_ l_ m_ n_ o_ p_ q_ r
theorem yPWWWWWPP {K : Prop} {L M R : A → B → C → D → E → Prop} {Z : Prop} (h : K ∧ ∃ a b c d e, L a b c d e ∧ M a b c d e ∧ R a b c d e) (k : K → ∀ a b c d e, L a b c d e → M a b c d e → R a b c d e → Z) : Z := yPWWW h fun k_ a_ b_ c_ h => yWWPP h fun d_ e_ l_ m_ r => k k_ a_ b_ c_ d_ e_ l_ m_ r
theorem yWWWPPPPP {K L M N O R : A → B → C → Prop} {Z : Prop} (h : ∃ a b c, K a b c ∧ L a b c ∧ M a b c ∧ N a b c ∧ O a b c ∧ R a b c) (k : ∀ a b c, K a b c → L a b c → M a b c → N a b c → O a b c → R a b c → Z) : Z := yWWWP h fun a_ b_ c_ k_ h => yPPPP h fun l_ m_ n_ o_ r => k a_ b_ c_ k_ l_ m_ n_ o_ r
theorem yWWPPWWWP {K L : A → B → Prop} {M R : A → B → C → D → E → Prop} {Z : Prop} (h : ∃ a b, K a b ∧ L a b ∧ ∃ c d e, M a b c d e ∧ R a b c d e) (k : ∀ a b, K a b → L a b → ∀ c d e, M a b c d e → R a b c d e → Z) : Z := yWWPP h fun a_ b_ k_ l_ h => yWWWP h fun c_ d_ e_ m_ r => k a_ b_ k_ l_ c_ d_ e_ m_ r
theorem yWWWWWWPP {K L R : A → B → C → D → E → F → Prop} {Z : Prop} (h : ∃ a b c d e f, K a b c d e f ∧ L a b c d e f ∧ R a b c d e f) (k : ∀ a b c d e f, K a b c d e f → L a b c d e f → R a b c d e f → Z) : Z := yWWWW h fun a_ b_ c_ d_ h => yWWPP h fun e_ f_ k_ l_ r => k a_ b_ c_ d_ e_ f_ k_ l_ r
theorem yPPWPWWWP {K L : Prop} {M : A → Prop} {N R : A → B → C → D → Prop} {Z : Prop} (h : K ∧ L ∧ ∃ a, M a ∧ ∃ b c d, N a b c d ∧ R a b c d) (k : K → L → ∀ a, M a → ∀ b c d, N a b c d → R a b c d → Z) : Z := yPPWP h fun k_ l_ a_ m_ h => yWWWP h fun b_ c_ d_ n_ r => k k_ l_ a_ m_ b_ c_ d_ n_ r
theorem yWWWWWWWW {R : A → B → C → D → E → F → G → H → Prop} {Z : Prop} (h : ∃ a b c d e f g h, R a b c d e f g h) (k : ∀ a b c d e f g h, R a b c d e f g h → Z) : Z := yWWWW h fun a_ b_ c_ d_ h => yWWWW h fun e_ f_ g_ h_ r => k a_ b_ c_ d_ e_ f_ g_ h_ r
theorem yPWWWWPPP {K : Prop} {L M N R : A → B → C → D → Prop} {Z : Prop} (h : K ∧ ∃ a b c d, L a b c d ∧ M a b c d ∧ N a b c d ∧ R a b c d) (k : K → ∀ a b c d, L a b c d → M a b c d → N a b c d → R a b c d → Z) : Z := yPWWW h fun k_ a_ b_ c_ h => yWPPP h fun d_ l_ m_ n_ r => k k_ a_ b_ c_ d_ l_ m_ n_ r
theorem yWWWWPPPP {K L M N R : A → B → C → D → Prop} {Z : Prop} (h : ∃ a b c d, K a b c d ∧ L a b c d ∧ M a b c d ∧ N a b c d ∧ R a b c d) (k : ∀ a b c d, K a b c d → L a b c d → M a b c d → N a b c d → R a b c d → Z) : Z := yWWWW h fun a_ b_ c_ d_ h => yPPPP h fun k_ l_ m_ n_ r => k a_ b_ c_ d_ k_ l_ m_ n_ r
theorem yWWWWWPPP {K L M R : A → B → C → D → E → Prop} {Z : Prop} (h : ∃ a b c d e, K a b c d e ∧ L a b c d e ∧ M a b c d e ∧ R a b c d e) (k : ∀ a b c d e, K a b c d e → L a b c d e → M a b c d e → R a b c d e → Z) : Z := yWWWW h fun a_ b_ c_ d_ h => yWPPP h fun e_ k_ l_ m_ r => k a_ b_ c_ d_ e_ k_ l_ m_ r
theorem yWWWWWWWP {K R : A → B → C → D → E → F → G → Prop} {Z : Prop} (h : ∃ a b c d e f g, K a b c d e f g ∧ R a b c d e f g) (k : ∀ a b c d e f g, K a b c d e f g → R a b c d e f g → Z) : Z := yWWWW h fun a_ b_ c_ d_ h => yWWWP h fun e_ f_ g_ k_ r => k a_ b_ c_ d_ e_ f_ g_ k_ r
theorem yPWWPPPPP {K : Prop} {L M N O P R : A → B → Prop} {Z : Prop} (h : K ∧ ∃ a b, L a b ∧ M a b ∧ N a b ∧ O a b ∧ P a b ∧ R a b) (k : K → ∀ a b, L a b → M a b → N a b → O a b → P a b → R a b → Z) : Z := yPWWP h fun k_ a_ b_ l_ h => yPPPP h fun m_ n_ o_ p_ r => k k_ a_ b_ l_ m_ n_ o_ p_ r
end
namespace L2
open PySem PySem.Spec PyProof.Rows

abbrev Key := Sum Int Str
def keyIs : Key → Value → Bool
  | .inl k, v => Value.isInt k v
  | .inr x, v => Value.isStrOf x v
def keyH (w : World) : Key → Int
  | .inl k => hashInt k
  | .inr x => hashStr w x
theorem keyIs_shape : ∀ {k : Key} {v : Value}, keyIs k v = true → (∃ i t, k = Sum.inl i ∧ v = Value.int i t) ∨ (∃ x t, k = Sum.inr x ∧ v = Value.str x t)
  | .inl i, v, h => by
    obtain ⟨t, e⟩ := Value.isInt_shape (k := i) (v := v) h
    exact .inl (xWWP i t rfl e)
  | .inr x, v, h => by
    obtain ⟨t, e⟩ := Value.isStrOf_shape (x := x) (v := v) h
    exact .inr (xWWP x t rfl e)
theorem key_ll (a b : Int) : decide ((Sum.inl a : Key) = Sum.inl b) = (a == b) := by
  by_cases e : a = b
  · subst e; simp
  · have h : ¬ (Sum.inl a : Key) = Sum.inl b := fun q => e (Sum.inl.inj q)
    rw [decide_eq_false h]
    exact (beq_eq_false_iff_ne.mpr e).symm
theorem key_rr (a b : Str) : decide ((Sum.inr a : Key) = Sum.inr b) = decide (a = b) := by
  by_cases e : a = b
  · subst e; simp
  · have h : ¬ (Sum.inr a : Key) = Sum.inr b := fun q => e (Sum.inr.inj q)
    rw [decide_eq_false h, decide_eq_false e]
theorem key_lr (a : Int) (b : Str) : decide ((Sum.inl a : Key) = Sum.inr b) = false := decide_eq_false (fun q => nomatch q)
theorem key_rl (a : Str) (b : Int) : decide ((Sum.inr a : Key) = Sum.inl b) = false := decide_eq_false (fun q => nomatch q)

def mixKind (prog : Program) (w : World) : PySem.KeyKind prog w Key where
  is := keyIs
  hash := keyH w
  inj := fun v a b ha hb => by
    rcases keyIs_shape ha with ⟨i, t, rfl, rfl⟩ | ⟨x, t, rfl, rfl⟩
    · rcases keyIs_shape hb with ⟨j, u, rfl, e⟩ | ⟨y, u, rfl, e⟩
      · injection e with e1 _; rw [e1]
      · exact nomatch e
    · rcases keyIs_shape hb with ⟨j, u, rfl, e⟩ | ⟨y, u, rfl, e⟩
      · exact nomatch e
      · injection e with e1 _; rw [e1]
  byValue := fun k v h => by
    rcases keyIs_shape h with ⟨i, t, rfl, rfl⟩ | ⟨x, t, rfl, rfl⟩ <;> rfl
  pyHash := fun hv h => by
    rcases keyIs_shape hv with ⟨i, t, rfl, rfl⟩ | ⟨x, t, rfl, rfl⟩
    · exact wpAny_pyHash_int h
    · exact wpAny_pyHash_str h
  eqBool := fun hu hv h => by
    rcases keyIs_shape hu with ⟨i, t, rfl, rfl⟩ | ⟨x, t, rfl, rfl⟩
    · rcases keyIs_shape hv with ⟨j, u, rfl, rfl⟩ | ⟨y, u, rfl, rfl⟩
      · rw [key_ll] at h; exact wpAny_eqBool_int h
      · rw [key_lr] at h; exact SeqAt.EqAt.int_str i t y u _ _ _ _ h
    · rcases keyIs_shape hv with ⟨j, u, rfl, rfl⟩ | ⟨y, u, rfl, rfl⟩
      · rw [key_rl] at h; exact SeqAt.EqAt.str_int x t j u _ _ _ _ h
      · rw [key_rr] at h; exact wpAny_eqBool_str h
  «strs» := fun k x t v h => by
    rcases keyIs_shape h with ⟨i, u, rfl, e⟩ | ⟨y, u, rfl, e⟩
    · exact nomatch e
    · injection e with e1 _
      subst e1
      cases v <;> rfl

end L2

namespace L2
open PySem PySem.Spec PyProof.Rows

inductive V where
  | non | bl (b : Bool) | int (i : Int) | str (x : Str) | byt (b : Array UInt8) | flt (b : UInt64) | ref (a : Addr) | ty (n : String)
  deriving DecidableEq

def RelV : V → Value → Prop
  | .non, u => u = Value.none
  | .bl b, u => u = Value.bool b
  | .int i, u => ∃ t, u = Value.int i t
  | .str x, u => ∃ t, u = Value.str x t
  | .byt b, u => ∃ t, u = Value.bytes b t
  | .flt b, u => ∃ t, u = Value.float b t
  | .ref a, u => u = Value.ref a
  | .ty n, u => u = Value.type n

abbrev Vals : List V → List Value → Prop := Paired RelV
theorem Vals.length {xs : List V} {us : List Value} (r : Vals xs us) : xs.length = us.length := Paired.length r
theorem Vals.get : ∀ {xs : List V} {us : List Value} {i : Nat} {x : V}, Vals xs us → xs[i]? = some x → ∃ u, us[i]? = some u ∧ RelV x u
  | _, _, _, _, .nil, e => by simp at e
  | _, _, 0, _, .cons r _, e => by simp at e; subst e; exact (xWP _ rfl r)
  | _, _, i + 1, x, .cons _ t, e => by
    obtain ⟨u, h1, h2⟩ := Vals.get (i := i) (x := x) t (by simpa using e)
    exact (xWP u (by simpa using h1) h2)
theorem Vals.set {x : V} {u : Value} (r : RelV x u) : ∀ {xs : List V} {us : List Value} (i : Nat), Vals xs us → Vals (xs.set i x) (us.set i u)
  | _, _, _, .nil => .nil
  | _, _, 0, .cons _ t => .cons r t
  | _, _, i + 1, .cons q t => .cons q (Vals.set r i t)
theorem Vals.append : ∀ {xs ys : List V} {us ws : List Value}, Vals xs us → Vals ys ws → Vals (xs ++ ys) (us ++ ws)
  | _, _, _, _, .nil, s => s
  | _, _, _, _, .cons r t, s => .cons r (Vals.append t s)
theorem Vals.take : ∀ {xs : List V} {us : List Value} (n : Nat), Vals xs us → Vals (xs.take n) (us.take n)
  | _, _, 0, _ => .nil
  | _, _, _ + 1, .nil => .nil
  | _, _, n + 1, .cons r t => .cons r (Vals.take n t)
theorem Vals.drop : ∀ {xs : List V} {us : List Value} (n : Nat), Vals xs us → Vals (xs.drop n) (us.drop n)
  | _, _, 0, r => r
  | _, _, _ + 1, .nil => .nil
  | _, _, n + 1, .cons _ t => Vals.drop n t
def RelO : Option V → Option Value → Prop
  | some v, some u => RelV v u
  | none, none => True
  | _, _ => False
def KV {κ : Type} : List (κ × V) → List (κ × Value) → Prop := Paired fun (p : κ × V) (q : κ × Value) => p.1 = q.1 ∧ RelV p.2 q.2

def kV : Key → V
  | .inl i => .int i
  | .inr x => .str x

inductive HO where
  /-- a list -/
  | lst (xs : List V)
  /-- a tuple (never changes) -/
  | tup (xs : List V)
  /-- a dict whose keys are ints and texts; one whose keys are tuples of ints and texts (the empty one is both) -/
  | dK (kvs : List (Key × V)) | dT (kvs : List (List Key × V))
  /-- a set of ints: its members, its size -/
  | set (S : Int → Bool) (n : Nat)
  /-- an instance of the class at C, its dict at dx, its attributes -/
  | ins (C dx : Addr) (fs : List (Str × V))
  /-- the dict of the instance at x -/
  | own (x : Addr)
  /-- the dict of an exception -/
  | xd (fs : List (Str × V))
  /-- a bound method, f of x -/
  | met (f x : Addr)
  /-- a range object lo, lo + 1, .. below hi -/
  | rng (lo hi : Int)
  /-- a thing that is known to the object (the script; a dict while a loop walks it): read, never written while it is so -/
  | frz (o : Obj) (u : HO)
  /-- a code object's table -/
  | tbl (ps : Array Value)
  /-- any other thing, by what is true of its one object (a def of one's own: SetO a S n := HO.ext fun h => ..) -/
  | ext (φ : Heap → Prop)

abbrev Hp := Addr → Option HO
def upd (H : Hp) (a : Addr) (o : HO) : Hp := fun b => if b = a then some o else H b
theorem upd_same {H : Hp} {a : Addr} {o : HO} : upd H a o a = some o := by unfold upd; rw [if_pos rfl]
theorem upd_ne {H : Hp} {a b : Addr} {o : HO} (h : b ≠ a) : upd H a o b = H b := by unfold upd; rw [if_neg h]
theorem upd_upd {H : Hp} {a : Addr} {o u : HO} : upd (upd H a o) a u = upd H a u := by
  funext b; unfold upd; split <;> rfl
theorem ne_of {H : Hp} {a b : Addr} {o u : HO} (h : H a = some o) (h' : H b = some u) (d : o ≠ u) : a ≠ b := by
  intro e; subst e; rw [h] at h'; exact d (Option.some.inj h')
theorem ne_of_none {H : Hp} {a b : Addr} {o : HO} (h : H a = some o) (h' : H b = none) : a ≠ b := by
  intro e; subst e; rw [h] at h'; cases h'

section
variable (P : Program) (w : World)
def ObjOk (H : Hp) (h : Heap) (a : Addr) : HO → Prop
  | .lst xs => xs.length ≤ sizeLine ∧ ∃ (its : List Value) (n : Nat), Vals xs its ∧ h.get? a = some { cls := .type "list", data := .seq its.toArray n }
  | .tup xs => xs.length ≤ sizeLine ∧ ∃ its : List Value, Vals xs its ∧ IsTup h a its.toArray
  | .dK kvs => kvs.length ≤ sizeLine ∧ (a == sysModules) = false ∧ ∃ vs, KV kvs vs ∧ h.DictOf (mixKind P w) a vs
  | .dT kvs => kvs.length ≤ sizeLine ∧ (a == sysModules) = false ∧ ∃ xs : List (List Key × Addr × Value),
      Paired (fun (p : List Key × V) (q : List Key × Addr × Value) => p.1 = q.1 ∧ H q.2.1 = some (.tup (p.1.map kV)) ∧ RelV p.2 q.2.2) kvs xs ∧
      ∃ o es ep, h.get? a = some o ∧ o.ExactDict ∧ o.data = .dict es ep ∧ es.toList = xs.map (entryOfKey (tupleKind (mixKind P w))) ∧ (xs.map (·.1)).Nodup
  | .set S n => h.SetOf (intKind P w) a S n
  | .ins C dx fs => H dx = some (.own a) ∧ fs.length ≤ 1000 ∧ dx ≠ a ∧ h.get? a = some (PySem.W.instObj C dx) ∧
      ∃ mA, h.Ns1 dx mA ∧ (∀ f, RelO (fs.lookup f) (mA f)) ∧ PySem.Within mA (fs.map (·.1))
  | .own _ => ∃ o, h.get? a = some o
  | .xd fs => ∃ mA, h.Ns1 a mA ∧ ∀ f, RelO (fs.lookup f) (mA f)
  | .rng lo hi => ∃ t u v, h.get? a = some { cls := .type "range", data := .fields #[.int lo t, .int hi u, .int 1 v] }
  | .frz o u => h.get? a = some o ∧ ObjOk H h a u
  | .tbl ps => h.get? a = some { cls := .none, data := .fields ps }
  | .met f x => h.get? a = some (PySem.W.methodObj (.ref f) (.ref x))
  | .ext φ => φ h ∧ (∃ o, h.get? a = some o) ∧ ∀ h1 h2 : Heap, φ h1 → (∀ o, h1.get? a = some o → h2.get? a = some o) → φ h2
def HOk (H : Hp) (h : Heap) : Prop := ∀ a o, H a = some o → ObjOk P w H h a o
end

section
variable {P : Program} {w : World} {H H' : Hp} {h h' : Heap} {a : Addr} {o : HO}
theorem ObjOk.lt (x : ObjOk P w H h a o) : a < h.objs.size := by
  cases o with
  | lst xs => refine yPWWP x fun _ _ _ _ e => ?_; try clear x; exact Heap.lt_size e
  | tup xs => refine yPWP x fun _ _ _ p => ?_; try clear x; exact p.lt
  | dK kvs => refine yPPWPWWWP x fun _ _ _ _ o _ _ e _ => ?_; try clear x; exact Heap.lt_size e
  | dT kvs => refine yPPWPWWWP x fun _ _ _ _ o _ _ e _ => ?_; try clear x; exact Heap.lt_size e
  | set S n => refine yWWWWP x fun o _ _ _ e _ => ?_; try clear x; exact Heap.lt_size e
  | ins C dx fs => refine yPPPP x fun _ _ _ e _ => ?_; try clear x; exact Heap.lt_size e
  | own y => obtain ⟨_, e⟩ := x; exact Heap.lt_size e
  | xd fs => refine yWP x fun _ ye7_1 _ => ?_; try clear x; obtain ⟨_, _, _, e, _⟩ := ye7_1; exact Heap.lt_size e
  | rng lo hi => refine yWWW x fun _ _ _ e => ?_; try clear x; exact Heap.lt_size e
  | frz ob u => obtain ⟨e, _⟩ := x; exact Heap.lt_size e
  | tbl ps => exact Heap.lt_size (show h.get? a = some _ from x)
  | met f y => exact Heap.lt_size (show h.get? a = some _ from x)
  | ext φ => refine yPP x fun _ ye9_1 _ => ?_; try clear x; obtain ⟨_, e⟩ := ye9_1; exact Heap.lt_size e
theorem Paired.mapP {α β : Type} {F G : α → β → Prop} : ∀ {l₁ : List α} {l₂ : List β}, Paired F l₁ l₂ → (∀ a b, F a b → G a b) → Paired G l₁ l₂
  | _, _, .nil, _ => .nil
  | _, _, .cons r t, f => .cons (f _ _ r) (Paired.mapP t f)
theorem ObjOk.stay (x : ObjOk P w H h a o) (k : ∀ b u, (b = a ∨ H b = some (.own a)) → h.get? b = some u → h'.get? b = some u)
    (ho : ∀ b, H b = some (.own a) → H' b = some (.own a)) (ht : ∀ b xs, H b = some (.tup xs) → H' b = some (.tup xs)) : ObjOk P w H' h' a o := by
  induction o with
  | lst xs => refine yPWWP x fun z its n r e => ?_; try clear x; exact (xPWWP z its n r (k _ _ (.inl rfl) e))
  | tup xs => refine yPWPWP x fun z its r ob e c => ?_; try clear x; exact (xPWPWP z its r ob (k _ _ (.inl rfl) e) c)
  | dK kvs => refine yPPWPWWWP x fun z y vs r ob es ep e c => ?_; try clear x; exact (xPPWPWWWP z y vs r ob es ep (k _ _ (.inl rfl) e) c)
  | dT kvs =>
    refine yPPWPWWWP x fun z y xs r ob es ep e c => ?_; try clear x
    exact (xPPWPWWWP z y xs (Paired.mapP r fun p q z => (xPP z.1 (ht _ _ z.2.1) z.2.2)) ob es ep (k _ _ (.inl rfl) e) c)
  | set S n => refine yWWWWP x fun ob es ep t e c => ?_; try clear x; exact (xWWWWP ob es ep t (k _ _ (.inl rfl) e) c)
  | ins C dx fs =>
    refine yPPPPWP x fun d z ne e mA ye15_5 r => ?_; try clear x; obtain ⟨od, es, ep, e2, c⟩ := ye15_5
    exact (xPPPPWP (ho _ d) z ne (k _ _ (.inl rfl) e) mA (xWWWP od es ep (k _ _ (.inr d) e2) c) r)
  | own y => obtain ⟨ob, e⟩ := x; exact ⟨ob, k _ _ (.inl rfl) e⟩
  | xd fs => refine yWP x fun mA ye16_1 r => ?_; try clear x; obtain ⟨od, es, ep, e, c⟩ := ye16_1; exact (xWP mA (xWWWP od es ep (k _ _ (.inl rfl) e) c) r)
  | rng lo hi => refine yWWW x fun t u v e => ?_; try clear x; exact (xWWW t u v (k _ _ (.inl rfl) e))
  | frz ob u ih => obtain ⟨e, q⟩ := x; exact ⟨k _ _ (.inl rfl) e, ih q⟩
  | tbl ps =>
    have e : h.get? a = some { cls := .none, data := .fields ps } := x
    show h'.get? a = some { cls := .none, data := .fields ps }
    exact k a _ (.inl rfl) e
  | met f y =>
    have e : h.get? a = some (PySem.W.methodObj (.ref f) (.ref y)) := x
    show h'.get? a = some (PySem.W.methodObj (.ref f) (.ref y))
    exact k a _ (.inl rfl) e
  | ext φ => refine yPP x fun p ye18_1 st => ?_; try clear x; obtain ⟨o, e⟩ := ye18_1; exact (xPP (st _ _ p fun o q => k _ _ (.inl rfl) q) ⟨o, k _ _ (.inl rfl) e⟩ st)
theorem HOk.lt (x : HOk P w H h) (e : H a = some o) : a < h.objs.size := (x a o e).lt
theorem HOk.fresh (x : HOk P w H h) (e : h.objs.size ≤ a) : H a = none := by
  cases q : H a with
  | none => rfl
  | some u => exact absurd (Nat.lt_of_lt_of_le (x.lt q) e) (Nat.lt_irrefl _)
theorem HOk.kept (x : HOk P w H h) (k : ∀ b u, h.get? b = some u → h'.get? b = some u) : HOk P w H h' := fun a o e =>
  (x a o e).stay (fun b u _ q => k b u q) (fun _ q => q) fun _ _ q => q
theorem HOk.laid (x : HOk P w H h) (k : ∀ b u, h.get? b = some u → h'.get? b = some u) (hp : h.objs.size ≤ a) (new : ObjOk P w (upd H a o) h' a o) : HOk P w (upd H a o) h' := fun b u e => by
  have hn := x.fresh hp
  by_cases hb : b = a
  · subst hb; rw [upd_same] at e; cases e; exact new
  · rw [upd_ne hb] at e
    exact (x b u e).stay (fun c v _ q => k c v q) (fun c q => by rw [upd_ne (ne_of_none q hn)]; exact q) fun c xs q => by rw [upd_ne (ne_of_none q hn)]; exact q
end

def Rd (H : Hp) (a : Addr) (u : HO) : Prop := H a = some u ∨ ∃ o, H a = some (.frz o u)
theorem Rd.ok {P : Program} {w : World} {H : Hp} {h : Heap} {a : Addr} {u : HO} (r : Rd H a u) (x : HOk P w H h) : ObjOk P w H h a u := by
  rcases r with r | ⟨o, r⟩
  · exact x a u r
  · obtain ⟨_, q⟩ := x a _ r
    exact q
def Mut : Option HO → Prop
  | some (.lst _) => True
  | some (.dK _) => True
  | some (.dT _) => True
  | some (.set _ _) => True
  | some (.ins _ _ _) => True
  | some (.ext _) => True
  | _ => False
section
variable {P : Program} {w : World} {H : Hp} {h h' : Heap} {x e : Addr} {o' : HO}
theorem HOk.write (ok : HOk P w H h) (mu : Mut (H x)) (he : e = x ∨ H e = some (.own x)) (k : ∀ b u, b ≠ e → h.get? b = some u → h'.get? b = some u) (heo : ∃ u, h'.get? e = some u)
    (new : ObjOk P w (upd H x o') h' x o') : HOk P w (upd H x o') h' := fun b u q => by
  have nown : ∀ c y, H c = some (.own y) → c ≠ x := fun c y r z => by subst z; rw [r] at mu; exact mu
  have ntup : ∀ c xs, H c = some (.tup xs) → c ≠ x := fun c xs r z => by subst z; rw [r] at mu; exact mu
  by_cases hb : b = x
  · subst hb; rw [upd_same] at q; cases q; exact new
  · rw [upd_ne hb] at q
    by_cases hbe : b = e
    · have q' : H b = some (.own x) := by
        rcases he with z | z
        · exact absurd (hbe.trans z) hb
        · rw [hbe]; exact z
      rw [q] at q'; cases q'
      obtain ⟨v, hv⟩ := heo
      exact ⟨v, by rw [hbe]; exact hv⟩
    · refine (ok b u q).stay (fun c v hc r => k c v ?_ r) (fun c r => by rw [upd_ne (nown c b r)]; exact r) fun c xs r => by rw [upd_ne (ntup c xs r)]; exact r
      rcases hc with rfl | hc
      · exact hbe
      · rintro rfl
        rcases he with z | z
        · exact nown c b hc z
        · rw [hc] at z; cases z; exact hb rfl
end

structure Un (fs ex : List Addr) (H H' : Hp) (h h' : Heap) : Prop where
  keep : ∀ b o, h.get? b = some o → H b = none → b ∉ fs → b ∉ ex → h'.get? b = some o
  slot : ∀ b o, h.get? b = some o → H b = none → b ∈ fs → b ∉ ex → ∃ sl, h'.get? b = some { o with slots := sl }
  free : ∀ b o, h.get? b = some o → H b = none → b ∉ ex → H' b = none
  there : ∀ b o, h.get? b = some o → b ∉ ex → ∃ o', h'.get? b = some o'
  tups : ∀ b xs, H b = some (.tup xs) → H' b = some (.tup xs)
  frzs : ∀ b o u, H b = some (.frz o u) → H' b = some (.frz o u)
  tbls : ∀ b ps, H b = some (.tbl ps) → ∃ more, H' b = some (.tbl (ps ++ more))
section
variable {fs fs' ex ex' : List Addr} {H H1 H2 : Hp} {h h1 h2 h' : Heap} {a x e : Addr} {o : HO}
theorem Un.any (u : Un fs ex H H1 h h1) {b : Addr} {ob : Obj} (q : h.get? b = some ob) (n : H b = none) (hx : b ∉ ex) : ∃ sl, h1.get? b = some { ob with slots := sl } := by
  by_cases hb : b ∈ fs
  · exact u.slot b ob q n hb hx
  · exact ⟨ob.slots, u.keep b ob q n hb hx⟩
theorem Un.kept (k : ∀ b u, h.get? b = some u → h'.get? b = some u) : Un fs ex H H h h' :=
  ⟨fun b ob q _ _ _ => k b ob q, fun b ob q _ _ _ => ⟨ob.slots, k b ob q⟩, fun _ _ _ n _ => n, fun b ob q _ => ⟨ob, k b ob q⟩, fun _ _ q => q, fun _ _ _ q => q, fun _ ps q => ⟨#[], by rw [q]; simp⟩⟩
theorem Un.refl : Un fs ex H H h h := Un.kept fun _ _ q => q
theorem Un.laid (k : ∀ b u, h.get? b = some u → h'.get? b = some u) (hp : h.objs.size ≤ a) (hn : H a = none) : Un fs ex H (upd H a o) h h' where
  keep := fun b u q _ _ _ => k b u q
  slot := fun b u q _ _ _ => ⟨u.slots, k b u q⟩
  free := fun b u q n _ => by rw [upd_ne (Nat.ne_of_lt (Nat.lt_of_lt_of_le (Heap.lt_size q) hp))]; exact n
  there := fun b u q _ => ⟨u, k b u q⟩
  tups := fun b xs q => by rw [upd_ne (ne_of_none q hn)]; exact q
  frzs := fun b u xs q => by rw [upd_ne (ne_of_none q hn)]; exact q
  tbls := fun b ps q => ⟨#[], by rw [upd_ne (ne_of_none q hn), q]; simp⟩
theorem Un.write (mu : Mut (H x)) (he : e = x ∨ H e = some (.own x)) (k : ∀ b u, b ≠ e → h.get? b = some u → h'.get? b = some u) (heo : ∃ u, h'.get? e = some u) : Un fs ex H (upd H x o) h h' := by
  have hx : ∀ b, H b = none → b ≠ x := fun b n z => by subst z; rw [n] at mu; exact mu
  have hb : ∀ b, H b = none → b ≠ e := fun b n z => by
    subst z
    rcases he with r | r
    · exact hx b n r
    · rw [n] at r; cases r
  have hm : ∀ b u, H b = some u → ¬ Mut (some u) → b ≠ x := fun b u q nm z => by subst z; rw [q] at mu; exact nm mu
  refine ⟨fun b u q n _ _ => k b u (hb b n) q, fun b u q n _ _ => ⟨u.slots, k b u (hb b n) q⟩, fun b u q n _ => by rw [upd_ne (hx b n)]; exact n, fun b u q _ => ?_,
    fun b xs q => by rw [upd_ne (hm b _ q fun z => z)]; exact q, fun b u xs q => by rw [upd_ne (hm b _ q fun z => z)]; exact q, fun b ps q => ⟨#[], by rw [upd_ne (hm b _ q fun z => z), q]; simp⟩⟩
  by_cases hbe : b = e
  · subst hbe; exact heo
  · exact ⟨u, k b u hbe q⟩
end

def trk (h : Heap) (H : Hp) : List Addr := (List.range h.objs.size).filter fun a => (H a).isSome
def hidT (h : Heap) (H : Hp) : Heap := PySem.W.hideAll h (trk h H)
theorem hidT_size (h : Heap) (H : Hp) : (hidT h H).objs.size = h.objs.size := PySem.W.hideAll_size _ _
theorem hidT_get {h : Heap} {H : Hp} {b : Addr} {o : Obj} (e : h.get? b = some o) (n : H b = none) : (hidT h H).get? b = some o :=
  PySem.W.hideAll_get _ e fun hm => by
    have q : (H b).isSome = true := (List.mem_filter.mp hm).2
    rw [n] at q; simp at q
theorem of_hidT {h : Heap} {H : Hp} {b : Addr} {o : Obj} (e : (hidT h H).get? b = some o) : h.get? b = some o ∧ H b = none := by
  have e' : h.get? b = some o := PySem.W.of_hideAll (trk h H) e
  refine ⟨e', ?_⟩
  cases q : H b with
  | none => rfl
  | some x =>
    have hm : b ∈ trk h H := List.mem_filter.mpr ⟨List.mem_range.mpr (Heap.lt_size e'), by simp [q]⟩
    have z : (hidT h H).get? b = none := PySem.W.hideAll_none (trk h H) hm
    rw [z] at e; cases e

end L2

namespace L2
open PySem PySem.Spec PyProof.Rows

structure Mod (K : PySem.W.Frag) (mg : Str → Option Value) (base : Heap) : Prop where
  kin : K.In base
  glob : base.Ns mainGlobals mg
  blt : ∃ mb, base.Ns builtinsNs mb ∧ ∀ x : Str, x ≠ "__name__" → mb x = bootBuiltins x
  nolimit : base.NoLimit

structure Cx where
  prog : Program
  w : World
  K : PySem.W.Frag
  mg : Str → Option Value
  base : Heap
  A : Around
  N : List Str
  s₀ : Shared
  H₀ : Hp
  env : Env
  outer : List Env
  stack : List Env
  ex : List Addr
  fn : Str → Bool
  calm : Bool
  pn : List (Addr × Obj)
  xe : Value → Shared → Prop
def frs (l : List Env) : List Addr := l.filterMap (·.frame)
abbrev Cx.fs (X : Cx) : List Addr := frs X.outer

def Vis (sc : Scope) (x : Str) : Prop := sc.names.lookup x = some .local ∨ sc.names.lookup x = some .cell ∨ sc.names.lookup x = some .free
def Loc (sc : Scope) (x : Str) : Prop := sc.names.lookup x = some .local ∨ sc.names.lookup x = some .cell
def Look (env : Env) (h : Heap) (m : Str → Option Value) (x : Str) (u : Value) : Prop :=
  (env.kindOf x = some .local ∧ m x = some u) ∨ ((env.kindOf x = some .cell ∨ env.kindOf x = some .free) ∧ ∃ c, env.cells.lookup x = some c ∧ h.IsCell c (some u))

structure Cx.Ok (X : Cx) : Prop where
  mod : Mod X.K X.mg X.base
  kind : X.env.scope.kind = .function
  glob : X.env.globals = mainGlobals
  blt : X.env.builtins = builtinsNs
  above : X.s₀.heap.objs.size ≤ X.env.locals
  inj : ∀ x y c, X.env.cells.lookup x = some c → X.env.cells.lookup y = some c → x = y
  has : ∀ x, (X.env.kindOf x = some .cell ∨ X.env.kindOf x = some .free) → ∃ c, X.env.cells.lookup x = some c
  cab : ∀ x c, X.fn x = true → X.env.cells.lookup x = some c → X.s₀.heap.objs.size ≤ c
  hd : X.calm = true → X.A.handled = none
  frames : X.A.frames = some X.stack
  stk : X.stack = X.outer ∨ (X.stack = X.env :: X.outer ∧ X.env.frame = some X.env.locals)
  exf : ∀ b ∈ X.ex, b ≠ X.env.locals ∧ ∀ x c, X.env.cells.lookup x = some c → c ≠ b
  bs : ∀ b o, X.base.get? b = some o → X.s₀.heap.get? b = some o ∧ X.H₀ b = none
  bsz : X.base.objs.size ≤ X.s₀.heap.objs.size
  noex : ∀ b o, X.base.get? b = some o → b ∉ X.ex
  exfs : ∀ b ∈ X.ex, b ∉ X.fs
  funs : X.s₀.heap.FunFrames X.base X.outer
  frf : ∀ b ∈ X.fs, X.H₀ b = none

structure Inv (X : Cx) (pins : List (Addr × Obj)) (σ : List (Option V)) (H : Hp) (s : Shared) : Prop where
  ok : X.Ok
  os : s.os = X.s₀.os
  bare : AllBare s.gens
  base : Un X.fs X.ex X.H₀ H X.s₀.heap s.heap
  loc : ∃ m, s.heap.Ns X.env.locals m ∧ ∀ (i : Nat) (x : Str) (v : V), X.N[i]? = some x → σ[i]? = some (some v) → Vis X.env.scope x → ∃ u, RelV v u ∧ Look X.env s.heap m x u
  cell : ∀ x c, X.env.cells.lookup x = some c → ∃ v, s.heap.IsCell c v
  free : H X.env.locals = none
  freeC : ∀ x c, X.env.cells.lookup x = some c → H c = none
  pin : ∀ p ∈ X.pn ++ pins, s.heap.get? p.1 = some p.2 ∧ H p.1 = none ∧ p.1 ≠ X.env.locals ∧ p.1 ∉ X.fs ∧ ∀ v, p.2.data ≠ .cell v
  hok : HOk X.prog X.w H s.heap
  len : σ.length = X.N.length

section
variable {X : Cx} {pins : List (Addr × Obj)} {σ : List (Option V)} {H H' : Hp} {s : Shared} {h' : Heap}

theorem Cx.Ok.nofr (ok : X.Ok) {b : Addr} {o : Obj} (e : X.base.get? b = some o) : b ∉ X.fs := fun hb => by
  have := (ok.funs.mem hb).1
  rw [e] at this; cases this
theorem Inv.bs (I : Inv X pins σ H s) : ∀ b o, X.base.get? b = some o → s.heap.get? b = some o ∧ H b = none := fun b o e =>
  ⟨I.base.keep b o (I.ok.bs b o e).1 (I.ok.bs b o e).2 (I.ok.nofr e) (I.ok.noex b o e), I.base.free b o (I.ok.bs b o e).1 (I.ok.bs b o e).2 (I.ok.noex b o e)⟩
theorem Inv.bk (I : Inv X pins σ H s) : ∀ b o, X.base.get? b = some o → s.heap.get? b = some o := fun b o e => (I.bs b o e).1
theorem Inv.mod (I : Inv X pins σ H s) : Mod X.K X.mg X.base := I.ok.mod
theorem Inv.kIn (I : Inv X pins σ H s) : X.K.In s.heap := I.ok.mod.kin.keeps I.bk
theorem Inv.fr (I : Inv X pins σ H s) : ∃ m, Fr X.base X.env.locals s.heap m :=
  let ⟨m, hn, _⟩ := I.loc
  ⟨m, hn, I.bk, Nat.le_trans I.ok.bsz I.ok.above⟩
theorem Inv.lt (I : Inv X pins σ H s) : X.env.locals < s.heap.objs.size := let ⟨_, hn, _⟩ := I.loc; hn.lt
theorem Inv.sz (I : Inv X pins σ H s) : X.s₀.heap.objs.size ≤ s.heap.objs.size := Nat.le_trans I.ok.above (Nat.le_of_lt I.lt)
theorem Inv.nofs (I : Inv X pins σ H s) {a : Addr} (h : s.heap.objs.size ≤ a) : a ∉ X.fs := fun hb => by
  refine yPWP (I.ok.funs.mem hb) fun _ o ho _ => ?_
  exact absurd (Nat.lt_of_lt_of_le (Heap.lt_size ho) (Nat.le_trans I.sz h)) (Nat.lt_irrefl _)
theorem Inv.cne (I : Inv X pins σ H s) : ∀ x c, X.env.cells.lookup x = some c → c ≠ X.env.locals := fun x c e z => by
  refine yWWP (I.cell x c e) fun v o ho hd => ?_
  refine yWP I.loc fun m ye21_1 _ => ?_; obtain ⟨o', es, ep, ho', hd', _⟩ := ye21_1
  rw [z, ho'] at ho; cases ho; rw [hd'] at hd; cases hd
theorem Inv.funs (I : Inv X pins σ H s) : s.heap.FunFrames X.base X.outer := by
  have all : ∀ (l : List Env), (∀ b ∈ frs l, b ∈ X.fs) → X.s₀.heap.FunFrames X.base l → s.heap.FunFrames X.base l := by
    intro l
    induction l with
    | nil => intro _ _; trivial
    | cons env r ih =>
      intro hs hl
      refine yPP hl fun hk ye22_1 hr => ?_; try clear hl; obtain ⟨L, o, hf, hn, ho, hd⟩ := ye22_1
      have hL : L ∈ X.fs := hs L (by unfold frs; rw [List.filterMap_cons, hf]; exact List.mem_cons_self)
      obtain ⟨sl, e⟩ := I.base.slot L o ho (I.ok.frf L hL) hL fun z => I.ok.exfs L z hL
      exact (xPP hk (xWWPPP L _ hf hn e hd) (ih (fun b hb => hs b (by unfold frs; rw [List.filterMap_cons, hf]; exact List.mem_cons_of_mem _ hb)) hr))
  exact all X.outer (fun _ hb => hb) I.ok.funs

theorem Inv.stack (I : Inv X pins σ H s) : s.heap.FunFrames X.base X.stack := by
  rcases I.ok.stk with e | ⟨e, hf⟩
  · rw [e]; exact I.funs
  · rw [e]
    refine yWP I.loc fun m hn _ => ?_
    refine .cons (by rw [I.ok.kind]; decide) hf hn ?_ I.funs
    exact Heap.get?_none_of_le (Nat.le_trans I.ok.bsz I.ok.above)
theorem Inv.stkSub (I : Inv X pins σ H s) : ∀ b ∈ frs X.stack, b ∈ X.env.locals :: X.fs := fun b hb => by
  rcases I.ok.stk with e | ⟨e, hf⟩
  · rw [e] at hb; exact List.mem_cons_of_mem _ hb
  · rw [e] at hb
    unfold frs at hb
    rw [List.filterMap_cons, hf] at hb
    exact hb
theorem Inv.stkFree (I : Inv X pins σ H s) : ∀ b ∈ frs X.stack, H b = none := fun b hb => by
  rcases List.mem_cons.mp (I.stkSub b hb) with e | hb
  · rw [e]; exact I.free
  · refine yPWP (I.ok.funs.mem hb) fun _ o ho _ => ?_
    exact I.base.free b o ho (I.ok.frf b hb) fun z => I.ok.exfs b z hb

theorem Inv.step {g' : Array GenState} {t' : Nat} {d' : Drawn} {ch : List Addr} (I : Inv X pins σ H s)
    (hch : ∀ b ∈ ch, (b ∈ X.ex ∨ X.s₀.heap.objs.size ≤ b) ∧ b ≠ X.env.locals ∧ (∀ x c, X.env.cells.lookup x = some c → c ≠ b) ∧ ∀ p ∈ X.pn ++ pins, p.1 ≠ b)
    (keep : ∀ b o, b ≠ X.env.locals → b ∉ X.fs → b ∉ ch → s.heap.get? b = some o → H b = none → h'.get? b = some o)
    (slot : ∀ b o, b ≠ X.env.locals → b ∈ X.fs → b ∉ ch → s.heap.get? b = some o → H b = none → ∃ sl, h'.get? b = some { o with slots := sl }) (free : ∀ b o, b ∉ ch → s.heap.get? b = some o → H b = none → H' b = none)
    (there : ∀ b o, b ∉ ch → s.heap.get? b = some o → ∃ o', h'.get? b = some o')
    (tups : ∀ b xs, H b = some (.tup xs) → H' b = some (.tup xs)) (frzs : ∀ b o u, H b = some (.frz o u) → H' b = some (.frz o u)) (tbls : ∀ b ps, H b = some (.tbl ps) → ∃ more, H' b = some (.tbl (ps ++ more)))
    (ns : ∀ m, s.heap.Ns X.env.locals m → h'.Ns X.env.locals m) (hok : HOk X.prog X.w H' h') (hg : AllBare g') :
    Inv X pins σ H' { s with heap := h', gens := g', drawn := d', toks := t' } := by
  have neL : ∀ b o, X.s₀.heap.get? b = some o → b ≠ X.env.locals := fun b o e => Nat.ne_of_lt (Nat.lt_of_lt_of_le (Heap.lt_size e) I.ok.above)
  have neC : ∀ b o, X.s₀.heap.get? b = some o → b ∉ X.ex → b ∉ ch := fun b o e hx hb => by
    rcases (hch b hb).1 with z | z
    · exact hx z
    · exact absurd (Nat.lt_of_lt_of_le (Heap.lt_size e) z) (Nat.lt_irrefl _)
  have cellK : ∀ x c, X.env.cells.lookup x = some c → ∀ v, s.heap.IsCell c v → h'.IsCell c v := fun x c e v ⟨o, ho, hd⟩ => by
    have nch : c ∉ ch := fun z => (hch c z).2.2.1 x c e rfl
    by_cases hc : c ∈ X.fs
    · obtain ⟨sl, q⟩ := slot c o (I.cne x c e) hc nch ho (I.freeC x c e)
      exact (xWP _ q hd)
    · exact (xWP o (keep c o (I.cne x c e) hc nch ho (I.freeC x c e)) hd)
  refine ⟨I.ok, I.os, hg, ⟨fun b o e n hb hx => ?_, fun b o e n hb hx => ?_, fun b o e n hx => ?_, fun b o e hx => ?_, fun b xs e => tups b xs (I.base.tups b xs e), fun b o xs e => frzs b o xs (I.base.frzs b o xs e), fun b ps e => ?_⟩, ?_, fun x c e => ?_, ?_, fun x c e => ?_, fun p hp => ?_, hok, I.len⟩
  · exact keep b o (neL b o e) hb (neC b o e hx) (I.base.keep b o e n hb hx) (I.base.free b o e n hx)
  · obtain ⟨sl, e1⟩ := I.base.slot b o e n hb hx
    obtain ⟨sl', e2⟩ := slot b _ (neL b o e) hb (neC b o e hx) e1 (I.base.free b o e n hx)
    exact ⟨sl', e2⟩
  · obtain ⟨o', e1⟩ := I.base.there b o e hx
    exact free b o' (neC b o e hx) e1 (I.base.free b o e n hx)
  · obtain ⟨o', e1⟩ := I.base.there b o e hx
    exact there b o' (neC b o e hx) e1
  · obtain ⟨m1, e1⟩ := I.base.tbls b ps e
    obtain ⟨m2, e2⟩ := tbls b _ e1
    exact ⟨m1 ++ m2, by rw [e2, Array.append_assoc]⟩
  · refine yWP I.loc fun m hn hl => ?_
    refine (xWP m (ns m hn) (fun i x v e1 e2 e3 => ?_))
    refine yWP (hl i x v e1 e2 e3) fun u r l => ?_
    refine (xWP u r ?_)
    rcases l with l | ⟨k, c, e, z⟩
    · exact .inl l
    · exact .inr (xPWP k c e (cellK x c e _ z))
  · obtain ⟨v, z⟩ := I.cell x c e
    exact ⟨v, cellK x c e v z⟩
  · refine yWP I.loc fun m ye27_1 _ => ?_; obtain ⟨o, _, _, ho, _⟩ := ye27_1
    exact free _ o (fun z => (hch _ z).2.1 rfl) ho I.free
  · refine yWWP (I.cell x c e) fun v o ho hd => ?_
    exact free c o (fun z => (hch c z).2.2.1 x c e rfl) ho (I.freeC x c e)
  · refine yPPPP (I.pin p hp) fun e n ne nf d => ?_
    have nch : p.1 ∉ ch := fun z => (hch p.1 z).2.2.2 p hp rfl
    exact (xPPPP (keep p.1 p.2 ne nf nch e n) (free p.1 p.2 nch e n) ne nf d)
theorem Inv.un {t' : Nat} (I : Inv X pins σ H s) (u : Un X.fs [] H H' s.heap h') (hok : HOk X.prog X.w H' h') : Inv X pins σ H' { s with heap := h', toks := t' } := by
  refine yWP (id I.loc) fun m ye30_1 _ => ?_; obtain ⟨o, es, ep, ho, r⟩ := ye30_1
  obtain ⟨sl, hL⟩ := u.any ho I.free (by simp)
  exact I.step (g' := s.gens) (d' := s.drawn) (ch := []) (fun _ z => nomatch z) (fun b o _ hb _ e n => u.keep b o e n hb (by simp)) (fun b o _ hb _ e n => u.slot b o e n hb (by simp)) (fun b o _ e n => u.free b o e n (by simp)) (fun b o _ e => u.there b o e (by simp)) u.tups u.frzs u.tbls (fun m' hm => by
    refine yWWWP hm fun o' es' ep' ho' r' => ?_; try clear hm
    rw [ho] at ho'; cases ho'
    exact (xWWWP _ es' ep' hL r')) hok I.bare
theorem Inv.call {g' : Array GenState} {t' : Nat} {d' : Drawn} {ch : List Addr} (I : Inv X pins σ H s) (u : Un (frs X.stack) ch H H' s.heap h') (hok : HOk X.prog X.w H' h') (hg : AllBare g')
    (hch : ∀ b ∈ ch, (b ∈ X.ex ∨ X.s₀.heap.objs.size ≤ b) ∧ b ≠ X.env.locals ∧ (∀ x c, X.env.cells.lookup x = some c → c ≠ b) ∧ ∀ p ∈ X.pn ++ pins, p.1 ≠ b) :
    Inv X pins σ H' { s with heap := h', gens := g', drawn := d', toks := t' } := by
  refine yWP (id I.loc) fun m ye32_1 _ => ?_; obtain ⟨o, es, ep, ho, r⟩ := ye32_1
  obtain ⟨sl, hL⟩ := u.any ho I.free fun z => (hch _ z).2.1 rfl
  exact I.step (ch := ch) hch (fun b o hL hb hc e n => u.keep b o e n (fun z => (List.mem_cons.mp (I.stkSub b z)).elim hL hb) hc) (fun b o _ _ hc e n => u.any e n hc) (fun b o hc e n => u.free b o e n hc) (fun b o hc e => u.there b o e hc) u.tups u.frzs u.tbls (fun m' hm => by
    refine yWWWP hm fun o' es' ep' ho' r' => ?_; try clear hm
    rw [ho] at ho'; cases ho'
    exact (xWWWP _ es' ep' hL r')) hok hg
theorem Inv.turned {t' : Nat} {it : Addr} (I : Inv X pins σ H s) (k : ∀ b o, b ≠ it → s.heap.get? b = some o → h'.get? b = some o) (hn : H it = none) (hL : it ≠ X.env.locals)
    (h1 : it ∈ X.ex ∨ X.s₀.heap.objs.size ≤ it) (h2 : ∀ x c, X.env.cells.lookup x = some c → c ≠ it) (h3 : ∀ p ∈ X.pn ++ pins, p.1 ≠ it) : Inv X pins σ H { s with heap := h', toks := t' } := by
  have nit : ∀ b u, H b = some u → b ≠ it := fun b u e z => by rw [z, hn] at e; cases e
  refine I.step (g' := s.gens) (d' := s.drawn) (ch := [it]) (fun b hb => ?_) (fun b o _ _ hc e _ => k b o (fun z => hc (by simp [z])) e) (fun b o _ _ hc e _ => ⟨o.slots, k b o (fun z => hc (by simp [z])) e⟩) (fun _ _ _ _ n => n)
    (fun b o hc e => ⟨o, k b o (fun z => hc (by simp [z])) e⟩) (fun _ _ e => e) (fun _ _ _ e => e) (fun b ps e => ⟨#[], by rw [e]; simp⟩) (fun m hm => ?_) (fun b u e => ?_) I.bare
  · have e : b = it := by simpa using hb
    subst e
    exact (xPPP h1 hL h2 h3)
  · refine yWWWP hm fun o es ep ho r => ?_; try clear hm
    exact (xWWWP o es ep (k _ o (Ne.symm hL) ho) r)
  · refine (I.hok b u e).stay (fun c v hc q => k c v ?_ q) (fun _ q => q) fun _ _ q => q
    rcases hc with z | z
    · rw [z]; exact nit b u e
    · exact nit c _ z
theorem Inv.tok (I : Inv X pins σ H s) (t : Nat) : Inv X pins σ H { s with toks := t } := I.un (h' := s.heap) (t' := t) Un.refl I.hok
theorem Inv.kept {t' : Nat} (I : Inv X pins σ H s) (k : ∀ b u, s.heap.get? b = some u → h'.get? b = some u) : Inv X pins σ H { s with heap := h', toks := t' } := I.un (Un.kept k) (I.hok.kept k)
theorem Inv.laid {a : Addr} {o : HO} {t' : Nat} (I : Inv X pins σ H s) (k : ∀ b u, s.heap.get? b = some u → h'.get? b = some u) (hp : s.heap.objs.size ≤ a) (new : ObjOk X.prog X.w (upd H a o) h' a o) :
    Inv X pins σ (upd H a o) { s with heap := h', toks := t' } := I.un (Un.laid k hp (I.hok.fresh hp)) (I.hok.laid k hp new)
theorem Inv.write {x e : Addr} {o : HO} {t' : Nat} (I : Inv X pins σ H s) (mu : Mut (H x)) (he : e = x ∨ H e = some (.own x)) (k : ∀ b u, b ≠ e → s.heap.get? b = some u → h'.get? b = some u) (heo : ∃ u, h'.get? e = some u)
    (new : ObjOk X.prog X.w (upd H x o) h' x o) : Inv X pins σ (upd H x o) { s with heap := h', toks := t' } := I.un (Un.write mu he k heo) (I.hok.write mu he k heo new)
theorem Inv.weak {σ' : List (Option V)} (I : Inv X pins σ H s) (hl : σ'.length = σ.length) (w : ∀ (i : Nat) v, σ'[i]? = some (some v) → σ[i]? = some (some v)) : Inv X pins σ' H s :=
  ⟨I.ok, I.os, I.bare, I.base, let ⟨m, hn, hl'⟩ := I.loc; (xWP m hn (fun i x v e1 e2 e3 => hl' i x v e1 (w i v e2) e3)), I.cell, I.free, I.freeC, I.pin, I.hok, hl.trans I.len⟩
theorem Inv.pins_of {pins' : List (Addr × Obj)} (I : Inv X pins σ H s) (h : ∀ p ∈ pins', s.heap.get? p.1 = some p.2 ∧ H p.1 = none ∧ p.1 ≠ X.env.locals ∧ p.1 ∉ X.fs ∧ ∀ v, p.2.data ≠ .cell v) : Inv X pins' σ H s :=
  ⟨I.ok, I.os, I.bare, I.base, I.loc, I.cell, I.free, I.freeC, fun p hp => (List.mem_append.mp hp).elim (fun z => I.pin p (List.mem_append_left _ z)) (h p), I.hok, I.len⟩

theorem nodup_ix {N : List Str} (hN : N.Nodup) {i j : Nat} {x : Str} (a : N[i]? = some x) (b : N[j]? = some x) : i = j := by
  obtain ⟨h1, e1⟩ := List.getElem?_eq_some_iff.mp a
  obtain ⟨h2, e2⟩ := List.getElem?_eq_some_iff.mp b
  exact (List.getElem_inj hN).mp (e1.trans e2.symm)

theorem store_ok2 {M : Model} {A : Around} {E : Value → Shared → Prop} {i : Nat} {x : Str} {v : V} {u : Value} {Q : Unit → Shared → Prop} (I : Inv X pins σ H s) (hN : X.N.Nodup) (hi : X.N[i]? = some x) (hx : Loc X.env.scope x) (r : RelV v u)
    (h : ∀ s', Inv X pins (σ.set i (some v)) H s' → (∃ a, Heap.SameBut a s.heap s'.heap ∧ (a = X.env.locals ∨ X.env.cells.lookup x = some a)) → Q () s') (hf : X.fn x = true ∨ X.env.scope.names.lookup x = some .local := by first | exact .inl rfl | exact .inr rfl | assumption) : wpAny M A (storeName X.env x u) Q E s := by
  refine yWP (id I.loc) fun m hn hl => ?_
  have hcls : (X.env.scope.kind == .class || (X.env.scope.kind == .module && X.env.locals != X.env.globals)) = false := by rw [I.ok.kind]; rfl
  have hiσ : i < σ.length := by rw [I.len]; exact (List.getElem?_eq_some_iff.mp hi).1
  have cne := I.cne
  have tracked : ∀ {a : Addr} {h' : Heap}, (∃ o, s.heap.get? a = some o ∧ H a = none) → Heap.SameBut a s.heap h' → HOk X.prog X.w H h' := fun {a h'} ha hs b ob e => by
    refine yWP ha fun _ _ hfree => ?_; try clear ha
    refine (I.hok b ob e).stay (fun c w' hc q => (hs.2 c ?_).trans q) (fun _ q => q) fun _ _ q => q
    rintro rfl
    rcases hc with rfl | hc
    · rw [hfree] at e; cases e
    · rw [hfree] at hc; cases hc
  rcases hx with hk | hk
  · refine wpAny_storeName_local hk hn (fun h' hn' hs => ?_) hcls
    refine yWWWP (id hn) fun oL _ _ hoL _ => ?_
    refine h _ ⟨I.ok, I.os, I.bare, ⟨fun b o e n hb hx => ?_, fun b o e n hb hx => ?_, I.base.free, fun b o e hx => ?_, I.base.tups, I.base.frzs, I.base.tbls⟩, (xWP _ hn' (fun j y v' e1 e2 e3 => ?_)), fun y c e => ?_, I.free, I.freeC, fun p hp => ?_, tracked (xWP oL hoL I.free) hs, by simpa using I.len⟩ (xWP _ hs (.inl rfl))
    · exact (hs.2 b (Nat.ne_of_lt (Nat.lt_of_lt_of_le (Heap.lt_size e) I.ok.above))).trans (I.base.keep b o e n hb hx)
    · obtain ⟨sl, e1⟩ := I.base.slot b o e n hb hx
      exact ⟨sl, (hs.2 b (Nat.ne_of_lt (Nat.lt_of_lt_of_le (Heap.lt_size e) I.ok.above))).trans e1⟩
    · obtain ⟨o', e1⟩ := I.base.there b o e hx
      exact ⟨o', (hs.2 b (Nat.ne_of_lt (Nat.lt_of_lt_of_le (Heap.lt_size e) I.ok.above))).trans e1⟩
    · by_cases hj : j = i
      · subst hj
        rw [hi] at e1; cases e1
        rw [List.getElem?_set_self hiσ] at e2
        cases e2
        exact (xWP u r (.inl ⟨hk, by simp⟩))
      · rw [List.getElem?_set_ne (Ne.symm hj)] at e2
        refine yWP (hl j y v' e1 e2 e3) fun u' r' q => ?_
        refine (xWP u' r' ?_)
        rcases q with ⟨k, e⟩ | ⟨k, c, e, z⟩
        · refine .inl ⟨k, ?_⟩
          have : y ≠ x := fun e => hj (nodup_ix hN e1 (e ▸ hi))
          simp [this, e]
        · exact .inr (xPWP k c e (z.sameBut hs (cne y c e)))
    · obtain ⟨w', z⟩ := I.cell y c e
      exact ⟨w', z.sameBut hs (cne y c e)⟩
    · refine yPPPP (I.pin p hp) fun e n ne nf d => ?_
      exact (xPPPP ((hs.2 p.1 ne).trans e) n ne nf d)
  · have hfn : X.fn x = true := by
      rcases hf with z | z
      · exact z
      · rw [z] at hk; cases hk
    obtain ⟨c, hc⟩ := I.ok.has x (.inl hk)
    obtain ⟨w', z⟩ := I.cell x c hc
    refine wpAny_storeName_cell I.ok.kind hk hc z (fun h' hc' hs => ?_)
    refine yWP (id z) fun oc hoc hocd => ?_
    refine h { s with heap := h' } ⟨I.ok, I.os, I.bare, ⟨fun b o e n hb hx => ?_, fun b o e n hb hx => ?_, I.base.free, fun b o e hx => ?_, I.base.tups, I.base.frzs, I.base.tbls⟩, (xWP m (hn.sameBut hs (Ne.symm (cne x c hc))) (fun j y v' e1 e2 e3 => ?_)), fun y c' e => ?_, I.free, I.freeC, fun p hp => ?_, tracked (xWP oc hoc (I.freeC x c hc)) hs, by simpa using I.len⟩ (xWP c hs (.inr hc))
    · exact (hs.2 b (Nat.ne_of_lt (Nat.lt_of_lt_of_le (Heap.lt_size e) (I.ok.cab x c hfn hc)))).trans (I.base.keep b o e n hb hx)
    · obtain ⟨sl, e1⟩ := I.base.slot b o e n hb hx
      exact ⟨sl, (hs.2 b (Nat.ne_of_lt (Nat.lt_of_lt_of_le (Heap.lt_size e) (I.ok.cab x c hfn hc)))).trans e1⟩
    · obtain ⟨o', e1⟩ := I.base.there b o e hx
      exact ⟨o', (hs.2 b (Nat.ne_of_lt (Nat.lt_of_lt_of_le (Heap.lt_size e) (I.ok.cab x c hfn hc)))).trans e1⟩
    · by_cases hj : j = i
      · subst hj
        rw [hi] at e1; cases e1
        rw [List.getElem?_set_self hiσ] at e2
        cases e2
        exact (xWP u r (.inr (xPWP (.inl hk) c hc hc')))
      · rw [List.getElem?_set_ne (Ne.symm hj)] at e2
        refine yWP (hl j y v' e1 e2 e3) fun u' r' q => ?_
        refine (xWP u' r' ?_)
        rcases q with q | ⟨k, c', e, z'⟩
        · exact .inl q
        · refine .inr (xPWP k c' e (z'.sameBut hs ?_))
          rintro rfl
          exact hj (nodup_ix hN e1 (I.ok.inj _ _ _ e hc ▸ hi))
    · by_cases hcc : c' = c
      · subst hcc; exact ⟨_, hc'⟩
      · obtain ⟨w2, z2⟩ := I.cell y c' e
        exact ⟨w2, z2.sameBut hs hcc⟩
    · refine yPPPP (I.pin p hp) fun e n ne nf d => ?_
      refine (xPPPP ((hs.2 p.1 ?_).trans e) n ne nf d)
      intro q
      rw [q, hoc] at e
      have q' : oc = p.2 := Option.some.inj e
      exact d w' (by rw [← q']; exact hocd)
theorem store_ok {M : Model} {A : Around} {E : Value → Shared → Prop} {i : Nat} {x : Str} {v : V} {u : Value} {Q : Unit → Shared → Prop} (I : Inv X pins σ H s) (hN : X.N.Nodup) (hi : X.N[i]? = some x) (hx : Loc X.env.scope x) (r : RelV v u)
    (h : ∀ s', Inv X pins (σ.set i (some v)) H s' → Q () s') (hf : X.fn x = true ∨ X.env.scope.names.lookup x = some .local := by first | exact .inl rfl | exact .inr rfl | assumption) : wpAny M A (storeName X.env x u) Q E s :=
  store_ok2 I hN hi hx r (fun s' I' _ => h s' I') hf
theorem Inv.call' {s' : Shared} {ch : List Addr} (I : Inv X pins σ H s) (ho : s'.os = s.os) (u : Un (frs X.stack) ch H H' s.heap s'.heap) (hok : HOk X.prog X.w H' s'.heap) (hg : AllBare s'.gens)
    (hch : ∀ b ∈ ch, (b ∈ X.ex ∨ X.s₀.heap.objs.size ≤ b) ∧ b ≠ X.env.locals ∧ (∀ x c, X.env.cells.lookup x = some c → c ≠ b) ∧ ∀ p ∈ X.pn ++ pins, p.1 ≠ b) : Inv X pins σ H' s' := by
  obtain ⟨h', g', d', t', o'⟩ := s'
  have e : o' = s.os := ho
  subst e
  exact I.call (g' := g') (t' := t') (d' := d') u hok hg hch
end

abbrev XK := Value → Option Addr → Hp → Prop
abbrev St := List (Option V)
abbrev VK := V → Hp → Prop
abbrev TE := St → Hp → VK → Prop
abbrev TT := St → Hp → (Bool → Hp → Prop) → Prop
abbrev TA := St → Hp → (List V → Hp → Prop) → Prop
structure Ends where
  nx : St → Hp → Prop
  rt : VK
  bk : St → Hp → Prop := fun _ _ => False
  ct : St → Hp → Prop := fun _ _ => False
abbrev TS := Ends → St → Hp → Prop

def EP (X : Cx) (pins : List (Addr × Obj)) (σ : St) (Q : VK) (u : Value) (s' : Shared) : Prop := ∃ v H', Inv X pins σ H' s' ∧ RelV v u ∧ Q v H'
def TP (X : Cx) (pins : List (Addr × Obj)) (σ : St) (Q : Bool → Hp → Prop) (b : Bool) (s' : Shared) : Prop := ∃ H', Inv X pins σ H' s' ∧ Q b H'
def AP (X : Cx) (pins : List (Addr × Obj)) (σ : St) (Q : List V → Hp → Prop) (us : List Value) (s' : Shared) : Prop := ∃ vs H', Inv X pins σ H' s' ∧ Vals vs us ∧ Q vs H'
def SP (X : Cx) (pins : List (Addr × Obj)) (D : Ends) (f : Flow) (s' : Shared) : Prop :=
  match f with
  | .next => ∃ σ' H', Inv X pins σ' H' s' ∧ D.nx σ' H'
  | .brk => ∃ σ' H', Inv X pins σ' H' s' ∧ D.bk σ' H'
  | .cont => ∃ σ' H', Inv X pins σ' H' s' ∧ D.ct σ' H'
  | .ret u => ∃ v σ' H', Inv X pins σ' H' s' ∧ RelV v u ∧ D.rt v H'

def PE (X : Cx) (e : Expr) (t : TE) : Prop :=
  ∀ (pins : List (Addr × Obj)) (s : Shared) (σ : St) (H : Hp) (Q : VK), Inv X pins σ H s → t σ H Q → wpAny (model X.prog X.w) X.A (eval e X.env) (EP X pins σ Q) X.xe s
def PT (X : Cx) (e : Expr) (t : TT) : Prop :=
  ∀ (pins : List (Addr × Obj)) (s : Shared) (σ : St) (H : Hp) (Q : Bool → Hp → Prop), Inv X pins σ H s → t σ H Q → wpAny (model X.prog X.w) X.A (isTrue e X.env (eval e X.env)) (TP X pins σ Q) X.xe s
def PW (X : Cx) (e : Expr) (t : TT) : Prop :=
  ∀ (whole : Sem Value) (pins : List (Addr × Obj)) (s : Shared) (σ : St) (H : Hp) (Q : Bool → Hp → Prop), Inv X pins σ H s → t σ H Q → wpAny (model X.prog X.w) X.A (isTrue e X.env whole) (TP X pins σ Q) X.xe s
theorem PW.pt {X : Cx} {e : Expr} {t : TT} (h : PW X e t) : PT X e t := h _
def PA (X : Cx) (es : List Expr) (t : TA) : Prop :=
  ∀ (pos : Pos) (pins : List (Addr × Obj)) (s : Shared) (σ : St) (H : Hp) (Q : List V → Hp → Prop), Inv X pins σ H s → t σ H Q → wpAny (model X.prog X.w) X.A (spliced (backTo pos (starEach es X.env))) (AP X pins σ Q) X.xe s
def PS (X : Cx) (st : Stmt) (t : TS) : Prop :=
  ∀ (pins : List (Addr × Obj)) (s : Shared) (σ : St) (H : Hp) (D : Ends), Inv X pins σ H s → t D σ H → wpAny (model X.prog X.w) X.A (exec st X.env) (SP X pins D) X.xe s
def PSs (X : Cx) (st : List Stmt) (t : TS) : Prop :=
  ∀ (pins : List (Addr × Obj)) (s : Shared) (σ : St) (H : Hp) (D : Ends), Inv X pins σ H s → t D σ H → wpAny (model X.prog X.w) X.A (execs st X.env) (SP X pins D) X.xe s
theorem thn {α : Type} {t : Sem α} {Q Q' : α → Shared → Prop} {M : Model} {A : Around} {E : Value → Shared → Prop} {s : Shared} (h : wpAny M A t Q E s) (hQ : ∀ a s, Q a s → Q' a s) : wpAny M A t Q' E s := wpAny_mono h hQ fun _ _ x => x
end L2

namespace L2
open PySem PySem.Spec PyProof.Rows
section
variable {X : Cx}

theorem bin {a b : Expr} {ta tb : TE} (ha : PE X a ta) (hb : PE X b tb) {pins : List (Addr × Obj)} {s : Shared} {σ : St} {H : Hp} {R : V → V → Hp → Prop} (I : Inv X pins σ H s) (h : ta σ H fun x H1 => tb σ H1 fun y H2 => R x y H2)
    {α : Type} {Q : α → Shared → Prop} {f : Value → Value → Sem α}
    (hf : ∀ v u s2 x y H2, Inv X pins σ H2 s2 → RelV x v → RelV y u → R x y H2 → wpAny (model X.prog X.w) X.A (f v u) Q X.xe s2) :
    wpAny (model X.prog X.w) X.A (eval a X.env) (fun v s₁ => wpAny (model X.prog X.w) X.A (eval b X.env) (fun u s₂ => wpAny (model X.prog X.w) X.A (f v u) Q X.xe s₂) X.xe s₁) X.xe s := by
  refine thn (ha pins s σ H _ I h) fun v s1 ⟨x, H1, I1, r1, q1⟩ => ?_
  refine thn (hb pins s1 σ H1 _ I1 q1) fun u s2 ⟨y, H2, I2, r2, q2⟩ => ?_
  exact hf v u s2 x y H2 I2 r1 r2 q2

def tVar (i : Nat) : TE := fun σ H Q => ∃ v, σ[i]? = some (some v) ∧ Q v H
def tC (v : V) : TE := fun _ H Q => Q v H
theorem pe_var {i : Nat} {x : Str} {pos : Pos} (hN : X.N[i]? = some x) (hv : Vis X.env.scope x) (hd : (x == ("__debug__" : Str)) = false := by decide) (hcd : (x == ("__classdict__" : Str)) = false := by decide) : PE X (.Name x pos) (tVar i) := by
  intro pins s σ H Q I h
  obtain ⟨v, e, h⟩ := h
  refine yWP I.loc fun m hn hl => ?_
  refine yWP (hl i x v hN e hv) fun u r l => ?_
  have fin : EP X pins σ Q u s := (xWWPP v H I r h)
  rcases l with ⟨hk, hm⟩ | ⟨hk, c, hc, hcell⟩
  · exact wpAny_Name (wpAny_loadName_local I.ok.kind hk hn hm fin) hd
  · rcases hk with hk | hk
    · exact wpAny_Name (wpAny_loadName_cell I.ok.kind hk hc hcell fin) hd
    · exact wpAny_Name (wpAny_loadName_free I.ok.kind hk hc hcell fin hcd) hd
theorem pe_int {i j pos} : PE X (.Constant (.int i) j pos) (tC (.int i)) := fun _ _ _ H _ I h => wpAny_Constant_int (xWWPP (.int i) H (I.tok _) ⟨_, rfl⟩ h)
theorem pe_bl {b j pos} : PE X (.Constant (.bool b) j pos) (tC (.bl b)) := fun _ _ _ H _ I h => Constant_bool (xWWPP (.bl b) H I rfl h)
theorem pe_non {j pos} : PE X (.Constant .none j pos) (tC .non) := fun _ _ _ H _ I h => Constant_none (xWWPP .non H I rfl h)
theorem pe_str {x j pos} : PE X (.Constant (.str x) j pos) (tC (.str x)) := fun _ _ _ H _ I h => Calls.Constant_str (xWWPP (.str x) H (I.tok _) ⟨_, rfl⟩ h)

def Gl (X : Cx) (x : Str) : Prop := X.env.kindOf x = some .globalImplicit
theorem ld_glob {E : Value → Shared → Prop} {pins : List (Addr × Obj)} {s : Shared} {σ : St} {H : Hp} {x : Str} {u : Value} {pos : Pos} {Q : Value → Shared → Prop} (I : Inv X pins σ H s) (hg : Gl X x) (hm : X.mg x = some u) (h : Q u s)
    (hd : (x == ("__debug__" : Str)) = false := by decide) : wpAny (model X.prog X.w) X.A (eval (.Name x pos) X.env) Q E s :=
  Calls.Name_function_global I.ok.kind hg (Calls.loadGlobal_global (by rw [I.ok.glob]; exact I.mod.glob.keeps I.bk) hm h) hd
theorem ld_blt {E : Value → Shared → Prop} {pins : List (Addr × Obj)} {s : Shared} {σ : St} {H : Hp} {x : Str} {u : Value} {pos : Pos} {Q : Value → Shared → Prop} (I : Inv X pins σ H s) (hg : Gl X x) (hm : X.mg x = none) (hv : bootBuiltins x = some u) (h : Q u s)
    (hn : x ≠ "__name__" := by decide) (hd : (x == ("__debug__" : Str)) = false := by decide) : wpAny (model X.prog X.w) X.A (eval (.Name x pos) X.env) Q E s := by
  refine yWP I.mod.blt fun mb h1 h2 => ?_
  exact Calls.Name_function_global I.ok.kind hg (Calls.loadGlobal_builtin (by rw [I.ok.glob]; exact I.mod.glob.keeps I.bk) hm (by rw [I.ok.blt]; exact h1.keeps I.bk) ((h2 x hn).trans hv) h) hd
theorem pe_glob {x : Str} {v : V} {u : Value} {pos : Pos} (hg : Gl X x) (hm : X.mg x = some u) (r : RelV v u) (hd : (x == ("__debug__" : Str)) = false := by decide) : PE X (.Name x pos) (tC v) :=
  fun _ _ _ H _ I h => ld_glob I hg hm (xWWPP v H I r h) hd
theorem pe_bltn {x : Str} {v : V} {u : Value} {pos : Pos} (hg : Gl X x) (hm : X.mg x = none) (hv : bootBuiltins x = some u) (r : RelV v u) (hn : x ≠ "__name__" := by decide) (hd : (x == ("__debug__" : Str)) = false := by decide) : PE X (.Name x pos) (tC v) :=
  fun _ _ _ H _ I h => ld_blt I hg hm hv (xWWPP v H I r h) hn hd

variable {a b : Expr} {ta tb : TE} {pos : Pos}
variable {tA tB' : TT} {rest : List Expr}
def tAnd (t u : TT) : TT := fun σ H Q => t σ H fun c H1 => if c = true then u σ H1 Q else Q false H1
def tOr (t u : TT) : TT := fun σ H Q => t σ H fun c H1 => if c = true then Q true H1 else u σ H1 Q
def tNot (t : TT) : TT := fun σ H Q => t σ H fun c H1 => Q (!c) H1
theorem pw_and1 (ha : PT X a tA) : PW X (.BoolOp .And [a] pos) tA := by
  intro wh pins s σ H Q I h
  refine isTrue_and (thn (ha pins s σ H Q I h) fun c s1 e => ?_)
  cases c with
  | true => exact isTrue_and_nil e
  | false => exact e
theorem pw_or1 (ha : PT X a tA) : PW X (.BoolOp .Or [a] pos) tA := by
  intro wh pins s σ H Q I h
  refine isTrue_or (thn (ha pins s σ H Q I h) fun c s1 e => ?_)
  cases c with
  | false => exact isTrue_or_nil e
  | true => exact e
theorem pw_and (ha : PT X a tA) (hb : PW X (.BoolOp .And (b :: rest) pos) tB') : PW X (.BoolOp .And (a :: b :: rest) pos) (tAnd tA tB') := by
  intro wh pins s σ H Q I h
  refine isTrue_and (thn (ha pins s σ H _ I h) fun c s1 ⟨H1, I1, q1⟩ => ?_)
  cases c with
  | true => exact hb wh pins s1 σ H1 Q I1 q1
  | false => exact (xWP H1 I1 q1)
theorem pw_or (ha : PT X a tA) (hb : PW X (.BoolOp .Or (b :: rest) pos) tB') : PW X (.BoolOp .Or (a :: b :: rest) pos) (tOr tA tB') := by
  intro wh pins s σ H Q I h
  refine isTrue_or (thn (ha pins s σ H _ I h) fun c s1 ⟨H1, I1, q1⟩ => ?_)
  cases c with
  | true => exact (xWP H1 I1 q1)
  | false => exact hb wh pins s1 σ H1 Q I1 q1
theorem pt_not (ha : PT X a tA) : PT X (.UnaryOp .Not a pos) (tNot tA) := by
  intro pins s σ H Q I h
  exact isTrue_not (ha pins s σ H (fun c H1 => Q (!c) H1) I h)
def tAndV (ta tb : TE) : TE := fun σ H Q => ta σ H fun x H1 => ∃ c, x = .bl c ∧ if c = true then tb σ H1 Q else Q (.bl false) H1
def tNotV (ta : TE) : TE := fun σ H Q => ta σ H fun x H1 => ∃ c, x = .bl c ∧ Q (.bl (!c)) H1
theorem pe_one {op} {t : TE} (h : PE X a t) : PE X (.BoolOp op [a] pos) t := fun pins s σ H Q I hw => BoolOp_one (h pins s σ H Q I hw)
theorem pe_and (ha : PE X a ta) (hb : PE X (.BoolOp .And (b :: rest) pos) tb) : PE X (.BoolOp .And (a :: b :: rest) pos) (tAndV ta tb) := by
  intro pins s σ H Q I h
  refine BoolOp_and (thn (ha pins s σ H _ I h) fun v s1 ⟨x, H1, I1, r1, q1⟩ => ?_)
  obtain ⟨c, rfl, q1⟩ := q1
  cases r1
  refine wpAny_truthy_bool ?_
  cases c with
  | true => exact hb pins s1 σ H1 Q I1 q1
  | false => exact (xWWPP (.bl false) H1 I1 rfl q1)
theorem pe_not (ha : PE X a ta) : PE X (.UnaryOp .Not a pos) (tNotV ta) := by
  intro pins s σ H Q I h
  refine UnaryOp_ (thn (ha pins s σ H _ I h) fun v s1 ⟨x, H1, I1, r1, q1⟩ => ?_)
  obtain ⟨c, rfl, q1⟩ := q1
  cases r1
  exact not_of (wpAny_truthy_bool (xWWPP (.bl (!c)) H1 I1 rfl q1))
end
end L2

namespace L2
open PySem PySem.Spec PyProof.Rows

def SqL (K : PySem.W.Frag) (H : Hp) (a : Addr) (xs : List V) : Prop :=
  Rd H a (.lst xs) ∨
    ∃ (o : Obj) (its : Array Value) (n : Nat), K.lookup a = some o ∧ o.cls = .type "list" ∧ o.dict = none ∧ o.data = .seq its n ∧ its.size ≤ sizeLine ∧ Vals xs its.toList
def SqT (K : PySem.W.Frag) (H : Hp) (a : Addr) (xs : List V) : Prop :=
  Rd H a (.tup xs) ∨
    ∃ (o : Obj) (its : Array Value) (n : Nat), K.lookup a = some o ∧ o.cls = .type "tuple" ∧ o.data = .seq its n ∧ its.size ≤ sizeLine ∧ Vals xs its.toList
def absV : Value → Option V
  | .none => some .non
  | .bool b => some (.bl b)
  | .int i _ => some (.int i)
  | .str x _ => some (.str x)
  | .bytes b _ => some (.byt b)
  | .float b _ => some (.flt b)
  | .ref a => some (.ref a)
  | .type n => some (.ty n)
  | _ => none
theorem RelV.abs {x : V} {u : Value} (r : RelV x u) : absV u = some x := by
  cases x with
  | non => cases r; rfl
  | bl _ => cases r; rfl
  | int _ => obtain ⟨t, rfl⟩ := r; rfl
  | str _ => obtain ⟨t, rfl⟩ := r; rfl
  | byt _ => obtain ⟨t, rfl⟩ := r; rfl
  | flt _ => obtain ⟨t, rfl⟩ := r; rfl
  | ref _ => cases r; rfl
  | ty _ => cases r; rfl
theorem RelV.inj {x y : V} {u : Value} (r : RelV x u) (q : RelV y u) : x = y := Option.some.inj (r.abs.symm.trans q.abs)
theorem Vals.inj : ∀ {xs ys : List V} {us : List Value}, Vals xs us → Vals ys us → xs = ys
  | _, _, _, .nil, .nil => rfl
  | _, _, _, .cons r t, .cons r' t' => by rw [r.inj r', Vals.inj t t']
section
variable {X : Cx} {pins : List (Addr × Obj)} {σ : St} {H : Hp} {s : Shared} {a : Addr} {xs ys : List V}
theorem SqL.of {K : PySem.W.Frag} (h : H a = some (.lst xs)) : SqL K H a xs := .inl (.inl h)
theorem SqT.of {K : PySem.W.Frag} (h : H a = some (.tup xs)) : SqT K H a xs := .inl (.inl h)
theorem Inv.list (I : Inv X pins σ H s) (h : SqL X.K H a xs) : ∃ its : List Value, Vals xs its ∧ PlainL s.heap a its.toArray ∧ xs.length ≤ sizeLine := by
  rcases h with h | ⟨o, its, n, hk, hc, hd, hs, hz, r⟩
  · refine yPWWP (h.ok I.hok) fun z its n r e => ?_
    exact (xWPP its r (xWWPPP _ n e rfl rfl rfl) z)
  · refine (xWPP its.toList r (xWWPPP o n (I.kIn a o hk) hc hd (by simpa using hs)) ?_)
    have e := r.length
    simp only [Array.length_toList] at e
    exact AR.n22b e hz
theorem Inv.tuple (I : Inv X pins σ H s) (h : SqT X.K H a xs) : ∃ its : List Value, Vals xs its ∧ IsTup s.heap a its.toArray ∧ xs.length ≤ sizeLine := by
  rcases h with h | ⟨o, its, n, hk, hc, hs, hz, r⟩
  · refine yPWP (h.ok I.hok) fun z its r p => ?_
    exact (xWPP its r p z)
  · refine (xWPP its.toList r (xWPP o (I.kIn a o hk) hc ⟨ n, by simpa using hs⟩) ?_)
    have e := r.length
    simp only [Array.length_toList] at e
    exact AR.n22b e hz
theorem Inv.list_inj (I : Inv X pins σ H s) (h : SqL X.K H a xs) (h' : SqL X.K H a ys) : xs = ys := by
  refine yWPP (I.list h) fun its r ye48_2 _ => ?_; obtain ⟨o, n, e, _, _, d⟩ := ye48_2
  refine yWPP (I.list h') fun its' r' ye49_2 _ => ?_; obtain ⟨o', n', e', _, _, d'⟩ := ye49_2
  rw [e] at e'; cases e'
  rw [d] at d'
  injection d' with d1 _
  have : its = its' := by simpa using congrArg Array.toList d1
  subst this
  exact r.inj r'
end

abbrev Cx.wish (X : Cx) (E : Value → Shared → Prop) : Cx := { X with xe := E }
abbrev Cx.nox (X : Cx) : Cx := X.wish fun _ _ => False
theorem Cx.Ok.wish {X : Cx} (ok : X.Ok) (E : Value → Shared → Prop) : (X.wish E).Ok :=
  ⟨ok.mod, ok.kind, ok.glob, ok.blt, ok.above, ok.inj, ok.has, ok.cab, ok.hd, ok.frames, ok.stk, ok.exf, ok.bs, ok.bsz, ok.noex, ok.exfs, ok.funs, ok.frf⟩
theorem Cx.Ok.unwish {X : Cx} {E : Value → Shared → Prop} (ok : (X.wish E).Ok) : X.Ok :=
  ⟨ok.mod, ok.kind, ok.glob, ok.blt, ok.above, ok.inj, ok.has, ok.cab, ok.hd, ok.frames, ok.stk, ok.exf, ok.bs, ok.bsz, ok.noex, ok.exfs, ok.funs, ok.frf⟩
section
variable {X : Cx} {pins : List (Addr × Obj)} {σ : St} {H : Hp} {s : Shared} {E : Value → Shared → Prop}
theorem Inv.wish (I : Inv X pins σ H s) (E : Value → Shared → Prop) : Inv (X.wish E) pins σ H s := ⟨I.ok.wish E, I.os, I.bare, I.base, I.loc, I.cell, I.free, I.freeC, I.pin, I.hok, I.len⟩
theorem Inv.unwish (I : Inv (X.wish E) pins σ H s) : Inv X pins σ H s := ⟨I.ok.unwish, I.os, I.bare, I.base, I.loc, I.cell, I.free, I.freeC, I.pin, I.hok, I.len⟩
theorem SP.unwish {D : Ends} {f : Flow} {s' : Shared} (h : SP (X.wish E) pins D f s') : SP X pins D f s' := by
  cases f with
  | next => refine yWWP h fun σ' H' I q => ?_; try clear h; exact (xWWP σ' H' I.unwish q)
  | brk => refine yWWP h fun σ' H' I q => ?_; try clear h; exact (xWWP σ' H' I.unwish q)
  | cont => refine yWWP h fun σ' H' I q => ?_; try clear h; exact (xWWP σ' H' I.unwish q)
  | ret u => refine yWWWPP h fun v σ' H' I r q => ?_; try clear h; exact (xWWWPP v σ' H' I.unwish r q)
theorem PSs.nox {st : List Stmt} {t : TS} (h : PSs X.nox st t) : PSs X st t := fun pins s σ H D I hw =>
  wpAny_mono (h pins s σ H D (I.wish _) hw) (fun _ _ q => q.unwish) fun _ _ z => False.elim z
end

section
variable {X : Cx} {st : Stmt} {rest : List Stmt} {t u : TS} {e : Expr} {te : TE} {pos : Pos}
def tNext : TS := fun D σ H => D.nx σ H
def tSeq (t u : TS) : TS := fun D σ H => t { D with nx := u D } σ H
theorem pss_nil : PSs X [] tNext := fun _ _ σ H _ I h => wpAny_execs_nil (xWWP σ H I h)
theorem pss_cons (h1 : PS X st t) (h2 : PSs X rest u) : PSs X (st :: rest) (tSeq t u) := by
  intro pins s σ H D I h
  refine wpAny_execs_cons (thn (h1 pins s σ H { D with nx := u D } I h) fun f s1 q => ?_)
  cases f with
  | next =>
    obtain ⟨σ', H', I', q⟩ := q
    exact h2 pins s1 σ' H' D I' q
  | ret v => exact q
  | brk => exact q
  | cont => exact q
theorem pss_one (h1 : PS X st t) : PSs X [st] t := by
  intro pins s σ H D I h
  refine wpAny_execs_cons (thn (h1 pins s σ H D I h) fun f s1 q => ?_)
  cases f with
  | next => exact wpAny_execs_nil q
  | ret v => exact q
  | brk => exact q
  | cont => exact q
theorem Inv.quiet {pins : List (Addr × Obj)} {σ : St} {H : Hp} {s : Shared} (I : Inv X pins σ H s) : interactive X.env = false := by simp [interactive, I.ok.kind]
def tDrop (te : TE) : TS := fun D σ H => te σ H fun _ H1 => D.nx σ H1
theorem ps_expr (he : PE X e te) (hs : swapsWith e none pos.line X.env = pure false := by rfl) : PS X (.Expr e pos) (tDrop te) := by
  intro pins s σ H D I h
  exact wpAny_Expr_any (thn (he pins s σ H _ I h) fun v s1 ⟨x, H1, I1, r1, q1⟩ => (xWWP σ H1 I1 q1)) I.quiet hs
def tRet (te : TE) : TS := fun D σ H => te σ H D.rt
theorem ps_ret (he : PE X e te) : PS X (.Return (some e) pos) (tRet te) := by
  intro pins s σ H D I h
  exact wpAny_Return_some (thn (he pins s σ H _ I h) fun v s1 ⟨x, H1, I1, r1, q1⟩ => (xWWWPP x σ H1 I1 r1 q1))
def tIfS (c : TT) (t u : TS) : TS := fun D σ H => c σ H fun b H1 => if b = true then t D σ H1 else u D σ H1
theorem ps_if {c : Expr} {a b : List Stmt} {tc : TT} (hc : PT X c tc) (ha : PSs X a t) (hb : PSs X b u) : PS X (.If c a b pos) (tIfS tc t u) := by
  intro pins s σ H D I h
  refine wpAny_If (thn (hc pins s σ H _ I h) fun d s1 ⟨H1, I1, q1⟩ => ?_)
  cases d with
  | true => exact ha pins s1 σ H1 D I1 q1
  | false => exact hb pins s1 σ H1 D I1 q1
end

abbrev TG := V → St → Hp → (St → Hp → Prop) → Prop
abbrev TGs := List V → St → Hp → (St → Hp → Prop) → Prop
def PG (X : Cx) (target : Expr) (t : TG) : Prop :=
  ∀ (pins : List (Addr × Obj)) (s : Shared) (σ : St) (H : Hp) (v : V) (u : Value) (Q : St → Hp → Prop), Inv X pins σ H s → RelV v u → t v σ H Q →
    wpAny (model X.prog X.w) X.A (assign target X.env u) (fun _ s' => ∃ σ' H', Inv X pins σ' H' s' ∧ Q σ' H') X.xe s
def PGs (X : Cx) (ts : List Expr) (t : TGs) : Prop :=
  ∀ (pins : List (Addr × Obj)) (s : Shared) (σ : St) (H : Hp) (vs : List V) (us : List Value) (Q : St → Hp → Prop), Inv X pins σ H s → Vals vs us → t vs σ H Q →
    wpAny (model X.prog X.w) X.A (assignInOrder ((assignEach ts X.env).map (·.2)) us) (fun _ s' => ∃ σ' H', Inv X pins σ' H' s' ∧ Q σ' H') X.xe s
abbrev TSet := V → V → V → Hp → (Hp → Prop) → Prop
def PSet (X : Cx) (t : TSet) : Prop :=
  ∀ (pins : List (Addr × Obj)) (s : Shared) (σ : St) (H : Hp) (o i v : V) (ov iv u : Value) (Q : Hp → Prop), Inv X pins σ H s → RelV o ov → RelV i iv → RelV v u → t o i v H Q →
    wpAny (model X.prog X.w) X.A (setItem ov iv u) (fun _ s' => ∃ H', Inv X pins σ H' s' ∧ Q H') X.xe s
section
variable {X : Cx} {pos : Pos}
def gName (i : Nat) : TG := fun v σ H Q => Q (σ.set i (some v)) H
theorem pg_name {i : Nat} {x : Str} (hN : X.N.Nodup) (hi : X.N[i]? = some x) (hx : Loc X.env.scope x) (hf : X.fn x = true ∨ X.env.scope.names.lookup x = some .local := by first | exact .inl rfl | exact .inr rfl | assumption) : PG X (.Name x pos) (gName i) := by
  intro pins s σ H v u Q I r h
  exact wpAny_assign_Name (store_ok I hN hi hx r (fun s' I' => (xWWP _ H I' h)) hf)
def gNil : TGs := fun vs σ H Q => vs = [] ∧ Q σ H
def gCons (t : TG) (u : TGs) : TGs := fun vs σ H Q => ∃ v r, vs = v :: r ∧ t v σ H fun σ' H' => u r σ' H' Q
theorem pgs_nil : PGs X [] gNil := by
  intro pins s σ H vs us Q I r h
  obtain ⟨e, h⟩ := h
  subst e
  cases r
  exact assignInOrder_nil (xWWP σ H I h)
theorem pgs_cons {e : Expr} {es : List Expr} {t : TG} {u : TGs} (h1 : PG X e t) (h2 : PGs X es u)
    (hs : (assignEach (e :: es) X.env).map (·.2) = assign e X.env :: (assignEach es X.env).map (·.2) := by rfl) : PGs X (e :: es) (gCons t u) := by
  intro pins s σ H vs us Q I r h
  obtain ⟨v, vr, e1, h⟩ := h
  subst e1
  cases r with
  | cons r rr =>
    rw [hs]
    refine assignInOrder_cons (thn (h1 pins s σ H _ _ _ I r h) fun _ s1 ⟨σ1, H1, I1, q1⟩ => ?_)
    exact h2 pins s1 σ1 H1 _ _ Q I1 rr q1
def gTup (K : PySem.W.Frag) (n : Nat) (t : TGs) : TG := fun v σ H Q => ∃ a xs, v = .ref a ∧ SqT K H a xs ∧ xs.length = n ∧ t xs σ H Q
theorem pg_tup {es : List Expr} {k : Nat} {t : TGs} {n : Nat} (hc : X.calm = true) (h : PGs X es t)
    (hn : (assignEach es X.env).length = n := by rfl) (hst : (assignEach es X.env).findIdx? (·.1) = none := by rfl) : PG X (.Tuple es k pos) (gTup X.K n t) := by
  intro pins s σ H v u Q I r hw
  obtain ⟨a, xs, e1, hq, hl, hw⟩ := hw
  subst e1
  cases r
  refine yWPP (I.tuple hq) fun its rv ht hz => ?_
  refine assign_Tuple_tuple (I.ok.hd hc) ht (by simp [hn, ← hl, rv.length]) hst fun h' hx => ?_
  have I1 : Inv X pins σ H { s with heap := h' } := I.kept (t' := s.toks) fun b o e => hx b o (Nat.ne_of_lt (Heap.lt_size e)) e
  exact h pins _ σ H xs _ Q I1 (by simpa using rv) hw
def gSub (to ti : TE) (t : TSet) : TG := fun v σ H Q => to σ H fun o H1 => ti σ H1 fun i H2 => t o i v H2 fun H3 => Q σ H3
theorem pg_sub {o i : Expr} {to ti : TE} {t : TSet} (ho : PE X o to) (hi : PE X i ti) (hs : PSet X t)
    (ha : ∀ v, assign (.Subscript o i pos) X.env v = (do
      let ov ← holding [v] (eval o X.env)
      let iv ← holding [v, ov] (eval i X.env)
      standAt pos
      holding [v, ov, iv] (setItem ov iv v)
      release [v, ov, iv] []) := by intro _; rfl) : PG X (.Subscript o i pos) (gSub to ti t) := by
  intro pins s σ H v u Q I r h
  rw [ha]
  refine wpAny_bind (wpAny_holding (thn (ho pins s σ H _ I h) fun ov s1 ⟨x, H1, I1, r1, q1⟩ => ?_))
  refine wpAny_bind (wpAny_holding (thn (hi pins s1 σ H1 _ I1 q1) fun iv s2 ⟨y, H2, I2, r2, q2⟩ => ?_))
  refine wpAny_bind (wpAny_standAt (wpAny_bind (wpAny_holding (thn (hs pins s2 σ H2 x y v ov iv u _ I2 r1 r2 r q2) fun _ s3 ⟨H3, I3, q3⟩ => ?_))))
  exact wpAny_release (xWWP σ H3 I3 q3)
def tAsg (te : TE) (g : TG) : TS := fun D σ H => te σ H fun x H1 => g x σ H1 D.nx
theorem ps_asg {tg e : Expr} {te : TE} {g : TG} (he : PE X e te) (hg : PG X tg g) (hs : swapsWithSole [tg] e pos.line X.env = pure false := by rfl) (hw : swappedStores [tg] e X.env = pure none := by rfl)
    (h1 : (assignEach [tg] X.env).map (·.2) = [assign tg X.env] := by rfl) : PS X (.Assign [tg] e pos) (tAsg te g) := by
  intro pins s σ H D I h
  refine wpAny_Assign_stores (thn (he pins s σ H _ I h) fun v s1 ⟨x, H1, I1, r1, q1⟩ => ?_) hs hw
  rw [h1]
  exact thn (hg pins s1 σ H1 x v _ I1 r1 q1) fun _ s2 q => q
theorem ps_set {i : Nat} {x : Str} {e : Expr} {te : TE} {pos' : Pos} (hN : X.N.Nodup) (hi : X.N[i]? = some x) (hx : Loc X.env.scope x) (he : PE X e te) (hs : swapsWith e (some (.Name x pos')) pos.line X.env = pure false := by rfl) (hf : X.fn x = true ∨ X.env.scope.names.lookup x = some .local := by first | exact .inl rfl | exact .inr rfl | assumption) :
    PS X (.Assign [.Name x pos'] e pos) (tAsg te (gName i)) := by
  intro pins s σ H D I h
  refine wpAny_Assign_Name (thn (he pins s σ H _ I h) fun v s1 ⟨y, H1, I1, r1, q1⟩ => ?_) hs
  exact store_ok I1 hN hi hx r1 (fun s2 I2 => (xWWP _ H1 I2 q1)) hf
end

section
variable {X : Cx} {pos : Pos}
def tWhile (c : TT) (tb : TS) : TS := fun D σ H => ∃ W : Nat → St → Hp → Prop, (∃ m, W m σ H) ∧ ∀ m σ H, W m σ H →
  c σ H fun b H1 => if b = true then ∃ N : St → Hp → Prop, (∀ σ' H', N σ' H' → ∃ m', m' < m ∧ W m' σ' H') ∧ tb { D with nx := N, ct := N, bk := D.nx } σ H1 else D.nx σ H1
theorem ps_while {c : Expr} {body : List Stmt} {tc : TT} {tb : TS} (hp : PassesOwn (model X.prog X.w) X.A X.env X.xe) (hc : PT X c tc) (hb : PSs X body tb) : PS X (.While c body [] pos) (tWhile tc tb) := by
  intro pins s σ H D I h
  refine yWP h fun W ye55_1 turn => ?_; try clear h; obtain ⟨m0, w0⟩ := ye55_1
  refine wpAny_While (codeAny_whileLoop (fun n s' => ∃ σ' H', Inv X pins σ' H' s' ∧ W n σ' H') ?_ m0 (xWWP σ H I w0))
  intro n s1 hq1; refine yWWP hq1 fun σ1 H1 I1 w1 => ?_; try clear hq1
  refine wpAny_passesOwn hp (thn (hc pins s1 σ1 H1 _ I1 (turn n σ1 H1 w1)) fun b s2 ⟨H2, I2, q2⟩ => ?_)
  cases b with
  | true =>
    obtain ⟨N, hN, q2⟩ := q2
    rw [if_pos rfl]
    refine wpAny_passesOwn hp (thn (hb pins s2 σ1 H2 _ I2 q2) fun f s3 q3 => ?_)
    cases f with
    | next =>
      refine yWWP q3 fun σ3 H3 I3 n3 => ?_; try clear q3
      refine yWP (hN σ3 H3 n3) fun m' hm w3 => ?_
      exact (xWPWWP m' hm σ3 H3 I3 w3)
    | cont =>
      refine yWWP q3 fun σ3 H3 I3 n3 => ?_; try clear q3
      refine yWP (hN σ3 H3 n3) fun m' hm w3 => ?_
      exact (xWPWWP m' hm σ3 H3 I3 w3)
    | brk => exact q3
    | ret v => exact q3
  | false =>
    rw [if_neg Bool.false_ne_true]
    exact wpAny_execs_nil (xWWP σ1 H2 I2 q2)
end

structure It where
  go : Nat → Hp → Prop
  yld : Nat → Hp → V → Hp → Prop
  stop : Nat → Hp → Prop
def FpOk (X : Cx) (pins : List (Addr × Obj)) (H : Hp) (b : Addr) : Prop :=
  H b = none ∧ b ≠ X.env.locals ∧ b ∉ X.fs ∧ (b ∈ X.ex ∨ X.s₀.heap.objs.size ≤ b) ∧ (∀ x c, X.env.cells.lookup x = some c → c ≠ b) ∧ ∀ p ∈ X.pn ++ pins, p.1 ≠ b
theorem Inv.fpOk {X : Cx} {pins : List (Addr × Obj)} {σ : St} {H H' : Hp} {s : Shared} {b : Addr} (I : Inv X pins σ H s) (hb : s.heap.objs.size ≤ b) (hn : H' b = none) : FpOk X pins H' b := by
  refine (xPPPPP hn (Nat.ne_of_gt (Nat.lt_of_lt_of_le I.lt hb)) (I.nofs hb) (.inr (Nat.le_trans I.sz hb)) (fun x c e z => ?_) (fun p hp z => ?_))
  · obtain ⟨v, q⟩ := I.cell x c e
    exact absurd (Nat.lt_of_lt_of_le q.lt (by rw [z]; exact hb)) (Nat.lt_irrefl _)
  · exact absurd (Nat.lt_of_lt_of_le (Heap.lt_size (I.pin p hp).1) (by rw [z]; exact hb)) (Nat.lt_irrefl _)
structure Turn (P : Program) (w : World) (K : PySem.W.Frag) (tg : Expr) (J : It) (fp : List Addr) (it : Addr) (tn : Nat → Heap → Prop) : Prop where
  mem : it ∈ fp
  obj : ∀ i h, tn i h → ∀ b ∈ fp, ∃ o, h.get? b = some o ∧ ∀ v, o.data ≠ .cell v
  keep : ∀ i h h', tn i h → (∀ b ∈ fp, ∀ o, h.get? b = some o → h'.get? b = some o) → tn i h'
  item : ∀ (X : Cx), X.prog = P → X.w = w → X.K = K → X.calm = true → ∀ (i : Nat) (pins : List (Addr × Obj)) (s : Shared) (σ : St) (H : Hp) (E : Value → Shared → Prop), Inv X pins σ H s → (∀ b ∈ fp, FpOk X pins H b) → tn i s.heap → J.go i H →
    wpAny (model P w) X.A (pyNext (.ref it)) (fun r s1 => ∃ u, r = some u ∧
      wpAny (model P w) X.A (letOwnedTupleGo tg (.ref it) u) (fun _ s2 => ∃ x H', Inv X pins σ H' s2 ∧ RelV x u ∧ J.yld i H x H' ∧ tn (i + 1) s2.heap ∧ ∀ b ∈ fp, H' b = none) E s1) E s
  done : ∀ (X : Cx), X.prog = P → X.w = w → X.K = K → X.calm = true → ∀ (i : Nat) (pins : List (Addr × Obj)) (s : Shared) (σ : St) (H : Hp) (E : Value → Shared → Prop), Inv X pins σ H s → (∀ b ∈ fp, FpOk X pins H b) → tn i s.heap → J.stop i H →
    wpAny (model P w) X.A (pyNext (.ref it)) (fun r s1 => r = none ∧ Inv X pins σ H s1) E s
  self : ∀ (A : Around) (i : Nat) (s : Shared) (Q : Value → Shared → Prop) (E : Value → Shared → Prop), tn i s.heap → Q (.ref it) s → wpAny (model P w) A (pyIter (.ref it)) Q E s
abbrev TI := St → Hp → (It → Hp → Prop) → Prop
def PIE (X : Cx) (pins : List (Addr × Obj)) (σ : St) (tg : Expr) (R : It → Hp → Prop) (itv : Value) (s2 : Shared) : Prop :=
  ∃ (it : Addr) (fp : List Addr) (tn : Nat → Heap → Prop) (J : It) (H' : Hp), itv = .ref it ∧ Inv X pins σ H' s2 ∧ Turn X.prog X.w X.K tg J fp it tn ∧ tn 0 s2.heap ∧ (∀ b ∈ fp, FpOk X pins H' b) ∧ R J H'
def PI (X : Cx) (tg iter : Expr) (wi : TI) : Prop :=
  ∀ (pins : List (Addr × Obj)) (s : Shared) (σ : St) (H : Hp) (R : It → Hp → Prop), Inv X pins σ H s → wi σ H R →
    wpAny (model X.prog X.w) X.A (eval iter X.env) (fun v s1 => wpAny (model X.prog X.w) X.A (pyIter v) (PIE X pins σ tg R) X.xe s1) X.xe s

theorem go_of {M : Model} {A : Around} {E : Value → Shared → Prop} {s : Shared} {tg : Expr} {it : Addr} {u : Value} {o : Obj} {n : String} {vs : Array Value} {Q : Unit → Shared → Prop} (ho : s.heap.get? it = some o) (hc : o.cls = .type n) (hd : o.data = .fields vs)
    (hn : ["enumerate", "zip", "dict_itemiterator", "dict_reverseitemiterator", "odict_iterator", "itertools.zip_longest", "itertools.pairwise"].contains n = false) (hQ : Q () s) : wpAny M A (letOwnedTupleGo tg (.ref it) u) Q E s := by
  unfold letOwnedTupleGo
  cases tg <;> first
    | exact wpAny_pure hQ
    | (cases u <;> first
        | exact wpAny_pure hQ
        | (refine wpAny_bind (wpAny_load ho ?_)
           rw [hc, hd]
           show wpAny M A (if (["enumerate", "zip", "dict_itemiterator", "dict_reverseitemiterator", "odict_iterator", "itertools.zip_longest", "itertools.pairwise"].contains n && vs[0]? == some (rawInt _)) = true then _ else _) Q E s
           rw [if_neg (by intro h; rw [hn, Bool.false_and] at h; cases h)]
           exact wpAny_pure hQ))

def Itl (K : PySem.W.Frag) (a : Addr) : It :=
  ⟨fun i H => ∃ xs x, SqL K H a xs ∧ xs[i]? = some x, fun i H x H' => H' = H ∧ ∀ xs, SqL K H a xs → xs[i]? = some x, fun i H => ∃ xs, SqL K H a xs ∧ xs.length ≤ i⟩
def Itr (lo : Int) (n : Nat) : It := ⟨fun i _ => i < n, fun i H x H' => H' = H ∧ x = .int (lo + i), fun i _ => n ≤ i⟩
theorem turn_list {P : Program} {w : World} {K : PySem.W.Frag} {tg : Expr} (a it : Addr) : Turn P w K tg (Itl K a) [it] it (fun i h => h.IsListIter it a i) where
  mem := by simp
  obj := fun i h st b hb => by
    have e : b = it := by simpa using hb
    subst e
    refine yWPP st fun o e c d => ?_; try clear st
    exact (xWP o e (fun v z => by rw [d] at z; cases z))
  keep := fun i h h' st k => st.at fun o e => k it (by simp) o e
  item := by
    intro X hP hw hK hc i pins s σ H E I hf st hg
    subst hP hw hK
    refine yWWP hg fun xs x hq hx => ?_; try clear hg
    refine yWPP (I.list hq) fun its rv p hz => ?_
    refine yWP (rv.get hx) fun u hu ru => ?_
    obtain ⟨f0, f1, f2, f3, f4, f5⟩ := hf it (by simp)
    refine wpAny_pyNext_list_item st p.isList (x := u) (by simpa using hu) fun h' st' sb => ?_
    have I1 : Inv X pins σ H { s with heap := h' } := I.turned (t' := s.toks) (fun b o hb e => (sb.2 b hb).trans e) f0 f1 f3 f4 f5
    refine yWPP (id st') fun o e c d => ?_
    exact (xWP u rfl (go_of (s := { s with heap := h' }) e c d (by decide) (xWWPPPP x H I1 ru ⟨rfl, fun ys hy => by rw [I.list_inj hy hq]; exact hx⟩ st' (fun b hb => (hf b hb).1))))
  done := by
    intro X hP hw hK hc i pins s σ H E I hf st hg
    subst hP hw hK
    refine yWP hg fun xs hq hx => ?_; try clear hg
    refine yWPP (I.list hq) fun its rv p hz => ?_
    obtain ⟨f0, f1, f2, f3, f4, f5⟩ := hf it (by simp)
    have hl := rv.length
    exact wpAny_pyNext_list_end (I.ok.hd hc) st p.isList (by simp; exact AR.n22d hl hx) fun h' eb => ⟨rfl, I.turned (t' := s.toks) (fun b o hb e => eb b o hb e) f0 f1 f3 f4 f5⟩
  self := fun _ _ _ _ _ st h => wpAny_pyIter_listiter st h
theorem turn_range {P : Program} {w : World} {K : PySem.W.Frag} {tg : Expr} (it : Addr) (lo : Int) (n : Nat) : Turn P w K tg (Itr lo n) [it] it (fun i h => IsRangeIter h it (lo + (i : Nat) * 1) ((n : Int) - (i : Nat)) 1) where
  mem := by simp
  obj := fun i h st b hb => by
    have e : b = it := by simpa using hb
    subst e
    exact (xWP _ st (fun v z => by
      have z' : Data.fields _ = Data.cell v := z
      cases z'))
  keep := fun i h h' st k => k it (by simp) _ st
  item := by
    intro X hP hw hK hc i pins s σ H E I hf st hg
    subst hP hw hK
    obtain ⟨f0, f1, f2, f3, f4, f5⟩ := hf it (by simp)
    have W := Walks.range (prog := X.prog) (w := X.w) (I.ok.hd hc) it lo 1 n
    refine W.item i s _ _ hg st fun v h' tk hv st' kk => ?_
    obtain ⟨t, rfl⟩ := hv
    have I1 : Inv X pins σ H { s with heap := h', toks := tk } := I.turned (fun b o hb e => kk b o (by simpa using hb) e) f0 f1 f3 f4 f5
    refine (xWP _ rfl (go_of (s := { s with heap := h', toks := tk }) (n := "range_iterator") st' rfl rfl (by decide) (xWWPPPP (.int (lo + i)) H I1 ⟨t, ?_⟩ ⟨rfl, rfl⟩ st' (fun b hb => (hf b hb).1))))
    rw [Int.mul_one]
  done := by
    intro X hP hw hK hc i pins s σ H E I hf st hg
    subst hP hw hK
    obtain ⟨f0, f1, f2, f3, f4, f5⟩ := hf it (by simp)
    exact wpAny_pyNext_range_end (I.ok.hd hc) st (by have : n ≤ i := hg; (clear f3; omega)) fun h' eb => ⟨rfl, I.turned (t' := s.toks) (fun b o hb e => eb b o hb e) f0 f1 f3 f4 f5⟩
  self := fun _ _ _ _ _ st h => wpAny_pyIter_rangeiter st h
end L2

namespace L2
open PySem PySem.Spec PyProof.Rows
section
variable {X : Cx} {tg : Expr}
def iList (K : PySem.W.Frag) (tl : TE) : TI := fun σ H R => tl σ H fun x H1 => ∃ a, x = .ref a ∧ (∃ xs, SqL K H1 a xs) ∧ R (Itl K a) H1
theorem pi_list {l : Expr} {tl : TE} (hl : PE X l tl) : PI X tg l (iList X.K tl) := by
  intro pins s σ H R I h
  refine thn (hl pins s σ H _ I h) fun v s1 ⟨x, H1, I1, r1, q1⟩ => ?_
  refine yWPP q1 fun a e ye68_2 q => ?_; try clear q1; obtain ⟨xs, hq⟩ := ye68_2
  subst e
  cases r1
  refine yWPP (I1.list hq) fun its rv p hz => ?_
  refine wpAny_pyIter_list p.isList ?_
  refine (xWWWWWPPP s1.heap.objs.size ([s1.heap.objs.size]) _ _ H1 rfl (I1.kept (t' := s1.toks) fun b o e => Heap.get?_push_of_some _ e) (turn_list a _) (xPP (xWPP _ (Heap.get?_push_size _ rfl) rfl rfl) (fun b hb => ?_) q))
  have e : b = s1.heap.objs.size := by simpa using hb
  subst e
  exact I1.fpOk (Nat.le_refl _) (I1.hok.fresh (Nat.le_refl _))
theorem range_it {pins : List (Addr × Obj)} {σ : St} {H : Hp} {s : Shared} {R : It → Hp → Prop} {E : Value → Shared → Prop} {lo hi : Int} {t u v : Tok} {tk : Nat} (I : Inv X pins σ H s) (h1 : -(2 ^ 62) ≤ lo) (h2 : lo < 2 ^ 62) (h3 : -(2 ^ 62) ≤ hi) (h4 : hi < 2 ^ 62)
    (q : R (Itr lo (hi - lo).toNat) H) : wpAny (model X.prog X.w) X.A (pyIter (.ref s.heap.objs.size)) (PIE X pins σ tg R) E { s with heap := s.heap.push { cls := .type "range", data := .fields #[.int lo t, .int hi u, .int 1 v] }, toks := tk } := by
  refine wpAny_pyIter_range (IsRange.new ..) (small_one h1 h2 h3 h4) ?_
  have I1 : Inv X pins σ H { s with heap := s.heap.push { cls := .type "range", data := .fields #[.int lo t, .int hi u, .int 1 v] }, toks := tk } := I.kept fun b o e => Heap.get?_push_of_some _ e
  refine (xWWWWWPPP ((s.heap.push { cls := .type "range", data := .fields #[.int lo t, .int hi u, .int 1 v] }).objs.size) ([(s.heap.push { cls := .type "range", data := .fields #[.int lo t, .int hi u, .int 1 v] }).objs.size]) _ _ H rfl (I1.kept (t' := tk) fun b o e => Heap.get?_push_of_some _ e) (turn_range _ lo (hi - lo).toNat) (xPP ?_ (fun b hb => ?_) q))
  · have e1 : lo + ((0 : Nat) : Int) * 1 = lo := by simp
    have e2 : (((hi - lo).toNat : Nat) : Int) - ((0 : Nat) : Int) = Builtin.Range.rangeSize lo hi 1 := by rw [rangeSize_one]; split <;> (clear h1 h2 h3 h4 e1; omega)
    show IsRangeIter _ _ (lo + ((0 : Nat) : Int) * 1) ((((hi - lo).toNat : Nat) : Int) - ((0 : Nat) : Int)) 1
    rw [e1, e2]
    exact Heap.get?_push_size _ rfl
  · have e : b = (s.heap.push { cls := .type "range", data := .fields #[.int lo t, .int hi u, .int 1 v] }).objs.size := by simpa using hb
    subst e
    exact I1.fpOk (Nat.le_refl _) (I1.hok.fresh (Nat.le_refl _))
def iRng1 (ta : TA) : TI := fun σ H R => ta σ H fun vs H1 => ∃ j : Int, vs = [.int j] ∧ -(2 ^ 62) ≤ j ∧ j < 2 ^ 62 ∧ R (Itr 0 j.toNat) H1
def iRng2 (ta : TA) : TI := fun σ H R => ta σ H fun vs H1 => ∃ i j : Int, vs = [.int i, .int j] ∧ (-(2 ^ 62) ≤ i ∧ i < 2 ^ 62 ∧ -(2 ^ 62) ≤ j ∧ j < 2 ^ 62) ∧ R (Itr i (j - i).toNat) H1
theorem pi_range1 {a : Expr} {ta : TA} {p pos : Pos} (hg : Gl X "range") (hm : X.mg "range" = none) (ha : PA X [a] ta) (hs : starEach [a] X.env = [(false, eval a X.env)] := by rfl) : PI X tg (.Call (.Name "range" p) [a] [] pos) (iRng1 ta) := by
  intro pins s σ H R I h
  refine Call_ (ld_blt I hg hm boot_range (PyProof.Rows.callWith_type1 (thn (ha pos pins s σ H _ I h) fun us s1 ⟨vs, H1, I1, r1, q1⟩ => ?_) hs rfl))
  obtain ⟨j, e, q1, q2, q⟩ := q1
  subst e
  cases r1 with
  | cons r rr =>
    cases rr
    obtain ⟨t, rfl⟩ := r
    exact call_range_1 (range_it I1 (by (clear q1 q2; omega)) (by (clear q1 q2; omega)) q1 q2 (by simpa using q))
theorem pi_range2 {a b : Expr} {ta : TA} {p pos : Pos} (hg : Gl X "range") (hm : X.mg "range" = none) (ha : PA X [a, b] ta) (hs : starEach [a, b] X.env = [(false, eval a X.env), (false, eval b X.env)] := by rfl) (hs2 : starEach [b] X.env = [(false, eval b X.env)] := by rfl) :
    PI X tg (.Call (.Name "range" p) [a, b] [] pos) (iRng2 ta) := by
  intro pins s σ H R I h
  refine Call_ (ld_blt I hg hm boot_range (PyProof.Rows.callWith_type1 (thn (ha pos pins s σ H _ I h) fun us s1 ⟨vs, H1, I1, r1, q1⟩ => ?_) (by rw [hs, hs2]) (by rw [hs2]; rfl)))
  refine yWWPP q1 fun i j e ye70_3 q => ?_; try clear q1; obtain ⟨q1, q2, q3, q4⟩ := ye70_3
  subst e
  cases r1 with
  | cons r rr =>
    cases rr with
    | cons r' rr =>
      cases rr
      obtain ⟨t, rfl⟩ := r
      obtain ⟨t', rfl⟩ := r'
      exact call_range_2 (range_it I1 q1 q2 q3 q4 q)

def tFor (wi : TI) (g : TG) (tb : TS) : TS := fun D σ H => wi σ H fun J H1 => ∃ W : Nat → Nat → St → Hp → Prop, (∃ m, W 0 m σ H1) ∧ ∀ i m σ H, W i m σ H →
  (J.stop i H ∧ D.nx σ H) ∨ (J.go i H ∧ ∃ N : St → Hp → Prop, (∀ σ' H', N σ' H' → ∃ m', m' < m ∧ W (i + 1) m' σ' H') ∧ ∀ x H', J.yld i H x H' → g x σ H' fun σ2 H2 => tb { D with nx := N, ct := N, bk := D.nx } σ2 H2)
def pinsAt (fp : List Addr) (h : Heap) : List (Addr × Obj) := fp.filterMap fun b => (h.get? b).map fun o => (b, o)
theorem mem_pinsAt {fp : List Addr} {h : Heap} {b : Addr} {o : Obj} (hb : b ∈ fp) (e : h.get? b = some o) : (b, o) ∈ pinsAt fp h := List.mem_filterMap.mpr (xWP b hb (by rw [e]; rfl))
theorem of_pinsAt {fp : List Addr} {h : Heap} {p : Addr × Obj} (hp : p ∈ pinsAt fp h) : p.1 ∈ fp ∧ h.get? p.1 = some p.2 := by
  refine yWP (List.mem_filterMap.mp hp) fun b hb e => ?_
  cases q : h.get? b with
  | none => rw [q] at e; cases e
  | some o =>
    rw [q] at e
    have e' : (b, o) = p := Option.some.inj e
    subst e'
    exact ⟨hb, q⟩
theorem Inv.pinned {pins : List (Addr × Obj)} {σ : St} {H : Hp} {s : Shared} {fp : List Addr} (I : Inv X pins σ H s) (hf : ∀ b ∈ fp, FpOk X pins H b) (ho : ∀ b ∈ fp, ∃ o, s.heap.get? b = some o ∧ ∀ v, o.data ≠ .cell v) : Inv X (pins ++ pinsAt fp s.heap) σ H s :=
  I.pins_of fun p hp => (List.mem_append.mp hp).elim (fun z => I.pin p (List.mem_append_right _ z)) fun z => by
    obtain ⟨hb, e⟩ := of_pinsAt z
    refine yPPP (hf p.1 hb) fun f0 f1 f2 _ => ?_
    refine yWP (ho p.1 hb) fun o e' d => ?_
    rw [e] at e'; cases e'
    exact (xPPPP e f0 f1 f2 d)
theorem Inv.unpinned {pins pl : List (Addr × Obj)} {σ : St} {H : Hp} {s : Shared} (I : Inv X (pins ++ pl) σ H s) : Inv X pins σ H s := I.pins_of fun p hp => I.pin p (List.mem_append_right _ (List.mem_append_left _ hp))
theorem ps_for {iter : Expr} {body : List Stmt} {wi : TI} {g : TG} {tb : TS} {pos : Pos} (hp : PassesOwn (model X.prog X.w) X.A X.env X.xe) (hc : X.calm = true) (hi : PI X tg iter wi) (hg : PG X tg g) (hb : PSs X body tb)
    (hs : ∀ x, foldedSetIterable iter X.env x = pure x := by intro _; rfl) : PS X (.For tg iter body [] pos) (tFor wi g tb) := by
  intro pins s σ H D I h
  refine wpAny_For (thn (hi pins s σ H _ I h) fun v s1 h1 => thn h1 fun itv s2 h2 => ?_) hs
  refine yWWWWWPPP h2 fun it fp tn J H2 e I2 T yr74 => ?_; try clear h2; refine yPPWP yr74 fun st2 f2 W ye75_3 turn => ?_; try clear yr74; obtain ⟨m0, w0⟩ := ye75_3
  subst e
  -- what stays true of the iterator's objects through the loop
  have stat : ∀ {H' : Hp}, (∀ b ∈ fp, H' b = none) → ∀ b ∈ fp, FpOk X pins H' b := fun hn b hb => ⟨hn b hb, (f2 b hb).2⟩
  refine codeAny_forLoop_any (fun n s' => ∃ i σ' H', Inv X pins σ' H' s' ∧ tn i s'.heap ∧ (∀ b ∈ fp, H' b = none) ∧ W i n σ' H') ?_ m0 (xWWWPPP 0 σ H2 I2 st2 (fun b hb => (f2 b hb).1) w0)
  intro n s3 hq2; refine yWWWPPP hq2 fun i σ3 H3 I3 st3 fr3 w3 => ?_; try clear hq2
  rcases turn i n σ3 H3 w3 with ⟨stop, qn⟩ | ⟨go, N, hN, step⟩
  · refine wpAny_passesOwn hp (thn (T.done X rfl rfl rfl hc i pins s3 σ3 H3 X.xe I3 (stat fr3) st3 stop) fun r s4 ⟨hr, I4⟩ => ?_)
    subst hr
    exact wpAny_execs_nil (xWWP σ3 H3 I4 qn)
  · refine wpAny_passesOwn hp (thn (T.item X rfl rfl rfl hc i pins s3 σ3 H3 X.xe I3 (stat fr3) st3 go) fun r s4 ⟨u, hr, h4⟩ => ?_)
    subst hr
    refine wpAny_passesOwn hp (thn h4 fun _ s5 ⟨x, H5, I5, r5, y5, st5, fr5⟩ => ?_)
    have I5' := I5.pinned (stat fr5) (T.obj _ _ st5)
    refine wpAny_passesOwn hp (thn (hg _ s5 σ3 H5 x u _ I5' r5 (step x H5 y5)) fun _ s6 ⟨σ6, H6, I6, q6⟩ => ?_)
    refine wpAny_passesOwn hp (thn (hb _ s6 σ6 H6 _ I6 q6) fun f s7 q7 => ?_)
    have again : ∀ {σ7 : St} {H7 : Hp}, Inv X (pins ++ pinsAt fp s5.heap) σ7 H7 s7 → N σ7 H7 → ∃ m, m < n ∧ ∃ i σ' H', Inv X pins σ' H' s7 ∧ tn i s7.heap ∧ (∀ b ∈ fp, H' b = none) ∧ W i m σ' H' := fun {σ7 H7} I7 n7 => by
      refine yWP (hN σ7 H7 n7) fun m' hm w7 => ?_
      refine (xWPWWWPPP m' hm (i + 1) σ7 H7 I7.unpinned (T.keep _ _ _ st5 fun b hb o e => (I7.pin (b, o) (List.mem_append_right _ (List.mem_append_right _ (mem_pinsAt hb e)))).1) (fun b hb => ?_) w7)
      refine yWP (T.obj _ _ st5 b hb) fun o e d => ?_
      exact (I7.pin (b, o) (List.mem_append_right _ (List.mem_append_right _ (mem_pinsAt hb e)))).2.1
    cases f with
    | next => refine yWWP q7 fun σ7 H7 I7 n7 => ?_; try clear q7; exact again I7 n7
    | cont => refine yWWP q7 fun σ7 H7 I7 n7 => ?_; try clear q7; exact again I7 n7
    | brk => obtain ⟨σ7, H7, I7, q7⟩ := q7; exact (xWWP σ7 H7 I7.unpinned q7)
    | ret v => obtain ⟨x7, σ7, H7, I7, r7, q7⟩ := q7; exact (xWWWPP x7 σ7 H7 I7.unpinned r7 q7)
end

theorem for_list {K : PySem.W.Frag} {a : Addr} {xs : List V} {g : TG} {tb : TS} {D : Ends} {σ : St} {H : Hp} (Pv : Nat → St → Hp → Prop) (h0 : Pv 0 σ H) (hl : ∀ i σ H, i ≤ xs.length → Pv i σ H → SqL K H a xs)
    (hs : ∀ i x σ H, xs[i]? = some x → Pv i σ H → g x σ H fun σ2 H2 => tb { D with nx := Pv (i + 1), ct := Pv (i + 1), bk := D.nx } σ2 H2) (hd : ∀ σ H, Pv xs.length σ H → D.nx σ H) :
    ∃ W : Nat → Nat → St → Hp → Prop, (∃ m, W 0 m σ H) ∧ ∀ i m σ H, W i m σ H →
      ((Itl K a).stop i H ∧ D.nx σ H) ∨ ((Itl K a).go i H ∧ ∃ N : St → Hp → Prop, (∀ σ' H', N σ' H' → ∃ m', m' < m ∧ W (i + 1) m' σ' H') ∧ ∀ x H', (Itl K a).yld i H x H' → g x σ H' fun σ2 H2 => tb { D with nx := N, ct := N, bk := D.nx } σ2 H2) := by
  refine (xWP (fun i m σ H => m = xs.length - i ∧ i ≤ xs.length ∧ Pv i σ H) (xWPP xs.length (by simp) (Nat.zero_le _) h0) ?_)
  intro i m σ H hq3; refine yPP hq3 fun ye81_0 hi p => ?_; try clear hq3; subst ye81_0
  have q := hl i σ H hi p
  by_cases hlt : i < xs.length
  · refine .inr (xPWP (xWWP xs (xs[i]) q (by simp [hlt])) (Pv (i + 1)) (fun σ' H' p' => (xWPPP (xs.length - (i + 1)) (by (first | exact AR.m81 hlt | omega)) rfl hlt p')) (fun x H' y => ?_))
    obtain ⟨e, y⟩ := y
    subst e
    exact hs i x σ _ (y xs q) p
  · have e : i = xs.length := by exact AR.n24 hi hlt
    subst e
    exact .inl ⟨(xWP xs q (Nat.le_refl _)), hd σ H p⟩
theorem for_range {lo : Int} {n : Nat} {g : TG} {tb : TS} {D : Ends} {σ : St} {H : Hp} (Pv : Nat → St → Hp → Prop) (h0 : Pv 0 σ H)
    (hs : ∀ i σ H, i < n → Pv i σ H → g (.int (lo + i)) σ H fun σ2 H2 => tb { D with nx := Pv (i + 1), ct := Pv (i + 1), bk := D.nx } σ2 H2) (hd : ∀ σ H, Pv n σ H → D.nx σ H) :
    ∃ W : Nat → Nat → St → Hp → Prop, (∃ m, W 0 m σ H) ∧ ∀ i m σ H, W i m σ H →
      ((Itr lo n).stop i H ∧ D.nx σ H) ∨ ((Itr lo n).go i H ∧ ∃ N : St → Hp → Prop, (∀ σ' H', N σ' H' → ∃ m', m' < m ∧ W (i + 1) m' σ' H') ∧ ∀ x H', (Itr lo n).yld i H x H' → g x σ H' fun σ2 H2 => tb { D with nx := N, ct := N, bk := D.nx } σ2 H2) := by
  refine (xWP (fun i m σ H => m = n - i ∧ i ≤ n ∧ Pv i σ H) (xWPP n (by simp) (Nat.zero_le _) h0) ?_)
  intro i m σ H hq4; refine yPP hq4 fun ye82_0 hi p => ?_; try clear hq4; subst ye82_0
  by_cases hlt : i < n
  · refine .inr (xPWP hlt (Pv (i + 1)) (fun σ' H' p' => (xWPPP (n - (i + 1)) (by (first | exact AR.m81 hlt | omega)) rfl hlt p')) (fun x H' y => ?_))
    obtain ⟨e, y⟩ := y
    subst e y
    exact hs i σ _ hlt p
  · have e : i = n := by exact AR.n24 hi hlt
    subst e
    exact .inl ⟨Nat.le_refl _, hd σ H p⟩
end L2

namespace L2
open PySem PySem.Spec PyProof.Rows

abbrev R2 := V → V → Hp → VK → Prop
def OpR (X : Cx) (f : Value → Value → Sem Value) (r : R2) : Prop :=
  ∀ (pins : List (Addr × Obj)) (s : Shared) (σ : St) (H : Hp) (x y : V) (v u : Value) (Q : VK), Inv X pins σ H s → RelV x v → RelV y u → r x y H Q →
    wpAny (model X.prog X.w) X.A (f v u) (EP X pins σ Q) X.xe s
def CallR (X : Cx) (f : Value) (r : List V → Hp → VK → Prop) : Prop :=
  ∀ (pins : List (Addr × Obj)) (s : Shared) (σ : St) (H : Hp) (xs : List V) (us : List Value) (Q : VK), Inv X pins σ H s → Vals xs us → r xs H Q →
    wpAny (model X.prog X.w) X.A (call f us) (EP X pins σ Q) X.xe s
def TruR (X : Cx) (r : V → Hp → (Bool → Hp → Prop) → Prop) : Prop :=
  ∀ (pins : List (Addr × Obj)) (s : Shared) (σ : St) (H : Hp) (x : V) (v : Value) (Q : Bool → Hp → Prop), Inv X pins σ H s → RelV x v → r x H Q →
    wpAny (model X.prog X.w) X.A (truthy v) (TP X pins σ Q) X.xe s

def tOp (r : R2) (ta tb : TE) : TE := fun σ H Q => ta σ H fun x H1 => tb σ H1 fun y H2 => r x y H2 Q
def rI (C : Int → Int → Prop) (g : Int → Int → V) : R2 := fun x y H Q => ∃ i j, x = .int i ∧ y = .int j ∧ C i j ∧ Q (g i j) H
def rI0 (g : Int → Int → V) : R2 := fun x y H Q => ∃ i j, x = .int i ∧ y = .int j ∧ Q (g i j) H
section
variable {X : Cx} {a b c : Expr} {ta tb tc : TE} {pos : Pos}

theorem binT (ha : PE X a ta) (hb : PE X b tb) {pins : List (Addr × Obj)} {s : Shared} {σ : St} {H : Hp} {R : V → V → Hp → Prop} (I : Inv X pins σ H s)
    (h : ta σ H fun x H1 => tb σ H1 fun y H2 => R x y H2) {Q : Value → Shared → Prop} {f : Value → Value → Sem Value}
    (hf : ∀ v u s2 x y H2, Inv X pins σ H2 s2 → RelV x v → RelV y u → R x y H2 → wpAny (model X.prog X.w) X.A (f v u) Q X.xe s2) :
    wpAny (model X.prog X.w) X.A (eval a X.env) (fun v s₁ => wpAny (model X.prog X.w) X.A (eval b X.env) (fun u s₂ => wpAny (model X.prog X.w) X.A (f v u) Q X.xe s₂) X.xe s₁) X.xe s := by
  refine thn (ha pins s σ H _ I h) fun v s1 ⟨x, H1, I1, r1, q1⟩ => ?_
  refine thn (hb pins s1 σ H1 _ I1 q1) fun u s2 ⟨y, H2, I2, r2, q2⟩ => ?_
  exact hf v u s2 x y H2 I2 r1 r2 q2

theorem pe_op {op : Operator} {r : R2} (ho : OpR X (binaryOp op) r) (ha : PE X a ta) (hb : PE X b tb) : PE X (.BinOp a op b pos) (tOp r ta tb) := by
  intro pins s σ H Q I h
  exact wpAny_BinOp (binT ha hb I h fun v u s2 x y H2 I2 rx ry q => ho pins s2 σ H2 x y v u Q I2 rx ry q)
theorem opI {f : Value → Value → Sem Value} {C : Int → Int → Prop} {g : Int → Int → Int}
    (rule : ∀ (i j : Int) (t u : Tok) (s : Shared) (Q : Value → Shared → Prop) (E : Value → Shared → Prop), C i j → Q (.int (g i j) s.toks) { s with toks := s.toks + 1 } → wpAny (model X.prog X.w) X.A (f (.int i t) (.int j u)) Q E s) :
    OpR X f (rI C fun i j => .int (g i j)) := by
  intro pins s σ H x y v u Q I rx ry h
  refine yWWPPP h fun i j ye83_2 ye83_3 hc q => ?_; try clear h; subst ye83_2; subst ye83_3
  obtain ⟨t, rfl⟩ := rx
  obtain ⟨t', rfl⟩ := ry
  exact rule i j t t' s _ _ hc (xWWPP (.int (g i j)) H (I.tok _) ⟨_, rfl⟩ q)
theorem opI0 {f : Value → Value → Sem Value} {g : Int → Int → Int}
    (rule : ∀ (i j : Int) (t u : Tok) (s : Shared) (Q : Value → Shared → Prop) (E : Value → Shared → Prop), Q (.int (g i j) s.toks) { s with toks := s.toks + 1 } → wpAny (model X.prog X.w) X.A (f (.int i t) (.int j u)) Q E s) :
    OpR X f (rI0 fun i j => .int (g i j)) := by
  intro pins s σ H x y v u Q I rx ry h
  refine yWWPP h fun i j ye84_2 ye84_3 q => ?_; try clear h; subst ye84_2; subst ye84_3
  obtain ⟨t, rfl⟩ := rx
  obtain ⟨t', rfl⟩ := ry
  exact rule i j t t' s _ _ (xWWPP (.int (g i j)) H (I.tok _) ⟨_, rfl⟩ q)
theorem opB0 {f : Value → Value → Sem Value} {g : Int → Int → Bool}
    (rule : ∀ (i j : Int) (t u : Tok) (s : Shared) (Q : Value → Shared → Prop) (E : Value → Shared → Prop), Q (.bool (g i j)) s → wpAny (model X.prog X.w) X.A (f (.int i t) (.int j u)) Q E s) :
    OpR X f (rI0 fun i j => .bl (g i j)) := by
  intro pins s σ H x y v u Q I rx ry h
  refine yWWPP h fun i j ye85_2 ye85_3 q => ?_; try clear h; subst ye85_2; subst ye85_3
  obtain ⟨t, rfl⟩ := rx
  obtain ⟨t', rfl⟩ := ry
  exact rule i j t t' s _ _ (xWWPP (.bl (g i j)) H I rfl q)

def CDiv (i j : Int) : Prop := 0 < j ∧ j < 1073741824
def CPow (i j : Int) : Prop := 0 ≤ j ∧ j ≤ 1000000 ∧ i.natAbs < 2 ^ 64
def CMul (i j : Int) : Prop := (-(2 ^ 64) < i ∧ i < 2 ^ 64) ∨ (-(2 ^ 64) < j ∧ j < 2 ^ 64)
theorem CMul.ok {i j : Int} (h : CMul i j) : IntMulOk i j := by
  rcases h with ⟨h1, h2⟩ | ⟨h1, h2⟩
  · exact .of_left (intBits_le_64 h1 h2)
  · exact .of_right (intBits_le_64 h1 h2)
theorem op_add : OpR X (binaryOp .Add) (rI0 fun i j => .int (i + j)) := opI0 fun _ _ _ _ _ _ _ q => add_int q
theorem op_sub : OpR X (binaryOp .Sub) (rI0 fun i j => .int (i - j)) := opI0 fun _ _ _ _ _ _ _ q => sub_int q
theorem op_mul : OpR X (binaryOp .Mult) (rI CMul fun i j => .int (i * j)) := opI fun _ _ _ _ _ _ _ hc q => mul_int q hc.ok
theorem op_fdiv : OpR X (binaryOp .FloorDiv) (rI CDiv fun i j => .int (i / j)) := opI fun i j _ _ _ _ _ hc q => by
  have h1 : (0 : Int) < j := hc.1
  have h2 : j < 1073741824 := hc.2
  exact floordiv_int (by first | exact AR.j23 h1 | omega) (by rw [Int.fdiv_eq_ediv_of_nonneg i (by exact AR.i1 h1)]; exact q) (.inl (PyProof.noPylong_small (by omega)))
theorem op_mod : OpR X (binaryOp .Mod) (rI (fun _ j => 0 < j) fun i j => .int (i % j)) := opI fun i j _ _ _ _ _ hc q => by
  have h1 : (0 : Int) < j := hc
  exact mod_int' (by (first | exact AR.j23 hc | omega)) (by rw [Int.fmod_eq_emod_of_nonneg i (by exact AR.i1 hc)]; exact q)
theorem op_pow : OpR X (binaryOp .Pow) (rI CPow fun i j => .int (i ^ j.toNat)) := opI fun _ _ _ _ _ _ _ hc q => pow_int_small hc.1 hc.2.1 hc.2.2 q
end

def scal : V → V → Bool
  | .non, .non => true | .non, .int _ => true | .int _, .non => true | .non, .bl _ => true | .bl _, .non => true | .non, .str _ => true | .str _, .non => true
  | .int _, .int _ => true | .bl _, .bl _ => true | .str _, .str _ => true | .byt _, .byt _ => true
  | .int _, .str _ => true | .str _, .int _ => true | .bl _, .str _ => true | .str _, .bl _ => true
  | _, _ => false
def rEq : R2 := fun x y H Q => scal x y = true ∧ Q (.bl (decide (x = y))) H
def rNe : R2 := fun x y H Q => scal x y = true ∧ Q (.bl (!decide (x = y))) H

theorem dec_int {i j : Int} : decide (V.int i = V.int j) = (i == j) := by
  rw [Bool.eq_iff_iff]
  simp
theorem dec_bl {i j : Bool} : decide (V.bl i = V.bl j) = (i == j) := by
  rw [Bool.eq_iff_iff]
  simp
theorem dec_str {i j : Str} : decide (V.str i = V.str j) = (i == j) := by
  rw [Bool.eq_iff_iff]
  simp
theorem dec_byt {i j : Array UInt8} : decide (V.byt i = V.byt j) = (i.toList == j.toList) := by
  rw [Bool.eq_iff_iff]
  cases i
  cases j
  simp

section
variable {X : Cx} {a b c : Expr} {ta tb tc : TE} {pos : Pos}
theorem fin_bl {pins : List (Addr × Obj)} {σ : St} {H : Hp} {s : Shared} {Q : VK} {k k' : Bool} (I : Inv X pins σ H s) (q : Q (.bl k) H) (e : k = k') : EP X pins σ Q (.bool k') s := by
  subst e
  exact (xWWPP (.bl k) H I rfl q)
theorem op_eq : OpR X (compareOp .Eq) rEq := by
  intro pins s σ H x y v u Q I rx ry h
  obtain ⟨hs, q⟩ := h
  cases x with
  | non =>
    cases rx
    cases y with
    | non => cases ry; exact PySem.EqNone.eq_none_none (fin_bl I q (by simp))
    | bl j => cases ry; exact PySem.EqNone.eq_none_bool (fin_bl I q (by simp))
    | int j => obtain ⟨t', rfl⟩ := ry; exact PySem.EqNone.eq_none_int (fin_bl I q (by simp))
    | str j => obtain ⟨t', rfl⟩ := ry; exact PySem.EqNone.eq_none_str (fin_bl I q (by simp))
    | _ => exact absurd (show false = true from hs) Bool.false_ne_true
  | bl i =>
    cases rx
    cases y with
    | non => cases ry; exact PySem.EqNone.eq_bool_none (fin_bl I q (by simp))
    | bl j => cases ry; exact eq_bool (fin_bl I q dec_bl)
    | str j => obtain ⟨t', rfl⟩ := ry; exact PySem.EqMixed.eq_bool_str (fin_bl I q (by simp))
    | _ => exact absurd (show false = true from hs) Bool.false_ne_true
  | int i =>
    obtain ⟨t, rfl⟩ := rx
    cases y with
    | non => cases ry; exact PySem.EqNone.eq_int_none (fin_bl I q (by simp))
    | int j => obtain ⟨t', rfl⟩ := ry; exact eq_int (fin_bl I q dec_int)
    | str j => obtain ⟨t', rfl⟩ := ry; exact PySem.EqMixed.eq_int_str (fin_bl I q (by simp))
    | _ => exact absurd (show false = true from hs) Bool.false_ne_true
  | str i =>
    obtain ⟨t, rfl⟩ := rx
    cases y with
    | non => cases ry; exact PySem.EqNone.eq_str_none (fin_bl I q (by simp))
    | bl j => cases ry; exact PySem.EqMixed.eq_str_bool (fin_bl I q (by simp))
    | int j => obtain ⟨t', rfl⟩ := ry; exact PySem.EqMixed.eq_str_int (fin_bl I q (by simp))
    | str j => obtain ⟨t', rfl⟩ := ry; exact eq_str (fin_bl I q dec_str)
    | _ => exact absurd (show false = true from hs) Bool.false_ne_true
  | byt i =>
    obtain ⟨t, rfl⟩ := rx
    cases y with
    | byt j => obtain ⟨t', rfl⟩ := ry; exact PySem.W.eq_bytes (fin_bl I q dec_byt)
    | _ => exact absurd (show false = true from hs) Bool.false_ne_true
  | _ => cases y <;> exact absurd (show false = true from hs) Bool.false_ne_true
theorem op_ne : OpR X (compareOp .NotEq) rNe := by
  intro pins s σ H x y v u Q I rx ry h
  obtain ⟨hs, q⟩ := h
  cases x with
  | non =>
    cases rx
    cases y with
    | non => cases ry; exact PySem.EqNone.ne_none_none (fin_bl I q (by simp))
    | bl j => cases ry; exact PySem.EqNone.ne_none_bool (fin_bl I q (by simp))
    | int j => obtain ⟨t', rfl⟩ := ry; exact PySem.EqNone.ne_none_int (fin_bl I q (by simp))
    | str j => obtain ⟨t', rfl⟩ := ry; exact PySem.EqNone.ne_none_str (fin_bl I q (by simp))
    | _ => exact absurd (show false = true from hs) Bool.false_ne_true
  | bl i =>
    cases rx
    cases y with
    | non => cases ry; exact PySem.EqNone.ne_bool_none (fin_bl I q (by simp))
    | bl j => cases ry; exact ne_bool (fin_bl I q (congrArg not dec_bl))
    | str j => obtain ⟨t', rfl⟩ := ry; exact PySem.EqMixed.ne_bool_str (fin_bl I q (by simp))
    | _ => exact absurd (show false = true from hs) Bool.false_ne_true
  | int i =>
    obtain ⟨t, rfl⟩ := rx
    cases y with
    | non => cases ry; exact PySem.EqNone.ne_int_none (fin_bl I q (by simp))
    | int j => obtain ⟨t', rfl⟩ := ry; exact ne_int (fin_bl I q (congrArg not dec_int))
    | str j => obtain ⟨t', rfl⟩ := ry; exact PySem.EqMixed.ne_int_str (fin_bl I q (by simp))
    | _ => exact absurd (show false = true from hs) Bool.false_ne_true
  | str i =>
    obtain ⟨t, rfl⟩ := rx
    cases y with
    | non => cases ry; exact PySem.EqNone.ne_str_none (fin_bl I q (by simp))
    | bl j => cases ry; exact PySem.EqMixed.ne_str_bool (fin_bl I q (by simp))
    | int j => obtain ⟨t', rfl⟩ := ry; exact PySem.EqMixed.ne_str_int (fin_bl I q (by simp))
    | str j => obtain ⟨t', rfl⟩ := ry; exact ne_str (fin_bl I q (congrArg not dec_str))
    | _ => exact absurd (show false = true from hs) Bool.false_ne_true
  | byt i =>
    obtain ⟨t, rfl⟩ := rx
    cases y with
    | byt j => obtain ⟨t', rfl⟩ := ry; exact PySem.W.ne_bytes (fin_bl I q (congrArg not dec_byt))
    | _ => exact absurd (show false = true from hs) Bool.false_ne_true
  | _ => cases y <;> exact absurd (show false = true from hs) Bool.false_ne_true

theorem op_lt : OpR X (compareOp .Lt) (rI0 fun i j => .bl (decide (i < j))) := opB0 fun _ _ _ _ _ _ _ q => lt_int q
theorem op_le : OpR X (compareOp .LtE) (rI0 fun i j => .bl (decide (i ≤ j))) := opB0 fun _ _ _ _ _ _ _ q => le_int q
theorem op_gt : OpR X (compareOp .Gt) (rI0 fun i j => .bl (decide (j < i))) := opB0 fun _ _ _ _ _ _ _ q => gt_int q
theorem op_ge : OpR X (compareOp .GtE) (rI0 fun i j => .bl (decide (j ≤ i))) := opB0 fun _ _ _ _ _ _ _ q => ge_int q
theorem op_isN : OpR X (compareOp .Is) (fun x y H Q => y = .non ∧ Q (.bl (decide (x = .non))) H) := by
  intro pins s σ H x y v u Q I rx ry h
  obtain ⟨rfl, q⟩ := h
  cases ry
  refine is_none_gen (fin_bl I q ?_)
  cases x <;> first
    | (cases rx; rfl)
    | (obtain ⟨t, rfl⟩ := rx; rfl)
theorem op_notN : OpR X (compareOp .IsNot) (fun x y H Q => y = .non ∧ Q (.bl (!decide (x = .non))) H) := by
  intro pins s σ H x y v u Q I rx ry h
  obtain ⟨rfl, q⟩ := h
  cases ry
  refine isnot_none_gen (fin_bl I q ?_)
  cases x <;> first
    | (cases rx; rfl)
    | (obtain ⟨t, rfl⟩ := rx; rfl)

theorem nomark (b : Expr) {op : CmpOp} (h : op ≠ .In := by decide) (h2 : op ≠ .NotIn := by decide) : behindInMarks op b = false := by
  have e1 : (op == CmpOp.In) = false := by cases op <;> first | rfl | exact absurd rfl h
  have e2 : (op == CmpOp.NotIn) = false := by cases op <;> first | rfl | exact absurd rfl h2
  cases b <;> simp [behindInMarks, e1, e2]
theorem pe_cmpR {op : CmpOp} {r : R2} (ho : OpR X (compareOp op) r) (ha : PE X a ta) (hb : PE X b tb) (hm : behindInMarks op b = false) : PE X (.Compare a [op] [b] pos) (tOp r ta tb) := by
  intro pins s σ H Q I h
  exact wpAny_Compare1 (binT ha hb I h fun v u s2 x y H2 I2 rx ry q => ho pins s2 σ H2 x y v u Q I2 rx ry q) hm
def tTest (t : TE) : TT := fun σ H Q => t σ H fun x H' => ∃ k, x = .bl k ∧ Q k H'
theorem pt_cmpR {op : CmpOp} {r : R2} (ho : OpR X (compareOp op) r) (ha : PE X a ta) (hb : PE X b tb) (hm : behindInMarks op b = false) : PT X (.Compare a [op] [b] pos) (tTest (tOp r ta tb)) := by
  intro pins s σ H Q I h
  refine wpAny_isTrue_Compare1 (thn (ha pins s σ H _ I h) fun v s1 ⟨x, H1, I1, r1, q1⟩ => thn (hb pins s1 σ H1 _ I1 q1) fun u s2 ⟨y, H2, I2, r2, q2⟩ =>
    thn (ho pins s2 σ H2 x y v u _ I2 r1 r2 q2) fun c s3 ⟨z, H3, I3, r3, k, e, q3⟩ => ?_) hm
  subst e
  cases r3
  exact wpAny_truthy_bool (xWP H3 I3 q3)
def tChain (r r' : R2) (ta tb tc : TE) : TE := fun σ H Q => ta σ H fun x H1 => tb σ H1 fun y H2 => r x y H2 fun z H3 => ∃ k, z = .bl k ∧
  (if k = true then tc σ H3 fun w' H4 => r' y w' H4 Q else Q (.bl false) H3)
theorem pe_chain {op op' : CmpOp} {r r' : R2} (ho : OpR X (compareOp op) r) (ho' : OpR X (compareOp op') r') (ha : PE X a ta) (hb : PE X b tb) (hc : PE X c tc)
    (hm : lastMarks [op, op'] [b, c] = false := by with_unfolding_all rfl) : PE X (.Compare a [op, op'] [b, c] pos) (tChain r r' ta tb tc) := by
  intro pins s σ H Q I h
  refine Compare_chain (thn (ha pins s σ H _ I h) fun v s1 ⟨x, H1, I1, r1, q1⟩ => chain_link (thn (hb pins s1 σ H1 _ I1 q1) fun u s2 ⟨y, H2, I2, r2, q2⟩ =>
    thn (ho pins s2 σ H2 x y v u _ I2 r1 r2 q2) fun d s3 ⟨z, H3, I3, r3, k, e, q3⟩ => ?_)) hm
  subst e
  cases r3
  refine wpAny_truthy_bool ?_
  cases k with
  | false => exact ite_ff (xWWPP (.bl false) H3 I3 rfl q3)
  | true => exact ite_tt (chain_last (thn (hc pins s3 σ H3 _ I3 q3) fun w' s4 ⟨z', H4, I4, r4, q4⟩ => ho' pins s4 σ H4 y z' u w' Q I4 r2 r4 q4))
theorem pt_chain {op op' : CmpOp} {r r' : R2} (ho : OpR X (compareOp op) r) (ho' : OpR X (compareOp op') r') (ha : PE X a ta) (hb : PE X b tb) (hc : PE X c tc)
    (hm : lastMarks [op, op'] [b, c] = false := by with_unfolding_all rfl) : PT X (.Compare a [op, op'] [b, c] pos) (tTest (tChain r r' ta tb tc)) := by
  intro pins s σ H Q I h
  refine isTrue_chain (thn (ha pins s σ H _ I h) fun v s1 ⟨x, H1, I1, r1, q1⟩ => test_link (thn (hb pins s1 σ H1 _ I1 q1) fun u s2 ⟨y, H2, I2, r2, q2⟩ =>
    thn (ho pins s2 σ H2 x y v u _ I2 r1 r2 q2) fun d s3 ⟨z, H3, I3, r3, k, e, q3⟩ => ?_)) hm
  subst e
  cases r3
  refine wpAny_truthy_bool ?_
  cases k with
  | false =>
    refine yWP q3 fun k' e' q' => ?_; try clear q3
    cases e'
    exact ite_ff (xWP H3 I3 q')
  | true =>
    refine ite_tt (test_last (thn (hc pins s3 σ H3 _ I3 q3) fun w' s4 ⟨z', H4, I4, r4, q4⟩ => thn (ho' pins s4 σ H4 y z' u w' _ I4 r2 r4 q4) fun d' s5 ⟨z2, H5, I5, r5, k2, e2, q5⟩ => ?_))
    subst e2
    cases r5
    exact wpAny_truthy_bool (xWP H5 I5 q5)

def TruV (K : PySem.W.Frag) (x : V) (H : Hp) (k : Bool) : Prop :=
  match x with
  | .non => k = false
  | .bl b => k = b
  | .int i => k = (i != 0)
  | .str y => y.length ≤ sizeLine ∧ k = ((y.length : Int) != 0)
  | .byt y => y.size ≤ sizeLine ∧ k = ((y.size : Int) != 0)
  | .ref p => (∃ xs, SqL K H p xs ∧ k = !xs.isEmpty) ∨ (∃ xs, SqT K H p xs ∧ k = !xs.isEmpty) ∨ ∃ kvs, H p = some (.dK kvs) ∧ k = !kvs.isEmpty
  | _ => False
theorem isEmpty_kv {κ : Type} {kvs : List (κ × V)} {vs : List (κ × Value)} (r : KV kvs vs) : (!vs.isEmpty) = !kvs.isEmpty := by
  cases r <;> rfl
theorem isEmpty_of {xs : List V} {its : List Value} (r : Vals xs its) : (!its.toArray.isEmpty) = !xs.isEmpty := by
  cases r <;> simp
theorem line63 : (sizeLine : Nat) < 2 ^ 63 := by rw [sizeLine_eq]; decide
theorem tru_ok : TruR X (fun x H Q => ∃ k, TruV X.K x H k ∧ Q k H) := by
  intro pins s σ H x v Q I rx h
  refine yWP h fun k e q => ?_; try clear h
  have hl := line63
  have hs : sizeLine = 16777216 := sizeLine_eq
  cases x with
  | non =>
    cases rx
    have e' : k = false := e
    subst e'
    exact truthy_none (xWP H I q)
  | bl b =>
    cases rx
    have e' : k = b := e
    subst e'
    exact wpAny_truthy_bool (xWP H I q)
  | int i =>
    obtain ⟨t, rfl⟩ := rx
    have e' : k = (i != 0) := e
    subst e'
    exact PySem.P.truthy_int (xWP H I q)
  | str y =>
    obtain ⟨t, rfl⟩ := rx
    obtain ⟨hy, e'⟩ : y.length ≤ sizeLine ∧ k = ((y.length : Int) != 0) := e
    subst e'
    exact PySem.P.truthy_str (by (clear hl; omega)) (xWP H (I.tok _) q)
  | byt y =>
    obtain ⟨t, rfl⟩ := rx
    obtain ⟨hy, e'⟩ : y.size ≤ sizeLine ∧ k = ((y.size : Int) != 0) := e
    subst e'
    exact PySem.W.truthy_bytes (by (first | exact AR.n4 hy (AR.n22b hs (of_decide_eq_true (id (Eq.refl true)))) | omega)) (xWP H (I.tok _) q)
  | ref p =>
    cases rx
    have e' : (∃ xs, SqL X.K H p xs ∧ k = !xs.isEmpty) ∨ (∃ xs, SqT X.K H p xs ∧ k = !xs.isEmpty) ∨ ∃ kvs, H p = some (.dK kvs) ∧ k = !kvs.isEmpty := e
    rcases e' with ⟨xs, hx, e'⟩ | ⟨xs, hx, e'⟩ | ⟨kvs, hx, e'⟩
    · subst e'
      refine yWPP (I.list hx) fun its r pl hz => ?_
      have hlen := r.length
      exact wpAny_truthy_list pl.isList (by simp only [List.size_toArray]; (clear hl; omega)) (xWP H (I.tok _) (by rw [isEmpty_of r]; exact q))
    · subst e'
      refine yWPP (I.tuple hx) fun its r pl hz => ?_
      have hlen := r.length
      exact truthy_tuple pl (by simp only [List.size_toArray]; (clear hl; omega)) (xWP H (I.tok _) (by rw [isEmpty_of r]; exact q))
    · subst e'
      obtain ⟨hz, hS, vs, r, m⟩ : kvs.length ≤ sizeLine ∧ (p == sysModules) = false ∧ ∃ vs, KV kvs vs ∧ s.heap.DictOf (mixKind X.prog X.w) p vs := I.hok p _ hx
      have hlen : kvs.length = vs.length := Paired.length r
      exact wpAny_truthy_dict hS m (by (clear hl; omega)) (xWP H (I.tok _) (by rw [isEmpty_kv r]; exact q))
  | _ => exact (show False from e).elim
theorem pt_truth (ha : PE X a ta) (he : ∀ whole, isTrue a X.env whole = (do let v ← whole; standAt a.pos; holding [v] (truthy v))) :
    PT X a (fun σ H Q => ta σ H fun x H' => ∃ k, TruV X.K x H' k ∧ Q k H') := by
  intro pins s σ H Q I h
  exact isTrue_plain (thn (ha pins s σ H _ I h) fun v s1 ⟨x, H1, I1, r1, q1⟩ => tru_ok pins s1 σ H1 x v Q I1 r1 q1) (he _)

theorem vals1 {x : V} {us : List Value} (r : Vals [x] us) : ∃ u, us = [u] ∧ RelV x u := by
  cases r with
  | cons r1 r2 => cases r2; exact (xWP _ rfl r1)
theorem vals2 {x y : V} {us : List Value} (r : Vals [x, y] us) : ∃ u w', us = [u, w'] ∧ RelV x u ∧ RelV y w' := by
  cases r with
  | cons r1 r2 =>
    cases r2 with
    | cons r3 r4 => cases r4; exact (xWWPP _ _ rfl r1 r3)
theorem call_max2 (hc : X.calm = true) : CallR X (.builtin "max") (fun xs H Q => ∃ i j, xs = [.int i, .int j] ∧ Q (.int (if j > i then j else i)) H) := by
  intro pins s σ H xs us Q I r h
  refine yWWP h fun i j ye90_2 q => ?_; try clear h; subst ye90_2
  refine yWWPP (vals2 r) fun u w' ye91_2 ye91_3 yr91 => ?_; subst ye91_2; obtain ⟨t, rfl⟩ := ye91_3; obtain ⟨t', rfl⟩ := yr91
  refine max_two_ints (I.ok.hd hc) fun h' tk k => (xWWPP _ H (I.kept k) ?_ q)
  by_cases hj : j > i
  · rw [if_pos hj, if_pos hj]; exact ⟨_, rfl⟩
  · rw [if_neg hj, if_neg hj]; exact ⟨_, rfl⟩
theorem call_int1 : CallR X (.type "int") (fun xs H Q => (∃ i, xs = [.int i] ∧ Q (.int i) H) ∨ ∃ k, xs = [.bl k] ∧ Q (.int (if k then 1 else 0)) H) := by
  intro pins s σ H xs us Q I r h
  rcases h with ⟨i, rfl, q⟩ | ⟨k, rfl, q⟩
  · refine yWP (vals1 r) fun u ye92_1 yr92 => ?_; subst ye92_1; obtain ⟨t, rfl⟩ := yr92
    exact call_int_int (xWWPP (.int i) H I ⟨_, rfl⟩ q)
  · refine yWP (vals1 r) fun u ye93_1 r1 => ?_; subst ye93_1
    cases r1
    exact call_int_bool (xWWPP (.int (if k then 1 else 0)) H (I.tok _) ⟨_, rfl⟩ q)
end
end L2

namespace L2
open PySem PySem.Spec PyProof.Rows

section
variable {prog : Program} {w : World} {A : Around} {E : Value → Shared → Prop} {s : Shared} {K : PySem.W.Frag} {x dx C f : Addr} {mA : Str → Option Value} {name : Str} {v : Value}

end

section
variable {P : Program} {w : World} {H H' : Hp} {h h' : Heap} {a C dx : Addr} {fs fs' : List (Str × V)}
end

section
variable {X : Cx} {pins : List (Addr × Obj)} {σ : St} {H : Hp} {s : Shared} {a C dx : Addr} {fs : List (Str × V)} {f : Str} {v : V} {A : Around} {E : Value → Shared → Prop}

end

section
variable {X : Cx} {o e value : Expr} {f : Str} {pos pos' tpos : Pos} {ta tv : TE}
end

section
variable {X : Cx} {pins : List (Addr × Obj)} {σ : St} {H : Hp} {s : Shared} {A : Around} {E : Value → Shared → Prop} {Q : Value → Shared → Prop} {c : Value} {b : Bool}
end
end L2

namespace L2
open PySem PySem.Spec PyProof.Rows

structure Room (k : Nat) (A : Around) : Prop where
  hd : A.handled = none
  dp : A.depth + 3 * k + 5 < recursionLimit
  un : A.units + 16 * k + 200 < cLine
theorem Room.mono {j k : Nat} {A : Around} (r : Room k A) (h : j ≤ k) : Room j A := ⟨r.hd, by have := r.dp; omega, by have := r.un; omega⟩
theorem Room.deeper {k : Nat} {A : Around} (r : Room (k + 1) A) (env : Env) : Room k (A.deeper env) :=
  ⟨r.hd, by have := r.dp; show A.depth + 1 + 3 * k + 5 < _; omega, by have := r.un; show A.units + 3 + 16 * k + 200 < _; omega⟩
theorem Room.depth {k : Nat} {A : Around} (r : Room k A) : A.depth < recursionLimit := by have := r.dp; omega
theorem Room.units {k : Nat} {A : Around} (r : Room k A) : A.units + 64 < cLine := by have := r.un; omega
def tNil : TA := fun _ H Q => Q [] H
def tCons (ta : TE) (tr : TA) : TA := fun σ H Q => ta σ H fun x H1 => tr σ H1 fun xs H2 => Q (x :: xs) H2
section
variable {X : Cx} {e : Expr} {es : List Expr} {te : TE} {t : TA} {pos : Pos}
theorem pa_nil : PA X [] tNil := fun _ _ _ _ H Q I h => Calls.spliced_nil (xWWPP ([]) H I .nil h)
theorem pa_cons (ha : PE X e te) (hr : PA X es t) (hs : starEach (e :: es) X.env = (false, eval e X.env) :: starEach es X.env := by rfl) : PA X (e :: es) (tCons te t) := by
  intro pos pins s σ H Q I h
  rw [hs]
  show wpAny _ _ (spliced ((false, eval e X.env) :: backTo pos (starEach es X.env))) _ _ s
  refine Calls.spliced_cons (thn (ha pins s σ H _ I h) fun u s1 ⟨x, H1, I1, r1, q1⟩ => ?_)
  exact thn (hr pos pins s1 σ H1 _ I1 q1) fun us s2 ⟨xs, H2, I2, r2, q2⟩ => (xWWPP (x :: xs) H2 I2 (.cons r1 r2) q2)

def tTup (t : TA) : TE := fun σ H Q => t σ H fun xs H1 => xs.length ≤ sizeLine ∧ ∀ p, H1 p = none → Q (.ref p) (upd H1 p (.tup xs))
def tLst (t : TA) : TE := fun σ H Q => t σ H fun xs H1 => xs.length ≤ sizeLine ∧ ∀ p, H1 p = none → Q (.ref p) (upd H1 p (.lst xs))
theorem pe_tup {x1} (h : PA X es t) : PE X (.Tuple es x1 pos) (tTup t) := by
  intro pins s σ H Q I hq
  refine wpAny_Tuple_spliced (thn (h pos pins s σ H _ I hq) fun us s1 ⟨xs, H1, I1, r, z, q⟩ => ⟨by rw [← r.length]; exact z, ?_⟩)
  have hf : H1 s1.heap.objs.size = none := I1.hok.fresh (Nat.le_refl _)
  refine (xWWPP (.ref s1.heap.objs.size) (upd H1 s1.heap.objs.size (.tup xs)) (I1.laid (t' := s1.toks) (fun b u e => Heap.get?_push_of_some _ e) (Nat.le_refl _) ?_) rfl (q _ hf))
  exact (xPWP z us r (xWPP _ (Heap.get?_push_size _ rfl) rfl ⟨ _, rfl⟩))
theorem pe_lst (h : PA X es t) : PE X (.List es pos) (tLst t) := by
  intro pins s σ H Q I hq
  refine wpAny_List_spliced (thn (h pos pins s σ H _ I hq) fun us s1 ⟨xs, H1, I1, r, z, q⟩ => ⟨by rw [← r.length]; exact z, ?_⟩)
  have hf : H1 s1.heap.objs.size = none := I1.hok.fresh (Nat.le_refl _)
  refine (xWWPP (.ref s1.heap.objs.size) (upd H1 s1.heap.objs.size (.lst xs)) (I1.laid (t' := s1.toks) (fun b u e => Heap.get?_push_of_some _ e) (Nat.le_refl _) ?_) rfl (q _ hf))
  exact (xPWWP z us 0 r (Heap.get?_push_size _ rfl))
end

abbrev Sp := List V → Hp → VK → XK → Prop
abbrev CXT := List Env → Hp → Shared → XK → Value → Shared → Prop

structure Env0 (P : Program) (w : World) (K : PySem.W.Frag) (mg : Str → Option Value) (base : Heap) (A : Around) (outer : List Env) (s : Shared) (H : Hp) : Prop where
  frames : A.frames = some outer
  mod : Mod K mg base
  bs : ∀ b o, base.get? b = some o → s.heap.get? b = some o ∧ H b = none
  bsz : base.objs.size ≤ s.heap.objs.size
  funs : s.heap.FunFrames base outer
  frf : ∀ b ∈ frs outer, H b = none
  hok : HOk P w H s.heap
  bare : AllBare s.gens
def CE (outer : List Env) (P : Program) (w : World) (H : Hp) (s : Shared) (Q : VK) (u : Value) (s' : Shared) : Prop :=
  ∃ v H', s'.os = s.os ∧ AllBare s'.gens ∧ Un (frs outer) [] H H' s.heap s'.heap ∧ HOk P w H' s'.heap ∧ RelV v u ∧ Q v H'
def CR (CX : CXT) (outer : List Env) (P : Program) (w : World) (H : Hp) (s : Shared) (Q : VK) (E : XK) (r : Result) (s' : Shared) : Prop :=
  match r with
  | .ok (.ret u) => CE outer P w H s Q u s'
  | .ok _ => False
  | .error e => CX outer H s E e s'
structure FnOk (P : Program) (w : World) (K : PySem.W.Frag) (mg : Str → Option Value) (base : Heap) (CX : CXT) (k : Nat) (f : Addr) (fd : FuncData) (ps : List Str) (sp : Sp) : Prop where
  len : ∀ vs H Q E, sp vs H Q E → vs.length = ps.length
  run : ∀ (A : Around) (outer : List Env) (s : Shared) (H : Hp) (args : Args) (us : List Value) (vs : List V) (Q : VK) (E : XK), Room k A → Env0 P w K mg base A outer s H → BindsTo s fd args (ps.zip us) → Vals vs us → sp vs H Q E →
    codeAny (model P w) A (.call (.ref f) args) (CR CX outer P w H s Q E) s
section
variable {X : Cx} {pins : List (Addr × Obj)} {σ : St} {H : Hp} {s s' : Shared}
theorem Inv.env0 (I : Inv X pins σ H s) : Env0 X.prog X.w X.K X.mg X.base X.A X.stack s H :=
  ⟨I.ok.frames, I.ok.mod, I.bs, Nat.le_trans I.ok.bsz I.sz, I.stack, I.stkFree, I.hok, I.bare⟩
theorem Inv.after {Q : VK} {u : Value} (I : Inv X pins σ H s) (h : CE X.stack X.prog X.w H s Q u s') : EP X pins σ Q u s' := by
  refine yWWPPPPP h fun v H' os bare un hok r q => ?_; try clear h
  obtain ⟨hh, g, d, t, os'⟩ := s'
  obtain rfl : os' = s.os := os
  exact (xWWPP v H' (I.call (h' := hh) (g' := g) (d' := d) (t' := t) (ch := []) un hok bare (fun b z => absurd z (by simp))) r q)
end

def tCall (sp : Sp) (dvs : List V) (E : XK) (t : TA) : TE := fun σ H Q => t σ H fun vs H1 => sp (vs ++ dvs) H1 Q E
def Binds (K : PySem.W.Frag) (fd : FuncData) (ps : List Str) (ds : List Value) : Prop :=
  ∀ (s : Shared) (us : List Value), K.In s.heap → (us ++ ds).length = ps.length → BindsTo s fd ⟨us, []⟩ (ps.zip (us ++ ds))
theorem Binds.all {K : PySem.W.Frag} {fd : FuncData} {ps : List Str} (h : ∀ us : List Value, us.length = ps.length → bindArgs fd ⟨us, []⟩ = pure (ps.zip us)) : Binds K fd ps [] := fun s us _ hl => by
  rw [List.append_nil] at hl ⊢
  exact .of_eq (h us hl)

def Passes (CX : CXT) (X : Cx) (E : XK) : Prop := ∀ (pins : List (Addr × Obj)) (σ : St) (H : Hp) (s : Shared) (e : Value) (s' : Shared), Inv X pins σ H s → CX X.stack H s E e s' → X.xe e s'

section
variable {X : Cx} {CX : CXT} {k : Nat} {f C : Addr} {fd : FuncData} {ps : List Str} {sp : Sp} {dvs : List V} {ds : List Value} {E : XK} {x m : Str} {p pos apos : Pos} {e o : Expr} {es : List Expr} {ta : TE} {t : TA}

theorem run_fn {pins : List (Addr × Obj)} {σ : St} {H : Hp} {s : Shared} {Q : VK} {us : List Value} {vs : List V} (F : FnOk X.prog X.w X.K X.mg X.base CX k f fd ps sp) (hr : Room k X.A) (hb : Binds X.K fd ps ds) (hd : Vals dvs ds) (hx : Passes CX X E)
    (I : Inv X pins σ H s) (r : Vals vs us) (h : sp (vs ++ dvs) H Q E) : wpAny (model X.prog X.w) X.A (call (.ref f) us) (EP X pins σ Q) X.xe s := by
  have r2 : Vals (vs ++ dvs) (us ++ ds) := r.append hd
  have hl : (us ++ ds).length = ps.length := by rw [← r2.length]; exact F.len _ _ _ _ h
  refine wpAny_call (codeAny_mono (F.run X.A X.stack s H ⟨us, []⟩ (us ++ ds) (vs ++ dvs) Q E hr I.env0 (hb s us I.kIn hl) r2 h) fun r s' hq => ?_)
  cases r with
  | error e => exact hx pins σ H s e s' I hq
  | ok fl =>
    cases fl with
    | ret u => exact I.after hq
    | next => exact False.elim hq
    | brk => exact False.elim hq
    | cont => exact False.elim hq

theorem pe_call (F : FnOk X.prog X.w X.K X.mg X.base CX k f fd ps sp) (hr : Room k X.A) (hg : Gl X x) (hm : X.mg x = some (.ref f)) (hk : PySem.W.keepIn X.K (.ref f) = true) (hb : Binds X.K fd ps ds) (hd : Vals dvs ds) (hx : Passes CX X E)
    (ha : PA X (e :: es) t) (hdb : (x == ("__debug__" : Str)) = false := by decide) (he : starEach (e :: es) X.env = (false, eval e X.env) :: starEach es X.env := by rfl) (hpl : (backTo pos (starEach es X.env)).any (·.1) = false := by rfl) :
    PE X (.Call (.Name x p) (e :: es) [] pos) (tCall sp dvs E t) := by
  intro pins s σ H Q I h
  refine wpAny_Call_Name_kw (ld_glob I hg hm ?_ hdb)
  refine PySem.W.callWith_K (h₀ := X.base) I.ok.mod.kin hk (thn (ha pos pins s σ H _ I h) fun us s1 ⟨vs, H1, I1, r, q⟩ => ⟨I1.kIn, ?_⟩) he hpl
  exact run_fn F hr hb hd hx I1 r q
end

section
variable {X : Cx} {CX : CXT} {k : Nat} {f C : Addr} {fd : FuncData} {ps ks : List Str} {sp : Sp} {E : XK} {x m : Str} {p pos apos kpos : Pos} {e o : Expr} {es : List Expr} {kws : List Keyword} {te ta : TE} {t tk : TA} {nm : Option Str}
variable {g : List Value → List Value → List Value} {gV : List V → List V → List V}
end

structure FnScope (N P : List Str) (sc : Scope) : Prop where
  kind : sc.kind = .function
  co : sc.isCoroutine = false
  gen : sc.isGenerator = false
  nd : N.Nodup
  pre : N.take P.length = P
  par : ∀ x ∈ P, sc.names.lookup x = some .local ∨ sc.names.lookup x = some .cell
  nofree : ∀ y ∈ sc.names, y.2 ≠ .free

theorem bindL_out {kindOf : Str → Option NameKind} {x : Str} : ∀ {binds : List (Str × Value)} {m : Str → Option Value}, (∀ v, (x, v) ∉ binds) → bindL kindOf binds m x = m x
  | [], _, _ => rfl
  | (n, v) :: r, m, h => by
    unfold bindL
    rw [bindL_out fun w hw => h w (List.mem_cons_of_mem _ hw)]
    split
    · have : x ≠ n := by rintro rfl; exact h v List.mem_cons_self
      simp [this]
    · rfl
theorem bindC_out {kindOf : Str → Option NameKind} {x : Str} : ∀ {binds : List (Str × Value)} {m : Str → Option Value}, (∀ v, (x, v) ∉ binds) → bindC kindOf binds m x = m x
  | [], _, _ => rfl
  | (n, v) :: r, m, h => by
    unfold bindC
    rw [bindC_out fun w hw => h w (List.mem_cons_of_mem _ hw)]
    split
    · rfl
    · have : x ≠ n := by rintro rfl; exact h v List.mem_cons_self
      simp [this]
theorem bindL_get {kindOf : Str → Option NameKind} {x : Str} {v : Value} : ∀ {P : List Str} {vs : List Value} {i : Nat} {m : Str → Option Value}, P.Nodup → P[i]? = some x → vs[i]? = some v → kindOf x = some .local →
    bindL kindOf (P.zip vs) m x = some v
  | [], _, _, _, _, h, _, _ => by simp at h
  | _ :: _, [], _, _, _, _, h, _ => by simp at h
  | p :: P, w :: vs, 0, m, nd, h1, h2, hk => by
    simp at h1 h2; subst h1; subst h2
    show bindL kindOf ((p, w) :: P.zip vs) m p = _
    unfold bindL
    rw [bindL_out fun v hv => (List.nodup_cons.mp nd).1 (List.of_mem_zip hv).1, if_pos hk]
    simp
  | p :: P, w :: vs, i + 1, m, nd, h1, h2, hk => by
    show bindL kindOf ((p, w) :: P.zip vs) m x = _
    unfold bindL
    exact bindL_get (i := i) (List.nodup_cons.mp nd).2 (by simpa using h1) (by simpa using h2) hk
theorem bindC_get {kindOf : Str → Option NameKind} {x : Str} {v : Value} : ∀ {P : List Str} {vs : List Value} {i : Nat} {m : Str → Option Value}, P.Nodup → P[i]? = some x → vs[i]? = some v → kindOf x ≠ some .local →
    bindC kindOf (P.zip vs) m x = some v
  | [], _, _, _, _, h, _, _ => by simp at h
  | _ :: _, [], _, _, _, _, h, _ => by simp at h
  | p :: P, w :: vs, 0, m, nd, h1, h2, hk => by
    simp at h1 h2; subst h1; subst h2
    show bindC kindOf ((p, w) :: P.zip vs) m p = _
    unfold bindC
    rw [bindC_out fun v hv => (List.nodup_cons.mp nd).1 (List.of_mem_zip hv).1, if_neg hk]
    simp
  | p :: P, w :: vs, i + 1, m, nd, h1, h2, hk => by
    show bindC kindOf ((p, w) :: P.zip vs) m x = _
    unfold bindC
    exact bindC_get (i := i) (List.nodup_cons.mp nd).2 (by simpa using h1) (by simpa using h2) hk

def start (N : List Str) (vs : List V) : St := vs.map some ++ List.replicate (N.length - vs.length) none

def cxOf (CX : CXT) (P : Program) (w : World) (K : PySem.W.Frag) (mg : Str → Option Value) (base : Heap) (N : List Str) (qual : Str) (scope : Scope) (f : Addr) (cd : Value) (A : Around) (outer : List Env) (s : Shared) (H : Hp) (E : XK) : Cx where
  prog := P
  w := w
  K := K
  mg := mg
  base := base
  A := A.deeper (envOfC qual scope s.heap.objs.size f cd)
  N := N
  s₀ := s
  H₀ := H
  env := envOfC qual scope s.heap.objs.size f cd
  outer := outer
  stack := envOfC qual scope s.heap.objs.size f cd :: outer
  ex := []
  calm := true
  fn := fun _ => true
  pn := []
  xe := fun e s' => wpAny (model P w) (A.deeper (envOfC qual scope s.heap.objs.size f cd)) (leaving (envOfC qual scope s.heap.objs.size f cd) e) (fun _ s'' => CX outer H s E e s'') (fun e' s'' => CX outer H s E e' s'') s'

theorem cell_has {sc : Scope} {n : Nat} {x : Str} (h : sc.names.lookup x = some .cell) : ∃ c, (cellsFrom n sc.names []).lookup x = some c := by
  have q := PySem.W.cellsFrom_some sc.names n [] (.inl h)
  exact Option.isSome_iff_exists.mp q

theorem inv_start {CX : CXT} {P : Program} {w : World} {K : PySem.W.Frag} {mg : Str → Option Value} {base : Heap} {N ps : List Str} {qual : Str} {scope : Scope} {f : Addr} {cd : Value} {A : Around} {outer : List Env} {s s1 : Shared} {H : Hp} {E : XK} {us : List Value} {vs : List V}
    (S : FnScope N ps scope) (hd : A.handled = none) (e0 : Env0 P w K mg base A outer s H) (hl : vs.length = ps.length) (r : Vals vs us)
    (x : InCallC s s.heap.objs.size (bindL (envOfC qual scope s.heap.objs.size f cd).kindOf (ps.zip us) fun _ => none) (cellsFrom (s.heap.objs.size + 1) scope.names []) (bindC (envOfC qual scope s.heap.objs.size f cd).kindOf (ps.zip us) fun _ => none) s1) :
    Inv (cxOf CX P w K mg base N qual scope f cd A outer s H E) [] (start N vs) H s1 := by
  have hpl : ps.length ≤ N.length := by have := congrArg List.length S.pre; rw [List.length_take] at this; (first | exact AR.n22d this AR.m27 | omega)
  refine yWWP x.done fun h1 tk ye95_2 hk => ?_; subst ye95_2
  have noA : ∀ b : Addr, b ∉ (cxOf CX P w K mg base N qual scope f cd A outer s H E).ex := fun b z => absurd (show b ∈ ([] : List Addr) from z) (by simp)
  refine ⟨⟨e0.mod, S.kind, rfl, rfl, Nat.le_refl _, fun y z c h1 h2 => ?_, fun y hy => ?_, fun y c _ h => ?_, fun _ => hd, Around.frames_deeper e0.frames, .inr ⟨rfl, rfl⟩, fun b z => absurd z (noA b), e0.bs, e0.bsz, fun b _ _ => noA b, fun b z => absurd z (noA b), e0.funs, e0.frf⟩,
    rfl, e0.bare, Un.kept hk, (xWP _ x.toInCall.ns (fun i y v h1 h2 h3 => ?_)), fun y c h => ⟨_, x.cell y c h⟩, e0.hok.fresh (Nat.le_refl _), fun y c h => ?_, fun p hp => absurd (show p ∈ ([] : List (Addr × Obj)) from hp) (by simp), e0.hok.kept hk, ?_⟩
  · exact name_of_addr x.apart (PySem.mem_of_lookup h1) (PySem.mem_of_lookup h2)
  · have hy : scope.names.lookup y = some .cell ∨ scope.names.lookup y = some .free := hy
    rcases hy with hy | hy
    · exact cell_has hy
    · exact absurd rfl (S.nofree _ (PySem.mem_of_lookup hy))
  · exact Nat.le_of_lt (x.above y c (PySem.mem_of_lookup h))
  · have hi : i < vs.length := by
      unfold start at h2
      by_cases hi : i < vs.length
      · exact hi
      · rw [List.getElem?_append_right (by simpa using hi)] at h2
        rw [List.getElem?_replicate] at h2
        split at h2 <;> cases h2
    have ha : vs[i]? = some v := by
      unfold start at h2
      rw [List.getElem?_append_left (by simpa using hi), List.getElem?_map] at h2
      cases e : vs[i]? with
      | none => rw [e] at h2; cases h2
      | some a => rw [e] at h2; cases h2; rfl
    refine yWP (r.get ha) fun u hu rv => ?_
    have hp : ps[i]? = some y := by
      rw [← S.pre, List.getElem?_take_of_lt (by exact AR.n22e hl hi)]; exact h1
    have ndP : ps.Nodup := by rw [← S.pre]; exact S.nd.sublist (List.take_sublist _ _)
    refine (xWP u rv ?_)
    rcases S.par y (List.mem_of_getElem? hp) with k | k
    · exact .inl ⟨k, bindL_get ndP hp hu k⟩
    · obtain ⟨c, e⟩ := cell_has (n := s.heap.objs.size + 1) k
      refine .inr (xPWP (.inl k) c e ?_)
      have q := x.cell y c e
      rw [bindC_get ndP hp hu (by show scope.names.lookup y ≠ _; rw [k]; decide)] at q
      exact q
  · exact e0.hok.fresh (Nat.le_of_lt (x.above y c (PySem.mem_of_lookup h)))
  · unfold start
    show _ = N.length
    rw [List.length_append, List.length_map, List.length_replicate]
    first | exact AR.m5 (AR.n22b hl hpl) | omega

theorem fn_of {CX : CXT} {P : Program} {w : World} {K : PySem.W.Frag} {mg : Str → Option Value} {base : Heap} {k : Nat} {f : Addr} {name qual : Str} {params : Arguments} {body : List Stmt} {scope : Scope} {dV kV doc pm cdv ct oc : Value} {an od : Option Addr}
    {osl : Array (Option Value)} {N ps : List Str} {sp : Sp} (lk : K.lookup f = some ⟨oc, od, .func (PySem.W.fnOf name qual params body scope dV kV doc pm an cdv ct), osl⟩) (hcd : PySem.W.codeIn K cdv qual = true) (S : FnScope N ps scope)
    (len : ∀ vs H Q E, sp vs H Q E → vs.length = ps.length)
    (hbody : ∀ (A : Around) (outer : List Env) (s : Shared) (H : Hp) (vs : List V) (Q : VK) (E : XK), Room k (A.deeper (envOfC qual scope s.heap.objs.size f cdv)) → sp vs H Q E →
      ∃ t, PSs (cxOf CX P w K mg base N qual scope f cdv A outer s H E) body t ∧ t { nx := fun _ H' => Q .non H', rt := Q } (start N vs) H) :
    FnOk P w K mg base CX (k + 1) f (PySem.W.fnOf name qual params body scope dV kV doc pm an cdv ct) ps sp := by
  refine ⟨len, fun A outer s H args us vs Q E hr e0 hb r hsp => ?_⟩
  have hl := len _ _ _ _ hsp
  have KX : K.In s.heap := e0.mod.kin.keeps fun b o e => (e0.bs b o e).1
  have lim : s.heap.NoLimit := e0.mod.nolimit.keeps fun b o e => (e0.bs b o e).1
  have hkind : ∀ y ∈ ps.zip us, scope.names.lookup y.1 = some .local ∨ (scope.names.lookup y.1 = some .cell ∧ ((cellsFrom (s.heap.objs.size + 1) scope.names []).lookup y.1).isSome = true) := fun ⟨n, v⟩ hy => by
    rcases S.par n (List.of_mem_zip hy).1 with q | q
    · exact .inl q
    · exact .inr ⟨q, PySem.W.cellsFrom_some _ _ _ (.inl q)⟩
  refine codeAny_call_function hr.depth (KX _ _ lk) rfl S.co S.gen rfl (PySem.W.codeRec_of KX hcd) (hb _ _ _ _ ?_)
  refine wpAny_newFunctionEnv_cells S.kind hkind fun env he s1 x => ?_
  subst he
  refine ⟨lim.keeps x.toInCall.keep, codeAny_func ?_⟩
  refine yWP (hbody A outer s H vs Q E (hr.deeper _) hsp) fun t ht hq => ?_
  have I : Inv (cxOf CX P w K mg base N qual scope f cdv A outer s H E) [] (start N vs) H s1 := inv_start S hr.hd e0 hl r x
  refine wpAny_mono (ht [] s1 (start N vs) H _ I hq) (fun fl s' hs => ?_) fun e s' hs => hs
  have fin : ∀ {σ' : St} {H' : Hp} {v : V} {u : Value}, Inv (cxOf CX P w K mg base N qual scope f cdv A outer s H E) [] σ' H' s' → RelV v u → Q v H' → CE outer P w H s Q u s' :=
    fun {σ' H' v u} J rv q => (xWWPPPPP v H' J.os J.bare J.base J.hok rv q)
  cases fl with
  | ret u =>
    refine yWWWPP hs fun v σ' H' J rv q => ?_; try clear hs
    exact fin J rv q
  | next =>
    refine yWWP hs fun σ' H' J q => ?_; try clear hs
    exact fin (v := V.non) (u := Value.none) J rfl q
  | brk =>
    refine yWWP hs fun _ _ _ q => ?_; try clear hs
    exact False.elim q
  | cont =>
    refine yWWP hs fun _ _ _ q => ?_; try clear hs
    exact False.elim q
end L2

namespace L2
open PySem PySem.Spec PyProof.Rows
section
variable {X : Cx} {x : Str} {p pos : Pos} {e : Expr} {es : List Expr} {t : TA} {id T : String} {r : List V → Hp → VK → Prop}

def tCB (r : List V → Hp → VK → Prop) (t : TA) : TE := fun σ H Q => t σ H fun vs H1 => r vs H1 Q
theorem pe_callB (hc : CallR X (.builtin id) r) (hg : Gl X x) (hm : X.mg x = none) (hv : bootBuiltins x = some (.builtin id)) (ha : PA X (e :: es) t) (hn : x ≠ "__name__" := by decide) (hdb : (x == ("__debug__" : Str)) = false := by decide)
    (he : starEach (e :: es) X.env = (false, eval e X.env) :: starEach es X.env := by rfl) (hpl : (backTo pos (starEach es X.env)).any (·.1) = false := by rfl) : PE X (.Call (.Name x p) (e :: es) [] pos) (tCB r t) := by
  intro pins s σ H Q I h
  refine wpAny_Call_Name_kw (ld_blt I hg hm hv ?_ hn hdb)
  exact PyProof.Rows.callWith_builtin1 (thn (ha pos pins s σ H _ I h) fun us s1 ⟨vs, H1, I1, r1, q1⟩ => hc pins s1 σ H1 vs us Q I1 r1 q1) he hpl
theorem pe_callTy (hc : CallR X (.type T) r) (hg : Gl X x) (hm : X.mg x = none) (hv : bootBuiltins x = some (.type T)) (ha : PA X (e :: es) t) (hn : x ≠ "__name__" := by decide) (hdb : (x == ("__debug__" : Str)) = false := by decide)
    (he : starEach (e :: es) X.env = (false, eval e X.env) :: starEach es X.env := by rfl) (hpl : (backTo pos (starEach es X.env)).any (·.1) = false := by rfl) : PE X (.Call (.Name x p) (e :: es) [] pos) (tCB r t) := by
  intro pins s σ H Q I h
  refine wpAny_Call_Name_kw (ld_blt I hg hm hv ?_ hn hdb)
  exact PyProof.Rows.callWith_type1 (thn (ha pos pins s σ H _ I h) fun us s1 ⟨vs, H1, I1, r1, q1⟩ => hc pins s1 σ H1 vs us Q I1 r1 q1) he hpl
end
end L2

namespace HT
open PySem PyProof.Rows

section
open PySem.SeqAt
open PySem.AutoSeq1 (wpAny_loadPart')
open PySem.MeetsSeq PySem.MeetsSeq2 PySem.MeetsSeq3

end

section
variable {prog : Program} {w : World} {A : Around} {E : Value → Shared → Prop} {s : Shared}

def sIx (n d : Nat) : Option Int → Nat
  | none => d
  | some v => if v < 0 then (v + (n : Int)).toNat else min v.toNat n
theorem sIx_none (n d : Nat) : sIx n d none = d := rfl
theorem sIx_nat (n d k : Nat) : sIx n d (some (k : Int)) = min k n := by
  show (if (k : Int) < 0 then ((k : Int) + (n : Int)).toNat else min (k : Int).toNat n) = min k n
  rw [if_neg (by omega), Int.toNat_natCast]
end
end HT

namespace L2
open PySem PySem.Spec PyProof.Rows

abbrev TO := St → Hp → (Option Int → Hp → Prop) → Prop
def PO (X : Cx) (e : Option Expr) (t : TO) : Prop :=
  ∀ (pins : List (Addr × Obj)) (s : Shared) (σ : St) (H : Hp) (Q : Option Int → Hp → Prop), Inv X pins σ H s → t σ H Q →
    wpAny (model X.prog X.w) X.A (evalPart e X.env) (fun u s' => ∃ o H', Inv X pins σ H' s' ∧ IsPart u o ∧ Q o H') X.xe s
def tNoPart : TO := fun _ H Q => Q none H
def tPart (t : TE) : TO := fun σ H Q => t σ H fun x H1 => ∃ i, x = .int i ∧ Q (some i) H1

theorem intsAre_of {ns : List Int} : ∀ {us : List Value}, Vals (ns.map V.int) us → IntsAre us ns := by
  induction ns with
  | nil => intro us r; rw [List.map_nil] at r; cases r; exact .nil
  | cons n ns ih =>
    intro us r
    rw [List.map_cons] at r
    cases r with
    | cons r1 r2 =>
      obtain ⟨t, e⟩ := r1
      subst e
      exact .cons n t (ih r2)

section
variable {X : Cx} {e : Expr} {te : TE} {lo hi : Option Expr} {tl th : TO} {pos p2 : Pos}

theorem po_none : PO X none tNoPart := by
  intro pins s σ H Q I h
  rw [evalPart_none]
  exact wpAny_pure (xWWPP none H I .none h)
theorem po_some (h : PE X e te) : PO X (some e) (tPart te) := by
  intro pins s σ H Q I hw
  rw [evalPart_some]
  refine thn (h pins s σ H _ I hw) fun u s1 ⟨x, H1, I1, r1, q1⟩ => ?_
  refine yWP q1 fun i ye102_1 q => ?_; try clear q1; subst ye102_1
  obtain ⟨t, rfl⟩ := r1
  exact (xWWPP (some i) H1 I1 (.int i t) q)

def SlR (X : Cx) (r : V → Option Int → Option Int → Hp → VK → Prop) : Prop :=
  ∀ (pins : List (Addr × Obj)) (s : Shared) (σ : St) (H : Hp) (x : V) (v vl vu : Value) (lo hi : Option Int) (sl : Addr) (Q : VK), Inv X pins σ H s → RelV x v → s.heap.IsSliceOf sl vl vu .none → IsPart vl lo → IsPart vu hi → r x lo hi H Q →
    ∃ T id, typeLookup (.type T) "__getitem__" = pure (some (.builtin id)) ∧ s.TypeIs v T ∧ wpAny (model X.prog X.w) X.A (getItem v (.ref sl)) (EP X pins σ Q) X.xe s
def tSl (r : V → Option Int → Option Int → Hp → VK → Prop) (te : TE) (tl th : TO) : TE := fun σ H Q => te σ H fun x H1 => tl σ H1 fun l H2 => th σ H2 fun u H3 => r x l u H3 Q
theorem pe_slice {r : V → Option Int → Option Int → Hp → VK → Prop} (hr : SlR X r) (he : PE X e te) (hl : PO X lo tl) (hu : PO X hi th) : PE X (.Subscript e (.Slice lo hi none p2) pos) (tSl r te tl th) := by
  intro pins s σ H Q I h
  refine Subscript_ (thn (he pins s σ H _ I h) fun v s1 ⟨x, H1, I1, r1, q1⟩ => ?_)
  refine wpAny_Slice (thn (hl pins s1 σ H1 _ I1 q1) fun vl s2 ⟨l, H2, I2, pl, q2⟩ => thn (hu pins s2 σ H2 _ I2 q2) fun vu s3 ⟨u, H3, I3, pu, q3⟩ => ?_)
  rw [evalPart_none]
  refine wpAny_pure ?_
  have I4 : Inv X pins σ H3 { s3 with heap := s3.heap.push { cls := .type "slice", data := .fields #[vl, vu, .none] } } := I3.kept (t' := s3.toks) fun b ob q => Heap.get?_push_of_some _ q
  refine yWWPP (hr pins { s3 with heap := s3.heap.push { cls := .type "slice", data := .fields #[vl, vu, .none] } } σ H3 x v vl vu l u s3.heap.objs.size Q I4 r1 (Heap.IsSliceOf.new ..) pl pu q3) fun T id hT ht hg => ?_
  show wpAny (model X.prog X.w) X.A (subscriptTail e (.Slice lo hi none p2) v (.ref s3.heap.objs.size)) (EP X pins σ Q) X.xe { s3 with heap := s3.heap.push { cls := .type "slice", data := .fields #[vl, vu, .none] } }
  exact tail_any (ops := [.ref s3.heap.objs.size, v]) ht hT hg (by with_unfolding_all rfl)

def cutV (xs : List V) (lo hi : Option Int) : List V := (xs.drop (HT.sIx xs.length 0 lo)).take (HT.sIx xs.length xs.length hi - HT.sIx xs.length 0 lo)
theorem cutV_length (xs : List V) (lo hi : Option Int) : (cutV xs lo hi).length ≤ xs.length := by
  unfold cutV
  rw [List.length_take, List.length_drop]
  exact Nat.le_trans (Nat.min_le_right _ _) (Nat.sub_le _ _)
end
end L2

namespace L2
open PySem PySem.Spec PyProof.Rows

def ixN (n : Nat) (i : Int) : Option Nat := if 0 ≤ i then (if i < n then some i.toNat else none) else if -(n : Int) ≤ i then some (i + n).toNat else none
def atI {α : Type} (xs : List α) (i : Int) : Option α := (ixN xs.length i).bind fun j => xs[j]?
theorem ixN_seq {n : Nat} {i : Int} {j : Nat} (h : ixN n i = some j) : seqIndex? i n = some j ∧ j < n ∧ -(n : Int) ≤ i ∧ i < n := by
  unfold ixN at h
  by_cases h0 : 0 ≤ i
  · rw [if_pos h0] at h
    by_cases h1 : i < n
    · rw [if_pos h1] at h
      have e : i.toNat = j := Option.some.inj h
      exact (xPPP (by rw [seqIndex_of h0 h1, e]) (by first | exact AR.n22c e (AR.j21 h0 h1) | omega) (by (clear h1 e; omega)) h1)
    · rw [if_neg h1] at h; cases h
  · rw [if_neg h0] at h
    by_cases h1 : -(n : Int) ≤ i
    · rw [if_pos h1] at h
      have e : (i + n).toNat = j := Option.some.inj h
      exact (xPPP (by rw [seqIndex_neg (by exact AR.i7 h0) h1, e]) (by omega) h1 (by (clear e; omega)))
    · rw [if_neg h1] at h; cases h
theorem atI_get {α : Type} {xs : List α} {i : Int} {v : α} (h : atI xs i = some v) : ∃ j, seqIndex? i xs.length = some j ∧ xs[j]? = some v ∧ j < xs.length ∧ -(xs.length : Int) ≤ i ∧ i < xs.length := by
  unfold atI at h
  cases e : ixN xs.length i with
  | none => rw [e] at h; cases h
  | some j =>
    rw [e] at h
    refine yPPP (ixN_seq e) fun h1 h2 h3 h4 => ?_
    exact (xWPPPP j h1 h h2 h3 h4)
theorem atI_nat {α : Type} {xs : List α} {j : Nat} {v : α} (h : xs[j]? = some v) : atI xs (j : Int) = some v := by
  have hj : j < xs.length := (List.getElem?_eq_some_iff.mp h).1
  have e : ixN xs.length (j : Int) = some j := by
    unfold ixN
    rw [if_pos (by (first | exact AR.j11 | omega)), if_pos (by first | exact AR.j12 hj | omega)]; simp
  unfold atI; rw [e]; exact h
def PlainIx (b : Expr) : Prop := ∀ o i, subscripted b false o i = operate [o, i] (getItem o i)
def IxR (X : Cx) (r : R2) : Prop :=
  ∀ (value slice : Expr) (pins : List (Addr × Obj)) (s : Shared) (σ : St) (H : Hp) (x y : V) (v u : Value) (Q : VK), Inv X pins σ H s → RelV x v → RelV y u → r x y H Q →
    subscripted slice false v u = operate [v, u] (getItem v u) → wpAny (model X.prog X.w) X.A (subscriptTail value slice v u) (EP X pins σ Q) X.xe s
def MtR (X : Cx) (id : String) (r : V → List V → Hp → VK → Prop) : Prop :=
  ∀ (pins : List (Addr × Obj)) (s : Shared) (σ : St) (H : Hp) (x : V) (xs : List V) (v : Value) (us : List Value) (Q : VK), Inv X pins σ H s → RelV x v → Vals xs us → r x xs H Q →
    wpAny (model X.prog X.w) X.A (call (.builtin id) (v :: us)) (EP X pins σ Q) X.xe s
section
variable {X : Cx} {a b : Expr} {ta tb : TE} {pos : Pos}
theorem IxR.or {r r' : R2} (h : IxR X r) (h' : IxR X r') : IxR X (fun x y H Q => r x y H Q ∨ r' x y H Q) := by
  intro value slice pins s σ H x y v u Q I rx ry q hs
  rcases q with q | q
  · exact h value slice pins s σ H x y v u Q I rx ry q hs
  · exact h' value slice pins s σ H x y v u Q I rx ry q hs
theorem pe_ix {r : R2} (hr : IxR X r) (ha : PE X a ta) (hb : PE X b tb) (hs : PlainIx b) : PE X (.Subscript a b pos) (tOp r ta tb) := by
  intro pins s σ H Q I h
  exact Subscript_ (binT ha hb I h fun v u s2 x y H2 I2 rx ry q => hr a b pins s2 σ H2 x y v u Q I2 rx ry q (hs _ _))

def rIxL (K : PySem.W.Frag) : R2 := fun x y H Q => ∃ p xs i v, x = .ref p ∧ y = .int i ∧ SqL K H p xs ∧ atI xs i = some v ∧ Q v H
def rIxT (K : PySem.W.Frag) : R2 := fun x y H Q => ∃ p xs i v, x = .ref p ∧ y = .int i ∧ SqT K H p xs ∧ atI xs i = some v ∧ Q v H
def rIxS : R2 := fun x y H Q => ∃ z i c, x = .str z ∧ y = .int i ∧ z.length ≤ sizeLine ∧ atI z.cps.toList i = some c ∧ Q (.str ⟨#[c]⟩) H
theorem ix_list : IxR X (rIxL X.K) := by
  intro value slice pins s σ H x y v u Q I rx ry h hs
  refine yWWWWPPPP h fun p xs i z ye105_4 ye105_5 hq he q => ?_; try clear h; subst ye105_4; subst ye105_5
  cases rx
  obtain ⟨t, rfl⟩ := ry
  refine yWPP (I.list hq) fun its r pl hz => ?_
  refine yWPPPP (atI_get he) fun j h1 h2 h3 h4 h5 => ?_
  refine yWP (r.get h2) fun w ew rw' => ?_
  have hl := r.length
  have hn := line63
  have fin : EP X pins σ Q w s := (xWWPP z H I rw' q)
  by_cases h0 : 0 ≤ i
  · have hj : i.toNat = j := by
      rw [seqIndex_of h0 h5] at h1
      exact Option.some.inj h1
    exact item_listR pl.isList h0 (by (clear h3 h4 h0 hj; omega)) (by rw [hj]; simpa using ew) fin hs
  · have hj : (i + (its.toArray.size : Int)).toNat = j := by
      rw [seqIndex_neg (by exact AR.i7 h0) h4] at h1
      rw [List.size_toArray, ← hl]
      exact Option.some.inj h1
    exact subscriptTail_builtinR (x := w) pl.isList.typeIs slot_list_getitem.lookup
      (wpAny_getItem_list_neg (Q := fun r s' => r = w ∧ EP X pins σ Q r s') pl.isList (by exact AR.i7 h0) (by rw [List.size_toArray] <;> (clear hz h3 h5 hn h0 hj; omega)) (by (clear h3 h5 h0 hj; omega)) (by rw [hj]; simpa using ew) ⟨rfl, fin⟩) hs
theorem ix_tup : IxR X (rIxT X.K) := by
  intro value slice pins s σ H x y v u Q I rx ry h hs
  refine yWWWWPPPP h fun p xs i z ye109_4 ye109_5 hq he q => ?_; try clear h; subst ye109_4; subst ye109_5
  cases rx
  obtain ⟨t, rfl⟩ := ry
  refine yWPP (I.tuple hq) fun its r pl hz => ?_
  refine yWPPPP (atI_get he) fun j h1 h2 h3 h4 h5 => ?_
  refine yWP (r.get h2) fun w ew rw' => ?_
  have hl := r.length
  have hn := line63
  have fin : EP X pins σ Q w s := (xWWPP z H I rw' q)
  exact subscriptTail_builtinR (x := w) pl.typeIs slot_tuple_getitem.lookup
    (getItem_tuple (j := j) (Q := fun r s' => r = w ∧ EP X pins σ Q r s') pl (by (clear h5; omega)) (by (clear h4; omega)) (by rw [List.size_toArray, ← hl]; exact h1) (by simpa using ew) ⟨rfl, fin⟩) hs
theorem ix_str : IxR X rIxS := by
  intro value slice pins s σ H x y v u Q I rx ry h hs
  refine yWWWPPPP h fun z i c ye113_3 ye113_4 hz he q => ?_; try clear h; subst ye113_3; subst ye113_4
  obtain ⟨t, rfl⟩ := rx
  obtain ⟨t', rfl⟩ := ry
  refine yWPPPP (atI_get he) fun j h1 h2 h3 h4 h5 => ?_
  have hl : z.cps.toList.length = z.length := by simp [Str.length]
  rw [hl] at h1 h4 h5
  have hn := line63
  exact tail_any (typeIs_str s z t) slot_str_getitem.lookup (getItem_str (c := c) (by
    have e1 : decide (i < -(2 ^ 63 : Int)) = false := decide_eq_false (by (clear h3 h5; omega))
    have e2 : decide (i ≥ 2 ^ 63) = false := decide_eq_false (by (clear h3 h4; omega))
    rw [e1, e2, Bool.or_false]) (by rw [h1]; simpa using h2) (xWWPP (.str ⟨#[c]⟩) H (I.tok _) ⟨_, rfl⟩ q)) hs
def rIx (K : PySem.W.Frag) : R2 := fun x y H Q => rIxL K x y H Q ∨ rIxT K x y H Q ∨ rIxS x y H Q
theorem ix_seq : IxR X (rIx X.K) := ix_list.or (ix_tup.or ix_str)

theorem mapSeq_set (its : List Value) (n j : Nat) (u : Value) : Obj.mapSeq (·.setIfInBounds j u) { cls := .type "list", data := .seq its.toArray n } = { cls := .type "list", data := .seq (its.set j u).toArray n } := by
  simp [Obj.mapSeq]
theorem Inv.lst {pins : List (Addr × Obj)} {σ : St} {H : Hp} {s : Shared} {p : Addr} {xs : List V} (I : Inv X pins σ H s) (h : H p = some (.lst xs)) :
    ∃ (its : List Value) (n : Nat), Vals xs its ∧ s.heap.get? p = some { cls := .type "list", data := .seq its.toArray n } ∧ xs.length ≤ sizeLine := by
  refine yPWWP (I.hok p _ h) fun z its n r e => ?_
  exact (xWWPP its n r e z)
theorem Inv.lstUpd {pins : List (Addr × Obj)} {σ : St} {H : Hp} {s : Shared} {p : Addr} {xs ys : List V} {its its' : List Value} {n n' : Nat} {f : Obj → Obj} (I : Inv X pins σ H s) (h : H p = some (.lst xs))
    (ho : s.heap.get? p = some { cls := .type "list", data := .seq its.toArray n }) (hf : f { cls := .type "list", data := .seq its.toArray n } = { cls := .type "list", data := .seq its'.toArray n' }) (r : Vals ys its') (hz : ys.length ≤ sizeLine) (t : Nat) :
    Inv X pins σ (upd H p (.lst ys)) { s with heap := s.heap.update p f, toks := t } := by
  have e : (s.heap.update p f).get? p = some { cls := .type "list", data := .seq its'.toArray n' } := by
    rw [Heap.get?_update_self f ho (by rw [hf] <;> rfl), hf]
  refine I.write (x := p) (e := p) (by rw [h]; trivial) (.inl rfl) (fun b u hb q => (Heap.get?_update_other _ _ (Ne.symm hb)).trans q) ⟨_, e⟩ ?_
  exact (xPWWP hz its' n' r e)
def rSetL : V → V → V → Hp → (Hp → Prop) → Prop := fun o i v H Q => ∃ p xs k j, o = .ref p ∧ i = .int k ∧ H p = some (.lst xs) ∧ ixN xs.length k = some j ∧ Q (upd H p (.lst (xs.set j v)))
theorem set_list : PSet X rSetL := by
  intro pins s σ H o i v ov iv u Q I ro ri rv h
  refine yWWWWPPPP h fun p xs k j ye116_4 ye116_5 hp hj q => ?_; try clear h; subst ye116_4; subst ye116_5
  cases ro
  obtain ⟨t, rfl⟩ := ri
  refine yWWPP (I.lst hp) fun its n r ho hz => ?_
  refine yPPP (ixN_seq hj) fun h1 h2 h3 h4 => ?_
  have hl := r.length
  have hn := line63
  have I' : Inv X pins σ (upd H p (.lst (xs.set j v))) { s with heap := s.heap.update p (Obj.mapSeq (·.setIfInBounds j u)) } :=
    I.lstUpd hp ho (mapSeq_set its n j u) (r.set rv j) (by rw [List.length_set]; exact hz) s.toks
  by_cases h0 : 0 ≤ k
  · have hk : k.toNat = j := by
      rw [seqIndex_of h0 h4] at h1
      exact Option.some.inj h1
    exact PySem.W.ki_setAt ho h0 (by (clear h2 h3 h0 hk; omega)) (by rw [List.size_toArray, ← hl]; exact h4) (by rw [hk]; exact (xWP _ I' q))
  · have hk : (k + (its.toArray.size : Int)).toNat = j := by
      rw [seqIndex_neg (by exact AR.i7 h0) h3] at h1
      rw [List.size_toArray, ← hl]
      exact Option.some.inj h1
    exact PySem.W.ki_setBack ho (by exact AR.i7 h0) (by rw [List.size_toArray, ← hl]; exact h3) (by (clear h2 h4 h0 hk; omega)) (by rw [hk]; exact (xWP _ I' q))

theorem slice_bounds (lo hi : Option Int) (n : Nat) : (sliceBounds lo hi none n).1 = ((HT.sIx n 0 lo : Nat) : Int) ∧ (sliceBounds lo hi none n).2.1 = ((HT.sIx n n hi : Nat) : Int) ∧ (sliceBounds lo hi none n).2.2 = 1 := by
  refine (xPP ?_ ?_ rfl)
  · cases lo with
    | none => simp [sliceBounds, HT.sIx]
    | some i =>
      simp only [sliceBounds, HT.sIx, Option.getD_none, show (1 : Int) > 0 by decide, if_true]
      by_cases h : i < 0
      · simp only [h, if_true] <;> first | exact AR.g52 h | omega
      · simp only [h, if_false] <;> first | exact AR.g53 h | omega
  · cases hi with
    | none => simp [sliceBounds, HT.sIx]
    | some i =>
      simp only [sliceBounds, HT.sIx, Option.getD_none, show (1 : Int) > 0 by decide, if_true]
      by_cases h : i < 0
      · simp only [h, if_true] <;> first | exact AR.g52 h | omega
      · simp only [h, if_false] <;> first | exact AR.g53 h | omega
theorem slicePick_cut (its : List Value) (lo hi : Option Int) : slicePick its.toArray lo hi none = ((its.drop (HT.sIx its.length 0 lo)).take (HT.sIx its.length its.length hi - HT.sIx its.length 0 lo)).toArray := by
  refine yPP (slice_bounds lo hi its.toArray.size) fun h1 h2 h3 => ?_
  unfold slicePick
  rw [h1, h2, h3]
  simp only [sliceRange_one, pick_run, List.size_toArray] <;> rfl
def rSlL (K : PySem.W.Frag) : V → Option Int → Option Int → Hp → VK → Prop := fun x lo hi H Q => ∃ a xs, x = .ref a ∧ SqL K H a xs ∧ ∀ p, H p = none → Q (.ref p) (upd H p (.lst (cutV xs lo hi)))
theorem sl_list : SlR X (rSlL X.K) := by
  intro pins s σ H x v vl vu lo hi sl Q I rx hs pl pu h
  refine yWWPP h fun a xs ye120_2 hx q => ?_; try clear h; subst ye120_2
  cases rx
  refine yWPP (I.list hx) fun its r ht hz => ?_
  have hlen := r.length
  refine (xWWPP ("list") _ slot_list_getitem.lookup ht.isList.typeIs ?_)
  refine wpAny_getItem_list_slice ht.isList hs pl pu .none (by simp) ?_ (by rw [List.size_toArray] <;> exact AR.n22d hlen hz)
  rw [slicePick_cut, ← hlen]
  refine (xWWPP (.ref s.heap.objs.size) _ (I.laid (t' := s.toks) (o := .lst (cutV xs lo hi)) (fun b ob q => Heap.get?_push_of_some _ q) (Nat.le_refl _) ?_) rfl (q _ (I.hok.fresh (Nat.le_refl _))))
  exact (xPWWP (Nat.le_trans (cutV_length xs lo hi) hz) _ 0 ((r.drop (HT.sIx xs.length 0 lo)).take (HT.sIx xs.length xs.length hi - HT.sIx xs.length 0 lo)) (Heap.get?_push_size _ rfl))

def flatV : V → Bool
  | .non => true
  | .bl _ => true
  | .int _ => true
  | .str _ => true
  | _ => false
def eqV : V → V → Bool
  | .non, .non => true
  | .bl a, .bl b => a == b
  | .bl a, .int b => (if a then 1 else 0) == b
  | .int a, .bl b => a == (if b then 1 else 0)
  | .int a, .int b => a == b
  | .str a, .str b => a == b
  | _, _ => false
theorem eqAt_V {A : Around} {s : Shared} {y x : V} {u v : Value} (ry : RelV y u) (rx : RelV x v) (fy : flatV y = true) (fx : flatV x = true) : SeqAt.EqAt A s u v (eqV y x) := by
  cases y with
  | non =>
    cases ry
    cases x with
    | non => cases rx; exact SeqAt.EqAt.same _
    | bl b => cases rx; exact SeqAt.EqAt.none_bool b
    | int b => obtain ⟨t, rfl⟩ := rx; exact SeqAt.EqAt.none_int b t
    | str b => obtain ⟨t, rfl⟩ := rx; exact SeqAt.EqAt.none_str b t
    | _ => exact absurd (show false = true from fx) Bool.false_ne_true
  | bl a =>
    cases ry
    cases x with
    | non => cases rx; exact SeqAt.EqAt.bool_none a
    | bl b => cases rx; exact SeqAt.EqAt.bool_bool a b
    | int b => obtain ⟨t, rfl⟩ := rx; exact SeqAt.EqAt.bool_int a b t
    | str b => obtain ⟨t, rfl⟩ := rx; exact SeqAt.EqAt.bool_str a b t
    | _ => exact absurd (show false = true from fx) Bool.false_ne_true
  | int a =>
    obtain ⟨t', rfl⟩ := ry
    cases x with
    | non => cases rx; exact SeqAt.EqAt.int_none a t'
    | bl b => cases rx; exact SeqAt.EqAt.int_bool a t' b
    | int b => obtain ⟨t, rfl⟩ := rx; exact SeqAt.EqAt.int_int a t' b t
    | str b => obtain ⟨t, rfl⟩ := rx; exact SeqAt.EqAt.int_str a t' b t
    | _ => exact absurd (show false = true from fx) Bool.false_ne_true
  | str a =>
    obtain ⟨t', rfl⟩ := ry
    cases x with
    | non => cases rx; exact SeqAt.EqAt.str_none a t'
    | bl b => cases rx; exact SeqAt.EqAt.str_bool a t' b
    | int b => obtain ⟨t, rfl⟩ := rx; exact SeqAt.EqAt.str_int a t' b t
    | str b => obtain ⟨t, rfl⟩ := rx; exact SeqAt.EqAt.str_str a t' b t
    | _ => exact absurd (show false = true from fx) Bool.false_ne_true
  | _ => exact absurd (show false = true from fy) Bool.false_ne_true
def eqU (x : V) (u : Value) : Bool := match u with
  | .none => eqV .non x
  | .bool b => eqV (.bl b) x
  | .int i _ => eqV (.int i) x
  | .str z _ => eqV (.str z) x
  | _ => false
theorem eqU_of {x y : V} {u : Value} (r : RelV y u) (f : flatV y = true) : eqU x u = eqV y x := by
  cases y with
  | non => cases r; rfl
  | bl b => cases r; rfl
  | int i => obtain ⟨t, rfl⟩ := r; rfl
  | str z => obtain ⟨t, rfl⟩ := r; rfl
  | _ => exact absurd (show false = true from f) Bool.false_ne_true
theorem any_eqU {x : V} : ∀ {xs : List V} {us : List Value}, Vals xs us → xs.all flatV = true → us.any (eqU x) = xs.any fun y => eqV y x
  | _, _, .nil, _ => rfl
  | y :: xs, u :: us, .cons r t, f => by
    rw [List.all_cons, Bool.and_eq_true] at f
    rw [List.any_cons, List.any_cons, eqU_of r f.1, any_eqU t f.2]
theorem mem_eqAt {A : Around} {s : Shared} {x : V} {v : Value} (rx : RelV x v) (fx : flatV x = true) : ∀ {xs : List V} {us : List Value}, Vals xs us → xs.all flatV = true → ∀ u ∈ us, SeqAt.EqAt A s u v (eqU x u)
  | _, _, .nil, _ => fun u hu => by cases hu
  | y :: xs, u :: us, .cons r t, f => fun u' hu => by
    rw [List.all_cons, Bool.and_eq_true] at f
    rcases List.mem_cons.mp hu with rfl | hu
    · rw [eqU_of r f.1]; exact eqAt_V r rx f.1 fx
    · exact mem_eqAt rx fx t f.2 u' hu
def inV (x : V) (xs : List V) : Bool := xs.any fun y => eqV y x
def rIn (K : PySem.W.Frag) (neg : Bool) : R2 := fun x y H Q => ∃ p xs, y = .ref p ∧ (SqL K H p xs ∨ SqT K H p xs) ∧ flatV x = true ∧ xs.all flatV = true ∧ Q (.bl (if neg then !inV x xs else inV x xs)) H
theorem op_in_seq : OpR X (compareOp .In) (rIn X.K false) := by
  intro pins s σ H x y v u Q I rx ry h
  refine yWWPPPP h fun p xs ye122_2 hq fx fs q => ?_; try clear h; subst ye122_2
  cases ry
  rcases hq with hq | hq
  · refine yWPP (I.list hq) fun its r pl hz => ?_
    refine SeqAt.in_listAt (eqU x) pl.isList (fun w hw => mem_eqAt rx fx r fs w (by simpa using hw)) (xWWPP (.bl _) H I rfl ?_)
    rw [show its.toArray.any (eqU x) = its.any (eqU x) by simp, any_eqU r fs]
    exact q
  · refine yWPP (I.tuple hq) fun its r pl hz => ?_
    refine SeqAt.in_tupleAt (eqU x) pl (fun w hw => mem_eqAt rx fx r fs w (by simpa using hw)) (xWWPP (.bl _) H I rfl ?_)
    rw [show its.toArray.any (eqU x) = its.any (eqU x) by simp, any_eqU r fs]
    exact q
theorem op_notIn_seq : OpR X (compareOp .NotIn) (rIn X.K true) := by
  intro pins s σ H x y v u Q I rx ry h
  refine yWWPPPP h fun p xs ye125_2 hq fx fs q => ?_; try clear h; subst ye125_2
  cases ry
  rcases hq with hq | hq
  · refine yWPP (I.list hq) fun its r pl hz => ?_
    refine SeqAt.notIn_listAt (eqU x) pl.isList (fun w hw => mem_eqAt rx fx r fs w (by simpa using hw)) (xWWPP (.bl _) H I rfl ?_)
    rw [show its.toArray.any (eqU x) = its.any (eqU x) by simp, any_eqU r fs]
    exact q
  · refine yWPP (I.tuple hq) fun its r pl hz => ?_
    refine SeqAt.notIn_tupleAt (eqU x) pl (fun w hw => mem_eqAt rx fx r fs w (by simpa using hw)) (xWWPP (.bl _) H I rfl ?_)
    rw [show its.toArray.any (eqU x) = its.any (eqU x) by simp, any_eqU r fs]
    exact q
theorem call_len_seq : CallR X (.builtin "len") (fun xs H Q => ∃ p ys, xs = [.ref p] ∧ (SqL X.K H p ys ∨ SqT X.K H p ys) ∧ Q (.int ys.length) H) := by
  intro pins s σ H xs us Q I r h
  refine yWWPP h fun p ys ye128_2 hq q => ?_; try clear h; subst ye128_2
  refine yWP (vals1 r) fun u ye129_1 rx => ?_; subst ye129_1
  cases rx
  have hn := line63
  rcases hq with hq | hq
  · refine yWPP (I.list hq) fun its r' pl hz => ?_
    have hlen := r'.length
    exact Calls.call_len_list pl.isList (by simp only [List.size_toArray] <;> omega) (xWWPP (.int ys.length) H (I.tok _) ⟨s.toks + 1, by rw [List.size_toArray, hlen]⟩ q)
  · refine yWPP (I.tuple hq) fun its r' pl hz => ?_
    have hlen := r'.length
    exact len_tuple pl (by simp only [List.size_toArray] <;> omega) (xWWPP (.int ys.length) H (I.tok _) ⟨s.toks + 1, by rw [List.size_toArray, hlen]⟩ q)
theorem call_list_of : CallR X (.type "list") (fun xs H Q => ∃ p ys, xs = [.ref p] ∧ (SqL X.K H p ys ∨ SqT X.K H p ys) ∧ ∀ l, H l = none → Q (.ref l) (upd H l (.lst ys))) := by
  intro pins s σ H xs us Q I r h
  refine yWWPP h fun p ys ye132_2 hq q => ?_; try clear h; subst ye132_2
  refine yWP (vals1 r) fun u ye133_1 rx => ?_; subst ye133_1
  cases rx
  have fin : ∀ (its : List Value), Vals ys its → ys.length ≤ sizeLine → ∀ (h' : Heap) (c' : Nat), (∀ b o', s.heap.get? b = some o' → h'.get? b = some o') →
      h'.get? s.heap.objs.size = some { cls := .type "list", dict := none, data := .seq its.toArray c', slots := #[] } → EP X pins σ Q (.ref s.heap.objs.size) { s with heap := h' } := fun its r' hz h' c' kp e =>
    (xWWPP (.ref s.heap.objs.size) _ (I.laid (t' := s.toks) kp (Nat.le_refl _) (show ObjOk X.prog X.w _ h' _ (.lst ys) from (xPWWP hz its c' r' e))) rfl (q _ (I.hok.fresh (Nat.le_refl _))))
  rcases hq with hq | hq
  · refine yWPP (I.list hq) fun its r' pl hz => ?_
    have hlen := r'.length
    refine yWPP pl.isList fun o ho hc yr135 => ?_; obtain ⟨n, hd⟩ := yr135
    exact call_list_seq p (.inl rfl) ho hc hd (fun h' c' kp e => fin its r' hz h' c' kp e) (by simp only [List.size_toArray] <;> exact AR.n22d hlen hz)
  · refine yWPP (I.tuple hq) fun its r' pl hz => ?_
    have hlen := r'.length
    refine yWPP pl fun o ho hc yr137 => ?_; try clear pl; obtain ⟨n, hd⟩ := yr137
    exact call_list_seq p (.inr rfl) ho hc hd (fun h' c' kp e => fin its r' hz h' c' kp e) (by simp only [List.size_toArray] <;> exact AR.n22d hlen hz)
def tyV (K : PySem.W.Frag) (T : String) (x : V) (H : Hp) : Prop := match x with
  | .str _ => T = "str"
  | .int _ => T = "int"
  | .ref p => (T = "list" ∧ ∃ xs, SqL K H p xs) ∨ (T = "tuple" ∧ ∃ o, K.lookup p = some o ∧ o.cls = .type "tuple" ∧ o.dict = none) ∨
      (T = "dict" ∧ ((∃ kvs, H p = some (.dK kvs)) ∨ ∃ kvs, H p = some (.dT kvs))) ∨ (T = "set" ∧ ∃ S n, H p = some (.set S n))
  | _ => False
theorem tyV_is {pins : List (Addr × Obj)} {σ : St} {H : Hp} {s : Shared} {T : String} {x : V} {v : Value} (I : Inv X pins σ H s) (r : RelV x v) (ty : tyV X.K T x H) :
    s.TypeIs v T ∧ ∀ a, v = .ref a → ∃ ob, s.heap.get? a = some ob ∧ ob.dict = none := by
  cases x with
  | str z =>
    obtain ⟨t, rfl⟩ := r
    cases (show T = "str" from ty)
    exact ⟨typeIs_str s z t, fun _ e => nomatch e⟩
  | int i =>
    obtain ⟨t, rfl⟩ := r
    cases (show T = "int" from ty)
    exact ⟨typeIs_int s i t, fun _ e => nomatch e⟩
  | ref p =>
    cases r
    rcases ty with ⟨rfl, xs, hq⟩ | ⟨rfl, o, hk, hc, hd⟩ | ⟨rfl, hk⟩ | ⟨rfl, S, n, hk⟩
    · refine yWPP (I.list hq) fun its _ pl _ => ?_
      refine ⟨pl.isList.typeIs, fun a e => ?_⟩
      cases e
      refine yWWPPP pl fun o n e c hd _ => ?_; try clear pl
      exact (xWP o e hd)
    · refine ⟨(xWP o (I.kIn p o hk) hc), fun a e => ?_⟩
      cases e
      exact (xWP o (I.kIn _ o hk) hd)
    · have z : ∃ o, s.heap.get? p = some o ∧ o.ExactDict := by
        rcases hk with ⟨kvs, hk⟩ | ⟨kvs, hk⟩
        · refine yPPWPWWWP (I.hok p _ hk) fun _ _ _ _ o _ _ e yr140 => ?_; obtain ⟨ex, _⟩ := yr140
          exact (xWP o e ex)
        · refine yPPWPWWWP (I.hok p _ hk) fun _ _ _ _ o _ _ e yr141 => ?_; obtain ⟨ex, _⟩ := yr141
          exact (xWP o e ex)
      refine yWP z fun o e ex => ?_; try clear z
      refine ⟨(xWP o e ex.1), fun a e2 => ?_⟩
      cases e2
      exact (xWP o e ex.2.1)
    · refine yWWWWPP (I.hok p _ hk) fun o _ _ _ e ex _ => ?_
      refine ⟨(xWP o e ex.1), fun a e2 => ?_⟩
      cases e2
      exact (xWP o e ex.2.1)
  | _ => exact False.elim ty
def tBM0 (K : PySem.W.Frag) (T : String) (r : V → List V → Hp → VK → Prop) (to : TE) : TE := fun σ H Q => to σ H fun x H1 => tyV K T x H1 ∧ r x [] H1 Q
def tBM (K : PySem.W.Frag) (T : String) (r : V → List V → Hp → VK → Prop) (to : TE) (t : TA) : TE := fun σ H Q => to σ H fun x H1 => tyV K T x H1 ∧ t σ H1 fun xs H2 => r x xs H2 Q
variable {o e : Expr} {es : List Expr} {to : TE} {t : TA} {name : Str} {apos cpos : Pos} {T id : String} {r : V → List V → Hp → VK → Prop}
theorem pe_bm0 (pa : PlainAttrs T) (slot : Slot T name id) (hty : typeOf (.builtin id) = pure (.type "method_descriptor")) (hm : MtR X id r) (ho : PE X o to)
    (hbase : attributeBase o name X.env (eval o X.env) = eval o X.env := by rfl) (hline : (apos.endLine == cpos.line) = true := by rfl) : PE X (.Call (.Attribute o name apos) [] [] cpos) (tBM0 X.K T r to) := by
  intro pins s σ H Q I h
  refine wpAny_Call_method0_late hbase hline (thn (ho pins s σ H _ I h) fun v s1 ⟨x, H1, I1, r1, ty, q1⟩ => ?_)
  obtain ⟨h1, h2⟩ := tyV_is I1 r1 ty
  exact (xWWPPPPP T id pa slot hty h1 h2 (Calls.callWith_builtin rfl (PySem.evalArgs_none (hm pins s1 σ H1 x [] v [] Q I1 r1 .nil q1))))
theorem pe_bm (pa : PlainAttrs T) (slot : Slot T name id) (hty : typeOf (.builtin id) = pure (.type "method_descriptor")) (hm : MtR X id r) (ho : PE X o to) (ha : PA X (e :: es) t)
    (hbase : attributeBase o name X.env (eval o X.env) = eval o X.env := by rfl)
    (hfew : ((backTo cpos (starEach (e :: es) X.env)).all (fun x => !x.1) && (backToKw cpos (keywordEach [] X.env)).all (fun x => x.1.isSome)
      && decide ((e :: es).length + ([] : List Keyword).length + (if ([] : List Keyword).isEmpty then 0 else 1) < 30)) = true := by rfl)
    (hline : (apos.endLine == cpos.line) = true := by rfl) (hs : starEach (e :: es) X.env = (false, eval e X.env) :: starEach es X.env := by rfl) (hplain : (backTo cpos (starEach es X.env)).any (·.1) = false := by rfl) :
    PE X (.Call (.Attribute o name apos) (e :: es) [] cpos) (tBM X.K T r to t) := by
  intro pins s σ H Q I h
  refine wpAny_Call_method_late hbase hfew hline rfl (thn (ho pins s σ H _ I h) fun v s1 ⟨x, H1, I1, r1, ty, q1⟩ => ?_)
  obtain ⟨h1, h2⟩ := tyV_is I1 r1 ty
  refine (xWWPPPPP T id pa slot hty h1 h2 ?_)
  have hA := ha cpos pins s1 σ H1 _ I1 q1
  rw [hs] at hA ⊢
  refine Calls.callWith_builtin (by show (false || (backTo cpos (starEach es X.env)).any (·.1)) = false; rw [hplain] <;> rfl) (Calls.evalArgs_plain ?_)
  exact thn hA fun us s2 ⟨vs, H2, I2, r2, q2⟩ => hm pins s2 σ H2 x vs v us Q I2 r1 r2 q2
/- xs.append(e), list.index on a module's tuple .. are MtR facts of 06m -/
end
end L2

namespace L2
open PySem PySem.Spec PyProof.Rows

def MtM (X : Cx) (id : String) (r : V → List V → Hp → VK → Prop) : Prop :=
  ∀ (pins : List (Addr × Obj)) (s : Shared) (σ : St) (H : Hp) (x : V) (xs : List V) (v : Value) (us : List Value) (Q : VK), Inv X pins σ H s → RelV x v → Vals xs us → r x xs H Q →
    wpAny (model X.prog X.w) X.A (call (.builtin id) (v :: us)) (EP X pins σ Q) X.xe s

theorem Vals.one : ∀ {x : V} {us : List Value}, Vals [x] us → ∃ u, us = [u] ∧ RelV x u := by
  intro x us h
  cases h with
  | cons r h => cases h; exact (xWP _ rfl r)
theorem Vals.two : ∀ {x y : V} {us : List Value}, Vals [x, y] us → ∃ u v, us = [u, v] ∧ RelV x u ∧ RelV y v := by
  intro x y us h
  cases h with
  | cons r h => cases h with
    | cons q h => cases h; exact (xWWPP _ _ rfl r q)
theorem Vals.zero : ∀ {us : List Value}, Vals [] us → us = []
  | _, .nil => rfl
theorem Vals.dropLast {xs : List V} {us : List Value} (h : Vals xs us) : Vals xs.dropLast us.dropLast := by
  induction h with
  | nil => exact .nil
  | cons r t ih =>
    cases t with
    | nil => exact .nil
    | cons q t' => exact .cons r ih
theorem Vals.eraseIdx : ∀ {xs : List V} {us : List Value} (i : Nat), Vals xs us → Vals (xs.eraseIdx i) (us.eraseIdx i)
  | _, _, _, .nil => .nil
  | _, _, 0, .cons _ t => t
  | _, _, i + 1, .cons r t => .cons r (Vals.eraseIdx i t)
theorem erase_last {α : Type} (l : List α) : l.eraseIdx (l.length - 1) = l.dropLast := by
  induction l with
  | nil => rfl
  | cons a r ih =>
    cases r with
    | nil => rfl
    | cons b r =>
      have e : (a :: b :: r).length - 1 = ((b :: r).length - 1) + 1 := by
        have h1 : (a :: b :: r).length = r.length + 2 := rfl
        have h2 : (b :: r).length = r.length + 1 := rfl
        first | rfl | omega
      rw [e, List.eraseIdx_cons_succ, ih]
      all_goals rfl
theorem len_erase {α : Type} : ∀ (l : List α) (i : Nat), (l.eraseIdx i).length ≤ l.length
  | [], _ => Nat.le_refl _
  | _ :: _, 0 => Nat.le_succ _
  | _ :: r, i + 1 => Nat.succ_le_succ (len_erase r i)
section
variable {X : Cx} {pins : List (Addr × Obj)} {σ : St} {H : Hp} {s : Shared} {l b : Addr} {xs ys zs : List V}

theorem Inv.lset {its its' : List Value} {n : Nat} {f : Array Value → Array Value} {t' : Nat} (I : Inv X pins σ H s) (hH : H l = some (.lst xs))
    (e : s.heap.get? l = some { cls := .type "list", data := .seq its.toArray n }) (hf : f its.toArray = its'.toArray) (hv : Vals ys its') (hz : ys.length ≤ sizeLine) :
    Inv X pins σ (upd H l (.lst ys)) { s with heap := s.heap.update l (Obj.mapSeq f), toks := t' } := by
  have q := PySem.IsL.update e f
  rw [hf] at q
  refine I.write (x := l) (e := l) (by rw [hH]; exact trivial) (.inl rfl) (fun b' u hb hu => (Heap.get?_update_other s.heap (Obj.mapSeq f) (Ne.symm hb)).trans hu) ⟨_, q⟩ ?_
  exact (xPWWP hz its' _ hv q)
theorem Inv.lnew {its : List Value} {t' : Nat} (I : Inv X pins σ H s) (hv : Vals ys its) (hz : ys.length ≤ sizeLine) :
    Inv X pins σ (upd H s.heap.objs.size (.lst ys)) { s with heap := s.heap.push { cls := .type "list", data := .seq its.toArray }, toks := t' } :=
  I.laid (fun _ _ q => Heap.get?_push_of_some _ q) (Nat.le_refl _) (xPWWP hz its 0 hv (Heap.get?_push_size _ rfl))
theorem Inv.fresh (I : Inv X pins σ H s) : H s.heap.objs.size = none := I.hok.fresh (Nat.le_refl _)
theorem Inv.lstM (I : Inv X pins σ H s) (hH : H l = some (.lst xs)) : xs.length ≤ sizeLine ∧ ∃ (its : List Value) (n : Nat), Vals xs its ∧ xs.length = its.length ∧ s.heap.get? l = some { cls := .type "list", data := .seq its.toArray n } := by
  refine yPWWP (I.hok l _ hH) fun z its n r e => ?_
  exact (xPWWPP z its n r r.length e)

end

section
variable {X : Cx}

def rAppend : V → List V → Hp → VK → Prop := fun x vs H Q => ∃ l xs y, x = .ref l ∧ vs = [y] ∧ H l = some (.lst xs) ∧ xs.length < sizeLine ∧ Q .non (upd H l (.lst (xs ++ [y])))
theorem mt_append : MtM X "list.append" rAppend := by
  intro pins s σ H x vs v us Q I rx rv h
  refine yWWWPPPP h fun l xs y ye145_3 ye145_4 hH hz q => ?_; try clear h; subst ye145_3; subst ye145_4
  cases rx
  refine yWP rv.one fun u ye146_1 ru => ?_; subst ye146_1
  refine yPWWPP (I.lstM hH) fun z its n r hl e => ?_
  refine call_meets F.slot_list_append (xWP _ e rfl) F.entry_list_append (F.args_list_append_2 _ _) (PySem.list_append l its.toArray n u (by rw [List.size_toArray]; exact AR.n22d hl z)) ⟨e, ?_⟩
  refine (xWWPP .non _ (I.lset (its' := its ++ [u]) hH e (by simp) (r.append (.cons ru .nil)) ?_) rfl q)
  rw [List.length_append, List.length_singleton]
  (first | exact AR.m15 hz | omega)

def rPop : V → List V → Hp → VK → Prop := fun x vs H Q => ∃ l xs y, x = .ref l ∧ vs = [] ∧ H l = some (.lst xs) ∧ xs[xs.length - 1]? = some y ∧ Q y (upd H l (.lst xs.dropLast))
theorem mt_pop : MtM X "list.pop" rPop := by
  intro pins s σ H x vs v us Q I rx rv h
  refine yWWWPPPP h fun l xs y ye152_3 ye152_4 hH hy q => ?_; try clear h; subst ye152_3; subst ye152_4
  cases rx
  have hus := rv.zero
  subst hus
  refine yPWWPP (I.lstM hH) fun z its n r hl e => ?_
  refine yWP (r.get hy) fun u hu ru => ?_
  have hy' : its.toArray[its.toArray.size - 1]? = some u := by
    show its.toArray[its.length - 1]? = some u
    rw [← Array.getElem?_toList, ← hl]
    exact hu
  refine call_meets F.slot_list_pop (xWP _ e rfl) F.entry_list_pop (F.args_list_pop_1 _) (MeetsSeq.list_pop_last l its.toArray n u hy' (by rw [List.size_toArray]; exact AR.n22d hl z)) ⟨e, ?_⟩
  refine (xWWPP y _ (I.lset (its' := its.dropLast) hH e ?_ r.dropLast ?_) ru q)
  · show its.toArray.eraseIdxIfInBounds (its.toArray.size - 1) = its.dropLast.toArray
    rw [List.size_toArray, List.eraseIdxIfInBounds_toArray, erase_last]
  · rw [List.length_dropLast]
    exact AR.n19' z

def rPopAt : V → List V → Hp → VK → Prop := fun x vs H Q => ∃ l xs i k y, x = .ref l ∧ vs = [.int i] ∧ H l = some (.lst xs) ∧ -(2 ^ 63) ≤ i ∧ i < 2 ^ 63 ∧ seqIndex? i xs.length = some k ∧ xs[k]? = some y ∧ Q y (upd H l (.lst (xs.eraseIdx k)))
theorem mt_popAt : MtM X "list.pop" rPopAt := by
  intro pins s σ H x vs v us Q I rx rv h
  refine yWWWWWPPP h fun l xs i k y ye155_5 ye155_6 hH yr155 => ?_; try clear h; subst ye155_5; subst ye155_6; refine yPPPP yr155 fun h1 h2 hk hy q => ?_; try clear yr155
  cases rx
  refine yWP rv.one fun u ye157_1 ru => ?_; subst ye157_1
  obtain ⟨t, rfl⟩ := ru
  refine yPWWPP (I.lstM hH) fun z its n r hl e => ?_
  refine yWP (r.get hy) fun w hw rw' => ?_
  refine call_meets F.slot_list_pop (xWP _ e rfl) F.entry_list_pop (F.args_list_pop_2 _ _)
    (MeetsSeq.list_pop_at l its.toArray n i t k w (fitsIndex_both h1 h2) (by rw [List.size_toArray, ← hl]; exact hk) (by rw [← Array.getElem?_toList]; exact hw) (by rw [List.size_toArray]; exact AR.n22d hl z)) ⟨e, ?_⟩
  refine (xWWPP y _ (I.lset (its' := its.eraseIdx k) hH e ?_ (r.eraseIdx k) ?_) rw' q)
  · show its.toArray.eraseIdxIfInBounds k = (its.eraseIdx k).toArray
    rw [List.eraseIdxIfInBounds_toArray]
  · have := len_erase xs k
    exact AR.n4 this z

def rCat : R2 := fun x y H Q => ∃ l b xs zs, x = .ref l ∧ y = .ref b ∧ H l = some (.lst xs) ∧ H b = some (.lst zs) ∧ xs.length + zs.length ≤ sizeLine ∧ ∀ p, H p = none → Q (.ref p) (upd H p (.lst (xs ++ zs)))
theorem op_cat : OpR X (binaryOp .Add) rCat := by
  intro pins s σ H x y v u Q I rx ry h
  refine yWWWWPPPP h fun l b xs zs ye160_4 ye160_5 hH hB yr160 => ?_; try clear h; subst ye160_4; subst ye160_5; obtain ⟨hz, q⟩ := yr160
  cases rx
  cases ry
  refine yPWWPP (I.lstM hH) fun z its n r hl e => ?_
  refine yPWWPP (I.lstM hB) fun z2 its2 n2 r2 hl2 e2 => ?_
  refine PySem.P.add_list e e2 ?_ (by rw [List.size_toArray, List.size_toArray]; (first | exact AR.m88 hz hl hl2 | omega))
  have ea : its.toArray ++ its2.toArray = (its ++ its2).toArray := by simp
  rw [ea]
  exact (xWWPP (.ref _) _ (I.lnew (t' := s.toks) (r.append r2) (by rw [List.length_append]; exact hz)) rfl (q _ I.fresh))
end

section
variable {prog : Program} {w : World} {A : Around} {E : Value → Shared → Prop} {s : Shared}
end

section
variable {X : Cx}
end
end L2

namespace Att
open PySem PySem.W PySem.Calls PyProof.Rows

theorem ints_of_wellAll {P : Params} {h : Heap} : ∀ (ns : List Int) (vs : List Value), WellAll P h vs (ns.map WData.int) → IntsAre vs ns := by
  intro ns
  induction ns with
  | nil =>
    intro vs w
    rw [List.map_nil] at w
    cases w
    exact .nil
  | cons n ns ih =>
    intro vs w
    rw [List.map_cons] at w
    cases w with
    | cons a b =>
      cases a
      exact .cons _ _ (ih _ b)

theorem script_of {l : OpenLaw} {n : Nat} (hn : l.most = some n) {P : Params} {h : Heap} {args : List WData} {vals : List Value}
    (hpre : l.row.toRowW.claim.pre args = true) (hwl : WellAll P h vals args) :
    ∃ a vs ns, vals = [Value.ref a] ∧ args = [WData.list (ns.map WData.int)] ∧ h.get? a = some { cls := .type "list", data := .seq vs.toArray } ∧ IntsAre vs ns ∧ ns.length ≤ n := by
  have hsh : WShape.hasAll [] args [.list .int] = true := (pre_splitW hpre).1
  have hc : l.pre.holds [] { args := args } = true := (pre_splitW hpre).2
  refine yWWPP (hasAllW_cons hsh) fun d r ye163_2 h1 h2 => ?_; subst ye163_2
  obtain rfl := hasAllW_nil h2
  refine yWP (hasW_list h1) fun xs ye164_1 h3 => ?_; subst ye164_1
  obtain ⟨ns, rfl⟩ := items_int h3
  have hlen : ns.length ≤ n := by
    unfold OpenLaw.pre at hc
    have h4 : (WTm.not (.lt (.lit (.int (n : Int))) (.len (.arg 0)))).holds [] { args := [.list (ns.map .int)] } = true := by
      have h4 := (holds_andW hc).1
      rw [hn] at h4
      exact h4
    have h5 := condW_of h4 (w_not (w_lt w_lit (w_len_list (w_arg rfl))))
    rw [List.length_map] at h5
    refine Nat.le_of_not_lt fun q => ?_
    have q' : (n : Int) < ((ns.length : Nat) : Int) := by first | exact AR.j12 q | omega
    first
      | (rw [decide_eq_true q'] at h5; exact absurd h5 (by decide))
      | (simp at h5; omega)
  cases hwl with
  | cons w1 w2 =>
    cases w2
    cases w1 with
    | list ho hall => exact (xWWWPPPP _ _ ns rfl rfl ho (ints_of_wellAll ns _ hall) hlen)

theorem post_true (l : OpenLaw) (args : List WData) : l.row.toRowW.claim.post args (.bool true) args = true :=
  postW_of (r := l.row.toRowW) (X := (true == true))
    (show WShape.has [] (.bool true) .bool = true by first | rfl | decide | simp [WShape.has, WShape.arms, WShape.armsAll])
    (show (WTm.eq .res (.lit (.bool true))).value [] { args := args, res := some (.bool true), after := args } = some (.bool (true == true)) from w_eq_bool (w_res rfl) w_lit) rfl

theorem attach_call {l : OpenLaw} {n : Nat} {q : Program} {loose : List Str} {XP : (Str → Option Value) → Heap → Prop} {YP : World → Heap → Prop} {d : DefRec}
    (hn : l.most = some n) (hdf : d.params.defaults = [])
    (call : ∀ (w : World) (s₀ s₁ : Shared) (mg mb : Str → Option Value) (fa : Addr) (o : Obj) (pm cd doc : Value) (a : Addr) (vs : List Value) (ns : List Int),
      Ground q loose [] XP w s₀ mg mb s₁.heap → YP w s₁.heap →
      s₁.heap.get? fa = some o → o.data = .func (docDef d.name d.params d.body d.scope pm cd doc) → s₁.heap.CodeRec cd d.name → mg d.name = some (.ref fa) →
      s₁.heap.get? a = some { cls := .type "list", data := .seq vs.toArray } → IntsAre vs ns → ns.length ≤ n → s₁.gens = #[] →
      codeAny (model l.prog w) callerA (.call (.ref fa) ⟨[.ref a], []⟩) (fun r s' => r = .ok (.ret (.bool true)) ∧ OldK s₁.heap s'.heap ∧ s'.os = s₁.os ∧ AllBare s'.gens) s₁) :
    WalkO q loose XP YP l.row.toRowW d [] (fun f vs => PySem.call f vs) := by
  intro w s₀ s₁ mg mb G Y fa o pm cd doc dV kV ho hd hcd hD hmg hg args vals as hpre hlay hrd hwl hlo
  obtain rfl : dV = .none := Dflts.none hD hdf
  obtain rfl : kV = .none := Dflts.noKw hD
  refine yWWWPPPP (script_of hn hpre hwl) fun a vs ns ye165_3 ye165_4 hobj hints hlen => ?_; subst ye165_3; subst ye165_4
  refine enter_call (codeAny_mono (call w s₀ s₁ mg mb fa o pm cd doc a vs ns G Y ho (fd_plain hd) hcd hmg hobj hints hlen hg) fun r s' hq => ?_)
  refine yPPP hq fun ye166_0 h2 h3 h4 => ?_; try clear hq; subst ye166_0
  exact (xPPP (.inl (xWWWPPPP (.bool true) (.bool true) ([]) rfl (fun _ => rfl) (.bool true) (post_true l _) (fun _ => ⟨List.Pairwise.nil, fun _ hm => (nomatch hm)⟩))) h2 h3 h4)

section
variable {prog : Program} {w : World} {A : Around} {E : Value → Shared → Prop} {s : Shared} {K : Frag}

end
end Att

namespace L2
open PySem PySem.Spec PyProof.Rows

theorem vals_ints : ∀ {vs : List Value} {ns : List Int}, IntsAre vs ns → Vals (ns.map V.int) vs
  | _, _, .nil => .nil
  | _, _, .cons n t h => .cons ⟨t, rfl⟩ (vals_ints h)

def Only (H : Hp) : Prop := ∀ b, H b = none ∨ ∃ o xs, H b = some (.frz o (.lst xs))

theorem law_call {P : Program} {w : World} {K : PySem.W.Frag} {mg mb : Str → Option Value} {CX : CXT} {k : Nat} {fa a : Addr} {fd : FuncData} {x : Str} {sp : Sp} {s₁ : Shared} {vs : List Value} {ns : List Int}
    (KX : K.In s₁.heap) (hns : s₁.heap.Ns mainGlobals mg) (hb : s₁.heap.Ns builtinsNs mb) (hbb : ∀ x : Str, x ≠ "__name__" → mb x = bootBuiltins x) (hlim : s₁.heap.NoLimit) (hg : s₁.gens = #[])
    (ha : s₁.heap.get? a = some { cls := .type "list", data := .seq vs.toArray }) (hi : IntsAre vs ns) (hl : ns.length ≤ sizeLine) (hr : Room k callerA)
    (F : ∀ base : Heap, K.In base → base.Ns mainGlobals mg → FnOk P w K mg base CX k fa fd [x] sp) (hbind : ∀ (s : Shared) (u : Value), BindsTo s fd ⟨[u], []⟩ [(x, u)])
    (hsp : ∀ H : Hp, Only H → SqL K H a (ns.map V.int) → sp [.ref a] H (fun v _ => v = .bl true) fun _ _ _ => False)
    (hCX : ∀ H e s', CX [] H s₁ (fun _ _ _ => False) e s' → False) :
    codeAny (model P w) callerA (.call (.ref fa) ⟨[.ref a], []⟩) (fun r s' => r = .ok (.ret (.bool true)) ∧ OldK s₁.heap s'.heap ∧ s'.os = s₁.os ∧ AllBare s'.gens) s₁ := by
  have rv := vals_ints hi
  have lenV := hi.length
  -- from an abstract heap in which nothing but the script may be tracked
  have core : ∀ H : Hp, Only H → SqL K H a (ns.map V.int) → HOk P w H s₁.heap → (∀ b, H b ≠ none → b = a) → (H a ≠ none → K.lookup a = none) →
      codeAny (model P w) callerA (.call (.ref fa) ⟨[.ref a], []⟩) (fun r s' => r = .ok (.ret (.bool true)) ∧ OldK s₁.heap s'.heap ∧ s'.os = s₁.os ∧ AllBare s'.gens) s₁ := by
    intro H hO hS hok hA hK
    have base_of : ∀ {b : Addr} {o : Obj}, s₁.heap.get? b = some o → H b = none → (hidT s₁.heap H).get? b = some o := fun e n => hidT_get e n
    have noA : ∀ {b : Addr} {o : Obj} {es : Array DictEntry} {ep : Nat}, s₁.heap.get? b = some o → o.data = .dict es ep → H b = none := fun {b o es ep} e d => by
      cases q : H b with
      | none => rfl
      | some u =>
        have e' : b = a := hA b (by rw [q]; simp)
        subst e'
        rw [ha] at e; cases e
        have d' : Data.seq vs.toArray _ = Data.dict es ep := d
        cases d'
    have nsK : ∀ {b : Addr} {m : Str → Option Value}, s₁.heap.Ns b m → (hidT s₁.heap H).Ns b m := fun {b m} ⟨o, es, ep, e, d, r⟩ => (xWWWPP o es ep (base_of e (noA e d)) d r)
    have hKb : K.In (hidT s₁.heap H) := fun b o e => base_of (KX b o e) (by
      cases q : H b with
      | none => rfl
      | some u =>
        have e' : b = a := hA b (by rw [q]; simp)
        subst e'
        rw [hK (by rw [q]; simp)] at e; cases e)
    have hM : Mod K mg (hidT s₁.heap H) := ⟨hKb, nsK hns, (xWP mb (nsK hb) hbb), let ⟨mc, h1, h2⟩ := hlim; (xWP mc (nsK h1) h2)⟩
    have e0 : Env0 P w K mg (hidT s₁.heap H) callerA [] s₁ H := ⟨rfl, hM, fun b o e => of_hidT e, Nat.le_of_eq (hidT_size _ _), trivial, fun b hb => absurd (show b ∈ ([] : List Addr) from hb) (by simp), hok, .of_eq hg⟩
    refine codeAny_mono ((F _ hKb (nsK hns)).run callerA [] s₁ H ⟨[.ref a], []⟩ [.ref a] [.ref a] _ _ hr e0 (hbind s₁ (.ref a)) (.cons rfl .nil) (hsp H hO hS)) fun r s' h => ?_
    cases r with
    | error e => exact (hCX H e s' h).elim
    | ok fl =>
      cases fl with
      | next => exact False.elim h
      | brk => exact False.elim h
      | cont => exact False.elim h
      | ret u =>
        refine yWWPPPPP h fun v H' os bare un hok' r' q => ?_; try clear h
        have q' : v = .bl true := q
        subst q'
        obtain rfl : u = Value.bool true := r'
        refine (xPPP rfl (OldK.of_keep fun b o e => ?_) os bare)
        cases q : H b with
        | none => exact un.keep b o e q (by intro z; exact absurd (show b ∈ ([] : List Addr) from z) (by simp)) (by simp)
        | some u =>
          rcases hO b with z | ⟨ob, xs, z⟩
          · rw [q] at z; cases z
          · have z2 := un.frzs b ob _ z
            obtain ⟨e1, _⟩ := hok b _ z
            obtain ⟨e2, _⟩ := hok' b _ z2
            rw [e] at e1; cases e1
            exact e2
  cases hk : K.lookup a with
  | some o =>
    -- the script is one of the module's own objects
    have e := KX a o hk
    rw [ha] at e
    cases e
    refine core (fun _ => none) (fun _ => .inl rfl) (.inr (xWWWPPPPP _ vs.toArray _ hk rfl rfl rfl (by rw [List.size_toArray, lenV]; exact hl) (by simpa using rv))) (fun b u z => by have z' : (none : Option HO) = some u := z; cases z') (fun b z => absurd rfl z) fun z => absurd rfl z
  | none =>
    refine core (fun b => if b = a then some (.frz { cls := .type "list", data := .seq vs.toArray } (.lst (ns.map V.int))) else none) (fun b => ?_) (.inl (.inr ⟨{ cls := .type "list", data := .seq vs.toArray }, if_pos rfl⟩)) (fun b u z => ?_) (fun b z => ?_) fun _ => hk
    · by_cases hb : b = a
      · exact .inr (xWW _ _ (if_pos hb))
      · exact .inl (if_neg hb)
    · by_cases hb : b = a
      · have z' := (if_pos hb).symm.trans z
        cases z'
        subst hb
        exact (xPPWWP ha (by rw [List.length_map]; exact hl) vs _ rv ha)
      · have z' := (if_neg hb).symm.trans z
        cases z'
    · by_cases hb : b = a
      · exact hb
      · exact absurd (if_neg hb) z
end L2

namespace L2
open PySem PySem.Spec PyProof.Rows

theorem walk_of {l : PySem.W.OpenLaw} {n k : Nat} {q : Program} {loose : List Str} {XP : (Str → Option Value) → Heap → Prop} {YP : World → Heap → Prop} {d : DefRec} {K : Params → PySem.W.Frag} {CX : World → CXT} {sp : World → Sp} {x : Str}
    (hn : l.most = some n) (hn2 : n ≤ sizeLine) (hdf : d.params.defaults = []) (hr : Room k callerA)
    (hY : ∀ (w : World) (h : Heap), YP w h → (K w.params).In h)
    (F : ∀ (w : World) (mg : Str → Option Value) (fa : Addr) (h : Heap), (K w.params).In h → h.Ns mainGlobals mg → mg d.name = some (.ref fa) →
      ∃ fd : FuncData, (∀ (s : Shared) (u : Value), BindsTo s fd ⟨[u], []⟩ [(x, u)]) ∧
        ∀ base : Heap, (K w.params).In base → base.Ns mainGlobals mg → FnOk l.prog w (K w.params) mg base (CX w) k fa fd [x] (sp w))
    (hsp : ∀ (w : World) (H : Hp) (a : Addr) (ns : List Int), ns.length ≤ n → Only H → SqL (K w.params) H a (ns.map V.int) → sp w [.ref a] H (fun v _ => v = .bl true) fun _ _ _ => False)
    (hCX : ∀ (w : World) (H : Hp) (s : Shared) (e : Value) (s' : Shared), CX w [] H s (fun _ _ _ => False) e s' → False) :
    PySem.W.WalkO q loose XP YP l.row.toRowW d [] (fun f vs => PySem.call f vs) := by
  refine Att.attach_call hn hdf fun w s₀ s₁ mg mb fa o pm cd doc a vs ns G Y ho hd hcd hmg hobj hints hlen hg => ?_
  have KX := hY w _ Y
  refine yWP (F w mg fa _ KX G.T.g hmg) fun fd hb hF => ?_
  exact law_call KX G.T.g G.T.b G.T.builtins G.T.nolimit hg hobj hints (Nat.le_trans hlen hn2) hr hF hb (fun H hO hS => hsp w H a ns hlen hO hS) fun H e s' => hCX w H s₁ e s'
end L2

/- THE LAST THEOREM (shape; LID, My.* are yours):
   My.Adr: a structure of the addresses that your layer names (classes, functions); My.Txt K t: a structure (Prop) of the equations over K;
   My.txt_mk : {K} {implicit addresses ..} (e1 : nsIn K mainGlobals "law" = some (some (.ref f))) (e2 : K.lookup f = some ⟨oc, od, .func (fnOf "law" "law" params body scope dV kV doc pm an cdv ct), sl⟩) (e3 : codeIn K cdv "law" = true) .. : ∃ t, My.Txt K t

set_option maxRecDepth 100000 in
set_option maxHeartbeats 0 in
theorem PySem.Challenge.cw_LID_holds : PySem.Challenge.rw_LID.Holds := by
  w_on; o_law; k_head; (case hw => w_witness2)
  k_fill
  refine L2.walk_of (l := PySem.Challenge.rw_LID) (n := 63) (k := 40) (x := "script") (CX := fun w => ..) (sp := fun _ => My.sp_law) rfl (by decide) rfl ⟨rfl, by decide, by decide⟩ (fun w h Y => PySem.W.kIn_of Y) ?F ?S ?C
  case F =>
    intro w mg fa h KX G hmg
    have T : ∃ t, My.Txt (L2.KOf KX) t := by
      dsimp only [L2.KOf]                          -- K must stand as «<heap const> w.params» for k_is
      refine' My.txt_mk ?e1 ?e2 ?e3 ..
      (case e1 => PySem.W.k_is)                    -- in the order: a name -> its address -> its object -> its parts
      (case e2 => PySem.W.k_is)
      ..
    obtain ⟨t, T⟩ := T
    have e0 := hmg.symm.trans (PySem.W.mg_of KX G T.law)
    cases e0                                       -- fa is the law's own address
    exact ⟨_, fun s u => .of_eq rfl, fun base kb nb => My.law_fn T kb nb⟩     -- if «.of_eq rfl» comes too early: refine' ⟨_, ?b, fun base kb nb => My.law_fn T kb nb⟩; exact fun s u => .of_eq rfl
  case S => exact fun w H a ns hl hO hS => ..
  case C => exact ..
(the tactic k_is has no namespace: write k_is) -/

namespace L2
open PySem PySem.Spec PyProof.Rows

def defArgs (s : Stmt) : Arguments := match s with
  | .FunctionDef _ a _ _ _ _ _ _ _ _ => a
  | _ => { posonlyargs := [], args := [], vararg := none, kwonlyargs := [], kw_defaults := [], kwarg := none, defaults := [] }
def defBody (s : Stmt) : List Stmt := match s with
  | .FunctionDef _ _ b _ _ _ _ _ _ _ => b
  | _ => []
def defScope (s : Stmt) : Scope := match s with
  | .FunctionDef _ _ _ _ _ _ sc _ _ _ => sc
  | _ => { kind := .function, names := [], isGenerator := false, isCoroutine := false }

abbrev CX0 : CXT := fun _ _ _ _ _ _ => False
abbrev E0 : XK := fun _ _ _ => False
theorem pass0 {X : Cx} : Passes CX0 X E0 := fun _ _ _ _ _ _ _ h => h.elim

structure Fun (K : PySem.W.Frag) (x qual : Str) (st : Stmt) (f : Addr) (fd : FuncData) : Prop where
  ex : ∃ (oc : Value) (od : Option Addr) (kV doc pm : Value) (an : Option Addr) (cdv ct : Value) (osl : Array (Option Value)),
    fd = PySem.W.fnOf x qual (defArgs st) (defBody st) (defScope st) .none kV doc pm an cdv ct ∧ K.lookup f = some ⟨oc, od, .func fd, osl⟩ ∧ PySem.W.codeIn K cdv qual = true
  kp : PySem.W.keepIn K (.ref f) = true
section
variable {P : Program} {w : World} {K : PySem.W.Frag} {mg : Str → Option Value} {base : Heap}
theorem Fun.ok {x qual : Str} {st : Stmt} {f : Addr} {fd : FuncData} {N ps : List Str} {k : Nat} {sp : Sp} (F : Fun K x qual st f fd) (S : FnScope N ps (defScope st)) (len : ∀ vs H Q E, sp vs H Q E → vs.length = ps.length)
    (hbody : ∀ (cdv : Value) (A : Around) (outer : List Env) (s : Shared) (H : Hp) (vs : List V) (Q : VK) (E : XK), Room k (A.deeper (envOfC qual (defScope st) s.heap.objs.size f cdv)) → sp vs H Q E →
      ∃ t, PSs (cxOf CX0 P w K mg base N qual (defScope st) f cdv A outer s H E).nox (defBody st) t ∧ t { nx := fun _ H' => Q .non H', rt := Q } (start N vs) H) : FnOk P w K mg base CX0 (k + 1) f fd ps sp := by
  refine yWWWWWWWW F.ex fun oc od kV doc pm an cdv ct yr169 => ?_; refine yWPP yr169 fun osl ye170_1 lk hcd => ?_; try clear yr169; subst ye170_1
  refine fn_of lk hcd S len fun A outer s H vs Q E hr hsp => ?_
  refine yWP (hbody cdv A outer s H vs Q E hr hsp) fun t h q => ?_
  exact (xWP t h.nox q)
theorem Fun.binds {x qual : Str} {st : Stmt} {f : Addr} {fd : FuncData} {ps : List Str} (F : Fun K x qual st f fd)
    (h : ∀ (kV doc pm : Value) (an : Option Addr) (cdv ct : Value) (us : List Value), us.length = ps.length → bindArgs (PySem.W.fnOf x qual (defArgs st) (defBody st) (defScope st) .none kV doc pm an cdv ct) ⟨us, []⟩ = pure (ps.zip us)) : Binds K fd ps [] := by
  refine yWWWWWWWW F.ex fun oc od kV doc pm an cdv ct yr172 => ?_; refine yWPP yr172 fun osl ye173_1 lk hcd => ?_; try clear yr172; subst ye173_1
  exact .all (h kV doc pm an cdv ct)
theorem fun_mk {x qual : Str} {st : Stmt} {f : Addr} {oc : Value} {od an : Option Addr} {osl : Array (Option Value)} {kV doc pm cdv ct : Value} (l : K.lookup f = some ⟨oc, od, .func (PySem.W.fnOf x qual (defArgs st) (defBody st) (defScope st) .none kV doc pm an cdv ct), osl⟩)
    (c : PySem.W.codeIn K cdv qual = true) (k : PySem.W.keepIn K (.ref f) = true) : Fun K x qual st f (PySem.W.fnOf x qual (defArgs st) (defBody st) (defScope st) .none kV doc pm an cdv ct) := ⟨(xWWWWWWWW oc od kV doc pm an cdv ct (xWPP osl rfl l c)), k⟩
end
section
variable {X : Cx}
theorem pv (i : Nat) {x : Str} {pos : Pos} (hN : X.N[i]? = some x := by rfl) (hv : Vis X.env.scope x := by first | exact Or.inl rfl | exact Or.inr (Or.inl rfl) | exact Or.inr (Or.inr rfl)) (hd : (x == ("__debug__" : Str)) = false := by decide)
    (hcd : (x == ("__classdict__" : Str)) = false := by decide) : PE X (.Name x pos) (tVar i) := pe_var hN hv hd hcd
end

theorem iteF {A B : Prop} (h : B) : if false = true then A else B := by
  rw [if_neg Bool.false_ne_true]
  exact h
theorem iteT {A B : Prop} (h : A) : if true = true then A else B := by
  rw [if_pos rfl]
  exact h
theorem ite2 {c A B : Prop} [Decidable c] (h1 : c → A) (h2 : ¬ c → B) : if c then A else B := by
  by_cases h : c
  · rw [if_pos h]
    exact h1 h
  · rw [if_neg h]
    exact h2 h
def Same (H H' : Hp) : Prop := ∀ b o, H b = some o → H' b = some o
theorem Same.refl (H : Hp) : Same H H := fun _ _ h => h
theorem Same.trans {H H1 H2 : Hp} (a : Same H H1) (b : Same H1 H2) : Same H H2 := fun c o h => b c o (a c o h)
theorem Same.free {H H' : Hp} (e : Same H H') {l : Addr} (h : H' l = Option.none) : H l = Option.none := by
  cases q : H l with
  | none => rfl
  | some o =>
    rw [e l o q] at h
    cases h
theorem Same.seq {K : PySem.W.Frag} {H H' : Hp} {a : Addr} {xs : List V} (e : Same H H') (h : SqL K H a xs) : SqL K H' a xs := by
  rcases h with (h | ⟨o, h⟩) | h
  · exact .inl (.inl (e _ _ h))
  · exact .inl (.inr ⟨o, e _ _ h⟩)
  · exact .inr h

end L2

set_option Elab.async false
set_option linter.all false
set_option maxRecDepth 100000
set_option maxHeartbeats 4000000
namespace L2
open PySem PySem.Spec PyProof.Rows

def clOf (cells : List (Str × Addr)) : List (Str × NameKind) → List (Str × Addr) → List (Str × Addr)
  | [], cs => cs
  | x :: r, cs => clOf cells r (if x.2 = .free then ((cells.lookup x.1).map fun c => (x.1, c)).toList ++ cs else cs)

theorem closureFor_ok {scope : Scope} {env : Env} (h : ∀ x ∈ scope.names, x.2 = .free → ∃ c, env.cells.lookup x.1 = some c) :
    closureFor scope env = pure (clOf env.cells scope.names []) := by
  have key : ∀ (l : List (Str × NameKind)) (cs : List (Str × Addr)) (f : Str × NameKind → List (Str × Addr) → Sem (ForInStep (List (Str × Addr)))),
      (∀ x ∈ l, x.2 = .free → ∃ c, env.cells.lookup x.1 = some c) →
      (∀ x cs, f x cs = if (x.2 == NameKind.free) = true then (cellOf env x.1 >>= fun a => pure (ForInStep.yield ((x.1, a) :: cs))) else pure (ForInStep.yield cs)) →
      forIn l cs f = pure (clOf env.cells l cs) := by
    intro l
    induction l with
    | nil => intro cs f _ _; rfl
    | cons x r ih =>
      intro cs f hx hf
      rw [List.forIn_cons, hf]
      by_cases hk : x.2 = .free
      · obtain ⟨c, hc⟩ := hx x List.mem_cons_self hk
        rw [if_pos (by simp [hk])]
        have e : cellOf env x.1 = pure c := by unfold cellOf; rw [hc]
        rw [e]
        simp only [pure_bind]
        rw [ih _ f (fun y hy => hx y (List.mem_cons_of_mem _ hy)) hf]
        show _ = pure (clOf env.cells r (if x.2 = .free then ((env.cells.lookup x.1).map fun c => (x.1, c)).toList ++ cs else cs))
        rw [if_pos hk, hc]
        rfl
      · rw [if_neg (by simp [hk])]
        simp only [pure_bind]
        rw [ih _ f (fun y hy => hx y (List.mem_cons_of_mem _ hy)) hf]
        show _ = pure (clOf env.cells r (if x.2 = .free then ((env.cells.lookup x.1).map fun c => (x.1, c)).toList ++ cs else cs))
        rw [if_neg hk]
  simp only [closureFor]
  rw [key scope.names [] _ h (fun x cs => by obtain ⟨n, k⟩ := x; rfl)]
  first | rfl | simp only [pure_bind]

theorem clOf_in {cells : List (Str × Addr)} : ∀ (l : List (Str × NameKind)) (cs : List (Str × Addr)) {x : Str} {c : Addr}, (clOf cells l cs).lookup x = some c → cs.lookup x = some c ∨ cells.lookup x = some c
  | [], _, _, _, h => .inl h
  | y :: r, cs, x, c, h => by
    have h' : (clOf cells r (if y.2 = .free then ((cells.lookup y.1).map fun c => (y.1, c)).toList ++ cs else cs)).lookup x = some c := h
    rcases clOf_in r _ h' with q | q
    · by_cases hk : y.2 = .free
      · rw [if_pos hk] at q
        cases hl : cells.lookup y.1 with
        | none => rw [hl] at q; exact .inl q
        | some d =>
          rw [hl] at q
          have q' : (((y.1, d) :: cs).lookup x) = some c := q
          rw [List.lookup_cons] at q'
          cases hb : x == y.1 with
          | true =>
            rw [hb] at q'
            have e := eq_of_beq hb
            subst e
            right
            rw [hl]
            exact q'
          | false => rw [hb] at q'; exact .inl q'
      · rw [if_neg hk] at q
        exact .inl q
    · exact .inr q

theorem clOf_has {cells : List (Str × Addr)} : ∀ (l : List (Str × NameKind)) (cs : List (Str × Addr)) (x : Str), ((x, NameKind.free) ∈ l ∧ ∃ c, cells.lookup x = some c) ∨ (∃ c, cs.lookup x = some c) → ∃ c, (clOf cells l cs).lookup x = some c
  | [], cs, x, h => by
    rcases h with ⟨q, _⟩ | q
    · cases q
    · exact q
  | y :: r, cs, x, h => by
    show ∃ c, (clOf cells r (if y.2 = .free then ((cells.lookup y.1).map fun c => (y.1, c)).toList ++ cs else cs)).lookup x = some c
    apply clOf_has r
    rcases h with ⟨q, c, hc⟩ | ⟨c, hc⟩
    · rcases List.mem_cons.mp q with q | q
      · right
        subst q
        rw [if_pos rfl, hc]
        refine ⟨c, ?_⟩
        show ((x, c) :: cs).lookup x = some c
        rw [List.lookup_cons]
        simp
      · exact .inl ⟨q, c, hc⟩
    · right
      by_cases hk : y.2 = .free
      · rw [if_pos hk]
        cases hl : cells.lookup y.1 with
        | none => exact ⟨c, hc⟩
        | some d =>
          show ∃ c, ((y.1, d) :: cs).lookup x = some c
          rw [List.lookup_cons]
          cases hb : x == y.1 with
          | true => exact ⟨d, rfl⟩
          | false => exact ⟨c, hc⟩
      · rw [if_neg hk]; exact ⟨c, hc⟩

theorem relabel_of {env : Env} : ∀ {names : List (Str × NameKind)} {x : Str} {k' : NameKind},
    (names.map fun (n, k) => if (k == NameKind.free && env.scope.kind == .function && env.kindOf n == some .cell) then (n, NameKind.cell) else (n, k)).lookup x = some k' →
    ∃ k, (x, k) ∈ names ∧ (k = k' ∨ (k = .free ∧ k' = .cell))
  | [], _, _, h => by simp at h
  | (n, k) :: r, x, k', h => by
    have ih := @relabel_of env r x k'
    have h' : List.lookup x ((if (k == NameKind.free && env.scope.kind == .function && env.kindOf n == some .cell) = true then (n, NameKind.cell) else (n, k)) :: _) = some k' := h
    by_cases hc : (k == NameKind.free && env.scope.kind == .function && env.kindOf n == some .cell) = true
    · rw [if_pos hc, List.lookup_cons] at h'
      cases hb : x == n with
      | true =>
        rw [hb] at h'
        have e := eq_of_beq hb
        subst e
        cases h'
        refine (xWP k List.mem_cons_self (.inr ⟨?_, rfl⟩))
        simp only [Bool.and_eq_true] at hc
        exact eq_of_beq hc.1.1
      | false =>
        rw [hb] at h'
        refine yWP (ih h') fun k2 q z => ?_
        exact (xWP k2 (List.mem_cons_of_mem _ q) z)
    · rw [if_neg hc, List.lookup_cons] at h'
      cases hb : x == n with
      | true =>
        rw [hb] at h'
        have e := eq_of_beq hb
        subst e
        cases h'
        exact (xWP k List.mem_cons_self (.inl rfl))
      | false =>
        rw [hb] at h'
        refine yWP (ih h') fun k2 q z => ?_
        exact (xWP k2 (List.mem_cons_of_mem _ q) z)

theorem relabel_free {env : Env} : ∀ {names : List (Str × NameKind)} {x : Str}, names.lookup x = some .free →
    (names.map fun (n, k) => if (k == NameKind.free && env.scope.kind == .function && env.kindOf n == some .cell) then (n, NameKind.cell) else (n, k)).lookup x = some .cell ∨
    (names.map fun (n, k) => if (k == NameKind.free && env.scope.kind == .function && env.kindOf n == some .cell) then (n, NameKind.cell) else (n, k)).lookup x = some .free
  | [], _, h => by simp at h
  | (n, k) :: r, x, h => by
    have ih := @relabel_free env r x
    show List.lookup x ((if (k == NameKind.free && env.scope.kind == .function && env.kindOf n == some .cell) = true then (n, NameKind.cell) else (n, k)) :: _) = some .cell ∨
      List.lookup x ((if (k == NameKind.free && env.scope.kind == .function && env.kindOf n == some .cell) = true then (n, NameKind.cell) else (n, k)) :: _) = some .free
    rw [List.lookup_cons] at h
    by_cases hc : (k == NameKind.free && env.scope.kind == .function && env.kindOf n == some .cell) = true
    · rw [if_pos hc]
      simp only [List.lookup_cons]
      cases hb : x == n with
      | true => exact .inl rfl
      | false => rw [hb] at h; exact ih h
    · rw [if_neg hc]
      simp only [List.lookup_cons]
      cases hb : x == n with
      | true => rw [hb] at h; exact .inr h
      | false => rw [hb] at h; exact ih h

def Cx.comp (X : Cx) (N : List Str) (scope : Scope) (cl : List (Str × Addr)) (C : Addr) (fp : List Addr) (s : Shared) (H : Hp) : Cx :=
  { prog := X.prog, w := X.w, K := X.K, mg := X.mg, base := X.base, A := X.A, N := N, s₀ := s, H₀ := H, env := compEnvC scope cl C X.env, outer := X.stack, stack := X.stack, ex := fp, fn := fun _ => false,
    calm := X.calm, pn := [], xe := fun _ _ => False }

def inner (js : List (Option Nat)) (σ : St) : St := js.map fun o => match o with
  | none => none
  | some j => (σ[j]?).getD none

def jsOk (N : List Str) (scope : Scope) : List Str → List (Option Nat) → Bool
  | [], [] => true
  | x :: r, o :: q => (match o with | none => true | some j => N[j]? == some x && scope.names.lookup x == some .free) && jsOk N scope r q
  | _, _ => false

theorem jsOk_len {N : List Str} {scope : Scope} : ∀ {N' : List Str} {js : List (Option Nat)}, jsOk N scope N' js = true → js.length = N'.length
  | [], [], _ => rfl
  | _ :: r, _ :: q, h => by
    have h' := (Bool.and_eq_true_iff.mp h).2
    rw [List.length_cons, List.length_cons, jsOk_len h']
theorem jsOk_at {N : List Str} {scope : Scope} : ∀ {N' : List Str} {js : List (Option Nat)} {i : Nat} {x : Str} {j : Nat}, jsOk N scope N' js = true → N'[i]? = some x → js[i]? = some (some j) → N[j]? = some x ∧ scope.names.lookup x = some .free
  | [], [], _, _, _, _, h, _ => by simp at h
  | y :: r, o :: q, 0, x, j, h, h1, h2 => by
    have h' := (Bool.and_eq_true_iff.mp h).1
    simp at h1 h2
    subst h1 h2
    have h'' := Bool.and_eq_true_iff.mp h'
    exact ⟨eq_of_beq h''.1, eq_of_beq h''.2⟩
  | y :: r, o :: q, i + 1, x, j, h, h1, h2 => by
    have h' := (Bool.and_eq_true_iff.mp h).2
    exact jsOk_at (i := i) h' (by simpa using h1) (by simpa using h2)

theorem inner_at {js : List (Option Nat)} {σ : St} {i : Nat} {v : V} (h : (inner js σ)[i]? = some (some v)) : ∃ j, js[i]? = some (some j) ∧ σ[j]? = some (some v) := by
  unfold inner at h
  rw [List.getElem?_map] at h
  cases e : js[i]? with
  | none => rw [e] at h; cases h
  | some o =>
    rw [e] at h
    cases o with
    | none => cases h
    | some j =>
      refine (xWP j rfl ?_)
      have h' : (σ[j]?).getD none = some v := by simpa using h
      cases q : σ[j]? with
      | none => rw [q] at h'; cases h'
      | some z => rw [q] at h'; simp at h'; rw [h']

structure Fills (σ σ' : St) : Prop where
  len : σ.length = σ'.length
  at_ : ∀ (i : Nat) v, σ[i]? = some (some v) → σ'[i]? = some (some v)
theorem Fills.refl (σ : St) : Fills σ σ := ⟨rfl, fun _ _ h => h⟩
theorem Fills.set {σ σ' : St} (f : Fills σ σ') {i : Nat} (x : V) (h : σ[i]? = some none) : Fills σ (σ'.set i (some x)) := by
  refine ⟨by rw [List.length_set]; exact f.len, fun j v q => ?_⟩
  by_cases e : i = j
  · subst e; rw [h] at q; cases q
  · rw [List.getElem?_set_ne e]; exact f.at_ j v q

section
variable {X : Cx} {pins : List (Addr × Obj)} {σ : St} {H : Hp} {s : Shared}

theorem comp_inv {N' : List Str} {js : List (Option Nat)} {scope : Scope} {fp : List Addr} {m : Str → Option Value} {h1 : Heap} {tk : Nat} (I : Inv X pins σ H s)
    (hk : scope.kind = .function) (hcell : ∀ y ∈ scope.names, y.2 ≠ .cell) (hfree : ∀ y ∈ scope.names, y.2 = .free → X.env.kindOf y.1 = some .cell ∨ X.env.kindOf y.1 = some .free) (hjs : jsOk X.N scope N' js = true)
    (fpok : ∀ b ∈ fp, FpOk X pins H b) (fpl : ∀ b ∈ fp, b < s.heap.objs.size) (hns : h1.Ns s.heap.objs.size m) (hsb : ∀ b o, s.heap.get? b = some o → h1.get? b = some o) :
    Inv (X.comp N' scope (clOf X.env.cells scope.names []) s.heap.objs.size fp s H) [] (inner js σ) H { s with heap := h1, toks := tk } := by
  have incl : ∀ {x c}, (clOf X.env.cells scope.names []).lookup x = some c → X.env.cells.lookup x = some c := fun {x c} q => by
    rcases clOf_in _ _ q with z | z
    · simp at z
    · exact z
  have inn : ∀ {x : Str}, (x, NameKind.free) ∈ scope.names → ∃ c, (clOf X.env.cells scope.names []).lookup x = some c := fun {x} q => clOf_has _ _ _ (.inl ⟨q, I.ok.has x (hfree _ q rfl)⟩)
  have fnot : ∀ b ∈ fp, b ∉ frs X.stack := fun b hb z => (List.mem_cons.mp (I.stkSub b z)).elim (fpok b hb).2.1 (fpok b hb).2.2.1
  refine ⟨⟨I.ok.mod, ?_, I.ok.glob, I.ok.blt, Nat.le_refl _, ?_, ?_, ?_, I.ok.hd, I.ok.frames, .inl rfl, ?_, I.bs, Nat.le_trans I.ok.bsz I.sz, ?_, fnot, I.stack, I.stkFree⟩, rfl, I.bare, Un.kept hsb, (xWP m hns ?_), ?_, I.fresh, ?_, ?_, I.hok.kept hsb, ?_⟩
  · exact hk
  · intro x y c e1 e2
    exact I.ok.inj x y c (incl e1) (incl e2)
  · intro x h
    have q : ∃ k, (x, k) ∈ scope.names ∧ k = .free := by
      rcases h with h | h
      · refine yWP (relabel_of (env := X.env) h) fun k q1 q2 => ?_
        rcases q2 with rfl | ⟨q2, _⟩
        · exact absurd rfl (hcell _ q1)
        · exact (xWP k q1 q2)
      · refine yWP (relabel_of (env := X.env) h) fun k q1 q2 => ?_
        rcases q2 with rfl | ⟨_, q2⟩
        · exact (xWP _ q1 rfl)
        · cases q2
    refine yWP q fun k q1 yr178 => ?_; try clear q; subst yr178
    exact inn q1
  · intro x c h _
    cases h
  · intro b hb
    exact ⟨Nat.ne_of_lt (fpl b hb), fun x c e => (fpok b hb).2.2.2.2.1 x c (incl e)⟩
  · intro b o e hb
    rcases (fpok b hb).2.2.2.1 with z | z
    · exact I.ok.noex b o e z
    · exact absurd (Nat.lt_of_lt_of_le (Heap.lt_size e) (Nat.le_trans I.ok.bsz z)) (Nat.lt_irrefl _)
  · intro i x v e1 e2 _
    refine yWP (inner_at e2) fun j q1 q2 => ?_
    obtain ⟨q3, q4⟩ := jsOk_at hjs e1 q1
    have q5 : (x, NameKind.free) ∈ scope.names := by
      have : ∀ {l : List (Str × NameKind)}, l.lookup x = some .free → (x, NameKind.free) ∈ l := by
        intro l
        induction l with
        | nil => intro z; simp at z
        | cons y r ih =>
          intro z
          obtain ⟨n, k⟩ := y
          rw [List.lookup_cons] at z
          cases hb : x == n with
          | true => rw [hb] at z; have e := eq_of_beq hb; subst e; cases z; exact List.mem_cons_self
          | false => rw [hb] at z; exact List.mem_cons_of_mem _ (ih z)
      exact this q4
    have kf := hfree _ q5 rfl
    refine yWP (id I.loc) fun m0 hn0 hl0 => ?_
    refine yWP (hl0 j x v q3 q2 (kf.elim (fun z => .inr (.inl z)) fun z => .inr (.inr z))) fun u r lk => ?_
    refine (xWP u r ?_)
    rcases lk with ⟨z, _⟩ | ⟨_, c, hc, o, ho, hd⟩
    · rcases kf with k | k
      · rw [k] at z; cases z
      · rw [k] at z; cases z
    · obtain ⟨c', hc'⟩ := inn q5
      have e := incl hc'
      rw [hc] at e; cases e
      exact .inr (xPWPWP (relabel_free q4) c hc' o (hsb _ _ ho) hd)
  · intro x c e
    refine yWWP (I.cell x c (incl e)) fun v o ho hd => ?_
    exact (xWWP v o (hsb _ _ ho) hd)
  · intro x c e
    exact I.freeC x c (incl e)
  · intro p hp
    cases hp
  · show (inner js σ).length = N'.length
    unfold inner
    rw [List.length_map]
    exact jsOk_len hjs

def PF (X : Cx) (ifs : List Expr) (t : TT) : Prop :=
  ∀ (pins : List (Addr × Obj)) (s : Shared) (σ : St) (H : Hp) (Q : Bool → Hp → Prop), Inv X pins σ H s → t σ H Q →
    wpAny (model X.prog X.w) X.A (forIn ifs true fun c r => if r = true then do let ok ← isTrue c X.env (eval c X.env); pure (ForInStep.yield ok) else pure (ForInStep.yield r)) (TP X pins σ Q) X.xe s
def tTrue : TT := fun _ H Q => Q true H
theorem pf_nil : PF X [] tTrue := fun _ _ _ H _ I h => wpAny_tests_nil (xWP H I h)
theorem pf_one {c : Expr} {t : TT} (h : PT X c t) : PF X [c] t := fun pins s σ H Q I hw => wpAny_tests_one (h pins s σ H Q I hw)
end

section
variable {prog : Program} {w : World} {A : Around} {E : Value → Shared → Prop} {R : Result → Shared → Prop} {s : Shared}
theorem compLoop_go {elt target iter : Expr} {ifs : List Expr} {scope : Scope} {pos : Pos} {it acc : Value} {env : Env} (I : Nat → Shared → Prop)
    (turn : ∀ n s, I n s → wpAny (model prog w) A (pyNext it) (fun r s₁ => match r with
      | none => R (.ok .next) s₁
      | some v => wpAny (model prog w) A (letOwnedTupleGo target it v) (fun _ s₀ => wpAny (model prog w) A (assign target env v) (fun _ s₂ =>
          wpAny (model prog w) A (forIn ifs true fun c r => if r = true then do let ok ← isTrue c env (eval c env); pure (ForInStep.yield ok) else pure (ForInStep.yield r)) (fun ok s₃ =>
            if ok = true then wpAny (model prog w) A (eval elt env) (fun x s₄ =>
              wpAny (model prog w) A (call (.builtin "list.append") [acc, x]) (fun _ s₅ => ∃ m, m < n ∧ I m s₅) (fun _ _ => False) s₄) (fun _ _ => False) s₃
            else ∃ m, m < n ∧ I m s₃) (fun _ _ => False) s₂) (fun _ _ => False) s₀) (fun _ _ => False) s₁) (fun _ _ => False) s)
    (n : Nat) (h : I n s) :
    codeAny (model prog w) A (.compLoop (.ListComp elt [⟨target, iter, ifs, 0⟩] scope pos) 0 it acc env) R s := by
  refine codeAny_loop rfl I (fun n s hI => ?_) n h
  show wpAny _ A ((compTurn (.ListComp elt [⟨target, iter, ifs, 0⟩] scope pos) 0 it acc env).onRaise (fun x => do noteFrame x env; theTreesLotGoes x)) _ _ s
  refine wpAny_noted ?_
  rw [compTurn_list]
  refine wpAny_bind (wpAny_standAt (wpAny_bind (wpAny_mono (turn n s hI) (fun r s₁ h₁ => ?_) fun _ _ h' => h'.elim)))
  cases r with
  | none => exact wpAny_pure h₁
  | some v =>
    refine wpAny_bind (wpAny_mono h₁ (fun _ s₀ h₀ => ?_) fun _ _ h' => h'.elim)
    refine wpAny_bind (wpAny_mono h₀ (fun _ s₂ h₂ => wpAny_bind (wpAny_mono h₂ (fun ok s₃ h₃ => ?_) fun _ _ h' => h'.elim)) fun _ _ h' => h'.elim)
    cases ok with
    | false => exact wpAny_pure ⟨rfl, h₃⟩
    | true =>
      exact wpAny_bind (wpAny_bind (wpAny_mono h₃ (fun x s₄ h₄ => wpAny_bind (wpAny_mono h₄ (fun _ s₅ h₅ => wpAny_pure (wpAny_pure ⟨rfl, h₅⟩)) fun _ _ h' => h'.elim)) fun _ _ h' => h'.elim))
end

section
variable {X : Cx}
def tComp (js : List (Option Nat)) (wi : TI) (g : TG) (tc : TT) (te : TE) : TE := fun σ H Q => wi σ H fun J H1 => ∀ D, H1 D = none → ∃ W : Nat → Nat → List V → Hp → Prop, (∃ m, W 0 m [] (upd H1 D (.lst []))) ∧
  ∀ i m ys H, W i m ys H → (J.stop i H ∧ Q (.ref D) H) ∨ (J.go i H ∧ ∃ N : List V → Hp → Prop, (∀ ys' H', N ys' H' → ∃ m', m' < m ∧ W (i + 1) m' ys' H') ∧ ∀ x H', J.yld i H x H' → g x (inner js σ) H' fun σ2 H2 => Fills (inner js σ) σ2 ∧ tc σ2 H2 fun b H3 =>
    if b = true then te σ2 H3 fun y H4 => H4 D = some (.lst ys) ∧ ys.length < sizeLine ∧ N (ys ++ [y]) (upd H4 D (.lst (ys ++ [y]))) else N ys H3)

theorem comp_block {N' : List Str} {js : List (Option Nat)} {scope : Scope} {target iter elt : Expr} {ifs : List Expr} {pos : Pos} {g : TG} {tc : TT} {te : TE} {pins : List (Addr × Obj)} {σ : St} {H : Hp} {s : Shared} {Q : VK} {E : Value → Shared → Prop}
    {RR : Value → Addr → Result → Shared → Prop} {it : Addr} {fp : List Addr} {tn : Nat → Heap → Prop} {J : It} (I : Inv X pins σ H s) (T : Turn X.prog X.w X.K target J fp it tn) (st : tn 0 s.heap) (f : ∀ b ∈ fp, FpOk X pins H b) (hc : X.calm = true)
    (q : ∀ D, H D = none → ∃ W : Nat → Nat → List V → Hp → Prop, (∃ m, W 0 m [] (upd H D (.lst []))) ∧
      ∀ i m ys H, W i m ys H → (J.stop i H ∧ Q (.ref D) H) ∨ (J.go i H ∧ ∃ N : List V → Hp → Prop, (∀ ys' H', N ys' H' → ∃ m', m' < m ∧ W (i + 1) m' ys' H') ∧ ∀ x H', J.yld i H x H' → g x (inner js σ) H' fun σ2 H2 => Fills (inner js σ) σ2 ∧ tc σ2 H2 fun b H3 =>
    if b = true then te σ2 H3 fun y H4 => H4 D = some (.lst ys) ∧ ys.length < sizeLine ∧ N (ys ++ [y]) (upd H4 D (.lst (ys ++ [y]))) else N ys H3))
    (hg : ∀ cl C fp s H, PG (X.comp N' scope cl C fp s H) target g) (hf : ∀ cl C fp s H, PF (X.comp N' scope cl C fp s H) ifs tc) (he : ∀ cl C fp s H, PE (X.comp N' scope cl C fp s H) elt te)
    (hk : scope.kind = .function) (hcell : ∀ y ∈ scope.names, y.2 ≠ .cell) (hfree : ∀ y ∈ scope.names, y.2 = .free → X.env.kindOf y.1 = some .cell ∨ X.env.kindOf y.1 = some .free) (hjs : jsOk X.N scope N' js = true)
    (hRR : ∀ D C H' s', Inv X pins σ H' s' → Q (.ref D) H' → (∃ m, s'.heap.Ns C m) → H' C = none → C ≠ X.env.locals → X.s₀.heap.objs.size ≤ C → C ∉ X.fs → (∀ x c, X.env.cells.lookup x = some c → c ≠ C) → (∀ p ∈ X.pn ++ pins, p.1 ≠ C) →
      RR (.ref D) C (.ok .next) s') :
    wpAny (model X.prog X.w) X.A (newList []) (fun acc s₃ => wpAny (model X.prog X.w) X.A (newFunctionEnv scope X.env.globals (clOf X.env.cells scope.names []) [] X.env.qual none .none (some X.env)) (fun cenv s₄ =>
      codeAny (model X.prog X.w) X.A (.compStart (.ListComp elt [⟨target, iter, ifs, 0⟩] scope pos) 0 (.ref it) acc { cenv with scope := relabel scope X.env }) (RR acc cenv.locals) s₄) E s₃) E s := by
  refine wpAny_newObj_type (wpAny_newFunctionEnv hcell (by intro y hy; simp at hy) (fun h₁ hns₁ hsb₁ => ?_) hk)
  dsimp only at hns₁ hsb₁ ⊢
  have I3 : Inv X pins σ (upd H s.heap.objs.size (.lst [])) { s with heap := s.heap.push { cls := .type "list", dict := none, data := .seq ([] : List Value).toArray } } := I.lnew (its := []) (ys := []) (t' := s.toks) .nil (Nat.zero_le _)
  refine yWP (q s.heap.objs.size I.fresh) fun W ye183_1 turn => ?_; obtain ⟨m0, w0⟩ := ye183_1
  generalize hD : s.heap.objs.size = D at I3 turn w0 ⊢
  have hsz : (s.heap.push { cls := .type "list", dict := none, data := .seq ([] : List Value).toArray }).objs.size = D + 1 := by rw [Heap.size_push, hD]
  have fpl : ∀ b ∈ fp, b < D := fun b hb => by
    refine yWP (T.obj _ _ st b hb) fun o e _ => ?_
    rw [← hD]; exact Heap.lt_size e
  generalize hs3 : ({ s with heap := s.heap.push { cls := .type "list", dict := none, data := .seq ([] : List Value).toArray } } : Shared) = s3 at I3
  have eh : s.heap.push { cls := .type "list", dict := none, data := .seq ([] : List Value).toArray } = s3.heap := by rw [← hs3]
  rw [eh] at hns₁ hsb₁ hsz ⊢
  have f3 : ∀ b ∈ fp, FpOk X pins (upd H D (.lst [])) b := fun b hb => ⟨by rw [upd_ne (Nat.ne_of_lt (fpl b hb))]; exact (f b hb).1, (f b hb).2⟩
  have keep1 : ∀ b o, s3.heap.get? b = some o → h₁.get? b = some o := fun b o e => hsb₁.extBut b o (Nat.ne_of_lt (Heap.lt_size e)) (Heap.get?_push_of_some _ e)
  have I4 := comp_inv (N' := N') (js := js) (tk := s.toks + ([] : List (Str × Value)).length) I3 hk hcell hfree hjs f3 (fun b hb => by rw [hsz]; exact Nat.lt_succ_of_lt (fpl b hb)) hns₁ keep1
  have es : ({ s with heap := h₁, toks := s.toks + ([] : List (Str × Value)).length } : Shared) = { s3 with heap := h₁, toks := s.toks + ([] : List (Str × Value)).length } := by rw [← hs3]
  rw [show ({ s with heap := h₁, toks := s.toks + ([] : List (Str × Value)).length } : Shared) = { s3 with heap := h₁, toks := s.toks + ([] : List (Str × Value)).length } from es]
  have st4 : tn 0 h₁ := T.keep _ _ _ st fun b hb o e => keep1 b o (eh ▸ Heap.get?_push_of_some _ e)
  have hCne : s3.heap.objs.size ≠ X.env.locals := Nat.ne_of_gt I3.lt
  have loop : ∀ s4 : Shared, tn 0 s4.heap → Inv (X.comp N' scope (clOf X.env.cells scope.names []) s3.heap.objs.size fp s3 (upd H D (.lst []))) [] (inner js σ) (upd H D (.lst [])) s4 →
      codeAny (model X.prog X.w) X.A (.compLoop (.ListComp elt [⟨target, iter, ifs, 0⟩] scope pos) 0 (.ref it) (.ref D) (compEnvC scope (clOf X.env.cells scope.names []) s3.heap.objs.size X.env)) (RR (.ref D) s3.heap.objs.size) s4 := by
    intro s4 st4 I4
    generalize hX : X.comp N' scope (clOf X.env.cells scope.names []) s3.heap.objs.size fp s3 (upd H D (.lst [])) = X' at I4
    have xprog : X'.prog = X.prog := by rw [← hX]; rfl
    have stat : ∀ {H' : Hp}, (∀ b ∈ fp, H' b = none) → ∀ b ∈ fp, FpOk X' [] H' b := fun hn b hb => by
      rw [← hX]
      refine (xPPPPP (hn b hb) ?_ ?_ (.inl hb) ?_ (fun p hp => nomatch hp))
      · exact Nat.ne_of_lt (by show b < s3.heap.objs.size; rw [hsz]; exact Nat.lt_succ_of_lt (fpl b hb))
      · exact fun z => (List.mem_cons.mp (I3.stkSub b z)).elim (f3 b hb).2.1 (f3 b hb).2.2.1
      · intro x c e
        rcases clOf_in _ _ e with z | z
        · simp at z
        · exact (f3 b hb).2.2.2.2.1 x c z
    have hg' := hg (clOf X.env.cells scope.names []) s3.heap.objs.size fp s3 (upd H D (.lst []))
    have hf' := hf (clOf X.env.cells scope.names []) s3.heap.objs.size fp s3 (upd H D (.lst []))
    have he' := he (clOf X.env.cells scope.names []) s3.heap.objs.size fp s3 (upd H D (.lst []))
    rw [hX] at hg' hf' he'
    have xA : X'.A = X.A := by rw [← hX]; rfl
    have xw : X'.w = X.w := by rw [← hX]; rfl
    have xK : X'.K = X.K := by rw [← hX]; rfl
    have xc : X'.calm = true := by rw [← hX]; exact hc
    have xe : X'.env = compEnvC scope (clOf X.env.cells scope.names []) s3.heap.objs.size X.env := by rw [← hX]; rfl
    have xx : X'.xe = fun _ _ => False := by rw [← hX]; rfl
    have T' : Turn X'.prog X'.w X'.K target J fp it tn := by rw [xprog, xw, xK]; exact T
    rw [← xA, ← xw, ← xprog, ← xe]
    refine compLoop_go (fun n s' => ∃ i ys H', Inv X' [] (inner js σ) H' s' ∧ tn i s'.heap ∧ (∀ b ∈ fp, H' b = none) ∧ W i n ys H') ?_ m0 (xWWWPPP 0 ([]) _ I4 st4 (fun b hb => (f3 b hb).1) w0)
    intro n s5 hq5; refine yWWWPPP hq5 fun i ys H5 I5 st5 fr5 w5 => ?_; try clear hq5
    rcases turn i n ys H5 w5 with ⟨stop, q⟩ | ⟨go, N, hN, step⟩
    · refine thn (T'.done X' rfl rfl rfl xc i [] s5 _ H5 _ I5 (stat fr5) st5 stop) fun r s6 ⟨hr, I6⟩ => ?_
      subst hr
      subst hX
      have I7 : Inv X pins σ H5 s6 := I3.call' (s' := s6) I6.os I6.base I6.hok I6.bare fun b hb => (xPPP ((f3 b hb).2.2.2.1) ((f3 b hb).2.1) ((f3 b hb).2.2.2.2.1) ((f3 b hb).2.2.2.2.2))
      refine yWP I6.loc fun m6 hn6 _ => ?_
      refine hRR D s3.heap.objs.size H5 s6 I7 q ⟨m6, hn6⟩ I6.free hCne I3.sz (I3.nofs (Nat.le_refl _)) (fun x c e z => ?_) (fun p hp z => ?_)
      · obtain ⟨v, y⟩ := I3.cell x c e
        exact absurd (Nat.lt_of_lt_of_le y.lt (by rw [z]; exact Nat.le_refl _)) (Nat.lt_irrefl _)
      · exact absurd (Nat.lt_of_lt_of_le (Heap.lt_size (I3.pin p hp).1) (by rw [z]; exact Nat.le_refl _)) (Nat.lt_irrefl _)
    · refine thn (T'.item X' rfl rfl rfl xc i [] s5 _ H5 _ I5 (stat fr5) st5 go) fun r s6 ⟨u, hr, h6⟩ => ?_
      subst hr
      refine thn h6 fun _ s7 ⟨x, H7, I7, r7, y7, st7, fr7⟩ => ?_
      have I7' := I7.pinned (stat fr7) (T.obj _ _ st7)
      refine wpAny_mono (hg' _ s7 _ H7 x u _ I7' r7 (step x H7 y7)) (fun _ s8 ⟨σ8, H8, I8, fill8, q8⟩ => ?_) (fun _ _ z => by rw [xx] at z; exact z)
      refine wpAny_mono (hf' _ s8 σ8 H8 _ I8 q8) (fun b s9 ⟨H9, I9, q9⟩ => ?_) (fun _ _ z => by rw [xx] at z; exact z)
      have again : ∀ {H' : Hp} {s' : Shared} {ys' : List V}, Inv X' ([] ++ pinsAt fp s7.heap) σ8 H' s' → N ys' H' → ∃ m, m < n ∧ ∃ i ys H', Inv X' [] (inner js σ) H' s' ∧ tn i s'.heap ∧ (∀ b ∈ fp, H' b = none) ∧ W i m ys H' := fun {H' s' ys'} I' n' => by
        refine yWP (hN ys' H' n') fun m' hm w' => ?_
        refine (xWPWWWPPP m' hm (i + 1) ys' H' (I'.unpinned.weak fill8.len fill8.at_) (T.keep _ _ _ st7 fun b hb o e => (I'.pin (b, o) (List.mem_append_right _ (List.mem_append_right _ (mem_pinsAt hb e)))).1) (fun b hb => ?_) w')
        refine yWP (T.obj _ _ st7 b hb) fun o e d => ?_
        exact (I'.pin (b, o) (List.mem_append_right _ (List.mem_append_right _ (mem_pinsAt hb e)))).2.1
      cases b with
      | false => exact again I9 q9
      | true =>
        refine wpAny_mono (he' _ s9 σ8 H9 _ I9 q9) (fun yv s10 ⟨y, H10, I10, ry, hD10, hz, q10⟩ => ?_) (fun _ _ z => by rw [xx] at z; exact z)
        refine wpAny_mono (mt_append (X := X') _ s10 σ8 H10 (.ref D) [y] (.ref D) [yv] (fun _ H' => H' = upd H10 D (.lst (ys ++ [y]))) I10 rfl (.cons ry .nil) (xWWWPPPP D ys y rfl rfl hD10 hz rfl)) (fun _ s11 ⟨_, H11, I11, _, e11⟩ => ?_) (fun _ _ z => by rw [xx] at z; exact z)
        subst e11
        exact again I11 q10
  have l4 := loop { s3 with heap := h₁, toks := s.toks + ([] : List (Str × Value)).length } st4 I4
  exact codeAny_compStart_list l4 (T.self _ 0 _ _ _ st4 l4)

theorem pe_comp {N' : List Str} {js : List (Option Nat)} {scope : Scope} {target iter elt : Expr} {ifs : List Expr} {pos : Pos} {wi : TI} {g : TG} {tc : TT} {te : TE} (hc : X.calm = true) (hi : PI X target iter wi)
    (hg : ∀ cl C fp s H, PG (X.comp N' scope cl C fp s H) target g) (hf : ∀ cl C fp s H, PF (X.comp N' scope cl C fp s H) ifs tc) (he : ∀ cl C fp s H, PE (X.comp N' scope cl C fp s H) elt te)
    (hk : scope.kind = .function := by rfl) (hcell : (scope.names.all fun y => y.2 != .cell) = true := by rfl) (hfree : (scope.names.all fun y => y.2 != .free || (X.env.kindOf y.1 == some .cell || X.env.kindOf y.1 == some .free)) = true := by rfl)
    (hnames : (scope.names.all fun y => y.2 != .local || scope.names.lookup y.1 == some .local) = true := by rfl) (hjs : jsOk X.N scope N' js = true := by rfl) (hs : ∀ x, foldedSetIterable iter X.env x = pure x := by intro _; rfl) :
    PE X (.ListComp elt [⟨target, iter, ifs, 0⟩] scope pos) (tComp js wi g tc te) := by
  have hcell' : ∀ y ∈ scope.names, y.2 ≠ .cell := fun y hy z => by have := List.all_eq_true.mp hcell y hy; simp [z] at this
  have hfree' : ∀ y ∈ scope.names, y.2 = .free → X.env.kindOf y.1 = some .cell ∨ X.env.kindOf y.1 = some .free := fun y hy z => by have := List.all_eq_true.mp hfree y hy; simpa [z] using this
  have hnames' : ∀ y ∈ scope.names, y.2 = .local → scope.names.lookup y.1 = some .local := fun y hy z => by have := List.all_eq_true.mp hnames y hy; simpa [z] using this
  intro pins s σ H Q I h
  rw [eval_ListComp]
  refine wpAny_comprehension_free (use := none) rfl hs (closureFor_ok fun x hx z => I.ok.has x.1 (hfree' x hx z)) hk hnames' ?_
  refine thn (hi pins s σ H _ I h) fun v s1 h1 => thn h1 fun itv s2 h2 => ?_
  refine yWWWWWPPP h2 fun it fp tn J H2 e I2 T yr189 => ?_; try clear h2; refine yPP yr189 fun st2 f2 q2 => ?_; try clear yr189
  subst e
  refine comp_block (RR := fun acc C => compPost (model X.prog X.w) X.A X.xe none (EP X pins σ Q) acc C) I2 T st2 f2 hc q2 hg hf he hk hcell' hfree' hjs ?_
  intro D C H' s' I' q ⟨m, hn⟩ c0 c1 c2 c3 c4 c5
  exact (xWP m hn (fun h' hs' => (xWWPP (.ref D) H' (I'.turned (t' := s'.toks) (fun b o hb e => (hs'.2 b hb).trans e) c0 c1 (.inr c2) c4 c5) rfl q)))

theorem ps_setComp {N' : List Str} {js : List (Option Nat)} {scope : Scope} {target iter elt : Expr} {ifs : List Expr} {pos pos' spos : Pos} {x : Str} {i : Nat} {wi : TI} {g : TG} {tc : TT} {te : TE} (hN : X.N.Nodup) (hi' : X.N[i]? = some x) (hx : Loc X.env.scope x) (hc : X.calm = true) (hi : PI X target iter wi)
    (hg : ∀ cl C fp s H, PG (X.comp N' scope cl C fp s H) target g) (hf : ∀ cl C fp s H, PF (X.comp N' scope cl C fp s H) ifs tc) (he : ∀ cl C fp s H, PE (X.comp N' scope cl C fp s H) elt te)
    (hsw : swapsWith (.ListComp elt [⟨target, iter, ifs, 0⟩] scope pos) (some (.Name x pos')) spos.line X.env = pure true := by rfl)
    (hk : scope.kind = .function := by rfl) (hcell : (scope.names.all fun y => y.2 != .cell) = true := by rfl) (hfree : (scope.names.all fun y => y.2 != .free || (X.env.kindOf y.1 == some .cell || X.env.kindOf y.1 == some .free)) = true := by rfl)
    (hnames : (scope.names.all fun y => y.2 != .local || scope.names.lookup y.1 == some .local) = true := by rfl) (hjs : jsOk X.N scope N' js = true := by rfl) (hs : ∀ x, foldedSetIterable iter X.env x = pure x := by intro _; rfl)
    (hfn : X.fn x = true ∨ X.env.scope.names.lookup x = some .local := by first | exact .inl rfl | exact .inr rfl | assumption) :
    PS X (.Assign [.Name x pos'] (.ListComp elt [⟨target, iter, ifs, 0⟩] scope pos) spos) (tAsg (tComp js wi g tc te) (gName i)) := by
  have hcell' : ∀ y ∈ scope.names, y.2 ≠ .cell := fun y hy z => by have := List.all_eq_true.mp hcell y hy; simp [z] at this
  have hfree' : ∀ y ∈ scope.names, y.2 = .free → X.env.kindOf y.1 = some .cell ∨ X.env.kindOf y.1 = some .free := fun y hy z => by have := List.all_eq_true.mp hfree y hy; simpa [z] using this
  have hnames' : ∀ y ∈ scope.names, y.2 = .local → scope.names.lookup y.1 = some .local := fun y hy z => by have := List.all_eq_true.mp hnames y hy; simpa [z] using this
  intro pins s σ H D I h
  rw [exec_Assign_Name_used _ _ _ _ hsw]
  refine wpAny_bind (wpAny_standAt (wpAny_bind ?_))
  show wpAny _ X.A (do let _ ← comprehension (.ListComp elt [⟨target, iter, ifs, 0⟩] scope pos) scope X.env _ (newList []) false (eval iter X.env) (some (assign (.Name x pos') X.env))) _ _ s
  refine wpAny_bind (wpAny_mono (wpAny_comprehension_free (use := some (assign (.Name x pos') X.env)) (Q := fun _ s' => SP X pins D .next s') rfl hs (closureFor_ok fun x hx z => I.ok.has x.1 (hfree' x hx z)) hk hnames' ?_) (fun _ s' hq => wpAny_pure (wpAny_pure hq)) fun _ _ e => e)
  refine thn (hi pins s σ H _ I h) fun v s1 h1 => thn h1 fun itv s2 h2 => ?_
  refine yWWWWWPPP h2 fun it fp tn J H2 e I2 T yr191 => ?_; try clear h2; refine yPP yr191 fun st2 f2 q2 => ?_; try clear yr191
  subst e
  refine comp_block (Q := fun x H1 => gName i x σ H1 D.nx) (RR := fun acc C => compPost (model X.prog X.w) X.A X.xe (some (assign (.Name x pos') X.env)) (fun _ s' => SP X pins D .next s') acc C) I2 T st2 f2 hc q2 hg hf he hk hcell' hfree' hjs ?_
  intro D' C H' s' I' q ⟨m, hn⟩ c0 c1 c2 c3 c4 c5
  refine yWWWPP (id hn) fun oC es ep hoC hdC rC => ?_
  have I'' : Inv X (pins ++ [(C, oC)]) σ H' s' := I'.pins_of fun p hp => (List.mem_append.mp hp).elim (fun z => I'.pin p (List.mem_append_right _ z)) fun z => by
    have e := List.mem_singleton.mp z
    subst e
    exact (xPPPP hoC c0 c1 c3 (fun v z => by rw [hdC] at z; cases z))
  show wpAny _ X.A (assign (.Name x pos') X.env (.ref D')) _ _ _
  refine wpAny_assign_Name (store_ok I'' hN hi' hx (v := .ref D') rfl (fun s3 I3 => ?_) hfn)
  have hC3 := I3.pin (C, oC) (List.mem_append_right _ (List.mem_append_right _ (List.mem_singleton.mpr rfl)))
  refine (xWP m (xWWWPP oC es ep hC3.1 hdC rC) (fun h' hs' => ?_))
  exact (xWWP _ H' (I3.unpinned.turned (t' := s3.toks) (fun b o hb e => (hs'.2 b hb).trans e) c0 c1 (.inr c2) c4 c5) q)
end

theorem comp_by {J : It} {js : List (Option Nat)} {σ : St} {H1 : Hp} {R : Hp → Prop} {D : Addr} {g : TG} {tc : TT} {te : TE} (n : Nat) (Pv : Nat → List V → Hp → Prop) (h0 : Pv 0 [] (upd H1 D (.lst [])))
    (hs : ∀ i ys H, i < n → Pv i ys H → J.go i H ∧ ∀ x H', J.yld i H x H' → g x (inner js σ) H' fun σ2 H2 => Fills (inner js σ) σ2 ∧ tc σ2 H2 fun b H3 =>
      if b = true then te σ2 H3 fun y H4 => H4 D = some (.lst ys) ∧ ys.length < sizeLine ∧ Pv (i + 1) (ys ++ [y]) (upd H4 D (.lst (ys ++ [y]))) else Pv (i + 1) ys H3)
    (hd : ∀ ys H, Pv n ys H → J.stop n H ∧ R H) :
    ∃ W : Nat → Nat → List V → Hp → Prop, (∃ m, W 0 m [] (upd H1 D (.lst []))) ∧
      ∀ i m ys H, W i m ys H → (J.stop i H ∧ R H) ∨ (J.go i H ∧ ∃ N : List V → Hp → Prop, (∀ ys' H', N ys' H' → ∃ m', m' < m ∧ W (i + 1) m' ys' H') ∧ ∀ x H', J.yld i H x H' → g x (inner js σ) H' fun σ2 H2 => Fills (inner js σ) σ2 ∧ tc σ2 H2 fun b H3 =>
        if b = true then te σ2 H3 fun y H4 => H4 D = some (.lst ys) ∧ ys.length < sizeLine ∧ N (ys ++ [y]) (upd H4 D (.lst (ys ++ [y]))) else N ys H3) := by
  refine (xWP (fun i m ys H => m = n - i ∧ i ≤ n ∧ Pv i ys H) (xWPP n (by simp) (Nat.zero_le _) h0) ?_)
  intro i m ys H hq6; refine yPP hq6 fun ye194_0 hi p => ?_; try clear hq6; subst ye194_0
  by_cases hlt : i < n
  · obtain ⟨go, step⟩ := hs i ys H hlt p
    exact .inr (xPWP go (Pv (i + 1)) (fun ys' H' p' => (xWPPP (n - (i + 1)) (by (first | exact AR.m81 hlt | omega)) rfl hlt p')) step)
  · have e : i = n := by exact AR.n24 hi hlt
    subst e
    exact .inl (hd ys H p)
theorem comp_map {J : It} {js : List (Option Nat)} {σ : St} {H1 : Hp} {R : Hp → Prop} {D : Addr} {g : TG} {te : TE} (n : Nat) (Pv : Nat → List V → Hp → Prop) (h0 : Pv 0 [] (upd H1 D (.lst [])))
    (hs : ∀ i ys H, i < n → Pv i ys H → J.go i H ∧ ∀ x H', J.yld i H x H' → g x (inner js σ) H' fun σ2 H2 => Fills (inner js σ) σ2 ∧ te σ2 H2 fun y H4 => H4 D = some (.lst ys) ∧ ys.length < sizeLine ∧ Pv (i + 1) (ys ++ [y]) (upd H4 D (.lst (ys ++ [y]))))
    (hd : ∀ ys H, Pv n ys H → J.stop n H ∧ R H) :
    ∃ W : Nat → Nat → List V → Hp → Prop, (∃ m, W 0 m [] (upd H1 D (.lst []))) ∧
      ∀ i m ys H, W i m ys H → (J.stop i H ∧ R H) ∨ (J.go i H ∧ ∃ N : List V → Hp → Prop, (∀ ys' H', N ys' H' → ∃ m', m' < m ∧ W (i + 1) m' ys' H') ∧ ∀ x H', J.yld i H x H' → g x (inner js σ) H' fun σ2 H2 => Fills (inner js σ) σ2 ∧ tTrue σ2 H2 fun b H3 =>
        if b = true then te σ2 H3 fun y H4 => H4 D = some (.lst ys) ∧ ys.length < sizeLine ∧ N (ys ++ [y]) (upd H4 D (.lst (ys ++ [y]))) else N ys H3) := by
  refine comp_by n Pv h0 ?_ hd
  simp only [tTrue, if_true]
  exact hs
end L2

set_option Elab.async false
set_option linter.all false
set_option maxRecDepth 100000
set_option maxHeartbeats 4000000
namespace L2
open PySem PySem.Spec PyProof.Rows

section
variable {X : Cx} {tg : Expr}
end

section
variable {X : Cx} {pins : List (Addr × Obj)} {σ : St} {H : Hp} {s : Shared} {h' : Heap}
theorem Inv.turnedNew {t' : Nat} {ch : List Addr} {T : Addr} {o : HO} (I : Inv X pins σ H s) (k : ∀ b u, b ∉ ch → s.heap.get? b = some u → h'.get? b = some u) (there : ∀ b u, s.heap.get? b = some u → ∃ u', h'.get? b = some u') (hT : s.heap.objs.size ≤ T)
    (hf : ∀ b ∈ ch, FpOk X pins H b) (new : ObjOk X.prog X.w (upd H T o) h' T o) : Inv X pins σ (upd H T o) { s with heap := h', toks := t' } := by
  have hn := I.hok.fresh hT
  have nit : ∀ b u, H b = some u → b ∉ ch := fun b u e z => by rw [(hf b z).1] at e; cases e
  refine I.step (g' := s.gens) (d' := s.drawn) (ch := ch) (fun b hb => ?_) (fun b o _ _ hc e _ => k b o hc e) (fun b o _ _ hc e _ => ⟨o.slots, k b o hc e⟩) (fun b u hc e n => ?_) (fun b u hc e => there b u e)
    (fun b xs e => ?_) (fun b ob u e => ?_) (fun b ps e => ⟨#[], ?_⟩) (fun m hm => ?_) (fun b u e => ?_) I.bare
  · exact (xPPP ((hf b hb).2.2.2.1) ((hf b hb).2.1) ((hf b hb).2.2.2.2.1) ((hf b hb).2.2.2.2.2))
  · rw [upd_ne (Nat.ne_of_lt (Nat.lt_of_lt_of_le (Heap.lt_size e) hT))]; exact n
  · rw [upd_ne (ne_of_none e hn)]; exact e
  · rw [upd_ne (ne_of_none e hn)]; exact e
  · rw [upd_ne (ne_of_none e hn), e]; simp
  · refine yWWWP hm fun ob es ep ho r => ?_; try clear hm
    exact (xWWWP ob es ep (k _ ob (fun z => (hf _ z).2.1 rfl) ho) r)
  · by_cases hb : b = T
    · subst hb; rw [upd_same] at e; cases e; exact new
    · rw [upd_ne hb] at e
      refine (I.hok b u e).stay (fun c v hc q => k c v ?_ q) (fun c q => by rw [upd_ne (ne_of_none q hn)]; exact q) fun c xs q => by rw [upd_ne (ne_of_none q hn)]; exact q
      rcases hc with z | z
      · rw [z]; exact nit b u e
      · exact nit c _ z
end

def Ite (K : PySem.W.Frag) (a : Addr) : It :=
  ⟨fun i H => ∃ xs x, SqL K H a xs ∧ xs[i]? = some x, fun i H v H' => ∃ T x, v = .ref T ∧ H T = none ∧ H' = upd H T (.tup [.int i, x]) ∧ ∀ xs, SqL K H a xs → xs[i]? = some x, fun i H => ∃ xs, SqL K H a xs ∧ xs.length ≤ i⟩
theorem turn_enum {P : Program} {w : World} {K : PySem.W.Frag} {elts : List Expr} {k : Nat} {pos : Pos} (a e it : Addr) (hei : e ≠ it) : Turn P w K (.Tuple elts k pos) (Ite K a) [e, it] e (fun i h => (∃ old, IsEnum h e it i old) ∧ h.IsListIter it a i) where
  mem := by simp
  obj := fun i h st b hb => by
    refine yPWPP st fun ye196_0 o ho hc hd => ?_; try clear st; obtain ⟨old, he⟩ := ye196_0
    rcases List.mem_cons.mp hb with rfl | hb
    · exact (xWP _ he (fun v z => by
        have z' : Data.fields _ = Data.cell v := z
        cases z'))
    · have e' := List.mem_singleton.mp hb
      subst e'
      exact (xWP o ho (fun v z => by rw [hd] at z; cases z))
  keep := fun i h h' st k => by
    obtain ⟨⟨old, he⟩, hit⟩ := st
    exact ⟨⟨old, k e (by simp) _ he⟩, hit.at fun o x => k it (by simp) o x⟩
  item := by
    intro X hP hw hK hc i pins s σ H E I hf st hg
    subst hP hw hK
    obtain ⟨⟨old, he⟩, hit⟩ := st
    refine yWWP hg fun xs x hq hx => ?_; try clear hg
    refine yWPP (I.list hq) fun its rv pl hz => ?_
    refine yWP (rv.get hx) fun u hu ru => ?_
    have hux : its.toArray[i]? = some u := by simpa using hu
    refine wpAny_pyNext_enum_item he hit pl.isList hux hei fun h' ho hit' hT hsz hk => ?_
    refine (xWP _ rfl ?_)
    have kk : ∀ b v, b ∉ [e, it] → s.heap.get? b = some v → h'.get? b = some v := fun b v hb q => hk b v (fun z => hb (by simp [z])) (fun z => hb (by simp [z])) q
    have th : ∀ b v, s.heap.get? b = some v → ∃ v', h'.get? b = some v' := fun b v q => by
      by_cases h1 : b = e
      · subst h1; exact ⟨_, ho⟩
      · by_cases h2 : b = it
        · subst h2; refine yWP hit' fun o q1 _ => ?_; try clear hit'; exact ⟨_, q1⟩
        · exact ⟨v, hk b v h1 h2 q⟩
    have I1 : Inv X pins σ (upd H s.heap.objs.size (.tup [.int i, x])) { s with heap := h', toks := s.toks + 1 } :=
      I.turnedNew (ch := [e, it]) kk th (Nat.le_refl _) hf (xPWP (by show 2 ≤ sizeLine; decide) ([.int i s.toks, u]) (.cons ⟨_, rfl⟩ (.cons ru .nil)) (xWPP _ hT rfl ⟨ _, rfl⟩))
    refine wpAny_letOwnedTupleGo_enum ho fun h2 he2 hs2 => ?_
    have fe := hf e (by simp)
    have fi := hf it (by simp)
    have hTe : e ≠ s.heap.objs.size := Nat.ne_of_lt (Heap.lt_size he)
    have hTi : it ≠ s.heap.objs.size := by refine yWP hit fun o q1 _ => ?_; try clear hit; exact Nat.ne_of_lt (Heap.lt_size q1)
    have I2 : Inv X pins σ (upd H s.heap.objs.size (.tup [.int i, x])) { s with heap := h2, toks := s.toks + 1 } :=
      Inv.turned (s := { s with heap := h', toks := s.toks + 1 }) (h' := h2) (t' := s.toks + 1) (it := e) I1 (fun b o hb q => (hs2.2 b hb).trans q) (by rw [upd_ne hTe]; exact fe.1) fe.2.1 fe.2.2.2.1 fe.2.2.2.2.1 fe.2.2.2.2.2
    refine (xWWPPPP (.ref s.heap.objs.size) _ I2 rfl (xWWPPP s.heap.objs.size x rfl I.fresh rfl (fun ys hys => by rw [I.list_inj hys hq]; exact hx)) ⟨⟨_, by simpa using he2⟩, hit'.at fun o q => (hs2.2 it hei.symm).trans q⟩ (fun b hb => ?_))
    rcases List.mem_cons.mp hb with rfl | hb
    · rw [upd_ne hTe]; exact fe.1
    · have e' := List.mem_singleton.mp hb
      subst e'
      rw [upd_ne hTi]; exact fi.1
  done := by
    intro X hP hw hK hc i pins s σ H E I hf st hg
    subst hP hw hK
    obtain ⟨⟨old, he⟩, hit⟩ := st
    refine yWP hg fun xs hq hl => ?_; try clear hg
    refine yWPP (I.list hq) fun its rv pl hz => ?_
    have hlen := rv.length
    obtain ⟨f0, f1, f2, f3, f4, f5⟩ := hf it (by simp)
    refine wpAny_pyNext_enum_end (I.ok.hd hc) he hit pl.isList (by simp; exact AR.n22d hlen hl) fun h' eb => ⟨rfl, ?_⟩
    exact I.turned (t' := s.toks) (fun b o hb q => eb b o hb q) f0 f1 f3 f4 f5
  self := fun _ _ _ _ _ st h => by
    obtain ⟨⟨old, he⟩, _⟩ := st
    exact wpAny_pyIter_enum he h

section
variable {X : Cx}
def iEnum (K : PySem.W.Frag) (ta : TA) : TI := fun σ H R => ta σ H fun vs H1 => ∃ a, vs = [.ref a] ∧ (∃ xs, SqL K H1 a xs) ∧ R (Ite K a) H1
theorem pi_enum {a : Expr} {ta : TA} {p pos : Pos} {elts : List Expr} {k : Nat} {tpos : Pos} (hg : Gl X "enumerate") (hm : X.mg "enumerate" = none) (ha : PA X [a] ta) (hs : starEach [a] X.env = [(false, eval a X.env)] := by rfl) :
    PI X (.Tuple elts k tpos) (.Call (.Name "enumerate" p) [a] [] pos) (iEnum X.K ta) := by
  intro pins s σ H R I h
  refine Call_ (ld_blt I hg hm (show bootBuiltins "enumerate" = some (.type "enumerate") by decide +kernel) (PyProof.Rows.callWith_type1 (thn (ha pos pins s σ H _ I h) fun us s1 ⟨vs, H1, I1, r1, q1⟩ => ?_) hs rfl))
  refine yWPP q1 fun l e ye204_2 q => ?_; try clear q1; obtain ⟨xs, hq⟩ := ye204_2
  subst e
  cases r1 with
  | cons r rr =>
    cases rr
    cases r
    refine yWPP (I1.list hq) fun its rv pl hz => ?_
    refine call_enumerate_list pl.isList fun h' he hit hsz hk => ?_
    refine wpAny_pyIter_enum he ?_
    have I2 : Inv X pins σ H1 { s1 with heap := h' } := I1.kept (t' := s1.toks) hk
    refine (xWWWWWPPP (s1.heap.objs.size + 1) ([s1.heap.objs.size + 1, s1.heap.objs.size]) _ _ H1 rfl I2 (turn_enum l _ _ (Nat.succ_ne_self _)) (xPP ⟨⟨_, by simpa using he⟩, hit⟩ (fun b hb => ?_) q))
    rcases List.mem_cons.mp hb with rfl | hb
    · exact I1.fpOk (Nat.le_succ _) (I1.hok.fresh (Nat.le_succ _))
    · have e' := List.mem_singleton.mp hb
      subst e'
      exact I1.fpOk (Nat.le_refl _) (I1.hok.fresh (Nat.le_refl _))
end

mutual
inductive Bd (K : PySem.W.Frag) (H : Hp) : V → PyData → Prop
  | int (i : Int) : Bd K H (.int i) (.int i)
  | non : Bd K H .non .none
  | bl (b : Bool) : Bd K H (.bl b) (.bool b)
  | lst {a : Addr} {xs : List V} {ds : List PyData} : SqL K H a xs → Bds K H xs ds → Bd K H (.ref a) (.list ds)
  | tup {a : Addr} {xs : List V} {ds : List PyData} : SqT K H a xs → Bds K H xs ds → Bd K H (.ref a) (.tuple ds)
inductive Bds (K : PySem.W.Frag) (H : Hp) : List V → List PyData → Prop
  | nil : Bds K H [] []
  | cons {x : V} {xs : List V} {d : PyData} {ds : List PyData} : Bd K H x d → Bds K H xs ds → Bds K H (x :: xs) (d :: ds)
end
theorem Bds.ints {K : PySem.W.Frag} {H : Hp} : ∀ ns : List Int, Bds K H (ns.map V.int) (ns.map PyData.int)
  | [] => .nil
  | n :: ns => .cons (.int n) (Bds.ints ns)
section
variable {X : Cx} {pins : List (Addr × Obj)} {σ : St} {H : Hp} {s : Shared}
mutual
theorem Bd.reads (I : Inv X pins σ H s) : ∀ {x : V} {d : PyData} {u : Value}, Bd X.K H x d → RelV x u → ∃ as, Reads s.heap u d as
  | _, _, u, .int i, r => by obtain ⟨t, rfl⟩ := r; exact ⟨_, .int i t⟩
  | _, _, u, .non, r => by cases r; exact ⟨_, .none⟩
  | _, _, u, .bl b, r => by cases r; exact ⟨_, .bool b⟩
  | _, _, u, .lst hq b, r => by
    cases r
    refine yWPP (I.list hq) fun its rv ye206_2 hz => ?_; obtain ⟨o, n, e, hc, _, hd⟩ := ye206_2
    obtain ⟨as, h⟩ := Bds.reads I b rv
    exact ⟨_, .list e hc hd (by simpa using h)⟩
  | _, _, u, .tup hq b, r => by
    cases r
    refine yWPP (I.tuple hq) fun its rv ye207_2 hz => ?_; obtain ⟨o, e, hc, n, hd⟩ := ye207_2
    obtain ⟨as, h⟩ := Bds.reads I b rv
    exact ⟨_, .tuple e hc hd (by simpa using h)⟩
theorem Bds.reads (I : Inv X pins σ H s) : ∀ {xs : List V} {ds : List PyData} {us : List Value}, Bds X.K H xs ds → Vals xs us → ∃ as, ReadsAll s.heap us ds as
  | _, _, _, .nil, r => by cases r; exact ⟨_, .nil⟩
  | _, _, _, .cons b bs, r => by
    cases r with
    | cons r rr =>
      obtain ⟨as, h⟩ := Bd.reads I b r
      obtain ⟨bs', h'⟩ := Bds.reads I bs rr
      exact ⟨_, .cons h h'⟩
end
end
section
variable {X : Cx}
def rEqD (K : PySem.W.Frag) (neg : Bool) : R2 := fun x y H Q => ∃ dx dy, Bd K H x dx ∧ Bd K H y dy ∧ SeqAt.shaped dx = true ∧ SeqAt.shaped dy = true ∧ Q (.bl (PyData.eqv dx dy ^^ neg)) H
theorem op_neD (hu : X.A.units + 64 < cLine) : OpR X (compareOp .NotEq) (rEqD X.K true) := by
  intro pins s σ H x y v u Q I rx ry h
  refine yWWPPPP h fun dx dy bx b_y sx sy q => ?_; try clear h
  obtain ⟨as, r1⟩ := bx.reads I rx
  obtain ⟨bs, r2⟩ := b_y.reads I ry
  exact ne_dataH r1 r2 sx sy hu (xWWPP (.bl _) H I rfl (by simpa using q))
end

section
variable {X : Cx}
end
end L2
namespace L2
open PySem PySem.Spec PyProof.Rows
theorem iteFb {c : Bool} {A B : Prop} (hc : c = false) (h : B) : if c = true then A else B := by subst hc; exact iteF h
theorem iteTb {c : Bool} {A B : Prop} (hc : c = true) (h : A) : if c = true then A else B := by subst hc; exact iteT h
theorem same_new {H : Hp} {p : Addr} (h : H p = none) (o : HO) : Same H (upd H p o) := fun b u q => by rw [upd_ne (ne_of_none q h)]; exact q
end L2
namespace L2
open PySem PySem.Spec PyProof.Rows
end L2
namespace L2
open PySem PySem.Spec PyProof.Rows
section
variable {X : Cx} {K : PySem.W.Frag}
theorem kix_list (h : X.K = K) : IxR X (rIxL K) := by subst h; exact ix_list
theorem kcall_list (h : X.K = K) : CallR X (.type "list") (fun xs H Q => ∃ p ys, xs = [.ref p] ∧ (SqL K H p ys ∨ SqT K H p ys) ∧ ∀ l, H l = none → Q (.ref l) (upd H l (.lst ys))) := by subst h; exact call_list_of
theorem kop_notIn (h : X.K = K) : OpR X (compareOp .NotIn) (rIn K true) := by subst h; exact op_notIn_seq
theorem kpg_tup {es : List Expr} {k : Nat} {t : TGs} {n : Nat} {pos : Pos} (e : X.K = K) (hc : X.calm = true) (h : PGs X es t)
    (hn : (assignEach es X.env).length = n := by rfl) (hst : (assignEach es X.env).findIdx? (·.1) = none := by rfl) : PG X (.Tuple es k pos) (gTup K n t) := by subst e; exact pg_tup hc h hn hst
end
end L2

namespace MM
def oth (e : Nat) : Nat := if e % 2 = 0 then e + 1 else e - 1
theorem oth_lt {n e : Nat} (h : e < 2 * n) : oth e < 2 * n := by unfold oth; split <;> omega
theorem oth_half (e : Nat) : oth e / 2 = e / 2 := by
  unfold oth
  split <;> rename_i h
  · exact AR.z4 h
  · exact AR.z3 h
theorem oth_mod (e : Nat) : oth e % 2 = 1 - e % 2 := by
  unfold oth
  split <;> rename_i h
  · exact AR.z2 h
  · exact AR.z1 h
theorem half_mod {a b : Nat} (h1 : a / 2 = b / 2) (h2 : a % 2 = b % 2) : a = b := by rw [← Nat.div_add_mod a 2, ← Nat.div_add_mod b 2, h1, h2]
theorem oth_oth (e : Nat) : oth (oth e) = e := half_mod (by rw [oth_half, oth_half]) (by rw [oth_mod, oth_mod]; exact Nat.sub_sub_self (Nat.le_of_lt_succ (Nat.mod_lt e (Nat.zero_lt_succ 1))))
theorem oth_inj {a b : Nat} (h : oth a = oth b) : a = b := by rw [← oth_oth a, ← oth_oth b, h]

theorem nodup_bound : ∀ (N : Nat) (l : List Nat), l.Nodup → (∀ x ∈ l, x < N) → l.length ≤ N
  | 0, [], _, _ => Nat.le_refl _
  | 0, x :: _, _, h => absurd (h x List.mem_cons_self) (Nat.not_lt_zero _)
  | N + 1, l, nd, h => by
    have ih := nodup_bound N (l.erase N) (nd.erase N) (fun x hx => by
      have h1 := (nd.mem_erase_iff).mp hx
      have h2 := h x h1.2
      omega)
    have hl := List.length_erase (a := N) (l := l)
    split at hl <;> omega

def iter (f : Nat → Nat) : Nat → Nat → Nat
  | 0, e => e
  | n + 1, e => f (iter f n e)
structure Maps (f : Nat → Nat) (N : Nat) : Prop where
  lt : ∀ e, e < N → f e < N
  inj : ∀ a b, a < N → b < N → f a = f b → a = b
theorem iter_lt {f : Nat → Nat} {N : Nat} (m : Maps f N) {e : Nat} (h : e < N) : ∀ k, iter f k e < N
  | 0 => h
  | k + 1 => m.lt _ (iter_lt m h k)
theorem iter_add (f : Nat → Nat) (e : Nat) (i : Nat) : ∀ k, iter f (i + k) e = iter f k (iter f i e)
  | 0 => rfl
  | k + 1 => by show f (iter f (i + k) e) = f (iter f k (iter f i e)); rw [iter_add f e i k]
theorem iter_inj {f : Nat → Nat} {N : Nat} (m : Maps f N) {a b : Nat} (ha : a < N) (hb : b < N) : ∀ k, iter f k a = iter f k b → a = b
  | 0, h => h
  | k + 1, h => iter_inj m ha hb k (m.inj _ _ (iter_lt m ha k) (iter_lt m hb k) h)
def path (f : Nat → Nat) (e k : Nat) : List Nat := (List.range k).map fun i => iter f i e
theorem path_len (f : Nat → Nat) (e k : Nat) : (path f e k).length = k := by unfold path; simp
theorem path_succ (f : Nat → Nat) (e k : Nat) : path f e (k + 1) = path f e k ++ [iter f k e] := by unfold path; rw [List.range_succ, List.map_append]; rfl
theorem mem_path {f : Nat → Nat} {e k x : Nat} : x ∈ path f e k ↔ ∃ i, i < k ∧ iter f i e = x := by
  unfold path
  simp [List.mem_map, List.mem_range]
theorem path_nodup {f : Nat → Nat} {N : Nat} (m : Maps f N) {e : Nat} (he : e < N) : ∀ k, (∀ j, 0 < j → j < k → iter f j e ≠ e) → (path f e k).Nodup
  | 0, _ => List.nodup_nil
  | k + 1, h => by
    rw [path_succ]
    have ih := path_nodup m he k (fun j h0 h1 => h j h0 (by exact AR.n18s h1))
    rw [List.nodup_append]
    refine (xPP ih (by simp) ?_)
    intro a ha b hb e1
    have hb' : b = iter f k e := by simpa using hb
    refine yWP (mem_path.mp ha) fun i hi yr209 => ?_; subst yr209
    have q : iter f i e = iter f k e := e1.trans hb'
    have hk : k = (k - i) + i := by (first | exact AR.m46 (AR.m6 (AR.n1 hi)) | omega)
    have q2 : iter f i e = iter f i (iter f (k - i) e) := by
      rw [← iter_add, Nat.sub_add_cancel (Nat.le_of_lt hi)]; exact q
    have q3 := iter_inj m he (iter_lt m he _) i q2
    exact h (k - i) (by (first | exact AR.m16 (AR.m7 (AR.m15 hi)) | omega)) (by (first | exact AR.n18u AR.m4 | omega)) q3.symm
theorem path_lt {f : Nat → Nat} {N : Nat} (m : Maps f N) {e : Nat} (he : e < N) (k : Nat) : ∀ x ∈ path f e k, x < N := fun x hx => by
  refine yWP (mem_path.mp hx) fun i _ yr210 => ?_; subst yr210
  exact iter_lt m he i
theorem comes_round {f : Nat → Nat} {N : Nat} (m : Maps f N) {e : Nat} (he : e < N) : ∃ k, 0 < k ∧ k ≤ N ∧ iter f k e = e := by
  refine Classical.byContradiction fun h => ?_
  have no : ∀ j, 0 < j → j < N + 1 → iter f j e ≠ e := fun j h0 h1 q => h (xWPP j h0 (by (first | exact AR.m32 h1 | omega)) q)
  have nd := path_nodup m he (N + 1) no
  have b := nodup_bound N _ nd (path_lt m he _)
  rw [path_len] at b
  (clear he h; omega)
def Round (f : Nat → Nat) (e k : Nat) : Prop := 0 < k ∧ iter f k e = e ∧ ∀ j, 0 < j → j < k → iter f j e ≠ e
theorem round_ex {f : Nat → Nat} {N : Nat} (m : Maps f N) {e : Nat} (he : e < N) : ∃ k, Round f e k ∧ k ≤ N := by
  refine yWPP (comes_round m he) fun k h0 h1 h2 => ?_
  have : ∀ n k, k ≤ n → 0 < k → iter f k e = e → ∃ k', Round f e k' ∧ k' ≤ k := by
    intro n
    induction n with
    | zero => intro k h1 h2; (clear he h0; omega)
    | succ n ih =>
      intro k h1 h2 h3
      by_cases q : ∃ j, 0 < j ∧ j < k ∧ iter f j e = e
      · refine yWPP q fun j j0 j1 j2 => ?_; try clear q
        obtain ⟨k', r, l⟩ := ih j (by (first | exact AR.m31 j1 h1 | omega)) j0 j2
        exact (xWP k' r (by exact AR.n3' l j1))
      · exact (xWP k (xPP h2 h3 (fun j j0 j1 j2 => q (xWPP j j0 j1 j2))) (Nat.le_refl _))
  refine yWP (this k k (Nat.le_refl _) h0 h2) fun k' r l => ?_
  exact (xWP k' r (by exact AR.n4 l h1))
theorem round_uniq {f : Nat → Nat} {e k k' : Nat} (a : Round f e k) (b : Round f e k') : k = k' := by
  rcases Nat.lt_trichotomy k k' with h | h | h
  · exact absurd a.2.1 (b.2.2 k a.1 h)
  · exact h
  · exact absurd b.2.1 (a.2.2 k' b.1 h)
theorem round_more {f : Nat → Nat} {e k j : Nat} (r : Round f e k) (h0 : 0 < j) (hj : j ≤ k) (h : iter f j e ≠ e) : j < k := by
  rcases Nat.lt_or_ge j k with q | q
  · exact q
  · have : j = k := by exact AR.n24' hj q
    subst this
    exact absurd r.2.1 h
end MM
namespace MM
abbrev Ties := List (Nat × Nat)
abbrev Ords := List (List Nat)
def place (ts : Ties) (e : Nat) : Nat := if e % 2 = 0 then (ts.getD (e / 2) (0, 0)).1 else (ts.getD (e / 2) (0, 0)).2
def row (os : Ords) (p : Nat) : List Nat := os.getD p []
structure GoodP (pl : Nat → Nat) (M : Nat) (os : Ords) : Prop where
  ends : ∀ p e, e ∈ row os p → e < M ∧ pl e = p
  has : ∀ e, e < M → pl e < os.length ∧ e ∈ row os (pl e)
  nd : ∀ p, (row os p).Nodup
  full : ∀ p, p < os.length → row os p ≠ []
  four : ∀ p, (row os p).length ≤ 4
structure Good (ts : Ties) (os : Ords) : Prop where
  g : GoodP (place ts) (2 * ts.length) os
  one : 1 ≤ ts.length
theorem GoodP.congr {pl pl' : Nat → Nat} {M : Nat} {os : Ords} (g : GoodP pl M os) (h : ∀ e, e < M → pl' e = pl e) : GoodP pl' M os where
  ends := fun p e he => by
    have q := g.ends p e he
    exact ⟨q.1, (h e q.1).trans q.2⟩
  has := fun e he => by rw [h e he]; exact g.has e he
  nd := g.nd
  full := g.full
  four := g.four
theorem row_set_same {os : Ords} {a : Nat} {l : List Nat} (h : a < os.length) : row (os.set a l) a = l := by
  unfold row
  simp [List.getD, h]
theorem row_set_ne {os : Ords} {a p : Nat} {l : List Nat} (h : p ≠ a) : row (os.set a l) p = row os p := by
  unfold row
  simp [List.getD, List.getElem?_set_ne (Ne.symm h)]
theorem GoodP.add {pl : Nat → Nat} {M : Nat} {os : Ords} (g : GoodP pl M os) {a : Nat} (ha : a < os.length) (hp : pl M = a) {l : List Nat} (hm : ∀ x, x ∈ l ↔ x = M ∨ x ∈ row os a) (hn : l.Nodup) (h4 : l.length ≤ 4) : GoodP pl (M + 1) (os.set a l) where
  ends := fun p e he => by
    by_cases hpa : p = a
    · subst hpa
      rw [row_set_same ha] at he
      rcases (hm e).mp he with rfl | he
      · exact ⟨Nat.lt_succ_self _, hp⟩
      · have q := g.ends _ e he
        exact ⟨by (first | exact AR.n18s q.left | omega), q.2⟩
    · rw [row_set_ne hpa] at he
      have q := g.ends p e he
      exact ⟨by (first | exact AR.n18s q.left | omega), q.2⟩
  has := fun e he => by
    rw [List.length_set]
    rcases Nat.lt_or_ge e M with h | h
    · have q := g.has e h
      refine ⟨q.1, ?_⟩
      by_cases hpa : pl e = a
      · rw [hpa, row_set_same ha]
        exact (hm e).mpr (.inr (hpa ▸ q.2))
      · rw [row_set_ne hpa]; exact q.2
    · have e' : e = M := by (first | exact AR.n24 (AR.m32 he) (AR.n9 h) | omega)
      subst e'
      rw [hp, row_set_same ha]
      exact ⟨ha, (hm e).mpr (.inl rfl)⟩
  nd := fun p => by
    by_cases hpa : p = a
    · subst hpa; rw [row_set_same ha]; exact hn
    · rw [row_set_ne hpa]; exact g.nd p
  full := fun p hp' => by
    rw [List.length_set] at hp'
    by_cases hpa : p = a
    · subst hpa
      rw [row_set_same ha]
      intro z
      have : M ∈ l := (hm M).mpr (.inl rfl)
      rw [z] at this
      cases this
    · rw [row_set_ne hpa]; exact g.full p hp'
  four := fun p => by
    by_cases hpa : p = a
    · subst hpa; rw [row_set_same ha]; exact h4
    · rw [row_set_ne hpa]; exact g.four p
theorem row_app {os : Ords} {l : List Nat} (p : Nat) : row (os ++ [l]) p = if p = os.length then l else row os p := by
  unfold row
  rcases Nat.lt_trichotomy p os.length with h | h | h
  · rw [if_neg (by exact AR.n10 h)]; simp [List.getD, List.getElem?_append_left h]
  · subst h; simp [List.getD]
  · rw [if_neg (by exact AR.n11 h)]
    have h1 : (os ++ [l])[p]? = none := List.getElem?_eq_none (by rw [List.length_append]; simp; first | exact AR.m15 h | omega)
    have h2 : os[p]? = none := List.getElem?_eq_none (by exact AR.n1 h)
    simp [List.getD, h1, h2]
theorem GoodP.new {pl : Nat → Nat} {M : Nat} {os : Ords} (g : GoodP pl M os) (hp : pl M = os.length) : GoodP pl (M + 1) (os ++ [[M]]) where
  ends := fun p e he => by
    rw [row_app] at he
    split at he
    · rename_i h
      have e' : e = M := by simpa using he
      subst e'
      exact ⟨Nat.lt_succ_self _, by rw [hp, h]⟩
    · have q := g.ends p e he
      exact ⟨by (first | exact AR.n18s q.left | omega), q.2⟩
  has := fun e he => by
    rw [List.length_append, row_app]
    rcases Nat.lt_or_ge e M with h | h
    · have q := g.has e h
      rw [if_neg (by (clear hp he h; omega))]
      exact ⟨by simp; (clear hp he h; omega), q.2⟩
    · have e' : e = M := by (first | exact AR.n24 (AR.m32 he) (AR.n9 h) | omega)
      subst e'
      rw [if_pos hp]
      exact ⟨by simp; (first | exact AR.n18u (AR.n22 hp) | omega), by simp⟩
  nd := fun p => by
    rw [row_app]
    split
    · simp
    · exact g.nd p
  full := fun p hp' => by
    rw [row_app]
    split
    · simp
    · rw [List.length_append] at hp'
      simp at hp'
      exact g.full p (by (clear hp; omega))
  four := fun p => by
    rw [row_app]
    split
    · simp
    · exact g.four p
def prevIn (l : List Nat) (x : Nat) : Nat := l.getD ((l.idxOf x + l.length - 1) % l.length) 0
theorem prevIn_mem {l : List Nat} {x : Nat} (h : x ∈ l) : prevIn l x ∈ l := by
  have h1 := List.idxOf_lt_length_of_mem h
  have h2 : (l.idxOf x + l.length - 1) % l.length < l.length := Nat.mod_lt _ (by first | exact AR.m35 h1 | omega)
  unfold prevIn
  simp only [List.getD, List.getElem?_eq_getElem h2, Option.getD_some]
  exact List.getElem_mem h2
theorem prev_ix {i j n : Nat} (hi : i < n) (hj : j < n) (h : (i + n - 1) % n = (j + n - 1) % n) : i = j := by
  have f : ∀ k, k < n → (((k + n - 1) % n) + 1) % n = k := fun k hk => by
    rw [Nat.mod_add_mod, Nat.sub_add_cancel (Nat.le_trans (Nat.succ_le_of_lt (Nat.lt_of_le_of_lt (Nat.zero_le k) hk)) (Nat.le_add_left n k)), Nat.add_mod_right, Nat.mod_eq_of_lt hk]
  rw [← f i hi, ← f j hj, h]
theorem prevIn_inj {l : List Nat} (nd : l.Nodup) {x y : Nat} (hx : x ∈ l) (hy : y ∈ l) (h : prevIn l x = prevIn l y) : x = y := by
  have h1 := List.idxOf_lt_length_of_mem hx
  have h2 := List.idxOf_lt_length_of_mem hy
  have m1 : (l.idxOf x + l.length - 1) % l.length < l.length := Nat.mod_lt _ (by (first | exact AR.m35 h1 | omega))
  have m2 : (l.idxOf y + l.length - 1) % l.length < l.length := Nat.mod_lt _ (by (first | exact AR.m35 h1 | omega))
  unfold prevIn at h
  simp only [List.getD, List.getElem?_eq_getElem m1, List.getElem?_eq_getElem m2, Option.getD_some] at h
  have e := (List.getElem_inj nd).mp h
  have e' := prev_ix h1 h2 e
  have g1 : l[l.idxOf x] = x := List.getElem_idxOf h1
  have g2 : l[l.idxOf y] = y := List.getElem_idxOf h2
  rw [← g1, ← g2]
  simp only [e']
def behind (ts : Ties) (os : Ords) (e : Nat) : Nat := prevIn (row os (place ts (oth e))) (oth e)
theorem Good.behind {ts : Ties} {os : Ords} (g : Good ts os) {e : Nat} (he : e < 2 * ts.length) : behind ts os e < 2 * ts.length ∧ place ts (behind ts os e) = place ts (oth e) := by
  have h := g.g.has (oth e) (oth_lt he)
  exact g.g.ends _ _ (prevIn_mem h.2)
theorem Good.maps {ts : Ties} {os : Ords} (g : Good ts os) : Maps (MM.behind ts os) (2 * ts.length) where
  lt := fun e he => (g.behind he).1
  inj := fun a b ha hb h => by
    have pa := (g.behind ha).2
    have pb := (g.behind hb).2
    rw [h, pb] at pa
    have ma := (g.g.has (oth a) (oth_lt ha)).2
    have mb := (g.g.has (oth b) (oth_lt hb)).2
    unfold MM.behind at h
    rw [← pa] at h ma
    exact oth_inj (prevIn_inj (g.g.nd _) ma mb h)
end MM
namespace MM
open Classical in
noncomputable def per (f : Nat → Nat) (e : Nat) : Nat := if h : ∃ k, Round f e k then Classical.choose h else 1
noncomputable def landOf (f : Nat → Nat) (e : Nat) : List Nat := path f e (per f e)
theorem per_eq {f : Nat → Nat} {e k : Nat} (r : Round f e k) : per f e = k := by
  unfold per
  rw [dif_pos ⟨k, r⟩]
  exact round_uniq (Classical.choose_spec (⟨k, r⟩ : ∃ k, Round f e k)) r
theorem per_round {f : Nat → Nat} {N : Nat} (m : Maps f N) {e : Nat} (he : e < N) : Round f e (per f e) ∧ per f e ≤ N := by
  refine yWP (round_ex m he) fun k r l => ?_
  rw [per_eq r]
  exact ⟨r, l⟩
theorem iter_mul {f : Nat → Nat} {e k : Nat} (h : iter f k e = e) : ∀ n, iter f (k * n) e = e
  | 0 => rfl
  | n + 1 => by rw [Nat.mul_succ, Nat.add_comm, iter_add, h]; exact iter_mul h n
theorem iter_mod {f : Nat → Nat} {e k : Nat} (h : iter f k e = e) (j : Nat) : iter f j e = iter f (j % k) e := by
  have e1 : j = k * (j / k) + j % k := (Nat.div_add_mod j k).symm
  have e2 : iter f j e = iter f (k * (j / k) + j % k) e := congrArg (fun z => iter f z e) e1
  rw [e2, iter_add, iter_mul h]
theorem mem_land {f : Nat → Nat} {N : Nat} (m : Maps f N) {x y : Nat} (hx : x < N) : y ∈ landOf f x ↔ ∃ k, iter f k x = y := by
  obtain ⟨r, _⟩ := per_round m hx
  unfold landOf
  rw [mem_path]
  constructor
  · intro hq7; refine yWP hq7 fun i _ h => ?_; try clear hq7; exact ⟨i, h⟩
  · intro hq8; obtain ⟨k, h⟩ := hq8
    exact (xWP (k % per f x) (Nat.mod_lt _ r.1) (by rw [← iter_mod r.2.1]; exact h))
theorem self_land {f : Nat → Nat} {N : Nat} (m : Maps f N) {x : Nat} (hx : x < N) : x ∈ landOf f x := (mem_land m hx).mpr ⟨0, rfl⟩
theorem land_lt {f : Nat → Nat} {N : Nat} (m : Maps f N) {x : Nat} (hx : x < N) : ∀ y ∈ landOf f x, y < N := path_lt m hx _
theorem land_len {f : Nat → Nat} {N : Nat} (m : Maps f N) {x : Nat} (hx : x < N) : 0 < (landOf f x).length ∧ (landOf f x).length ≤ N := by
  unfold landOf
  rw [path_len]
  exact ⟨(per_round m hx).1.1, (per_round m hx).2⟩
noncomputable def landsFrom (f : Nat → Nat) : Nat → List Nat → List (List Nat)
  | 0, _ => []
  | _, [] => []
  | n + 1, e :: r => landOf f e :: landsFrom f n ((e :: r).filter fun x => decide (x ∉ landOf f e))
theorem landsFrom_nil (f : Nat → Nat) (n : Nat) : landsFrom f n [] = [] := by cases n <;> rfl
theorem filter_shorter {f : Nat → Nat} {N : Nat} (m : Maps f N) {e : Nat} (he : e < N) (r : List Nat) : ((e :: r).filter fun x => decide (x ∉ landOf f e)).length ≤ r.length := by
  rw [List.filter_cons, if_neg (by simp [self_land m he])]
  exact List.length_filter_le _ _
theorem landsFrom_fuel {f : Nat → Nat} {N : Nat} (m : Maps f N) : ∀ (n : Nat) (k : Nat) (l : List Nat), (∀ x ∈ l, x < N) → l.length ≤ n → l.length ≤ k → landsFrom f n l = landsFrom f k l
  | 0, k, l, _, h, _ => by
    have e : l = [] := List.length_eq_zero_iff.mp (by first | exact AR.m19 (AR.n9 h) | omega)
    subst e
    rw [landsFrom_nil, landsFrom_nil]
  | n + 1, k, [], _, _, _ => by rw [landsFrom_nil, landsFrom_nil]
  | n + 1, 0, e :: r, _, _, h => by simp at h
  | n + 1, k + 1, e :: r, hl, h1, h2 => by
    have he := hl e List.mem_cons_self
    have s := filter_shorter m he r
    simp only [List.length_cons] at h1 h2
    show landOf f e :: landsFrom f n _ = landOf f e :: landsFrom f k _
    rw [landsFrom_fuel m n k _ (fun x hx => hl x (List.mem_filter.mp hx).1) (by (first | exact AR.n4 s (AR.m32 (AR.m16 h1)) | omega)) (by (first | exact AR.n4 s (AR.m32 (AR.m16 h2)) | omega))]
noncomputable def lf (f : Nat → Nat) (l : List Nat) : List (List Nat) := landsFrom f l.length l
theorem lf_nil (f : Nat → Nat) : lf f [] = [] := rfl
theorem lf_cons {f : Nat → Nat} {N : Nat} (m : Maps f N) {e : Nat} {r : List Nat} (hl : ∀ x ∈ e :: r, x < N) : lf f (e :: r) = landOf f e :: lf f ((e :: r).filter fun x => decide (x ∉ landOf f e)) := by
  unfold lf
  show landOf f e :: landsFrom f r.length _ = _
  rw [landsFrom_fuel m r.length _ _ (fun x hx => hl x (List.mem_filter.mp hx).1) (filter_shorter m (hl e List.mem_cons_self) r) (Nat.le_refl _)]
noncomputable def landsOf (f : Nat → Nat) (N : Nat) : List (List Nat) := lf f (List.range N)
theorem lf_mem {f : Nat → Nat} {N : Nat} (m : Maps f N) : ∀ (n : Nat) (l : List Nat), l.length ≤ n → (∀ x ∈ l, x < N) → ∀ d ∈ lf f l, ∃ e ∈ l, d = landOf f e
  | 0, l, h, _, d, hd => by
    have e : l = [] := List.length_eq_zero_iff.mp (by first | exact AR.m19 (AR.n9 h) | omega)
    subst e
    cases hd
  | n + 1, [], _, _, d, hd => by cases hd
  | n + 1, e :: r, h, hl, d, hd => by
    rw [lf_cons m hl] at hd
    rcases List.mem_cons.mp hd with rfl | hd
    · exact (xWP e List.mem_cons_self rfl)
    · have s := filter_shorter m (hl e List.mem_cons_self) r
      simp only [List.length_cons] at h
      obtain ⟨x, hx, q⟩ := lf_mem m n _ (by first | exact AR.n4 s (AR.m32 (AR.m16 h)) | omega) (fun x hx => hl x (List.mem_filter.mp hx).1) d hd
      exact (xWP x ((List.mem_filter.mp hx).1) q)
theorem lf_len {f : Nat → Nat} {N : Nat} (m : Maps f N) : ∀ (n : Nat) (l : List Nat), l.length ≤ n → (∀ x ∈ l, x < N) → (lf f l).length ≤ l.length
  | 0, l, h, _ => by
    have e : l = [] := List.length_eq_zero_iff.mp (by first | exact AR.m19 (AR.n9 h) | omega)
    subst e
    exact Nat.le_refl _
  | n + 1, [], _, _ => Nat.le_refl _
  | n + 1, e :: r, h, hl => by
    rw [lf_cons m hl]
    have s := filter_shorter m (hl e List.mem_cons_self) r
    simp only [List.length_cons] at h ⊢
    have ih := lf_len m n _ (Nat.le_trans s (by (first | exact AR.m32 (AR.m16 h) | omega))) (fun x hx => hl x (List.mem_filter.mp hx).1)
    (first | exact AR.n21 (AR.n4 ih s) (of_decide_eq_true (id (Eq.refl true))) | omega)
end MM

set_option Elab.async false
set_option linter.all false
set_option maxRecDepth 100000
set_option maxHeartbeats 4000000
namespace L2
open PySem PySem.Spec PyProof.Rows
abbrev vn (n : Nat) : V := .int (n : Int)
abbrev vns (l : List Nat) : List V := l.map vn
theorem vns_ints (l : List Nat) : vns l = (l.map fun n : Nat => (n : Int)).map V.int := by rw [List.map_map]; rfl
section
variable {X : Cx}
def rIndex : V → List V → Hp → VK → Prop := fun x vs H Q => ∃ (l : Addr) (ns : List Nat) (v : Nat), x = .ref l ∧ vs = [vn v] ∧ H l = some (.lst (vns ns)) ∧ v ∈ ns ∧ Q (vn (ns.idxOf v)) H
theorem mt_index : MtM X "list.index" rIndex := by
  intro pins s σ H x vs v us Q I rx rv h
  refine yWWWPPPP h fun l ns k ye216_3 ye216_4 hH hm q => ?_; try clear h; subst ye216_3; subst ye216_4
  cases rx
  refine yWP rv.one fun u ye217_1 yr217 => ?_; subst ye217_1; obtain ⟨t, rfl⟩ := yr217
  refine yPWWPP (I.lstM hH) fun z its n r hl e => ?_
  have hlen : its.length = ns.length := by rw [← hl]; simp
  have hj : ns.idxOf k < ns.length := List.idxOf_lt_length_of_mem hm
  have item : ∀ (m : Nat) (hm : m < its.toArray.size), eqU (vn k) its.toArray[m] = (ns[m]'(by simpa [hlen] using hm) == k) := fun m hm' => by
    have hm2 : m < ns.length := by simpa [hlen] using hm'
    have hx : (vns ns)[m]? = some (vn ns[m]) := by rw [List.getElem?_map, List.getElem?_eq_getElem hm2]; rfl
    refine yWP (r.get hx) fun u' hu' ru' => ?_
    have e1 : its.toArray[m] = u' := by
      have : its[m]? = some its.toArray[m] := by simp at hm' ⊢
      rw [this] at hu'; exact Option.some.inj hu'
    rw [e1, eqU_of ru' rfl]
    show ((ns[m] : Int) == (k : Int)) = (ns[m] == k)
    rw [Bool.eq_iff_iff]
    simp only [beq_iff_eq]
    (clear z hl hlen hj; omega)
  have hsm : ((ns.idxOf k : Nat) : Int) < 2 ^ 63 - 1 := by
    have h1 := line63
    have h2 : (vns ns).length = ns.length := by simp
    (clear h2; omega)
  refine call_meets F.slot_list_index (xWP _ e rfl) F.entry_list_index (F.args_list_index_2 _ _) (SeqAt.list_indexAt l its.toArray n none #[] (.int k t) (eqU (vn k)) (ns.idxOf k) (by simpa [hlen] using hj) hsm ?_ ?_) (xPP e (fun y hy => ?_) ?_)
  · rw [item]
    simp
  · intro m hm' hlt
    rw [item]
    have := List.not_of_lt_findIdx (p := (· == k)) (xs := ns) (i := m) hlt
    simpa using this
  · have fl : (vns ns).all flatV = true := by rw [List.all_eq_true]; intro y hy; refine yWP (List.mem_map.mp hy) fun n _ yr220 => ?_; subst yr220; rfl
    exact mem_eqAt (x := vn k) ⟨t, rfl⟩ rfl r fl y (by simpa using hy)
  · exact (xWWPP (vn (ns.idxOf k)) H (I.tok _) ⟨_, rfl⟩ q)
def insAt {α : Type} (l : List α) (i : Nat) (x : α) : List α := l.take i ++ x :: l.drop i
def rInsert : V → List V → Hp → VK → Prop := fun x vs H Q => ∃ (l : Addr) (xs : List V) (i : Nat) (y : V), x = .ref l ∧ vs = [vn i, y] ∧ H l = some (.lst xs) ∧ i ≤ xs.length ∧ xs.length < sizeLine ∧ Q .non (upd H l (.lst (insAt xs i y)))
theorem mt_insert : MtM X "list.insert" rInsert := by
  intro pins s σ H x vs v us Q I rx rv h
  refine yWWWWPPPP h fun l xs i y ye221_4 ye221_5 hH hi yr221 => ?_; try clear h; subst ye221_4; subst ye221_5; obtain ⟨hz, q⟩ := yr221
  cases rx
  refine yWWPP rv.two fun u1 u2 ye222_2 ye222_3 r2 => ?_; subst ye222_2; obtain ⟨t, rfl⟩ := ye222_3
  refine yPWWPP (I.lstM hH) fun z its n r hl e => ?_
  have hfit : Builtin.List.listFitsIndex (i : Int) = true := by
    unfold Builtin.List.listFitsIndex
    have := line63
    simp only [Bool.and_eq_true, decide_eq_true_eq]
    (clear z; omega)
  have hc0 : ¬(!Builtin.List.listFitsIndex (i : Int)) = true := by rw [hfit]; exact Bool.false_ne_true
  have hz1 : its.toArray.size ≤ sizeLine := by rw [List.size_toArray]; exact AR.n22d hl z
  obtain ⟨w, hw⟩ : ∃ w : Int, w = (i : Int) := ⟨_, rfl⟩
  rw [← hw] at hc0
  have mm := PySem.AutoSeq1.list_insert_list_int_val_1 l its.toArray n w t u2 hc0 hz1
  rw [← hw]
  refine call_meets F.slot_list_insert (xWP _ e rfl) F.entry_list_insert (F.args_list_insert_3 _ _ _) mm ⟨e, ?_⟩
  refine (xWWPP .non _ (I.lset (its' := insAt its i u2) (ys := insAt xs i y) (t' := s.toks) hH e ?_ ?_ ?_) rfl q)
  · have hk : (if w < 0 then (w + (its.toArray.size : Int)).toNat else min w.toNat its.toArray.size) = i := by
      rw [if_neg (by (first | exact AR.j31 hw | omega)), List.size_toArray]
      (clear hz z hz1; omega)
    show (its.toArray.extract 0 (if w < 0 then (w + (its.toArray.size : Int)).toNat else min w.toNat its.toArray.size)).push u2 ++ its.toArray.extract (if w < 0 then (w + (its.toArray.size : Int)).toNat else min w.toNat its.toArray.size) = _
    rw [hk]
    unfold insAt
    simp
    exact List.take_of_length_le (by simp)
  · unfold insAt
    exact Vals.append (r.take _) (.cons r2 (r.drop _))
  · unfold insAt
    rw [List.length_append, List.length_cons, List.length_take, List.length_drop]
    (clear z hz1; omega)
theorem vals_by : ∀ {xs : List V} {us : List Value}, xs.length = us.length → (∀ (j : Nat) x u, xs[j]? = some x → us[j]? = some u → RelV x u) → Vals xs us
  | [], [], _, _ => .nil
  | x :: xs, u :: us, hl, h => .cons (h 0 x u rfl rfl) (vals_by (by simpa using hl) fun j y v h1 h2 => h (j + 1) y v (by simpa using h1) (by simpa using h2))
theorem call_range1 : CallR X (.type "range") (fun xs H Q => ∃ j : Int, xs = [.int j] ∧ ∀ p, H p = none → Q (.ref p) (upd H p (.rng 0 j))) := by
  intro pins s σ H xs us Q I r h
  refine yWP h fun j ye224_1 q => ?_; try clear h; subst ye224_1
  refine yWP (vals1 r) fun u ye225_1 yr225 => ?_; subst ye225_1; obtain ⟨t, rfl⟩ := yr225
  refine call_range_1 ?_
  refine (xWWPP (.ref s.heap.objs.size) _ (I.laid (o := .rng 0 j) (fun b o e => Heap.get?_push_of_some _ e) (Nat.le_refl _) (xWWW _ _ _ (Heap.get?_push_size _ rfl))) rfl (q _ I.fresh))
theorem call_list_rng (hc : X.calm = true) : CallR X (.type "list") (fun xs H Q => ∃ (p : Addr) (n : Nat), xs = [.ref p] ∧ H p = some (.rng 0 n) ∧ n ≤ 10000 ∧ ∀ l, H l = none → Q (.ref l) (upd H l (.lst (vns (List.range n))))) := by
  intro pins s σ H xs us Q I r h
  refine yWWPPP h fun p n ye226_2 hp hn q => ?_; try clear h; subst ye226_2
  refine yWP (vals1 r) fun u ye227_1 rx => ?_; subst ye227_1
  cases rx
  refine yWWW ((show ObjOk X.prog X.w H s.heap p (.rng 0 n) from I.hok p _ hp)) fun t u v e => ?_
  have hsz : Builtin.Range.rangeSize 0 (n : Int) 1 = n := by rw [rangeSize_one]; split <;> omega
  refine call_list_range (I.ok.hd hc) (show IsRange s.heap p 0 n 1 t u v from e) (small_one (by (clear hn hsz; omega)) (by (clear hn hsz; omega)) (by omega) (by omega)) hsz (by omega) fun h' tk acc c' k e' it => ?_
  have hv : Vals (vns (List.range n)) acc.toList := by
    refine vals_by (by simp [it.1]) fun j x u hx hu => ?_
    rw [List.getElem?_map] at hx
    refine yWP (Option.map_eq_some_iff.mp hx) fun m hm yr229 => ?_; subst yr229
    obtain ⟨hj, rfl⟩ := List.getElem?_eq_some_iff.mp hm
    obtain ⟨t, rfl⟩ := it.2 j u (by simpa using hu)
    exact ⟨t, by simp⟩
  exact (xWWPP (.ref s.heap.objs.size) _ (I.laid (t' := tk) k (Nat.le_refl _) (show ObjOk X.prog X.w _ h' _ (.lst (vns (List.range n))) from (xPWWP (by simp; exact Nat.le_trans hn (by decide)) acc.toList c' hv (by rw [e'])))) rfl (q _ I.fresh))
end
def TsAt (H : Hp) (a : Addr) (ts : MM.Ties) : Prop := ∃ tr : List Addr, H a = some (.lst (tr.map V.ref)) ∧ tr.length = ts.length ∧ ∀ (i : Nat) t, ts[i]? = some t → ∃ r, tr[i]? = some r ∧ H r = some (.tup [vn t.1, vn t.2])
def OsAt (H : Hp) (a : Addr) (os : MM.Ords) : Prop := ∃ rr : List Addr, H a = some (.lst (rr.map V.ref)) ∧ rr.length = os.length ∧ ∀ (i : Nat) l, os[i]? = some l → ∃ r, rr[i]? = some r ∧ H r = some (.lst (vns l))
theorem Same.ts {H H' : Hp} (g : Same H H') {a : Addr} {ts : MM.Ties} (h : TsAt H a ts) : TsAt H' a ts := by
  refine yWPP h fun tr h1 h2 h3 => ?_; try clear h
  exact (xWPP tr (g _ _ h1) h2 (fun i t ht => by refine yWP (h3 i t ht) fun r q1 q2 => ?_; exact (xWP r q1 (g _ _ q2))))
theorem Same.os {H H' : Hp} (g : Same H H') {a : Addr} {os : MM.Ords} (h : OsAt H a os) : OsAt H' a os := by
  refine yWPP h fun tr h1 h2 h3 => ?_; try clear h
  exact (xWPP tr (g _ _ h1) h2 (fun i t ht => by refine yWP (h3 i t ht) fun r q1 q2 => ?_; exact (xWP r q1 (g _ _ q2))))
theorem TsAt.item {H : Hp} {a : Addr} {ts : MM.Ties} (h : TsAt H a ts) {i : Nat} (hi : i < ts.length) : ∃ xs r, H a = some (.lst xs) ∧ xs.length = ts.length ∧ atI xs (i : Int) = some (.ref r) ∧ H r = some (.tup [vn (ts.getD i (0, 0)).1, vn (ts.getD i (0, 0)).2]) := by
  refine yWPP h fun tr h1 h2 h3 => ?_; try clear h
  refine yWP (h3 i ts[i] (List.getElem?_eq_getElem hi)) fun r q1 q2 => ?_
  refine (xWWPPP _ r h1 (by rw [List.length_map]; exact h2) (atI_nat (by rw [List.getElem?_map, q1]; rfl)) ?_)
  simp only [List.getD, List.getElem?_eq_getElem hi, Option.getD_some]
  exact q2
theorem OsAt.item {H : Hp} {a : Addr} {os : MM.Ords} (h : OsAt H a os) {i : Nat} (hi : i < os.length) : ∃ xs r, H a = some (.lst xs) ∧ xs.length = os.length ∧ atI xs (i : Int) = some (.ref r) ∧ H r = some (.lst (vns (MM.row os i))) := by
  refine yWPP h fun tr h1 h2 h3 => ?_; try clear h
  refine yWP (h3 i os[i] (List.getElem?_eq_getElem hi)) fun r q1 q2 => ?_
  refine (xWWPPP _ r h1 (by rw [List.length_map]; exact h2) (atI_nat (by rw [List.getElem?_map, q1]; rfl)) ?_)
  unfold MM.row
  simp only [List.getD, List.getElem?_eq_getElem hi, Option.getD_some]
  exact q2
theorem at_vns {l : List Nat} {j : Nat} (h : j < l.length) {k : Int} (hk : k = (j : Int)) : atI (vns l) k = some (vn (l.getD j 0)) := by
  subst hk
  exact atI_nat (by rw [List.getElem?_map, List.getElem?_eq_getElem h]; simp [List.getD, h])
theorem at_prev {l : List Nat} {x : Nat} (h : x ∈ l) : atI (vns l) ((l.idxOf x : Nat) - 1 : Int) = some (vn (MM.prevIn l x)) := by
  have h1 := List.idxOf_lt_length_of_mem h
  unfold MM.prevIn
  rcases Nat.eq_zero_or_pos (l.idxOf x) with q | q
  · have e : (l.idxOf x + l.length - 1) % l.length = l.length - 1 := by rw [q, Nat.zero_add]; exact Nat.mod_eq_of_lt (by first | exact AR.n20' (AR.n22c q h1) | omega)
    rw [e]
    unfold atI ixN
    rw [if_neg (by (clear h1 e; omega)), if_pos (by simp; (clear e; omega))]
    have e2 : ((l.idxOf x : Nat) - 1 + ((vns l).length : Int)).toNat = l.length - 1 := by simp; omega
    show (vns l)[((l.idxOf x : Nat) - 1 + ((vns l).length : Int)).toNat]? = _
    rw [e2, List.getElem?_map, List.getElem?_eq_getElem (by (first | exact AR.n20' (AR.n22c q h1) | omega))]
    have : l.length - 1 < l.length := by (first | exact AR.n20' (AR.n22c q h1) | omega)
    simp [List.getD, this]
  · have e : (l.idxOf x + l.length - 1) % l.length = l.idxOf x - 1 := by
      have : l.idxOf x + l.length - 1 = (l.idxOf x - 1) + l.length := by first | exact Nat.sub_add_comm (Nat.pos_of_ne_zero q) | omega
      rw [this, Nat.add_mod_right]; exact Nat.mod_eq_of_lt (by exact AR.n19 h1)
    rw [e]
    exact at_vns (by exact AR.n19 h1) (by (clear h1 e; omega))
end L2

set_option linter.all false
set_option maxRecDepth 100000
set_option maxHeartbeats 4000000

namespace L2
open PySem PySem.Spec PyProof.Rows
theorem comp_rel {J : It} {js : List (Option Nat)} {σ : St} {H1 : Hp} {R : Hp → Prop} {D : Addr} {g : TG} {te : TE} (n : Nat) (Pe : Nat → V → Prop) (hD : H1 D = none) (hn : n ≤ 100000)
    (go : ∀ i H', i < n → Same H1 H' → J.go i H') (stop : ∀ H', Same H1 H' → J.stop n H')
    (hs : ∀ i H' x H'' (k : V → Hp → Prop), i < n → Same H1 H' → J.yld i H' x H'' → (∀ v H4, Pe i v → Same H' H4 → k v H4) → g x (inner js σ) H'' fun σ2 H2 => Fills (inner js σ) σ2 ∧ te σ2 H2 k)
    (hd : ∀ vs H', vs.length = n → (∀ (i : Nat) v, vs[i]? = some v → Pe i v) → Same H1 H' → H' D = some (.lst vs) → R H') :
    ∃ W : Nat → Nat → List V → Hp → Prop, (∃ m, W 0 m [] (upd H1 D (.lst []))) ∧
      ∀ i m ys H, W i m ys H → (J.stop i H ∧ R H) ∨ (J.go i H ∧ ∃ N : List V → Hp → Prop, (∀ ys' H', N ys' H' → ∃ m', m' < m ∧ W (i + 1) m' ys' H') ∧ ∀ x H', J.yld i H x H' → g x (inner js σ) H' fun σ2 H2 => Fills (inner js σ) σ2 ∧ tTrue σ2 H2 fun b H3 =>
        if b = true then te σ2 H3 fun y H4 => H4 D = some (.lst ys) ∧ ys.length < sizeLine ∧ N (ys ++ [y]) (upd H4 D (.lst (ys ++ [y]))) else N ys H3) := by
  refine comp_map n (fun i ys H' => ys.length = i ∧ (∀ (j : Nat) v, ys[j]? = some v → Pe j v) ∧ Same H1 H' ∧ H' D = some (.lst ys)) (xPPP rfl (fun j v h => by simp at h) (same_new hD _) upd_same) ?_ ?_
  · intro i ys H' hi hq9; refine yPPP hq9 fun hl hp g1 hD' => ?_; try clear hq9
    refine ⟨go i H' hi g1, fun x H'' hy => hs i H' x H'' _ hi g1 hy fun v H4 hv g4 => (xPPPPP (g4 _ _ hD') ?_ ?_ ?_ ?_ upd_same)⟩
    · rw [hl]; exact Nat.lt_of_lt_of_le hi (Nat.le_trans hn (by decide))
    · rw [List.length_append, hl]; rfl
    · intro j v' h
      by_cases hj : j < ys.length
      · rw [List.getElem?_append_left hj] at h; exact hp j v' h
      · rw [List.getElem?_append_right (by exact AR.n6 hj)] at h
        have hj2 : j - ys.length = 0 := by
          have := (List.getElem?_eq_some_iff.mp h).1
          simp at this; exact this
        rw [hj2] at h
        simp at h
        subst h
        have : j = i := by (clear hn hi; omega)
        subst this
        exact hv
    · exact fun b o h => by rw [upd_ne (ne_of_none h hD)]; exact g4 _ _ (g1 _ _ h)
  · intro ys H' hq10; refine yPPP hq10 fun hl hp g1 hD' => ?_; try clear hq10
    exact ⟨stop H' g1, hd ys H' hl hp g1 hD'⟩
theorem rel_fun {vs : List V} {n : Nat} {fs : Nat → V} (hl : vs.length = n) (h : ∀ (i : Nat) v, vs[i]? = some v → v = fs i) : vs = (List.range n).map fs := by
  apply List.ext_getElem?
  intro i
  by_cases hi : i < n
  · rw [List.getElem?_map, List.getElem?_range hi]
    obtain ⟨v, hv⟩ : ∃ v, vs[i]? = some v := ⟨vs[i], List.getElem?_eq_getElem (by exact AR.n22g hl hi)⟩
    rw [hv, h i v hv]; rfl
  · rw [List.getElem?_eq_none (by first | exact AR.n22b hl (AR.n6 hi) | omega), List.getElem?_eq_none (by simp; exact AR.n6 hi)]
theorem comp_pure {J : It} {js : List (Option Nat)} {σ : St} {H1 : Hp} {R : Hp → Prop} {D : Addr} {g : TG} {te : TE} (n : Nat) (fs : Nat → V) (hD : H1 D = none) (hn : n ≤ 100000)
    (go : ∀ i H', i < n → Same H1 H' → J.go i H') (stop : ∀ H', Same H1 H' → J.stop n H')
    (hs : ∀ i H' x H'' (k : V → Hp → Prop), i < n → Same H1 H' → J.yld i H' x H'' → (∀ H4, Same H' H4 → k (fs i) H4) → g x (inner js σ) H'' fun σ2 H2 => Fills (inner js σ) σ2 ∧ te σ2 H2 k)
    (hd : ∀ H', Same H1 H' → H' D = some (.lst ((List.range n).map fs)) → R H') :
    ∃ W : Nat → Nat → List V → Hp → Prop, (∃ m, W 0 m [] (upd H1 D (.lst []))) ∧
      ∀ i m ys H, W i m ys H → (J.stop i H ∧ R H) ∨ (J.go i H ∧ ∃ N : List V → Hp → Prop, (∀ ys' H', N ys' H' → ∃ m', m' < m ∧ W (i + 1) m' ys' H') ∧ ∀ x H', J.yld i H x H' → g x (inner js σ) H' fun σ2 H2 => Fills (inner js σ) σ2 ∧ tTrue σ2 H2 fun b H3 =>
        if b = true then te σ2 H3 fun y H4 => H4 D = some (.lst ys) ∧ ys.length < sizeLine ∧ N (ys ++ [y]) (upd H4 D (.lst (ys ++ [y]))) else N ys H3) :=
  comp_rel n (fun i v => v = fs i) hD hn go stop (fun i H' x H'' k hi g1 hy hk => hs i H' x H'' k hi g1 hy fun H4 g4 => hk _ _ rfl g4)
    fun vs H' hl hp g1 e => hd H' g1 (by rw [e, rel_fun hl hp])
theorem ixN_ok {n j : Nat} {k : Int} (h : j < n) (hk : k = (j : Int)) : ixN n k = some j := by
  subst hk
  unfold ixN
  rw [if_pos (by (first | exact AR.j11 | omega)), if_pos (by first | exact AR.j12 h | omega)]
  simp
theorem bd_ints {K : PySem.W.Frag} {H : Hp} {a : Addr} {ns : List Int} (h : H a = some (.lst (ns.map V.int))) : Bd K H (.ref a) (.list (ns.map PyData.int)) := .lst (SqL.of h) (Bds.ints ns)
theorem lay_all {ds : List PyData} (n : Nat) (h : ∀ d ∈ ds, d.canLay0 = true ∧ d.depth ≤ n) : PyData.canLayAll0 ds = true ∧ PyData.depthAll ds ≤ n := by
  induction ds with
  | nil => exact ⟨rfl, Nat.zero_le _⟩
  | cons d ds ih =>
    have h1 := h d List.mem_cons_self
    have h2 := ih fun x hx => h x (List.mem_cons_of_mem _ hx)
    refine ⟨by rw [PyData.canLayAll0, h1.1, h2.1]; rfl, ?_⟩
    rw [PyData.depthAll]
    exact Nat.max_le.mpr ⟨h1.2, h2.2⟩
theorem lay_ints (ns : List Int) : PyData.canLayAll0 (ns.map PyData.int) = true ∧ PyData.depthAll (ns.map PyData.int) ≤ 2 := lay_all 2 fun d hd => by
  refine yWP (List.mem_map.mp hd) fun n _ yr240 => ?_; subst yr240
  exact ⟨rfl, by simp [PyData.depth]⟩
theorem via {tt r : TS} {D : Ends} {σ : St} {H : Hp} (I : St → Hp → Prop) (ht : (∀ σ' H', I σ' H' → r D σ' H') → tt { D with nx := r D } σ H) (hr : ∀ σ' H', I σ' H' → r D σ' H') : tSeq tt r D σ H := ht hr
theorem shaped_ints (ns : List Int) : SeqAt.shaped (.list (ns.map PyData.int)) = true := by
  have h := lay_ints ns
  unfold SeqAt.shaped
  rw [Bool.and_eq_true]
  refine ⟨h.1, decide_eq_true ?_⟩
  rw [PyData.depth]
  omega
theorem for_enum {K : PySem.W.Frag} {a : Addr} {xs : List V} {g : TG} {tb : TS} {D : Ends} {σ : St} {H : Hp} (Pv : Nat → St → Hp → Prop) (h0 : Pv 0 σ H) (hl : ∀ i σ H, i ≤ xs.length → Pv i σ H → SqL K H a xs)
    (hs : ∀ (i : Nat) x σ H T, xs[i]? = some x → Pv i σ H → H T = none → g (.ref T) σ (upd H T (.tup [vn i, x])) fun σ2 H2 => tb { D with nx := Pv (i + 1), ct := Pv (i + 1), bk := D.nx } σ2 H2) (hd : ∀ σ H, Pv xs.length σ H → D.nx σ H) :
    ∃ W : Nat → Nat → St → Hp → Prop, (∃ m, W 0 m σ H) ∧ ∀ i m σ H, W i m σ H →
      ((Ite K a).stop i H ∧ D.nx σ H) ∨ ((Ite K a).go i H ∧ ∃ N : St → Hp → Prop, (∀ σ' H', N σ' H' → ∃ m', m' < m ∧ W (i + 1) m' σ' H') ∧ ∀ x H', (Ite K a).yld i H x H' → g x σ H' fun σ2 H2 => tb { D with nx := N, ct := N, bk := D.nx } σ2 H2) := by
  refine (xWP (fun i m σ H => m = xs.length - i ∧ i ≤ xs.length ∧ Pv i σ H) (xWPP xs.length (by simp) (Nat.zero_le _) h0) ?_)
  intro i m σ H hq11; refine yPP hq11 fun ye241_0 hi p => ?_; try clear hq11; subst ye241_0
  have q := hl i σ H hi p
  by_cases hlt : i < xs.length
  · refine .inr (xPWP (xWWP xs (xs[i]) q (by simp [hlt])) (Pv (i + 1)) (fun σ' H' p' => (xWPPP (xs.length - (i + 1)) (by (first | exact AR.m81 hlt | omega)) rfl hlt p')) (fun x H' y => ?_))
    obtain ⟨T, x', rfl, hT, rfl, y⟩ := y
    exact hs i x' σ _ T (y xs q) p hT
  · have e : i = xs.length := by exact AR.n24 hi hlt
    subst e
    exact .inl ⟨(xWP xs q (Nat.le_refl _)), hd σ H p⟩
end L2

namespace L2
open PySem PySem.Spec PyProof.Rows
section
variable {X : Cx} {pins : List (Addr × Obj)} {σ : St} {H : Hp} {s : Shared}
theorem listIter_st {p : Addr} {its : List Value} (pl : PlainL s.heap p its.toArray) :
    (s.heap.push { cls := .type "list_iterator", data := .fields #[.ref p, .int 0 0] }).IsListIter s.heap.objs.size p 0 ∧ (s.heap.push { cls := .type "list_iterator", data := .fields #[.ref p, .int 0 0] }).IsList p its.toArray := by
  refine yWWPPP pl fun o n e hc hd hs => ?_; try clear pl
  exact (xPWPP (xWPP _ (Heap.get?_push_size _ rfl) rfl rfl) o (Heap.get?_push_of_some _ e) hc ⟨ n, hs⟩)
theorem plain_ne {p : Addr} {its : List Value} (pl : PlainL s.heap p its.toArray) : p < s.heap.objs.size := by
  refine yWWP pl fun o n e _ => ?_; try clear pl
  exact Heap.lt_size e
end
end L2
namespace L2
open PySem PySem.Spec PyProof.Rows
theorem all_range (bs : List Bool) : (List.range bs.length).all (fun i => bs.getD i true) = bs.all id := by
  rw [Bool.eq_iff_iff, List.all_eq_true, List.all_eq_true]
  constructor
  · intro h b hb
    obtain ⟨i, hi, rfl⟩ := List.getElem_of_mem hb
    have := h i (by simpa using hi)
    simpa [List.getD, hi] using this
  · intro h i hi
    have hi' : i < bs.length := by simpa using hi
    have := h bs[i] (List.getElem_mem hi')
    simpa [List.getD, hi'] using this
section
variable {X : Cx}
theorem call_allB (hc : X.calm = true) : CallR X (.builtin "all") (fun xs H Q => ∃ (p : Addr) (bs : List Bool), xs = [.ref p] ∧ SqL X.K H p (bs.map V.bl) ∧ Q (.bl (bs.all id)) H) := by
  intro pins s σ H xs us Q I r h
  refine yWWPP h fun p bs ye248_2 hq q => ?_; try clear h; subst ye248_2
  refine yWP (vals1 r) fun u ye249_1 rx => ?_; subst ye249_1
  cases rx
  refine yWPP (I.list hq) fun its rv pl hz => ?_
  have hl := rv.length
  rw [List.length_map] at hl
  have hp := plain_ne pl
  refine call_all_walk (wpAny_pyIter_list pl.isList ?_)
  refine (xWWWWWWWP s.heap.objs.size ([s.heap.objs.size, p]) ([s.heap.objs.size]) its.toArray.size _ _ (fun i => bs.getD i true) rfl (xPPP (Walks.list (show X.A.in1.handled = none from I.ok.hd hc) _ p (Nat.ne_of_lt hp) its.toArray) (listIter_st pl) (fun i v s' Q' E' hv hQ => ?_) (fun h' tk hk => ?_)))
  · have hi : its[i]? = some v := by simpa using hv
    have hi2 : i < bs.length := by rw [hl]; exact (List.getElem?_eq_some_iff.mp hi).1
    obtain ⟨u', hu, ru⟩ := rv.get (show (bs.map V.bl)[i]? = some (.bl (bs.getD i true)) by rw [List.getElem?_map, List.getElem?_eq_getElem hi2]; simp [List.getD, hi2])
    rw [hi] at hu
    cases hu
    cases ru
    exact wpAny_truthy_bool hQ
  · refine (xWWPP (.bl (bs.all id)) H (I.kept (h' := h') (t' := tk) fun b o e => ?_) ?_ q)
    · refine hk b o ?_ (Heap.get?_push_of_some _ e)
      simp only [List.mem_cons, List.not_mem_nil, or_false]
      exact Nat.ne_of_lt (Heap.lt_size e)
    · show Value.bool _ = Value.bool _
      rw [List.size_toArray, ← hl, all_range]
end
end L2

namespace L2
open PySem PySem.Spec PyProof.Rows
section
variable {X : Cx}
end
end L2

namespace L2
open PySem PySem.Spec PyProof.Rows

section
variable {P : Program} {w : World} {H H' : Hp} {h h' : Heap} {a : Addr} {o : HO}
theorem ObjOk.here (x : ObjOk P w H h a o) : ∃ u, h.get? a = some u := by
  cases o with
  | lst xs => exact let ⟨_, _, _, _, e⟩ := x; ⟨_, e⟩
  | tup xs => exact let ⟨_, _, _, _, e, _⟩ := x; ⟨_, e⟩
  | dK kvs => exact let ⟨_, _, _, _, _, _, _, e, _⟩ := x; ⟨_, e⟩
  | dT kvs => exact let ⟨_, _, _, _, _, _, _, e, _⟩ := x; ⟨_, e⟩
  | set S n => exact let ⟨_, _, _, _, e, _⟩ := x; ⟨_, e⟩
  | ins C dx fs => exact let ⟨_, _, _, e, _⟩ := x; ⟨_, e⟩
  | own y => exact x
  | xd fs => refine yWP x fun _ h1 _ => ?_; try clear x; refine yWWWP h1 fun _ _ _ e _ => ?_; try clear h1; exact ⟨_, e⟩
  | rng lo hi => exact let ⟨_, _, _, e⟩ := x; ⟨_, e⟩
  | frz ob u => exact ⟨_, x.1⟩
  | tbl ps => exact ⟨_, (show h.get? a = some _ from x)⟩
  | met f y => exact ⟨_, (show h.get? a = some _ from x)⟩
  | ext φ => exact x.2.1

theorem HOk.gone (x : HOk P w H h) (e : h.get? a = none) : H a = none := by
  cases q : H a with
  | none => rfl
  | some o =>
    obtain ⟨u, z⟩ := (x a o q).here
    rw [e] at z
    cases z

theorem HOk.hid {fs : List Addr} (x : HOk P w H h) (n : ∀ b ∈ fs, H b = none) : HOk P w H (PySem.W.hideAll h fs) := fun a o e => by
  refine (x a o e).stay (fun b u hb q => PySem.W.hideAll_get fs q fun m => ?_) (fun _ q => q) fun _ _ q => q
  have z := n b m
  rcases hb with rfl | hb
  · rw [z] at e; cases e
  · rw [z] at hb; cases hb
end

def CXr (P : Program) (w : World) (C : Addr) : CXT := fun outer H s E e s' =>
  ∃ (x : Addr) (a0 : Value) (B : Heap) (H' : Hp), e = .ref x ∧ s'.os = s.os ∧ AllBare s'.gens ∧ Un (frs outer) [] H H' s.heap s'.heap ∧
    (∀ b o, s.heap.get? b = some o → H b = none → b ∉ frs outer → B.get? b = some o) ∧ (∀ b o, s.heap.get? b = some o → b ∉ frs outer → ∃ u, B.get? b = some u) ∧ HOk P w H' B ∧ Heap.FlyingW B outer x (.ref C) a0 s'.heap ∧ E e none H'

theorem exc_at {K : PySem.W.Frag} {h : Heap} {C : Addr} {bmB : List Value} {newId : String} (X : K.In h) (q : PySem.W.excIn K C bmB newId = true) :
    ∃ bm N nm qn bs hdct sn sub ab col dd k0 k1 k2 k3 k5 mN, h.get? C = some (excClassObj nm qn C N bs bm hdct sn sub ab col dd k0 k1 k2 k3 k5 newId) ∧ h.Ns N mN ∧ mN "__init__" = none ∧ OwnTail h bmB bm := by
  unfold PySem.W.excIn at q
  split at q
  · rename_i dd cd sl ho
    split at q
    · rename_i C' bm k0 k1 k2 k3 n k5 hm hs
      simp only [Bool.and_eq_true, beq_iff_eq, Bool.not_eq_true'] at q
      obtain ⟨⟨⟨⟨⟨e1, e2⟩, e3⟩, e4⟩, e5⟩, e6⟩ := q
      subst e1
      subst e2
      cases cd with
      | mk nm bs mro ns qn hd sn sub ab col del =>
        cases sl with
        | mk l =>
          change mro = _ at hm
          change l = _ at hs
          change del = false at e3
          cases hm
          cases hs
          cases e3
          refine (xWWWWWWWW bm ns nm qn bs hd sn sub (xWWWWWWWW ab col dd k0 k1 k2 k3 k5 (xWPPP (h.nsMap ns) ?_ ?_ ?_ (PySem.W.tail_of_in X e4))))
          · exact X _ _ ho
          · exact Heap.Ns.of_isNs (PySem.W.isNs_of_in X e5)
          · exact PySem.W.nsMap_none_of_in X e5 e6
    · cases q
  · cases q

def tRaise (E : XK) : TS := fun _ _ H => ∀ x : Addr, E (.ref x) none H

section
variable {P : Program} {w : World} {K : PySem.W.Frag} {mg : Str → Option Value} {base : Heap} {N : List Str} {qual : Str} {scope : Scope} {f C : Addr} {cd : Value} {A : Around} {outer : List Env} {s₀ : Shared} {H₀ : Hp} {E : XK}
  {x : Str} {Bs newId initId : String} {bm : List Value} {np cpos pos p : Pos} {msg : Str} {j : Nat}

theorem ps_raise (O : PySem.W.excIn K C bm newId = true) (FB : ExcBaseFacts Bs newId initId bm) (hm : mg x = some (.ref C)) (hg : scope.names.lookup x = some .globalImplicit := by rfl) (hd : (x == ("__debug__" : Str)) = false := by decide) :
    PS (cxOf (CXr P w C) P w K mg base N qual scope f cd A outer s₀ H₀ E) (.Raise (some (.Call (.Name x np) [.Constant (.str msg) j p] [] cpos)) none pos) (tRaise E) := by
  intro pins s σ H D I h
  refine yWWWWWWWW (exc_at I.ok.mod.kin O) fun bm' N' nm qn bs hdct sn sub yr253 => ?_; refine yWWWWWWWW yr253 fun ab col dd k0 k1 k2 k3 k5 yr254 => ?_; try clear yr253; refine yWPPP yr254 fun mN hC hN hni T => ?_; try clear yr254
  refine wpAny_Raise_call_subT (nm := nm) (q := qn) (C := C) (N := N') (bs := bs) (bm := bm') (hdct := hdct) (sn := sn) (sub := sub) (ab := ab) (col := col) (dd := dd)
    (k0 := k0) (k1 := k1) (k2 := k2) (k3 := k3) (k5 := k5) FB (T.hasType FB.hasBase) (I.ok.hd rfl) rfl hni (ld_glob I hg hm ⟨rfl, ?_⟩ hd)
  refine Calls.evalArgs_plain (thn ((pa_cons pe_str pa_nil : PA _ [.Constant (.str msg) j p] _) cpos pins s σ H (fun vs H1 => vs.length = 1 ∧ H1 = H) I ⟨rfl, rfl⟩) ?_)
  intro us s2 hq12; refine yWWPPP hq12 fun vs H2 I2 r hl yr256 => ?_; try clear hq12; subst yr256
  refine (xPPPPP rfl ?_ (I2.bk C _ hC) (hN.keeps I2.bk) (T.keeps I2.bk) (fun h' e hx => ?_))
  · show us.length ≤ sizeLine
    rw [← r.length, hl]; decide
  · have hst : s2.heap.FunFrames base (envOfC qual scope s₀.heap.objs.size f cd :: outer) := I2.stack
    have hin : ∀ env ∈ envOfC qual scope s₀.heap.objs.size f cd :: outer, ∀ b, env.frame = some b → b ∈ frs (envOfC qual scope s₀.heap.objs.size f cd :: outer) := fun env he b hb => List.mem_filterMap.mpr (xWP env he hb)
    have hfree : ∀ b ∈ frs (envOfC qual scope s₀.heap.objs.size f cd :: outer), H2 b = none := I2.stkFree
    have hub : Un (frs outer) [] H₀ H2 s₀.heap s2.heap := I2.base
    have old : ∀ b o, s₀.heap.get? b = some o → b ∉ frs outer → b ∉ frs (envOfC qual scope s₀.heap.objs.size f cd :: outer) := fun b o hb hn hm => by
      refine yWP (List.mem_filterMap.mp hm) fun env he hf => ?_
      rcases List.mem_cons.mp he with rfl | he
      · have z : s₀.heap.objs.size = b := Option.some.inj hf
        exact Nat.lt_irrefl _ (z ▸ Heap.lt_size hb)
      · exact hn (List.mem_filterMap.mpr (xWP env he hf))
    have sub : ∀ b, b ∈ frs outer → b ∈ frs (envOfC qual scope s₀.heap.objs.size f cd :: outer) := fun b hb => by
      refine yWP (List.mem_filterMap.mp hb) fun env he hf => ?_
      exact List.mem_filterMap.mpr (xWP env (List.mem_cons_of_mem _ he) hf)
    refine wpAny_leaves_madeW (base := PySem.W.hideAll s2.heap (frs (envOfC qual scope s₀.heap.objs.size f cd :: outer))) (h := s2.heap) (L := s₀.heap.objs.size) I2.ok.frames rfl
      (fun b o q => PySem.W.of_hideAll _ q) (PySem.W.funFrames_hide hst hin) hx fun h2 t f1 f2 f3 f4 => ?_
    have kp : ∀ b o, s2.heap.get? b = some o → b ∉ frs (envOfC qual scope s₀.heap.objs.size f cd :: outer) → h2.get? b = some o := fun b o q n => f1.1 b o (PySem.W.hideAll_get _ q n)
    have sl : ∀ b o, s2.heap.get? b = some o → b ∈ frs (envOfC qual scope s₀.heap.objs.size f cd :: outer) → ∃ z, h2.get? b = some { o with slots := z } := fun b o q m => by
      refine yPWP (hst.mem m) fun _ o' ho' hd' => ?_
      rw [q] at ho'
      cases ho'
      exact f4 b o (hx.keeps b o q) hd'
    refine (xWWWWPPPP e (.ref t) _ H2 rfl I2.os I2.bare ⟨?_, ?_, hub.free, ?_, hub.tups, hub.frzs, hub.tbls⟩ (xPPPP ?_ ?_ (I2.hok.hid hfree) f1 (h e)))
    · exact fun b o q n hb hx => kp b o (hub.keep b o q n hb hx) (old b o q hb)
    · intro b o q n hb hx
      obtain ⟨z, e1⟩ := hub.slot b o q n hb hx
      obtain ⟨z', e2⟩ := sl b _ e1 (sub b hb)
      exact ⟨z', e2⟩
    · intro b o q hx
      obtain ⟨o', e1⟩ := hub.there b o q hx
      by_cases hm : b ∈ frs (envOfC qual scope s₀.heap.objs.size f cd :: outer)
      · obtain ⟨z, e2⟩ := sl b _ e1 hm
        exact ⟨_, e2⟩
      · exact ⟨_, kp b _ e1 hm⟩
    · exact fun b o q n hb => PySem.W.hideAll_get _ (hub.keep b o q n hb (by simp)) (old b o q hb)
    · intro b o q hb
      obtain ⟨u, z⟩ := hub.there b o q (by simp)
      exact ⟨u, PySem.W.hideAll_get _ z (old b o q hb)⟩
end
end L2

namespace L2
open PySem PySem.Spec PyProof.Rows

def excO (C x : Addr) : HO := .ext fun h => ∃ o, h.get? x = some o ∧ o.cls = .ref C
theorem excO_ok {P : Program} {w : World} {H : Hp} {h : Heap} {C x : Addr} {o : Obj} (e : h.get? x = some o) (c : o.cls = .ref C) : ObjOk P w H h x (excO C x) :=
  (xPP (xWP o e c) ⟨o, e⟩ (fun _ _ ⟨u, e1, c1⟩ k => (xWP u (k u e1) c1)))

abbrev Cx.at' (X : Cx) (A : Around) (calm : Bool) (pn : List (Addr × Obj)) (xe : Value → Shared → Prop) : Cx := { X with A := A, calm := calm, pn := pn, xe := xe }
abbrev tried (X : Cx) (pn : List (Addr × Obj)) (xe : Value → Shared → Prop) : Cx := X.at' X.A X.calm pn xe
abbrev caught (X : Cx) (pn : List (Addr × Obj)) (xe : Value → Shared → Prop) (e : Addr) : Cx := X.at' (X.A.mark (some (.ref e))) false pn xe

section
variable {X : Cx} {pins pins' pn : List (Addr × Obj)} {σ : St} {H H' : Hp} {s s' : Shared} {A : Around} {calm : Bool} {xe : Value → Shared → Prop}
theorem Inv.swap (I : Inv X pins σ H s) (hp : ∀ p ∈ pn ++ pins', p ∈ X.pn ++ pins) (hA : A.frames = X.A.frames) (hc : calm = true → A.handled = none) : Inv (X.at' A calm pn xe) pins' σ H s :=
  let o := I.ok
  ⟨⟨o.mod, o.kind, o.glob, o.blt, o.above, o.inj, o.has, o.cab, hc, hA.trans o.frames, o.stk, o.exf, o.bs, o.bsz, o.noex, o.exfs, o.funs, o.frf⟩, I.os, I.bare, I.base, I.loc, I.cell, I.free, I.freeC, fun p q => I.pin p (hp p q), I.hok, I.len⟩

theorem Inv.unset {m : Str → Option Value} {h' : Heap} {i : Nat} {x : Str} {u : Option Value} (I : Inv X pins σ H s) (nd : X.N.Nodup) (hi : X.N[i]? = some x) (hn : s.heap.Ns X.env.locals m)
    (hl : ∀ (i : Nat) (x : Str) (v : V), X.N[i]? = some x → σ[i]? = some (some v) → Vis X.env.scope x → ∃ u, RelV v u ∧ Look X.env s.heap m x u)
    (hn' : h'.Ns X.env.locals fun y => if y = x then u else m y) (hs : Heap.SameBut X.env.locals s.heap h') : Inv X pins (σ.set i none) H { s with heap := h' } := by
  have cne := I.cne
  have old : ∀ b o, X.s₀.heap.get? b = some o → b ≠ X.env.locals := fun b o e => Nat.ne_of_lt (Nat.lt_of_lt_of_le (Heap.lt_size e) I.ok.above)
  refine ⟨I.ok, I.os, I.bare, ⟨fun b o e n hb hx => ?_, fun b o e n hb hx => ?_, I.base.free, fun b o e hx => ?_, I.base.tups, I.base.frzs, I.base.tbls⟩, (xWP _ hn' (fun k y v e1 e2 e3 => ?_)), fun y c e => ?_, I.free, I.freeC, fun p hp => ?_, ?_, by simpa using I.len⟩
  · exact (hs.2 b (old b o e)).trans (I.base.keep b o e n hb hx)
  · obtain ⟨sl, q⟩ := I.base.slot b o e n hb hx
    exact ⟨sl, (hs.2 b (old b o e)).trans q⟩
  · obtain ⟨o', q⟩ := I.base.there b o e hx
    exact ⟨o', (hs.2 b (old b o e)).trans q⟩
  · by_cases hk : k = i
    · subst hk
      by_cases hlt : k < σ.length
      · rw [List.getElem?_set_self hlt] at e2; cases e2
      · rw [List.getElem?_eq_none (by simpa using hlt)] at e2; cases e2
    · rw [List.getElem?_set_ne (Ne.symm hk)] at e2
      refine yWP (hl k y v e1 e2 e3) fun u' r' q => ?_
      refine (xWP u' r' ?_)
      have hy : y ≠ x := fun z => hk (nodup_ix nd e1 (z ▸ hi))
      rcases q with ⟨kd, e⟩ | ⟨kd, c, e, z⟩
      · exact .inl ⟨kd, by simp [hy, e]⟩
      · exact .inr (xPWP kd c e (z.sameBut hs (cne y c e)))
  · obtain ⟨w', z⟩ := I.cell y c e
    exact ⟨w', z.sameBut hs (cne y c e)⟩
  · refine yPPPP (I.pin p hp) fun e n ne nf d => ?_
    exact (xPPPP ((hs.2 p.1 ne).trans e) n ne nf d)
  · intro b ob e
    refine (I.hok b ob e).stay (fun c w' hc q => (hs.2 c ?_).trans q) (fun _ q => q) fun _ _ q => q
    rintro rfl
    rcases hc with rfl | hc
    · rw [I.free] at e; cases e
    · rw [I.free] at hc; cases hc

theorem unbind_ok {M : Model} {A : Around} {E : Value → Shared → Prop} {i : Nat} {x : Str} {pos : Pos} {Q : Unit → Shared → Prop} (I : Inv X pins σ H s) (nd : X.N.Nodup) (hi : X.N[i]? = some x) (hk : X.env.scope.names.lookup x = some .local)
    (h : ∀ s', Inv X pins (σ.set i none) H s' → Q () s') : wpAny M A (do bindName X.env x .none; unbindBehindTheSuite X.env x pos) Q E s := by
  have hcls : (X.env.scope.kind == .class || (X.env.scope.kind == .module && X.env.locals != X.env.globals)) = false := by rw [I.ok.kind]; rfl
  refine wpAny_bind (wpAny_bindName (store_ok (v := .non) I nd hi (.inl hk) rfl (fun s2 I2 => ?_) (.inr hk)))
  have hiσ : i < σ.length := by rw [I.len]; exact (List.getElem?_eq_some_iff.mp hi).1
  refine yWP I2.loc fun m hn hl => ?_
  refine yWP (hl i x .non hi (List.getElem?_set_self hiσ) (.inl hk)) fun u _ q => ?_
  have hv : m x = some u := by
    rcases q with ⟨_, e⟩ | ⟨kd, _⟩
    · exact e
    · have kd : X.env.scope.names.lookup x = some .cell ∨ X.env.scope.names.lookup x = some .free := kd
      rw [hk] at kd
      rcases kd with kd | kd <;> cases kd
  unfold unbindBehindTheSuite
  refine wpAny_onRaise (wpAny_unbindName_local hk hn hv hcls fun h' w hn' hs => h _ ?_)
  have z := I2.unset nd hi hn hl hn' hs
  rwa [List.set_set] at z
end

theorem Inv.track {X : Cx} {pins : List (Addr × Obj)} {σ : St} {H : Hp} {s : Shared} {x : Addr} {o : HO} (I : Inv X pins σ H s) (hx : H x = none) (n0 : X.s₀.heap.get? x = none) (nl : x ≠ X.env.locals)
    (nc : ∀ y c, X.env.cells.lookup y = some c → c ≠ x) (np : ∀ p ∈ X.pn ++ pins, p.1 ≠ x) (ok : ObjOk X.prog X.w (upd H x o) s.heap x o) : Inv X pins σ (upd H x o) s := by
  have ne : ∀ {b : Addr} {u : HO}, H b = some u → b ≠ x := fun {b u} e z => by rw [z, hx] at e; cases e
  refine ⟨I.ok, I.os, I.bare, ⟨I.base.keep, I.base.slot, fun b u e n hb => ?_, I.base.there, fun b xs e => ?_, fun b u v e => ?_, fun b ps e => ?_⟩, I.loc, I.cell, ?_, fun y c e => ?_, fun p hp => ?_, fun b u e => ?_, I.len⟩
  · rw [upd_ne (fun z => by rw [z, n0] at e; cases e)]; exact I.base.free b u e n hb
  · have z := I.base.tups b xs e
    rw [upd_ne (ne z)]; exact z
  · have z := I.base.frzs b u v e
    rw [upd_ne (ne z)]; exact z
  · obtain ⟨more, z⟩ := I.base.tbls b ps e
    exact ⟨more, by rw [upd_ne (ne z)]; exact z⟩
  · rw [upd_ne (Ne.symm nl)]; exact I.free
  · rw [upd_ne (nc y c e)]; exact I.freeC y c e
  · refine yPP (I.pin p hp) fun e n r => ?_
    exact (xPP e (by rw [upd_ne (np p hp)]; exact n) r)
  · by_cases hb : b = x
    · subst hb; rw [upd_same] at e; cases e; exact ok
    · rw [upd_ne hb] at e
      exact (I.hok b u e).stay (fun _ _ _ q => q) (fun c q => by rw [upd_ne (ne q)]; exact q) fun c xs q => by rw [upd_ne (ne q)]; exact q

def tTry (n i : Nat) (C : Addr) (E : XK) (tb ts : TS) : TS := fun D σ H => tb D σ H ∧ ∀ (x : Addr) (σ' : St) (H' : Hp), σ'.length = n → E (.ref x) none H' → H' x = none →
  ts { nx := fun σ2 H2 => D.nx (σ2.set i none) H2, rt := D.rt, bk := fun σ2 H2 => D.bk (σ2.set i none) H2, ct := fun σ2 H2 => D.ct (σ2.set i none) H2 } (σ'.set i (some (.ref x))) (upd H' x (excO C x))

section
variable {X : Cx} {C Cb : Addr} {E : XK} {body suite : List Stmt} {b₀ : Stmt} {y n : Str} {i : Nat} {np hpos pos : Pos} {tb ts : TS}
theorem ps_tryAs (hx0 : X.ex = []) (hst : X.stack = X.env :: X.outer) (hf : X.env.frame = some X.env.locals) (hcalm : X.calm = true) (hm : X.mg y = some (.ref Cb)) (hg : Gl X y) (hex : PySem.W.exmOne X.K (.ref C) (.ref Cb) = some true)
    (nd : X.N.Nodup) (hi : X.N[i]? = some n) (hl : X.env.scope.names.lookup n = some .local) (hb : ∀ pn xe, Passes (CXr X.prog X.w C) (tried X pn xe) E → PSs (tried X pn xe) body tb)
    (hs : ∀ pn xe e, PSs (caught X pn xe e) (b₀ :: suite) ts) (hd : (y == ("__debug__" : Str)) = false := by decide) :
    PS X (.Try body [.ExceptHandler (some (.Name y np)) (some n) (b₀ :: suite) hpos] [] [] pos) (tTry X.N.length i C E tb ts) := by
  intro pins s σ H D I ⟨h1, h2⟩
  refine wpAny_Try_except ?_
  refine wpAny_mono (hb (X.pn ++ pins) _ ?pass [] s σ H D (I.swap (by simp) rfl I.ok.hd) h1) ?fin fun e s' he => he
  case fin =>
    intro f s' hf
    cases f with
    | next =>
      refine yWWP hf fun σ' H' J q => ?_; try clear hf
      exact wpAny_pure (xWWP σ' H' (J.swap (A := X.A) (calm := X.calm) (pn := X.pn) (xe := X.xe) (pins' := pins) (by simp) rfl I.ok.hd) q)
    | brk =>
      refine yWWP hf fun σ' H' J q => ?_; try clear hf
      exact (xWWP σ' H' (J.swap (A := X.A) (calm := X.calm) (pn := X.pn) (xe := X.xe) (pins' := pins) (by simp) rfl I.ok.hd) q)
    | cont =>
      refine yWWP hf fun σ' H' J q => ?_; try clear hf
      exact (xWWP σ' H' (J.swap (A := X.A) (calm := X.calm) (pn := X.pn) (xe := X.xe) (pins' := pins) (by simp) rfl I.ok.hd) q)
    | ret u =>
      refine yWWWPP hf fun v σ' H' J r q => ?_; try clear hf
      exact (xWWWPP v σ' H' (J.swap (A := X.A) (calm := X.calm) (pn := X.pn) (xe := X.xe) (pins' := pins) (by simp) rfl I.ok.hd) r q)
  case pass =>
    intro pins' σ1 H1 s1 e s' I1 hc
    refine yWWWWPPPP hc fun x a0 B H' ye269_4 hos bare un yr269 => ?_; try clear hc; subst ye269_4; refine yPPPP yr269 fun kB tB okB fly hE => ?_; try clear yr269
    have J1 : Inv X pins σ1 H1 s1 := I1.swap (A := X.A) (calm := X.calm) (pn := X.pn) (xe := X.xe) (pins' := pins) (fun p q => List.mem_append_left _ q) rfl I.ok.hd
    have fly : Heap.FlyingW B X.stack x (.ref C) a0 s'.heap := fly
    have un : Un (frs X.stack) [] H1 H' s1.heap s'.heap := un
    have kB : ∀ b o, s1.heap.get? b = some o → H1 b = none → b ∉ frs X.stack → B.get? b = some o := kB
    have tB : ∀ b o, s1.heap.get? b = some o → b ∉ frs X.stack → ∃ u, B.get? b = some u := tB
    have hfree : ∀ b ∈ frs X.stack, H1 b = none := J1.stkFree
    have xfree : H' x = none := okB.gone fly.2.1
    -- any later heap in which all of B stays, and the frames but for their slots
    have next : ∀ h5, Heap.FlyingW B X.stack x (.ref C) a0 h5 → s'.heap.UpToSlots h5 → Inv X pins σ1 H' { s' with heap := h5 } := fun h5 f5 up => by
      refine J1.call' (ch := []) hos ⟨fun b o q n hb _ => f5.1 b o (kB b o q n hb), fun b o q n hb hx => ?_, un.free, fun b o q hx => ?_, un.tups, un.frzs, un.tbls⟩ (okB.kept f5.1) bare (fun b z => absurd z (by simp))
      · obtain ⟨sl, e1⟩ := un.slot b o q n hb hx
        refine yPWP (J1.stack.mem hb) fun _ o' e2 nf => ?_
        rw [q] at e2
        cases e2
        obtain ⟨sl', e3⟩ := up b _ e1 nf
        exact ⟨sl', e3⟩
      · cases e4 : H1 b with
        | some ho =>
          obtain ⟨u, z⟩ := tB b o q fun hb => by rw [hfree b hb] at e4; cases e4
          exact ⟨u, f5.1 b u z⟩
        | none =>
          by_cases hb : b ∈ frs X.stack
          · obtain ⟨sl, e1⟩ := un.slot b o q e4 hb hx
            refine yPWP (J1.stack.mem hb) fun _ o' e2 nf => ?_
            rw [q] at e2
            cases e2
            obtain ⟨sl', e3⟩ := up b _ e1 nf
            exact ⟨_, e3⟩
          · exact ⟨_, f5.1 b o (kB b o q e4 hb)⟩
    have hfr : X.A.frames = some (X.env :: X.outer) := by rw [← hst]; exact I.ok.frames
    rw [hst] at fly next
    refine wpAny_looks_onW hfr hf fly fun h4 held4 up4 => ?_
    refine wpAny_landsW held4 fun h5 fly5 up5 => ?_
    have J5 := next h5 fly5 (up4.trans up5)
    refine wpAny_handleBy_cons (codeAny_handlers_test ?_) (by intro q; cases q)
    have C5 : ∀ xe, Inv (caught X (X.pn ++ pins) xe x) [] σ1 H' { s' with heap := h5 } := fun xe => J5.swap (by simp) rfl (fun z => by cases z)
    refine ld_glob (C5 fun _ _ => True) hg hm ?_ hd
    refine yWP fly5.there fun ob hob hcl => ?_
    have LT : PySem.W.Looks (model X.prog X.w) h5 (typeOf (.ref x)) (.ref C) := hcl ▸ (PySem.W.Looks.ld hob).andThen .now
    refine PySem.W.exm_one J5.kIn LT hex _ _ _ _ (fun _ _ q => q) ?_
    refine codeAny_handlers_suite_as ?_
    refine lands_againW fly5 fun h6 fly6 up6 => ?_
    have J6 := next h6 fly6 ((up4.trans up5).trans up6)
    refine yWWPPP fly6.first fun oe vs hoe hcl6 hda _ => ?_
    have nfr : x ∉ frs X.stack := fun m => by
      refine yPWP (J6.stack.mem m) fun _ o e1 nf => ?_
      have e1 : h6.get? x = some o := e1
      rw [hoe] at e1
      cases e1
      exact nf vs hda
    have nl : x ≠ X.env.locals := fun z => nfr (by rw [hst]; exact List.mem_filterMap.mpr (xWP X.env (List.mem_cons_self ..) (z ▸ hf)))
    have nB : ∀ b o, B.get? b = some o → b ≠ x := fun b o e z => by rw [z, fly6.2.1] at e; cases e
    have K6 := J6.track (x := x) (o := excO C x) xfree ?n0 nl ?nc ?np (excO_ok hoe hcl6)
    case n0 =>
      cases e : X.s₀.heap.get? x with
      | none => rfl
      | some o =>
        obtain ⟨o1, e1⟩ := J1.base.there x o e (by rw [hx0]; simp)
        obtain ⟨u, e2⟩ := tB x o1 e1 nfr
        exact absurd rfl (nB x u e2)
    case nc =>
      intro yy c e z
      refine yWWP (J6.cell yy c e) fun v o e1 e2 => ?_
      have e1 : h6.get? c = some o := e1
      rw [z, hoe] at e1
      cases e1
      rw [hda] at e2
      cases e2
    case np =>
      intro p hp
      refine yPPPP (J1.pin p hp) fun e1 e2 e3 e4 _ => ?_
      refine nB p.1 p.2 (kB p.1 p.2 e1 e2 fun m => ?_)
      rw [hst] at m
      refine yWP (List.mem_filterMap.mp m) fun env he hf' => ?_
      rcases List.mem_cons.mp he with rfl | he
      · rw [hf] at hf'; exact e3 (Option.some.inj hf').symm
      · exact e4 (List.mem_filterMap.mpr (xWP env he hf'))
    have K7 : ∀ xe, Inv (caught X (X.pn ++ pins) xe x) [] σ1 (upd H' x (excO C x)) { s' with heap := h6 } := fun xe => K6.swap (by simp) rfl (fun z => by cases z)
    refine store_ok (X := caught X (X.pn ++ pins) (fun _ _ => True) x) (v := .ref x) (K7 _) nd hi (.inl hl) rfl (fun s7 I7 => ?_) (.inr hl)
    refine thn (hs (X.pn ++ pins) _ x [] s7 _ _ _ (I7.swap (A := X.A.mark (some (.ref x))) (calm := false) (pn := X.pn ++ pins) (pins' := []) (fun p q => q) rfl (fun z => by cases z)) (h2 x σ1 H' J1.len hE xfree)) ?_
    intro f s8 hsp
    dsimp only
    have back : ∀ {σ8 H8}, Inv (caught X (X.pn ++ pins) (fun _ _ => True) x) [] σ8 H8 s8 → Inv X pins σ8 H8 s8 := fun J => J.swap (A := X.A) (calm := X.calm) (pn := X.pn) (xe := X.xe) (pins' := pins) (by simp) rfl I.ok.hd
    cases f with
    | next =>
      refine yWWP hsp fun σ8 H8 J8 q => ?_; try clear hsp
      exact unbind_ok (back (J8.swap (A := X.A.mark (some (.ref x))) (calm := false) (pn := X.pn ++ pins) (pins' := []) (fun p q => q) rfl (fun z => by cases z))) nd hi hl fun s9 I9 => (xWWP _ _ I9 q)
    | brk =>
      refine yWWP hsp fun σ8 H8 J8 q => ?_; try clear hsp
      exact unbind_ok (back (J8.swap (A := X.A.mark (some (.ref x))) (calm := false) (pn := X.pn ++ pins) (pins' := []) (fun p q => q) rfl (fun z => by cases z))) nd hi hl fun s9 I9 => (xWWP _ _ I9 q)
    | cont =>
      refine yWWP hsp fun σ8 H8 J8 q => ?_; try clear hsp
      exact unbind_ok (back (J8.swap (A := X.A.mark (some (.ref x))) (calm := false) (pn := X.pn ++ pins) (pins' := []) (fun p q => q) rfl (fun z => by cases z))) nd hi hl fun s9 I9 => (xWWP _ _ I9 q)
    | ret u =>
      refine yWWWPP hsp fun v σ8 H8 J8 r q => ?_; try clear hsp
      exact unbind_ok (back (J8.swap (A := X.A.mark (some (.ref x))) (calm := false) (pn := X.pn ++ pins) (pins' := []) (fun p q => q) rfl (fun z => by cases z))) nd hi hl fun s9 I9 => (xWWWPP v _ _ I9 r q)
end
end L2

namespace L2
open PySem PySem.Spec PyProof.Rows PySem.W

def isExc (C x : Addr) (h : Heap) : Prop := ∃ o, h.get? x = some o ∧ o.cls = .ref C

structure ExcK (K : Frag) (C : Addr) : Prop where
  ga : findIn K (.ref C) "__getattribute__" = some (some (.builtin "BaseException.__getattribute__"))
  gt : findIn K (.ref C) "__getattr__" = some none
  cl : findIn K (.ref C) "__class__" = some (some (.builtin "object.__class__"))
  sb : subIn K (.ref C) (.type "BaseException") = some true
  so : subIn K (.ref C) (.type "object") = some true
  ic : isClsIn K C = true

section
variable {prog : Program} {w : World} {A : Around} {E : Value → Shared → Prop} {h : Heap} {g : Array GenState} {d : Drawn} {t : Nat} {os : OsState} {a C : Addr} {K : Frag}

theorem excTy {M : Model} (e : isExc C a h) : Looks M h (typeOf (.ref a)) (.ref C) := by
  refine yWP e fun o h1 h2 => ?_; try clear e
  exact h2 ▸ (Looks.ld h1).andThen .now

theorem exc_clsGet {R : Result → Shared → Prop} (X : K.In h) (F1 : ExcK K C) (e : isExc C a h) (hq : R (.ok (.ret (.ref C))) ⟨h, g, d, t, os⟩) :
    codeAny (model prog w) A (.call (.builtin "getset_descriptor.__get__") ⟨[.builtin "object.__class__", .ref a, .ref C], []⟩) R ⟨h, g, d, t, os⟩ := by
  have L0 := excTy (M := model prog w) e
  have L1 : Looks (model prog w) h (isSubtype (.ref C) (.type (".".intercalate ("object.__class__".cutAt '.').dropLast))) true := by
    rw [F.owner_object_class]; exact looks_subIn X F1.so
  have hT : (⟨h, g, d, t, os⟩ : Shared).TypeIs (.builtin "object.__class__") "getset_descriptor" := F.typeOf_object_class
  refine codeAny_call_builtin F.slot_gs_get.plain F.entry_gs_get (F.slot_gs_get.check _ _ _ _ _ _ _ _ hT (F.args_gs_get _ _ _) ?_)
  repeat (any_goals (first | assumption | (with_reducible refine L0.at ?_) | (with_reducible refine L1.at ?_) | wp_step))
  refine ⟨Code.quiet_builtin _ (by decide +kernel), codeAny_builtin F.entry_object_class ?_⟩
  repeat (any_goals (first | assumption | (with_reducible refine L0.at ?_) | wp_step))

theorem exc_clsEntry {tk : Tok} {Q : Fin → Shared → Prop} (X : K.In h) (F1 : ExcK K C) (e : isExc C a h) (hq : Q (.done (.ret (.ref C))) ⟨h, g, d, t, os⟩) :
    wpAny (model prog w) A (Builtin.«object.__getattribute__» ⟨[.ref a, .str "__class__" tk], []⟩) Q E ⟨h, g, d, t, os⟩ := by
  have L0 := excTy (M := model prog w) e
  have L1 := looks_findIn (M := model prog w) X F1.cl
  have hT : (⟨h, g, d, t, os⟩ : Shared).TypeIs (.builtin "object.__class__") "getset_descriptor" := F.typeOf_object_class
  have f5 := F.typeOf_object_class
  have f6 := F.slot_gs_get.lookup
  have f7 := F.slot_gs_set.lookup
  repeat (any_goals (first | assumption | (with_reducible refine L0.at ?_) | (with_reducible refine L1.at ?_) | wp_step))
  refine exc_clsGet X F1 e ?_
  repeat (any_goals (first | assumption | wp_step))

theorem exc_checkGa {M : Model} {nameV : Value} {Q : Unit → Shared → Prop} (X : K.In h) (F1 : ExcK K C) (e : isExc C a h) (hq : Q () ⟨h, g, d, t, os⟩) :
    wpAny M A (checkBuiltinCall "BaseException.__getattribute__" ⟨[.ref a, nameV], []⟩) Q E ⟨h, g, d, t, os⟩ := by
  have hk : builtinKind "BaseException.__getattribute__" = some .slot := by decide +kernel
  have hsplit : splitId "BaseException.__getattribute__" = some ("BaseException", "__getattribute__") := by decide +kernel
  have ha := F.args_bexc_ga (.ref a) nameV
  have L0 := excTy (M := M) e
  have L1 := looks_subIn (M := M) X F1.sb
  simp only [checkBuiltinCall, hk, hsplit]
  unfold isInstance
  repeat (first | (with_reducible refine L0.at ?_) | (with_reducible refine L1.at ?_) | wp_step)
  all_goals exact hq

theorem exc_clsBy {tk : Tok} {Q : Value → Shared → Prop} (X : K.In h) (F1 : ExcK K C) (e : isExc C a h) (hq : Q (.ref C) ⟨h, g, d, t, os⟩) :
    wpAny (model prog w) A (getAttrBy (.ref a) (.str "__class__" tk) false) Q E ⟨h, g, d, t, os⟩ := by
  have L0 := excTy (M := model prog w) e
  have L1 := looks_findIn (M := model prog w) X F1.ga
  have L2 := looks_findIn (M := model prog w) X F1.gt
  have f3 := (show Slot "ValueError" "__getattribute__" "BaseException.__getattribute__" from PySem.F.excAttr_ValueError.ga).bind (.ref a)
  have hx2 : (Value.builtin "BaseException.__getattribute__" == Value.builtin "object.__getattribute__") = false := by decide +kernel
  have hx1 : (onTheHeap (Value.ref C) && Value.builtin "BaseException.__getattribute__" == Value.builtin "object.__getattribute__") = false := by rw [hx2]; rfl
  repeat (any_goals (first | assumption | (with_reducible refine L0.at ?_) | (with_reducible refine L1.at ?_) | (with_reducible refine L2.at ?_) | wp_step))
  refine codeAny_call_builtin (PySem.F.excAttr_ValueError.ga).plain F.entry_bexc_ga (exc_checkGa X F1 e (exc_clsEntry X F1 e ?_))
  repeat (any_goals (first | assumption | wp_step))

theorem exc_clsAttr {Q : Option Value → Shared → Prop} (X : K.In h) (F1 : ExcK K C) (e : isExc C a h) (hq : Q (some (.ref C)) ⟨h, g, d, t + 1, os⟩) :
    wpAny (model prog w) A (getAttr? (.ref a) "__class__") Q E ⟨h, g, d, t, os⟩ := by
  unfold getAttr? getAttrBy?
  repeat (any_goals (first | assumption | with_reducible apply exc_clsBy X F1 e | wp_step))
end

theorem kitx_exc {K : Frag} {x C : Addr} (F1 : ExcK K C) : KitX K (.ref x) (.ref C) (isExc C x) where
  ty := fun _ _ _ p => excTy p
  it := fun _ _ X _ => by
    have z : (clsIn K C).isSome = true := F1.ic
    unfold clsIn at z
    split at z
    · rename_i ho
      intro A' Q' E' s' k q
      unfold isType loadHead
      exact wpAny_bind (wpAny_loadPart (k _ _ (X _ _ ho)) (wpAny_pure q))
    · cases z
  ne := fun h tp dd its n sl X htp => by
    refine Bool.eq_false_iff.mpr fun q => ?_
    have e : C = tp := Value.ref.inj (beq_iff_eq.mp q)
    have z : (clsIn K C).isSome = true := F1.ic
    rw [e] at z
    unfold clsIn at z
    split at z
    · rename_i ho
      have y := (X _ _ ho).symm.trans htp
      cases y
    · cases z
  ca := fun {_ _ _ _ _ s} X p k => by
    obtain ⟨h, g, d, t, os⟩ := s
    exact exc_clsAttr X F1 p k

structure ClsU (K : Frag) (C D : Addr) : Prop where
  ic : isClsIn K D = true
  ty : typeIn K (.ref D) = some (.type "type")
  sb : subIn K (.ref C) (.ref D) = some true
  ex : subIn K (.ref D) (.type "BaseException") = some true
structure ClsN (K : Frag) (C D : Addr) : Prop where
  ic : isClsIn K D = true
  ty : typeIn K (.ref D) = some (.type "type")
  sb : subIn K (.ref C) (.ref D) = some false
  ne : (Value.ref C == Value.ref D) = false
theorem kit_ref {K : Frag} {C D : Addr} {b : Bool} (ic : isClsIn K D = true) (ty : typeIn K (.ref D) = some (.type "type")) (sb : subIn K (.ref C) (.ref D) = some b) : kitCls K (.ref C) (.ref D) = some b := by
  have e : ((clsIn K D).isSome && typeIn K (.ref D) == some (.type "type")) = true := by rw [show (clsIn K D).isSome = true from ic, ty]; decide
  unfold kitCls
  dsimp only
  rw [if_pos e, sb]
theorem ClsU.exm {K : Frag} {C D : Addr} (h : ClsU K C D) : exmOne K (.ref C) (.ref D) = some true := by
  unfold exmOne
  rw [h.ex, if_pos (by decide)]
  exact kit_ref h.ic h.ty h.sb
theorem ClsN.one {K : Frag} {C D : Addr} (h : ClsN K C D) : kitOne K (.ref C) (.ref D) = some false := by
  unfold kitOne
  rw [h.ne, if_neg (by decide)]
  exact kit_ref h.ic h.ty h.sb
theorem kitAny_none {K : Frag} {C : Addr} : ∀ {cs : List Addr}, (∀ D ∈ cs, ClsN K C D) → kitAny K (.ref C) (cs.map Value.ref) = some false
  | [], _ => rfl
  | D :: cs, h => by
    rw [List.map_cons]
    unfold kitAny
    rw [(h D List.mem_cons_self).one]
    exact kitAny_none fun E hE => h E (List.mem_cons_of_mem _ hE)
theorem kit_self {K : Frag} {C : Addr} : kitOne K (.ref C) (.ref C) = some true := by
  unfold kitOne
  rw [if_pos (by simp)]
theorem kit_ve {K : Frag} {C : Addr} (sb : subIn K (.ref C) (.type "ValueError") = some true) : kitOne K (.ref C) (.type "ValueError") = some true := by
  have e : kitMeta "ValueError" = true := by decide +kernel
  unfold kitOne kitCls
  dsimp only
  rw [if_neg (by intro q; cases beq_iff_eq.mp q), if_pos e, sb]

section
variable {X : Cx}
def RelC (c : V) (u : Value) : Prop := (∃ D, c = .ref D ∧ u = .ref D) ∨ ∃ n, c = .ty n ∧ u = .type n
theorem RelC.is {c : V} {u v : Value} (h : RelC c u) (r : RelV c v) : v = u := by
  rcases h with ⟨D, rfl, rfl⟩ | ⟨n, rfl, rfl⟩ <;> exact r

theorem call_isiX : CallR X (.builtin "isinstance") (fun xs H Q => ∃ x C c u b, xs = [.ref x, c] ∧ RelC c u ∧ H x = some (excO C x) ∧ ExcK X.K C ∧ kitOne X.K (.ref C) u = some b ∧ Q (.bl b) H) := by
  intro pins s σ H xs us Q I r h
  refine yWWWWWPPP h fun x C c u b ye284_5 rc hx yr284 => ?_; try clear h; subst ye284_5; refine yPP yr284 fun F1 e q => ?_; try clear yr284
  refine yWWPP (vals2 r) fun u1 v ye286_2 r1 r2 => ?_; subst ye286_2
  cases (show u1 = Value.ref x from r1)
  cases rc.is r2
  have p : isExc C x s.heap := (show ObjOk X.prog X.w H s.heap x (excO C x) from I.hok x _ hx).1
  exact kia_one (kitx_exc F1) I.kIn p e (by intro z; cases z) fun tk => (xWWPP (.bl b) H (I.tok tk) rfl q)

theorem vals_refs : ∀ {cs : List Addr} {us : List Value}, Vals (cs.map V.ref) us → us = cs.map Value.ref
  | [], _, .nil => rfl
  | c :: cs, _, .cons r t => by rw [vals_refs t, show _ = Value.ref c from r]; rfl

theorem call_isiXs : CallR X (.builtin "isinstance") (fun xs H Q => ∃ (x C p : Addr) (cs : List Addr) (b : Bool), xs = [.ref x, .ref p] ∧ H x = some (excO C x) ∧ H p = some (.tup (cs.map V.ref)) ∧ ExcK X.K C ∧ kitAny X.K (.ref C) (cs.map Value.ref) = some b ∧ Q (.bl b) H) := by
  intro pins s σ H xs us Q I r h
  refine yWWWWWPPP h fun x C p cs b ye287_5 hx hp yr287 => ?_; try clear h; subst ye287_5; refine yPP yr287 fun F1 e q => ?_; try clear yr287
  refine yWWPP (vals2 r) fun u1 v ye289_2 r1 r2 => ?_; subst ye289_2
  cases (show u1 = Value.ref x from r1)
  cases (show v = Value.ref p from r2)
  have px : isExc C x s.heap := (show ObjOk X.prog X.w H s.heap x (excO C x) from I.hok x _ hx).1
  refine yPWPWPP ((show ObjOk X.prog X.w H s.heap p (.tup (cs.map V.ref)) from I.hok p _ hp)) fun _ its r' o ho hc yr290 => ?_; obtain ⟨n, hd⟩ := yr290
  cases vals_refs r'
  obtain ⟨c, dd, dt, sl⟩ := o
  cases (show c = .type "tuple" from hc)
  cases (show dt = .seq (cs.map Value.ref).toArray n from hd)
  exact kia_tup (kitx_exc F1) I.kIn px ho e (by intro z; cases z) fun tk => (xWWPP (.bl b) H (I.tok tk) rfl q)
end
end L2

namespace L2
open PySem PySem.Spec PyProof.Rows
section
variable {X : Cx} {pins : List (Addr × Obj)} {σ : St} {H : Hp} {s : Shared} {h' : Heap}
theorem Inv.turnedCh {t' : Nat} {ch : List Addr} (I : Inv X pins σ H s) (k : ∀ b u, b ∉ ch → s.heap.get? b = some u → h'.get? b = some u) (hf : ∀ b ∈ ch, FpOk X pins H b) : Inv X pins σ H { s with heap := h', toks := t' } := by
  have nit : ∀ b u, H b = some u → b ∉ ch := fun b u e z => by rw [(hf b z).1] at e; cases e
  refine I.step (g' := s.gens) (d' := s.drawn) (ch := ch) (fun b hb => ?_) (fun b o _ _ hc e _ => k b o hc e) (fun b o _ _ hc e _ => ⟨o.slots, k b o hc e⟩) (fun b u hc e n => n) (fun b u hc e => ⟨u, k b u hc e⟩)
    (fun b xs e => e) (fun b ob u e => e) (fun b ps e => ⟨#[], by rw [e]; simp⟩) (fun m hm => ?_) (fun b u e => ?_) I.bare
  · exact (xPPP ((hf b hb).2.2.2.1) ((hf b hb).2.1) ((hf b hb).2.2.2.2.1) ((hf b hb).2.2.2.2.2))
  · refine yWWWP hm fun ob es ep ho r => ?_; try clear hm
    exact (xWWWP ob es ep (k _ ob (fun z => (hf _ z).2.1 rfl) ho) r)
  · refine (I.hok b u e).stay (fun c v hc q => k c v ?_ q) (fun c q => q) fun c xs q => q
    rcases hc with z | z
    · rw [z]; exact nit b u e
    · exact nit c _ z
end
def Itz (a b : Addr) : It :=
  ⟨fun i H => ∃ xs ys x y, H a = some (.lst xs) ∧ H b = some (.lst ys) ∧ xs[i]? = some x ∧ ys[i]? = some y,
   fun i H v H' => ∃ T x y, v = .ref T ∧ H T = none ∧ H' = upd H T (.tup [x, y]) ∧ (∀ xs, H a = some (.lst xs) → xs[i]? = some x) ∧ ∀ ys, H b = some (.lst ys) → ys[i]? = some y,
   fun i H => ∃ xs ys, H a = some (.lst xs) ∧ H b = some (.lst ys) ∧ (xs.length ≤ i ∨ ys.length ≤ i)⟩
theorem turn_zip {P : Program} {w : World} {K : PySem.W.Frag} {elts : List Expr} {k : Nat} {pos : Pos} (a b z TI TO i1 i2 : Addr) (d : [z, TI, TO, i1, i2].Nodup) :
    Turn P w K (.Tuple elts k pos) (Itz a b) [z, TI, TO, i1, i2] z (fun i h => IsZip h z TI TO .none ∧ IsPair h TI (.ref i1) (.ref i2) ∧ (∃ u v, IsPair h TO u v) ∧ h.IsListIter i1 a i ∧ h.IsListIter i2 b i) := by
  simp only [List.nodup_cons, List.mem_cons, List.not_mem_nil, or_false, not_or] at d
  refine yPPPP d fun ye292_0 ye292_1 ye292_2 d10 _ => ?_; try clear d; obtain ⟨d1, d2, d3, d4⟩ := ye292_0; obtain ⟨d5, d6, d7⟩ := ye292_1; obtain ⟨d8, d9⟩ := ye292_2
  have apart : ∀ {H : Hp} {l l' : Addr} {xs ys : List V}, H l = some (.lst xs) → H l' = some (.lst ys) → (∀ c ∈ [z, TI, TO, i1, i2], H c = none) → ZipApart z TI TO i1 i2 l l' := fun {H l l' xs ys} h h' hn =>
    ⟨Ne.symm d1, Ne.symm d2, Ne.symm d3, Ne.symm d4, d5, d6, d7, d8, d9, d10, ne_of_none h (hn z (by simp)), ne_of_none h (hn TO (by simp)), ne_of_none h (hn i1 (by simp)), ne_of_none h (hn i2 (by simp)),
      ne_of_none h' (hn z (by simp)), ne_of_none h' (hn TO (by simp)), ne_of_none h' (hn i1 (by simp)), ne_of_none h' (hn i2 (by simp))⟩
  refine ⟨by simp, ?_, ?_, ?_, ?_, ?_⟩
  · rintro i h ⟨hz, hTI, ⟨u, v, hTO⟩, ⟨o1, h1, c1, e1⟩, ⟨o2, h2, c2, e2⟩⟩ b' hb
    simp only [List.mem_cons, List.not_mem_nil, or_false] at hb
    rcases hb with rfl | rfl | rfl | rfl | rfl
    · exact (xWP _ hz (fun v q => by have q' : Data.fields _ = Data.cell v := q; cases q'))
    · exact (xWP _ hTI (fun v q => by have q' : Data.seq _ _ = Data.cell v := q; cases q'))
    · exact (xWP _ hTO (fun v q => by have q' : Data.seq _ _ = Data.cell v := q; cases q'))
    · exact (xWP _ h1 (fun v q => by rw [e1] at q; cases q))
    · exact (xWP _ h2 (fun v q => by rw [e2] at q; cases q))
  · rintro i h h' ⟨hz, hTI, ⟨u, v, hTO⟩, h1, h2⟩ kk
    exact (xPPPP (kk z (by simp) _ hz) (kk TI (by simp) _ hTI) (xWW u v (kk TO (by simp) _ hTO)) (h1.at fun o e => kk i1 (by simp) o e) (h2.at fun o e => kk i2 (by simp) o e))
  · intro X hP hw hK hc i pins s σ H E I hf st hg
    subst hP hw hK
    refine yPPPP st fun hz hTI ye293_2 h1 h2 => ?_; try clear st; obtain ⟨u, v, hTO⟩ := ye293_2
    refine yWWWWPPP hg fun xs ys x y ha hb hx hy => ?_; try clear hg
    have D := apart ha hb fun c hc => (hf c hc).1
    refine yPWWPP (I.lstM ha) fun _ its n rv hl e => ?_
    refine yPWWPP (I.lstM hb) fun _ its2 n2 rv2 hl2 e2 => ?_
    refine yWP (rv.get hx) fun u1 hu1 ru1 => ?_
    refine yWP (rv2.get hy) fun u2 hu2 ru2 => ?_
    have hux : its.toArray[i]? = some u1 := by simpa using hu1
    have huy : its2.toArray[i]? = some u2 := by simpa using hu2
    refine wpAny_pyNext_zip_item D hz hTI hTO h1 h2 (xWPP _ e rfl ⟨ n, rfl⟩) (xWPP _ e2 rfl ⟨ n2, rfl⟩) hux huy fun h' a1 a2 a3 a4 a5 a6 hk => ?_
    refine (xWP _ rfl ?_)
    have kk : ∀ c o, c ∉ [z, TO, i1, i2] → s.heap.get? c = some o → h'.get? c = some o := fun c o hc q => hk c o (fun x => hc (by simp [x])) (fun x => hc (by simp [x])) (fun x => hc (by simp [x])) (fun x => hc (by simp [x])) q
    have th : ∀ c o, s.heap.get? c = some o → ∃ o', h'.get? c = some o' := fun c o q => by
      by_cases c1 : c = z
      · subst c1; exact ⟨_, a1⟩
      · by_cases c2 : c = TO
        · subst c2; exact ⟨_, a2⟩
        · by_cases c3 : c = i1
          · subst c3; refine yWP a3 fun o' q1 _ => ?_; try clear a3; exact ⟨_, q1⟩
          · by_cases c4 : c = i2
            · subst c4; refine yWP a4 fun o' q1 _ => ?_; try clear a4; exact ⟨_, q1⟩
            · exact ⟨o, hk c o c1 c2 c3 c4 q⟩
    have sub : ∀ c ∈ [z, TO, i1, i2], c ∈ [z, TI, TO, i1, i2] := fun c hc => by simp at hc ⊢; rcases hc with rfl | rfl | rfl | rfl <;> simp
    have I1 : Inv X pins σ (upd H s.heap.objs.size (.tup [x, y])) { s with heap := h', toks := s.toks } :=
      I.turnedNew (ch := [z, TO, i1, i2]) kk th (Nat.le_refl _) (fun c hc => hf c (sub c hc)) (xPWP (by show 2 ≤ sizeLine; decide) ([u1, u2]) (.cons ru1 (.cons ru2 .nil)) (xWPP _ a5 rfl ⟨ _, rfl⟩))
    have fz := hf z (by simp)
    have neT : ∀ c ∈ [z, TI, TO, i1, i2], c ≠ s.heap.objs.size := fun c hc => by
      simp only [List.mem_cons, List.not_mem_nil, or_false] at hc
      rcases hc with rfl | rfl | rfl | rfl | rfl
      · exact Nat.ne_of_lt (Heap.lt_size hz)
      · exact Nat.ne_of_lt (Heap.lt_size hTI)
      · exact Nat.ne_of_lt (Heap.lt_size hTO)
      · refine yWP h1 fun _ q _ => ?_; try clear h1; exact Nat.ne_of_lt (Heap.lt_size q)
      · refine yWP h2 fun _ q _ => ?_; try clear h2; exact Nat.ne_of_lt (Heap.lt_size q)
    refine wpAny_letOwnedTupleGo_zip a1 fun h2' hz2 hs2 => ?_
    have I2 : Inv X pins σ (upd H s.heap.objs.size (.tup [x, y])) { s with heap := h2', toks := s.toks } :=
      Inv.turned (s := { s with heap := h', toks := s.toks }) (h' := h2') (t' := s.toks) (it := z) I1 (fun c o hc q => (hs2.2 c hc).trans q) (by rw [upd_ne (neT z (by simp))]; exact fz.1) fz.2.1 fz.2.2.2.1 fz.2.2.2.2.1 fz.2.2.2.2.2
    refine (xWWPPPP (.ref s.heap.objs.size) _ I2 rfl (xWWWPPPP s.heap.objs.size x y rfl I.fresh rfl (fun zs hzs => by rw [ha] at hzs; cases hzs; exact hx) (fun zs hzs => by rw [hb] at hzs; cases hzs; exact hy)) (xPPPP hz2 ((hs2.2 TI (Ne.symm d1)).trans (hk TI _ (Ne.symm d1) d5 d6 d7 hTI)) (xWW _ _ ((hs2.2 TO (Ne.symm d2)).trans a2)) (a3.at fun o q => (hs2.2 i1 (Ne.symm d3)).trans q) (a4.at fun o q => (hs2.2 i2 (Ne.symm d4)).trans q)) (fun c hc => ?_))
    rw [upd_ne (neT c hc)]
    exact (hf c hc).1
  · intro X hP hw hK hc i pins s σ H E I hf st hg
    subst hP hw hK
    refine yPPPP st fun hz hTI ye303_2 h1 h2 => ?_; try clear st; obtain ⟨u, v, hTO⟩ := ye303_2
    refine yWWPP hg fun xs ys ha hb hx => ?_; try clear hg
    have D := apart ha hb fun c hc => (hf c hc).1
    refine yPWWPP (I.lstM ha) fun _ its n rv hl e => ?_
    refine yPWWPP (I.lstM hb) fun _ its2 n2 rv2 hl2 e2 => ?_
    have sub : ∀ c ∈ [z, TO, i1, i2], c ∈ [z, TI, TO, i1, i2] := fun c hc => by simp at hc ⊢; rcases hc with rfl | rfl | rfl | rfl <;> simp
    refine wpAny_pyNext_zip_end (I.ok.hd hc) D hz hTI hTO h1 h2 (xWPP _ e rfl ⟨ n, rfl⟩) (xWPP _ e2 rfl ⟨ n2, rfl⟩) ?_ fun h' hk => ⟨rfl, ?_⟩
    · rcases hx with q | q
      · left; simp; exact AR.n22d hl q
      · right; simp; exact AR.n22d hl2 q
    · exact I.turnedCh (t' := s.toks) (ch := [z, TO, i1, i2]) (fun c o hc q => hk c o (fun x => hc (by simp [x])) (fun x => hc (by simp [x])) (fun x => hc (by simp [x])) (fun x => hc (by simp [x])) q) fun c hc => hf c (sub c hc)
  · intro A i s Q E st h
    exact wpAny_pyIter_zip st.1 h
section
variable {X : Cx}
def iZip (ta : TA) : TI := fun σ H R => ta σ H fun vs H1 => ∃ a b xs ys, vs = [.ref a, .ref b] ∧ H1 a = some (.lst xs) ∧ H1 b = some (.lst ys) ∧ R (Itz a b) H1
theorem pi_zip {a b : Expr} {ta : TA} {p pos : Pos} {elts : List Expr} {k : Nat} {tpos : Pos} (hg : Gl X "zip") (hm : X.mg "zip" = none) (ha : PA X [a, b] ta) (hs : starEach [a, b] X.env = [(false, eval a X.env), (false, eval b X.env)] := by rfl) (hs2 : starEach [b] X.env = [(false, eval b X.env)] := by rfl) :
    PI X (.Tuple elts k tpos) (.Call (.Name "zip" p) [a, b] [] pos) (iZip ta) := by
  intro pins s σ H R I h
  refine Call_ (ld_blt I hg hm boot_zip (PyProof.Rows.callWith_type1 (thn (ha pos pins s σ H _ I h) fun us s1 ⟨vs, H1, I1, r1, q1⟩ => ?_) (by rw [hs, hs2]) (by rw [hs2]; rfl)))
  refine yWWWWPPP q1 fun l l2 xs ys e hx hy q => ?_; try clear q1
  subst e
  cases r1 with
  | cons r rr =>
    cases rr with
    | cons r' rr =>
      cases rr
      cases r
      cases r'
      refine yPWWPP (I1.lstM hx) fun _ its n rv hl e => ?_
      refine yPWWPP (I1.lstM hy) fun _ its2 n2 rv2 hl2 e2 => ?_
      refine call_zip_2 (xWPP _ e rfl ⟨ n, rfl⟩) (xWPP _ e2 rfl ⟨ n2, rfl⟩) fun h' z1 z2 z3 z4 z5 hsz hk => ?_
      refine wpAny_pyIter_zip z1 ?_
      have I2 : Inv X pins σ H1 { s1 with heap := h' } := I1.kept (t' := s1.toks) hk
      refine (xWWWWWPPP (s1.heap.objs.size + 4) ([s1.heap.objs.size + 4, s1.heap.objs.size + 2, s1.heap.objs.size + 3, s1.heap.objs.size, s1.heap.objs.size + 1]) _ _ H1 rfl I2 (turn_zip l l2 _ _ _ _ _ (by simp)) (xPP (xPPPP z1 z2 (xWW _ _ z3) z4 z5) (fun c hc => ?_) q))
      have hc' : s1.heap.objs.size ≤ c := by
        simp only [List.mem_cons, List.not_mem_nil, or_false] at hc
        rcases hc with rfl | rfl | rfl | rfl | rfl <;> omega
      exact I1.fpOk hc' (I1.hok.fresh hc')
end
theorem for_zip {a b : Addr} {xs ys : List V} {g : TG} {tb : TS} {D : Ends} {σ : St} {H : Hp} (Pv : Nat → St → Hp → Prop) (hlen : xs.length = ys.length) (h0 : Pv 0 σ H) (hl : ∀ i σ H, i ≤ xs.length → Pv i σ H → H a = some (.lst xs) ∧ H b = some (.lst ys))
    (hs : ∀ (i : Nat) x y σ H T, xs[i]? = some x → ys[i]? = some y → Pv i σ H → H T = none → g (.ref T) σ (upd H T (.tup [x, y])) fun σ2 H2 => tb { D with nx := Pv (i + 1), ct := Pv (i + 1), bk := D.nx } σ2 H2) (hd : ∀ σ H, Pv xs.length σ H → D.nx σ H) :
    ∃ W : Nat → Nat → St → Hp → Prop, (∃ m, W 0 m σ H) ∧ ∀ i m σ H, W i m σ H →
      ((Itz a b).stop i H ∧ D.nx σ H) ∨ ((Itz a b).go i H ∧ ∃ N : St → Hp → Prop, (∀ σ' H', N σ' H' → ∃ m', m' < m ∧ W (i + 1) m' σ' H') ∧ ∀ x H', (Itz a b).yld i H x H' → g x σ H' fun σ2 H2 => tb { D with nx := N, ct := N, bk := D.nx } σ2 H2) := by
  refine (xWP (fun i m σ H => m = xs.length - i ∧ i ≤ xs.length ∧ Pv i σ H) (xWPP xs.length (by simp) (Nat.zero_le _) h0) ?_)
  intro i m σ H hq13; refine yPP hq13 fun ye310_0 hi p => ?_; try clear hq13; subst ye310_0
  obtain ⟨q1, q2⟩ := hl i σ H hi p
  by_cases hlt : i < xs.length
  · refine .inr (xPWP (xWWWWPPP xs ys (xs[i]) (ys[i]'(by exact AR.n22e hlen hlt)) q1 q2 (by simp [hlt]) (by rw [List.getElem?_eq_getElem (by exact AR.n22e hlen hlt)])) (Pv (i + 1)) (fun σ' H' p' => (xWPPP (xs.length - (i + 1)) (by (first | exact AR.m81 hlt | omega)) rfl hlt p')) (fun x H' y => ?_))
    refine yWWWPPPP y fun T x' y' ye311_3 hT ye311_5 y1 y2 => ?_; try clear y; subst ye311_3; subst ye311_5
    exact hs i x' y' σ _ T (y1 xs q1) (y2 ys q2) p hT
  · have e : i = xs.length := by exact AR.n24 hi hlt
    subst e
    exact .inl ⟨(xWWPP xs ys q1 q2 (.inl (Nat.le_refl _))), hd σ H p⟩
end L2

namespace L2
open PySem PySem.Spec PyProof.Rows
end L2

namespace L2
open PySem PyProof.Rows
theorem eqv_ints_iff : ∀ xs ys : List Int, PyData.eqvAll (xs.map PyData.int) (ys.map PyData.int) = decide (xs = ys)
  | [], [] => rfl
  | [], _ :: _ => rfl
  | _ :: _, [] => rfl
  | x :: xs, y :: ys => by
    simp only [List.map_cons, PyData.eqvAll, eqv_ints_iff xs ys, PyData.eqv]
    by_cases h : x = y
    · subst h; simp
    · simp [h]
theorem eqv_intsL (xs ys : List Int) : PyData.eqv (.list (xs.map PyData.int)) (.list (ys.map PyData.int)) = decide (xs = ys) := by
  rw [PyData.eqv, eqv_ints_iff]
end L2

namespace L2
open PySem PySem.Spec PyProof.Rows
section
variable {X : Cx} {pos : Pos}
def tPar3 (i j k : Nat) (ta : TA) : TS := fun D σ H => ta σ H fun vs H1 => ∃ u v w, vs = [u, v, w] ∧ D.nx (((σ.set i (some u)).set j (some v)).set k (some w)) H1
theorem ps_par3 {i j k : Nat} {x y z : Str} {a b c : Expr} {ta : TA} {px py pz pt : Pos} {kt k2 pt2} (hc : X.calm = true) (hN : X.N.Nodup) (hi : X.N[i]? = some x) (hj : X.N[j]? = some y) (hk : X.N[k]? = some z) (hij : i ≠ j) (hik : i ≠ k) (hjk : j ≠ k)
    (hx : X.env.scope.names.lookup x = some .local) (hy : X.env.scope.names.lookup y = some .local) (hz : X.env.scope.names.lookup z = some .local) (ha : PA X [a, b, c] ta)
    (hw : swappedStores [.Tuple [.Name x px, .Name y py, .Name z pz] kt pt] (.Tuple [a, b, c] k2 pt2) X.env = pure (some [x, y, z]))
    (hs : swapsWithSole [.Tuple [.Name x px, .Name y py, .Name z pz] kt pt] (.Tuple [a, b, c] k2 pt2) pos.line X.env = pure false) :
    PS X (.Assign [.Tuple [.Name x px, .Name y py, .Name z pz] kt pt] (.Tuple [a, b, c] k2 pt2) pos) (tPar3 i j k ta) := by
  intro pins s σ H D I h
  rw [exec_Assign_arm]
  refine wpAny_bind (wpAny_standAt ?_)
  rw [hs]
  refine wpAny_bind (wpAny_pure ?_)
  rw [if_neg (by decide)]
  refine wpAny_bind (Tuple_ (thn (ha _ pins s σ H _ I h) fun us s1 z1 => ?_))
  refine yWWPPWWWP z1 fun vs H1 I1 r1 u v w e1 q1 => ?_; try clear z1
  subst e1
  cases r1 with | cons r1 r => cases r with | cons r2 r => cases r with | cons r3 r =>
  cases r
  rename_i u1 u2 u3
  refine wpAny_newObj_type ?_ (show 3 ≤ sizeLine by decide)
  have I2 : Inv X pins σ H1 { s1 with heap := s1.heap.push { cls := .type "tuple", data := .seq [u1, u2, u3].toArray } } := I1.kept (t' := s1.toks) fun _ _ e => Heap.get?_push_of_some _ e
  rw [hw]
  refine wpAny_bind (wpAny_pure ?_)
  show wpAny (model X.prog X.w) X.A (do
    rule "assign.swapped-stores"
    let items ← unpackItems (.ref s1.heap.objs.size) 3 none
    assignInOrder [fun v => bindName X.env z v, fun v => bindName X.env y v, fun v => bindName X.env x v] items.reverse
    pure Flow.next) _ _ _
  refine wpAny_bind (wpAny_rule (wpAny_bind (unpackItems_tuple (items := #[u1, u2, u3]) (I.ok.hd hc) (IsTup.new s1.heap _) fun h' hx' => ?_)))
  have I3 := I2.kept (h' := h') (t' := s1.toks) fun b o e => hx' b o (Nat.ne_of_lt (Heap.lt_size e)) e
  show wpAny _ _ (assignInOrder [fun v => bindName X.env z v, fun v => bindName X.env y v, fun v => bindName X.env x v] [u3, u2, u1] >>= fun _ => pure Flow.next) _ _ _
  refine wpAny_bind (assignInOrder_cons (wpAny_bindName (store_ok I3 hN hk (.inl hz) r3 (fun s2 I4 => ?_) (.inr hz))))
  refine assignInOrder_cons (wpAny_bindName (store_ok I4 hN hj (.inl hy) r2 (fun s3 I5 => ?_) (.inr hy)))
  refine assignInOrder_cons (wpAny_bindName (store_ok I5 hN hi (.inl hx) r1 (fun s4 I6 => assignInOrder_nil (wpAny_pure (xWWP _ H1 ?_ q1))) (.inr hx)))
  rwa [List.set_comm _ _ (Ne.symm hij), List.set_comm _ _ (Ne.symm hik), List.set_comm _ _ (Ne.symm hjk)] at I6
end
end L2

namespace SQ
open PySem PyProof PyProof.Rows
structure Kept (k : SortKind) (z : Array Keyed) (pd : Array (Nat × Nat × Nat)) (t : SortSt) : Prop where
  kd : kindOf t = k
  pm : (arrOf t).Perm z
  nf : failedOf t = none
  np : pendingOf t = pd
def rk (ρ : Keyed → Int) (xs : Array Keyed) (i : Nat) : Int := (xs[i]?.map ρ).getD 0
def Up (ρ : Keyed → Int) (xs : Array Keyed) (a b : Nat) : Prop := ∀ i j, a ≤ i → i ≤ j → j < b → rk ρ xs i ≤ rk ρ xs j
def Dn (ρ : Keyed → Int) (xs : Array Keyed) (a b : Nat) : Prop := ∀ i j, a ≤ i → i ≤ j → j < b → rk ρ xs j ≤ rk ρ xs i
def Low (ρ : Keyed → Int) (a : Nat) (xs ys : Array Keyed) : Prop := ∀ i, i < a → rk ρ ys i = rk ρ xs i
theorem Low.refl {ρ : Keyed → Int} {a : Nat} (xs : Array Keyed) : Low ρ a xs xs := fun _ _ => rfl
theorem Low.trans {ρ : Keyed → Int} {a : Nat} {xs ys zs : Array Keyed} (h : Low ρ a xs ys) (g : Low ρ a ys zs) : Low ρ a xs zs := fun i hi => (g i hi).trans (h i hi)
theorem rk_eq {ρ : Keyed → Int} {xs ys : Array Keyed} {i j : Nat} (e : xs[i]? = ys[j]?) : rk ρ xs i = rk ρ ys j := by
  simp only [rk, e]
theorem rk_bubble {ρ : Keyed → Int} {xs : Array Keyed} {a d : Nat} (ha : a < xs.size) (hd : d ≤ a) (i : Nat) :
    rk ρ (bubble xs a d) i = if i = a - d then rk ρ xs a else if a - d < i ∧ i ≤ a then rk ρ xs (i - 1) else rk ρ xs i := by
  have e := getElem?_bubble ha d hd i
  split
  · next q => rw [if_pos q] at e; exact rk_eq e
  · next q =>
    rw [if_neg q] at e
    split
    · next q2 => rw [if_pos q2] at e; exact rk_eq e
    · next q2 => rw [if_neg q2] at e; exact rk_eq e
theorem rk_mirror {ρ : Keyed → Int} {xs : Array Keyed} {a b : Nat} (hb : b ≤ xs.size) (i : Nat) :
    rk ρ (mirror xs a b ((b - a) / 2)) i = if a ≤ i ∧ i < b then rk ρ xs (a + b - 1 - i) else rk ρ xs i := by
  have e := getElem?_mirror_all (i := a) hb i
  split
  · next q => rw [if_pos q] at e; exact rk_eq e
  · next q => rw [if_neg q] at e; exact rk_eq e
theorem low_mirror {ρ : Keyed → Int} {xs : Array Keyed} {lo a b : Nat} (hb : b ≤ xs.size) (ha : lo ≤ a) : Low ρ lo xs (mirror xs a b ((b - a) / 2)) := fun i hi => by
  rw [rk_mirror hb, if_neg (by (first | exact AR.m49 (AR.n8 (AR.n2 hi ha)) | omega))]
theorem rk_level {ρ : Keyed → Int} {xs : Array Keyed} {a b : Nat} (hb : b ≤ xs.size)
    (h : ∀ i, a ≤ i → i < b → rk ρ xs i = rk ρ xs (b - 1)) (i : Nat) : rk ρ (mirror xs a b ((b - a) / 2)) i = rk ρ xs i := by
  rw [rk_mirror hb]
  by_cases q : a ≤ i ∧ i < b
  · rw [if_pos q]
    have h1 := h (a + b - 1 - i) (by (first | exact AR.m8 (AR.n20 (AR.n21c q.right)) | omega)) (by (clear hb; omega))
    have h2 := h i q.1 q.2
    (first | exact AR.j7 h1 h2 | omega)
  · rw [if_neg q]
def Tells (M : Model) (A : Around) (E : Value → Shared → Prop) (s : Shared) (k : SortKind) (z : Array Keyed) (ρ : Keyed → Int) : Prop :=
  ∀ (p q : Keyed) (t : SortSt) (Q : Option Bool → SortSt → Prop), p ∈ z.toList → q ∈ z.toList → kindOf t = k →
    Q (some (decide (ρ p < ρ q))) t → wpS M A E s (lt' p q) Q t
section
variable {M : Model} {A : Around} {E : Value → Shared → Prop} {s : Shared} {k : SortKind} {z : Array Keyed} {ρ : Keyed → Int} {pd : Array (Nat × Nat × Nat)}
theorem Kept.len {t : SortSt} (h : Kept k z pd t) : (arrOf t).size = z.size := h.pm.size_eq
theorem Kept.put {t : SortSt} (h : Kept k z pd t) {xs : Array Keyed} (q : xs.Perm (arrOf t)) : Kept k z pd (setArr t xs) :=
  ⟨h.kd, q.trans h.pm, h.nf, h.np⟩
theorem Kept.isIn {t : SortSt} (h : Kept k z pd t) {p : Keyed} (hp : p ∈ (arrOf t).toList) : p ∈ z.toList := (Array.perm_iff_toList_perm.mp h.pm).mem_iff.mp hp
theorem nth {ρ : Keyed → Int} {xs : Array Keyed} {i : Nat} (hi : i < xs.size) : ∃ p, xs[i]? = some p ∧ p ∈ xs.toList ∧ rk ρ xs i = ρ p := by
  have e : xs[i]? = some xs[i] := getElem?_pos _ i hi
  exact (xWPP _ e (by simp) (by simp [rk, e]))
theorem elem_at {xs : Array Keyed} {i : Nat} {p : Keyed} (h : xs[i]? = some p) : elem' xs i = pure p := by rw [elem'_eq, h]
theorem less (T : Tells M A E s k z ρ) {t : SortSt} (h : Kept k z pd t) {i j : Nat} (hi : i < z.size) (hj : j < z.size) {Q : Option Bool → SortSt → Prop}
    (q : Q (some (decide (rk ρ (arrOf t) i < rk ρ (arrOf t) j))) t) : wpS M A E s (ltAt' i j) Q t := by
  obtain ⟨a, ea, ma, ra⟩ := nth (ρ := ρ) (show i < (arrOf t).size by rw [h.len]; exact hi)
  obtain ⟨b, eb, mb, rb⟩ := nth (ρ := ρ) (show j < (arrOf t).size by rw [h.len]; exact hj)
  rw [ra, rb] at q
  rw [ltAt'_eq]
  refine wpS_bind (wpS_get ?_)
  show wpS M A E s (elem' (arrOf t) i >>= fun u => elem' (arrOf t) j >>= fun v => lt' u v) Q t
  rw [elem_at ea, elem_at eb]
  exact wpS_bind (wpS_pure (wpS_bind (wpS_pure (T a b t Q (h.isIn ma) (h.isIn mb) h.kd q))))
def Slot (ρ : Keyed → Int) (xs : Array Keyed) (lo m l r : Nat) : Prop :=
  l ≤ r ∧ r ≤ m ∧ (∀ i, lo ≤ i → i < lo + l → rk ρ xs i ≤ rk ρ xs (lo + m)) ∧ (∀ i, lo + r ≤ i → i < lo + m → rk ρ xs (lo + m) < rk ρ xs i)
theorem Up.slotted {xs : Array Keyed} {lo m l : Nat} (hm : lo + m < xs.size) (hu : Up ρ xs lo (lo + m)) (h : Slot ρ xs lo m l l) :
    Up ρ (bubble xs (lo + m) (lo + m - (lo + l))) lo (lo + (m + 1)) ∧ Low ρ lo xs (bubble xs (lo + m) (lo + m - (lo + l))) := by
  refine yPPP h fun _ h2 h3 h4 => ?_; try clear h
  have el : lo + m - (lo + m - (lo + l)) = lo + l := Nat.sub_sub_self (Nat.add_le_add_left h2 lo)
  refine ⟨fun i j hi hij hj => ?_, fun i hi => by rw [rk_bubble hm (by (first | exact AR.m4 | omega)), if_neg (by (first | exact AR.n10 (AR.n22g el (AR.n18s hi)) | omega)), if_neg (by (clear hm h2; omega))]⟩
  rw [rk_bubble hm (by (first | exact AR.m4 | omega)), rk_bubble hm (by (first | exact AR.m4 | omega)), el]
  by_cases c1 : i < lo + l
  · rw [if_neg (by exact AR.n10 c1), if_neg (by (first | exact AR.m49 (AR.m54 c1) | omega))]
    by_cases c2 : j = lo + l
    · rw [if_pos c2]; exact h3 i hi c1
    · rw [if_neg c2]
      by_cases c3 : lo + l < j ∧ j ≤ lo + m
      · rw [if_pos c3]; exact hu _ _ hi (by (first | exact AR.n2' c1 (AR.n20 c3.left) | omega)) (by (first | exact AR.m12 (AR.m35 c3.left) c3.right | omega))
      · rw [if_neg c3]; exact hu _ _ hi hij (by (clear hm hi hij c1; omega))
  · by_cases c2 : j = lo + l
    · have : i = lo + l := by (first | exact AR.n24 (AR.n22f c2 hij) c1 | omega)
      rw [if_pos c2, if_pos this]; exact Int.le_refl _
    · rw [if_neg c2, if_pos (show lo + l < j ∧ j ≤ lo + m by (clear hm h2 hi; omega))]
      by_cases c3 : i = lo + l
      · rw [if_pos c3]; exact Int.le_of_lt (h4 _ (by (first | exact AR.n20 (AR.n23 (AR.n22d c3 hij) (AR.n29 c2)) | omega)) (by (clear hm h2 hi c1; omega)))
      · rw [if_neg c3, if_pos (by (clear hm h2 hi c2; omega))]; exact hu _ _ (by (clear hm h2 hij hj c2; omega)) (by (first | exact AR.m55 hij | omega)) (by (clear hm h2 hi c2; omega))
theorem Up.one (xs : Array Keyed) {a b : Nat} (h : b ≤ a + 1) : Up ρ xs a b := fun i j a b c => by
  rw [show i = j by first | exact AR.n24 b (AR.m42 a (AR.m31 c h)) | omega]; exact Int.le_refl _
theorem inserted (T : Tells M A E s k z ρ) {t : SortSt} {lo n d : Nat} (hn : lo + n ≤ z.size) (hd : d ≤ n) (hK : Kept k z pd t) (hu : Up ρ (arrOf t) lo (lo + d))
    {Q : Bool → SortSt → Prop} (q : ∀ t', Kept k z pd t' → Low ρ lo (arrOf t) (arrOf t') → Up ρ (arrOf t') lo (lo + n) → Q true t') : wpS M A E s (binarySort' lo n d) Q t := by
  rw [binarySort'_eq]
  refine wpS_bind (wpS_mono (wpS_forRange (Q := fun c t' => c = (none, ()) ∧ Kept k z pd t' ∧ Low ρ lo (arrOf t) (arrOf t') ∧ Up ρ (arrOf t') lo (lo + n))
    (fun m c t' => c = (none, ()) ∧ Kept k z pd t' ∧ Low ρ lo (arrOf t) (arrOf t') ∧ Up ρ (arrOf t') lo (lo + min m n)) ?_ ?_ ?_) fun c t' h => by refine yPPP h fun ye314_0 a b c => ?_; try clear h; subst ye314_0; exact wpS_pure (q t' a b c))
  · intro m c t' h1 h2 hq14; refine yPPP hq14 fun ye315_0 hK' hl' hu' => ?_; try clear hq14; subst ye315_0
    rw [Nat.min_eq_left (by exact AR.n1 h2)] at hu'
    have hm : lo + m < z.size := by exact AR.n14 h2 hn
    have hm' : lo + m < (arrOf t').size := by rw [hK'.len]; exact hm
    refine wpS_bind (wpS_mono (wpS_forRange (Q := fun c t2 => t2 = t' ∧ ∃ l, c = (none, l, l) ∧ Slot ρ (arrOf t') lo m l l)
      (fun x c t2 => t2 = t' ∧ ∃ l r, c = (none, l, r) ∧ r - l ≤ m - x ∧ Slot ρ (arrOf t') lo m l r) ?_ ?_ ?_) ?_)
    · intro x c t2 _ hx hq15; refine yPWWPP hq15 fun ye316_0 l r ye316_3 hs hS => ?_; try clear hq15; subst ye316_0; subst ye316_3
      dsimp only
      refine yPPP hS fun s1 s2 s3 s4 => ?_; try clear hS
      by_cases hlr : l ≥ r
      · rw [if_pos hlr]
        exact wpS_pure (xPWPPPP rfl l (by rw [show r = l by exact AR.n24' hlr s1]) (Nat.le_refl _) (by exact AR.n4 s1 s2) s3 (fun i a b => s4 i (by exact AR.n15 hlr a) b))
      · rw [if_neg hlr]
        refine wpS_bind (less T hK' hm (show lo + (l + r) / 2 < z.size by (first | exact Nat.lt_trans (Nat.add_lt_add_left (Nat.lt_of_lt_of_le (AR.z6 (Nat.lt_of_not_le hlr)) s2) lo) hm | omega)) ?_)
        by_cases hc : rk ρ (arrOf t2) (lo + m) < rk ρ (arrOf t2) (lo + (l + r) / 2)
        · rw [decide_eq_true hc]
          simp only [if_true]
          refine wpS_pure (xPWWPPPPP rfl l ((l + r) / 2) rfl (by (first | exact AR.z7 hs hlr | omega)) (by (first | exact AR.z5 (Nat.lt_of_not_le hlr) | omega)) (by (first | exact Nat.le_trans (Nat.le_of_lt (AR.z6 (Nat.lt_of_not_le hlr))) s2 | omega)) s3 (fun i a b => ?_))
          exact Int.lt_of_lt_of_le hc (hu' _ _ (by (first | exact AR.m1 | omega)) a b)
        · rw [decide_eq_false hc]
          simp only [Bool.false_eq_true, if_false]
          refine wpS_pure (xPWWPPPPP rfl ((l + r) / 2 + 1) r rfl (by (first | exact AR.z8 hs hlr | omega)) (by (first | exact AR.z6 (Nat.lt_of_not_le hlr) | omega)) (by exact s2) (fun i a' a => ?_) s4)
          have := hu' i (lo + (l + r) / 2) a' (by (first | exact AR.m31 a (AR.m67 (AR.n21b (of_decide_eq_true (id (Eq.refl true))))) | omega)) (by (first | exact Nat.add_lt_add_left (Nat.lt_of_lt_of_le (AR.z6 (Nat.lt_of_not_le hlr)) s2) lo | omega))
          exact AR.i9 this hc
    · intro c t2 hq16; refine yPWWPP hq16 fun ye318_0 l r ye318_3 hs hS => ?_; try clear hq16; subst ye318_0; subst ye318_3
      have e : r = l := by have := hS.1; (clear hn hd h1 h2 hm hm'; omega)
      subst e
      exact (xPWP rfl _ rfl hS)
    · exact (xPWWPPPPP rfl 0 m rfl (by exact Nat.le_refl _) (by exact Nat.zero_le _) (by exact Nat.le_refl _) (fun i a b => by (clear hn hd h1 h2 hm hm'; omega)) (fun i a b => by (first | exact AR.m53 b a | omega)))
    · intro c t2 hq17; refine yPWP hq17 fun ye319_0 l ye319_2 hS => ?_; try clear hq17; subst ye319_0; subst ye319_2
      dsimp only
      rw [moveDown'_eq]
      have sl := hu'.slotted hm' hS
      refine wpS_bind (wpS_modify (wpS_pure (xPPP rfl (hK'.put (bubble_perm _ _ _)) (hl'.trans sl.2) ?_)))
      rw [Nat.min_eq_left (by (first | exact AR.m15 h2 | omega))]
      exact sl.1
  · intro c t' hq18; refine yPPP hq18 fun e hK' hl' hu' => ?_; try clear hq18
    refine (xPPP e hK' hl' ?_)
    rwa [show min (max (max d 1) n) n = n by (clear hn hd; omega)] at hu'
  · refine (xPPP rfl hK (Low.refl _) (fun i j hi hij hj => ?_))
    by_cases hd0 : d = 0
    · rw [show i = j by first | (subst hd0; exact Nat.le_antisymm hij (Nat.le_of_lt_succ (Nat.lt_of_lt_of_le (Nat.lt_of_lt_of_le hj (Nat.add_le_add_left (Nat.min_le_left _ _) lo)) (Nat.add_le_add_right hi 1)))) | omega]; exact Int.le_refl _
    · exact hu i j hi hij (by (clear hn hi hij; omega))
end
end SQ

namespace SQ
open PySem PyProof PyProof.Rows
def ascLoop (lo a nrem : Nat) : StateT SortSt Sem AscSt :=
  forIn [a:nrem] ((none, a) : AscSt) fun _ __s => do
    let __x ← ltAt' (lo + __s.snd) (lo + __s.snd - 1)
    match __x with
    | some smaller => if smaller = true then pure (ForInStep.done (none, __s.snd)) else pure (ForInStep.yield (none, __s.snd + 1))
    | _ => pure (ForInStep.done (some none, __s.snd))
def endPart (lo n nrem : Nat) : StateT SortSt Sem (Option Nat) := do
  reverseSlice' lo (lo + n)
  let __s ← ascLoop lo n nrem
  match __s.fst with
  | some r => pure r
  | none => pure (some __s.snd)
def descLoop (lo n nrem : Nat) : StateT SortSt Sem DescSt :=
  forIn [n:nrem] ((none, n, 0) : DescSt) fun _ __s => do
    let __x ← ltAt' (lo + __s.snd.fst) (lo + __s.snd.fst - 1)
    match __x with
    | some smaller =>
      if smaller = true then
        if __s.snd.snd > 0 then do
          reverseSlice' (lo + __s.snd.fst - (__s.snd.snd + 1)) (lo + __s.snd.fst)
          pure (ForInStep.yield (none, __s.snd.fst + 1, 0))
        else pure (ForInStep.yield (none, __s.snd.fst + 1, 0))
      else do
        let __x ← ltAt' (lo + __s.snd.fst - 1) (lo + __s.snd.fst)
        match __x with
        | some larger =>
          if larger = true then pure (ForInStep.done (none, __s.snd.fst, __s.snd.snd))
          else pure (ForInStep.yield (none, __s.snd.fst + 1, __s.snd.snd + 1))
        | _ => pure (ForInStep.done (some none, __s.snd.fst, __s.snd.snd))
    | _ => pure (ForInStep.done (some none, __s.snd.fst, __s.snd.snd))
def descPart (lo n nrem : Nat) : StateT SortSt Sem (Option Nat) := do
  liftM (rule "list.sort.descending-run")
  let __s ← descLoop lo (n + 1) nrem
  match __s.fst with
  | some r => pure r
  | none =>
    if __s.snd.snd > 0 then do
      reverseSlice' (lo + __s.snd.fst - (__s.snd.snd + 1)) (lo + __s.snd.fst)
      endPart lo __s.snd.fst nrem
    else endPart lo __s.snd.fst nrem
theorem countRun_eq (lo nrem : Nat) : countRun' lo nrem = (do
    let __s ← ascLoop lo 1 nrem
    match __s.fst with
    | some r => pure r
    | none =>
      if (__s.snd == nrem) = true then pure (some __s.snd)
      else if __s.snd > 1 then do
        let __x ← ltAt' lo (lo + __s.snd - 1)
        match __x with
        | some rose => if rose = true then pure (some __s.snd) else do
            reverseSlice' lo (lo + __s.snd)
            descPart lo __s.snd nrem
        | _ => pure none
      else descPart lo __s.snd nrem) := by
  rw [countRun'_eq]
  dsimp only
  unfold descPart endPart descLoop ascLoop
  congr 1
  funext __s
  obtain ⟨r, n⟩ := __s
  cases r with
  | some r => rfl
  | none =>
    dsimp only
    split
    · rfl
    · split
      · congr 1
        funext x
        cases x with
        | none => rfl
        | some rose =>
          dsimp only
          split
          · rfl
          · congr 1
            funext _r
            (congr 1; funext _u; congr 1; congr 1; funext s2; obtain ⟨r2, n2, q2⟩ := s2; cases r2 with
              | some r2 => rfl
              | none => (dsimp only; split; (congr 1; funext _v; (congr 1; funext _w; congr 1; (funext s3; obtain ⟨r3, n3⟩ := s3; cases r3 <;> rfl))); (congr 1; funext _w; congr 1; (funext s3; obtain ⟨r3, n3⟩ := s3; cases r3 <;> rfl))))
      · (congr 1; funext _u; congr 1; congr 1; funext s2; obtain ⟨r2, n2, q2⟩ := s2; cases r2 with
              | some r2 => rfl
              | none => (dsimp only; split; (congr 1; funext _v; (congr 1; funext _w; congr 1; (funext s3; obtain ⟨r3, n3⟩ := s3; cases r3 <;> rfl))); (congr 1; funext _w; congr 1; (funext s3; obtain ⟨r3, n3⟩ := s3; cases r3 <;> rfl))))
section
variable {prog : Program} {w : World} {A : Around} {E : Value → Shared → Prop} {s : Shared} {k : SortKind} {z : Array Keyed} {ρ : Keyed → Int} {pd : Array (Nat × Nat × Nat)}
theorem Up.more {xs : Array Keyed} {a b : Nat} (hu : Up ρ xs a b) (h : ¬ rk ρ xs b < rk ρ xs (b - 1)) : Up ρ xs a (b + 1) := by
  intro i j hi hij hj
  by_cases c : j < b
  · exact hu i j hi hij c
  · rw [show j = b by exact AR.n24b hj c]
    by_cases c2 : i = b
    · rw [c2]; exact Int.le_refl _
    · have := hu i (b - 1) hi (by (first | exact AR.n20 (AR.n23' (AR.n3 hij hj) c2) | omega)) (by (first | exact AR.g129 hi hij hj c c2 | omega)); exact AR.i9 this h
theorem Dn.more {xs : Array Keyed} {a b : Nat} (hu : Dn ρ xs a b) (h : rk ρ xs b ≤ rk ρ xs (b - 1)) : Dn ρ xs a (b + 1) := by
  intro i j hi hij hj
  by_cases c : j < b
  · exact hu i j hi hij c
  · rw [show j = b by exact AR.n24b hj c]
    by_cases c2 : i = b
    · rw [c2]; exact Int.le_refl _
    · have := hu i (b - 1) hi (by (first | exact AR.n20 (AR.n23' (AR.n3 hij hj) c2) | omega)) (by (first | exact AR.g129 hi hij hj c c2 | omega)); exact AR.i4 h this
theorem Dn.same {xs ys : Array Keyed} {a b : Nat} (hu : Dn ρ xs a b) (h : ∀ i, rk ρ ys i = rk ρ xs i) : Dn ρ ys a b := fun i j hi hij hj => by
  rw [h, h]; exact hu i j hi hij hj
theorem Dn.turned {xs : Array Keyed} {a b : Nat} (hm : b ≤ xs.size) (hu : Dn ρ xs a b) : Up ρ (mirror xs a b ((b - a) / 2)) a b := fun i j hi hij hj => by
  rw [rk_mirror hm, rk_mirror hm, if_pos (by (first | exact AR.m48 hi (AR.n3 hij hj) | omega)), if_pos (by (first | exact AR.m48 (AR.n4 hi hij) hj | omega))]
  exact hu _ _ (by (first | exact AR.m8 (AR.n20 (AR.n21c hj)) | omega)) (by (clear hm hi; omega)) (by (clear hm; omega))
theorem rising (T : Tells (model prog w) A E s k z ρ) {t : SortSt} {lo a n : Nat} (hn : lo + n ≤ z.size) (h1 : 1 ≤ a) (h2 : a ≤ n) (hK : Kept k z pd t) (hu : Up ρ (arrOf t) lo (lo + a))
    {Q : AscSt → SortSt → Prop}
    (q : ∀ m, a ≤ m → m ≤ n → Up ρ (arrOf t) lo (lo + m) → (m = n ∨ rk ρ (arrOf t) (lo + m) < rk ρ (arrOf t) (lo + m - 1)) → Q (none, m) t) :
    wpS (model prog w) A E s (ascLoop lo a n) Q t := by
  unfold ascLoop
  refine wpS_forRange (fun x c t' => c = (none, x) ∧ t' = t ∧ Up ρ (arrOf t) lo (lo + x)) ?_ ?_ (xPP rfl rfl hu)
  · intro x c t' g1 g2 hq19; refine yPP hq19 fun ye321_0 ye321_1 hx => ?_; try clear hq19; subst ye321_0; subst ye321_1
    dsimp only
    refine wpS_bind (less T hK (show lo + x < z.size by exact AR.n14 g2 hn) (show lo + x - 1 < z.size by (first | exact AR.n19 (AR.n14 g2 hn) | omega)) ?_)
    by_cases c : rk ρ (arrOf t') (lo + x) < rk ρ (arrOf t') (lo + x - 1)
    · rw [decide_eq_true c]; simp only [if_true]
      exact wpS_pure (q x g1 (by exact AR.n1 g2) hx (Or.inr c))
    · rw [decide_eq_false c]; simp only [Bool.false_eq_true, if_false]
      exact wpS_pure (xPP rfl rfl (hx.more c))
  · intro c t' hq20; refine yPP hq20 fun ye322_0 ye322_1 hx => ?_; try clear hq20; subst ye322_0; subst ye322_1
    have e : max a n = n := by (first | exact AR.m23 h2 | omega)
    rw [e] at hx ⊢
    exact q n h2 (Nat.le_refl _) hx (Or.inl rfl)
def Flat (ρ : Keyed → Int) (xs : Array Keyed) (lo m e : Nat) : Prop := e + 1 ≤ m ∧ ∀ i, lo + m - (e + 1) ≤ i → i < lo + m → rk ρ xs i = rk ρ xs (lo + m - 1)
theorem Flat.nought (xs : Array Keyed) {lo m : Nat} (h : 1 ≤ m) : Flat ρ xs lo m 0 := ⟨h, fun i a b => by rw [show i = lo + m - 1 by first | exact AR.n24 (AR.n20 b) (AR.n9 a) | omega]⟩
theorem Flat.more {xs : Array Keyed} {lo m e : Nat} (h : Flat ρ xs lo m e) (g : rk ρ xs (lo + m) = rk ρ xs (lo + m - 1)) : Flat ρ xs lo (m + 1) (e + 1) :=
  ⟨by have := h.1; exact AR.n21a this, fun i a b => by
    rw [show lo + (m + 1) - 1 = lo + m from rfl]
    by_cases c : i = lo + m
    · rw [c]
    · rw [g]; exact h.2 i (by (first | exact Nat.succ_sub_succ (lo + m) (e + 1) ▸ a | omega)) (by (first | exact Nat.lt_of_le_of_ne (Nat.le_of_lt_succ b) c | omega))⟩
abbrev After (k : SortKind) (z : Array Keyed) (pd : Array (Nat × Nat × Nat)) (ρ : Keyed → Int) (lo n : Nat) (xs : Array Keyed) (Q : Option Nat → SortSt → Prop) : Prop :=
  ∀ m' t', 1 ≤ m' → m' ≤ n → Kept k z pd t' → Low ρ lo xs (arrOf t') → Up ρ (arrOf t') lo (lo + m') → Q (some m') t'
theorem back (T : Tells (model prog w) A E s k z ρ) {t : SortSt} {lo m n : Nat} (hn : lo + n ≤ z.size) (h1 : 1 ≤ m) (h2 : m ≤ n) (hK : Kept k z pd t) (hd : Dn ρ (arrOf t) lo (lo + m))
    {xs : Array Keyed} (hx : Low ρ lo xs (arrOf t)) {Q : Option Nat → SortSt → Prop} (q : After k z pd ρ lo n xs Q) :
    wpS (model prog w) A E s (endPart lo m n) Q t := by
  unfold endPart
  have hs : lo + m ≤ (arrOf t).size := by rw [hK.len]; exact AR.n15 h2 hn
  refine wpS_bind (wpS_reverse ?_)
  have hK' := hK.put (mirror_perm (arrOf t) lo (lo + m) ((lo + m - lo) / 2))
  refine wpS_bind (rising T hn h1 h2 hK' (hd.turned hs) fun m' g1 g2 g3 _ => ?_)
  exact wpS_pure (q m' _ (by exact AR.n4 h1 g1) g2 hK' (hx.trans (low_mirror hs (Nat.le_refl _))) g3)
theorem falling (T : Tells (model prog w) A E s k z ρ) {t : SortSt} {lo m n : Nat} (hn : lo + n ≤ z.size) (h1 : 1 ≤ m) (h2 : m ≤ n) (hK : Kept k z pd t) (hd : Dn ρ (arrOf t) lo (lo + m))
    {xs : Array Keyed} (hl : Low ρ lo xs (arrOf t)) {Q : DescSt → SortSt → Prop}
    (q : ∀ m' e t', 1 ≤ m' → m' ≤ n → Kept k z pd t' → Low ρ lo xs (arrOf t') → Dn ρ (arrOf t') lo (lo + m') → Flat ρ (arrOf t') lo m' e → Q (none, m', e) t') :
    wpS (model prog w) A E s (descLoop lo m n) Q t := by
  unfold descLoop
  refine wpS_forRange (fun x c t' => ∃ e, c = (none, x, e) ∧ Kept k z pd t' ∧ Low ρ lo xs (arrOf t') ∧ Dn ρ (arrOf t') lo (lo + x) ∧ Flat ρ (arrOf t') lo x e) ?_ ?_ (xWPPPP 0 rfl hK hl hd (Flat.nought _ h1))
  · intro x c t' g1 g2 hq21; refine yWPPPP hq21 fun e ye323_1 hK' hl' hx hF => ?_; try clear hq21; subst ye323_1
    dsimp only
    have hs : lo + x ≤ (arrOf t').size := by rw [hK'.len]; (first | exact AR.n1 (AR.n14 g2 hn) | omega)
    refine wpS_bind (less T hK' (show lo + x < z.size by exact AR.n14 g2 hn) (show lo + x - 1 < z.size by (first | exact AR.n19 (AR.n14 g2 hn) | omega)) ?_)
    by_cases c : rk ρ (arrOf t') (lo + x) < rk ρ (arrOf t') (lo + x - 1)
    · rw [decide_eq_true c]; simp only [if_true]
      have hm := hx.more (Int.le_of_lt c)
      have hF1 := hF.1
      by_cases c2 : e > 0
      · rw [if_pos c2]
        refine wpS_bind (wpS_reverse (wpS_pure (xWPPPP 0 rfl (hK'.put (mirror_perm _ _ _ _)) (hl'.trans (low_mirror hs (by (first | exact AR.m8 (AR.n21b hF1) | omega)))) (hm.same (rk_level hs hF.2)) (Flat.nought _ (by (first | exact AR.n18' (of_decide_eq_true (id (Eq.refl true))) | omega))))))
      · rw [if_neg c2]
        exact wpS_pure (xWPPPP 0 rfl hK' hl' hm (Flat.nought _ (by (first | exact AR.n18' (of_decide_eq_true (id (Eq.refl true))) | omega))))
    · rw [decide_eq_false c]; simp only [Bool.false_eq_true, if_false]
      refine wpS_bind (less T hK' (show lo + x - 1 < z.size by (first | exact AR.n19 (AR.n14 g2 hn) | omega)) (show lo + x < z.size by exact AR.n14 g2 hn) ?_)
      by_cases c2 : rk ρ (arrOf t') (lo + x - 1) < rk ρ (arrOf t') (lo + x)
      · rw [decide_eq_true c2]; simp only [if_true]
        exact wpS_pure (q x e t' (by exact AR.n4 h1 g1) (by exact AR.n1 g2) hK' hl' hx hF)
      · rw [decide_eq_false c2]; simp only [Bool.false_eq_true, if_false]
        have e2 : rk ρ (arrOf t') (lo + x) = rk ρ (arrOf t') (lo + x - 1) := by exact AR.i16 c c2
        exact wpS_pure (xWPPPP (e + 1) rfl hK' hl' (hx.more (by exact AR.i6 c2)) (hF.more e2))
  · intro c t' hq22; refine yWPPPP hq22 fun e ye324_1 hK' hl' hx hF => ?_; try clear hq22; subst ye324_1
    have e2 : max m n = n := by (first | exact AR.m23 h2 | omega)
    rw [e2] at hx hF ⊢
    exact q n e t' (by exact AR.n4 h1 h2) (Nat.le_refl _) hK' hl' hx hF
theorem fallen (T : Tells (model prog w) A E s k z ρ) {t : SortSt} {lo m n : Nat} (hn : lo + n ≤ z.size) (h2 : m + 1 ≤ n) (hK : Kept k z pd t) (hd : Dn ρ (arrOf t) lo (lo + (m + 1)))
    {xs : Array Keyed} (hl : Low ρ lo xs (arrOf t)) {Q : Option Nat → SortSt → Prop} (q : After k z pd ρ lo n xs Q) :
    wpS (model prog w) A E s (descPart lo m n) Q t := by
  unfold descPart
  refine wpS_bind (wpS_lift (wpAny_rule ⟨rfl, ?_⟩))
  refine wpS_bind (falling T hn (by (first | exact AR.n18' (of_decide_eq_true (id (Eq.refl true))) | omega)) h2 hK hd hl fun m' e t' g1 g2 g3 g6 g4 g5 => ?_)
  dsimp only
  have hs : lo + m' ≤ (arrOf t').size := by rw [g3.len]; exact AR.n15 g2 hn
  have hF1 := g5.1
  by_cases c : e > 0
  · rw [if_pos c]
    exact wpS_bind (wpS_reverse (back T hn g1 g2 (g3.put (mirror_perm _ _ _ _)) (g4.same (rk_level hs g5.2)) (g6.trans (low_mirror hs (by (first | exact AR.m8 (AR.n21b hF1) | omega)))) q))
  · rw [if_neg c]
    exact back T hn g1 g2 g3 g4 g6 q
theorem run (T : Tells (model prog w) A E s k z ρ) {t : SortSt} {lo n : Nat} (hn : lo + n ≤ z.size) (h1 : 1 ≤ n) (hK : Kept k z pd t)
    {Q : Option Nat → SortSt → Prop} (q : After k z pd ρ lo n (arrOf t) Q) :
    wpS (model prog w) A E s (countRun' lo n) Q t := by
  rw [countRun_eq]
  refine wpS_bind (rising T hn (Nat.le_refl 1) h1 hK (Up.one _ (Nat.le_refl _)) fun m g1 g2 g3 g4 => ?_)
  dsimp only
  by_cases c : m = n
  · rw [if_pos (by simpa using c)]
    exact wpS_pure (q m t g1 g2 hK (Low.refl _) g3)
  rw [if_neg (by simpa using c)]
  have lt := g4.resolve_left c
  have hs : lo + m ≤ (arrOf t).size := by rw [hK.len]; exact AR.n15 g2 hn
  by_cases c2 : m > 1
  · rw [if_pos c2]
    refine wpS_bind (less T hK (show lo < z.size by (first | exact AR.m16 (AR.n15 h1 hn) | omega)) (show lo + m - 1 < z.size by (first | exact AR.m12 (AR.n18t (AR.m17 c2)) (AR.n15 g2 hn) | omega)) ?_)
    by_cases c3 : rk ρ (arrOf t) lo < rk ρ (arrOf t) (lo + m - 1)
    · rw [decide_eq_true c3]; simp only [if_true]
      exact wpS_pure (q m t g1 g2 hK (Low.refl _) g3)
    · rw [decide_eq_false c3]; simp only [Bool.false_eq_true, if_false]
      have lev : ∀ i, lo ≤ i → i < lo + m → rk ρ (arrOf t) i = rk ρ (arrOf t) (lo + m - 1) := fun i a b => by
        have a1 := g3 lo i (by exact Nat.le_refl _) a b
        have a2 := g3 i (lo + m - 1) a (by exact AR.n20 b) (by (first | exact AR.m79 (AR.n18t c2) | omega))
        (clear hn h1 g1 g2 g4 c lt hs c2 a b; omega)
      have hd : Dn ρ (arrOf t) lo (lo + m) := fun i j hi a b => by
        rw [lev i hi (by exact AR.n3 a b), lev j (by exact AR.n4 hi a) b]; exact Int.le_refl _
      exact wpS_bind (wpS_reverse (fallen T hn (by (first | exact AR.m15 (AR.n23 g2 c) | omega)) (hK.put (mirror_perm _ _ _ _)) ((hd.more (Int.le_of_lt lt)).same (rk_level hs lev)) (low_mirror hs (Nat.le_refl _)) q))
  · rw [if_neg c2]
    have e : m = 1 := by exact AR.n24a g1 c2
    have hd : Dn ρ (arrOf t) lo (lo + m) := fun i j hi a b => by rw [show i = j by first | exact Nat.le_antisymm a (Nat.le_of_lt_succ (Nat.lt_of_lt_of_le b (Nat.le_trans (Nat.add_le_add_left (Nat.le_of_not_lt c2) lo) (Nat.add_le_add_right hi 1)))) | omega]; exact Int.le_refl _
    exact fallen T hn (by (first | exact AR.m15 (AR.n23 g2 c) | omega)) hK (hd.more (Int.le_of_lt lt)) (Low.refl _) q
end
end SQ

namespace SQ
open PySem PyProof PyProof.Rows
def gallop' : Bool → Keyed → Array Keyed → Nat → Nat → Nat → StateT SortSt Sem (Option Nat) := sortPriv% PySem.Builtin.gallop
def beyond (left : Bool) (key : Keyed) (arr : Array Keyed) (base i : Nat) : StateT SortSt Sem (Option Bool) := do
  let x ← elem' arr (base + i)
  if left then lt' x key else return (← lt' key x).map (!·)
def Bey (ρ : Keyed → Int) (left : Bool) (key : Keyed) (arr : Array Keyed) (j : Nat) : Prop :=
  if left = true then rk ρ arr j < ρ key else rk ρ arr j ≤ ρ key
instance (ρ : Keyed → Int) (left : Bool) (key : Keyed) (arr : Array Keyed) (j : Nat) : Decidable (Bey ρ left key arr j) := by unfold Bey; infer_instance
section
variable {prog : Program} {w : World} {A : Around} {E : Value → Shared → Prop} {s : Shared} {k : SortKind} {z : Array Keyed} {ρ : Keyed → Int}
theorem Bey.down {left : Bool} {key : Keyed} {arr : Array Keyed} {a b i j : Nat} (hu : Up ρ arr a b) (h : Bey ρ left key arr j) (hi : a ≤ i) (hij : i ≤ j) (hj : j < b) : Bey ρ left key arr i := by
  have := hu i j hi hij hj
  unfold Bey at *
  split <;> rename_i c <;> simp only [c] at h <;> simp at h <;> omega
theorem looked (T : Tells (model prog w) A E s k z ρ) {t : SortSt} {left : Bool} {key : Keyed} {arr : Array Keyed} {base i : Nat} (hk : key ∈ z.toList) (hz : ∀ p ∈ arr.toList, p ∈ z.toList)
    (hi : base + i < arr.size) (ht : kindOf t = k) {Q : Option Bool → SortSt → Prop} (q : Q (some (decide (Bey ρ left key arr (base + i)))) t) : wpS (model prog w) A E s (beyond left key arr base i) Q t := by
  refine yWPP (nth (ρ := ρ) hi) fun a ea ma ra => ?_
  unfold beyond
  rw [elem_at ea]
  refine wpS_bind (wpS_pure ?_)
  cases left with
  | true =>
    simp only [if_true]
    refine T a key t Q (hz a ma) hk ht ?_
    simpa only [Bey, ra, if_true] using q
  | false =>
    simp only [Bool.false_eq_true, if_false]
    refine wpS_bind (T key a t _ hk (hz a ma) ht (wpS_pure ?_))
    have e : decide (Bey ρ false key arr (base + i)) = !decide (ρ key < ρ a) := by
      simp only [Bey, ra, Bool.false_eq_true, if_false]
      by_cases c : ρ key < ρ a
      · rw [decide_eq_true c, decide_eq_false (by exact AR.i10 c)]; rfl
      · rw [decide_eq_false c, decide_eq_true (by exact AR.i6 c)]; rfl
    rw [e] at q
    exact q
theorem galloped (T : Tells (model prog w) A E s k z ρ) {t : SortSt} {left : Bool} {key : Keyed} {arr : Array Keyed} {base n hint : Nat} (hk : key ∈ z.toList) (hz : ∀ p ∈ arr.toList, p ∈ z.toList)
    (hn : base + n ≤ arr.size) (hh : hint < n) (ht : kindOf t = k) (hu : Up ρ arr base (base + n)) {Q : Option Nat → SortSt → Prop}
    (q : ∀ m, m ≤ n → (∀ i, i < m → Bey ρ left key arr (base + i)) → (∀ i, m ≤ i → i < n → ¬ Bey ρ left key arr (base + i)) → Q (some m) t) :
    wpS (model prog w) A E s (gallop' left key arr base n hint) Q t := by
  rw [show gallop' left key arr base n hint = (beyond left key arr base hint >>= _) from rfl]
  have look : ∀ {i : Nat} {Q : Option Bool → SortSt → Prop}, i < n → Q (some (decide (Bey ρ left key arr (base + i)))) t → wpS (model prog w) A E s (beyond left key arr base i) Q t :=
    fun hi q => looked T hk hz (by exact AR.n14 hi hn) ht q
  have dn : ∀ {i j : Nat}, i ≤ j → j < n → Bey ρ left key arr (base + j) → Bey ρ left key arr (base + i) := fun hij hj h => h.down hu (by (first | exact AR.m1 | omega)) (by exact AR.n21b hij) (by exact AR.n21c hj)
  refine wpS_bind (look hh ?_)
  by_cases b : Bey ρ left key arr (base + hint)
  · rw [decide_eq_true b]; simp only [if_true]
    refine wpS_bind (wpS_mono (wpS_forRange (Q := fun c t' => t = t' ∧ ∃ o l, c = (none, l, o) ∧ l < o ∧ l < n - hint ∧ Bey ρ left key arr (base + (hint + l)) ∧ (n - hint ≤ o ∨ (hint + o < n ∧ ¬ Bey ρ left key arr (base + (hint + o)))))
      (fun x c t' => t = t' ∧ ∃ o l, c = (none, l, o) ∧ x < o ∧ l < o ∧ l < n - hint ∧ Bey ρ left key arr (base + (hint + l))) ?_ ?_ ?_) ?_)
    · intro x c t' _ hx hq23; refine yPWWPPPP hq23 fun ye326_0 o l ye326_3 g0 g1 g2 g3 => ?_; try clear hq23; subst ye326_0; subst ye326_3
      dsimp only
      by_cases c : o ≥ n - hint
      · rw [if_pos c]
        exact wpS_pure (xPWWPPPP rfl o l rfl g1 g2 g3 (.inl c))
      · rw [if_neg c]
        refine wpS_bind (look (by (first | exact AR.m9 (AR.n7 c) | omega)) ?_)
        by_cases b : Bey ρ left key arr (base + (hint + o))
        · rw [decide_eq_true b]; simp only [Bool.not_true, Bool.false_eq_true, if_false]
          exact wpS_pure (xPWWPPPP rfl _ o rfl (by (first | exact AR.g153 g0 | omega)) (by (first | exact AR.m89 | omega)) (by exact AR.n7 c) b)
        · rw [decide_eq_false b]; simp only [Bool.not_false, if_true]
          exact wpS_pure (xPWWPPPP rfl o l rfl g1 g2 g3 (.inr ⟨by (first | exact AR.m9 (AR.n7 c) | omega), b⟩))
    · intro c t' hq24; refine yPWWPPPP hq24 fun ye327_0 o l ye327_3 g0 g1 g2 g3 => ?_; try clear hq24; subst ye327_0; subst ye327_3
      exact (xPWWPPPP rfl o l rfl g1 g2 g3 (.inl (by (clear hn g1 g2; omega))))
    · exact (xPWWPPPP rfl 1 0 rfl (by (first | exact of_decide_eq_true (id (Eq.refl true)) | omega)) (by (first | exact of_decide_eq_true (id (Eq.refl true)) | omega)) (by (first | exact AR.m16 (AR.m7 (AR.m15 hh)) | omega)) b)
    · intro c t' hq25; refine yPWWPPPP hq25 fun ye328_0 o l ye328_3 g1 g2 g3 g4 => ?_; try clear hq25; subst ye328_0; subst ye328_3
      dsimp only
      refine wpS_bind (wpS_mono (wpS_forRange (Q := fun c t' => t = t' ∧ ∃ m, c = (none, m, m) ∧ m ≤ n ∧ (∀ i, i < m → Bey ρ left key arr (base + i)) ∧ (∀ i, m ≤ i → i < n → ¬ Bey ρ left key arr (base + i)))
        (fun x c t' => t = t' ∧ ∃ lo hi, c = (none, lo, hi) ∧ hi - lo ≤ n - x ∧ lo ≤ hi ∧ hi ≤ n ∧ (∀ i, i < lo → Bey ρ left key arr (base + i)) ∧ (∀ i, hi ≤ i → i < n → ¬ Bey ρ left key arr (base + i))) ?_ ?_ ?_) ?_)
      · intro x c t' _ hx hq26; refine yPWWPPPPP hq26 fun ye329_0 lo hi ye329_3 g0 g1 g2 g3 g4 => ?_; try clear hq26; subst ye329_0; subst ye329_3
        dsimp only
        by_cases c : lo ≥ hi
        · rw [if_pos c]
          have : lo = hi := by exact AR.n24' g1 c
          subst this
          exact wpS_pure (xPWPPP rfl lo rfl g2 g3 g4)
        · rw [if_neg c]
          refine wpS_bind (look (by (first | exact AR.m82 g2 c | omega)) ?_)
          by_cases b : Bey ρ left key arr (base + (lo + (hi - lo) / 2))
          · rw [decide_eq_true b]; simp only [if_true]
            exact wpS_pure (xPWWPPPPP rfl _ hi rfl (by (first | exact AR.g159 hx g0 c | omega)) (by (first | exact AR.m15 (AR.m59 c) | omega)) g2 (fun i hi' => dn (by (first | exact AR.m32 hi' | omega)) (by (first | exact AR.m82 g2 c | omega)) b) g4)
          · rw [decide_eq_false b]; simp only [Bool.false_eq_true, if_false]
            exact wpS_pure (xPWWPPPPP rfl lo _ rfl (by (first | exact AR.g162 hx g0 c | omega)) (by (first | exact AR.m1 | omega)) (by (first | exact AR.n1 (AR.m82 g2 c) | omega)) g3 (fun i a1 a2 a3 => b (dn a1 a2 a3)))
      · intro c t' hq27; refine yPWWPPPPP hq27 fun ye330_0 lo hi ye330_3 g0 g1 g2 g3 g4 => ?_; try clear hq27; subst ye330_0; subst ye330_3
        have : lo = hi := by (first | exact AR.g165 g0 g1 | omega)
        subst this
        exact (xPWPPP rfl lo rfl g2 g3 g4)
      · exact (xPWWPPPPP rfl (hint + l + 1) (hint + min o (n - hint)) rfl (by (first | exact Nat.le_trans (Nat.sub_le _ _) (AR.m11 (Nat.min_le_right _ _) (Nat.le_of_lt hh)) | omega)) (by (first | exact Nat.add_le_add_left (Nat.le_min.mpr ⟨g1, g2⟩) hint | omega)) (by (first | exact AR.m11 AR.m27 (AR.n1 hh) | omega)) (fun i hi => dn (by (first | exact AR.m32 hi | omega)) (by (clear hn hi; omega)) g3) (fun i a1 a2 a3 => by
          rcases g4 with g4 | ⟨g4, g5⟩
          · (clear hn g1 g2; omega)
          · exact g5 (dn (by (clear hn g1 g2 g4; omega)) a2 a3)))
      · intro c t' hq28; refine yPWPPP hq28 fun ye331_0 m ye331_2 g2 g3 g4 => ?_; try clear hq28; subst ye331_0; subst ye331_2
        exact wpS_pure (q m g2 g3 g4)
  · rw [decide_eq_false b]; simp only [Bool.false_eq_true, if_false]
    refine wpS_bind (wpS_mono (wpS_forRange (Q := fun c t' => t = t' ∧ ∃ o l, c = (none, l, o) ∧ l < o ∧ l < hint + 1 ∧ ¬ Bey ρ left key arr (base + (hint - l)) ∧ (hint + 1 ≤ o ∨ (o ≤ hint ∧ Bey ρ left key arr (base + (hint - o)))))
      (fun x c t' => t = t' ∧ ∃ o l, c = (none, l, o) ∧ x < o ∧ l < o ∧ l < hint + 1 ∧ ¬ Bey ρ left key arr (base + (hint - l))) ?_ ?_ ?_) ?_)
    · intro x c t' _ hx hq29; refine yPWWPPPP hq29 fun ye332_0 o l ye332_3 g0 g1 g2 g3 => ?_; try clear hq29; subst ye332_0; subst ye332_3
      dsimp only
      by_cases c : o ≥ hint + 1
      · rw [if_pos c]
        exact wpS_pure (xPWWPPPP rfl o l rfl g1 g2 g3 (.inl c))
      · rw [if_neg c]
        refine wpS_bind (look (by exact AR.n19 hh) ?_)
        by_cases b : Bey ρ left key arr (base + (hint - o))
        · rw [decide_eq_true b]; simp only [if_true]
          exact wpS_pure (xPWWPPPP rfl o l rfl g1 g2 g3 (.inr ⟨by (first | exact AR.m32 (AR.n7 c) | omega), b⟩))
        · rw [decide_eq_false b]; simp only [Bool.false_eq_true, if_false]
          exact wpS_pure (xPWWPPPP rfl _ o rfl (by (first | exact AR.g153 g0 | omega)) (by (first | exact AR.m89 | omega)) (by exact AR.n7 c) b)
    · intro c t' hq30; refine yPWWPPPP hq30 fun ye333_0 o l ye333_3 g0 g1 g2 g3 => ?_; try clear hq30; subst ye333_0; subst ye333_3
      exact (xPWWPPPP rfl o l rfl g1 g2 g3 (.inl (by (clear hn g1 g2; omega))))
    · exact (xPWWPPPP rfl 1 0 rfl (by (first | exact of_decide_eq_true (id (Eq.refl true)) | omega)) (by (first | exact of_decide_eq_true (id (Eq.refl true)) | omega)) (by (first | exact AR.n18t (of_decide_eq_true (id (Eq.refl true))) | omega)) b)
    · intro c t' hq31; refine yPWWPPPP hq31 fun ye334_0 o l ye334_3 g1 g2 g3 g4 => ?_; try clear hq31; subst ye334_0; subst ye334_3
      dsimp only
      refine wpS_bind (wpS_mono (wpS_forRange (Q := fun c t' => t = t' ∧ ∃ m, c = (none, m, m) ∧ m ≤ n ∧ (∀ i, i < m → Bey ρ left key arr (base + i)) ∧ (∀ i, m ≤ i → i < n → ¬ Bey ρ left key arr (base + i)))
        (fun x c t' => t = t' ∧ ∃ lo hi, c = (none, lo, hi) ∧ hi - lo ≤ n - x ∧ lo ≤ hi ∧ hi ≤ n ∧ (∀ i, i < lo → Bey ρ left key arr (base + i)) ∧ (∀ i, hi ≤ i → i < n → ¬ Bey ρ left key arr (base + i))) ?_ ?_ ?_) ?_)
      · intro x c t' _ hx hq32; refine yPWWPPPPP hq32 fun ye335_0 lo hi ye335_3 g0 g1 g2 g3 g4 => ?_; try clear hq32; subst ye335_0; subst ye335_3
        dsimp only
        by_cases c : lo ≥ hi
        · rw [if_pos c]
          have : lo = hi := by exact AR.n24' g1 c
          subst this
          exact wpS_pure (xPWPPP rfl lo rfl g2 g3 g4)
        · rw [if_neg c]
          refine wpS_bind (look (by (first | exact AR.m82 g2 c | omega)) ?_)
          by_cases b : Bey ρ left key arr (base + (lo + (hi - lo) / 2))
          · rw [decide_eq_true b]; simp only [if_true]
            exact wpS_pure (xPWWPPPPP rfl _ hi rfl (by (first | exact AR.g159 hx g0 c | omega)) (by (first | exact AR.m15 (AR.m59 c) | omega)) g2 (fun i hi' => dn (by (first | exact AR.m32 hi' | omega)) (by (first | exact AR.m82 g2 c | omega)) b) g4)
          · rw [decide_eq_false b]; simp only [Bool.false_eq_true, if_false]
            exact wpS_pure (xPWWPPPPP rfl lo _ rfl (by (first | exact AR.g162 hx g0 c | omega)) (by (first | exact AR.m1 | omega)) (by (first | exact AR.n1 (AR.m82 g2 c) | omega)) g3 (fun i a1 a2 a3 => b (dn a1 a2 a3)))
      · intro c t' hq33; refine yPWWPPPPP hq33 fun ye336_0 lo hi ye336_3 g0 g1 g2 g3 g4 => ?_; try clear hq33; subst ye336_0; subst ye336_3
        have : lo = hi := by (first | exact AR.g165 g0 g1 | omega)
        subst this
        exact (xPWPPP rfl lo rfl g2 g3 g4)
      · exact (xPWWPPPPP rfl (hint + 1 - min o (hint + 1)) (hint - l) rfl (by (clear hn g1 g2 g4; omega)) (by (clear hn hh g4; omega)) (by (first | exact AR.n1 (AR.n19 hh) | omega)) (fun i hi => by
          rcases g4 with g4 | ⟨g4, g5⟩
          · (clear hn hh g1 g2; omega)
          · exact dn (by (clear hn hh g1 g2; omega)) (by exact AR.n19 hh) g5) (fun i a1 a2 a3 => g3 (dn (by exact a1) a2 a3)))
      · intro c t' hq34; refine yPWPPP hq34 fun ye337_0 m ye337_2 g2 g3 g4 => ?_; try clear hq34; subst ye337_0; subst ye337_2
        exact wpS_pure (q m g2 g3 g4)
end
end SQ

namespace SQ
open PySem PyProof PyProof.Rows
def Srt (ρ : Keyed → Int) (l : List Keyed) : Prop := l.Pairwise fun x y => ρ x ≤ ρ y
structure Mg (ρ : Keyed → Int) (Z O P R : List Keyed) : Prop where
  pm : (O ++ (P ++ R)).Perm Z
  o : Srt ρ O
  p : Srt ρ P
  r : Srt ρ R
  op : ∀ x ∈ O, ∀ y ∈ P, ρ x ≤ ρ y
  or : ∀ x ∈ O, ∀ y ∈ R, ρ x ≤ ρ y
variable {ρ : Keyed → Int} {Z O P P1 P2 R R1 R2 : List Keyed}
theorem Mg.swap (h : Mg ρ Z O P R) : Mg ρ Z O R P := ⟨(List.perm_append_comm.append_left O).trans h.pm, h.o, h.r, h.p, h.or, h.op⟩
theorem Mg.left (h : Mg ρ Z O (P1 ++ P2) R) (g : ∀ x ∈ P1, ∀ y ∈ R, ρ x ≤ ρ y) : Mg ρ Z (O ++ P1) P2 R := by
  have p := List.pairwise_append.mp h.p
  refine ⟨by have := h.pm; simpa only [List.append_assoc] using this, ?_, p.2.1, h.r, ?_, ?_⟩
  · exact List.pairwise_append.mpr (xPP h.o p.1 (fun x hx y hy => h.op x hx y (List.mem_append_left _ hy)))
  · intro x hx y hy
    rcases List.mem_append.mp hx with hx | hx
    · exact h.op x hx y (List.mem_append_right _ hy)
    · exact p.2.2 x hx y hy
  · intro x hx y hy
    rcases List.mem_append.mp hx with hx | hx
    · exact h.or x hx y hy
    · exact g x hx y hy
theorem Mg.right (h : Mg ρ Z O P (R1 ++ R2)) (g : ∀ x ∈ R1, ∀ y ∈ P, ρ x ≤ ρ y) : Mg ρ Z (O ++ R1) P R2 := (h.swap.left g).swap
abbrev Res (ρ : Keyed → Int) (Z L : List Keyed) : Prop := L.Perm Z ∧ Srt ρ L
theorem Mg.fin (h : Mg ρ Z O P R) (g : ∀ x ∈ P, ∀ y ∈ R, ρ x ≤ ρ y) : Res ρ Z (O ++ P ++ R) := by
  have h1 : Mg ρ Z (O ++ P) [] R := Mg.left (by rwa [List.append_nil]) g
  have h2 : Mg ρ Z (O ++ P ++ R) [] [] := Mg.right (by rwa [List.append_nil]) (fun _ _ _ h => nomatch h)
  exact ⟨by have := h2.pm; rwa [List.append_nil, List.append_nil] at this, h2.o⟩
theorem Mg.start (hp : Srt ρ P) (hr : Srt ρ R) : Mg ρ (P ++ R) [] P R := ⟨List.Perm.refl _, List.Pairwise.nil, hp, hr, fun _ h => (nomatch h), fun _ h => (nomatch h)⟩
theorem mem_drop {xs : Array Keyed} {i : Nat} {x : Keyed} (h : x ∈ xs.toList.drop i) : ∃ j, i ≤ j ∧ j < xs.size ∧ rk ρ xs j = ρ x := by
  obtain ⟨m, hm, e⟩ := List.getElem_of_mem h
  rw [List.length_drop, Array.length_toList] at hm
  refine (xWPP (i + m) (by (first | exact AR.m1 | omega)) (by first | exact AR.m9 hm | omega) ?_)
  rw [List.getElem_drop, Array.getElem_toList] at e
  rw [rk, getElem?_pos xs (i + m) (by first | exact AR.m9 hm | omega), ← e]; rfl
theorem mem_seg {xs : Array Keyed} {i k : Nat} {x : Keyed} (h : x ∈ (xs.toList.drop i).take k) : ∃ j, j < k ∧ i + j < xs.size ∧ rk ρ xs (i + j) = ρ x := by
  obtain ⟨m, hm, e⟩ := List.getElem_of_mem h
  rw [List.length_take, List.length_drop, Array.length_toList] at hm
  refine (xWPP m (by first | exact AR.m28 hm | omega) (by first | exact AR.m9 (AR.m29 hm) | omega) ?_)
  rw [List.getElem_take, List.getElem_drop, Array.getElem_toList] at e
  rw [rk, getElem?_pos xs (i + m) (by first | exact AR.m9 (AR.m29 hm) | omega), ← e]; rfl
theorem ext_list (xs : Array Keyed) (i j : Nat) : (xs.extract i j).toList = (xs.toList.drop i).take (j - i) := by simp
theorem ext_end (xs : Array Keyed) (i : Nat) : (xs.extract i xs.size).toList = xs.toList.drop i := by
  rw [ext_list, List.take_of_length_le]; simp
theorem drop_cut (l : List Keyed) (i k : Nat) : l.drop i = (l.drop i).take k ++ l.drop (i + k) := by rw [← List.drop_drop, List.take_append_drop]
theorem drop_one {xs : Array Keyed} {i : Nat} {x : Keyed} (h : xs[i]? = some x) : xs.toList.drop i = [x] ++ xs.toList.drop (i + 1) := by
  obtain ⟨hi, e⟩ := Array.getElem?_eq_some_iff.mp h
  rw [List.drop_eq_getElem_cons (by simpa using hi), Array.getElem_toList, e]; rfl
theorem srt_up {xs : Array Keyed} : Srt ρ xs.toList ↔ Up ρ xs 0 xs.size := by
  unfold Srt
  rw [List.pairwise_iff_getElem]
  refine ⟨fun h i j _ hij hj => ?_, fun h i j hi hj hij => ?_⟩
  · by_cases c : i = j
    · rw [c]; exact Int.le_refl _
    · have := h i j (by simp; exact AR.n3 hij hj) (by simpa using hj) (by exact AR.n23 hij c)
      rw [Array.getElem_toList, Array.getElem_toList] at this
      rw [rk, rk, getElem?_pos xs i (by exact AR.n3 hij hj), getElem?_pos xs j hj]
      exact this
  · have := h i j (Nat.zero_le _) (by exact AR.n1 hij) (by simpa using hj)
    rw [Array.length_toList] at hi hj
    rw [rk, rk, getElem?_pos xs i hi, getElem?_pos xs j hj] at this
    exact this
theorem Srt.ge {l : List Keyed} {x : Keyed} {l' : List Keyed} (h : Srt ρ l) (e : l = [x] ++ l') : ∀ y ∈ l, ρ x ≤ ρ y := fun y hy => by
  subst e
  rcases List.mem_append.mp hy with hy | hy
  · rw [List.mem_singleton.mp hy]; exact Int.le_refl _
  · exact (List.pairwise_append.mp h).2.2 x (List.mem_singleton.mpr rfl) y hy
def Eqv (t t' : SortSt) : Prop := kindOf t' = kindOf t ∧ arrOf t' = arrOf t ∧ pendingOf t' = pendingOf t ∧ failedOf t' = failedOf t
theorem Eqv.refl (t : SortSt) : Eqv t t := (xPPP rfl rfl rfl rfl)
def setMinGallop' : Nat → StateT SortSt Sem Unit := sortPriv% PySem.Builtin.setMinGallop
def mergeLo' : Array Keyed → Array Keyed → StateT SortSt Sem (Array Keyed) := sortPriv% PySem.Builtin.mergeLo
abbrev LoSt := Option (Array Keyed) × Array Keyed × Nat × Nat × Nat × Nat × Nat
def loC (a b : Array Keyed) (g ac bc ia : Nat) (out : Array Keyed) (ib : Nat) : StateT SortSt Sem (ForInStep LoSt) := do
  let x ← elem' a ia
  if (ia + 1 + 1 == a.size) = true then pure (ForInStep.done (some (out.push x ++ b.extract ib b.size ++ a.extract (ia + 1) a.size), out.push x, ia + 1, ib, g, ac, bc))
  else if (decide (ac < 7) && decide (bc < 7)) = true then pure (ForInStep.done (none, out.push x, ia + 1, ib, g, ac, bc))
  else pure (ForInStep.yield (none, out.push x, ia + 1, ib, g, ac, bc))
def loB (a b : Array Keyed) (g ac bc ib : Nat) (out : Array Keyed) (ia : Nat) : StateT SortSt Sem (ForInStep LoSt) := do
  let x ← elem' b ib
  if (ib + 1 == b.size) = true then pure (ForInStep.done (some (out.push x ++ a.extract ia a.size ++ b.extract (ib + 1) b.size), out.push x, ia, ib + 1, g, ac, bc))
  else do
    let y ← elem' a ia
    let r ← gallop' true y b (ib + 1) (b.size - (ib + 1)) 0
    match r with
    | some k =>
      if k > 0 then
        if (ib + 1 + k == b.size) = true then pure (ForInStep.done (some (out.push x ++ b.extract (ib + 1) (ib + 1 + k) ++ a.extract ia a.size ++ b.extract (ib + 1 + k) b.size), out.push x ++ b.extract (ib + 1) (ib + 1 + k), ia, ib + 1 + k, g, ac, k))
        else loC a b g ac k ia (out.push x ++ b.extract (ib + 1) (ib + 1 + k)) (ib + 1 + k)
      else loC a b g ac k ia (out.push x) (ib + 1)
    | _ => pure (ForInStep.done (some (out.push x ++ a.extract ia a.size ++ b.extract (ib + 1) b.size), out.push x, ia, ib + 1, g, ac, bc))
def loA (a b out : Array Keyed) (ia ib ac bc g : Nat) : StateT SortSt Sem (ForInStep LoSt) := do
  setMinGallop' g
  let x ← elem' b ib
  let r ← gallop' false x a ia (a.size - ia) 0
  match r with
  | some k =>
    if k > 0 then
      if (ia + k + 1 == a.size) = true then pure (ForInStep.done (some (out ++ a.extract ia (ia + k) ++ b.extract ib b.size ++ a.extract (ia + k) a.size), out ++ a.extract ia (ia + k), ia + k, ib, g, k, bc))
      else if (ia + k == a.size) = true then pure (ForInStep.done (some (out ++ a.extract ia (ia + k) ++ a.extract (ia + k) a.size ++ b.extract ib b.size), out ++ a.extract ia (ia + k), ia + k, ib, g, k, bc))
      else loB a b g k bc ib (out ++ a.extract ia (ia + k)) (ia + k)
    else loB a b g k bc ib out ia
  | _ => pure (ForInStep.done (some (out ++ a.extract ia a.size ++ b.extract ib b.size), out, ia, ib, g, ac, bc))
section
variable {prog : Program} {w : World} {A : Around} {E : Value → Shared → Prop} {s : Shared} {k : SortKind} {z : Array Keyed}
theorem wpS_elem {xs : Array Keyed} {i : Nat} {p : Keyed} {Q : Keyed → SortSt → Prop} {t : SortSt} (e : xs[i]? = some p) (h : Q p t) : wpS (model prog w) A E s (elem' xs i) Q t := by
  rw [elem_at e]; exact wpS_pure h
theorem wpS_setMin {g : Nat} {Q : Unit → SortSt → Prop} {t : SortSt} (h : ∀ t', Eqv t t' → Q () t') : wpS (model prog w) A E s (setMinGallop' g) Q t := wpS_modify (h _ (xPPP rfl rfl rfl rfl))
theorem Eqv.trans {t t' t'' : SortSt} (h : Eqv t t') (g : Eqv t' t'') : Eqv t t'' := (xPPP (g.1.trans h.1) (g.2.1.trans h.2.1) (g.2.2.1.trans h.2.2.1) (g.2.2.2.trans h.2.2.2))
theorem Mg.takeA {out a b : Array Keyed} {ia ib : Nat} {x : Keyed} (h : Mg ρ Z out.toList (a.toList.drop ia) (b.toList.drop ib)) (e : a[ia]? = some x) (g : ∀ y ∈ b.toList.drop ib, ρ x ≤ ρ y) :
    Mg ρ Z (out.push x).toList (a.toList.drop (ia + 1)) (b.toList.drop ib) := by
  rw [drop_one e] at h
  rw [Array.toList_push]
  exact h.left fun y hy => by rw [List.mem_singleton.mp hy]; exact g
theorem Mg.takeB {out a b : Array Keyed} {ia ib : Nat} {x : Keyed} (h : Mg ρ Z out.toList (a.toList.drop ia) (b.toList.drop ib)) (e : b[ib]? = some x) (g : ∀ y ∈ a.toList.drop ia, ρ x ≤ ρ y) :
    Mg ρ Z (out.push x).toList (a.toList.drop ia) (b.toList.drop (ib + 1)) := (h.swap.takeA e g).swap
theorem Mg.takeAs {out a b : Array Keyed} {ia ib : Nat} {m : Nat} (h : Mg ρ Z out.toList (a.toList.drop ia) (b.toList.drop ib)) (g : ∀ x ∈ (a.toList.drop ia).take m, ∀ y ∈ b.toList.drop ib, ρ x ≤ ρ y) :
    Mg ρ Z (out ++ a.extract ia (ia + m)).toList (a.toList.drop (ia + m)) (b.toList.drop ib) := by
  rw [Array.toList_append, ext_list, Nat.add_sub_cancel_left]
  rw [drop_cut a.toList ia m] at h
  exact h.left g
theorem Mg.takeBs {out a b : Array Keyed} {ia ib : Nat} {m : Nat} (h : Mg ρ Z out.toList (a.toList.drop ia) (b.toList.drop ib)) (g : ∀ x ∈ (b.toList.drop ib).take m, ∀ y ∈ a.toList.drop ia, ρ x ≤ ρ y) :
    Mg ρ Z (out ++ b.extract ib (ib + m)).toList (a.toList.drop ia) (b.toList.drop (ib + m)) := (h.swap.takeAs g).swap
theorem up_from {xs : Array Keyed} {i : Nat} (h : Srt ρ xs.toList) (hi : i ≤ xs.size) : Up ρ xs i (i + (xs.size - i)) := fun u v hu huv hv => srt_up.mp h u v (by exact Nat.zero_le _) huv (by (first | exact AR.n2 hv (AR.n22 (AR.m5 hi)) | omega))
structure Two (z : Array Keyed) (ρ : Keyed → Int) (a b : Array Keyed) : Prop where
  za : ∀ p ∈ a.toList, p ∈ z.toList
  zb : ∀ p ∈ b.toList, p ∈ z.toList
  sa : Srt ρ a.toList
  sb : Srt ρ b.toList
  last : ∀ y ∈ b.toList, ρ y ≤ rk ρ a (a.size - 1)
variable {a b : Array Keyed} {t : SortSt}
abbrev MgA (ρ : Keyed → Int) (a b out : Array Keyed) (ia ib : Nat) : Prop := Mg ρ (a.toList ++ b.toList) out.toList (a.toList.drop ia) (b.toList.drop ib)
theorem done_ok {out : Array Keyed} {ia ib : Nat} (h : MgA ρ a b out ia ib) (c : ib = b.size ∨ ia = a.size) : Res ρ (a.toList ++ b.toList) (out ++ a.extract ia a.size ++ b.extract ib b.size).toList := by
  rw [Array.toList_append, Array.toList_append, ext_end, ext_end]
  refine h.fin fun x hx y hy => ?_
  rcases c with c | c
  · rw [c, List.drop_of_length_le (by simp)] at hy; exact absurd hy List.not_mem_nil
  · rw [c, List.drop_of_length_le (by simp)] at hx; exact absurd hx List.not_mem_nil
theorem last_ok (W : Two z ρ a b) {out : Array Keyed} {ia ib : Nat} (h : MgA ρ a b out ia ib) (c : ia + 1 = a.size) : Res ρ (a.toList ++ b.toList) (out ++ b.extract ib b.size ++ a.extract ia a.size).toList := by
  rw [Array.toList_append, Array.toList_append, ext_end, ext_end]
  refine h.swap.fin fun x hx y hy => ?_
  refine yWPP (mem_drop (ρ := ρ) hy) fun j h1 h2 h3 => ?_
  rw [← h3, show j = a.size - 1 by (clear h3; omega)]
  exact W.last x (List.mem_of_mem_drop hx)
theorem Two.posA (W : Two z ρ a b) {i : Nat} (h : i < a.size) : ∃ x, a[i]? = some x ∧ x ∈ z.toList ∧ rk ρ a i = ρ x := by
  refine yWPP (nth (ρ := ρ) h) fun x h1 h2 h3 => ?_; exact (xWPP x h1 (W.za x h2) h3)
theorem Two.posB (W : Two z ρ a b) {i : Nat} (h : i < b.size) : ∃ x, b[i]? = some x ∧ x ∈ z.toList ∧ rk ρ b i = ρ x := by
  refine yWPP (nth (ρ := ρ) h) fun x h1 h2 h3 => ?_; exact (xWPP x h1 (W.zb x h2) h3)
def Going (ρ : Keyed → Int) (a b : Array Keyed) (n : Nat) (out : Array Keyed) (ia ib : Nat) : Prop := MgA ρ a b out ia ib ∧ ia + 1 < a.size ∧ ib < b.size ∧ n ≤ out.size
def Ok1 (ρ : Keyed → Int) (a b : Array Keyed) (n : Nat) (c : LoSt) : Prop := ∃ out ia ib r, c = (none, out, ia, ib, r) ∧ Going ρ a b n out ia ib
def Ok2 (ρ : Keyed → Int) (a b : Array Keyed) (n : Nat) (c : LoSt) : Prop := Ok1 ρ a b n c ∨ ∃ r c', c = (some r, c') ∧ Res ρ (a.toList ++ b.toList) r.toList
def Stp (ρ : Keyed → Int) (a b : Array Keyed) (n : Nat) : ForInStep LoSt → Prop
  | .done c => Ok2 ρ a b n c
  | .yield c => Ok1 ρ a b n c
theorem loC_ok (W : Two z ρ a b) {g ac bc ia ib n : Nat} {out : Array Keyed} (h : MgA ρ a b out ia ib) (hia : ia + 1 < a.size) (hib : ib < b.size) (hn : n ≤ out.size) (hle : ∀ y ∈ b.toList.drop ib, rk ρ a ia ≤ ρ y)
    {Q : ForInStep LoSt → SortSt → Prop} (q : ∀ R, Stp ρ a b n R → Q R t) : wpS (model prog w) A E s (loC a b g ac bc ia out ib) Q t := by
  obtain ⟨x, e, _, r⟩ := W.posA (show ia < a.size by exact AR.n16' hia)
  unfold loC
  refine wpS_bind (wpS_elem e ?_)
  have h' := h.takeA e (by rw [← r]; exact hle)
  have hs : n ≤ (out.push x).size := by rw [Array.size_push]; exact AR.n18 hn
  by_cases c : ia + 1 + 1 = a.size
  · rw [if_pos (by simpa using c)]
    exact wpS_pure (q _ (.inr (xWWP _ _ rfl (last_ok W h' c))))
  · rw [if_neg (by simpa using c)]
    have o : Going ρ a b n (out.push x) (ia + 1) ib := (xPPP h' (by (first | exact AR.m14 hia c | omega)) hib hs)
    by_cases c2 : (decide (ac < 7) && decide (bc < 7)) = true
    · rw [if_pos c2]; exact wpS_pure (q _ (.inl (xWWWWP _ _ _ _ rfl o)))
    · rw [if_neg c2]; exact wpS_pure (q _ (xWWWWP _ _ _ _ rfl o))
theorem loB_ok (T : Tells (model prog w) A E s k z ρ) (W : Two z ρ a b) (ht : kindOf t = k) {g ac bc ia ib n : Nat} {out : Array Keyed} (h : MgA ρ a b out ia ib) (hia : ia + 1 < a.size) (hib : ib < b.size) (hn : n ≤ out.size) (hle : ∀ y ∈ a.toList.drop ia, rk ρ b ib ≤ ρ y)
    {Q : ForInStep LoSt → SortSt → Prop} (q : ∀ R, Stp ρ a b n R → Q R t) : wpS (model prog w) A E s (loB a b g ac bc ib out ia) Q t := by
  refine yWPP (W.posB hib) fun x e _ r => ?_
  obtain ⟨y, ey, hy, ry⟩ := W.posA (show ia < a.size by exact AR.n16' hia)
  unfold loB
  refine wpS_bind (wpS_elem e ?_)
  have h' := h.takeB e (by rw [← r]; exact hle)
  have hs : n ≤ (out.push x).size := by rw [Array.size_push]; exact AR.n18 hn
  by_cases c : ib + 1 = b.size
  · rw [if_pos (by simpa using c)]
    exact wpS_pure (q _ (.inr (xWWP _ _ rfl (done_ok h' (.inl c)))))
  · rw [if_neg (by simpa using c)]
    refine wpS_bind (wpS_elem ey (wpS_bind (galloped T hy W.zb (by (first | exact AR.n22 (AR.m5 (AR.m15 hib)) | omega)) (by (clear hia hn r ry hs; omega)) ht (up_from W.sb (by (first | exact AR.m15 hib | omega))) fun m g1 g2 g3 => ?_)))
    dsimp only
    have ge : ∀ v ∈ a.toList.drop ia, ρ y ≤ ρ v := h.p.ge (drop_one ey)
    have hB : ∀ v ∈ b.toList.drop (ib + 1 + m), rk ρ a ia ≤ ρ v := fun v hv => by
      refine yWPP (mem_drop (ρ := ρ) hv) fun j j1 j2 j3 => ?_
      have := g3 (j - (ib + 1)) (by (first | exact AR.m7 j1 | omega)) (by (clear hia hn r ry hs c g1 j3; omega))
      rw [show ib + 1 + (j - (ib + 1)) = j by (first | exact AR.m5 (AR.n16 j1) | omega)] at this
      simp only [Bey, if_true] at this
      (first | exact AR.i18 this (AR.j5 ry) j3 | omega)
    by_cases c2 : m > 0
    · rw [if_pos c2]
      have h2 := h'.takeBs (m := m) fun u hu v hv => by
        refine yWPP (mem_seg (ρ := ρ) hu) fun j j1 j2 j3 => ?_
        have a1 := g2 j j1
        have a2 := ge v hv
        simp only [Bey, if_true] at a1
        (first | exact AR.i14 j3 (AR.i2' a1 a2) | omega)
      by_cases c3 : ib + 1 + m = b.size
      · rw [if_pos (by simpa using c3)]
        exact wpS_pure (q _ (.inr (xWWP _ _ rfl (done_ok h2 (.inl c3)))))
      · rw [if_neg (by simpa using c3)]
        exact loC_ok W h2 hia (by (first | exact AR.n23 (AR.m11 g1 (AR.m15 hib)) c3 | omega)) (by rw [Array.size_append]; exact AR.n18 hs) hB q
    · rw [if_neg c2]
      have : m = 0 := by (first | exact AR.m19 c2 | omega)
      subst this
      exact loC_ok W h' hia (by (first | exact AR.m14 hib c | omega)) hs hB q
theorem loA_ok (T : Tells (model prog w) A E s k z ρ) (W : Two z ρ a b) (ht : kindOf t = k) {g ac bc ia ib n : Nat} {out : Array Keyed} (o : Going ρ a b n out ia ib)
    {Q : ForInStep LoSt → SortSt → Prop} (q : ∀ R t', Eqv t t' → Stp ρ a b n R → Q R t') : wpS (model prog w) A E s (loA a b out ia ib ac bc g) Q t := by
  refine yPPP o fun h hia hib hn => ?_; try clear o
  refine yWPP (W.posB hib) fun x e hx r => ?_
  unfold loA
  refine wpS_bind (wpS_setMin fun t' et => wpS_bind (wpS_elem e (wpS_bind (galloped T hx W.za (by (first | exact AR.m11 (AR.m32 AR.m3) (AR.n1 (AR.n16' hia)) | omega)) (by (first | exact AR.m16 (AR.m7 (AR.n1 hia)) | omega)) (et.1.trans ht) (up_from W.sa (by (first | exact AR.n1 (AR.n16' hia) | omega))) fun m g1 g2 g3 => ?_))))
  dsimp only
  have ge : ∀ v ∈ b.toList.drop ib, ρ x ≤ ρ v := h.r.ge (drop_one e)
  have hA : ∀ v ∈ a.toList.drop (ia + m), rk ρ b ib ≤ ρ v := fun v hv => by
    refine yWPP (mem_drop (ρ := ρ) hv) fun j j1 j2 j3 => ?_
    have := g3 (j - ia) (by (first | exact AR.m7 j1 | omega)) (by (clear hib hn r g1 j3; omega))
    rw [show ia + (j - ia) = j by (first | exact AR.m5 (AR.n16 j1) | omega)] at this
    simp only [Bey, Bool.false_eq_true, if_false] at this
    (first | exact AR.i12 r (AR.i23 this j3) | omega)
  by_cases c2 : m > 0
  · rw [if_pos c2]
    have h2 := h.takeAs (m := m) fun u hu v hv => by
      refine yWPP (mem_seg (ρ := ρ) hu) fun j j1 j2 j3 => ?_
      have a1 := g2 j j1
      have a2 := ge v hv
      simp only [Bey, Bool.false_eq_true, if_false] at a1
      (first | exact AR.i14 j3 (AR.i4 a1 a2) | omega)
    by_cases c3 : ia + m + 1 = a.size
    · rw [if_pos (by simpa using c3)]
      exact wpS_pure (q _ _ et (.inr (xWWP _ _ rfl (last_ok W h2 c3))))
    rw [if_neg (by simpa using c3)]
    by_cases c4 : ia + m = a.size
    · rw [if_pos (by simpa using c4)]
      exact wpS_pure (q _ _ et (.inr (xWWP _ _ rfl (done_ok h2 (.inr c4)))))
    rw [if_neg (by simpa using c4)]
    exact loB_ok T W (et.1.trans ht) h2 (by (clear hib hn r c2; omega)) hib (by rw [Array.size_append]; exact AR.n18 hn) hA fun R hR => q R _ et hR
  · rw [if_neg c2]
    have : m = 0 := by (first | exact AR.m19 c2 | omega)
    subst this
    exact loB_ok T W (et.1.trans ht) h hia hib hn hA fun R hR => q R _ et hR
abbrev PoSt := Option (Array Keyed) × Array Keyed × Nat × Nat × Nat × Nat
abbrev UoSt := Option (Array Keyed) × Array Keyed × Nat × Nat × Nat
def loP (a b : Array Keyed) (g : Nat) (c : PoSt) : StateT SortSt Sem (ForInStep PoSt) :=
  elem' b c.2.2.2.1 >>= fun p => elem' a c.2.2.1 >>= fun q => lt' p q >>= fun r =>
    match r with
    | some w =>
      if w = true then elem' b c.2.2.2.1 >>= fun x =>
        if (c.2.2.2.1 + 1 == b.size) = true then pure (ForInStep.done (some (c.2.1.push x ++ a.extract c.2.2.1 a.size ++ b.extract (c.2.2.2.1 + 1) b.size), c.2.1.push x, c.2.2.1, c.2.2.2.1 + 1, 0, c.2.2.2.2.2 + 1))
        else if c.2.2.2.2.2 + 1 ≥ g then pure (ForInStep.done (none, c.2.1.push x, c.2.2.1, c.2.2.2.1 + 1, 0, c.2.2.2.2.2 + 1))
        else pure (ForInStep.yield (none, c.2.1.push x, c.2.2.1, c.2.2.2.1 + 1, 0, c.2.2.2.2.2 + 1))
      else elem' a c.2.2.1 >>= fun x =>
        if (c.2.2.1 + 1 + 1 == a.size) = true then pure (ForInStep.done (some (c.2.1.push x ++ b.extract c.2.2.2.1 b.size ++ a.extract (c.2.2.1 + 1) a.size), c.2.1.push x, c.2.2.1 + 1, c.2.2.2.1, c.2.2.2.2.1 + 1, 0))
        else if c.2.2.2.2.1 + 1 ≥ g then pure (ForInStep.done (none, c.2.1.push x, c.2.2.1 + 1, c.2.2.2.1, c.2.2.2.2.1 + 1, 0))
        else pure (ForInStep.yield (none, c.2.1.push x, c.2.2.1 + 1, c.2.2.2.1, c.2.2.2.2.1 + 1, 0))
    | _ => pure (ForInStep.done (some (c.2.1 ++ a.extract c.2.2.1 a.size ++ b.extract c.2.2.2.1 b.size), c.2.1, c.2.2.1, c.2.2.2.1, c.2.2.2.2.1, c.2.2.2.2.2))
def loO (a b : Array Keyed) (c : UoSt) : StateT SortSt Sem (ForInStep UoSt) :=
  forIn [0:a.size + b.size] ((none, c.2.1, c.2.2.1, c.2.2.2.1, 0, 0) : PoSt) (fun _ d => loP a b c.2.2.2.2 d) >>= fun d =>
    match d.1 with
    | some r => pure (ForInStep.done (some r, d.2.1, d.2.2.1, d.2.2.2.1, c.2.2.2.2))
    | none => liftM (rule "list.sort.gallop") >>= fun _ =>
      forIn [0:a.size + b.size] ((none, d.2.1, d.2.2.1, d.2.2.2.1, c.2.2.2.2 + 1, d.2.2.2.2.1, d.2.2.2.2.2) : LoSt) (fun _ e =>
        if e.2.2.2.2.1 > 1 then loA a b e.2.1 e.2.2.1 e.2.2.2.1 e.2.2.2.2.2.1 e.2.2.2.2.2.2 (e.2.2.2.2.1 - 1) else loA a b e.2.1 e.2.2.1 e.2.2.2.1 e.2.2.2.2.2.1 e.2.2.2.2.2.2 e.2.2.2.2.1) >>= fun e =>
        match e.1 with
        | some r => pure (ForInStep.done (some r, e.2.1, e.2.2.1, e.2.2.2.1, e.2.2.2.2.1))
        | none => setMinGallop' (e.2.2.2.2.1 + 1) >>= fun _ => pure (ForInStep.yield (none, e.2.1, e.2.2.1, e.2.2.2.1, e.2.2.2.2.1 + 1))
theorem mergeLo_own (a b : Array Keyed) : mergeLo' a b = (liftM (rule "list.sort.merge-lo") >>= fun _ => elem' b 0 >>= fun x => if (1 == b.size) = true then pure (#[x] ++ a.extract 0 a.size ++ b.extract 1 b.size) else if (0 + 1 == a.size) = true then pure (#[x] ++ b.extract 1 b.size ++ a.extract 0 a.size) else
    get >>= fun s => forIn [0:a.size + b.size] ((none, #[x], 0, 1, gallopOf s) : UoSt) (fun _ c => loO a b c) >>= fun c => match c.1 with | some r => pure r | none => liftM (unsupported "internal:list.sort.merge-bound")) := by
  rw [show mergeLo' a b = (liftM (rule "list.sort.merge-lo") >>= _) from rfl]
  dsimp only [loO, loP, loA, loB, loC]
  congr 1; funext _; congr 1; funext x0
  congr 1; congr 1
  congr 1; funext s0; congr 1
  · congr 1; funext x c
    congr 1; funext c1
    obtain ⟨r1, c1⟩ := c1
    cases r1 with
    | some r => rfl
    | none =>
      dsimp only
      congr 1; funext _; congr 1; funext c2
      obtain ⟨r2, c2⟩ := c2
      cases r2 <;> rfl
  · funext c
    obtain ⟨r, c⟩ := c
    cases r <;> rfl
theorem merged_lo (T : Tells (model prog w) A E s k z ρ) (W : Two z ρ a b) (hk : kindOf t = k) (ha : 0 < a.size) (hb : 0 < b.size) (first : ∀ y ∈ a.toList, rk ρ b 0 ≤ ρ y)
    {Q : Array Keyed → SortSt → Prop} (q : ∀ out t', Eqv t t' → Res ρ (a.toList ++ b.toList) out.toList → Q out t') : wpS (model prog w) A E s (mergeLo' a b) Q t := by
  rw [mergeLo_own]
  refine yWPP (W.posB hb) fun b0 e0 _ r0 => ?_
  refine wpS_bind (wpS_lift (wpAny_rule ⟨rfl, wpS_bind (wpS_elem e0 ?_)⟩))
  have m0 : MgA ρ a b #[b0] 0 1 := Mg.takeB (out := #[]) (Mg.start W.sa W.sb) e0 (fun y hy => by rw [← r0]; exact first y hy)
  by_cases c : 1 = b.size
  · rw [if_pos (by simpa using c)]
    exact wpS_pure (q _ _ (Eqv.refl _) (done_ok m0 (.inl c)))
  rw [if_neg (by simpa using c)]
  by_cases c2 : 0 + 1 = a.size
  · rw [if_pos (by simpa using c2)]
    exact wpS_pure (q _ _ (Eqv.refl _) (last_ok W m0 c2))
  rw [if_neg (by simpa using c2)]
  refine wpS_bind (wpS_get (wpS_bind (wpS_mono (wpS_forRange (Q := fun c t' => Eqv t t' ∧ ∃ r c', c = (some r, c') ∧ Res ρ (a.toList ++ b.toList) r.toList)
    (fun x c t' => Eqv t t' ∧ ∃ out ia ib g, c = (none, out, ia, ib, g) ∧ Going ρ a b (x + 1) out ia ib) ?_ ?_ ?_) ?_)))
  · intro x c t' _ hx hq35; refine yPWWWWP hq35 fun et out ia ib g ye349_5 o => ?_; try clear hq35; subst ye349_5
    unfold loO
    dsimp only
    refine wpS_bind (wpS_mono (wpS_forRange (Q := fun c t1 => t' = t1 ∧ ((∃ out ia ib ac bc, c = (none, out, ia, ib, ac, bc) ∧ Going ρ a b (x + 2) out ia ib) ∨ ∃ r c', c = (some r, c') ∧ Res ρ (a.toList ++ b.toList) r.toList))
      (fun y c t1 => t' = t1 ∧ ∃ out ia ib ac bc, c = (none, out, ia, ib, ac, bc) ∧ Going ρ a b (x + 1 + y) out ia ib) ?_ ?_ ?_) ?_)
    · intro y c t1 _ hy hq36; refine yPWWWWWPP hq36 fun ye350_0 out ia ib ac bc ye350_6 h yr350 => ?_; try clear hq36; subst ye350_0; subst ye350_6; refine yPP yr350 fun hia hib hn => ?_; try clear yr350
      refine yWPP (W.posB hib) fun p e hp r => ?_
      obtain ⟨p', e', hp', r'⟩ := W.posA (show ia < a.size by exact AR.n16' hia)
      unfold loP
      dsimp only
      refine wpS_bind (wpS_elem e (wpS_bind (wpS_elem e' (wpS_bind (T p p' _ _ hp hp' (et.1.trans hk) ?_)))))
      dsimp only
      by_cases c : ρ p < ρ p'
      · rw [decide_eq_true c]
        simp only [if_true]
        refine wpS_bind (wpS_elem e ?_)
        have h' := h.takeB e (fun v hv => by have := h.p.ge (drop_one e') v hv; exact AR.i2' c this)
        have hs : x + 1 + (y + 1) ≤ (out.push p).size := by rw [Array.size_push]; (first | exact AR.m67 (AR.n21 hn (of_decide_eq_true (id (Eq.refl true)))) | omega)
        by_cases c : ib + 1 = b.size
        · rw [if_pos (by simpa using c)]
          exact wpS_pure ⟨rfl, .inr (xWWP _ _ rfl (done_ok h' (.inl c)))⟩
        rw [if_neg (by simpa using c)]
        have o : Going ρ a b (x + 1 + (y + 1)) (out.push p) ia (ib + 1) := (xPPP h' hia (by (first | exact AR.m14 hib c | omega)) hs)
        by_cases c2 : bc + 1 ≥ g
        · rw [if_pos c2]
          exact wpS_pure ⟨rfl, .inl (xWWWWWPPP _ _ _ _ _ rfl h' hia ⟨ by (first | exact AR.m14 hib c | omega), by (clear ha hb r0 hx hy hia hib hn r r' c c2; omega)⟩)⟩
        · rw [if_neg c2]
          exact wpS_pure (xPWWWWWP rfl _ _ _ _ _ rfl o)
      · rw [decide_eq_false c]
        simp only [Bool.false_eq_true, if_false]
        refine wpS_bind (wpS_elem e' ?_)
        have h' := h.takeA e' (fun v hv => by have := h.r.ge (drop_one e) v hv; exact AR.i8 c this)
        have hs : x + 1 + (y + 1) ≤ (out.push p').size := by rw [Array.size_push]; (first | exact AR.m67 (AR.n21 hn (of_decide_eq_true (id (Eq.refl true)))) | omega)
        by_cases c : ia + 1 + 1 = a.size
        · rw [if_pos (by simpa using c)]
          exact wpS_pure ⟨rfl, .inr (xWWP _ _ rfl (last_ok W h' c))⟩
        rw [if_neg (by simpa using c)]
        have o : Going ρ a b (x + 1 + (y + 1)) (out.push p') (ia + 1) ib := (xPPP h' (by (first | exact AR.m14 hia c | omega)) hib hs)
        by_cases c2 : ac + 1 ≥ g
        · rw [if_pos c2]
          exact wpS_pure ⟨rfl, .inl (xWWWWWPPP _ _ _ _ _ rfl h' (by (first | exact AR.m14 hia c | omega)) ⟨ hib, by (clear ha hb r0 hx hy hia hib hn r r' c c2; omega)⟩)⟩
        · rw [if_neg c2]
          exact wpS_pure (xPWWWWWP rfl _ _ _ _ _ rfl o)
    · intro c t1 hq37; refine yPWWWWWPP hq37 fun ye353_0 out ia ib ac bc ye353_6 h yr353 => ?_; try clear hq37; subst ye353_0; subst ye353_6; refine yPP yr353 fun h1 h2 h3 => ?_; try clear yr353
      exact ⟨rfl, .inl (xWWWWWPPP _ _ _ _ _ rfl h h1 ⟨ h2, by (clear ha r0 c c2 h2; omega)⟩)⟩
    · exact (xPWWWWWP rfl _ _ _ _ _ rfl o)
    · rintro c t1 ⟨rfl, ⟨out, ia, ib, ac, bc, rfl, o⟩ | ⟨r, c', rfl, hr⟩⟩
      · dsimp only
        refine wpS_bind (wpS_lift (wpAny_rule ⟨rfl, wpS_bind (wpS_mono (wpS_forRange (Q := fun c t1 => Eqv t t1 ∧ Ok2 ρ a b (x + 2) c) (fun y c t1 => Eqv t t1 ∧ Ok1 ρ a b (x + 2) c) ?_ ?_ ?_) ?_)⟩))
        · intro y c t1 _ hy hq38; refine yPWWWWP hq38 fun et' out ia ib r ye355_5 o => ?_; try clear hq38; subst ye355_5
          dsimp only
          by_cases c : r.1 > 1
          · rw [if_pos c]
            exact loA_ok T W (et'.1.trans hk) o fun R t2 e2 hR => by cases R <;> exact ⟨et'.trans e2, hR⟩
          · rw [if_neg c]
            exact loA_ok T W (et'.1.trans hk) o fun R t2 e2 hR => by cases R <;> exact ⟨et'.trans e2, hR⟩
        · intro c t1 hq39; obtain ⟨et', h⟩ := hq39
          exact ⟨et', .inl h⟩
        · exact (xPWWWWP et _ _ _ _ rfl o)
        · rintro c t1 ⟨et', ⟨out, ia, ib, r, rfl, o⟩ | ⟨r, c', rfl, hr⟩⟩
          · exact wpS_bind (wpS_setMin fun t2 e2 => wpS_pure (xPWWWWP (et'.trans e2) _ _ _ _ rfl o))
          · exact wpS_pure (xPWWP et' _ _ rfl hr)
      · exact wpS_pure (xPWWP et _ _ rfl hr)
  · intro c t' hq40; refine yPWWWWPPP hq40 fun et out ia ib g ye356_5 h h1 yr356 => ?_; try clear hq40; subst ye356_5; obtain ⟨h2, h3⟩ := yr356
    have := h.pm.length_eq
    simp only [List.length_append, Array.length_toList] at this
    (clear ha hb r0 c c2; omega)
  · exact (xPWWWWPPP (Eqv.refl _) _ _ _ _ rfl m0 (by (first | exact AR.m14 ha c2 | omega)) ⟨ by (first | exact AR.m14 hb c | omega), Nat.le_refl _⟩)
  · intro c t' hq41; refine yPWWP hq41 fun et r c' ye357_3 hr => ?_; try clear hq41; subst ye357_3
    exact wpS_pure (q _ _ et hr)
end
end SQ

namespace SQ
open PySem PyProof PyProof.Rows
def mergeHi' : Array Keyed → Array Keyed → StateT SortSt Sem (Array Keyed) := sortPriv% PySem.Builtin.mergeHi
abbrev HiSt := Option (Array Keyed) × Nat × Nat × Array Keyed × Nat × Nat × Nat
def hiC (a b : Array Keyed) (g ac bc na nb : Nat) (out : Array Keyed) : StateT SortSt Sem (ForInStep HiSt) := do
  let x ← elem' a (na - 1)
  if (na - 1 == 0) = true then pure (ForInStep.done (some (a.extract 0 (na - 1) ++ b.extract 0 nb ++ (out.push x).reverse), na - 1, nb, out.push x, g, ac, bc))
  else if (decide (ac < 7) && decide (bc < 7)) = true then pure (ForInStep.done (none, na - 1, nb, out.push x, g, ac, bc))
  else pure (ForInStep.yield (none, na - 1, nb, out.push x, g, ac, bc))
def hiB (a b : Array Keyed) (g ac bc na nb : Nat) (out : Array Keyed) : StateT SortSt Sem (ForInStep HiSt) := do
  let x ← elem' b (nb - 1)
  if (nb - 1 == 1) = true then pure (ForInStep.done (some (b.extract 0 (nb - 1) ++ a.extract 0 na ++ (out.push x).reverse), na, nb - 1, out.push x, g, ac, bc))
  else do
    let y ← elem' a (na - 1)
    let r ← gallop' true y b 0 (nb - 1) (nb - 1 - 1)
    match r with
    | some m =>
      if nb - 1 - m > 0 then
        if (m == 1) = true then pure (ForInStep.done (some (b.extract 0 m ++ a.extract 0 na ++ (out.push x ++ (b.extract m (nb - 1)).reverse).reverse), na, m, out.push x ++ (b.extract m (nb - 1)).reverse, g, ac, nb - 1 - m))
        else if (m == 0) = true then pure (ForInStep.done (some (a.extract 0 na ++ b.extract 0 m ++ (out.push x ++ (b.extract m (nb - 1)).reverse).reverse), na, m, out.push x ++ (b.extract m (nb - 1)).reverse, g, ac, nb - 1 - m))
        else hiC a b g ac (nb - 1 - m) na m (out.push x ++ (b.extract m (nb - 1)).reverse)
      else hiC a b g ac (nb - 1 - m) na (nb - 1) (out.push x)
    | _ => pure (ForInStep.done (some (a.extract 0 na ++ b.extract 0 (nb - 1) ++ (out.push x).reverse), na, nb - 1, out.push x, g, ac, bc))
def hiA (a b : Array Keyed) (na nb : Nat) (out : Array Keyed) (ac bc g : Nat) : StateT SortSt Sem (ForInStep HiSt) := do
  setMinGallop' g
  let x ← elem' b (nb - 1)
  let r ← gallop' false x a 0 na (na - 1)
  match r with
  | some m =>
    if na - m > 0 then
      if (m == 0) = true then pure (ForInStep.done (some (a.extract 0 m ++ b.extract 0 nb ++ (out ++ (a.extract m na).reverse).reverse), m, nb, out ++ (a.extract m na).reverse, g, na - m, bc))
      else hiB a b g (na - m) bc m nb (out ++ (a.extract m na).reverse)
    else hiB a b g (na - m) bc na nb out
  | _ => pure (ForInStep.done (some (a.extract 0 na ++ b.extract 0 nb ++ out.reverse), na, nb, out, g, ac, bc))
section
variable {ρ : Keyed → Int} {Z O P R : List Keyed}
abbrev neg (ρ : Keyed → Int) : Keyed → Int := fun x => -ρ x
theorem Res.rev {L : List Keyed} (h : Res (neg ρ) Z L) : Res ρ Z L.reverse :=
  ⟨(List.reverse_perm L).trans h.1, List.pairwise_reverse.mpr (h.2.imp fun h => by have : -ρ _ ≤ -ρ _ := h; exact AR.i19 h)⟩
theorem Srt.neg {l : List Keyed} (h : Srt ρ l) : Srt (neg ρ) l.reverse := List.pairwise_reverse.mpr (h.imp fun h => by show -ρ _ ≤ -ρ _; exact AR.i20 h)
abbrev hd (xs : Array Keyed) (n : Nat) : List Keyed := (xs.toList.take n).reverse
theorem hd_one {xs : Array Keyed} {n : Nat} {x : Keyed} (hn : 0 < n) (h : xs[n - 1]? = some x) : hd xs n = [x] ++ hd xs (n - 1) := by
  obtain ⟨hi, e⟩ := Array.getElem?_eq_some_iff.mp h
  unfold hd
  rw [show n = n - 1 + 1 by first | exact AR.m46 (AR.m78 hn) | omega, List.take_add_one, List.getElem?_eq_getElem (by simpa using hi), Array.getElem_toList, e, List.reverse_append]
  rfl
theorem hd_cut (xs : Array Keyed) {m n : Nat} (h : m ≤ n) : hd xs n = ((xs.toList.drop m).take (n - m)).reverse ++ hd xs m := by
  unfold hd
  rw [← List.reverse_append, ← List.take_add, Nat.add_sub_cancel' h]
theorem mem_hd {xs : Array Keyed} {n : Nat} {x : Keyed} (h : x ∈ hd xs n) : ∃ j, j < n ∧ j < xs.size ∧ rk ρ xs j = ρ x := by
  have : x ∈ (xs.toList.drop 0).take n := List.mem_reverse.mp h
  refine yWPP (mem_seg (ρ := ρ) this) fun j h1 h2 h3 => ?_
  rw [Nat.zero_add] at h2 h3
  exact (xWPP j h1 h2 h3)
variable {a b : Array Keyed}
abbrev MgH (ρ : Keyed → Int) (a b out : Array Keyed) (na nb : Nat) : Prop := Mg (neg ρ) (a.toList ++ b.toList) out.toList (hd a na) (hd b nb)
theorem MgH.takeA {out : Array Keyed} {na nb : Nat} {x : Keyed} (h : MgH ρ a b out na nb) (hn : 0 < na) (e : a[na - 1]? = some x) (g : ∀ y ∈ hd b nb, ρ y ≤ ρ x) : MgH ρ a b (out.push x) (na - 1) nb := by
  unfold MgH at *
  rw [hd_one hn e] at h
  rw [Array.toList_push]
  exact h.left fun y hy => by rw [List.mem_singleton.mp hy]; intro v hv; have := g v hv; show -ρ x ≤ -ρ v; exact AR.i20 this
theorem MgH.takeB {out : Array Keyed} {na nb : Nat} {x : Keyed} (h : MgH ρ a b out na nb) (hn : 0 < nb) (e : b[nb - 1]? = some x) (g : ∀ y ∈ hd a na, ρ y ≤ ρ x) : MgH ρ a b (out.push x) na (nb - 1) := by
  unfold MgH at *
  rw [hd_one hn e] at h
  rw [Array.toList_push]
  exact h.right fun y hy => by rw [List.mem_singleton.mp hy]; intro v hv; have := g v hv; show -ρ x ≤ -ρ v; exact AR.i20 this
theorem MgH.takeAs {out : Array Keyed} {na nb m : Nat} (h : MgH ρ a b out na nb) (hm : m ≤ na) (g : ∀ x ∈ (a.toList.drop m).take (na - m), ∀ y ∈ hd b nb, ρ y ≤ ρ x) : MgH ρ a b (out ++ (a.extract m na).reverse) m nb := by
  unfold MgH at *
  rw [hd_cut a hm] at h
  rw [Array.toList_append, Array.toList_reverse, ext_list]
  exact h.left fun y hy v hv => by have := g y (List.mem_reverse.mp hy) v hv; show -ρ y ≤ -ρ v; exact AR.i20 this
theorem MgH.takeBs {out : Array Keyed} {na nb m : Nat} (h : MgH ρ a b out na nb) (hm : m ≤ nb) (g : ∀ x ∈ (b.toList.drop m).take (nb - m), ∀ y ∈ hd a na, ρ y ≤ ρ x) : MgH ρ a b (out ++ (b.extract m nb).reverse) na m := by
  unfold MgH at *
  rw [hd_cut b hm] at h
  rw [Array.toList_append, Array.toList_reverse, ext_list]
  exact h.right fun y hy v hv => by have := g y (List.mem_reverse.mp hy) v hv; show -ρ y ≤ -ρ v; exact AR.i20 this
theorem hdone_ok {out : Array Keyed} {na nb : Nat} (h : MgH ρ a b out na nb) (c : na = 0 ∨ nb = 0) : Res ρ (a.toList ++ b.toList) (a.extract 0 na ++ b.extract 0 nb ++ out.reverse).toList := by
  have := (h.swap.fin fun x hx y hy => by
    rcases c with c | c
    · rw [c] at hy; exact absurd hy List.not_mem_nil
    · rw [c] at hx; exact absurd hx List.not_mem_nil).rev
  simpa only [List.reverse_append, List.reverse_reverse, Array.toList_append, Array.toList_reverse, ext_list, List.drop_zero, Nat.sub_zero, hd, List.append_assoc] using this
theorem hfirst_ok {out : Array Keyed} {na nb : Nat} (h : MgH ρ a b out na nb) (first : ∀ y ∈ a.toList, rk ρ b 0 ≤ ρ y) (c : nb = 1) : Res ρ (a.toList ++ b.toList) (b.extract 0 nb ++ a.extract 0 na ++ out.reverse).toList := by
  have := (h.fin fun x hx y hy => by
    refine yWPP (mem_hd (ρ := ρ) hy) fun j h1 h2 h3 => ?_
    have := first x (List.mem_of_mem_take (List.mem_reverse.mp hx))
    rw [show j = 0 by (first | exact AR.n24' (AR.m31 h1 (AR.n22 c)) (AR.m32 (AR.n18t (of_decide_eq_true (id (Eq.refl true))))) | omega)] at h3
    show -ρ x ≤ -ρ y
    (first | exact AR.i20 (AR.i14 h3 this) | omega)).rev
  simpa only [List.reverse_append, List.reverse_reverse, Array.toList_append, Array.toList_reverse, ext_list, List.drop_zero, Nat.sub_zero, hd, List.append_assoc] using this
end
section
variable {prog : Program} {w : World} {A : Around} {E : Value → Shared → Prop} {s : Shared} {k : SortKind} {z : Array Keyed} {ρ : Keyed → Int} {a b : Array Keyed} {t : SortSt}
def GoingH (ρ : Keyed → Int) (a b : Array Keyed) (n : Nat) (out : Array Keyed) (na nb : Nat) : Prop := MgH ρ a b out na nb ∧ 0 < na ∧ 1 < nb ∧ na ≤ a.size ∧ nb ≤ b.size ∧ n ≤ out.size
def OkH1 (ρ : Keyed → Int) (a b : Array Keyed) (n : Nat) (c : HiSt) : Prop := ∃ na nb out r, c = (none, na, nb, out, r) ∧ GoingH ρ a b n out na nb
def OkH2 (ρ : Keyed → Int) (a b : Array Keyed) (n : Nat) (c : HiSt) : Prop := OkH1 ρ a b n c ∨ ∃ r c', c = (some r, c') ∧ Res ρ (a.toList ++ b.toList) r.toList
def StpH (ρ : Keyed → Int) (a b : Array Keyed) (n : Nat) : ForInStep HiSt → Prop
  | .done c => OkH2 ρ a b n c
  | .yield c => OkH1 ρ a b n c
theorem up_to {xs : Array Keyed} {n : Nat} (h : Srt ρ xs.toList) (hn : n ≤ xs.size) : Up ρ xs 0 (0 + n) := fun u v hu huv hv => srt_up.mp h u v hu huv (by (first | exact AR.m65 (AR.n2 hv (AR.n21 (of_decide_eq_true (id (Eq.refl true))) hn)) | omega))
theorem hiC_ok (W : Two z ρ a b) {g ac bc na nb n : Nat} {out : Array Keyed} (h : MgH ρ a b out na nb) (hna : 0 < na) (hnb : 1 < nb) (ha : na ≤ a.size) (hb : nb ≤ b.size) (hn : n ≤ out.size) (hle : ∀ y ∈ hd b nb, ρ y ≤ rk ρ a (na - 1))
    {Q : ForInStep HiSt → SortSt → Prop} (q : ∀ R, StpH ρ a b n R → Q R t) : wpS (model prog w) A E s (hiC a b g ac bc na nb out) Q t := by
  obtain ⟨x, e, _, r⟩ := W.posA (show na - 1 < a.size by (first | exact AR.m12 hna ha | omega))
  unfold hiC
  refine wpS_bind (wpS_elem e ?_)
  have h' := MgH.takeA h hna e (by rw [← r]; exact hle)
  have hs : n ≤ (out.push x).size := by rw [Array.size_push]; exact AR.n18 hn
  by_cases c : na - 1 = 0
  · rw [if_pos (by simpa using c)]
    exact wpS_pure (q _ (.inr (xWWP _ _ rfl (hdone_ok h' (.inl c)))))
  · rw [if_neg (by simpa using c)]
    have o : GoingH ρ a b n (out.push x) (na - 1) nb := (xPPPPP h' (by exact AR.n12 c) hnb (by exact AR.n19' ha) hb hs)
    by_cases c2 : (decide (ac < 7) && decide (bc < 7)) = true
    · rw [if_pos c2]; exact wpS_pure (q _ (.inl (xWWWWP _ _ _ _ rfl o)))
    · rw [if_neg c2]; exact wpS_pure (q _ (xWWWWP _ _ _ _ rfl o))
theorem hiB_ok (T : Tells (model prog w) A E s k z ρ) (W : Two z ρ a b) (first : ∀ y ∈ a.toList, rk ρ b 0 ≤ ρ y) (ht : kindOf t = k) {g ac bc na nb n : Nat} {out : Array Keyed} (h : MgH ρ a b out na nb) (hna : 0 < na) (hnb : 1 < nb) (ha : na ≤ a.size) (hb : nb ≤ b.size) (hn : n ≤ out.size)
    (hle : ∀ y ∈ hd a na, ρ y ≤ rk ρ b (nb - 1)) {Q : ForInStep HiSt → SortSt → Prop} (q : ∀ R, StpH ρ a b n R → Q R t) : wpS (model prog w) A E s (hiB a b g ac bc na nb out) Q t := by
  obtain ⟨x, e, _, r⟩ := W.posB (show nb - 1 < b.size by (first | exact AR.m12 (AR.m17 hnb) hb | omega))
  obtain ⟨y, ey, hy, ry⟩ := W.posA (show na - 1 < a.size by (first | exact AR.m12 hna ha | omega))
  unfold hiB
  refine wpS_bind (wpS_elem e ?_)
  have h' := MgH.takeB h (by (first | exact AR.m17 hnb | omega)) e (by rw [← r]; exact hle)
  have hs : n ≤ (out.push x).size := by rw [Array.size_push]; exact AR.n18 hn
  by_cases c : nb - 1 = 1
  · rw [if_pos (by simpa using c)]
    exact wpS_pure (q _ (.inr (xWWP _ _ rfl (hfirst_ok h' first c))))
  · rw [if_neg (by simpa using c)]
    refine wpS_bind (wpS_elem ey (wpS_bind (galloped T hy W.zb (by (clear hna ha hn r ry hs c; omega)) (by (first | exact AR.n20' (AR.m16 (AR.n20 hnb)) | omega)) ht (up_to W.sb (by exact AR.n19' hb)) fun m g1 g2 g3 => ?_)))
    dsimp only
    have ge : ∀ v ∈ hd a na, ρ v ≤ ρ y := fun v hv => by
      have : -ρ y ≤ -ρ v := h.p.ge (hd_one hna ey) v hv
      exact AR.i19 this
    have hB : ∀ v ∈ hd b m, ρ v ≤ rk ρ a (na - 1) := fun v hv => by
      refine yWPP (mem_hd (ρ := ρ) hv) fun j j1 j2 j3 => ?_
      have := g2 j j1
      simp only [Bey, if_true, Nat.zero_add] at this
      (first | exact AR.j3 this (AR.j5 ry) j3 | omega)
    by_cases c2 : nb - 1 - m > 0
    · rw [if_pos c2]
      have h2 := MgH.takeBs (m := m) h' (by exact g1) fun u hu v hv => by
        refine yWPP (mem_seg (ρ := ρ) hu) fun j j1 j2 j3 => ?_
        have a1 := g3 (m + j) (by (first | exact AR.m1 | omega)) (by (first | exact AR.m9 j1 | omega))
        have a2 := ge v hv
        simp only [Bey, if_true, Nat.zero_add] at a1
        (first | exact AR.i4 a2 (AR.i8 a1 (AR.j8 j3)) | omega)
      by_cases c3 : m = 1
      · rw [if_pos (by simpa using c3)]
        exact wpS_pure (q _ (.inr (xWWP _ _ rfl (hfirst_ok h2 first c3))))
      rw [if_neg (by simpa using c3)]
      by_cases c4 : m = 0
      · rw [if_pos (by simpa using c4)]
        exact wpS_pure (q _ (.inr (xWWP _ _ rfl (hdone_ok h2 (.inr c4)))))
      rw [if_neg (by simpa using c4)]
      exact hiC_ok W h2 hna (by (first | exact AR.n23 (AR.m21 c4) (AR.n29 c3) | omega)) ha (by (clear hna hnb ha hn r ry hs c g1; omega)) (by rw [Array.size_append]; exact AR.n18 hs) hB q
    · rw [if_neg c2]
      have : m = nb - 1 := by (first | exact AR.m22 g1 c2 | omega)
      subst this
      exact hiC_ok W h' hna (by (first | exact AR.n23 (AR.n20 hnb) (AR.n29 c) | omega)) ha (by exact AR.n19' hb) hs hB q
theorem hiA_ok (T : Tells (model prog w) A E s k z ρ) (W : Two z ρ a b) (first : ∀ y ∈ a.toList, rk ρ b 0 ≤ ρ y) (ht : kindOf t = k) {g ac bc na nb n : Nat} {out : Array Keyed} (o : GoingH ρ a b n out na nb)
    {Q : ForInStep HiSt → SortSt → Prop} (q : ∀ R t', Eqv t t' → StpH ρ a b n R → Q R t') : wpS (model prog w) A E s (hiA a b na nb out ac bc g) Q t := by
  refine yPPPPP o fun h hna hnb ha hb hn => ?_; try clear o
  obtain ⟨x, e, hx, r⟩ := W.posB (show nb - 1 < b.size by (first | exact AR.m12 (AR.m17 hnb) hb | omega))
  unfold hiA
  refine wpS_bind (wpS_setMin fun t' et => wpS_bind (wpS_elem e (wpS_bind (galloped T hx W.za (by (first | exact AR.n15 ha (AR.n22 AR.m63) | omega)) (by exact AR.n20' hna) (et.1.trans ht) (up_to W.sa (by exact ha)) fun m g1 g2 g3 => ?_))))
  dsimp only
  have ge : ∀ v ∈ hd b nb, ρ v ≤ ρ x := fun v hv => by
    have : -ρ x ≤ -ρ v := h.r.ge (hd_one (by (first | exact AR.m17 hnb | omega)) e) v hv
    exact AR.i19 this
  have hA : ∀ v ∈ hd a m, ρ v ≤ rk ρ b (nb - 1) := fun v hv => by
    refine yWPP (mem_hd (ρ := ρ) hv) fun j j1 j2 j3 => ?_
    have := g2 j j1
    simp only [Bey, Bool.false_eq_true, if_false, Nat.zero_add] at this
    (first | exact AR.i14 j3 (AR.i13 this r) | omega)
  by_cases c2 : na - m > 0
  · rw [if_pos c2]
    have h2 := MgH.takeAs (m := m) h (by exact g1) fun u hu v hv => by
      refine yWPP (mem_seg (ρ := ρ) hu) fun j j1 j2 j3 => ?_
      have a1 := g3 (m + j) (by (first | exact AR.m1 | omega)) (by (first | exact AR.m9 j1 | omega))
      have a2 := ge v hv
      simp only [Bey, Bool.false_eq_true, if_false, Nat.zero_add] at a1
      (first | exact AR.i4 a2 (AR.i23 a1 j3) | omega)
    by_cases c3 : m = 0
    · rw [if_pos (by simpa using c3)]
      exact wpS_pure (q _ _ et (.inr (xWWP _ _ rfl (hdone_ok h2 (.inl c3)))))
    rw [if_neg (by simpa using c3)]
    exact hiB_ok T W first (et.1.trans ht) h2 (by exact AR.n12 c3) hnb (by exact AR.n4 g1 ha) hb (by rw [Array.size_append]; exact AR.n18 hn) hA fun R hR => q R _ et hR
  · rw [if_neg c2]
    have : m = na := by (first | exact AR.m22 g1 c2 | omega)
    subst this
    exact hiB_ok T W first (et.1.trans ht) h hna hnb ha hb hn hA fun R hR => q R _ et hR
abbrev PhSt := Option (Array Keyed) × Nat × Nat × Array Keyed × Nat × Nat
abbrev UhSt := Option (Array Keyed) × Nat × Nat × Array Keyed × Nat
def hiP (a b : Array Keyed) (g : Nat) (c : PhSt) : StateT SortSt Sem (ForInStep PhSt) :=
  elem' b (c.2.2.1 - 1) >>= fun p => elem' a (c.2.1 - 1) >>= fun q => lt' p q >>= fun r =>
    match r with
    | some w =>
      if w = true then elem' a (c.2.1 - 1) >>= fun x =>
        if (c.2.1 - 1 == 0) = true then pure (ForInStep.done (some (a.extract 0 (c.2.1 - 1) ++ b.extract 0 c.2.2.1 ++ (c.2.2.2.1.push x).reverse), c.2.1 - 1, c.2.2.1, c.2.2.2.1.push x, c.2.2.2.2.1 + 1, 0))
        else if c.2.2.2.2.1 + 1 ≥ g then pure (ForInStep.done (none, c.2.1 - 1, c.2.2.1, c.2.2.2.1.push x, c.2.2.2.2.1 + 1, 0))
        else pure (ForInStep.yield (none, c.2.1 - 1, c.2.2.1, c.2.2.2.1.push x, c.2.2.2.2.1 + 1, 0))
      else elem' b (c.2.2.1 - 1) >>= fun x =>
        if (c.2.2.1 - 1 == 1) = true then pure (ForInStep.done (some (b.extract 0 (c.2.2.1 - 1) ++ a.extract 0 c.2.1 ++ (c.2.2.2.1.push x).reverse), c.2.1, c.2.2.1 - 1, c.2.2.2.1.push x, 0, c.2.2.2.2.2 + 1))
        else if c.2.2.2.2.2 + 1 ≥ g then pure (ForInStep.done (none, c.2.1, c.2.2.1 - 1, c.2.2.2.1.push x, 0, c.2.2.2.2.2 + 1))
        else pure (ForInStep.yield (none, c.2.1, c.2.2.1 - 1, c.2.2.2.1.push x, 0, c.2.2.2.2.2 + 1))
    | _ => pure (ForInStep.done (some (a.extract 0 c.2.1 ++ b.extract 0 c.2.2.1 ++ c.2.2.2.1.reverse), c.2.1, c.2.2.1, c.2.2.2.1, c.2.2.2.2.1, c.2.2.2.2.2))
def hiO (a b : Array Keyed) (c : UhSt) : StateT SortSt Sem (ForInStep UhSt) :=
  forIn [0:a.size + b.size] ((none, c.2.1, c.2.2.1, c.2.2.2.1, 0, 0) : PhSt) (fun _ d => hiP a b c.2.2.2.2 d) >>= fun d =>
    match d.1 with
    | some r => pure (ForInStep.done (some r, d.2.1, d.2.2.1, d.2.2.2.1, c.2.2.2.2))
    | none => liftM (rule "list.sort.gallop") >>= fun _ =>
      forIn [0:a.size + b.size] ((none, d.2.1, d.2.2.1, d.2.2.2.1, c.2.2.2.2 + 1, d.2.2.2.2.1, d.2.2.2.2.2) : HiSt) (fun _ e =>
        if e.2.2.2.2.1 > 1 then hiA a b e.2.1 e.2.2.1 e.2.2.2.1 e.2.2.2.2.2.1 e.2.2.2.2.2.2 (e.2.2.2.2.1 - 1) else hiA a b e.2.1 e.2.2.1 e.2.2.2.1 e.2.2.2.2.2.1 e.2.2.2.2.2.2 e.2.2.2.2.1) >>= fun e =>
        match e.1 with
        | some r => pure (ForInStep.done (some r, e.2.1, e.2.2.1, e.2.2.2.1, e.2.2.2.2.1))
        | none => setMinGallop' (e.2.2.2.2.1 + 1) >>= fun _ => pure (ForInStep.yield (none, e.2.1, e.2.2.1, e.2.2.2.1, e.2.2.2.2.1 + 1))
theorem mergeHi_own (a b : Array Keyed) : mergeHi' a b = (liftM (rule "list.sort.merge-hi") >>= fun _ => elem' a (a.size - 1) >>= fun x => if (a.size - 1 == 0) = true then pure (a.extract 0 (a.size - 1) ++ b.extract 0 b.size ++ (#[x] : Array Keyed).reverse) else if (b.size == 1) = true then pure (b.extract 0 b.size ++ a.extract 0 (a.size - 1) ++ (#[x] : Array Keyed).reverse) else
    get >>= fun s => forIn [0:a.size + b.size] ((none, a.size - 1, b.size, #[x], gallopOf s) : UhSt) (fun _ c => hiO a b c) >>= fun c => match c.1 with | some r => pure r | none => liftM (unsupported "internal:list.sort.merge-bound")) := by
  rw [show mergeHi' a b = (liftM (rule "list.sort.merge-hi") >>= _) from rfl]
  dsimp only [hiO, hiP, hiA, hiB, hiC]
  congr 1; funext _; congr 1; funext x0
  congr 1; congr 1
  congr 1; funext s0; congr 1
  · congr 1; funext x c
    congr 1; funext c1
    obtain ⟨r1, c1⟩ := c1
    cases r1 with
    | some r => rfl
    | none =>
      dsimp only
      congr 1; funext _; congr 1; funext c2
      obtain ⟨r2, c2⟩ := c2
      cases r2 <;> rfl
  · funext c
    obtain ⟨r, c⟩ := c
    cases r <;> rfl
theorem merged_hi (T : Tells (model prog w) A E s k z ρ) (W : Two z ρ a b) (hk : kindOf t = k) (ha : 0 < a.size) (hb : 0 < b.size) (first : ∀ y ∈ a.toList, rk ρ b 0 ≤ ρ y)
    {Q : Array Keyed → SortSt → Prop} (q : ∀ out t', Eqv t t' → Res ρ (a.toList ++ b.toList) out.toList → Q out t') : wpS (model prog w) A E s (mergeHi' a b) Q t := by
  rw [mergeHi_own]
  obtain ⟨a0, e0, _, r0⟩ := W.posA (show a.size - 1 < a.size by exact AR.n20' ha)
  refine wpS_bind (wpS_lift (wpAny_rule ⟨rfl, wpS_bind (wpS_elem e0 ?_)⟩))
  have ms : MgH ρ a b #[] a.size b.size := by
    unfold MgH hd
    rw [List.take_of_length_le (by simp), List.take_of_length_le (by simp)]
    have h0 := Mg.start W.sa.neg W.sb.neg
    exact ⟨((List.reverse_perm _).append (List.reverse_perm _)), h0.o, h0.p, h0.r, h0.op, h0.or⟩
  have m0 : MgH ρ a b #[a0] (a.size - 1) b.size := MgH.takeA (out := #[]) ms ha e0 (fun y hy => by rw [← r0]; exact W.last y (List.mem_of_mem_take (List.mem_reverse.mp hy)))
  by_cases c : a.size - 1 = 0
  · rw [if_pos (by simpa using c)]
    exact wpS_pure (q _ _ (Eqv.refl _) (hdone_ok m0 (.inl c)))
  rw [if_neg (by simpa using c)]
  by_cases c2 : b.size = 1
  · rw [if_pos (by simpa using c2)]
    exact wpS_pure (q _ _ (Eqv.refl _) (hfirst_ok m0 first c2))
  rw [if_neg (by simpa using c2)]
  refine wpS_bind (wpS_get (wpS_bind (wpS_mono (wpS_forRange (Q := fun c t' => Eqv t t' ∧ ∃ r c', c = (some r, c') ∧ Res ρ (a.toList ++ b.toList) r.toList)
    (fun x c t' => Eqv t t' ∧ ∃ na nb out g, c = (none, na, nb, out, g) ∧ GoingH ρ a b (x + 1) out na nb) ?_ ?_ ?_) ?_)))
  · intro x c t' _ hx hq42; refine yPWWWWP hq42 fun et na nb out g ye365_5 o => ?_; try clear hq42; subst ye365_5
    unfold hiO
    dsimp only
    refine wpS_bind (wpS_mono (wpS_forRange (Q := fun c t1 => t' = t1 ∧ ((∃ na nb out ac bc, c = (none, na, nb, out, ac, bc) ∧ GoingH ρ a b (x + 2) out na nb) ∨ ∃ r c', c = (some r, c') ∧ Res ρ (a.toList ++ b.toList) r.toList))
      (fun y c t1 => t' = t1 ∧ ∃ na nb out ac bc, c = (none, na, nb, out, ac, bc) ∧ GoingH ρ a b (x + 1 + y) out na nb) ?_ ?_ ?_) ?_)
    · intro y c t1 _ hy hq43; refine yPWWWWWPP hq43 fun ye366_0 na nb out ac bc ye366_6 h yr366 => ?_; try clear hq43; subst ye366_0; subst ye366_6; refine yPPPP yr366 fun hna hnb la lb hn => ?_; try clear yr366
      obtain ⟨p, e, hp, r⟩ := W.posB (show nb - 1 < b.size by (first | exact AR.m12 (AR.m17 hnb) lb | omega))
      obtain ⟨p', e', hp', r'⟩ := W.posA (show na - 1 < a.size by (first | exact AR.m12 hna la | omega))
      unfold hiP
      dsimp only
      refine wpS_bind (wpS_elem e (wpS_bind (wpS_elem e' (wpS_bind (T p p' _ _ hp hp' (et.1.trans hk) ?_)))))
      dsimp only
      by_cases c : ρ p < ρ p'
      · rw [decide_eq_true c]
        simp only [if_true]
        refine wpS_bind (wpS_elem e' ?_)
        have h' := MgH.takeA h hna e' (fun v hv => by have : -ρ p ≤ -ρ v := h.r.ge (hd_one (by (first | exact AR.m17 hnb | omega)) e) v hv; (first | exact AR.j30 c this | omega))
        have hs : x + 1 + (y + 1) ≤ (out.push p').size := by rw [Array.size_push]; (first | exact AR.m67 (AR.n21 hn (of_decide_eq_true (id (Eq.refl true)))) | omega)
        by_cases c : na - 1 = 0
        · rw [if_pos (by simpa using c)]
          exact wpS_pure ⟨rfl, .inr (xWWP _ _ rfl (hdone_ok h' (.inl c)))⟩
        rw [if_neg (by simpa using c)]
        by_cases c2 : ac + 1 ≥ g
        · rw [if_pos c2]
          exact wpS_pure ⟨rfl, .inl (xWWWWWPPP _ _ _ _ _ rfl h' (by exact AR.n12 c) (xPPP hnb (by exact AR.n19' la) lb (by (clear ha hb r0 hx hy hna hnb la lb hn r r' c c2; omega))))⟩
        · rw [if_neg c2]
          exact wpS_pure (xPWWWWWPP rfl _ _ _ _ _ rfl h' (xPPPP (by exact AR.n12 c) hnb (by exact AR.n19' la) lb hs))
      · rw [decide_eq_false c]
        simp only [Bool.false_eq_true, if_false]
        refine wpS_bind (wpS_elem e ?_)
        have h' := MgH.takeB h (by (first | exact AR.m17 hnb | omega)) e (fun v hv => by have : -ρ p' ≤ -ρ v := h.p.ge (hd_one hna e') v hv; (first | exact AR.j29 c this | omega))
        have hs : x + 1 + (y + 1) ≤ (out.push p).size := by rw [Array.size_push]; (first | exact AR.m67 (AR.n21 hn (of_decide_eq_true (id (Eq.refl true)))) | omega)
        by_cases c : nb - 1 = 1
        · rw [if_pos (by simpa using c)]
          exact wpS_pure ⟨rfl, .inr (xWWP _ _ rfl (hfirst_ok h' first c))⟩
        rw [if_neg (by simpa using c)]
        by_cases c2 : bc + 1 ≥ g
        · rw [if_pos c2]
          exact wpS_pure ⟨rfl, .inl (xWWWWWPPP _ _ _ _ _ rfl h' hna (xPPP (by (first | exact AR.n23 (AR.n20 hnb) (AR.n29 c) | omega)) la (by exact AR.n19' lb) (by (clear ha hb r0 hx hy hna hnb la lb hn r r' c c2; omega))))⟩
        · rw [if_neg c2]
          exact wpS_pure (xPWWWWWPP rfl _ _ _ _ _ rfl h' (xPPPP hna (by (first | exact AR.n23 (AR.n20 hnb) (AR.n29 c) | omega)) la (by exact AR.n19' lb) hs))
    · intro c t1 hq44; refine yPWWWWWPP hq44 fun ye368_0 na nb out ac bc ye368_6 h yr368 => ?_; try clear hq44; subst ye368_0; subst ye368_6; refine yPPPP yr368 fun h1 h2 h3 h4 h5 => ?_; try clear yr368
      exact ⟨rfl, .inl (xWWWWWPPP _ _ _ _ _ rfl h h1 (xPPP h2 h3 h4 (by (clear hb r0 c c2 h1 h3; omega))))⟩
    · exact (xPWWWWWP rfl _ _ _ _ _ rfl o)
    · rintro c t1 ⟨rfl, ⟨na, nb, out, ac, bc, rfl, o⟩ | ⟨r, c', rfl, hr⟩⟩
      · dsimp only
        refine wpS_bind (wpS_lift (wpAny_rule ⟨rfl, wpS_bind (wpS_mono (wpS_forRange (Q := fun c t1 => Eqv t t1 ∧ OkH2 ρ a b (x + 2) c) (fun y c t1 => Eqv t t1 ∧ OkH1 ρ a b (x + 2) c) ?_ ?_ ?_) ?_)⟩))
        · intro y c t1 _ hy hq45; refine yPWWWWP hq45 fun et' na nb out r ye370_5 o => ?_; try clear hq45; subst ye370_5
          dsimp only
          by_cases c : r.1 > 1
          · rw [if_pos c]
            exact hiA_ok T W first (et'.1.trans hk) o fun R t2 e2 hR => by cases R <;> exact ⟨et'.trans e2, hR⟩
          · rw [if_neg c]
            exact hiA_ok T W first (et'.1.trans hk) o fun R t2 e2 hR => by cases R <;> exact ⟨et'.trans e2, hR⟩
        · intro c t1 hq46; obtain ⟨et', h⟩ := hq46
          exact ⟨et', .inl h⟩
        · exact (xPWWWWP et _ _ _ _ rfl o)
        · rintro c t1 ⟨et', ⟨na, nb, out, r, rfl, o⟩ | ⟨r, c', rfl, hr⟩⟩
          · exact wpS_bind (wpS_setMin fun t2 e2 => wpS_pure (xPWWWWP (et'.trans e2) _ _ _ _ rfl o))
          · exact wpS_pure (xPWWP et' _ _ rfl hr)
      · exact wpS_pure (xPWWP et _ _ rfl hr)
  · intro c t' hq47; refine yPWWWWPPP hq47 fun et na nb out g ye371_5 h h1 yr371 => ?_; try clear hq47; subst ye371_5; refine yPPP yr371 fun h2 h3 h4 h5 => ?_; try clear yr371
    have := h.pm.length_eq
    simp only [List.length_append, Array.length_toList] at this
    (clear hb r0 c c2 h1 h3; omega)
  · exact (xPWWWWPPP (Eqv.refl _) _ _ _ _ rfl m0 (by exact AR.n12 c) (xPPP (by (first | exact AR.n23 (AR.m15 hb) (AR.n29 c2) | omega)) (by (first | exact AR.m4 | omega)) (by exact Nat.le_refl _) (Nat.le_refl _)))
  · intro c t' hq48; refine yPWWP hq48 fun et r c' ye373_3 hr => ?_; try clear hq48; subst ye373_3
    exact wpS_pure (q _ _ et hr)
end
end SQ

namespace SQ
open PySem PyProof PyProof.Rows
def wr (sa : Nat) (l : List Keyed) (n : Nat) (xs : Array Keyed) : Array Keyed := (l.zipIdx n).foldl (fun a (p, j) => a.setIfInBounds (sa + j) p) xs
theorem wr_at (sa : Nat) : ∀ (l : List Keyed) (n : Nat) (xs : Array Keyed) (i : Nat), sa + n + l.length ≤ xs.size →
    (wr sa l n xs)[i]? = if sa + n ≤ i ∧ i < sa + n + l.length then l[i - (sa + n)]? else xs[i]?
  | [], n, xs, i, _ => by rw [if_neg (by simp only [List.length_nil]; omega)]; rfl
  | p :: l, n, xs, i, h => by
    rw [List.length_cons] at h
    show (wr sa l (n + 1) (xs.setIfInBounds (sa + n) p))[i]? = _
    rw [wr_at sa l (n + 1) _ i (by rw [Array.size_setIfInBounds]; omega)]
    rw [List.length_cons]
    by_cases c : i = sa + n
    · subst c
      rw [if_neg (by (clear h; omega)), if_pos (by (clear h; omega)), Nat.sub_self, Array.getElem?_setIfInBounds_self_of_lt (by first | exact AR.m18 h (AR.n18t (of_decide_eq_true (id (Eq.refl true)))) | omega)]; rfl
    · rw [Array.getElem?_setIfInBounds_ne (by exact AR.n29 c)]
      by_cases c2 : sa + (n + 1) ≤ i ∧ i < sa + (n + 1) + l.length
      · rw [if_pos c2, if_pos (by (clear h c; omega)), show i - (sa + n) = i - (sa + (n + 1)) + 1 from (Nat.sub_add_cancel (Nat.sub_pos_of_lt c2.1)).symm]; rfl
      · rw [if_neg c2, if_neg (by (clear h; omega))]
theorem wr_list {sa : Nat} {l : List Keyed} {xs : Array Keyed} (h : sa + l.length ≤ xs.size) : (wr sa l 0 xs).toList = xs.toList.take sa ++ l ++ xs.toList.drop (sa + l.length) := by
  refine List.ext_getElem? fun i => ?_
  rw [Array.getElem?_toList, wr_at sa l 0 xs i (by omega), Nat.add_zero]
  have ht : (xs.toList.take sa).length = sa := by rw [List.length_take, Array.length_toList]; first | exact AR.m24 (AR.n16 h) | omega
  by_cases c : i < sa
  · rw [if_neg (by (first | exact AR.m49 (AR.n8 c) | omega)), List.append_assoc, List.getElem?_append_left (by exact AR.n22g ht c), List.getElem?_take_of_lt c, Array.getElem?_toList]
  · by_cases c2 : i < sa + l.length
    · rw [if_pos (by (first | exact AR.m48 (AR.n6 c) c2 | omega)), List.append_assoc, List.getElem?_append_right (by (first | exact AR.n22b ht (AR.n6 c) | omega)), ht, List.getElem?_append_left (by (first | exact AR.m70 (AR.n6 c) c2 | omega))]
    · rw [if_neg (by (first | exact AR.m50 c2 | omega)), List.getElem?_append_right (by rw [List.length_append]; (clear h c; omega)), List.length_append, ht, List.getElem?_drop, Array.getElem?_toList]
      congr 1; (first | exact AR.m46 (AR.m5 (AR.n6 c2)) | omega)
theorem wr_perm {sa e : Nat} {l : List Keyed} {xs : Array Keyed} (hs : sa ≤ e) (he : e ≤ xs.size) (h : l.Perm (xs.extract sa e).toList) : (wr sa l 0 xs).Perm xs := by
  have hl : l.length = e - sa := by rw [h.length_eq, ext_list, List.length_take, List.length_drop, Array.length_toList]; first | exact AR.m24 (AR.m55 he) | omega
  rw [Array.perm_iff_toList_perm, wr_list (by first | exact AR.m11 (AR.n22b hl (AR.m55 he)) (AR.n4 hs he) | omega), hl, show sa + (e - sa) = e by (first | exact AR.m5 hs | omega)]
  have e1 : xs.toList = xs.toList.take sa ++ (xs.extract sa e).toList ++ xs.toList.drop e := by
    rw [ext_list, ← List.take_add, show sa + (e - sa) = e by (first | exact AR.m5 hs | omega), List.take_append_drop]
  conv => rhs; rw [e1]
  exact (List.Perm.append_left _ h).append_right _
section
variable {ρ : Keyed → Int}
theorem rk_ext {xs : Array Keyed} {i j m : Nat} (h : i + m < j) (hj : j ≤ xs.size) : rk ρ (xs.extract i j) m = rk ρ xs (i + m) := by
  refine rk_eq ?_
  rw [Array.getElem?_extract, if_pos (by omega)]
theorem mem_ext {xs : Array Keyed} {i j : Nat} {x : Keyed} (hj : j ≤ xs.size) (h : x ∈ (xs.extract i j).toList) : ∃ m, i ≤ m ∧ m < j ∧ rk ρ xs m = ρ x := by
  rw [ext_list] at h
  refine yWPP (mem_seg (ρ := ρ) h) fun m h1 h2 h3 => ?_
  exact (xWPP (i + m) (by (first | exact AR.m1 | omega)) (by (first | exact AR.m9 h1 | omega)) h3)
theorem srt_ext {xs : Array Keyed} {i j : Nat} (hj : j ≤ xs.size) (u : Up ρ xs i j) : Srt ρ (xs.extract i j).toList := by
  rw [srt_up]
  intro a b _ hab hb
  rw [Array.size_extract] at hb
  rw [rk_ext (by omega) hj, rk_ext (by (first | exact AR.g255 hj hb | omega)) hj]
  exact u _ _ (by (clear hj hab hb; omega)) (by exact AR.n21b hab) (by (first | exact AR.g255 hj hb | omega))
def Cov (ρ : Keyed → Int) (xs : Array Keyed) : List (Nat × Nat) → Nat → Nat → Prop
  | [], a, b => a = b
  | r :: l, a, b => r.1 = a ∧ 0 < r.2 ∧ Up ρ xs a (a + r.2) ∧ Cov ρ xs l (a + r.2) b
abbrev strip (l : List (Nat × Nat × Nat)) : List (Nat × Nat) := l.map fun r => (r.1, r.2.1)
theorem Cov.le {xs : Array Keyed} : ∀ {l : List (Nat × Nat)} {a b : Nat}, Cov ρ xs l a b → a + l.length ≤ b
  | [], a, b, h => by have : a = b := h; simp; exact AR.n22 this
  | r :: l, a, b, h => by have := h.2.2.2.le; have := h.2.1; simp; omega
theorem Cov.app {xs : Array Keyed} : ∀ {l l' : List (Nat × Nat)} {a b : Nat}, Cov ρ xs (l ++ l') a b ↔ ∃ c, Cov ρ xs l a c ∧ Cov ρ xs l' c b
  | [], l', a, b => ⟨fun h => (xWP a rfl h), fun ⟨c, h1, h2⟩ => by have : a = c := h1; subst this; exact h2⟩
  | r :: l, l', a, b => ⟨fun h => by
      refine yWP (Cov.app.mp h.2.2.2) fun c h1 h2 => ?_
      exact (xWP c (xPPP h.1 h.2.1 h.2.2.1 h1) h2), fun ⟨c, h1, h2⟩ => (xPPP h1.1 h1.2.1 h1.2.2.1 (Cov.app.mpr (xWP c h1.2.2.2 h2)))⟩
theorem Cov.same {xs ys : Array Keyed} : ∀ {l : List (Nat × Nat)} {a b : Nat}, Cov ρ xs l a b → (∀ i, a ≤ i → i < b → rk ρ ys i = rk ρ xs i) → Cov ρ ys l a b
  | [], _, _, h, _ => h
  | r :: l, a, b, h, g => by
    have := h.2.2.2.le
    refine (xPPP h.1 h.2.1 (fun i j hi hij hj => ?_) (h.2.2.2.same fun i hi hb => g i (by exact AR.n16 hi) hb))
    rw [g i hi (by (first | exact AR.n28c hij hj (AR.n16 this) | omega)), g j (by exact AR.n4 hi hij) (by (first | exact AR.n2 hj (AR.n16 this) | omega))]
    exact h.2.2.1 i j hi hij hj
end
section
variable {prog : Program} {w : World} {A : Around} {E : Value → Shared → Prop} {s : Shared} {k : SortKind} {z : Array Keyed} {ρ : Keyed → Int} {t : SortSt}
theorem wpS_set {t' : SortSt} {Q : PUnit → SortSt → Prop} (h : Q ⟨⟩ t') : wpS (model prog w) A E s (set t' : StateT SortSt Sem PUnit) Q t := wpS_modify (f := fun _ => t') h
theorem merged_at (T : Tells (model prog w) A E s k z ρ) {pd : Array (Nat × Nat × Nat)} (hK : Kept k z pd t) {i sa na pw nb pw' : Nat} (h1 : pd[i]? = some (sa, na, pw)) (h2 : pd[i + 1]? = some (sa + na, nb, pw')) (hna : 0 < na) (hnb : 0 < nb)
    (hsz : sa + na + nb ≤ z.size) (u1 : Up ρ (arrOf t) sa (sa + na)) (u2 : Up ρ (arrOf t) (sa + na) (sa + na + nb)) {Q : Bool → SortSt → Prop}
    (q : ∀ t', Kept k z ((pd.setIfInBounds i (sa, na + nb, pw)).eraseIdxIfInBounds (i + 1)) t' → Up ρ (arrOf t') sa (sa + na + nb) → (∀ j, j < sa ∨ sa + na + nb ≤ j → rk ρ (arrOf t') j = rk ρ (arrOf t) j) → Q true t') :
    wpS (model prog w) A E s (mergeAt' i) Q t := by
  have hsz' : sa + na + nb ≤ (arrOf t).size := by rw [hK.len]; exact hsz
  have hz : ∀ p ∈ (arrOf t).toList, p ∈ z.toList := fun p hp => hK.isIn hp
  obtain ⟨y0, ey, my, ry⟩ := nth (ρ := ρ) (xs := arrOf t) (i := sa + na) (by (first | exact AR.m18 hsz' hnb | omega))
  have K1 : Kept k z ((pd.setIfInBounds i (sa, na + nb, pw)).eraseIdxIfInBounds (i + 1)) (setPending t (((pendingOf t).setIfInBounds i (sa, na + nb, pw)).eraseIdxIfInBounds (i + 1))) := ⟨hK.kd, hK.pm, hK.nf, by rw [← hK.np]⟩
  rw [show mergeAt' i = (get >>= _) from rfl]
  refine wpS_bind (wpS_get ?_)
  dsimp only
  rw [show (pendingOf t)[i]? = some (sa, na, pw) by rw [hK.np]; exact h1, show (pendingOf t)[i + 1]? = some (sa + na, nb, pw') by rw [hK.np]; exact h2]
  dsimp only
  refine wpS_bind (wpS_set (wpS_bind (wpS_elem ey (wpS_bind (galloped T (hz _ my) hz (by exact AR.n16 hsz') hna K1.kd u1 fun m g1 g2 g3 => ?_)))))
  dsimp only
  by_cases c : na - m = 0
  · rw [if_pos (by simpa using c)]
    refine wpS_pure (q _ K1 (fun i j hi hij hj => ?_) fun _ _ => rfl)
    by_cases ci : i < sa + na
    · by_cases cj : j < sa + na
      · exact u1 i j hi hij cj
      · have := g2 (i - sa) (by (clear hna hnb hsz hsz' ry hij hj cj; omega))
        simp only [Bey, Bool.false_eq_true, if_false, show sa + (i - sa) = i by (first | exact AR.m5 hi | omega)] at this
        exact Int.le_trans (ry ▸ this) (u2 _ j (Nat.le_refl _) (by exact AR.n6 cj) hj)
    · exact u2 i j (by exact AR.n6 ci) hij hj
  rw [if_neg (by simpa using c)]
  obtain ⟨x0, ex, mx, rx⟩ := nth (ρ := ρ) (xs := arrOf t) (i := sa + m + (na - m) - 1) (by rw [Nat.add_assoc, Nat.add_sub_cancel' g1]; exact Nat.lt_of_lt_of_le (Nat.sub_lt (Nat.add_pos_right sa hna) Nat.one_pos) (AR.n16 hsz'))
  refine wpS_bind (wpS_elem ex (wpS_bind (galloped T (hz _ mx) hz (by exact hsz') (by exact AR.n20' hnb) K1.kd u2 fun m2 f1 f2 f3 => ?_)))
  dsimp only
  have low : ∀ i, sa ≤ i → i < sa + m → rk ρ (arrOf t) i ≤ ρ y0 := fun i hi hi2 => by
    have := g2 (i - sa) (by (first | exact AR.m70 hi hi2 | omega))
    simpa only [Bey, Bool.false_eq_true, if_false, show sa + (i - sa) = i by (first | exact AR.m5 hi | omega)] using this
  have low2 : ∀ i, sa + m ≤ i → i < sa + na → ρ y0 ≤ rk ρ (arrOf t) i := fun i hi hi2 => by
    have := g3 (i - sa) (by (first | exact AR.m7 hi | omega)) (by (first | exact AR.m70 (AR.n16 hi) hi2 | omega))
    simp only [Bey, Bool.false_eq_true, if_false, show sa + (i - sa) = i by (first | exact AR.m5 (AR.n16 hi) | omega)] at this
    exact AR.i22 this
  have high : ∀ i, sa + na + m2 ≤ i → i < sa + na + nb → ρ x0 ≤ rk ρ (arrOf t) i := fun i hi hi2 => by
    have := f3 (i - (sa + na)) (by (first | exact AR.m7 hi | omega)) (by (first | exact AR.m70 (AR.n16 hi) hi2 | omega))
    simp only [Bey, if_true, show sa + na + (i - (sa + na)) = i by (first | exact AR.m5 (AR.n16 hi) | omega)] at this
    exact AR.i6 this
  have high2 : ∀ i, sa + na ≤ i → i < sa + na + m2 → rk ρ (arrOf t) i ≤ ρ x0 := fun i hi hi2 => by
    have := f2 (i - (sa + na)) (by (first | exact AR.m70 hi hi2 | omega))
    simp only [Bey, if_true, show sa + na + (i - (sa + na)) = i by (first | exact AR.m5 hi | omega)] at this
    exact AR.i1 this
  have top : ∀ i, sa ≤ i → i < sa + na → rk ρ (arrOf t) i ≤ ρ x0 := fun i hi hi2 => by
    rw [← rx]; exact u1 i _ hi (by rw [Nat.add_assoc, Nat.add_sub_cancel' g1]; exact Nat.le_sub_one_of_lt hi2) (by rw [Nat.add_assoc, Nat.add_sub_cancel' g1]; exact Nat.sub_lt (Nat.zero_lt_of_lt hi2) Nat.one_pos)
  have bot : ∀ i, sa + na ≤ i → i < sa + na + nb → ρ y0 ≤ rk ρ (arrOf t) i := fun i hi hi2 => by
    rw [← ry]; exact u2 _ i (Nat.le_refl _) hi hi2
  by_cases c2 : m2 = 0
  · rw [if_pos (by simpa using c2)]
    refine wpS_pure (q _ K1 (fun i j hi hij hj => ?_) fun _ _ => rfl)
    by_cases ci : i < sa + na
    · by_cases cj : j < sa + na
      · exact u1 i j hi hij cj
      · exact Int.le_trans (top i hi ci) (high j (by (first | exact AR.m32 (AR.m74 (AR.n6 cj) (AR.n22a c2 (of_decide_eq_true (id (Eq.refl true))))) | omega)) hj)
    · exact u2 i j (by exact AR.n6 ci) hij hj
  rw [if_neg (by simpa using c2)]
  let x := (arrOf t).extract (sa + m) (sa + na)
  let y := (arrOf t).extract (sa + na) (sa + na + m2)
  have hx : x.size = na - m := by show Array.size (Array.extract _ _ _) = _; rw [Array.size_extract, Nat.min_eq_left (AR.n16 hsz'), Nat.add_sub_add_left]
  have hy : y.size = m2 := by show Array.size (Array.extract _ _ _) = _; rw [Array.size_extract, Nat.min_eq_left (AR.n15 f1 hsz'), Nat.add_sub_cancel_left]
  have W : Two z ρ x y := {
    za := fun p hp => hz p (by rw [ext_list] at hp; exact List.mem_of_mem_drop (List.mem_of_mem_take hp))
    zb := fun p hp => hz p (by rw [ext_list] at hp; exact List.mem_of_mem_drop (List.mem_of_mem_take hp))
    sa := srt_ext (by exact AR.n16 hsz') fun i j hi hij hj => u1 i j (by exact AR.n16 hi) hij hj
    sb := srt_ext (by exact AR.n15 f1 hsz') fun i j hi hij hj => u2 i j (by exact hi) hij (by (first | exact AR.n2 hj (AR.n21b f1) | omega))
    last := fun v hv => by
      obtain ⟨j, j1, j2, j3⟩ := mem_ext (ρ := ρ) (by exact AR.n15 f1 hsz') hv
      rw [hx, rk_ext (by (clear hna hnb hsz hsz' ry rx f1 hx j1 j2 j3; omega)) (by exact AR.n16 hsz'), show sa + m + (na - m - 1) = sa + m + (na - m) - 1 from (Nat.add_sub_assoc (Nat.pos_of_ne_zero c) (sa + m)).symm, rx, ← j3]
      exact high2 j j1 j2 }
  have first : ∀ v ∈ x.toList, rk ρ y 0 ≤ ρ v := fun v hv => by
    obtain ⟨j, j1, j2, j3⟩ := mem_ext (ρ := ρ) (by exact AR.n16 hsz') hv
    rw [rk_ext (by (first | exact AR.n21c (AR.n12 c2) | omega)) (by exact AR.n15 f1 hsz'), Nat.add_zero, ry, ← j3]
    exact low2 j j1 j2
  have fin : ∀ (out : Array Keyed) (t' : SortSt), Eqv (setPending t (((pendingOf t).setIfInBounds i (sa, na + nb, pw)).eraseIdxIfInBounds (i + 1))) t' → Res ρ (x.toList ++ y.toList) out.toList →
      Kept k z ((pd.setIfInBounds i (sa, na + nb, pw)).eraseIdxIfInBounds (i + 1)) (setArr t' (wr (sa + m) out.toList 0 (arrOf t'))) ∧ Up ρ (wr (sa + m) out.toList 0 (arrOf t')) sa (sa + na + nb) ∧ (∀ j, j < sa ∨ sa + na + nb ≤ j → rk ρ (wr (sa + m) out.toList 0 (arrOf t')) j = rk ρ (arrOf t) j) := fun out t' et hr => by
    have ea : arrOf t' = arrOf t := et.2.1
    rw [ea]
    have hl : out.toList.length = na - m + m2 := by rw [hr.1.length_eq, List.length_append, Array.length_toList, Array.length_toList, hx, hy]
    have pm : (wr (sa + m) out.toList 0 (arrOf t)).Perm (arrOf t) := wr_perm (e := sa + na + m2) (by (first | exact AR.n15 g1 AR.m1 | omega)) (by exact AR.n15 f1 hsz') (hr.1.trans (by
      rw [ext_list, ext_list, ext_list, show sa + na + m2 - (sa + m) = (na - m) + m2 by (clear hna hnb hsz hsz' ry c rx f1 c2 hx; omega), List.take_add, List.drop_drop, show sa + na - (sa + m) = na - m by (clear hna hnb hsz hsz' ry c rx f1 c2 hx; omega), show sa + m + (na - m) = sa + na by (clear hna hnb hsz hsz' ry c rx f1 c2 hx; omega), show sa + na + m2 - (sa + na) = m2 by (clear hna hnb hsz hsz' ry g1 c rx f1 c2 hx hl; omega)]))
    have at1 : ∀ j, j < sa + m ∨ sa + na + m2 ≤ j → rk ρ (wr (sa + m) out.toList 0 (arrOf t)) j = rk ρ (arrOf t) j := fun j hj => by
      refine rk_eq ?_
      rw [wr_at _ _ _ _ _ (by (clear hna hnb hsz ry c rx c2 hx; omega)), if_neg (by (clear hna hnb hsz hsz' ry c rx f1 c2 hx; omega))]
    have at2 : ∀ j, sa + m ≤ j → j < sa + na + m2 → rk ρ (wr (sa + m) out.toList 0 (arrOf t)) j = rk ρ out (j - (sa + m)) := fun j hj hj2 => by
      refine rk_eq ?_
      rw [wr_at _ _ _ _ _ (by (clear hna hnb hsz ry c rx c2 hx hj hj2; omega)), if_pos (by (clear hna hnb hsz hsz' ry c rx f1 c2 hx; omega)), Nat.add_zero, Array.getElem?_toList]
    have mid : ∀ j, sa + m ≤ j → j < sa + na + m2 → ρ y0 ≤ rk ρ out (j - (sa + m)) ∧ rk ρ out (j - (sa + m)) ≤ ρ x0 := fun j hj hj2 => by
      obtain ⟨v, _, hv, rv⟩ := nth (ρ := ρ) (xs := out) (i := j - (sa + m)) (by rw [← Array.length_toList]; (clear hna hnb hsz hsz' ry c rx f1 c2 hx; omega))
      rw [rv]
      rcases List.mem_append.mp (hr.1.mem_iff.mp hv) with hv | hv
      · obtain ⟨l, l1, l2, l3⟩ := mem_ext (ρ := ρ) (by exact AR.n16 hsz') hv
        rw [← l3]; exact ⟨low2 l l1 l2, top l (by exact AR.n16 l1) l2⟩
      · obtain ⟨l, l1, l2, l3⟩ := mem_ext (ρ := ρ) (by exact AR.n15 f1 hsz') hv
        rw [← l3]; exact ⟨bot l l1 (by (first | exact AR.n2 l2 (AR.n21b f1) | omega)), high2 l l1 l2⟩
    have so := srt_up.mp hr.2
    refine (xPP ⟨et.1.trans hK.kd, pm.trans hK.pm, et.2.2.2.trans hK.nf, et.2.2.1.trans K1.np⟩ (fun i j hi hij hj => ?_) (fun j hj => at1 j (by (clear hna hnb hsz hsz' ry g1 c rx c2 hx hl; omega))))
    by_cases c1 : i < sa + m
    · rw [at1 i (.inl c1)]
      by_cases c2 : j < sa + m
      · rw [at1 j (.inl c2)]; exact u1 i j hi hij (by (first | exact AR.n2 c2 (AR.n21b g1) | omega))
      · by_cases c3 : j < sa + na + m2
        · rw [at2 j (by exact AR.n6 c2) c3]; exact Int.le_trans (low i hi c1) (mid j (by exact AR.n6 c2) c3).1
        · rw [at1 j (by (first | exact AR.m52 (AR.n6 c3) | omega))]; exact Int.le_trans (low i hi c1) (bot j (by (first | exact AR.g290 hy c3 | omega)) hj)
    · by_cases c2 : i < sa + na + m2
      · rw [at2 i (by exact AR.n6 c1) c2]
        by_cases c3 : j < sa + na + m2
        · rw [at2 j (by exact AR.n26c c1 hij) c3]; exact so _ _ (Nat.zero_le _) (by (first | exact AR.m55 hij | omega)) (by rw [← Array.length_toList]; (clear hna hnb hsz hsz' ry c rx f1 hx hi hj c2; omega))
        · rw [at1 j (by (first | exact AR.m52 (AR.n6 c3) | omega))]; exact Int.le_trans (mid i (by exact AR.n6 c1) c2).2 (high j (by exact AR.n6 c3) hj)
      · rw [at1 i (by (first | exact AR.m52 (AR.n6 c2) | omega)), at1 j (by (first | exact AR.m52 (AR.n26c c2 hij) | omega))]; exact u2 i j (by (first | exact AR.g290 hy c2 | omega)) hij hj
  have go : ∀ {f : StateT SortSt Sem (Array Keyed)}, (∀ {Q : Array Keyed → SortSt → Prop}, (∀ out t', Eqv (setPending t (((pendingOf t).setIfInBounds i (sa, na + nb, pw)).eraseIdxIfInBounds (i + 1))) t' → Res ρ (x.toList ++ y.toList) out.toList → Q out t') → wpS (model prog w) A E s f Q (setPending t (((pendingOf t).setIfInBounds i (sa, na + nb, pw)).eraseIdxIfInBounds (i + 1)))) →
      wpS (model prog w) A E s (f >>= fun merged => modify (fun s => setArr s (wr (sa + m) merged.toList 0 (arrOf s))) >>= fun _ => get >>= fun s => pure (failedOf s).isNone) Q (setPending t (((pendingOf t).setIfInBounds i (sa, na + nb, pw)).eraseIdxIfInBounds (i + 1))) := fun hf => by
    refine wpS_bind (hf fun out t' et hr => wpS_bind (wpS_modify (wpS_bind (wpS_get (wpS_pure ?_)))))
    refine yPP (fin out t' et hr) fun f1 f2 f3 => ?_
    have := q _ f1 f2 f3
    rwa [show (failedOf (setArr t' (wr (sa + m) out.toList 0 (arrOf t')))).isNone = true by rw [f1.nf]; rfl]
  by_cases c3 : na - m ≤ m2
  · rw [if_pos c3]
    exact go fun h => merged_lo T W K1.kd (by (first | exact AR.n22g hx (AR.n12 c) | omega)) (by (first | exact AR.n22g hy (AR.n12 c2) | omega)) first h
  · rw [if_neg c3]
    exact go fun h => merged_hi T W K1.kd (by (clear hna hnb hsz hsz' ry g1 c rx f1 c2; omega)) (by (first | exact AR.n22g hy (AR.n12 c2) | omega)) first h
end
end SQ

namespace SQ
open PySem PyProof PyProof.Rows
theorem set_mid {α : Type} (r v r' : α) (l2 : List α) : ∀ l1 : List α, ((l1 ++ r :: r' :: l2).set l1.length v).eraseIdx (l1.length + 1) = l1 ++ v :: l2
  | [] => rfl
  | x :: l1 => congrArg (x :: ·) (set_mid r v r' l2 l1)
section
variable {prog : Program} {w : World} {A : Around} {E : Value → Shared → Prop} {s : Shared} {k : SortKind} {z : Array Keyed} {ρ : Keyed → Int} {t : SortSt}
theorem merged_any (T : Tells (model prog w) A E s k z ρ) {pd : Array (Nat × Nat × Nat)} (hK : Kept k z pd t) {i n : Nat} (hC : Cov ρ (arrOf t) (strip pd.toList) 0 n) (hn : n ≤ z.size) (hi : i + 1 < pd.size) {Q : Bool → SortSt → Prop}
    (q : ∀ t' pd', Kept k z pd' t' → pd'.size + 1 = pd.size → Cov ρ (arrOf t') (strip pd'.toList) 0 n → (∀ j, n ≤ j → rk ρ (arrOf t') j = rk ρ (arrOf t) j) → Q true t') : wpS (model prog w) A E s (mergeAt' i) Q t := by
  have hl : pd.toList.length = pd.size := Array.length_toList
  have e : pd.toList = pd.toList.take i ++ pd[i] :: pd[i + 1] :: pd.toList.drop (i + 2) := by
    conv => lhs; rw [← List.take_append_drop i pd.toList, List.drop_eq_getElem_cons (by (first | exact AR.n22g hl (AR.n16' hi) | omega)), List.drop_eq_getElem_cons (by exact AR.n22g hl hi)]
    rw [Array.getElem_toList, Array.getElem_toList]
  have hi1 : pd[i]? = some pd[i] := getElem?_pos _ _ _
  have hi2 : pd[i + 1]? = some pd[i + 1] := getElem?_pos _ _ _
  rcases r1 : pd[i] with ⟨sa, na, pw⟩
  rcases r2 : pd[i + 1] with ⟨sb, nb, pw'⟩
  rw [r1] at hi1
  rw [r2] at hi2
  rw [r1, r2] at e
  have hti : (pd.toList.take i).length = i := by rw [List.length_take]; (clear hn; omega)
  generalize pd.toList.take i = l1 at e hti
  generalize pd.toList.drop (i + 2) = l2 at e
  rw [e] at hC
  have hC' : Cov ρ (arrOf t) (strip l1 ++ (sa, na) :: (sb, nb) :: strip l2) 0 n := by simpa only [strip, List.map_append, List.map_cons] using hC
  refine yWP (Cov.app.mp hC') fun c c1 c2 => ?_
  refine yPPPPPP c2 fun ye378_0 hna u1 d1 hnb u2 c3 => ?_; try clear c2; subst ye378_0
  dsimp only at d1 hna hnb u1 u2 c3
  subst d1
  have le3 := c3.le
  have le1 := c1.le
  refine merged_at T hK hi1 hi2 hna hnb (by (first | exact AR.n6 (AR.m42 hn (AR.n16 le3)) | omega)) u1 u2 fun t' K' U' same => q t' _ K' ?_ ?_ fun j hj => same j (.inr (by (first | exact AR.n6 (AR.m42 hj (AR.n16 le3)) | omega)))
  · rw [← Array.length_toList, Array.toList_eraseIdxIfInBounds, List.length_eraseIdx, Array.length_toList, Array.size_setIfInBounds, if_pos (by exact hi)]; (first | exact AR.m6 (AR.m36 hi) | omega)
  · rw [Array.toList_eraseIdxIfInBounds, Array.toList_setIfInBounds, e]
    subst hti
    rw [set_mid]
    have : Cov ρ (arrOf t') (strip l1 ++ (sa, na + nb) :: strip l2) 0 n := Cov.app.mpr (xWPPPP sa (c1.same fun j _ hj => same j (.inl hj)) rfl (by show 0 < na + nb; exact AR.n18s hna) (by rw [← Nat.add_assoc]; exact U') (by rw [← Nat.add_assoc]; exact c3.same fun j hj _ => same j (.inr hj)))
    simpa only [strip, List.map_append, List.map_cons] using this
structure Held (k : SortKind) (z : Array Keyed) (ρ : Keyed → Int) (pd : Array (Nat × Nat × Nat)) (lo n : Nat) (t : SortSt) : Prop where
  kept : Kept k z pd t
  cov : Cov ρ (arrOf t) (strip pd.toList) 0 lo
  up : Up ρ (arrOf t) lo (lo + n)
theorem Kept.pushed {pd : Array (Nat × Nat × Nat)} (h : Kept k z pd t) (x : Nat × Nat × Nat) : Kept k z (pd.push x) (setPending t ((pendingOf t).push x)) := ⟨h.kd, h.pm, h.nf, by rw [← h.np]⟩
theorem Kept.marked {pd : Array (Nat × Nat × Nat)} (h : Kept k z pd t) (pw : Nat) : Kept k z (pd.modify (pd.size - 1) fun (st, len, _) => (st, len, pw)) (setPending t ((pendingOf t).modify ((pendingOf t).size - 1) fun (st, len, _) => (st, len, pw))) := ⟨h.kd, h.pm, h.nf, by rw [← h.np]⟩
theorem Cov.pushed {xs : Array Keyed} {pd : Array (Nat × Nat × Nat)} {lo n p : Nat} (h : Cov ρ xs (strip pd.toList) 0 lo) (hn : 0 < n) (u : Up ρ xs lo (lo + n)) : Cov ρ xs (strip (pd.push (lo, n, p)).toList) 0 (lo + n) := by
  rw [Array.toList_push]
  unfold strip
  rw [List.map_append]
  exact Cov.app.mpr (xWPPPP lo h rfl hn u rfl)
theorem Cov.marked {xs : Array Keyed} {pd : Array (Nat × Nat × Nat)} {lo i : Nat} (h : Cov ρ xs (strip pd.toList) 0 lo) (pw : Nat) : Cov ρ xs (strip (pd.modify i fun (st, len, _) => (st, len, pw)).toList) 0 lo := by
  have : strip (pd.modify i fun (st, len, _) => (st, len, pw)).toList = strip pd.toList := by
    refine List.ext_getElem? fun j => ?_
    unfold strip
    rw [List.getElem?_map, List.getElem?_map, Array.getElem?_toList, Array.getElem?_toList, Array.getElem?_modify]
    split
    · cases pd[j]? <;> rfl
    · rfl
  rw [this]; exact h
theorem ordered (T : Tells (model prog w) A E s k z ρ) (hK : Kept k z #[] t) {Q : Unit → SortSt → Prop} (q : ∀ t', (arrOf t').Perm z → failedOf t' = none → Up ρ (arrOf t') 0 z.size → Q () t') :
    wpS (model prog w) A E s sortRuns' Q t := by
  rw [sortRuns'_eq]
  refine wpS_bind (wpS_get ?_)
  dsimp only
  simp only [hK.len]
  generalize minRun' z.size z.size 0 = least
  refine wpS_bind (wpS_mono (wpS_forRange (Q := fun c t' => ∃ pd, c = (none, z.size) ∧ Kept k z pd t' ∧ Cov ρ (arrOf t') (strip pd.toList) 0 z.size)
    (fun x c t' => ∃ lo pd, c = (none, lo) ∧ Kept k z pd t' ∧ Cov ρ (arrOf t') (strip pd.toList) 0 lo ∧ x ≤ lo ∧ lo ≤ z.size) ?_ ?_ (xWWPPPP 0 _ rfl hK rfl (Nat.le_refl _) (Nat.zero_le _))) ?_)
  · intro x c t' _ hx hq49; refine yWWPPPP hq49 fun lo pd ye379_2 K1 C1 h1 h2 => ?_; try clear hq49; subst ye379_2
    dsimp only
    by_cases c : lo ≥ z.size
    · rw [if_pos c]
      have : lo = z.size := by exact AR.n24' h2 c
      subst this
      exact wpS_pure (xWPP _ rfl K1 C1)
    rw [if_neg c]
    refine wpS_bind (run T (show lo + (z.size - lo) ≤ z.size by (first | exact AR.n22 (AR.m5 (AR.n7' c)) | omega)) (by (first | exact AR.m7 (AR.m15 (AR.n7 c)) | omega)) K1 fun m t2 g1 g2 K2 L2 U2 => ?_)
    have C2 : Cov ρ (arrOf t2) (strip pd.toList) 0 lo := C1.same fun i _ hi => L2 i hi
    dsimp only
    by_cases c2 : m < least
    · rw [if_pos c2]
      refine wpS_bind (wpS_lift (wpAny_rule ⟨rfl, wpS_bind (inserted T (n := min (z.size - lo) least) (by (first | exact AR.m11 AR.m26 (AR.n7' c) | omega)) (by (first | exact AR.m30 g2 (AR.n1 c2) | omega)) K2 U2 fun t3 K3 L3 U3 => ?_)⟩))
      have C3 : Cov ρ (arrOf t3) (strip pd.toList) 0 lo := C2.same fun i _ hi => L3 i hi
      simp only [Bool.not_true, Bool.false_eq_true, if_false]
      have b1 : 0 < min (z.size - lo) least := by (first | exact AR.m16 (AR.m30 (AR.n4 g1 g2) (AR.n3' g1 c2)) | omega)
      have b2 : min (z.size - lo) least ≤ z.size - lo := by (first | exact AR.m26 | omega)
      generalize min (z.size - lo) least = n at U3 b1 b2
      · skip
        refine wpS_bind (wpS_get ?_)
        cases e : (pendingOf t3).back? with
        | none => exact wpS_bind (wpS_modify (wpS_pure (xWWPPPP (lo + n) _ rfl (K3.pushed _) (C3.pushed (by exact b1) U3) (by (first | exact AR.n21 h1 (AR.m15 b1) | omega)) (by (first | exact AR.m11 b2 (AR.n7' c) | omega)))))
        | some r =>
          obtain ⟨s1, n1, p1⟩ := r
          dsimp only
          refine wpS_bind (wpS_mono (wpS_forRange (Q := fun c t' => ∃ pd', c = (none, ()) ∧ Held k z ρ pd' lo n t') (fun _ c t' => ∃ pd', c = (none, ()) ∧ Held k z ρ pd' lo n t') ?_ (fun _ _ h => h) (xWP _ rfl ⟨ K3, C3, U3⟩)) ?_)
          · intro y c t' _ _ hq50; refine yWP hq50 fun pd' ye380_1 hH => ?_; try clear hq50; subst ye380_1
            refine wpS_bind (wpS_get ?_)
            obtain rfl := hH.kept.np
            by_cases c : (pendingOf t').size > 1
            · rw [if_pos c, getElem?_pos (pendingOf t') ((pendingOf t').size - 2) (by (first | exact AR.m90 c | omega))]
              dsimp only
              split
              · exact wpS_pure (xWP _ rfl hH)
              · refine wpS_bind (merged_any T hH.kept hH.cov h2 (by (first | exact AR.m91 c | omega)) fun t' pd' K' _ C' sm => ?_)
                simp only [Bool.not_true, Bool.false_eq_true, if_false]
                refine wpS_pure (xWP _ rfl ⟨ K', C', fun i j hi hij hj => ?_⟩)
                rw [sm i hi, sm j (by exact AR.n4 hi hij)]
                exact hH.up i j hi hij hj
            · rw [if_neg c]
              exact wpS_pure (xWP _ rfl hH)
          · intro c t' hq51; refine yWP hq51 fun pd' ye381_1 yr381 => ?_; try clear hq51; subst ye381_1; obtain ⟨K', C', U'⟩ := yr381
            exact wpS_bind (wpS_modify (wpS_bind (wpS_modify (wpS_pure (xWWPPPP (lo + n) _ rfl ((K'.marked _).pushed _) ((C'.marked _).pushed (by exact b1) U') (by (first | exact AR.n21 h1 (AR.m15 b1) | omega)) (by (first | exact AR.m11 b2 (AR.n7' c) | omega)))))))
    · rw [if_neg c2]
      · skip
        refine wpS_bind (wpS_get ?_)
        cases e : (pendingOf t2).back? with
        | none => exact wpS_bind (wpS_modify (wpS_pure (xWWPPPP (lo + m) _ rfl (K2.pushed _) (C2.pushed (by (first | exact AR.m16 g1 | omega)) U2) (by exact AR.n21 h1 g1) (by (first | exact AR.m11 g2 (AR.n7' c) | omega)))))
        | some r =>
          obtain ⟨s1, n1, p1⟩ := r
          dsimp only
          refine wpS_bind (wpS_mono (wpS_forRange (Q := fun c t' => ∃ pd', c = (none, ()) ∧ Held k z ρ pd' lo m t') (fun _ c t' => ∃ pd', c = (none, ()) ∧ Held k z ρ pd' lo m t') ?_ (fun _ _ h => h) (xWP _ rfl ⟨ K2, C2, U2⟩)) ?_)
          · intro y c t' _ _ hq52; refine yWP hq52 fun pd' ye382_1 hH => ?_; try clear hq52; subst ye382_1
            refine wpS_bind (wpS_get ?_)
            obtain rfl := hH.kept.np
            by_cases c : (pendingOf t').size > 1
            · rw [if_pos c, getElem?_pos (pendingOf t') ((pendingOf t').size - 2) (by (first | exact AR.m90 c | omega))]
              dsimp only
              split
              · exact wpS_pure (xWP _ rfl hH)
              · refine wpS_bind (merged_any T hH.kept hH.cov h2 (by (first | exact AR.m91 c | omega)) fun t' pd' K' _ C' sm => ?_)
                simp only [Bool.not_true, Bool.false_eq_true, if_false]
                refine wpS_pure (xWP _ rfl ⟨ K', C', fun i j hi hij hj => ?_⟩)
                rw [sm i hi, sm j (by exact AR.n4 hi hij)]
                exact hH.up i j hi hij hj
            · rw [if_neg c]
              exact wpS_pure (xWP _ rfl hH)
          · intro c t' hq53; refine yWP hq53 fun pd' ye383_1 yr383 => ?_; try clear hq53; subst ye383_1; obtain ⟨K', C', U'⟩ := yr383
            exact wpS_bind (wpS_modify (wpS_bind (wpS_modify (wpS_pure (xWWPPPP (lo + m) _ rfl ((K'.marked _).pushed _) ((C'.marked _).pushed (by (first | exact AR.m16 g1 | omega)) U') (by exact AR.n21 h1 g1) (by (first | exact AR.m11 g2 (AR.n7' c) | omega)))))))
  · intro c t' hq54; refine yWWPPPP hq54 fun lo pd ye384_2 K1 C1 h1 h2 => ?_; try clear hq54; subst ye384_2
    have : lo = z.size := by omega
    subst this
    exact (xWPP _ rfl K1 C1)
  · intro c t' hq55; refine yWPP hq55 fun pd ye385_1 K1 C1 => ?_; try clear hq55; subst ye385_1
    dsimp only
    refine wpS_bind (wpS_mono (wpS_forRange (Q := fun c t' => ∃ pd, c = (none, ()) ∧ Kept k z pd t' ∧ Cov ρ (arrOf t') (strip pd.toList) 0 z.size ∧ pd.size ≤ 1)
      (fun x c t' => ∃ pd, c = (none, ()) ∧ Kept k z pd t' ∧ Cov ρ (arrOf t') (strip pd.toList) 0 z.size ∧ (pd.size ≤ 1 ∨ pd.size + x ≤ z.size)) ?_ ?_ ?_) ?_)
    · intro x c t2 _ hx hq56; refine yWPPP hq56 fun pd2 ye386_1 K2 C2 h2 => ?_; try clear hq56; subst ye386_1
      refine wpS_bind (wpS_get ?_)
      obtain rfl := K2.np
      by_cases c : (pendingOf t2).size ≤ 1
      · rw [if_pos c]; exact wpS_pure (xWPPP _ rfl K2 C2 c)
      rw [if_neg c]
      refine wpS_bind (merged_any T K2 C2 (Nat.le_refl _) ?_ fun t3 pd3 K3 e3 C3 _ => ?_)
      · have : ∀ b : Bool, (if b = true then (pendingOf t2).size - 2 - 1 else (pendingOf t2).size - 2) + 1 < (pendingOf t2).size := fun b => by split <;> (clear hx h2; omega)
        exact this _
      · simp only [Bool.not_true, Bool.false_eq_true, if_false]
        exact wpS_pure (xWPPP _ rfl K3 C3 (by (clear hx c; omega)))
    · intro c t2 hq57; refine yWPPP hq57 fun pd2 ye387_1 K2 C2 h2 => ?_; try clear hq57; subst ye387_1
      exact (xWPPP _ rfl K2 C2 (by omega))
    · have := C1.le
      rw [List.length_map, Array.length_toList] at this
      exact (xWPPP _ rfl K1 C1 (.inr (by first | exact AR.m11 (AR.m8 this) (AR.n17 this) | omega)))
    · intro c t2 hq58; refine yWPPP hq58 fun pd2 ye388_1 K2 C2 h2 => ?_; try clear hq58; subst ye388_1
      refine wpS_pure (q _ K2.pm K2.nf ?_)
      rw [← Array.length_toList] at h2
      match e : pd2.toList, h2 with
      | [], _ => rw [e] at C2; have : 0 = z.size := C2; exact fun i j _ _ hj => by (clear h2; omega)
      | [r], _ =>
        rw [e] at C2
        refine yPPP C2 fun _ _ u e2 => ?_; try clear C2
        have : 0 + r.2.1 = z.size := e2
        rw [← this]; exact u
      | _ :: _ :: _, h => simp at h
end
end SQ

namespace SQ
open PySem PyProof PyProof.Rows
section
variable {prog : Program} {w : World} {A : Around} {E : Value → Shared → Prop} {s : Shared} {vs : List Value} {ns : List Int}
abbrev num (p : Keyed) : Int := numOf p.1
theorem tells_ints (hI : IntsAre vs ns) : Tells (model prog w) A E s oneType' (pairsOf vs) num := by
  rintro ⟨p, p'⟩ ⟨q, q'⟩ t Q hp hq hk h
  refine yWW (hI.intKeys _ hp) fun n u e1 => ?_
  refine yWW (hI.intKeys _ hq) fun m v e2 => ?_
  dsimp only at e1 e2
  subst e1 e2
  rw [lt'_eq]
  refine wpS_bind (wpS_get ?_)
  rw [hk, keyLt'_oneType]
  exact wpS_bind (wpS_lift (wpAny_attempt (oneLt_int ⟨rfl, wpS_pure h⟩)))
theorem up_sorted {xs : Array Keyed} {m : Nat} (h : Up num xs 0 m) : SortedTo xs m := fun i j hij hj => by
  have e : ∀ i, K xs i = rk num xs i := fun i => by unfold K rk; cases xs[i]? <;> rfl
  rw [e, e]; exact h i j (Nat.zero_le _) hij hj
def amid (h : Heap) (a : Addr) (vs : List Value) : Heap :=
  ((h.update a (Obj.mapSeq fun _ => #[])).push (seqObj "tuple" vs.toArray 0)).push (seqObj "list" #[] 0)
theorem sort_list {a : Addr} {n : Nat} {P : Fin → Shared → Prop} (ho : s.heap.get? a = some (seqObj "list" vs.toArray n)) (hz : vs.length ≤ sizeLine) (hI : IntsAre vs ns)
    (h : ∀ (out : Array Value) (ns' : List Int), IntsAre out.toList ns' → ns'.Perm ns → ns'.Pairwise (· ≤ ·) → P (.done (.ret .none)) { s with heap := sortedHeap s.heap a vs out }) :
    wpAny (model prog w) A (Builtin.«list.sort» ⟨[.ref a], []⟩) P E s := by
  obtain ⟨n1, ho1⟩ : ∃ n1, (s.heap.update a (Obj.mapSeq fun _ => #[])).get? a = some (seqObj "list" #[] n1) := ⟨_, get?_update_seq ho (fun _ => #[])⟩
  have ho2 : (amid s.heap a vs).get? a = some (seqObj "list" #[] n1) := Heap.get?_push_of_some _ (Heap.get?_push_of_some _ ho1)
  have room : ∀ xs : Array Keyed, xs.Perm (pairsOf vs) → (xs.map (·.2)).size ≤ sizeLine + 1 := fun xs p => by
    rw [Array.size_map, p.size_eq, pairsOf_size]; exact AR.n18 hz
  rw [list_sort_plain]
  refine wpAny_bind (listItems_at ho rfl ?_)
  refine wpAny_bind (listUpdate_at ho rfl ?_ (by rw [List.size_toArray]; exact hz))
  refine wpAny_bind (seqEpoch_at ho1 rfl ?_)
  refine wpAny_bind (wpAny_newTuple ?_)
  refine wpAny_bind (wpAny_newList ?_)
  refine wpAny_holding ?_
  show wpAny (model prog w) A _ P E { s with heap := amid s.heap a vs }
  dsimp only
  have last : ∀ t : SortSt, (arrOf t).Perm (pairsOf vs) → failedOf t = none → Up num (arrOf t) 0 (pairsOf vs).size →
      wpAny (model prog w) A (do
        let out := (arrOf t).map (·.2)
        let touched := (← seqEpoch a) != n1
        Builtin.List.listUpdate (.ref a) fun _ => out
        if let some e := failedOf t then rule "list.sort.comparison-raised"; throw e
        if touched then rule "list.sort.modified"; raiseError "ValueError" "list modified during sort"
        ret .none) P E { s with heap := amid s.heap a vs } := by
    intro t p f u
    refine wpAny_bind (seqEpoch_at ho2 rfl ?_)
    refine wpAny_bind (listUpdate_at ho2 rfl ?_ (hsz2 := room _ p))
    rw [f]
    simp only [bne_self_eq_false, Bool.false_eq_true, if_false]
    refine yWPP (sorted_out hI p (up_sorted u)) fun ns' h1 h2 h3 => ?_
    exact wpAny_pure (h _ ns' h1 h2 h3)
  by_cases c : vs.length < 2
  · have c' : vs.toArray.size < 2 := by simpa using c
    rw [if_pos c', if_pos c']
    refine wpAny_bind (wpAny_pure ?_)
    rw [StateT.run_pure]
    refine wpAny_bind (wpAny_pure ?_)
    exact last (SortSt.mk' general' (pairsOf vs) #[] 7 none) (Array.Perm.refl _) rfl (Up.one _ (by rw [pairsOf_size]; (first | exact AR.m31 c (of_decide_eq_true (id (Eq.refl true))) | omega)))
  · have c' : ¬ vs.toArray.size < 2 := by simpa using c
    rw [if_neg c', if_neg c']
    have ek : keyKind' vs.toArray = pure oneType' := by
      match vs, hI, c with
      | v₁ :: v₂ :: rest, hI, _ => exact keyKind_ints hI
      | [], _, c => simp at c
      | [_], _, c => simp at c
    rw [ek]
    refine wpAny_bind (wpAny_pure ?_)
    refine wpAny_bind (wpAny_mono (ordered (Q := fun _ t => (arrOf t).Perm (pairsOf vs) ∧ failedOf t = none ∧ Up num (arrOf t) 0 (pairsOf vs).size) (tells_ints hI)
      (t := SortSt.mk' oneType' (pairsOf vs) #[] 7 none) ⟨rfl, Array.Perm.refl _, rfl, rfl⟩
      fun t' a1 a2 a3 => (xPP a1 a2 a3)) ?_ fun _ _ e => e)
    rintro ⟨⟨⟩, t⟩ s' ⟨rfl, p, f, u⟩
    exact last t p f u
theorem sorted_any {l : Addr} {Q : Value → Shared → Prop} (hl : s.heap.IsList l vs.toArray) (hz : vs.length ≤ sizeLine) (hI : IntsAre vs ns)
    (h : ∀ (out : Array Value) (ns' : List Int), IntsAre out.toList ns' → ns'.Perm ns → ns'.Pairwise (· ≤ ·) → Q (.ref (s.heap.objs.size + 1)) { s with heap := sortedAll s.heap vs out }) :
    wpAny (model prog w) A (call (.builtin "sorted") [.ref l]) Q E s := by
  refine Calls.call_function_entry kind_sorted plain_sorted entry_sorted (args_sorted1 _) ?_
  unfold Builtin.«sorted»
  refine wpAny_bind (m := checkCount "sorted" 1 1 _) (wpAny_pure ?_)
  refine wpAny_bind (collect_list hl ?_ hz)
  refine wpAny_bind (wpAny_newList ?_)
  have hsz : ((s.heap.push (seqObj "list" #[] 0)).update s.heap.objs.size (Obj.mapSeq (· ++ vs.toArray))).objs.size = s.heap.objs.size + 1 := by
    rw [Heap.size_update, size_push']
  have hoL : (((s.heap.push (seqObj "list" #[] 0)).update s.heap.objs.size (Obj.mapSeq (· ++ vs.toArray))).push (seqObj "list" vs.toArray 0)).get? (s.heap.objs.size + 1) = some (seqObj "list" vs.toArray 0) := by
    rw [← hsz]; exact Heap.get?_push_size _ rfl
  show wpAny _ _ _ _ _ { s with heap := ((s.heap.push (seqObj "list" #[] 0)).update s.heap.objs.size (Obj.mapSeq (· ++ vs.toArray))).push (seqObj "list" vs.toArray 0) }
  rw [hsz]
  refine wpAny_bind (wpAny_holding (wpAny_call_entry slot_list_sort (xWP _ hoL rfl) entry_list_sort (sort_list (s := { s with heap := ((s.heap.push (seqObj "list" #[] 0)).update s.heap.objs.size (Obj.mapSeq (· ++ vs.toArray))).push (seqObj "list" vs.toArray 0) }) hoL hz hI fun out ns' a1 a2 a3 => (xWP _ rfl ?_)) (args_list_sort _)))
  exact wpAny_pure (xWP _ rfl (h out ns' a1 a2 a3))
end
end SQ

namespace L2
open PySem PySem.Spec PyProof.Rows
theorem call_sortedA {X : Cx} : CallR X (.builtin "sorted") (fun xs H Q => ∃ p ns, xs = [.ref p] ∧ SqL X.K H p (ns.map V.int) ∧ ∀ (l : Addr) (ns' : List Int), H l = none → ns'.Perm ns → ns'.Pairwise (· ≤ ·) → Q (.ref l) (upd H l (.lst (ns'.map V.int)))) := by
  intro pins s σ H xs us Q I r h
  refine yWWPP h fun p ns ye393_2 hq q => ?_; try clear h; subst ye393_2
  refine yWP (vals1 r) fun u ye394_1 rx => ?_; subst ye394_1
  cases rx
  refine yWPP (I.list hq) fun its r' pl hz => ?_
  have hlen := r'.length
  rw [List.length_map] at hlen
  rw [List.length_map] at hz
  refine SQ.sorted_any (ns := ns) (vs := its) pl.isList (hlen ▸ hz) (intsAre_of r') fun out ns' a1 a2 a3 => ?_
  obtain ⟨e, he⟩ := sortedAll_at s.heap its out
  have rv := vals_ints a1
  refine (xWWPP (.ref (s.heap.objs.size + 1)) _ (I.laid (t' := s.toks) (fun _ _ => sortedAll_old) (Nat.le_succ _) (show ObjOk X.prog X.w _ _ _ (.lst (ns'.map V.int)) from (xPWWP ?_ out.toList e rv he))) rfl (q _ ns' (I.hok.fresh (Nat.le_succ _)) a2 a3))
  rw [List.length_map, a2.length_eq]
  exact hz
end L2

namespace AW
abbrev Ts := List (Int × Int)
abbrev Os := List (List Int)
def plc (ts : Ts) (e : Nat) : Int := ((ts[e / 2]?).map fun t => if e % 2 = 0 then t.1 else t.2).getD (-1)
def InW (m : Int) (ts : Ts) : Prop := ∀ t ∈ ts, (0 ≤ t.1 ∧ t.1 < m) ∧ 0 ≤ t.2 ∧ t.2 < m
def all2 (ts : Ts) : List Int := (List.range (2 * ts.length)).map fun n : Nat => (n : Int)
def endsAt (ts : Ts) (p : Int) : List Int := (all2 ts).filter fun e => plc ts e.toNat == p
inductive Rch (ts : Ts) : Int → Prop
  | zero : Rch ts 0
  | fwd {t : Int × Int} : t ∈ ts → Rch ts t.1 → Rch ts t.2
  | bwd {t : Int × Int} : t ∈ ts → Rch ts t.2 → Rch ts t.1
def Whole (m : Int) (ts : Ts) : Prop := ∀ p : Int, 0 ≤ p → p < m → Rch ts p
def Fit (ts : Ts) (os : Os) : Prop := ∀ (i : Nat) (o : List Int), os[i]? = some o → o.length ≤ 4 ∧ o.Perm (endsAt ts i)
def Fit2 (ts : Ts) (os : Os) : Prop := os.flatten.Perm (all2 ts) ∧ ∀ (i : Nat) (o : List Int), os[i]? = some o → o.length ≤ 4 ∧ ∀ e ∈ o, plc ts e.toNat = i
def Sized (m : Int) (ts : Ts) : Prop := (1 ≤ m ∧ m ≤ 200) ∧ 1 ≤ ts.length ∧ ts.length ≤ 400
def IsMap (m : Int) (ts : Ts) (os : Os) : Prop := Sized m ts ∧ InW m ts ∧ (os.length : Int) = m ∧ Fit ts os ∧ Whole m ts

theorem mem_all2 {ts : Ts} {e : Int} : e ∈ all2 ts ↔ 0 ≤ e ∧ e < 2 * ts.length := by
  unfold all2
  rw [List.mem_map]
  constructor
  · intro hq59; refine yWP hq59 fun n hn yr396 => ?_; try clear hq59; subst yr396
    have := List.mem_range.mp hn
    omega
  · intro hq60; obtain ⟨h0, h1⟩ := hq60
    exact (xWP e.toNat (List.mem_range.mpr (by first | exact AR.g320 h0 h1 | omega)) (by (first | exact AR.j19 h0 | omega)))
theorem nodup_map {α β : Type} {f : α → β} (hf : ∀ a b, f a = f b → a = b) : ∀ {l : List α}, l.Nodup → (l.map f).Nodup
  | [], _ => List.nodup_nil
  | a :: l, h => by
    obtain ⟨h1, h2⟩ := List.nodup_cons.mp h
    rw [List.map_cons, List.nodup_cons]
    refine ⟨fun q => ?_, nodup_map hf h2⟩
    refine yWP (List.mem_map.mp q) fun b hb e => ?_
    exact h1 (hf _ _ e ▸ hb)
theorem nodup_all2 (ts : Ts) : (all2 ts).Nodup := nodup_map (fun a b h => by first | exact AR.j26 h | omega) List.nodup_range
theorem mem_endsAt {ts : Ts} {p e : Int} : e ∈ endsAt ts p ↔ (0 ≤ e ∧ e < 2 * ts.length) ∧ plc ts e.toNat = p := by
  unfold endsAt
  rw [List.mem_filter, mem_all2, beq_iff_eq]
theorem nodup_endsAt (ts : Ts) (p : Int) : (endsAt ts p).Nodup := (nodup_all2 ts).filter _
theorem perm_iff {l l' : List Int} (h : l.Nodup) (h' : l'.Nodup) (e : ∀ a, a ∈ l ↔ a ∈ l') : l.Perm l' := (List.perm_ext_iff_of_nodup h h').mpr e

theorem plc_in {m : Int} {ts : Ts} (h : InW m ts) {e : Int} (h0 : 0 ≤ e) (h1 : e < 2 * ts.length) : 0 ≤ plc ts e.toNat ∧ plc ts e.toNat < m := by
  have hk : e.toNat / 2 < ts.length := by omega
  have e1 : ts[e.toNat / 2]? = some ts[e.toNat / 2] := List.getElem?_eq_getElem hk
  have := h _ (List.getElem_mem hk)
  unfold plc
  rw [e1]
  simp only [Option.map_some, Option.getD_some]
  split <;> (clear h0 h1; omega)

theorem fit_iff {m : Int} {ts : Ts} {os : Os} (hw : InW m ts) (hl : (os.length : Int) = m) : Fit ts os ↔ Fit2 ts os := by
  constructor
  · intro h
    have mem : ∀ (i : Nat) (o : List Int) (e : Int), os[i]? = some o → (e ∈ o ↔ (0 ≤ e ∧ e < 2 * ts.length) ∧ plc ts e.toNat = i) := fun i o e hi => ((h i o hi).2.mem_iff).trans mem_endsAt
    refine ⟨perm_iff (List.pairwise_flatten.mpr ⟨fun o ho => ?_, ?_⟩) (nodup_all2 ts) fun e => ?_, fun i o hi => ⟨(h i o hi).1, fun e he => ((mem i o e hi).mp he).2⟩⟩
    · obtain ⟨i, hi, rfl⟩ := List.mem_iff_getElem.mp ho
      exact (h i _ (List.getElem?_eq_getElem hi)).2.nodup_iff.mpr (nodup_endsAt ts i)
    · rw [List.pairwise_iff_getElem]
      intro i j hi hj hij e h1 e' h2 q
      subst q
      have e1 := ((mem i _ e (List.getElem?_eq_getElem hi)).mp h1).2
      have e2 := ((mem j _ e (List.getElem?_eq_getElem hj)).mp h2).2
      (first | exact AR.n25b hij (AR.j27 e2 e1) | omega)
    · rw [List.mem_flatten, mem_all2]
      constructor
      · intro hq61; refine yWP hq61 fun o ho he => ?_; try clear hq61
        obtain ⟨i, hi, rfl⟩ := List.mem_iff_getElem.mp ho
        exact ((mem i _ e (List.getElem?_eq_getElem hi)).mp he).1
      · intro hq62; obtain ⟨h0, h1⟩ := hq62
        obtain ⟨p0, p1⟩ := plc_in hw h0 h1
        have hi : (plc ts e.toNat).toNat < os.length := by (first | exact AR.j21 p0 (AR.i2 p1 (AR.j9 hl)) | omega)
        exact (xWP _ (List.getElem_mem hi) ((mem _ _ e (List.getElem?_eq_getElem hi)).mpr ⟨⟨h0, h1⟩, by (first | exact AR.j20 p0 | omega)⟩))
  · rintro ⟨hp, h⟩ i o hi
    refine ⟨(h i o hi).1, ?_⟩
    have nf : os.flatten.Nodup := hp.nodup_iff.mpr (nodup_all2 ts)
    have no : o.Nodup := (List.pairwise_flatten.mp nf).1 o (List.mem_of_getElem? hi)
    refine perm_iff no (nodup_endsAt ts i) fun e => ?_
    rw [mem_endsAt, ← mem_all2, ← hp.mem_iff]
    constructor
    · exact fun he => ⟨List.mem_flatten.mpr (xWP o (List.mem_of_getElem? hi) he), (h i o hi).2 e he⟩
    · intro hq63; obtain ⟨hf, hpl⟩ := hq63
      refine yWP (List.mem_flatten.mp hf) fun o' ho' he => ?_
      obtain ⟨j, hj, rfl⟩ := List.mem_iff_getElem.mp ho'
      have e1 := (h j _ (List.getElem?_eq_getElem hj)).2 e he
      have : j = i := by (first | exact AR.j27 hpl e1 | omega)
      subst this
      rw [List.getElem?_eq_getElem hj] at hi
      cases hi
      exact he

theorem sorted_eq {l l' : List Int} (p : l.Perm l') (h : l.Pairwise (· ≤ ·)) (h' : l'.Pairwise (· ≤ ·)) : l = l' :=
  p.eq_of_pairwise (fun a b _ _ h1 h2 => Int.le_antisymm h1 h2) h h'
theorem up_all2 (ts : Ts) : (all2 ts).Pairwise (· ≤ ·) := by
  unfold all2
  rw [List.pairwise_map]
  exact List.pairwise_lt_range.imp fun h => by first | exact AR.i1 (AR.j12 h) | omega
theorem up_endsAt (ts : Ts) (p : Int) : (endsAt ts p).Pairwise (· ≤ ·) := (up_all2 ts).filter _

theorem plc_old {ts : Ts} {t : Int × Int} {e : Nat} (h : e < 2 * ts.length) : plc (ts ++ [t]) e = plc ts e := by
  unfold plc
  rw [List.getElem?_append_left (by first | exact AR.m83 h | omega)]
theorem plc_new0 (ts : Ts) (t : Int × Int) : plc (ts ++ [t]) (2 * ts.length) = t.1 := by
  unfold plc
  rw [show 2 * ts.length / 2 = ts.length by first | exact AR.m85 | omega, List.getElem?_concat_length]
  show (if 2 * ts.length % 2 = 0 then t.1 else t.2) = t.1
  rw [if_pos (by first | exact AR.m86 | omega)]
theorem plc_new1 (ts : Ts) (t : Int × Int) : plc (ts ++ [t]) (2 * ts.length + 1) = t.2 := by
  unfold plc
  rw [show (2 * ts.length + 1) / 2 = ts.length by first | exact AR.m87 | omega, List.getElem?_concat_length]
  show (if (2 * ts.length + 1) % 2 = 0 then t.1 else t.2) = t.2
  rw [if_neg (by first | exact AR.m84 | omega)]
theorem all2_snoc (ts : Ts) (t : Int × Int) : all2 (ts ++ [t]) = all2 ts ++ [(2 * ts.length : Int), 2 * ts.length + 1] := by
  unfold all2
  rw [List.length_append, show 2 * (ts.length + [t].length) = 2 * ts.length + 1 + 1 by simp; omega, List.range_succ, List.range_succ]
  simp
theorem endsAt_snoc (ts : Ts) (t : Int × Int) (p : Int) : endsAt (ts ++ [t]) p = endsAt ts p ++ ((if t.1 = p then [(2 * ts.length : Int)] else []) ++ if t.2 = p then [(2 * ts.length + 1 : Int)] else []) := by
  unfold endsAt
  rw [all2_snoc, List.filter_append]
  congr 1
  · refine List.filter_congr fun e he => ?_
    obtain ⟨h0, h1⟩ := mem_all2.mp he
    rw [plc_old (by first | exact AR.g320 h0 h1 | omega)]
  · have e0 : plc (ts ++ [t]) (2 * (ts.length : Int)).toNat = t.1 := by rw [show (2 * (ts.length : Int)).toNat = 2 * ts.length by omega, plc_new0]
    have e1 : plc (ts ++ [t]) (2 * (ts.length : Int) + 1).toNat = t.2 := by rw [show (2 * (ts.length : Int) + 1).toNat = 2 * ts.length + 1 by (clear e0; omega), plc_new1]
    simp only [List.filter_cons, List.filter_nil, e0, e1, beq_iff_eq]
    by_cases h1 : t.1 = p <;> by_cases h2 : t.2 = p <;> simp [h1, h2]

def nb (t : Int × Int) (p : Int) : List Int := (if t.1 = p then [t.2] else []) ++ if t.2 = p then [t.1] else []
def nbs (ts : Ts) (p : Int) : List Int := ts.flatMap fun t => nb t p
theorem nbs_snoc (ts : Ts) (t : Int × Int) (p : Int) : nbs (ts ++ [t]) p = nbs ts p ++ nb t p := by
  unfold nbs
  rw [List.flatMap_append]
  simp
theorem mem_nbs {ts : Ts} {p q : Int} : q ∈ nbs ts p ↔ ∃ t ∈ ts, (t.1 = p ∧ t.2 = q) ∨ (t.2 = p ∧ t.1 = q) := by
  unfold nbs nb
  rw [List.mem_flatMap]
  constructor
  · intro hq64; refine yWP hq64 fun t ht h => ?_; try clear hq64
    refine (xWP t ht ?_)
    rcases List.mem_append.mp h with h | h
    · split at h
      · exact .inl ⟨by assumption, (List.mem_singleton.mp h).symm⟩
      · cases h
    · split at h
      · exact .inr ⟨by assumption, (List.mem_singleton.mp h).symm⟩
      · cases h
  · rintro ⟨t, ht, ⟨h1, h2⟩ | ⟨h1, h2⟩⟩
    · exact (xWP t ht (List.mem_append_left _ (by rw [if_pos h1, h2]; simp)))
    · exact (xWP t ht (List.mem_append_right _ (by rw [if_pos h1, h2]; simp)))
theorem Rch.step {ts : Ts} {p q : Int} (h : Rch ts p) (hq : q ∈ nbs ts p) : Rch ts q := by
  obtain ⟨t, ht, ⟨rfl, rfl⟩ | ⟨rfl, rfl⟩⟩ := mem_nbs.mp hq
  · exact h.fwd ht
  · exact h.bwd ht
theorem nbs_in {m : Int} {ts : Ts} (h : InW m ts) {p q : Int} (hq : q ∈ nbs ts p) : 0 ≤ q ∧ q < m := by
  obtain ⟨t, ht, ⟨rfl, rfl⟩ | ⟨rfl, rfl⟩⟩ := mem_nbs.mp hq
  · exact (h t ht).2
  · exact (h t ht).1
theorem Rch.within {ts : Ts} {S : Int → Prop} (h0 : S 0) (hs : ∀ p, S p → ∀ q ∈ nbs ts p, S q) {p : Int} (h : Rch ts p) : S p := by
  induction h with
  | zero => exact h0
  | fwd ht _ ih => exact hs _ ih _ (mem_nbs.mpr (xWP _ ht (.inl ⟨rfl, rfl⟩)))
  | bwd ht _ ih => exact hs _ ih _ (mem_nbs.mpr (xWP _ ht (.inr ⟨rfl, rfl⟩)))
end AW

namespace AW
structure Srch (m : Nat) (ts : Ts) (R : List Bool) (W : List Int) : Prop where
  len : R.length = m
  zero : R[0]? = some true
  ok : ∀ p : Nat, R[p]? = some true → Rch ts p
  win : ∀ p ∈ W, ∃ n : Nat, p = n ∧ R[n]? = some true
  cl : ∀ p : Nat, R[p]? = some true → (p : Int) ∈ W ∨ ∀ q ∈ nbs ts p, R[q.toNat]? = some true
structure SrchI (m : Nat) (ts : Ts) (R : List Bool) (W : List Int) (p0 k : Nat) : Prop where
  len : R.length = m
  zero : R[0]? = some true
  ok : ∀ p : Nat, R[p]? = some true → Rch ts p
  win : ∀ p ∈ W, ∃ n : Nat, p = n ∧ R[n]? = some true
  own : R[p0]? = some true
  cl : ∀ p : Nat, R[p]? = some true → (p : Int) ∈ W ∨ (p = p0 ∧ ∀ (j : Nat) q, j < k → (nbs ts p0)[j]? = some q → R[q.toNat]? = some true) ∨ ∀ q ∈ nbs ts p, R[q.toNat]? = some true
theorem Srch.start {m : Nat} {ts : Ts} (h : 0 < m) : Srch m ts ((List.range m).map fun p => decide (p = 0)) [0] where
  len := by simp
  zero := by simp [h]
  ok := fun p hp => by
    rw [List.getElem?_map] at hp
    cases e : (List.range m)[p]? with
    | none => rw [e] at hp; cases hp
    | some n =>
      obtain ⟨hn, rfl⟩ := List.getElem?_eq_some_iff.mp e
      rw [e] at hp
      simp at hp
      subst hp
      exact .zero
  win := fun p hp => (xWP 0 (by simpa using hp) (by simp [h]))
  cl := fun p hp => by
    rw [List.getElem?_map] at hp
    cases e : (List.range m)[p]? with
    | none => rw [e] at hp; cases hp
    | some n =>
      obtain ⟨hn, rfl⟩ := List.getElem?_eq_some_iff.mp e
      rw [e] at hp
      simp at hp
      subst hp
      exact .inl (by simp)
theorem Srch.done {m : Nat} {ts : Ts} {R : List Bool} (hin : InW m ts) (h : Srch m ts R []) : R.all id = true ↔ Whole m ts := by
  rw [List.all_eq_true]
  constructor
  · intro ha p h0 h1
    obtain ⟨n, rfl⟩ := Int.eq_ofNat_of_zero_le h0
    have hn : n < R.length := by rw [h.len]; (first | exact AR.j14 h1 | omega)
    refine h.ok n ?_
    rw [List.getElem?_eq_getElem hn]
    have := ha _ (List.getElem_mem hn)
    exact congrArg some this
  · intro hw b hb
    obtain ⟨n, hn, rfl⟩ := List.mem_iff_getElem.mp hb
    have hr : Rch ts (n : Int) := hw n (by first | exact AR.j11 | omega) (by rw [h.len] at hn; first | exact AR.j12 hn | omega)
    have e := (hr.within (S := fun p => 0 ≤ p ∧ R[p.toNat]? = some true) ⟨Int.le_refl _, h.zero⟩ fun p hp q hq => by
      obtain ⟨k, rfl⟩ := Int.eq_ofNat_of_zero_le hp.1
      refine ⟨(nbs_in hin hq).1, ?_⟩
      rcases h.cl k (by simpa using hp.2) with z | z
      · cases z
      · exact z q hq).2
    rw [show (n : Int).toNat = n by first | exact AR.j24 | omega, List.getElem?_eq_getElem hn] at e
    exact Option.some.inj e
theorem SrchI.start {m : Nat} {ts : Ts} {R : List Bool} {W : List Int} {p0 : Nat} (h : Srch m ts R (W ++ [(p0 : Int)])) : SrchI m ts R W p0 0 where
  len := h.len
  zero := h.zero
  ok := h.ok
  win := fun p hp => h.win p (List.mem_append_left _ hp)
  own := by
    obtain ⟨n, e, hn⟩ := h.win (p0 : Int) (by simp)
    have : n = p0 := by first | exact AR.m46 (AR.j26 e) | omega
    exact this ▸ hn
  cl := fun p hp => by
    rcases h.cl p hp with z | z
    · rcases List.mem_append.mp z with z | z
      · exact .inl z
      · have : p = p0 := by have := List.mem_singleton.mp z; first | exact AR.j26 this | omega
        exact .inr (.inl ⟨this, fun j q hj => absurd hj (Nat.not_lt_zero _)⟩)
    · exact .inr (.inr z)
theorem SrchI.skip {m : Nat} {ts : Ts} {R : List Bool} {W : List Int} {p0 k : Nat} {q : Int} (h : SrchI m ts R W p0 k) (hq : (nbs ts p0)[k]? = some q) (hr : R[q.toNat]? = some true) : SrchI m ts R W p0 (k + 1) where
  len := h.len
  zero := h.zero
  ok := h.ok
  win := h.win
  own := h.own
  cl := fun p hp => by
    rcases h.cl p hp with z | ⟨z1, z2⟩ | z
    · exact .inl z
    · refine .inr (.inl ⟨z1, fun j q' hj hq' => ?_⟩)
      by_cases hjk : j < k
      · exact z2 j q' hjk hq'
      · have : j = k := by exact AR.n24b hj hjk
        subst this
        rw [hq] at hq'
        cases hq'
        exact hr
    · exact .inr (.inr z)
theorem set_true {R : List Bool} {i j : Nat} (hi : i < R.length) : (R.set i true)[j]? = some true ↔ j = i ∨ R[j]? = some true := by
  by_cases e : i = j
  · subst e
    rw [List.getElem?_set_self hi]
    simp
  · rw [List.getElem?_set_ne e]
    constructor
    · exact .inr
    · rintro (z | z)
      · exact absurd z.symm e
      · exact z
theorem SrchI.reach {m : Nat} {ts : Ts} {R : List Bool} {W : List Int} {p0 k q : Nat} (h : SrchI m ts R W p0 k) (hq : (nbs ts p0)[k]? = some (q : Int)) (hm : q < m) : SrchI m ts (R.set q true) (W ++ [(q : Int)]) p0 (k + 1) := by
  have hl : q < R.length := by rw [h.len]; exact hm
  have up : ∀ j : Nat, R[j]? = some true → (R.set q true)[j]? = some true := fun j hj => (set_true hl).mpr (.inr hj)
  have hrq : Rch ts q := (h.ok p0 h.own).step (List.mem_of_getElem? hq)
  refine ⟨by rw [List.length_set]; exact h.len, up 0 h.zero, fun p hp => ?_, fun p hp => ?_, up _ h.own, fun p hp => ?_⟩
  · rcases (set_true hl).mp hp with rfl | hp
    · exact hrq
    · exact h.ok p hp
  · rcases List.mem_append.mp hp with z | z
    · refine yWP (h.win p z) fun n e hn => ?_
      exact (xWP n e (up n hn))
    · exact (xWP q (List.mem_singleton.mp z) ((set_true hl).mpr (.inl rfl)))
  · rcases (set_true hl).mp hp with rfl | hp
    · exact .inl (by simp)
    · rcases h.cl p hp with z | ⟨z1, z2⟩ | z
      · exact .inl (List.mem_append_left _ z)
      · refine .inr (.inl ⟨z1, fun j q' hj hq' => ?_⟩)
        by_cases hjk : j < k
        · exact up _ (z2 j q' hjk hq')
        · have : j = k := by exact AR.n24b hj hjk
          subst this
          rw [hq] at hq'
          cases hq'
          exact (set_true hl).mpr (.inl (by (first | exact AR.j24 | omega)))
      · exact .inr (.inr fun q' hq' => up _ (z q' hq'))
theorem SrchI.finish {m : Nat} {ts : Ts} {R : List Bool} {W : List Int} {p0 k : Nat} (h : SrchI m ts R W p0 k) (hk : (nbs ts p0).length ≤ k) : Srch m ts R W where
  len := h.len
  zero := h.zero
  ok := h.ok
  win := h.win
  cl := fun p hp => by
    rcases h.cl p hp with z | ⟨rfl, z2⟩ | z
    · exact .inl z
    · refine .inr fun q hq => ?_
      obtain ⟨j, hj, e⟩ := List.mem_iff_getElem.mp hq
      exact z2 j q (by exact AR.n2 hj hk) (by rw [List.getElem?_eq_getElem hj, e])
    · exact .inr z
def falses (R : List Bool) : Nat := (R.filter (! ·)).length
theorem falses_set : ∀ {R : List Bool} {i : Nat}, R[i]? = some false → falses (R.set i true) + 1 = falses R
  | [], _, h => by simp at h
  | b :: R, 0, h => by
    have e : b = false := by simpa using h
    subst e
    simp [falses]
  | b :: R, i + 1, h => by
    have h' : R[i]? = some false := by simpa using h
    have ih := falses_set h'
    unfold falses at ih ⊢
    rw [List.set_cons_succ]
    cases b <;> simp <;> exact ih
end AW

namespace AW
theorem nodup_sub : ∀ (l m : List Int), l.Nodup → (∀ x ∈ l, x ∈ m) → l.length ≤ m.length
  | [], _, _, _ => Nat.zero_le _
  | x :: l, m, nd, h => by
    have h1 := List.nodup_cons.mp nd
    have ih := nodup_sub l (m.erase x) h1.2 fun y hy => (List.mem_erase_of_ne (fun z => h1.1 (by rw [← z]; exact hy))).mpr (h y (List.mem_cons_of_mem _ hy))
    have hx := List.length_erase_of_mem (h x List.mem_cons_self)
    have : 0 < m.length := List.length_pos_of_mem (h x List.mem_cons_self)
    simp only [List.length_cons]
    omega
def upTo (m : Nat) : List Int := (List.range m).map fun n : Nat => (n : Int)
theorem mem_upTo {m : Nat} {p : Int} : p ∈ upTo m ↔ 0 ≤ p ∧ p < m := by
  unfold upTo
  rw [List.mem_map]
  constructor
  · intro hq65; refine yWP hq65 fun n hn yr402 => ?_; try clear hq65; subst yr402
    have := List.mem_range.mp hn
    first | exact AR.m48 AR.j11 (AR.j12 this) | omega
  · intro hq66; obtain ⟨h0, h1⟩ := hq66
    exact (xWP p.toNat (List.mem_range.mpr (by first | exact AR.j21 h0 h1 | omega)) (by (first | exact AR.j19 h0 | omega)))
theorem nodup_upTo (m : Nat) : (upTo m).Nodup := nodup_map (fun a b h => by first | exact AR.j26 h | omega) List.nodup_range
theorem len_upTo (m : Nat) : (upTo m).length = m := by simp [upTo]

structure Come (m : Nat) (ts : Ts) (C : List Int) : Prop where
  nd : C.Nodup
  zero : 0 ∈ C
  win : ∀ p ∈ C, 0 ≤ p ∧ p < m
  ok : ∀ p ∈ C, Rch ts p
def Closed (ts : Ts) (C : List Int) : Prop := ∀ t ∈ ts, t.1 ∈ C ↔ t.2 ∈ C
theorem Come.le {m : Nat} {ts : Ts} {C : List Int} (h : Come m ts C) : C.length ≤ m := by
  have := nodup_sub C (upTo m) h.nd fun p hp => mem_upTo.mpr (h.win p hp)
  rwa [len_upTo] at this
theorem Come.whole {m : Nat} {ts : Ts} {C : List Int} (h : Come m ts C) (e : C.length = m) : Whole m ts := fun p h0 h1 => by
  by_cases hp : p ∈ C
  · exact h.ok p hp
  · have := nodup_sub (p :: C) (upTo m) (List.nodup_cons.mpr ⟨hp, h.nd⟩) fun q hq => by
      rcases List.mem_cons.mp hq with rfl | hq
      · exact mem_upTo.mpr ⟨h0, h1⟩
      · exact mem_upTo.mpr (h.win q hq)
    rw [len_upTo, List.length_cons] at this
    (clear h0 h1; omega)
theorem Come.full {m : Nat} {ts : Ts} {C : List Int} (h : Come m ts C) (c : Closed ts C) (w : Whole m ts) : C.length = m := by
  refine Nat.le_antisymm h.le ?_
  have := nodup_sub (upTo m) C (nodup_upTo m) fun p hp => by
    obtain ⟨h0, h1⟩ := mem_upTo.mp hp
    refine (w p h0 h1).within (S := fun p => p ∈ C) h.zero fun p hp q hq => ?_
    obtain ⟨t, ht, ⟨rfl, rfl⟩ | ⟨rfl, rfl⟩⟩ := mem_nbs.mp hq
    · exact (c t ht).mp hp
    · exact (c t ht).mpr hp
  rwa [len_upTo] at this
theorem Come.start {m : Nat} {ts : Ts} (h : 0 < m) : Come m ts [0] := ⟨by simp, by simp, fun p hp => by have := List.mem_singleton.mp hp; omega, fun p hp => by rw [List.mem_singleton.mp hp]; exact .zero⟩
theorem Come.add {m : Nat} {ts : Ts} {C : List Int} (h : Come m ts C) {p q : Int} (hp : p ∈ C) (hq : q ∉ C) (hn : q ∈ nbs ts p) (hw : InW m ts) : Come m ts (C ++ [q]) where
  nd := by
    rw [List.nodup_append]
    exact (xPP h.nd (by simp) (fun a ha b hb z => by rw [List.mem_singleton.mp hb] at z; exact hq (z ▸ ha)))
  zero := List.mem_append_left _ h.zero
  win := fun x hx => by
    rcases List.mem_append.mp hx with z | z
    · exact h.win x z
    · rw [List.mem_singleton.mp z]; exact nbs_in hw hn
  ok := fun x hx => by
    rcases List.mem_append.mp hx with z | z
    · exact h.ok x z
    · rw [List.mem_singleton.mp z]; exact (h.ok p hp).step hn
def Pass (m : Nat) (ts : Ts) (C0 C : List Int) (k : Nat) : Prop :=
  Come m ts C ∧ ((C = C0 ∧ ∀ (j : Nat) t, j < k → ts[j]? = some t → (t.1 ∈ C0 ↔ t.2 ∈ C0)) ∨ (¬ Closed ts C0 ∧ C0.length < C.length))
def half (C : List Int) (a b : Int) : List Int := if a ∈ C ∧ b ∉ C then C ++ [b] else C
theorem half_come {m : Nat} {ts : Ts} {C : List Int} (h : Come m ts C) (hw : InW m ts) {a b : Int} (hn : b ∈ nbs ts a) : Come m ts (half C a b) := by
  unfold half
  split
  · rename_i c; exact h.add c.1 c.2 hn hw
  · exact h
theorem half_len (C : List Int) (a b : Int) : C.length ≤ (half C a b).length := by
  unfold half
  split
  · simp
  · exact Nat.le_refl _
theorem Pass.next {m : Nat} {ts : Ts} {C0 C : List Int} {k : Nat} {t : Int × Int} (h : Pass m ts C0 C k) (hw : InW m ts) (ht : ts[k]? = some t) : Pass m ts C0 (half (half C t.1 t.2) t.2 t.1) (k + 1) := by
  have hm := List.mem_of_getElem? ht
  have n1 : t.2 ∈ nbs ts t.1 := mem_nbs.mpr (xWP t hm (.inl ⟨rfl, rfl⟩))
  have n2 : t.1 ∈ nbs ts t.2 := mem_nbs.mpr (xWP t hm (.inr ⟨rfl, rfl⟩))
  refine ⟨half_come (half_come h.1 hw n1) hw n2, ?_⟩
  rcases h.2 with ⟨rfl, hc⟩ | ⟨hn, hl⟩
  · by_cases c : t.1 ∈ C ↔ t.2 ∈ C
    · left
      have e1 : half C t.1 t.2 = C := by unfold half; rw [if_neg (fun z => z.2 (c.mp z.1))]
      have e2 : half C t.2 t.1 = C := by unfold half; rw [if_neg (fun z => z.2 (c.mpr z.1))]
      rw [e1, e2]
      refine ⟨rfl, fun j u hj hu => ?_⟩
      by_cases hjk : j < k
      · exact hc j u hjk hu
      · have : j = k := by exact AR.n24b hj hjk
        subst this
        rw [ht] at hu
        cases hu
        exact c
    · right
      refine ⟨fun z => c (z t hm), ?_⟩
      by_cases c1 : t.1 ∈ C
      · have c2 : t.2 ∉ C := fun z => c ⟨fun _ => z, fun _ => c1⟩
        have e1 : half C t.1 t.2 = C ++ [t.2] := by unfold half; rw [if_pos ⟨c1, c2⟩]
        have := half_len (half C t.1 t.2) t.2 t.1
        rw [e1] at this ⊢
        simp at this ⊢
        first | exact AR.m16 this | omega
      · have c2 : t.2 ∈ C := Classical.byContradiction fun z => c ⟨fun y => absurd y c1, fun y => absurd y z⟩
        have e1 : half C t.1 t.2 = C := by unfold half; rw [if_neg (fun z => c1 z.1)]
        have e2 : half C t.2 t.1 = C ++ [t.1] := by unfold half; rw [if_pos ⟨c2, c1⟩]
        rw [e1, e2]
        simp
  · right
    exact ⟨hn, Nat.lt_of_lt_of_le hl (Nat.le_trans (half_len C t.1 t.2) (half_len _ _ _))⟩
def Passed (m : Nat) (ts : Ts) (C : List Int) (k : Nat) : Prop := Come m ts C ∧ (Closed ts C ∨ k + 1 ≤ C.length)
theorem Pass.done {m : Nat} {ts : Ts} {C0 C : List Int} {k : Nat} (h0 : Passed m ts C0 k) (h : Pass m ts C0 C ts.length) : Passed m ts C (k + 1) := by
  refine ⟨h.1, ?_⟩
  rcases h.2 with ⟨rfl, hc⟩ | ⟨hn, hl⟩
  · left
    intro t ht
    obtain ⟨j, hj, rfl⟩ := List.mem_iff_getElem.mp ht
    exact hc j _ hj (List.getElem?_eq_getElem hj)
  · right
    rcases h0.2 with z | z
    · exact absurd z hn
    · first | exact AR.m15 (AR.n3 z hl) | omega
theorem Passed.never {m : Nat} {ts : Ts} {C : List Int} (h : Passed m ts C m) (hl : C.length ≠ m) : ¬ Whole m ts := fun w => by
  rcases h.2 with z | z
  · exact hl (h.1.full z w)
  · have := h.1.le; (clear hl; omega)
end AW

namespace K01
open PySem L2
def top (i : Nat) : Stmt := PySem.Challenge.pw_fewbends_k01_maps_looked_at.main.body.getD i (.Pass ⟨0, 0, 0, 0⟩)
abbrev s_check_map : Stmt := top 16
theorem sc_check_map : FnScope ["web", "many", "ties"] ["web"] (defScope s_check_map) := ⟨rfl, rfl, rfl, by decide +kernel, rfl, by decide +kernel, by decide +kernel⟩
abbrev s_ties_name_places : Stmt := top 17
theorem sc_ties_name_places : FnScope ["many", "ties"] ["many", "ties"] (defScope s_ties_name_places) := ⟨rfl, rfl, rfl, by decide +kernel, rfl, by decide +kernel, by decide +kernel⟩
abbrev s_orders_fit : Stmt := top 18
theorem sc_orders_fit : FnScope ["web", "orders", "order", "ends"] ["web"] (defScope s_orders_fit) := ⟨rfl, rfl, rfl, by decide +kernel, rfl, by decide +kernel, by decide +kernel⟩
abbrev s_ends_at_places : Stmt := top 19
theorem sc_ends_at_places : FnScope ["many", "ties", "ends", "number", "tie"] ["many", "ties"] (defScope s_ends_at_places) := ⟨rfl, rfl, rfl, by decide +kernel, rfl, by decide +kernel, by decide +kernel⟩
abbrev s_hangs_together : Stmt := top 20
theorem sc_hangs_together : FnScope ["many", "ties", "near", "a", "b", "reached", "waiting", "place", "neighbour"] ["many", "ties"] (defScope s_hangs_together) := ⟨rfl, rfl, rfl, by decide +kernel, rfl, by decide +kernel, by decide +kernel⟩
abbrev s_l_cell_at : Stmt := top 22
theorem sc_l_cell_at : FnScope ["_law_script", "_law_k"] ["_law_script", "_law_k"] (defScope s_l_cell_at) := ⟨rfl, rfl, rfl, by decide +kernel, rfl, by decide +kernel, by decide +kernel⟩
abbrev s_l_mix : Stmt := top 23
theorem sc_l_mix : FnScope ["_law_cell", "_law_k", "_law_turn", "_law_number"] ["_law_cell", "_law_k"] (defScope s_l_mix) := ⟨rfl, rfl, rfl, by decide +kernel, rfl, by decide +kernel, by decide +kernel⟩
abbrev s_l_digit : Stmt := top 24
theorem sc_l_digit : FnScope ["_law_number", "_law_by", "_law_k", "_law_turn"] ["_law_number", "_law_by", "_law_k"] (defScope s_l_digit) := ⟨rfl, rfl, rfl, by decide +kernel, rfl, by decide +kernel, by decide +kernel⟩
abbrev s_l_turned : Stmt := top 25
theorem sc_l_turned : FnScope ["_law_number", "_law_many", "_law_told", "_law_k"] ["_law_number", "_law_many"] (defScope s_l_turned) := ⟨rfl, rfl, rfl, by decide +kernel, rfl, by decide +kernel, by decide +kernel⟩
abbrev s_l_other : Stmt := top 26
theorem sc_l_other : FnScope ["_law_end"] ["_law_end"] (defScope s_l_other) := ⟨rfl, rfl, rfl, by decide +kernel, rfl, by decide +kernel, by decide +kernel⟩
abbrev s_l_place : Stmt := top 27
theorem sc_l_place : FnScope ["_law_ties", "_law_end"] ["_law_ties", "_law_end"] (defScope s_l_place) := ⟨rfl, rfl, rfl, by decide +kernel, rfl, by decide +kernel, by decide +kernel⟩
abbrev s_l_behind : Stmt := top 28
theorem sc_l_behind : FnScope ["_law_ties", "_law_orders", "_law_end", "_law_order"] ["_law_ties", "_law_orders", "_law_end"] (defScope s_l_behind) := ⟨rfl, rfl, rfl, by decide +kernel, rfl, by decide +kernel, by decide +kernel⟩
abbrev s_l_lands : Stmt := top 29
theorem sc_l_lands : FnScope ["_law_ties", "_law_orders", "_law_told", "_law_left", "_law_land", "_law_here"] ["_law_ties", "_law_orders"] (defScope s_l_lands) := ⟨rfl, rfl, rfl, by decide +kernel, rfl, by decide +kernel, by decide +kernel⟩
abbrev s_l_step : Stmt := top 30
theorem sc_l_step : FnScope ["_law_ties", "_law_orders", "_law_pick", "_law_most", "_law_some", "_law_land", "_law_one", "_law_other_here", "_law_a", "_law_b", "_law_end"] ["_law_ties", "_law_orders", "_law_pick", "_law_most"] (defScope s_l_step) := ⟨rfl, rfl, rfl, by decide +kernel, rfl, by decide +kernel, by decide +kernel⟩
abbrev s_l_renamed : Stmt := top 31
theorem sc_l_renamed : FnScope ["_law_ties", "_law_orders", "_law_cell", "_law_places", "_law_numbers", "_law_names", "_law_told", "_law_k", "_law_a", "_law_b", "_law_flip", "_law_rows", "_law_place_here", "_law_order", "_law_at"] ["_law_ties", "_law_orders", "_law_cell"] (defScope s_l_renamed) := ⟨rfl, rfl, rfl, by decide +kernel, rfl, by decide +kernel, by decide +kernel⟩
abbrev s_l_map : Stmt := top 32
theorem sc_l_map : FnScope ["_law_script", "_law_steps", "_law_most", "_law_cell", "_law_ties", "_law_orders", "_law_k"] ["_law_script", "_law_steps", "_law_most"] (defScope s_l_map) := ⟨rfl, rfl, rfl, by decide +kernel, rfl, by decide +kernel, by decide +kernel⟩
abbrev s_l_kind : Stmt := top 33
theorem sc_l_kind : FnScope ["_law_error", "_law_others"] ["_law_error"] (defScope s_l_kind) := ⟨rfl, rfl, rfl, by decide +kernel, rfl, by decide +kernel, by decide +kernel⟩
abbrev s_l_refused : Stmt := top 34
theorem sc_l_refused : FnScope ["_law_web", "_law_caught", "e"] ["_law_web"] (defScope s_l_refused) := ⟨rfl, rfl, rfl, by decide +kernel, rfl, by decide +kernel, by decide +kernel⟩
abbrev s_l_is_map : Stmt := top 35
theorem sc_l_is_map : FnScope ["_law_web", "_law_many", "_law_ties", "_law_orders", "_law_a", "_law_b", "_law_ends", "_law_order", "_law_place_here", "_law_come", "_law_here"] ["_law_web"] (defScope s_l_is_map) := ⟨rfl, rfl, rfl, by decide +kernel, rfl, by decide +kernel, by decide +kernel⟩
abbrev s_l_bent_orders : Stmt := top 36
theorem sc_l_bent_orders : FnScope ["_law_orders", "_law_ends", "_law_pick", "_law_place_here", "_law_at", "_law_other_here", "_law_way"] ["_law_orders", "_law_ends", "_law_pick"] (defScope s_l_bent_orders) := ⟨rfl, rfl, rfl, by decide +kernel, rfl, by decide +kernel, by decide +kernel⟩
abbrev s_l_bent : Stmt := top 37
theorem sc_l_bent : FnScope ["_law_web", "_law_pick", "_law_many", "_law_ties", "_law_orders", "_law_way", "_law_tie", "_law_a", "_law_b", "_law_place_here", "_law_k"] ["_law_web", "_law_pick"] (defScope s_l_bent) := ⟨rfl, rfl, rfl, by decide +kernel, rfl, by decide +kernel, by decide +kernel⟩
abbrev s_l_row : Stmt := top 38
theorem sc_l_row : FnScope ["_law_many", "_law_ties", "_law_orders"] ["_law_many"] (defScope s_l_row) := ⟨rfl, rfl, rfl, by decide +kernel, rfl, by decide +kernel, by decide +kernel⟩
abbrev s_l_ring : Stmt := top 39
theorem sc_l_ring : FnScope ["_law_many", "_law_ties", "_law_orders", "_law_k", "_law_back"] ["_law_many"] (defScope s_l_ring) := ⟨rfl, rfl, rfl, by decide +kernel, rfl, by decide +kernel, by decide +kernel⟩
abbrev s_law : Stmt := top 40
theorem sc_law : FnScope ["_law_script", "_law_web", "_law_pick", "_law_webs", "_law_one", "_law_handed"] ["_law_script"] (defScope s_law) := ⟨rfl, rfl, rfl, by decide +kernel, rfl, by decide +kernel, by decide +kernel⟩
set_option genInjectivity false in
structure Adr where
  q_MOST_PLACES : Tok
  q_MOST_TIES : Tok
  q_MOST_ENDS_AT_A_PLACE : Tok
  c_BendError : Addr
  c_NoMap : Addr
  c_NotFlat : Addr
  c_NoLand : Addr
  c_NoNet : Addr
  c_NoShape : Addr
  c_NoLaid : Addr
  c_NoText : Addr
  c_NoPicture : Addr
  c_NoRow : Addr
  c_NoThing : Addr
  a_check_map : Addr
  d_check_map : FuncData
  a_ties_name_places : Addr
  d_ties_name_places : FuncData
  a_orders_fit : Addr
  d_orders_fit : FuncData
  a_ends_at_places : Addr
  d_ends_at_places : FuncData
  a_hangs_together : Addr
  d_hangs_together : FuncData
  a_l_cell_at : Addr
  d_l_cell_at : FuncData
  a_l_mix : Addr
  d_l_mix : FuncData
  a_l_digit : Addr
  d_l_digit : FuncData
  a_l_turned : Addr
  d_l_turned : FuncData
  a_l_other : Addr
  d_l_other : FuncData
  a_l_place : Addr
  d_l_place : FuncData
  a_l_behind : Addr
  d_l_behind : FuncData
  a_l_lands : Addr
  d_l_lands : FuncData
  a_l_step : Addr
  d_l_step : FuncData
  a_l_renamed : Addr
  d_l_renamed : FuncData
  a_l_map : Addr
  d_l_map : FuncData
  a_l_kind : Addr
  d_l_kind : FuncData
  a_l_refused : Addr
  d_l_refused : FuncData
  a_l_is_map : Addr
  d_l_is_map : FuncData
  a_l_bent_orders : Addr
  d_l_bent_orders : FuncData
  a_l_bent : Addr
  d_l_bent : FuncData
  a_l_row : Addr
  d_l_row : FuncData
  a_l_ring : Addr
  d_l_ring : FuncData
  a_law : Addr
  d_law : FuncData
structure Txt (K : PySem.W.Frag) (mg : Str → Option Value) (t : Adr) : Prop where
  F_check_map : Fun K "check_map" "check_map" s_check_map t.a_check_map t.d_check_map
  m_check_map : mg "check_map" = some (.ref t.a_check_map)
  k_check_map : PySem.W.keepIn K (.ref t.a_check_map) = true
  b_check_map : Binds K t.d_check_map ["web"] []
  F_ties_name_places : Fun K "ties_name_places" "ties_name_places" s_ties_name_places t.a_ties_name_places t.d_ties_name_places
  m_ties_name_places : mg "ties_name_places" = some (.ref t.a_ties_name_places)
  k_ties_name_places : PySem.W.keepIn K (.ref t.a_ties_name_places) = true
  b_ties_name_places : Binds K t.d_ties_name_places ["many", "ties"] []
  F_orders_fit : Fun K "orders_fit" "orders_fit" s_orders_fit t.a_orders_fit t.d_orders_fit
  m_orders_fit : mg "orders_fit" = some (.ref t.a_orders_fit)
  k_orders_fit : PySem.W.keepIn K (.ref t.a_orders_fit) = true
  b_orders_fit : Binds K t.d_orders_fit ["web"] []
  F_ends_at_places : Fun K "ends_at_places" "ends_at_places" s_ends_at_places t.a_ends_at_places t.d_ends_at_places
  m_ends_at_places : mg "ends_at_places" = some (.ref t.a_ends_at_places)
  k_ends_at_places : PySem.W.keepIn K (.ref t.a_ends_at_places) = true
  b_ends_at_places : Binds K t.d_ends_at_places ["many", "ties"] []
  F_hangs_together : Fun K "hangs_together" "hangs_together" s_hangs_together t.a_hangs_together t.d_hangs_together
  m_hangs_together : mg "hangs_together" = some (.ref t.a_hangs_together)
  k_hangs_together : PySem.W.keepIn K (.ref t.a_hangs_together) = true
  b_hangs_together : Binds K t.d_hangs_together ["many", "ties"] []
  F_l_cell_at : Fun K "_law_cell_at" "_law_cell_at" s_l_cell_at t.a_l_cell_at t.d_l_cell_at
  m_l_cell_at : mg "_law_cell_at" = some (.ref t.a_l_cell_at)
  k_l_cell_at : PySem.W.keepIn K (.ref t.a_l_cell_at) = true
  b_l_cell_at : Binds K t.d_l_cell_at ["_law_script", "_law_k"] []
  F_l_mix : Fun K "_law_mix" "_law_mix" s_l_mix t.a_l_mix t.d_l_mix
  m_l_mix : mg "_law_mix" = some (.ref t.a_l_mix)
  k_l_mix : PySem.W.keepIn K (.ref t.a_l_mix) = true
  b_l_mix : Binds K t.d_l_mix ["_law_cell", "_law_k"] []
  F_l_digit : Fun K "_law_digit" "_law_digit" s_l_digit t.a_l_digit t.d_l_digit
  m_l_digit : mg "_law_digit" = some (.ref t.a_l_digit)
  k_l_digit : PySem.W.keepIn K (.ref t.a_l_digit) = true
  b_l_digit : Binds K t.d_l_digit ["_law_number", "_law_by", "_law_k"] []
  F_l_turned : Fun K "_law_turned" "_law_turned" s_l_turned t.a_l_turned t.d_l_turned
  m_l_turned : mg "_law_turned" = some (.ref t.a_l_turned)
  k_l_turned : PySem.W.keepIn K (.ref t.a_l_turned) = true
  b_l_turned : Binds K t.d_l_turned ["_law_number", "_law_many"] []
  F_l_other : Fun K "_law_other" "_law_other" s_l_other t.a_l_other t.d_l_other
  m_l_other : mg "_law_other" = some (.ref t.a_l_other)
  k_l_other : PySem.W.keepIn K (.ref t.a_l_other) = true
  b_l_other : Binds K t.d_l_other ["_law_end"] []
  F_l_place : Fun K "_law_place" "_law_place" s_l_place t.a_l_place t.d_l_place
  m_l_place : mg "_law_place" = some (.ref t.a_l_place)
  k_l_place : PySem.W.keepIn K (.ref t.a_l_place) = true
  b_l_place : Binds K t.d_l_place ["_law_ties", "_law_end"] []
  F_l_behind : Fun K "_law_behind" "_law_behind" s_l_behind t.a_l_behind t.d_l_behind
  m_l_behind : mg "_law_behind" = some (.ref t.a_l_behind)
  k_l_behind : PySem.W.keepIn K (.ref t.a_l_behind) = true
  b_l_behind : Binds K t.d_l_behind ["_law_ties", "_law_orders", "_law_end"] []
  F_l_lands : Fun K "_law_lands" "_law_lands" s_l_lands t.a_l_lands t.d_l_lands
  m_l_lands : mg "_law_lands" = some (.ref t.a_l_lands)
  k_l_lands : PySem.W.keepIn K (.ref t.a_l_lands) = true
  b_l_lands : Binds K t.d_l_lands ["_law_ties", "_law_orders"] []
  F_l_step : Fun K "_law_step" "_law_step" s_l_step t.a_l_step t.d_l_step
  m_l_step : mg "_law_step" = some (.ref t.a_l_step)
  k_l_step : PySem.W.keepIn K (.ref t.a_l_step) = true
  b_l_step : Binds K t.d_l_step ["_law_ties", "_law_orders", "_law_pick", "_law_most"] []
  F_l_renamed : Fun K "_law_renamed" "_law_renamed" s_l_renamed t.a_l_renamed t.d_l_renamed
  m_l_renamed : mg "_law_renamed" = some (.ref t.a_l_renamed)
  k_l_renamed : PySem.W.keepIn K (.ref t.a_l_renamed) = true
  b_l_renamed : Binds K t.d_l_renamed ["_law_ties", "_law_orders", "_law_cell"] []
  F_l_map : Fun K "_law_map" "_law_map" s_l_map t.a_l_map t.d_l_map
  m_l_map : mg "_law_map" = some (.ref t.a_l_map)
  k_l_map : PySem.W.keepIn K (.ref t.a_l_map) = true
  b_l_map : Binds K t.d_l_map ["_law_script", "_law_steps", "_law_most"] []
  F_l_kind : Fun K "_law_kind" "_law_kind" s_l_kind t.a_l_kind t.d_l_kind
  m_l_kind : mg "_law_kind" = some (.ref t.a_l_kind)
  k_l_kind : PySem.W.keepIn K (.ref t.a_l_kind) = true
  b_l_kind : Binds K t.d_l_kind ["_law_error"] []
  F_l_refused : Fun K "_law_refused" "_law_refused" s_l_refused t.a_l_refused t.d_l_refused
  m_l_refused : mg "_law_refused" = some (.ref t.a_l_refused)
  k_l_refused : PySem.W.keepIn K (.ref t.a_l_refused) = true
  b_l_refused : Binds K t.d_l_refused ["_law_web"] []
  F_l_is_map : Fun K "_law_is_map" "_law_is_map" s_l_is_map t.a_l_is_map t.d_l_is_map
  m_l_is_map : mg "_law_is_map" = some (.ref t.a_l_is_map)
  k_l_is_map : PySem.W.keepIn K (.ref t.a_l_is_map) = true
  b_l_is_map : Binds K t.d_l_is_map ["_law_web"] []
  F_l_bent_orders : Fun K "_law_bent_orders" "_law_bent_orders" s_l_bent_orders t.a_l_bent_orders t.d_l_bent_orders
  m_l_bent_orders : mg "_law_bent_orders" = some (.ref t.a_l_bent_orders)
  k_l_bent_orders : PySem.W.keepIn K (.ref t.a_l_bent_orders) = true
  b_l_bent_orders : Binds K t.d_l_bent_orders ["_law_orders", "_law_ends", "_law_pick"] []
  F_l_bent : Fun K "_law_bent" "_law_bent" s_l_bent t.a_l_bent t.d_l_bent
  m_l_bent : mg "_law_bent" = some (.ref t.a_l_bent)
  k_l_bent : PySem.W.keepIn K (.ref t.a_l_bent) = true
  b_l_bent : Binds K t.d_l_bent ["_law_web", "_law_pick"] []
  F_l_row : Fun K "_law_row" "_law_row" s_l_row t.a_l_row t.d_l_row
  m_l_row : mg "_law_row" = some (.ref t.a_l_row)
  k_l_row : PySem.W.keepIn K (.ref t.a_l_row) = true
  b_l_row : Binds K t.d_l_row ["_law_many"] []
  F_l_ring : Fun K "_law_ring" "_law_ring" s_l_ring t.a_l_ring t.d_l_ring
  m_l_ring : mg "_law_ring" = some (.ref t.a_l_ring)
  k_l_ring : PySem.W.keepIn K (.ref t.a_l_ring) = true
  b_l_ring : Binds K t.d_l_ring ["_law_many"] []
  F_law : Fun K "law" "law" s_law t.a_law t.d_law
  m_law : mg "law" = some (.ref t.a_law)
  k_law : PySem.W.keepIn K (.ref t.a_law) = true
  b_law : Binds K t.d_law ["_law_script"] []
  z_all : mg "all" = none
  z_enumerate : mg "enumerate" = none
  z_int : mg "int" = none
  z_isinstance : mg "isinstance" = none
  z_len : mg "len" = none
  z_list : mg "list" = none
  z_max : mg "max" = none
  z_range : mg "range" = none
  z_sorted : mg "sorted" = none
  z_zip : mg "zip" = none
  g_MOST_PLACES : mg "MOST_PLACES" = some (.int 200 t.q_MOST_PLACES)
  g_MOST_TIES : mg "MOST_TIES" = some (.int 400 t.q_MOST_TIES)
  g_MOST_ENDS_AT_A_PLACE : mg "MOST_ENDS_AT_A_PLACE" = some (.int 4 t.q_MOST_ENDS_AT_A_PLACE)
  m_BendError : mg "BendError" = some (.ref t.c_BendError)
  m_NoMap : mg "NoMap" = some (.ref t.c_NoMap)
  m_NotFlat : mg "NotFlat" = some (.ref t.c_NotFlat)
  m_NoLand : mg "NoLand" = some (.ref t.c_NoLand)
  m_NoNet : mg "NoNet" = some (.ref t.c_NoNet)
  m_NoShape : mg "NoShape" = some (.ref t.c_NoShape)
  m_NoLaid : mg "NoLaid" = some (.ref t.c_NoLaid)
  m_NoText : mg "NoText" = some (.ref t.c_NoText)
  m_NoPicture : mg "NoPicture" = some (.ref t.c_NoPicture)
  m_NoRow : mg "NoRow" = some (.ref t.c_NoRow)
  m_NoThing : mg "NoThing" = some (.ref t.c_NoThing)
  x_in : PySem.W.excIn K t.c_NoMap [.type "ValueError", .type "Exception", .type "BaseException", .type "object"] "ValueError.__new__" = true
  x_up : L2.ClsU K t.c_NoMap t.c_BendError
  x_ve : PySem.W.subIn K (.ref t.c_NoMap) (.type "ValueError") = some true
  x_NoLaid : L2.ClsN K t.c_NoMap t.c_NoLaid
  x_NoLand : L2.ClsN K t.c_NoMap t.c_NoLand
  x_NoNet : L2.ClsN K t.c_NoMap t.c_NoNet
  x_NoPicture : L2.ClsN K t.c_NoMap t.c_NoPicture
  x_NoRow : L2.ClsN K t.c_NoMap t.c_NoRow
  x_NoShape : L2.ClsN K t.c_NoMap t.c_NoShape
  x_NoText : L2.ClsN K t.c_NoMap t.c_NoText
  x_NoThing : L2.ClsN K t.c_NoMap t.c_NoThing
  x_NotFlat : L2.ClsN K t.c_NoMap t.c_NotFlat
  x_K : L2.ExcK K t.c_NoMap
  z_ValueError : mg "ValueError" = none
end K01

abbrev K01.lawK : Nat := 60

namespace L2
open PySem PyProof.Rows
def TsI (H : Hp) (a : Addr) (ts : AW.Ts) : Prop := ∃ tr : List Addr, H a = some (.lst (tr.map V.ref)) ∧ tr.length = ts.length ∧ ∀ (i : Nat) t, ts[i]? = some t → ∃ r, tr[i]? = some r ∧ H r = some (.tup [.int t.1, .int t.2])
def OsI (H : Hp) (a : Addr) (os : AW.Os) : Prop := ∃ tr : List Addr, H a = some (.lst (tr.map V.ref)) ∧ tr.length = os.length ∧ ∀ (i : Nat) l, os[i]? = some l → ∃ r, tr[i]? = some r ∧ H r = some (.lst (l.map V.int))
def WebI (H : Hp) (w : Addr) (m : Int) (ts : AW.Ts) (os : AW.Os) : Prop := ∃ tA oA : Addr, H w = some (.tup [.int m, .ref tA, .ref oA]) ∧ TsI H tA ts ∧ OsI H oA os
theorem TsI.same {H H' : Hp} {a : Addr} {ts : AW.Ts} (h : TsI H a ts) (g : Same H H') : TsI H' a ts := by
  refine yWPP h fun tr h1 h2 h3 => ?_; try clear h
  exact (xWPP tr (g _ _ h1) h2 (fun i t e => let ⟨r, q1, q2⟩ := h3 i t e; (xWP r q1 (g _ _ q2))))
theorem OsI.same {H H' : Hp} {a : Addr} {os : AW.Os} (h : OsI H a os) (g : Same H H') : OsI H' a os := by
  refine yWPP h fun tr h1 h2 h3 => ?_; try clear h
  exact (xWPP tr (g _ _ h1) h2 (fun i t e => let ⟨r, q1, q2⟩ := h3 i t e; (xWP r q1 (g _ _ q2))))
theorem WebI.same {H H' : Hp} {w : Addr} {m : Int} {ts : AW.Ts} {os : AW.Os} (h : WebI H w m ts os) (g : Same H H') : WebI H' w m ts os := by
  refine yWWPP h fun tA oA h1 h2 h3 => ?_; try clear h
  exact (xWWPP tA oA (g _ _ h1) (h2.same g) (h3.same g))
theorem TsI.nth {H : Hp} {a : Addr} {ts : AW.Ts} {tr : List Addr} (h1 : tr.length = ts.length) (h2 : ∀ (i : Nat) t, ts[i]? = some t → ∃ r, tr[i]? = some r ∧ H r = some (.tup [.int t.1, .int t.2])) {i : Nat} {x : V} (hx : (tr.map V.ref)[i]? = some x) :
    ∃ t r, ts[i]? = some t ∧ x = .ref r ∧ H r = some (.tup [.int t.1, .int t.2]) := by
  rw [List.getElem?_map] at hx
  cases e : ts[i]? with
  | none =>
    have : tr[i]? = none := List.getElem?_eq_none (by rw [h1]; exact List.getElem?_eq_none_iff.mp e)
    rw [this] at hx; cases hx
  | some t =>
    refine yWP (h2 i t e) fun r q1 q2 => ?_
    rw [q1] at hx
    cases hx
    exact (xWWPP t r rfl rfl q2)
theorem OsI.nth {H : Hp} {os : AW.Os} {tr : List Addr} (h1 : tr.length = os.length) (h2 : ∀ (i : Nat) l, os[i]? = some l → ∃ r, tr[i]? = some r ∧ H r = some (.lst (l.map V.int))) {i : Nat} {x : V} (hx : (tr.map V.ref)[i]? = some x) :
    ∃ l r, os[i]? = some l ∧ x = .ref r ∧ H r = some (.lst (l.map V.int)) := by
  rw [List.getElem?_map] at hx
  cases e : os[i]? with
  | none =>
    have : tr[i]? = none := List.getElem?_eq_none (by rw [h1]; exact List.getElem?_eq_none_iff.mp e)
    rw [this] at hx; cases hx
  | some t =>
    refine yWP (h2 i t e) fun r q1 q2 => ?_
    rw [q1] at hx
    cases hx
    exact (xWWPP t r rfl rfl q2)

structure NewL (H H' : Hp) (r : Addr) (rr : List Addr) (ls : List (List V)) : Prop where
  at_ : H' r = some (.lst (rr.map V.ref))
  len : rr.length = ls.length
  row : ∀ (i : Nat) l, ls[i]? = some l → ∃ x, rr[i]? = some x ∧ H' x = some (.lst l)
  nd : rr.Nodup
  nin : r ∉ rr
  new : H r = none
  news : ∀ x ∈ rr, H x = none
theorem NewL.keep {H H' H2 : Hp} {r : Addr} {rr : List Addr} {ls : List (List V)} (n : NewL H H' r rr ls) (g : Same H' H2) : NewL H H2 r rr ls :=
  ⟨g _ _ n.at_, n.len, fun i l h => let ⟨x, h1, h2⟩ := n.row i l h; (xWP x h1 (g _ _ h2)), n.nd, n.nin, n.new, n.news⟩
theorem Same.fresh {H H' : Hp} (g : Same H H') {x : Addr} (hx : H x = none) (o : HO) : Same H (upd H' x o) := fun b u h => by rw [upd_ne (ne_of_none h hx)]; exact g _ _ h
theorem NewL.set {H0 H : Hp} {o x : Addr} {rr : List Addr} {ls : List (List V)} (n : NewL H0 H o rr ls) {p : Nat} {l : List V} (hx : rr[p]? = some x) : NewL H0 (upd H x (.lst l)) o rr (ls.set p l) where
  at_ := by rw [upd_ne (show o ≠ x from fun z => n.nin (z ▸ List.mem_of_getElem? hx))]; exact n.at_
  len := by rw [List.length_set]; exact n.len
  row := fun i m h => by
    by_cases e : p = i
    · subst e
      have hp : p < ls.length := n.len ▸ (List.getElem?_eq_some_iff.mp hx).1
      rw [List.getElem?_set_self hp] at h
      cases h
      exact (xWP x hx upd_same)
    · rw [List.getElem?_set_ne e] at h
      refine yWP (n.row i m h) fun y h1 h2 => ?_
      refine (xWP y h1 ?_)
      have ne : y ≠ x := by
        rintro rfl
        obtain ⟨a1, b1⟩ := List.getElem?_eq_some_iff.mp h1
        obtain ⟨a2, b2⟩ := List.getElem?_eq_some_iff.mp hx
        exact e ((List.getElem_inj n.nd).mp (b2.trans b1.symm))
      rw [upd_ne ne]; exact h2
  nd := n.nd
  nin := n.nin
  new := n.new
  news := n.news
theorem NewL.os {H H' : Hp} {r : Addr} {rr : List Addr} {os : AW.Os} (n : NewL H H' r rr (os.map fun l => l.map V.int)) : OsI H' r os :=
  (xWPP rr n.at_ (by rw [n.len, List.length_map]) (fun i l h => n.row i _ (by rw [List.getElem?_map, h]; rfl)))

theorem comp_news {J : It} {js : List (Option Nat)} {σ : St} {H1 : Hp} {R : Hp → Prop} {D : Addr} {g : TG} {te : TE} (n : Nat) (fs : Nat → List V) (hD : H1 D = none) (hn : n ≤ 100000)
    (go : ∀ i H', i < n → Same H1 H' → J.go i H') (stop : ∀ H', Same H1 H' → J.stop n H')
    (hs : ∀ i H' x H'' (k : V → Hp → Prop), i < n → Same H1 H' → J.yld i H' x H'' → (∀ a H4, H' a = none → Same H' H4 → H4 a = some (.lst (fs i)) → k (.ref a) H4) → g x (inner js σ) H'' fun σ2 H2 => Fills (inner js σ) σ2 ∧ te σ2 H2 k)
    (hd : ∀ (rr : List Addr) H', NewL H1 H' D rr ((List.range n).map fs) → Same H1 H' → R H') :
    ∃ W : Nat → Nat → List V → Hp → Prop, (∃ m, W 0 m [] (upd H1 D (.lst []))) ∧
      ∀ i m ys H, W i m ys H → (J.stop i H ∧ R H) ∨ (J.go i H ∧ ∃ N : List V → Hp → Prop, (∀ ys' H', N ys' H' → ∃ m', m' < m ∧ W (i + 1) m' ys' H') ∧ ∀ x H', J.yld i H x H' → g x (inner js σ) H' fun σ2 H2 => Fills (inner js σ) σ2 ∧ tTrue σ2 H2 fun b H3 =>
        if b = true then te σ2 H3 fun y H4 => H4 D = some (.lst ys) ∧ ys.length < sizeLine ∧ N (ys ++ [y]) (upd H4 D (.lst (ys ++ [y]))) else N ys H3) := by
  refine comp_map n (fun i ys H' => ∃ rr : List Addr, ys = rr.map V.ref ∧ NewL H1 H' D rr ((List.range i).map fs) ∧ Same H1 H') (xWPP ([]) rfl ⟨upd_same, rfl, fun i l h => by simp at h, List.nodup_nil, by simp, hD, by simp⟩ (same_new hD _)) ?_ ?_
  · intro i ys H' hi hq67; refine yWPP hq67 fun rr ye409_1 w g1 => ?_; try clear hq67; subst ye409_1
    have hl : rr.length = i := by rw [w.len]; simp
    refine ⟨go i H' hi g1, fun x H'' hy => hs i H' x H'' _ hi g1 hy fun a H4 ha g4 e4 => (xPPWPP (g4 _ _ w.at_) ?_ (rr ++ [a]) ?_ ?_ ?_)⟩
    · rw [List.length_map, hl]; exact Nat.lt_of_lt_of_le hi (Nat.le_trans hn (by decide))
    · rw [List.map_append]; rfl
    · have aD : a ≠ D := fun z => by rw [z, w.at_] at ha; cases ha
      have ain : a ∉ rr := fun z => by
        obtain ⟨j, hj, e⟩ := List.mem_iff_getElem.mp z
        have hj' : j < ((List.range i).map fs).length := w.len ▸ hj
        refine yWP (w.row j _ (List.getElem?_eq_getElem hj')) fun y h1 h2 => ?_
        rw [List.getElem?_eq_getElem hj, e] at h1
        cases h1
        rw [ha] at h2; cases h2
      refine ⟨by rw [List.map_append]; exact upd_same, by simp [hl], fun j l h => ?_, ?_, ?_, hD, ?_⟩
      · by_cases hj : j < i
        · have e : ((List.range (i + 1)).map fs)[j]? = ((List.range i).map fs)[j]? := by simp [hj, Nat.lt_succ_of_lt hj]
          rw [e] at h
          refine yWP (w.row j l h) fun y h1 h2 => ?_
          have yD : y ≠ D := fun z => w.nin (z ▸ List.mem_of_getElem? h1)
          exact (xWP y (by rw [List.getElem?_append_left (by exact AR.n22g hl hj)]; exact h1) (by rw [upd_ne yD]; exact g4 _ _ h2))
        · have hj2 : j = i := by
            have := (List.getElem?_eq_some_iff.mp h).1
            simp at this; exact AR.n24b this hj
          subst hj2
          have e : l = fs j := by simpa using h.symm
          subst e
          exact (xWP a (by rw [← hl, List.getElem?_concat_length]) (by rw [upd_ne aD]; exact e4))
      · rw [List.nodup_append]
        refine (xPP w.nd (by simp) (fun b hb c hc z => ?_))
        have e : c = a := by simpa using hc
        subst e
        subst z
        exact ain hb
      · intro z
        rcases List.mem_append.mp z with z | z
        · exact w.nin z
        · exact aD (List.mem_singleton.mp z).symm
      · intro y hy
        rcases List.mem_append.mp hy with z | z
        · exact w.news y z
        · rw [List.mem_singleton.mp z]; exact g1.free ha
    · exact (g1.trans g4).fresh hD _
  · intro ys H' hq68; refine yWPP hq68 fun rr ye412_1 w g1 => ?_; try clear hq68; subst ye412_1
    exact ⟨stop H' g1, hd rr H' w g1⟩
theorem NewL.item {H0 H : Hp} {o : Addr} {rr : List Addr} {n : Nat} {f : Nat → List V} (w : NewL H0 H o rr ((List.range n).map f)) {p : Nat} (hp : p < n) :
    ∃ x, rr[p]? = some x ∧ H x = some (.lst (f p)) ∧ H0 x = none ∧ atI (rr.map V.ref) (p : Int) = some (.ref x) := by
  obtain ⟨x, h1, h2⟩ := w.row p (f p) (by simp [hp])
  exact (xWPPP x h1 h2 (w.news x (List.mem_of_getElem? h1)) (atI_nat (by rw [List.getElem?_map, h1]; rfl)))
theorem set_range {n p : Nat} {f : Nat → List V} {v : List V} : ((List.range n).map f).set p v = (List.range n).map fun i => if i = p then v else f i := by
  refine List.ext_getElem? fun i => ?_
  rw [List.getElem?_set]
  by_cases e : p = i
  · subst e
    by_cases h : p < n <;> simp [h]
  · rw [if_neg e]
    by_cases h : i < n
    · simp [h, Ne.symm e]
    · simp [h]
theorem NewL.put {H0 H : Hp} {o x : Addr} {rr : List Addr} {n p : Nat} {f : Nat → List V} (w : NewL H0 H o rr ((List.range n).map f)) (hx : rr[p]? = some x) (l : List V) :
    NewL H0 (upd H x (.lst l)) o rr ((List.range n).map fun i => if i = p then l else f i) := by
  rw [← set_range]; exact w.set hx
theorem NewL.other {H0 H : Hp} {o x : Addr} {rr : List Addr} {ls : List (List V)} (n : NewL H0 H o rr ls) (h1 : x ≠ o) (h2 : x ∉ rr) (u : HO) : NewL H0 (upd H x u) o rr ls :=
  ⟨by rw [upd_ne (Ne.symm h1)]; exact n.at_, n.len, fun i l h => by
    refine yWP (n.row i l h) fun y a b => ?_
    have ne : y ≠ x := fun z => h2 (by rw [← z]; exact List.mem_of_getElem? a)
    exact (xWP y a (by rw [upd_ne ne]; exact b)), n.nd, n.nin, n.new, n.news⟩
theorem NewL.notIn {H0 H : Hp} {o x : Addr} {rr : List Addr} {ls : List (List V)} (n : NewL H0 H o rr ls) (hx : H x = none) : x ∉ rr := fun z => by
  obtain ⟨i, hi, e⟩ := List.mem_iff_getElem.mp z
  refine yWP (n.row i _ (List.getElem?_eq_getElem (n.len ▸ hi))) fun y a b => ?_
  rw [List.getElem?_eq_getElem hi, e] at a
  cases a
  rw [hx] at b; cases b
end L2

namespace L2
open PySem PyProof.Rows
theorem viaN {tt r : TS} {D : Ends} {σ : St} {H : Hp} (I : St → Hp → Prop) (ht : ∀ N : St → Hp → Prop, (∀ σ' H', I σ' H' → N σ' H') → tt { D with nx := N } σ H) (hr : ∀ σ' H', I σ' H' → r D σ' H') : tSeq tt r D σ H := ht _ hr
theorem tail {tt r : TS} {D : Ends} {σ : St} {H : Hp} (h : ∀ N : St → Hp → Prop, N = r D → tt { D with nx := N } σ H) : tSeq tt r D σ H := h _ rfl
abbrev vv (os : AW.Os) : List (List V) := os.map fun l => l.map V.int
theorem NewL.at' {H0 H : Hp} {o : Addr} {rr : List Addr} {os : AW.Os} (w : NewL H0 H o rr (vv os)) {p : Nat} (hp : p < os.length) :
    ∃ x, rr[p]? = some x ∧ H x = some (.lst (os[p].map V.int)) ∧ H0 x = none ∧ atI (rr.map V.ref) (p : Int) = some (.ref x) := by
  obtain ⟨x, h1, h2⟩ := w.row p (os[p].map V.int) (by rw [List.getElem?_map, List.getElem?_eq_getElem hp]; rfl)
  exact (xWPPP x h1 h2 (w.news x (List.mem_of_getElem? h1)) (atI_nat (by rw [List.getElem?_map, h1]; rfl)))
theorem NewL.setI {H0 H : Hp} {o x : Addr} {rr : List Addr} {os : AW.Os} (w : NewL H0 H o rr (vv os)) {p : Nat} (hx : rr[p]? = some x) (l : List Int) : NewL H0 (upd H x (.lst (l.map V.int))) o rr (vv (os.set p l)) := by
  have := w.set (l := l.map V.int) hx
  rwa [show (vv os).set p (l.map V.int) = vv (os.set p l) from (List.map_set ..).symm] at this
theorem NewL.push {H0 H : Hp} {o x : Addr} {rr : List Addr} {ls : List (List V)} (w : NewL H0 H o rr ls) {l : List V} (hx : H x = none) (h0 : H0 x = none) : NewL H0 (upd (upd H x (.lst l)) o (.lst ((rr ++ [x]).map V.ref))) o (rr ++ [x]) (ls ++ [l]) := by
  have xo : x ≠ o := fun z => by rw [z, w.at_] at hx; cases hx
  have xin := w.notIn hx
  refine ⟨upd_same, by rw [List.length_append, List.length_append, w.len]; rfl, fun i m h => ?_, ?_, ?_, w.new, ?_⟩
  · by_cases q : i < ls.length
    · rw [List.getElem?_append_left q] at h
      refine yWP (w.row i m h) fun y h1 h2 => ?_
      have hy := List.mem_of_getElem? h1
      refine (xWP y (by rw [List.getElem?_append_left (by rw [w.len]; exact q)]; exact h1) ?_)
      rw [upd_ne (show y ≠ o from fun z => w.nin (z ▸ hy)), upd_ne (show y ≠ x from fun z => xin (z ▸ hy))]; exact h2
    · have hi : i = ls.length := by
        have z := (List.getElem?_eq_some_iff.mp h).1
        simp at z; exact AR.n24b z q
      subst hi
      rw [List.getElem?_concat_length] at h
      cases h
      exact (xWP x (by rw [← w.len, List.getElem?_concat_length]) (by rw [upd_ne xo]; exact upd_same))
  · rw [List.nodup_append]
    exact (xPP w.nd (by simp) (fun a ha b hb z => by rw [List.mem_singleton.mp hb] at z; exact xin (z ▸ ha)))
  · intro z
    rcases List.mem_append.mp z with z | z
    · exact w.nin z
    · exact xo (List.mem_singleton.mp z).symm
  · intro y hy
    rcases List.mem_append.mp hy with z | z
    · exact w.news y z
    · rw [List.mem_singleton.mp z]; exact h0
theorem NewL.pop {H0 H : Hp} {o : Addr} {rr : List Addr} {ls : List (List V)} (w : NewL H0 H o rr ls) : NewL H0 (upd H o (.lst (rr.map V.ref).dropLast)) o rr.dropLast ls.dropLast := by
  have sub : ∀ x, x ∈ rr.dropLast → x ∈ rr := fun x hx => (List.dropLast_sublist rr).subset hx
  refine ⟨by rw [← List.map_dropLast]; exact upd_same, by rw [List.length_dropLast, List.length_dropLast, w.len], fun i m h => ?_, w.nd.sublist (List.dropLast_sublist _), fun z => w.nin (sub _ z), w.new, fun x hx => w.news x (sub x hx)⟩
  have hi := (List.getElem?_eq_some_iff.mp h).1
  rw [List.length_dropLast] at hi
  rw [List.getElem?_dropLast, if_pos (by exact hi)] at h
  refine yWP (w.row i m h) fun y h1 h2 => ?_
  exact (xWP y (by rw [List.getElem?_dropLast, if_pos (by rw [w.len]; exact hi)]; exact h1) (by rw [upd_ne (show y ≠ o from fun z => w.nin (z ▸ List.mem_of_getElem? h1))]; exact h2))
end L2
namespace AW
theorem flat_set : ∀ (os : Os) (p : Nat) (l : List Int) (h : p < os.length), (os.set p l).flatten.length + os[p].length = os.flatten.length + l.length
  | [], p, _, h => absurd h (Nat.not_lt_zero _)
  | o :: os, 0, l, _ => by simp; omega
  | o :: os, p + 1, l, h => by
    have := flat_set os p l (by simpa using h)
    simp only [List.set_cons_succ, List.flatten_cons, List.length_append, List.getElem_cons_succ]
    omega
theorem flat_drop (os : Os) : os.dropLast.flatten.length ≤ os.flatten.length := by
  rcases List.eq_nil_or_concat os with rfl | ⟨os', o, rfl⟩
  · exact Nat.le_refl _
  · rw [List.concat_eq_append, List.dropLast_concat, List.flatten_append, List.length_append]; first | exact AR.m1 | omega
end AW

namespace L2
open PySem PyProof.Rows
theorem TsI.put {H : Hp} {a r : Addr} {ts : AW.Ts} {tr : List Addr} (h0 : H a = some (.lst (tr.map V.ref))) (h1 : tr.length = ts.length) (h2 : ∀ (i : Nat) t, ts[i]? = some t → ∃ r, tr[i]? = some r ∧ H r = some (.tup [.int t.1, .int t.2]))
    {x y : Int} (hr : H r = some (.tup [.int x, .int y])) (k : Nat) : TsI (upd H a (.lst ((tr.map V.ref).set k (.ref r)))) a (ts.set k (x, y)) := by
  have ne : ∀ {b : Addr} {l : List V}, H b = some (.tup l) → b ≠ a := fun hb z => by rw [z, h0] at hb; cases hb
  refine (xWPP (tr.set k r) (by rw [← List.map_set]; exact upd_same) (by rw [List.length_set, List.length_set, h1]) (fun i t e => ?_))
  by_cases q : k = i
  · subst q
    by_cases hk : k < ts.length
    · rw [List.getElem?_set_self hk] at e
      cases e
      exact (xWP r (List.getElem?_set_self (by exact AR.n22g h1 hk)) (by rw [upd_ne (ne hr)]; exact hr))
    · rw [List.getElem?_eq_none (by rw [List.length_set]; exact AR.n6 hk)] at e; cases e
  · rw [List.getElem?_set_ne q] at e
    refine yWP (h2 i t e) fun b q1 q2 => ?_
    exact (xWP b (by rw [List.getElem?_set_ne q]; exact q1) (by rw [upd_ne (ne q2)]; exact q2))
theorem TsI.more {H : Hp} {a l : Addr} {ts : AW.Ts} {tr : List Addr} (h1 : tr.length = ts.length) (h2 : ∀ (i : Nat) t, ts[i]? = some t → ∃ r, tr[i]? = some r ∧ H r = some (.tup [.int t.1, .int t.2]))
    {r : Addr} {x y : Int} (hl : H l = some (.lst (tr.map V.ref ++ [.ref r]))) (hr : H r = some (.tup [.int x, .int y])) : TsI H l (ts ++ [(x, y)]) := by
  refine (xWPP (tr ++ [r]) (by rw [hl, List.map_append]; rfl) (by simp [h1]) (fun i t e => ?_))
  by_cases q : i < ts.length
  · rw [List.getElem?_append_left q] at e
    refine yWP (h2 i t e) fun b q1 q2 => ?_
    exact (xWP b (by rw [List.getElem?_append_left (by exact AR.n22g h1 q)]; exact q1) q2)
  · have hi : i = ts.length := by
      have z := (List.getElem?_eq_some_iff.mp e).1
      simp at z; exact AR.n24b z q
    subst hi
    rw [List.getElem?_concat_length] at e
    cases e
    exact (xWP r (by rw [← h1, List.getElem?_concat_length]) hr)
theorem OsI.more {H : Hp} {l : Addr} {os : AW.Os} {tr : List Addr} (h1 : tr.length = os.length) (h2 : ∀ (i : Nat) o, os[i]? = some o → ∃ r, tr[i]? = some r ∧ H r = some (.lst (o.map V.int)))
    {rs : List Addr} {os2 : AW.Os} (hl : H l = some (.lst (tr.map V.ref ++ rs.map V.ref))) (g1 : rs.length = os2.length) (g2 : ∀ (i : Nat) o, os2[i]? = some o → ∃ r, rs[i]? = some r ∧ H r = some (.lst (o.map V.int))) : OsI H l (os ++ os2) := by
  refine (xWPP (tr ++ rs) (by rw [hl, List.map_append]) (by simp [h1, g1]) (fun i t e => ?_))
  by_cases q : i < os.length
  · rw [List.getElem?_append_left q] at e
    refine yWP (h2 i t e) fun b q1 q2 => ?_
    exact (xWP b (by rw [List.getElem?_append_left (by exact AR.n22g h1 q)]; exact q1) q2)
  · rw [List.getElem?_append_right (by exact AR.n6 q)] at e
    refine yWP (g2 _ t e) fun b q1 q2 => ?_
    exact (xWP b (by rw [List.getElem?_append_right (by (first | exact AR.n22b h1 (AR.n6 q) | omega)), h1]; exact q1) q2)
theorem NewL.swap {H0 H : Hp} {o x : Addr} {rr : List Addr} {ls : List (List V)} (w : NewL H0 H o rr ls) {l : List V} (hx : H x = some (.lst l)) (h0 : H0 x = none) (xo : x ≠ o) (xin : x ∉ rr) (p : Nat) :
    NewL H0 (upd H o (.lst ((rr.map V.ref).set p (.ref x)))) o (rr.set p x) (ls.set p l) := by
  have hmem : ∀ y, y ∈ rr.set p x → y ∈ rr ∨ y = x := fun y hy => List.mem_or_eq_of_mem_set hy
  refine ⟨by rw [← List.map_set]; exact upd_same, by rw [List.length_set, List.length_set, w.len], fun i m h => ?_, ?_, ?_, w.new, ?_⟩
  · by_cases q : p = i
    · subst q
      by_cases hp : p < ls.length
      · rw [List.getElem?_set_self hp] at h
        cases h
        exact (xWP x (List.getElem?_set_self (by rw [w.len]; exact hp)) (by rw [upd_ne xo]; exact hx))
      · rw [List.getElem?_eq_none (by rw [List.length_set]; exact AR.n6 hp)] at h; cases h
    · rw [List.getElem?_set_ne q] at h
      refine yWP (w.row i m h) fun y h1 h2 => ?_
      exact (xWP y (by rw [List.getElem?_set_ne q]; exact h1) (by rw [upd_ne (show y ≠ o from fun z => w.nin (z ▸ List.mem_of_getElem? h1))]; exact h2))
  · rw [List.Nodup, List.pairwise_iff_getElem]
    intro i j hi hj hij e
    rw [List.length_set] at hi hj
    rw [List.getElem_set, List.getElem_set] at e
    split at e <;> split at e
    · (clear hi hj e; omega)
    · exact xin (e ▸ List.getElem_mem _)
    · exact xin (e ▸ List.getElem_mem _)
    · exact absurd ((List.getElem_inj w.nd).mp e) (by exact AR.n10 hij)
  · intro z
    rcases hmem _ z with z | z
    · exact w.nin z
    · exact xo z.symm
  · intro y hy
    rcases hmem _ hy with z | z
    · exact w.news y z
    · rw [z]; exact h0
structure Bn (H H1 : Hp) (lT D : Addr) (ts : AW.Ts) (os : AW.Os) (H' : Hp) : Prop where
  same : Same H H'
  sm1 : Same H H1
  tI : TsI H' lT ts
  newT : H lT = none
  oldT : ∃ u, H1 lT = some u
  oN : ∃ rr, NewL H1 H' D rr (vv os)
  dm : ∀ x, H' x = none → H1 x = none
theorem upd_none {H : Hp} {a x : Addr} {u : HO} (h : upd H a u x = none) : H x = none := by
  by_cases e : x = a
  · rw [e, upd_same] at h; cases h
  · rwa [upd_ne e] at h
theorem Bn.keep {H H1 H' H2 : Hp} {lT D : Addr} {ts : AW.Ts} {os : AW.Os} (b : Bn H H1 lT D ts os H') (g : Same H' H2) : Bn H H1 lT D ts os H2 :=
  ⟨b.same.trans g, b.sm1, b.tI.same g, b.newT, b.oldT, let ⟨rr, w⟩ := b.oN; ⟨rr, w.keep g⟩, fun x hx => b.dm x (g.free hx)⟩
theorem Bn.wrT {H H1 H' : Hp} {lT D : Addr} {ts ts' : AW.Ts} {os : AW.Os} (b : Bn H H1 lT D ts os H') {u : HO} (t : TsI (upd H' lT u) lT ts') : Bn H H1 lT D ts' os (upd H' lT u) := by
  obtain ⟨rr, w⟩ := b.oN
  obtain ⟨v, hv⟩ := b.oldT
  exact ⟨b.same.fresh b.newT _, b.sm1, t, b.newT, b.oldT, ⟨rr, w.other (fun z => by rw [z, w.new] at hv; cases hv) (fun z => by rw [w.news _ z] at hv; cases hv) _⟩, fun x hx => b.dm x (upd_none hx)⟩
theorem Bn.wrO {H H1 H' H2 : Hp} {lT D : Addr} {ts : AW.Ts} {os os' : AW.Os} {rr : List Addr} {u : HO} (b : Bn H H1 lT D ts os H') (w : NewL H1 (upd H' D u) D rr (vv os')) (hH : H2 = upd H' D u) : Bn H H1 lT D ts os' H2 := by
  subst hH
  refine yWPP b.tI fun tr h1 h2 h3 => ?_
  obtain ⟨v, hv⟩ := b.oldT
  obtain ⟨rr0, w0⟩ := b.oN
  have nD : H D = none := b.sm1.free w.new
  have nl : lT ≠ D := fun z => by rw [z, w.new] at hv; cases hv
  refine ⟨b.same.fresh nD _, b.sm1, (xWPP tr (by rw [upd_ne nl]; exact h1) h2 (fun i t e => ?_)), b.newT, b.oldT, ⟨rr, w⟩, fun x hx => b.dm x (upd_none hx)⟩
  refine yWP (h3 i t e) fun r q1 q2 => ?_
  exact (xWP r q1 (by rw [upd_ne (show r ≠ D from fun z => by rw [z, w0.at_] at q2; cases q2)]; exact q2))
theorem Bn.web {H H1 H' : Hp} {lT D r : Addr} {m : Int} {ts : AW.Ts} {os : AW.Os} (b : Bn H H1 lT D ts os H') (hr : H' r = none) : WebI (upd H' r (.tup [.int m, .ref lT, .ref D])) r m ts os := by
  obtain ⟨rr, w⟩ := b.oN
  have g := same_new hr (.tup [.int m, .ref lT, .ref D])
  exact (xWWPP lT D upd_same (b.tI.same g) (w.os.same g))
end L2
theorem AW.flat_le : ∀ (os : AW.Os), (∀ o ∈ os, o.length ≤ 4) → os.flatten.length ≤ 4 * os.length
  | [], _ => Nat.le_refl _
  | o :: os, h => by
    have := AW.flat_le os fun o ho => h o (List.mem_cons_of_mem _ ho)
    have := h o (List.mem_cons_self ..)
    rw [List.flatten_cons, List.length_append, List.length_cons]; omega
theorem AW.flat_row (os : AW.Os) (p : Nat) (h : p < os.length) : os[p].length ≤ os.flatten.length := by
  have := AW.flat_set os p [] h
  rw [List.length_nil] at this; omega
theorem L2.rows_vv (os : AW.Os) : ((List.range os.length).map fun i => (os.getD i []).map L2.V.int) = L2.vv os := by
  refine List.ext_getElem? fun i => ?_
  rw [List.getElem?_map, List.getElem?_map]
  by_cases hi : i < os.length
  · rw [List.getElem?_range hi, List.getElem?_eq_getElem hi]
    show some ((os.getD i []).map L2.V.int) = some (os[i].map L2.V.int)
    rw [List.getD_eq_getElem?_getD, List.getElem?_eq_getElem hi]; rfl
  · rw [List.getElem?_eq_none (by simpa using hi), List.getElem?_eq_none (by simpa using hi)]; rfl

namespace K01
open PySem L2 PyProof.Rows
variable {P : Program} {w : World} {K : PySem.W.Frag} {mg : Str → Option Value} {base : Heap} {t : Adr}
def spCellB (K : PySem.W.Frag) (vs : List L2.V) (H : L2.Hp) (Q : L2.VK) (a : Addr) (ns : List Int) (k : Int) : Prop := vs = [.ref a, .int k] ∧ SqL K H a (ns.map V.int) ∧ 0 ≤ k ∧ ∀ c : Int, Q (.int c) H
def spCell (K : PySem.W.Frag) : Sp := fun vs H Q _ => ∃ (a : Addr) (ns : List Int) (k : Int), spCellB K vs H Q a ns k
theorem at_int {ns : List Int} {k : Int} (h0 : 0 ≤ k) (h : k < (ns.length : Int)) : ∃ v : Int, atI (ns.map V.int) k = some (.int v) := by
  have hk : k.toNat < ns.length := by first | exact AR.j21 h0 h | omega
  have ek : k = ((k.toNat : Nat) : Int) := by (first | exact AR.j20 h0 | omega)
  have q : atI (ns.map V.int) ((k.toNat : Nat) : Int) = some (.int ns[k.toNat]) := atI_nat (by rw [List.getElem?_map, List.getElem?_eq_getElem hk] <;> rfl)
  rw [← ek] at q
  exact ⟨_, q⟩
theorem ok_cell (T : Txt K mg t) : FnOk P w K mg base CX0 1 t.a_l_cell_at t.d_l_cell_at ["_law_script", "_law_k"] (spCell K) := by
  refine T.F_l_cell_at.ok sc_l_cell_at (fun vs H Q E h => ?_) (fun cdv A outer s H vs Q E hr h => ?_)
  · refine yWWWP h fun a ns k ye424_3 _ => ?_; try clear h; subst ye424_3; rfl
  refine yWWWPPP h fun a ns k ye425_3 hS h0 q => ?_; try clear h; subst ye425_3
  refine (xWP _ (pss_cons (ps_if (pt_cmpR op_lt (pv 1) (pe_callB call_len_seq rfl T.z_len PySem.boot_len (pa_cons (pv 0) pa_nil)) (nomark _)) (pss_one (ps_ret (pe_ix ix_list (pv 0) (pv 1) (fun _ _ => rfl)))) pss_nil)
    (pss_one (ps_ret pe_int))) ?_)
  refine (xWPWPWWPP _ rfl _ rfl a _ rfl (.inl hS) (xWWPPWP _ _ rfl rfl _ rfl ?_))
  refine ite2 (fun c => ?_) (fun c => ?_)
  · have c' : k < (((ns.map V.int).length : Nat) : Int) := of_decide_eq_true c
    rw [List.length_map] at c'
    obtain ⟨v, hv⟩ := at_int h0 c'
    exact (xWPWP _ rfl _ rfl (xWWWWPPPP a _ _ _ rfl rfl hS hv (q v)))
  · exact q 0

def spMixB (vs : List L2.V) (H : L2.Hp) (Q : L2.VK) (c k : Int) : Prop := vs = [.int c, .int k] ∧ 0 ≤ k ∧ k ≤ 1000 ∧ ∀ m : Int, 0 ≤ m → m < 1000000000 → Q (.int m) H
def spMix : Sp := fun vs H Q _ => ∃ (c k : Int), spMixB vs H Q c k
theorem ok_mix (T : Txt K mg t) : FnOk P w K mg base CX0 1 t.a_l_mix t.d_l_mix ["_law_cell", "_law_k"] spMix := by
  refine T.F_l_mix.ok sc_l_mix (fun vs H Q E h => ?_) (fun cdv A outer s H vs Q E hr h => ?_)
  · refine yWWP h fun a k ye426_2 _ => ?_; try clear h; subst ye426_2; rfl
  refine yWWPPP h fun c k ye427_2 h0 h1 q => ?_; try clear h; subst ye427_2
  have nd := sc_l_mix.nd
  refine (xWP _ (pss_cons (ps_if (pt_cmpR op_ge (pv 0) (pe_op op_pow pe_int pe_int) (nomark _)) (pss_cons (ps_for PassesOwn.never rfl (pi_range1 rfl T.z_range (pa_cons (pv 1) pa_nil)) (pg_name (i := 2) nd rfl (Or.inl rfl)) (pss_one (ps_set (i := 0) nd rfl (Or.inl rfl) (pe_op op_fdiv (pv 0) (pe_op op_pow pe_int pe_int)))))
    (pss_one (ps_ret (pe_op op_mod (pv 0) (pe_op op_pow pe_int pe_int))))) pss_nil)
    (pss_cons (ps_set (i := 3) nd rfl (Or.inl rfl) (pe_op op_mod (pe_op op_mul (pe_op op_add (pe_op op_add (pe_op op_mod (pv 0) pe_int) (pe_op op_mul (pe_op op_mul (pv 1) (pv 1)) pe_int)) (pv 1)) pe_int) pe_int))
    (pss_cons (ps_set (i := 3) nd rfl (Or.inl rfl) (pe_op op_mod (pe_op op_mul (pv 3) (pv 3)) pe_int))
    (pss_one (ps_ret (pe_op op_fdiv (pe_op op_mod (pe_op op_mul (pv 3) (pe_op op_add (pv 3) pe_int)) pe_int) pe_int)))))) ?_)
  have p18 : CPow 10 18 := (xPP (by decide) (by decide) (by decide))
  have p6 : CPow 10 6 := (xPP (by decide) (by decide) (by decide))
  refine (xWPWWPPP _ rfl _ _ rfl rfl p18 (xWWPPWP _ _ rfl rfl _ rfl ?_))
  refine ite2 (fun _ => ?_) (fun _ => ?_)
  · let Pv1 : Nat → L2.St → L2.Hp → Prop := fun _ σ H' => H' = H ∧ ∃ (c' : Int) (o : Option V), σ = [some (.int c'), some (.int k), o, none]
    refine (xWPWPPP _ rfl k rfl (by omega) (by omega) (for_range (lo := 0) (n := k.toNat) Pv1 ⟨rfl, (xWW c none rfl)⟩ ?_ ?_))
    · intro i σ H' hi hq69; obtain ⟨rfl, c', o, rfl⟩ := hq69
      exact (xWPWWPPP _ rfl _ _ rfl rfl p6 (xWWPPPP _ _ rfl rfl ⟨by decide, by decide⟩ rfl (xWW _ _ rfl)))
    · intro σ H' hq70; obtain ⟨rfl, c', o, rfl⟩ := hq70
      refine (xWPWWPPP _ rfl _ _ rfl rfl p6 (xWWPPP _ _ rfl rfl (by show (0 : Int) < 10 ^ 6; decide) (q _ (Int.emod_nonneg _ (by decide)) ?_)))
      exact Int.lt_trans (Int.emod_lt_of_pos _ (by decide)) (by decide)
  · refine (xWPWWPPP _ rfl _ _ rfl rfl (by show (0 : Int) < 1000003; decide) (xWPWPWWPP _ rfl _ rfl _ _ rfl rfl (xPWWPPP (.inl ⟨by omega, by omega⟩) _ _ rfl rfl (.inr ⟨by decide, by decide⟩) (xWWPPWP _ _ rfl rfl _ rfl (xWWPPWWPP _ _ rfl rfl _ _ rfl rfl (xPWWPPP (.inr ⟨by decide, by decide⟩) _ _ rfl rfl (by show (0 : Int) < 2147483629; decide) ?_))))))
    have b1 : ∀ x : Int, 0 ≤ x % 2147483629 ∧ x % 2147483629 < 2147483629 := fun x => ⟨Int.emod_nonneg _ (by decide), Int.emod_lt_of_pos _ (by decide)⟩
    have b2 : ∀ x : Int, 0 ≤ x % 2147483587 ∧ x % 2147483587 < 2147483587 := fun x => ⟨Int.emod_nonneg _ (by decide), Int.emod_lt_of_pos _ (by decide)⟩
    have b3 : ∀ x : Int, 0 ≤ x % 2147483579 ∧ x % 2147483579 < 2147483579 := fun x => ⟨Int.emod_nonneg _ (by decide), Int.emod_lt_of_pos _ (by decide)⟩
    generalize hn1 : ((c % 1000003 + k * k * 7919 + k) * 48271 % 2147483629 : Int) = n1
    have r1 := b1 ((c % 1000003 + k * k * 7919 + k) * 48271)
    rw [hn1] at r1
    refine (xWPWPWWPP _ rfl _ rfl _ _ rfl rfl (xPWWPPP (.inl ⟨by (clear h0 h1 hn1 r1; omega), by (clear h0 h1 hn1 r1; omega)⟩) _ _ rfl rfl (by show (0 : Int) < 2147483587; decide) ?_))
    have r2 := b2 (n1 * n1)
    generalize n1 * n1 % 2147483587 = n2 at r2 ⊢
    refine (xWPWPWWPP _ rfl _ rfl _ _ rfl rfl (xWWPPPWWP _ _ rfl rfl (.inl ⟨by (clear h0 h1 hn1 r1 r2; omega), by (clear h0 h1 hn1 r1 r2; omega)⟩) _ _ rfl (xPPWWPPP rfl (by show (0 : Int) < 2147483579; decide) _ _ rfl rfl ⟨by decide, by decide⟩ ?_)))
    have r3 := b3 (n2 * (n2 + 2))
    generalize n2 * (n2 + 2) % 2147483579 = n3 at r3 ⊢
    exact q _ (by (clear h0 h1 hn1 r1 r2 r3; omega)) (by (clear h0 h1 hn1 r1 r2 r3; omega))
end K01

namespace K01
open PySem L2 PyProof.Rows
variable {P : Program} {w : World} {K : PySem.W.Frag} {mg : Str → Option Value} {base : Heap} {t : Adr}
def spOth : Sp := fun vs H Q _ => ∃ e : Nat, vs = [vn e] ∧ Q (vn (MM.oth e)) H
theorem ok_lother (T : Txt K mg t) : FnOk P w K mg base CX0 1 t.a_l_other t.d_l_other ["_law_end"] spOth := by
  refine T.F_l_other.ok sc_l_other (fun vs H Q E h => ?_) (fun cdv A outer s H vs Q E hr h => ?_)
  · refine yWP h fun e ye428_1 _ => ?_; try clear h; subst ye428_1; rfl
  refine yWP h fun e ye429_1 q => ?_; try clear h; subst ye429_1
  refine (xWP _ (pss_one (ps_ret (pe_op op_sub (pe_op op_add (pv 0) pe_int) (pe_op op_mul pe_int (pe_op op_mod (pv 0) pe_int))))) ?_)
  refine (xWPWWPPWP _ rfl _ _ rfl rfl _ rfl (xWWPPPWWP _ _ rfl rfl (by show (0 : Int) < 2; decide) _ _ rfl (xPPWWPP rfl (.inl ⟨by decide, by decide⟩) _ _ rfl rfl ?_)))
  have e1 : (e : Int) + 1 - 2 * ((e : Int) % 2) = ((MM.oth e : Nat) : Int) := by unfold MM.oth; split <;> omega
  show Q (.int ((e : Int) + 1 - 2 * ((e : Int) % 2))) H
  rw [e1]
  exact q
def spPlaceB (vs : List L2.V) (H : L2.Hp) (Q : L2.VK) (a : Addr) (ts : MM.Ties) (e : Nat) : Prop := vs = [.ref a, vn e] ∧ TsAt H a ts ∧ e < 2 * ts.length ∧ Q (vn (MM.place ts e)) H
def spPlace : Sp := fun vs H Q _ => ∃ (a : Addr) (ts : MM.Ties) (e : Nat), spPlaceB vs H Q a ts e
theorem at_pair {x y : Nat} (e : Nat) : atI [vn x, vn y] ((e : Int) % 2) = some (vn (if e % 2 = 0 then x else y)) := by
  rcases Nat.mod_two_eq_zero_or_one e with h | h
  · rw [show (e : Int) % 2 = 0 by first | exact AR.g359 h | omega, if_pos h]; rfl
  · rw [show (e : Int) % 2 = 1 by omega, if_neg (by first | exact AR.n11 (AR.n22g h (of_decide_eq_true (id (Eq.refl true)))) | omega)]; rfl
theorem ok_lplace (T : Txt K mg t) : FnOk P w K mg base CX0 1 t.a_l_place t.d_l_place ["_law_ties", "_law_end"] spPlace := by
  refine T.F_l_place.ok sc_l_place (fun vs H Q E h => ?_) (fun cdv A outer s H vs Q E hr h => ?_)
  · refine yWWWP h fun a ts e ye430_3 _ => ?_; try clear h; subst ye430_3; rfl
  refine yWWWPPP h fun a ts e ye431_3 ht he q => ?_; try clear h; subst ye431_3
  refine (xWP _ (pss_one (ps_ret (pe_ix ix_seq (pe_ix ix_list (pv 0) (pe_op op_fdiv (pv 1) pe_int) (fun _ _ => rfl)) (pe_op op_mod (pv 1) pe_int) (fun _ _ => rfl)))) ?_)
  obtain ⟨xs, r, h1, h2, h3, h4⟩ := ht.item (i := e / 2) (by first | exact AR.m83 he | omega)
  refine (xWPWPWWPP _ rfl _ rfl _ _ rfl rfl (xPWWWWPPP ⟨by decide, by decide⟩ a xs _ _ rfl rfl (SqL.of h1) ⟨ (by show atI xs ((e : Int) / 2) = _; rw [show (e : Int) / 2 = ((e / 2 : Nat) : Int) by (first | exact AR.j28 | omega)]; exact h3), ?_⟩))
  refine (xWPWWPPP _ rfl _ _ rfl rfl (by show (0 : Int) < 2; decide) (.inr (.inl (xWWWWPPPP r _ _ _ rfl rfl (SqT.of h4) (at_pair e) ?_))))
  unfold MM.place at q
  split
  · rename_i h; rw [if_pos h] at q; exact q
  · rename_i h; rw [if_neg h] at q; exact q
def spBehB (vs : List L2.V) (H : L2.Hp) (Q : L2.VK) (a o : Addr) (ts : MM.Ties) (os : MM.Ords) (e : Nat) : Prop := vs = [.ref a, .ref o, vn e] ∧ TsAt H a ts ∧ OsAt H o os ∧ MM.Good ts os ∧ e < 2 * ts.length ∧ Q (vn (MM.behind ts os e)) H
def spBeh : Sp := fun vs H Q _ => ∃ (a o : Addr) (ts : MM.Ties) (os : MM.Ords) (e : Nat), spBehB vs H Q a o ts os e
theorem ok_lbehind (T : Txt K mg t) : FnOk P w K mg base CX0 2 t.a_l_behind t.d_l_behind ["_law_ties", "_law_orders", "_law_end"] spBeh := by
  have G_l_other := ok_lother (P := P) (w := w) (base := base) T
  have G_l_place := ok_lplace (P := P) (w := w) (base := base) T
  refine T.F_l_behind.ok sc_l_behind (fun vs H Q E h => ?_) (fun cdv A outer s H vs Q E hr h => ?_)
  · refine yWWWWWP h fun a o ts os e ye432_5 _ => ?_; try clear h; subst ye432_5; rfl
  refine yWWWWWPPP h fun a o ts os e ye433_5 ht ho yr433 => ?_; try clear h; subst ye433_5; refine yPP yr433 fun g he q => ?_; try clear yr433
  have nd := sc_l_behind.nd
  refine (xWP _ (pss_cons (ps_set (i := 3) nd rfl (Or.inl rfl) (pe_ix ix_list (pv 1) (pe_call G_l_place (hr.mono (by decide)) rfl T.m_l_place T.k_l_place T.b_l_place .nil pass0 (pa_cons (pv 0) (pa_cons (pe_call G_l_other (hr.mono (by decide)) rfl T.m_l_other T.k_l_other T.b_l_other .nil pass0 (pa_cons (pv 2) pa_nil)) pa_nil))) (fun _ _ => rfl)))
    (pss_one (ps_ret (pe_ix ix_list (pv 3) (pe_op op_sub (pe_bm PySem.F.plainAttrs_list PySem.F.slot_list_index PySem.F.type_list_index mt_index (pv 3) (pa_cons (pe_call G_l_other (hr.mono (by decide)) rfl T.m_l_other T.k_l_other T.b_l_other .nil pass0 (pa_cons (pv 2) pa_nil)) pa_nil)) pe_int) (fun _ _ => rfl))))) ?_)
  have hp := g.g.has (MM.oth e) (MM.oth_lt he)
  refine yWWPPP (ho.item hp.1) fun xs r h1 h2 h3 h4 => ?_
  refine (xWPWPWPWP _ rfl _ rfl _ rfl e rfl (xWWWPPP a ts (MM.oth e) rfl ht (MM.oth_lt he) (xWWWWPPPP o xs _ _ rfl rfl (SqL.of h1) h3 ?_)))
  refine (xWPWPPWP _ rfl _ rfl (.inl ⟨rfl, _, SqL.of h4⟩) _ rfl (xWPWWWPPP e rfl r _ _ rfl rfl h4 (xPWWPP hp.2 _ _ rfl rfl (xWWWWPPPP r _ _ _ rfl rfl (SqL.of h4) (at_prev hp.2) q))))
end K01

namespace L2
open PySem PyProof.Rows
structure NewOs (H H' : Hp) (r : Addr) (rr : List Addr) (ls : MM.Ords) : Prop where
  at_ : H' r = some (.lst (rr.map V.ref))
  len : rr.length = ls.length
  row : ∀ (i : Nat) l, ls[i]? = some l → ∃ x, rr[i]? = some x ∧ H' x = some (.lst (vns l))
  nd : rr.Nodup
  nin : r ∉ rr
  new : H r = none
  news : ∀ x ∈ rr, H x = none
theorem NewOs.os {H H' : Hp} {r : Addr} {rr : List Addr} {ls : MM.Ords} (n : NewOs H H' r rr ls) : OsAt H' r ls := (xWPP rr n.at_ n.len n.row)
theorem NewOs.keep {H H' H2 : Hp} {r : Addr} {rr : List Addr} {ls : MM.Ords} (n : NewOs H H' r rr ls) (g : ∀ b o, b = r ∨ b ∈ rr → H' b = some o → H2 b = some o) : NewOs H H2 r rr ls :=
  ⟨g _ _ (.inl rfl) n.at_, n.len, fun i l h => by refine yWP (n.row i l h) fun x h1 h2 => ?_; exact (xWP x h1 (g _ _ (.inr (List.mem_of_getElem? h1)) h2)), n.nd, n.nin, n.new, n.news⟩
theorem NewOs.ex {H H' : Hp} {r : Addr} {rr : List Addr} {ls : MM.Ords} (n : NewOs H H' r rr ls) {x : Addr} (hx : x ∈ rr) : ∃ l, H' x = some (.lst (vns l)) := by
  obtain ⟨i, hi, rfl⟩ := List.mem_iff_getElem.mp hx
  have hi' : i < ls.length := by rw [← n.len]; exact hi
  refine yWP (n.row i (ls[i]'hi') (List.getElem?_eq_getElem hi')) fun y h1 h2 => ?_
  rw [List.getElem?_eq_getElem hi] at h1
  cases h1
  exact ⟨_, h2⟩
theorem NewOs.push {H H' H2 : Hp} {r x : Addr} {rr : List Addr} {ls : MM.Ords} {l : List Nat} (n : NewOs H H' r rr ls) (hx : H x = none) (hxr : x ∉ rr) (hxn : x ≠ r) (at2 : H2 r = some (.lst ((rr ++ [x]).map V.ref))) (ax : H2 x = some (.lst (vns l)))
    (g : ∀ b o, b ∈ rr → H' b = some o → H2 b = some o) : NewOs H H2 r (rr ++ [x]) (ls ++ [l]) where
  at_ := at2
  len := by rw [List.length_append, List.length_append, n.len]; rfl
  row := fun i m h => by
    rcases Nat.lt_or_ge i ls.length with q | q
    · rw [List.getElem?_append_left q] at h
      refine yWP (n.row i m h) fun y h1 h2 => ?_
      exact (xWP y (by rw [List.getElem?_append_left (by rw [n.len]; exact q)]; exact h1) (g _ _ (List.mem_of_getElem? h1) h2))
    · have hi : i = ls.length := by
        obtain ⟨z, _⟩ := List.getElem?_eq_some_iff.mp h
        rw [List.length_append] at z
        simp at z
        first | exact AR.n24 (AR.m32 z) (AR.n9 q) | omega
      subst hi
      rw [List.getElem?_concat_length] at h
      cases h
      exact (xWP x (by rw [← n.len, List.getElem?_concat_length]) ax)
  nd := by
    rw [List.nodup_append]
    refine (xPP n.nd (by simp) (fun a ha b hb z => ?_))
    have e : b = x := by simpa using hb
    subst e
    subst z
    exact hxr ha
  nin := fun z => by
    rcases List.mem_append.mp z with z | z
    · exact n.nin z
    · have e : r = x := by simpa using z
      exact hxn e.symm
  new := n.new
  news := fun y hy => by
    rcases List.mem_append.mp hy with z | z
    · exact n.news y z
    · have e : y = x := by simpa using z
      subst e
      exact hx
theorem vns_app (l m : List Nat) : vns (l ++ m) = vns l ++ vns m := List.map_append
theorem inV_nat (x : Nat) (l : List Nat) : inV (vn x) (vns l) = decide (x ∈ l) := by
  unfold inV
  rw [Bool.eq_iff_iff, List.any_eq_true, decide_eq_true_iff]
  constructor
  · intro hq71; refine yWP hq71 fun y hy h => ?_; try clear hq71
    refine yWP (List.mem_map.mp hy) fun n hn yr440 => ?_; subst yr440
    have h' : ((n : Int) == (x : Int)) = true := h
    have : n = x := by have := beq_iff_eq.mp h'; first | exact AR.j26 this | omega
    subst this
    exact hn
  · intro h
    exact (xWP (vn x) (List.mem_map.mpr (xWP x h rfl)) (by show ((x : Int) == (x : Int)) = true; simp))
theorem vns_flat (l : List Nat) : (vns l).all flatV = true := by rw [List.all_eq_true]; intro y hy; refine yWP (List.mem_map.mp hy) fun n _ yr441 => ?_; subst yr441; rfl
theorem bds_vns {K : PySem.W.Frag} {H : Hp} : ∀ l : List Nat, Bds K H (vns l) (l.map fun n : Nat => PyData.int (n : Int))
  | [] => .nil
  | n :: l => .cons (.int n) (bds_vns l)
theorem shaped_nats (l : List Nat) : SeqAt.shaped (.list (l.map fun n : Nat => PyData.int (n : Int))) = true := by
  have e : (l.map fun n : Nat => PyData.int (n : Int)) = (l.map fun n : Nat => (n : Int)).map PyData.int := by rw [List.map_map]; rfl
  rw [e]
  generalize (l.map fun n : Nat => (n : Int)) = ns
  simp [SeqAt.shaped, PyData.canLay0, PyData.canLayAll0, PyData.depth, PyData.depthAll, PySem.W.ke_canLayAll0, PySem.W.ke_depthAll]
theorem eqv_nats (l m : List Nat) : PyData.eqv (.list (l.map fun n : Nat => PyData.int (n : Int))) (.list (m.map fun n : Nat => PyData.int (n : Int))) = decide (l = m) := by
  have e : ∀ l : List Nat, (l.map fun n : Nat => PyData.int (n : Int)) = (l.map fun n : Nat => (n : Int)).map PyData.int := fun l => by rw [List.map_map]; rfl
  rw [e, e]
  unfold PyData.eqv
  rw [PySem.W.ked_eqvAll]
  have inj : ∀ l m : List Nat, (l.map fun n : Nat => (n : Int)) = (m.map fun n : Nat => (n : Int)) → l = m := by
    intro l
    induction l with
    | nil => intro m h; cases m with
      | nil => rfl
      | cons _ _ => simp at h
    | cons a l ih => intro m h; cases m with
      | nil => simp at h
      | cons b m =>
        simp only [List.map_cons, List.cons.injEq] at h
        rw [ih m h.2, show a = b by omega]
  by_cases h : l = m
  · subst h; simp
  · rw [decide_eq_false h, decide_eq_false (fun z => h (inj l m z))]
end L2
namespace K01
open PySem L2 PyProof.Rows
variable {P : Program} {w : World} {K : PySem.W.Frag} {mg : Str → Option Value} {base : Heap} {t : Adr}
def spLandsLB (vs : List L2.V) (H : L2.Hp) (Q : L2.VK) (a o : Addr) (ts : MM.Ties) (os : MM.Ords) : Prop := vs = [.ref a, .ref o] ∧ TsAt H a ts ∧ OsAt H o os ∧ MM.Good ts os ∧ ts.length ≤ 500 ∧
  ∀ (r : Addr) (rr : List Addr) (H' : Hp), Same H H' → NewOs H H' r rr (MM.landsOf (MM.behind ts os) (2 * ts.length)) → Q (.ref r) H'
def spLandsL : Sp := fun vs H Q _ => ∃ (a o : Addr) (ts : MM.Ties) (os : MM.Ords), spLandsLB vs H Q a o ts os
theorem ok_llands (T : Txt K mg t) : FnOk P w K mg base CX0 3 t.a_l_lands t.d_l_lands ["_law_ties", "_law_orders"] spLandsL := by
  have G_l_behind := ok_lbehind (P := P) (w := w) (base := base) T
  refine T.F_l_lands.ok sc_l_lands (fun vs H Q E h => ?_) (fun cdv A outer s H vs Q E hr h => ?_)
  · refine yWWWWP h fun a o ts os ye442_4 _ => ?_; try clear h; subst ye442_4; rfl
  refine yWWWWPPPP h fun a o ts os ye443_4 ht ho g yr443 => ?_; try clear h; subst ye443_4; obtain ⟨h500, q⟩ := yr443
  have nd := sc_l_lands.nd
  have nd_l_end_l_land : (["_law_end", "_law_land"] : List Str).Nodup := by decide
  refine (xWP _ (pss_cons (ps_set (i := 2) nd rfl (Or.inl rfl) (pe_lst pa_nil))
    (pss_cons (ps_set (i := 3) nd rfl (Or.inl rfl) (pe_callTy (call_list_rng rfl) rfl T.z_list boot_list (pa_cons (pe_callTy call_range1 rfl T.z_range boot_range (pa_cons (pe_op op_mul pe_int (pe_callB call_len_seq rfl T.z_len PySem.boot_len (pa_cons (pv 0) pa_nil))) pa_nil)) pa_nil)))
    (pss_cons (ps_while PassesOwn.never (pt_cmpR (op_neD hr.units) (pv 3) (pe_lst pa_nil) (nomark _)) (pss_cons (ps_set (i := 4) nd rfl (Or.inr rfl) (pe_lst (pa_cons (pe_ix ix_list (pv 3) pe_int (fun _ _ => rfl)) pa_nil)))
    (pss_cons (ps_set (i := 5) nd rfl (Or.inl rfl) (pe_call G_l_behind (hr.mono (by decide)) rfl T.m_l_behind T.k_l_behind T.b_l_behind .nil pass0 (pa_cons (pv 0) (pa_cons (pv 1) (pa_cons (pe_ix ix_list (pv 3) pe_int (fun _ _ => rfl)) pa_nil)))))
    (pss_cons (ps_while PassesOwn.never (pt_cmpR op_ne (pv 5) (pe_ix ix_list (pv 4) pe_int (fun _ _ => rfl)) (nomark _)) (pss_cons (ps_expr (pe_bm PySem.F.plainAttrs_list PySem.F.slot_list_append PySem.F.type_list_append mt_append (pv 4) (pa_cons (pv 5) pa_nil)))
    (pss_one (ps_set (i := 5) nd rfl (Or.inl rfl) (pe_call G_l_behind (hr.mono (by decide)) rfl T.m_l_behind T.k_l_behind T.b_l_behind .nil pass0 (pa_cons (pv 0) (pa_cons (pv 1) (pa_cons (pv 5) pa_nil))))))))
    (pss_cons (ps_expr (pe_bm PySem.F.plainAttrs_list PySem.F.slot_list_append PySem.F.type_list_append mt_append (pv 2) (pa_cons (pv 4) pa_nil)))
    (pss_one (ps_setComp (i := 3) nd rfl (Or.inl rfl)  (N' := ["_law_end", "_law_land"]) (js := [none, some 4]) rfl (pi_list (pv 3)) (fun _ _ _ _ _ => (pg_name (i := 0) nd_l_end_l_land rfl (Or.inl rfl))) (fun _ _ _ _ _ => (pf_one (pt_cmpR (kop_notIn (K := K) rfl) (pv 0) (pv 1) rfl))) (fun _ _ _ _ _ => (pv 0)))))))))
    (pss_one (ps_ret (pv 2)))))) ?_)
  have m := g.maps
  refine yWPP (id ht) fun tr0 hta htl _ => ?_
  -- told = []
  refine ⟨(by show 0 ≤ sizeLine; decide), fun tr htr => ?_⟩
  have g1 := same_new htr (.lst [])
  -- left = list(range(..))
  refine (xWPWWPP _ rfl a _ rfl (.inl (SqL.of (g1 _ _ hta))) (xWWPPPWP _ _ rfl rfl (.inl ⟨by decide, by decide⟩) _ rfl (fun p hp => ?_)))
  have e2 : (2 : Int) * ((tr0.map V.ref).length : Nat) = ((2 * ts.length : Nat) : Int) := by rw [List.length_map, htl]; push_cast; rfl
  rw [e2] at *
  have g2 := same_new hp (.rng 0 ((2 * ts.length : Nat) : Int))
  refine (xWWPPP p (2 * ts.length) rfl upd_same (by (clear e2; omega)) (fun lr hlr => ?_))
  have g3 := same_new hlr (.lst (vns (List.range (2 * ts.length))))
  have ntl : tr ≠ lr := ne_of_none (g2 _ _ upd_same) hlr
  generalize hf : MM.behind ts os = f at m q
  generalize hN : 2 * ts.length = N at m q hlr g3 g2 hp
  have n0 : NewOs H (upd (upd (upd H tr (.lst [])) p (.rng 0 (N : Int))) lr (.lst (vns (List.range N)))) tr [] [] :=
    ⟨g3 _ _ (g2 _ _ upd_same), rfl, fun i l h => by simp at h, List.nodup_nil, by simp, htr, fun x hx => by cases hx⟩
  let Wv1 : Nat → L2.St → L2.Hp → Prop := fun k σ H1 => ∃ (lr : Addr) (left : List Nat) (rr : List Addr) (done : MM.Ords) (o4 o5 : Option V), k = left.length ∧ σ = [some (.ref a), some (.ref o), some (.ref tr), some (.ref lr), o4, o5] ∧ Same H H1 ∧ H1 lr = some (.lst (vns left)) ∧
    NewOs H H1 tr rr done ∧ lr ≠ tr ∧ done ++ MM.lf f left = MM.landsOf f N ∧ (∀ x ∈ left, x < N) ∧ left.length ≤ N
  refine (xWP Wv1 (xWWWWWWWP _ lr (List.range N) ([]) ([]) none none rfl (xPPPPPPP rfl ((g1.trans g2).trans g3) upd_same n0 (Ne.symm ntl) rfl (fun x hx => List.mem_range.mp hx) (by simp))) ?_)
  clear n0 g3 g2 hp hlr ntl lr p g1
  intro k σ H1 hq72; refine yWWWWWWPP hq72 fun lr left rr done o4 o5 ye445_6 ye445_7 yr445 => ?_; try clear hq72; subst ye445_6; subst ye445_7; refine yPPPPPP yr445 fun g1 el n1 nlt eq hlt hll => ?_; try clear yr445
  refine (xWPP _ rfl (by show 0 ≤ sizeLine; decide) (fun p hp => ?_))
  have gp := same_new hp (.lst [])
  refine (xWWPPPPWP _ _ (.lst (SqL.of (gp _ _ el)) (bds_vns left)) (.lst (SqL.of upd_same) (bds_vns [])) (shaped_nats left) (shaped_nats []) _ rfl ?_)
  rw [eqv_nats]
  have n2 : NewOs H (upd H1 p (.lst [])) tr rr done := n1.keep fun b o' _ h => gp _ _ h
  have g2 := g1.trans gp
  have el2 := gp _ _ el
  generalize upd H1 p (.lst []) = H2 at n2 g2 el2 gp
  clear hp
  cases left with
  | nil =>
    refine iteFb rfl ?_
    rw [MM.lf_nil, List.append_nil] at eq
    exact (xWP _ rfl (q tr rr H2 g2 (eq ▸ n2)))
  | cons e r =>
    refine iteTb (by simp) ?_
    have heN : e < N := hlt e List.mem_cons_self
    obtain ⟨rd, rdN⟩ := MM.per_round m heN
    have hdl : done.length ≤ N := by
      have h1 := MM.lf_len m _ (List.range N) (Nat.le_refl _) (fun x hx => List.mem_range.mp hx)
      have h2 : (done ++ MM.lf f (e :: r)).length = (MM.landsOf f N).length := by rw [eq]
      rw [List.length_append] at h2
      unfold MM.landsOf at h2
      rw [List.length_range] at h1
      (clear h500 e2 hll heN rdN; omega)
    have p1 : atI (vns (e :: r)) 0 = some (vn e) := at_vns (l := e :: r) (j := 0) (by simp) rfl
    -- land = [left[0]]
    refine (xWP _ (fun σ' H' h => h) ?_)
    refine (xWPWWWWPP _ rfl lr _ _ _ rfl rfl (xPPP (SqL.of el2) p1 (by show 1 ≤ sizeLine; decide) (fun la hla => ?_)))
    have g3 := same_new hla (.lst [vn e])
    have nla : la ≠ tr ∧ la ≠ lr ∧ la ∉ rr := by
      refine (xPP ((ne_of_none n2.at_ hla).symm) ((ne_of_none el2 hla).symm) (fun z => ?_))
      obtain ⟨l, hl⟩ := n2.ex z
      rw [hla] at hl; cases hl
    refine (xWPWPWP _ rfl _ rfl _ rfl (xWWWWPPPP lr _ _ _ rfl rfl (SqL.of (g3 _ _ el2)) p1 (xWWWWWPPP a o ts os e rfl ((g2.trans g3).ts ht) ((g2.trans g3).os ho) (xPP g (by rw [hN]; exact heN) ?_))))
    rw [hf]
    -- the way round
    let Wv2 : Nat → L2.St → L2.Hp → Prop := fun k σ H4 => ∃ j, k = MM.per f e - j ∧ 0 < j ∧ j ≤ MM.per f e ∧ σ = [some (.ref a), some (.ref o), some (.ref tr), some (.ref lr), some (.ref la), some (vn (MM.iter f j e))] ∧ (∀ b o, b ≠ la → H2 b = some o → H4 b = some o) ∧ H4 la = some (.lst (vns (MM.path f e j)))
    refine (xWP Wv2 (xWWPPPPP _ 1 rfl Nat.one_pos rd.1 rfl (fun b o' hb h => g3 _ _ h) upd_same) ?_)
    intro k σ H4 hq73; refine yWPPPPP hq73 fun j ye447_1 hj0 hj ye447_4 b4 e4 => ?_; try clear hq73; subst ye447_1; subst ye447_4
    have hH : ∀ b o', H b = some o' → H4 b = some o' := fun b o' h => b4 b o' (ne_of_none (g2 _ _ h) hla) (g2 _ _ h)
    have p0 : atI (vns (MM.path f e j)) 0 = some (vn e) := by
      have hl : 0 < (MM.path f e j).length := by rw [MM.path_len]; exact hj0
      refine (at_vns hl (k := 0) rfl).trans ?_
      congr 2
      unfold MM.path
      simp [List.getD, hj0]
      rfl
    refine (xWPWP _ rfl _ rfl (xWWWWPPPP la _ _ _ rfl rfl (SqL.of e4) p0 (xPWP rfl _ rfl ?_)))
    by_cases hc : MM.iter f j e = e
    · refine iteFb (by rw [hc]; simp) ?_
      have ej : j = MM.per f e := by
        rcases Nat.lt_or_ge j (MM.per f e) with z | z
        · exact absurd hc (rd.2.2 j hj0 z)
        · exact AR.n24' hj z
      subst ej
      -- told.append(land)
      have n4 : NewOs H H4 tr rr done := n2.keep fun b o' hb h => b4 b o' (by rcases hb with rfl | hb; exact Ne.symm nla.1; rintro rfl; exact nla.2.2 hb) h
      refine (xWPPWP _ rfl (.inl ⟨rfl, _, SqL.of n4.at_⟩) _ rfl (xWWWPPPP tr _ _ rfl rfl n4.at_ ?_ ?_))
      · rw [List.length_map, n4.len]; exact Nat.lt_of_le_of_lt (by (clear e2 hll heN rdN hj0 hj hc; omega) : done.length ≤ 1000) (by decide)
      have el5 : (upd H4 tr (.lst (rr.map V.ref ++ [.ref la]))) lr = some (.lst (vns (e :: r))) := by rw [upd_ne nlt]; exact b4 _ _ (Ne.symm nla.2.1) el2
      have la5 : (upd H4 tr (.lst (rr.map V.ref ++ [.ref la]))) la = some (.lst (vns (MM.landOf f e))) := by rw [upd_ne nla.1]; exact e4
      have hH5 : Same H (upd H4 tr (.lst (rr.map V.ref ++ [.ref la]))) := fun b o' h => by rw [upd_ne (ne_of_none h htr)]; exact hH b o' h
      have n5 : NewOs H (upd H4 tr (.lst (rr.map V.ref ++ [.ref la]))) tr (rr ++ [la]) (done ++ [MM.landOf f e]) :=
        n4.push (g2.free hla) nla.2.2 nla.1 (by rw [upd_same, List.map_append]; rfl) la5 fun b o' hb h => by rw [upd_ne (show b ≠ tr from fun z => n4.nin (z ▸ hb))]; exact h
      generalize upd H4 tr (.lst (rr.map V.ref ++ [.ref la])) = H5 at el5 la5 hH5 n5
      refine (xWPWPP _ rfl lr rfl ⟨_, SqL.of el5⟩ (fun D hD => ?_))
      let Pv1 : Nat → List L2.V → L2.Hp → Prop := fun i ys H' => ys = vns (((e :: r).take i).filter fun x => decide (x ∉ MM.landOf f e)) ∧ H' = upd H5 D (.lst ys)
      refine comp_by (e :: r).length Pv1 ⟨by simp, rfl⟩ ?_ ?_
      · intro i ys H' hi hq74; obtain ⟨rfl, rfl⟩ := hq74
        have gD := same_new hD (.lst (vns (((e :: r).take i).filter fun x => decide (x ∉ MM.landOf f e))))
        have hx : (vns (e :: r))[i]? = some (vn (e :: r)[i]) := by rw [List.getElem?_map, List.getElem?_eq_getElem hi]; rfl
        refine ⟨(xWWP _ _ (SqL.of (gD _ _ el5)) hx), ?_⟩
        intro x' H'' hq75; obtain ⟨rfl, hx'⟩ := hq75
        have e6 := hx' _ (SqL.of (gD _ _ el5))
        rw [hx] at e6
        cases e6
        refine ⟨(Fills.refl _).set _ rfl, ?_⟩
        refine (xWPWPWWPP _ rfl _ rfl la _ rfl (.inl (SqL.of (gD _ _ la5))) (xPPWP rfl (vns_flat _) _ rfl ?_))
        rw [inV_nat]
        have ts1 := take_succ_filter (fun x => decide (x ∉ MM.landOf f e)) (e :: r) i _ (List.getElem?_eq_getElem hi)
        have hfl : ((List.take i (e :: r)).filter fun x => decide (x ∉ MM.landOf f e)).length ≤ 1000 := by
          have h1 := List.length_filter_le (fun x => decide (x ∉ MM.landOf f e)) (List.take i (e :: r))
          have h2 : (List.take i (e :: r)).length ≤ (e :: r).length := List.length_take_le' _ _
          (clear e2 heN rdN hdl hj0 hj hc; omega)
        by_cases hxm : (e :: r)[i] ∈ MM.landOf f e
        · refine iteFb (by simp [hxm]) ?_
          show _ = vns (((e :: r).take (i + 1)).filter fun x => decide (x ∉ MM.landOf f e)) ∧ _
          rw [ts1, if_neg (by simp [hxm]), List.append_nil]
          exact ⟨rfl, rfl⟩
        · refine iteTb (by simp [hxm]) ?_
          refine (xWPPPP _ rfl upd_same ?_ ?_ ?_)
          · rw [List.length_map]; exact Nat.lt_of_le_of_lt hfl (by decide)
          · rw [ts1, if_pos (by simp [hxm]), vns_app]; rfl
          · rw [upd_upd]
      · intro ys H' hq76; obtain ⟨rfl, rfl⟩ := hq76
        have gD := same_new hD (.lst (vns (((e :: r).take (e :: r).length).filter fun x => decide (x ∉ MM.landOf f e))))
        refine ⟨(xWP _ (SqL.of (gD _ _ el5)) (by rw [List.length_map]; exact Nat.le_refl _)), ?_⟩
        have sh := MM.filter_shorter m heN r
        refine (xWP _ ?_ (xWWWWWWPP D _ (rr ++ [la]) (done ++ [MM.landOf f e]) _ _ rfl rfl (xPPPPPP (hH5.trans gD) upd_same (n5.keep fun b o' _ h => gD _ _ h) ((ne_of_none n5.at_ hD).symm) ?_ ?_ ?_)))
        · rw [List.take_length]; simp only [List.length_cons]; exact AR.n18u sh
        · rw [List.take_length, List.append_assoc]
          rw [MM.lf_cons m hlt] at eq
          exact eq
        · intro x hx
          rw [List.take_length] at hx
          exact hlt x (List.mem_filter.mp hx).1
        · rw [List.take_length]; simp only [List.length_cons] at hll; (first | exact AR.n4 sh (AR.n16 hll) | omega)
    · refine iteTb (by simp; (clear h500 htl e2 hN hll heN rdN hdl hj0 hj; omega)) ?_
      have hjp := MM.round_more rd hj0 hj hc
      refine (xWP _ (fun σ' H' h => h) ?_)
      refine (xWPPWP _ rfl (.inl ⟨rfl, _, SqL.of e4⟩) _ rfl (xWWWPPPP la _ _ rfl rfl e4 ?_ ?_))
      · rw [List.length_map, MM.path_len]; exact Nat.lt_of_le_of_lt (by (clear e2 hll heN hdl hj0 hj hc; omega) : j ≤ 1000) (by decide)
      have e7 : vns (MM.path f e j) ++ [vn (MM.iter f j e)] = vns (MM.path f e (j + 1)) := by rw [MM.path_succ, vns_app]; rfl
      rw [e7]
      have hH5 : Same H (upd H4 la (.lst (vns (MM.path f e (j + 1))))) := fun b o' h => by rw [upd_ne (ne_of_none (g2 _ _ h) hla)]; exact hH b o' h
      refine (xWPWPWP _ rfl _ rfl _ rfl (xWWWWWPPP a o ts os (MM.iter f j e) rfl (hH5.ts ht) (hH5.os ho) (xPP g (by rw [hN]; exact MM.iter_lt m heN j) ?_)))
      rw [hf]
      exact (xWPWPPPPP (MM.per f e - (j + 1)) (by (first | exact AR.m81 hjp | omega)) (j + 1) rfl (by exact AR.n18s hj0) (by (first | exact AR.m15 hjp | omega)) rfl (fun b o' hb h => by rw [upd_ne hb]; exact b4 b o' hb h) upd_same)
end K01

namespace MM
theorem insAt_mem {l : List Nat} {i x y : Nat} : y ∈ L2.insAt l i x ↔ y = x ∨ y ∈ l := by
  unfold L2.insAt
  rw [List.mem_append, List.mem_cons]
  have h : y ∈ l ↔ y ∈ l.take i ∨ y ∈ l.drop i := by rw [← List.mem_append, List.take_append_drop]
  rw [h]
  constructor
  · rintro (h | h | h)
    · exact .inr (.inl h)
    · exact .inl h
    · exact .inr (.inr h)
  · rintro (h | h | h)
    · exact .inr (.inl h)
    · exact .inl h
    · exact .inr (.inr h)
theorem insAt_nodup {l : List Nat} (nd : l.Nodup) {i x : Nat} (h : x ∉ l) : (L2.insAt l i x).Nodup := by
  unfold L2.insAt
  have p : (l.take i ++ x :: l.drop i).Perm (x :: l) := by
    have q := List.perm_middle (a := x) (l₁ := l.take i) (l₂ := l.drop i)
    rw [List.take_append_drop] at q
    exact q
  exact (p.nodup_iff).mpr (List.nodup_cons.mpr ⟨h, nd⟩)
theorem insAt_len {α : Type} (l : List α) (i : Nat) (x : α) : (L2.insAt l i x).length = l.length + 1 := by
  unfold L2.insAt
  rw [List.length_append, List.length_cons, ← Nat.add_assoc, ← List.length_append, List.take_append_drop]
theorem insAt_vns (l : List Nat) (i x : Nat) : L2.insAt (L2.vns l) i (L2.vn x) = L2.vns (L2.insAt l i x) := by
  unfold L2.insAt L2.vns
  rw [List.map_append, List.map_cons, List.map_take, List.map_drop]
end MM
namespace K01
open PySem L2 PyProof.Rows
variable {P : Program} {w : World} {K : PySem.W.Frag} {mg : Str → Option Value} {base : Heap} {t : Adr}
def spTurnedB (vs : List L2.V) (H : L2.Hp) (Q : L2.VK) (num : Int) (n : Nat) : Prop := vs = [.int num, vn n] ∧ 0 ≤ num ∧ n ≤ 400 ∧ ∀ (r : Addr) (ps : List Nat), H r = none → ps.Nodup → (∀ x ∈ ps, x < n) → ps.length = n → Q (.ref r) (upd H r (.lst (vns ps)))
def spTurned : Sp := fun vs H Q _ => ∃ (num : Int) (n : Nat), spTurnedB vs H Q num n
theorem ok_lturned (T : Txt K mg t) : FnOk P w K mg base CX0 1 t.a_l_turned t.d_l_turned ["_law_number", "_law_many"] spTurned := by
  refine T.F_l_turned.ok sc_l_turned (fun vs H Q E h => ?_) (fun cdv A outer s H vs Q E hr h => ?_)
  · refine yWWP h fun num n ye448_2 _ => ?_; try clear h; subst ye448_2; rfl
  refine yWWPPP h fun num n ye449_2 h0 hn q => ?_; try clear h; subst ye449_2
  have nd := sc_l_turned.nd
  refine (xWP _ (pss_cons (ps_set (i := 2) nd rfl (Or.inl rfl) (pe_lst pa_nil))
    (pss_cons (ps_for PassesOwn.never rfl (pi_range1 rfl T.z_range (pa_cons (pv 1) pa_nil)) (pg_name (i := 3) nd rfl (Or.inl rfl)) (pss_cons (ps_expr (pe_bm PySem.F.plainAttrs_list PySem.F.slot_list_insert PySem.F.type_list_insert mt_insert (pv 2) (pa_cons (pe_op op_mod (pv 0) (pe_op op_add (pv 3) pe_int)) (pa_cons (pv 3) pa_nil))))
    (pss_one (ps_set (i := 0) nd rfl (Or.inl rfl) (pe_op op_fdiv (pv 0) (pe_op op_add (pv 3) pe_int))))))
    (pss_one (ps_ret (pv 2))))) ?_)
  refine ⟨(by show 0 ≤ sizeLine; decide), fun r hr0 => ?_⟩
  let Pv1 : Nat → L2.St → L2.Hp → Prop := fun i σ H' => ∃ (num' : Int) (ps : List Nat) (o : Option V), 0 ≤ num' ∧ σ = [some (.int num'), some (vn n), some (.ref r), o] ∧ H' = upd H r (.lst (vns ps)) ∧ ps.Nodup ∧ (∀ x ∈ ps, x < i) ∧ ps.length = i
  refine (xWPWPPP _ rfl n rfl (by (clear h0; omega)) (by (clear h0; omega)) (for_range (lo := 0) (n := (n : Int).toNat) Pv1
    (xWWWPPPPP num ([]) none h0 rfl rfl List.nodup_nil (fun x hx => by cases hx) rfl) ?_ ?_))
  · intro i σ H' hi hq77; refine yWWWPPPPP hq77 fun num' ps o h0' ye450_4 ye450_5 hnd hlt hl => ?_; try clear hq77; subst ye450_4; subst ye450_5
    have hi' : i < 400 := by (clear h0 h0'; omega)
    have e1 : num' % (0 + (i : Int) + 1) = (((num' % (0 + (i : Int) + 1)).toNat : Nat) : Int) := by
      have := Int.emod_nonneg num' (show (0 + (i : Int) + 1) ≠ 0 by (clear h0 hn hi h0'; omega))
      (first | exact AR.j20 this | omega)
    have e2 : (num' % (0 + (i : Int) + 1)).toNat ≤ i := by
      have := Int.emod_lt_of_pos num' (show 0 < (0 + (i : Int) + 1) by (first | exact AR.g375 hl hi' | omega))
      (clear h0 hn hi h0' hi'; omega)
    refine (xWPPWPWP _ rfl (.inl ⟨rfl, _, SqL.of upd_same⟩) _ rfl _ rfl (xWWPPWWPP _ _ rfl rfl _ _ rfl rfl (xPWPWWWWP (by show (0 : Int) < 0 + (i : Int) + 1; (first | exact AR.g375 hl hi' | omega)) _ rfl r _ ((num' % (0 + (i : Int) + 1)).toNat) (vn i) rfl (xPPPP ?_ upd_same ?_ ?_ ?_))))
    · show [V.int (num' % (0 + (i : Int) + 1)), V.int (0 + (i : Int))] = [V.int (((num' % (0 + (i : Int) + 1)).toNat : Nat) : Int), V.int (i : Int)]
      rw [← e1, Int.zero_add]
    · rw [List.length_map]; exact AR.n22h hl e2
    · rw [List.length_map]; exact Nat.lt_of_le_of_lt (by (first | exact AR.n22b hl (AR.n5' hi' (of_decide_eq_true (id (Eq.refl true)))) | omega) : ps.length ≤ 1000) (by decide)
    refine (xWPWPWWPP _ rfl _ rfl _ _ rfl rfl (xWWPPP _ _ rfl rfl ⟨by show (0 : Int) < 0 + (i : Int) + 1; (first | exact AR.g375 hl hi' | omega), by show 0 + (i : Int) + 1 < 1073741824; (clear h0 hn hi h0' e1 e2; omega)⟩ ?_))
    refine (xWWWPPPPP _ (insAt ps (num' % (0 + (i : Int) + 1)).toNat i) _ ?_ rfl ?_ ?_ ?_ ?_)
    · exact Int.ediv_nonneg h0' (by (clear h0 hn hi h0' e1 e2; omega))
    · rw [upd_upd, MM.insAt_vns]
    · exact MM.insAt_nodup hnd fun z => Nat.lt_irrefl _ (hlt i z)
    · intro x hx
      rcases MM.insAt_mem.mp hx with rfl | hx
      · (first | exact AR.m3 | omega)
      · have := hlt x hx; exact AR.n18s this
    · rw [MM.insAt_len, hl]
  · intro σ H' hq78; refine yWWWPPPPP hq78 fun num' ps o h0' ye451_4 ye451_5 hnd hlt hl => ?_; try clear hq78; subst ye451_4; subst ye451_5
    exact (xWP _ rfl (q r ps hr0 hnd (fun x hx => by have := hlt x hx; (first | exact AR.n2 this (AR.n22 AR.j24) | omega)) (by (first | exact AR.m47 hl AR.j24 | omega))))
def spDigitB (vs : List L2.V) (H : L2.Hp) (Q : L2.VK) (num by_ k : Int) : Prop := vs = [.int num, .int by_, .int k] ∧ 0 < by_ ∧ by_ < 1000 ∧ 0 ≤ k ∧ k ≤ 1000 ∧ ∀ d : Int, 0 ≤ d → d < by_ → Q (.int d) H
def spDigit : Sp := fun vs H Q _ => ∃ (num by_ k : Int), spDigitB vs H Q num by_ k
theorem ok_ldigit (T : Txt K mg t) : FnOk P w K mg base CX0 1 t.a_l_digit t.d_l_digit ["_law_number", "_law_by", "_law_k"] spDigit := by
  refine T.F_l_digit.ok sc_l_digit (fun vs H Q E h => ?_) (fun cdv A outer s H vs Q E hr h => ?_)
  · refine yWWWP h fun num b k ye452_3 _ => ?_; try clear h; subst ye452_3; rfl
  refine yWWWPPPPP h fun num b k ye453_3 hb0 hb hk0 hk q => ?_; try clear h; subst ye453_3
  have nd := sc_l_digit.nd
  refine (xWP _ (pss_cons (ps_for PassesOwn.never rfl (pi_range1 rfl T.z_range (pa_cons (pv 2) pa_nil)) (pg_name (i := 3) nd rfl (Or.inl rfl)) (pss_one (ps_set (i := 0) nd rfl (Or.inl rfl) (pe_op op_fdiv (pv 0) (pv 1)))))
    (pss_one (ps_ret (pe_op op_mod (pv 0) (pv 1))))) ?_)
  let Pv2 : Nat → L2.St → L2.Hp → Prop := fun _ σ H' => H' = H ∧ ∃ (c' : Int) (o : Option V), σ = [some (.int c'), some (.int b), some (.int k), o]
  refine (xWPWPPP _ rfl k rfl (by (clear hb0 hb; omega)) (by (clear hb0 hb; omega)) (for_range (lo := 0) (n := k.toNat) Pv2 ⟨rfl, (xWW num none rfl)⟩ ?_ ?_))
  · intro i σ H' hi hq79; obtain ⟨rfl, c', o, rfl⟩ := hq79
    exact (xWPWPWWPP _ rfl _ rfl _ _ rfl rfl (xPP ⟨hb0, by (first | exact AR.i2 hb (of_decide_eq_true (id (Eq.refl true))) | omega)⟩ rfl (xWW _ _ rfl)))
  · intro σ H' hq80; obtain ⟨rfl, c', o, rfl⟩ := hq80
    exact (xWPWPWWPP _ rfl _ rfl _ _ rfl rfl ⟨ hb0, q _ (Int.emod_nonneg _ (by (first | exact AR.j23 hb0 | omega))) (Int.emod_lt_of_pos _ hb0)⟩)
end K01

namespace MM
theorem mod_ix (pick : Int) {n : Nat} (h : 0 < n) : ∃ i : Nat, i < n ∧ pick % (n : Int) = (i : Int) := by
  have h1 := Int.emod_nonneg pick (show (n : Int) ≠ 0 by first | exact AR.j23 (AR.j16 h) | omega)
  have h2 := Int.emod_lt_of_pos pick (show 0 < (n : Int) by (first | exact AR.j16 h | omega))
  exact (xWP ((pick % (n : Int)).toNat) (by (first | exact AR.j21 h1 h2 | omega)) (by (first | exact AR.j20 h1 | omega)))
theorem place_old {ts : Ties} {t : Nat × Nat} {e : Nat} (h : e < 2 * ts.length) : place (ts ++ [t]) e = place ts e := by
  unfold place
  have : e / 2 < ts.length := by first | exact AR.m83 h | omega
  simp only [List.getD, List.getElem?_append_left this]
theorem place_first (ts : Ties) (t : Nat × Nat) : place (ts ++ [t]) (2 * ts.length) = t.1 := by
  unfold place
  rw [if_pos (by first | exact AR.m86 | omega), show 2 * ts.length / 2 = ts.length by first | exact AR.m85 | omega]
  simp [List.getD]
theorem place_second (ts : Ties) (t : Nat × Nat) : place (ts ++ [t]) (2 * ts.length + 1) = t.2 := by
  unfold place
  rw [if_neg (by first | exact AR.m84 | omega), show (2 * ts.length + 1) / 2 = ts.length by first | exact AR.m87 | omega]
  simp [List.getD]
theorem Good.newPlace {ts : Ties} {os : Ords} (g : Good ts os) {a i : Nat} (ha : a < os.length) (h3 : (row os a).length < 4) :
    Good (ts ++ [(a, os.length)]) ((os.set a (L2.insAt (row os a) i (2 * ts.length))) ++ [[2 * ts.length + 1]]) := by
  have nm : 2 * ts.length ∉ row os a := fun z => by have := (g.g.ends a _ z).1; exact AR.n25a this this
  have g1 := g.g.congr (pl' := place (ts ++ [(a, os.length)])) fun e he => place_old he
  have g2 := g1.add ha (place_first ts _) (l := L2.insAt (row os a) i (2 * ts.length)) (fun x => insAt_mem) (insAt_nodup (g.g.nd a) nm) (by rw [insAt_len]; (first | exact AR.m15 h3 | omega))
  have g3 := g2.new (by rw [List.length_set]; exact place_second ts _)
  refine ⟨?_, by rw [List.length_append]; simp⟩
  rw [List.length_append]
  exact g3
theorem Good.newTie {ts : Ties} {os : Ords} (g : Good ts os) {a b i j : Nat} (ha : a < os.length) (hb : b < os.length) (h1 : (row os a).length < 4) (h2 : (row (os.set a (L2.insAt (row os a) i (2 * ts.length))) b).length < 4) :
    Good (ts ++ [(a, b)]) ((os.set a (L2.insAt (row os a) i (2 * ts.length))).set b (L2.insAt (row (os.set a (L2.insAt (row os a) i (2 * ts.length))) b) j (2 * ts.length + 1))) := by
  have nm : 2 * ts.length ∉ row os a := fun z => by have := (g.g.ends a _ z).1; exact AR.n25a this this
  have g1 := g.g.congr (pl' := place (ts ++ [(a, b)])) fun e he => place_old he
  have g2 := g1.add ha (place_first ts _) (l := L2.insAt (row os a) i (2 * ts.length)) (fun x => insAt_mem) (insAt_nodup (g.g.nd a) nm) (by rw [insAt_len]; (first | exact AR.m15 h1 | omega))
  have nm2 : 2 * ts.length + 1 ∉ row (os.set a (L2.insAt (row os a) i (2 * ts.length))) b := fun z => by have := (g2.ends b _ z).1; exact AR.n25a this this
  have g3 := g2.add (a := b) (by rw [List.length_set]; exact hb) (place_second ts _) (l := L2.insAt (row (os.set a (L2.insAt (row os a) i (2 * ts.length))) b) j (2 * ts.length + 1)) (fun x => insAt_mem) (insAt_nodup (g2.nd b) nm2) (by rw [insAt_len]; (first | exact AR.m15 h2 | omega))
  refine ⟨?_, by rw [List.length_append]; simp⟩
  rw [List.length_append]
  exact g3
theorem landsOf_pos {f : Nat → Nat} {N : Nat} (m : Maps f N) (h : 0 < N) : 0 < (landsOf f N).length := by
  unfold landsOf
  cases N with
  | zero => first | exact AR.m53 h (of_decide_eq_true (id (Eq.refl true))) | omega
  | succ N =>
    have e : List.range (N + 1) = 0 :: (List.range N).map Nat.succ := List.range_succ_eq_map
    have hl : ∀ x ∈ List.range (N + 1), x < N + 1 := fun x hx => List.mem_range.mp hx
    rw [e] at hl ⊢
    rw [lf_cons m hl]
    simp
theorem landsOf_mem {f : Nat → Nat} {N : Nat} (m : Maps f N) {d : List Nat} (h : d ∈ landsOf f N) : 0 < d.length ∧ ∀ x ∈ d, x < N := by
  refine yWP (lf_mem m _ _ (Nat.le_refl _) (fun x hx => List.mem_range.mp hx) d h) fun e he yr454 => ?_; subst yr454
  have heN := List.mem_range.mp he
  exact ⟨(land_len m heN).1, land_lt m heN⟩
end MM
namespace L2
open PySem PyProof.Rows
theorem TsAt.other {H : Hp} {a x : Addr} {ts : MM.Ties} {zs : List V} (h : TsAt H a ts) (hx : H x = some (.lst zs)) (ne : x ≠ a) (o : HO) : TsAt (upd H x o) a ts := by
  refine yWPP h fun tr h1 h2 h3 => ?_; try clear h
  refine (xWPP tr (by rw [upd_ne (Ne.symm ne)]; exact h1) h2 (fun i t ht => ?_))
  refine yWP (h3 i t ht) fun r q1 q2 => ?_
  exact (xWP r q1 (by rw [upd_ne (ne_of q2 hx (fun z => nomatch z))]; exact q2))
theorem TsAt.push {H : Hp} {a r : Addr} {ts : MM.Ties} {xs : List V} {t : Nat × Nat} (h : TsAt H a ts) (hx : H a = some (.lst xs)) (hr : H r = some (.tup [vn t.1, vn t.2])) : TsAt (upd H a (.lst (xs ++ [.ref r]))) a (ts ++ [t]) := by
  refine yWPP h fun tr h1 h2 h3 => ?_; try clear h
  have ex : xs = tr.map V.ref := by rw [hx] at h1; cases h1; rfl
  subst ex
  refine (xWPP (tr ++ [r]) (by rw [upd_same, List.map_append]; rfl) (by rw [List.length_append, List.length_append, h2]; rfl) (fun i u hu => ?_))
  rcases Nat.lt_or_ge i ts.length with q | q
  · rw [List.getElem?_append_left q] at hu
    refine yWP (h3 i u hu) fun y q1 q2 => ?_
    exact (xWP y (by rw [List.getElem?_append_left (by rw [h2]; exact q)]; exact q1) (by rw [upd_ne (ne_of q2 hx (fun z => nomatch z))]; exact q2))
  · have hi : i = ts.length := by
      obtain ⟨z, _⟩ := List.getElem?_eq_some_iff.mp hu
      rw [List.length_append] at z
      simp at z
      (first | exact AR.n24 (AR.m32 z) (AR.n9 q) | omega)
    subst hi
    rw [List.getElem?_concat_length] at hu
    cases hu
    exact (xWP r (by rw [← h2, List.getElem?_concat_length]) (by rw [upd_ne (ne_of hr hx (fun z => nomatch z))]; exact hr))
theorem NewOs.set {H0 H : Hp} {o x : Addr} {rr : List Addr} {os : MM.Ords} (n : NewOs H0 H o rr os) {p : Nat} {l : List Nat} (hx : rr[p]? = some x) : NewOs H0 (upd H x (.lst (vns l))) o rr (os.set p l) where
  at_ := by rw [upd_ne (show o ≠ x from fun z => n.nin (z ▸ List.mem_of_getElem? hx))]; exact n.at_
  len := by rw [List.length_set]; exact n.len
  row := fun i m h => by
    by_cases e : p = i
    · subst e
      have hp : p < os.length := by rw [← n.len]; exact (List.getElem?_eq_some_iff.mp hx).1
      rw [List.getElem?_set_self hp] at h
      cases h
      exact (xWP x hx upd_same)
    · rw [List.getElem?_set_ne e] at h
      refine yWP (n.row i m h) fun y h1 h2 => ?_
      refine (xWP y h1 ?_)
      have ne : y ≠ x := by
        rintro rfl
        obtain ⟨a1, b1⟩ := List.getElem?_eq_some_iff.mp h1
        obtain ⟨a2, b2⟩ := List.getElem?_eq_some_iff.mp hx
        exact e ((List.getElem_inj n.nd).mp (b2.trans b1.symm))
      rw [upd_ne ne]; exact h2
  nd := n.nd
  nin := n.nin
  new := n.new
  news := n.news
theorem NewOs.item {H0 H : Hp} {o : Addr} {rr : List Addr} {os : MM.Ords} (n : NewOs H0 H o rr os) {p : Nat} (hp : p < os.length) : ∃ x, rr[p]? = some x ∧ x ∈ rr ∧ H x = some (.lst (vns (MM.row os p))) ∧ atI (rr.map V.ref) (p : Int) = some (.ref x) := by
  refine yWP (n.row p os[p] (List.getElem?_eq_getElem hp)) fun x h1 h2 => ?_
  refine (xWPPP x h1 (List.mem_of_getElem? h1) ?_ (atI_nat (by rw [List.getElem?_map, h1]; rfl)))
  unfold MM.row
  simp only [List.getD, List.getElem?_eq_getElem hp, Option.getD_some]
  exact h2
structure MapM (H0 H : Hp) (a o : Addr) (rr : List Addr) (ts : MM.Ties) (os : MM.Ords) : Prop where
  ts : TsAt H a ts
  os : NewOs H0 H o rr os
  an : H0 a = none
  ao : a ≠ o
  ar : a ∉ rr
theorem MapM.keep {H0 H H' : Hp} {a o : Addr} {rr : List Addr} {ts : MM.Ties} {os : MM.Ords} (m : MapM H0 H a o rr ts os) (g : Same H H') : MapM H0 H' a o rr ts os := ⟨g.ts m.ts, m.os.keep fun b u _ h => g _ _ h, m.an, m.ao, m.ar⟩
end L2

namespace K01
open PySem L2 PyProof.Rows
variable {P : Program} {w : World} {K : PySem.W.Frag} {mg : Str → Option Value} {base : Heap} {t : Adr}
def spStepB (vs : List L2.V) (H : L2.Hp) (Q : L2.VK) (H0 : Hp) (ta oa : Addr) (pick most : Int) (rr : List Addr) (ts : MM.Ties) (os : MM.Ords) : Prop := vs = [.ref ta, .ref oa, .int pick, .int most] ∧ Same H0 H ∧ MapM H0 H ta oa rr ts os ∧ MM.Good ts os ∧ ts.length ≤ 100 ∧ os.length ≤ 100 ∧ 0 ≤ pick ∧
  ∀ (H' : Hp) (rr' : List Addr) (ts' : MM.Ties) (os' : MM.Ords), Same H0 H' → MapM H0 H' ta oa rr' ts' os' → MM.Good ts' os' → ts'.length ≤ ts.length + 1 → os'.length ≤ os.length + 1 → Q .non H'
def spStep : Sp := fun vs H Q _ => ∃ (H0 : Hp) (ta oa : Addr) (pick most : Int) (rr : List Addr) (ts : MM.Ties) (os : MM.Ords), spStepB vs H Q H0 ta oa pick most rr ts os
theorem ok_lstep (T : Txt K mg t) : FnOk P w K mg base CX0 4 t.a_l_step t.d_l_step ["_law_ties", "_law_orders", "_law_pick", "_law_most"] spStep := by
  have G_l_other := ok_lother (P := P) (w := w) (base := base) T
  have G_l_place := ok_lplace (P := P) (w := w) (base := base) T
  have G_l_lands := ok_llands (P := P) (w := w) (base := base) T
  refine T.F_l_step.ok sc_l_step (fun vs H Q E h => ?_) (fun cdv A outer s H vs Q E hr h => ?_)
  · refine yWWWWWWWW h fun H0 ta oa pick most rr ts os yr461 => ?_; try clear h; obtain ⟨rfl, _⟩ := yr461; rfl
  refine yWWWWWWWW h fun H0 ta oa pick most rr ts os yr462 => ?_; try clear h; refine yPPPPPPP yr462 fun ye463_0 g0 hm g ht100 ho100 hp0 q => ?_; try clear yr462; subst ye463_0
  have nd := sc_l_step.nd
  refine (xWP _ (pss_cons (ps_set (i := 4) nd rfl (Or.inl rfl) (pe_call G_l_lands (hr.mono (by decide)) rfl T.m_l_lands T.k_l_lands T.b_l_lands .nil pass0 (pa_cons (pv 0) (pa_cons (pv 1) pa_nil))))
    (pss_cons (ps_set (i := 5) nd rfl (Or.inl rfl) (pe_ix ix_list (pv 4) (pe_op op_mod (pv 2) (pe_callB call_len_seq rfl T.z_len PySem.boot_len (pa_cons (pv 4) pa_nil))) (fun _ _ => rfl)))
    (pss_cons (ps_set (i := 6) nd rfl (Or.inl rfl) (pe_call G_l_other (hr.mono (by decide)) rfl T.m_l_other T.k_l_other T.b_l_other .nil pass0 (pa_cons (pe_ix ix_list (pv 5) (pe_op op_mod (pe_op op_fdiv (pv 2) pe_int) (pe_callB call_len_seq rfl T.z_len PySem.boot_len (pa_cons (pv 5) pa_nil))) (fun _ _ => rfl)) pa_nil)))
    (pss_cons (ps_set (i := 7) nd rfl (Or.inl rfl) (pe_call G_l_other (hr.mono (by decide)) rfl T.m_l_other T.k_l_other T.b_l_other .nil pass0 (pa_cons (pe_ix ix_list (pv 5) (pe_op op_mod (pe_op op_fdiv (pv 2) pe_int) (pe_callB call_len_seq rfl T.z_len PySem.boot_len (pa_cons (pv 5) pa_nil))) (fun _ _ => rfl)) pa_nil)))
    (pss_cons (ps_set (i := 8) nd rfl (Or.inl rfl) (pe_call G_l_place (hr.mono (by decide)) rfl T.m_l_place T.k_l_place T.b_l_place .nil pass0 (pa_cons (pv 0) (pa_cons (pv 6) pa_nil))))
    (pss_cons (ps_set (i := 9) nd rfl (Or.inl rfl) (pe_call G_l_place (hr.mono (by decide)) rfl T.m_l_place T.k_l_place T.b_l_place .nil pass0 (pa_cons (pv 0) (pa_cons (pv 7) pa_nil))))
    (pss_cons (ps_set (i := 10) nd rfl (Or.inl rfl) (pe_op op_mul pe_int (pe_callB call_len_seq rfl T.z_len PySem.boot_len (pa_cons (pv 0) pa_nil))))
    (pss_one (ps_if (PW.pt (pw_and (pt_cmpR op_eq (pe_op op_mod (pe_op op_fdiv (pv 2) pe_int) pe_int) pe_int (nomark _)) (pw_and (pt_cmpR op_lt (pe_callB call_len_seq rfl T.z_len PySem.boot_len (pa_cons (pv 1) pa_nil)) (pv 3) (nomark _)) (pw_and1 (pt_cmpR op_lt (pe_callB call_len_seq rfl T.z_len PySem.boot_len (pa_cons (pe_ix ix_list (pv 1) (pv 8) (fun _ _ => rfl)) pa_nil)) pe_int (nomark _)))))) (pss_cons (ps_expr (pe_bm PySem.F.plainAttrs_list PySem.F.slot_list_insert PySem.F.type_list_insert mt_insert (pe_ix ix_list (pv 1) (pv 8) (fun _ _ => rfl)) (pa_cons (pe_bm PySem.F.plainAttrs_list PySem.F.slot_list_index PySem.F.type_list_index mt_index (pe_ix ix_list (pv 1) (pv 8) (fun _ _ => rfl)) (pa_cons (pv 6) pa_nil)) (pa_cons (pv 10) pa_nil))))
    (pss_cons (ps_expr (pe_bm PySem.F.plainAttrs_list PySem.F.slot_list_append PySem.F.type_list_append mt_append (pv 0) (pa_cons (pe_tup (pa_cons (pv 8) (pa_cons (pe_callB call_len_seq rfl T.z_len PySem.boot_len (pa_cons (pv 1) pa_nil)) pa_nil))) pa_nil)))
    (pss_one (ps_expr (pe_bm PySem.F.plainAttrs_list PySem.F.slot_list_append PySem.F.type_list_append mt_append (pv 1) (pa_cons (pe_lst (pa_cons (pe_op op_add (pv 10) pe_int) pa_nil)) pa_nil)))))) (pss_one (ps_if (PW.pt (pw_and (pt_cmpR op_lt (pe_callB call_len_seq rfl T.z_len PySem.boot_len (pa_cons (pe_ix ix_list (pv 1) (pv 8) (fun _ _ => rfl)) pa_nil)) (pe_op op_sub pe_int (pe_callTy call_int1 rfl T.z_int boot_int (pa_cons (pe_cmpR op_eq (pv 8) (pv 9) (nomark _)) pa_nil))) (nomark _)) (pw_and1 (pt_cmpR op_lt (pe_callB call_len_seq rfl T.z_len PySem.boot_len (pa_cons (pe_ix ix_list (pv 1) (pv 9) (fun _ _ => rfl)) pa_nil)) (pe_op op_sub pe_int (pe_callTy call_int1 rfl T.z_int boot_int (pa_cons (pe_cmpR op_eq (pv 8) (pv 9) (nomark _)) pa_nil))) (nomark _))))) (pss_cons (ps_expr (pe_bm PySem.F.plainAttrs_list PySem.F.slot_list_insert PySem.F.type_list_insert mt_insert (pe_ix ix_list (pv 1) (pv 8) (fun _ _ => rfl)) (pa_cons (pe_bm PySem.F.plainAttrs_list PySem.F.slot_list_index PySem.F.type_list_index mt_index (pe_ix ix_list (pv 1) (pv 8) (fun _ _ => rfl)) (pa_cons (pv 6) pa_nil)) (pa_cons (pv 10) pa_nil))))
    (pss_cons (ps_expr (pe_bm PySem.F.plainAttrs_list PySem.F.slot_list_insert PySem.F.type_list_insert mt_insert (pe_ix ix_list (pv 1) (pv 9) (fun _ _ => rfl)) (pa_cons (pe_bm PySem.F.plainAttrs_list PySem.F.slot_list_index PySem.F.type_list_index mt_index (pe_ix ix_list (pv 1) (pv 9) (fun _ _ => rfl)) (pa_cons (pv 7) pa_nil)) (pa_cons (pe_op op_add (pv 10) pe_int) pa_nil))))
    (pss_one (ps_expr (pe_bm PySem.F.plainAttrs_list PySem.F.slot_list_append PySem.F.type_list_append mt_append (pv 0) (pa_cons (pe_tup (pa_cons (pv 8) (pa_cons (pv 9) pa_nil))) pa_nil)))))) pss_nil))))))))))) ?_)
  have m := g.maps
  refine (xWPWP _ rfl _ rfl (xWWWWPPPP ta oa ts os rfl hm.ts hm.os.os g ⟨ by (first | exact AR.n4 ht100 (of_decide_eq_true (id (Eq.refl true))) | omega), fun r1 rr1 H1 g1 n1 => ?_⟩))
  have hm1 := hm.keep g1
  have lpos := MM.landsOf_pos m (by have := g.one; (clear ho100 hp0; omega))
  -- land
  have rl1 : (rr1.map V.ref).length = (MM.landsOf (MM.behind ts os) (2 * ts.length)).length := by rw [List.length_map]; exact n1.len
  obtain ⟨k1, hk1, ek1⟩ := MM.mod_ix pick (n := (rr1.map V.ref).length) (by exact AR.n22g rl1 lpos)
  obtain ⟨x1, x11, x12, x13, x14⟩ := n1.item (p := k1) (by exact AR.n22e rl1 hk1)
  obtain ⟨lp, ll⟩ := MM.landsOf_mem m (d := MM.row (MM.landsOf (MM.behind ts os) (2 * ts.length)) k1) (by
    unfold MM.row
    have : k1 < (MM.landsOf (MM.behind ts os) (2 * ts.length)).length := by exact AR.n22e rl1 hk1
    simp only [List.getD, List.getElem?_eq_getElem this, Option.getD_some]
    exact List.getElem_mem this)
  generalize MM.row (MM.landsOf (MM.behind ts os) (2 * ts.length)) k1 = land at x13 lp ll
  have ll1 : (vns land).length = land.length := List.length_map _
  refine (xWPWPWP _ rfl _ rfl _ rfl (xWWPPWWPP r1 _ rfl (.inl (SqL.of n1.at_)) _ _ rfl rfl (xPWWWWPPP (by show (0 : Int) < ((rr1.map V.ref).length : Nat); (first | exact AR.j16 (AR.n22g rl1 lpos) | omega)) r1 _ _ _ rfl rfl (SqL.of n1.at_) ⟨ (by show atI _ (pick % ((rr1.map V.ref).length : Nat)) = _; rw [ek1]; exact x14), ?_⟩)))
  -- one, other_here
  obtain ⟨k2, hk2, ek2⟩ := MM.mod_ix (pick / 8) (n := (vns land).length) (by exact AR.n22g ll1 lp)
  obtain ⟨k3, hk3, ek3⟩ := MM.mod_ix (pick / 128) (n := (vns land).length) (by exact AR.n22g ll1 lp)
  have e2 := ll (land.getD k2 0) (by simp only [List.getD, List.getElem?_eq_getElem (show k2 < land.length by exact AR.n22e ll1 hk2), Option.getD_some]; exact List.getElem_mem _)
  have e3 := ll (land.getD k3 0) (by simp only [List.getD, List.getElem?_eq_getElem (show k3 < land.length by exact AR.n22e ll1 hk3), Option.getD_some]; exact List.getElem_mem _)
  refine (xWPWPWWPP _ rfl _ rfl _ _ rfl rfl (xPWPWWPP ⟨by decide, by decide⟩ _ rfl x1 _ rfl (.inl (SqL.of x13)) (xWWPPP _ _ rfl rfl (by show (0 : Int) < ((vns land).length : Nat); (first | exact AR.j16 (AR.n22g ll1 lp) | omega)) (xWWWWPPPP x1 _ _ _ rfl rfl (SqL.of x13) (by show atI _ (pick / 8 % ((vns land).length : Nat)) = _; rw [ek2]; exact at_vns (by exact AR.n22e ll1 hk2) rfl) (xWP _ rfl ?_)))))
  refine (xWPWPWWPP _ rfl _ rfl _ _ rfl rfl (xPWPWWPP ⟨by decide, by decide⟩ _ rfl x1 _ rfl (.inl (SqL.of x13)) (xWWPPP _ _ rfl rfl (by show (0 : Int) < ((vns land).length : Nat); (first | exact AR.j16 (AR.n22g ll1 lp) | omega)) (xWWWWPPPP x1 _ _ _ rfl rfl (SqL.of x13) (by show atI _ (pick / 128 % ((vns land).length : Nat)) = _; rw [ek3]; exact at_vns (by exact AR.n22e ll1 hk3) rfl) (xWP _ rfl ?_)))))
  generalize land.getD k2 0 = u1 at e2
  generalize land.getD k3 0 = u2 at e3
  have o1 := g.g.has (MM.oth u1) (MM.oth_lt e2)
  have o2 := g.g.has (MM.oth u2) (MM.oth_lt e3)
  have lt1 := MM.oth_lt e2
  have lt2 := MM.oth_lt e3
  generalize MM.oth u1 = one at o1 lt1
  generalize MM.oth u2 = two at o2 lt2
  refine (xWPWPWWWP _ rfl _ rfl ta ts one rfl (xPP hm1.ts lt1 ?_))
  refine (xWPWPWWWP _ rfl _ rfl ta ts two rfl (xPP hm1.ts lt2 ?_))
  obtain ⟨ha0, ha1⟩ := o1
  obtain ⟨hb0, hb1⟩ := o2
  generalize hpa : MM.place ts one = a at ha0 ha1
  generalize hpb : MM.place ts two = b at hb0 hb1
  -- end
  refine yWPP (id hm1.ts) fun tr tr1 tr2 tr3 => ?_
  refine (xWPWWPP _ rfl ta _ rfl (.inl (SqL.of tr1)) (xWWPPP _ _ rfl rfl (.inl ⟨by decide, by decide⟩) ?_))
  have eE : (2 : Int) * ((tr.map V.ref).length : Nat) = ((2 * ts.length : Nat) : Int) := by rw [List.length_map, tr2]; push_cast; rfl
  show gName 10 (V.int ((2 : Int) * ((tr.map V.ref).length : Nat))) _ _ _
  rw [eE]
  have n2 := hm1.os
  have g2 := g0.trans g1
  refine yWPPP (n2.item ha0) fun xa xa1 xa2 xa3 xa4 => ?_
  have hra : ((vns (MM.row os a)).length : Int) = ((MM.row os a).length : Nat) := by rw [List.length_map]
  have hro : ((rr.map V.ref).length : Int) = (os.length : Nat) := by rw [List.length_map, n2.len]
  have nta : ta ≠ xa := fun z => hm1.ar (z ▸ xa2)
  have noa : oa ≠ xa := fun z => n2.nin (z ▸ xa2)
  have ia := List.idxOf_lt_length_of_mem ha1
  -- nothing is put in
  have noneC : Q .non H1 := q H1 rr ts os g2 hm1 g (by (first | exact AR.m1 | omega)) (by (first | exact AR.m1 | omega))
  refine (xWPWWPPP _ rfl _ _ rfl rfl ⟨by decide, by decide⟩ (xWWPPPPWP _ _ rfl rfl (by show (0 : Int) < 3; decide) rfl _ rfl ?_))
  refine ite2 (fun c1 => ?_) (fun c1 => ?_)
  · refine (xWPWWPPWP _ rfl oa _ rfl (.inl (SqL.of n2.at_)) _ rfl (xWWPPWP _ _ rfl rfl _ rfl ?_))
    refine ite2 (fun c2 => ?_) (fun c2 => ?_)
    · refine (xWPWP _ rfl _ rfl (xWWWWPPPP oa _ _ _ rfl rfl (SqL.of n2.at_) xa4 (xWWPPWWPP xa _ rfl (.inl (SqL.of xa3)) _ _ rfl rfl (xWP _ rfl ?_))))
      refine ite2 (fun c3 => ?_) (fun c3 => ?_)
      · have c3' : ((vns (MM.row os a)).length : Int) < 4 := of_decide_eq_true c3
        rw [hra] at c3'
        have h3 : (MM.row os a).length < 4 := by (first | exact AR.j14 (AR.i2 c3' (of_decide_eq_true (id (Eq.refl true)))) | omega)
        refine (xWPWP _ rfl _ rfl (xWWWWPPPP oa _ _ _ rfl rfl (SqL.of n2.at_) xa4 (xPWPWP (.inl ⟨rfl, _, SqL.of xa3⟩) _ rfl _ rfl (xWWWWPPPP oa _ _ _ rfl rfl (SqL.of n2.at_) xa4 (xPWPWWWPP (.inl ⟨rfl, _, SqL.of xa3⟩) _ rfl xa _ one rfl rfl (xPPWP xa3 ha1 _ rfl (xWWWWPPPP xa _ _ _ rfl rfl xa3 ?_ ⟨ ?_, ?_⟩)))))))
        · rw [List.length_map]; exact AR.n1 ia
        · rw [List.length_map]; exact Nat.lt_of_le_of_lt (g.g.four a) (by decide)
        rw [MM.insAt_vns]
        have n3 := n2.set (l := insAt (MM.row os a) ((MM.row os a).idxOf one) (2 * ts.length)) xa1
        have t3 := hm1.ts.other xa3 (Ne.symm nta) (.lst (vns (insAt (MM.row os a) ((MM.row os a).idxOf one) (2 * ts.length))))
        have s3 : Same H0 (upd H1 xa (.lst (vns (insAt (MM.row os a) ((MM.row os a).idxOf one) (2 * ts.length))))) := fun c u h => by rw [upd_ne (ne_of_none h (n2.news _ xa2))]; exact g2 _ _ h
        have gd := g.newPlace (i := (MM.row os a).idxOf one) ha0 h3
        have hol : (os.set a (insAt (MM.row os a) ((MM.row os a).idxOf one) (2 * ts.length))).length = os.length := List.length_set
        generalize upd H1 xa (.lst (vns (insAt (MM.row os a) ((MM.row os a).idxOf one) (2 * ts.length)))) = H3 at n3 t3 s3
        generalize os.set a (insAt (MM.row os a) ((MM.row os a).idxOf one) (2 * ts.length)) = os1 at n3 gd hol
        refine yWPP (id t3) fun tq tq1 tq2 tq3 => ?_
        refine (xWPPWPWP _ rfl (.inl ⟨rfl, _, SqL.of tq1⟩) _ rfl _ rfl (xWWPPP oa _ rfl (.inl (SqL.of n3.at_)) (by show 2 ≤ sizeLine; decide) (fun tp htp => ?_)))
        have e0 : (V.int ((rr.map V.ref).length : Nat)) = vn os.length := by rw [List.length_map, n2.len]
        rw [e0] at *
        have g5 := same_new htp (.tup [vn a, vn os.length])
        refine (xWWWPPPP ta _ _ rfl rfl (g5 _ _ tq1) ?_ ?_)
        · rw [List.length_map, tq2]; exact Nat.lt_of_le_of_lt ht100 (by decide)
        have t5 := (g5.ts t3).push (t := (a, os.length)) (g5 _ _ tq1) upd_same
        have n5 : NewOs H0 (upd (upd H3 tp (.tup [vn a, vn os.length])) ta (.lst (tq.map V.ref ++ [.ref tp]))) oa rr os1 := n3.keep fun c u hc h => by
          rw [upd_ne (show c ≠ ta by rcases hc with rfl | hc; exact Ne.symm hm1.ao; rintro rfl; exact hm1.ar hc)]
          exact g5 _ _ h
        have s5 : Same H0 (upd (upd H3 tp (.tup [vn a, vn os.length])) ta (.lst (tq.map V.ref ++ [.ref tp]))) := fun c u h => by rw [upd_ne (ne_of_none h hm1.an)]; exact g5 _ _ (s3 _ _ h)
        generalize upd (upd H3 tp (.tup [vn a, vn os.length])) ta (.lst (tq.map V.ref ++ [.ref tp])) = H5 at t5 n5 s5
        refine (xWPPWPWWP _ rfl (.inl ⟨rfl, _, SqL.of n5.at_⟩) _ rfl _ _ rfl (xPP rfl (by show 1 ≤ sizeLine; decide) (fun nl hnl => ?_)))
        have e1 : (fun i j : Int => V.int (i + j)) ((2 * ts.length : Nat) : Int) 1 = vn (2 * ts.length + 1) := rfl
        rw [e1] at *
        have g6 := same_new hnl (.lst [vn (2 * ts.length + 1)])
        refine (xWWWPPPP oa _ _ rfl rfl (g6 _ _ n5.at_) ?_ ?_)
        · rw [List.length_map, n5.len, hol]; exact Nat.lt_of_le_of_lt ho100 (by decide)
        have nlr : nl ∉ rr := fun z => by obtain ⟨l, hl⟩ := n5.ex z; rw [hnl] at hl; cases hl
        have nlo : nl ≠ oa := (ne_of_none n5.at_ hnl).symm
        have n6 := n5.push (x := nl) (l := [2 * ts.length + 1]) (H2 := upd (upd H5 nl (.lst [vn (2 * ts.length + 1)])) oa (.lst (rr.map V.ref ++ [.ref nl]))) (s5.free hnl) nlr nlo (by rw [upd_same, List.map_append]; rfl) (by rw [upd_ne nlo]; exact upd_same) (fun c u hc h => by rw [upd_ne (show c ≠ oa from fun z => n5.nin (z ▸ hc))]; exact g6 _ _ h)
        have t6 := (g6.ts t5).other (g6 _ _ n5.at_) (Ne.symm hm1.ao) (.lst (rr.map V.ref ++ [.ref nl]))
        have s6 : Same H0 (upd (upd H5 nl (.lst [vn (2 * ts.length + 1)])) oa (.lst (rr.map V.ref ++ [.ref nl]))) := fun c u h => by rw [upd_ne (ne_of_none h n2.new)]; exact g6 _ _ (s5 _ _ h)
        have tnl : ta ≠ nl := by refine yWP (id t5) fun tq' z1 _ => ?_; exact ne_of_none z1 hnl
        exact q _ (rr ++ [nl]) _ _ s6 ⟨t6, n6, hm1.an, hm1.ao, fun z => (List.mem_append.mp z).elim hm1.ar fun z => tnl (by simpa using z)⟩ gd (by rw [List.length_append]; exact Nat.le_refl _) (by rw [List.length_append, hol]; exact Nat.le_refl _)
      · refine yWPPP (n2.item hb0) fun xb xb1 xb2 xb3 xb4 => ?_
        refine (xWPWP _ rfl _ rfl (xWWWWPPPP oa _ _ _ rfl rfl (SqL.of n2.at_) xa4 (xWWPPWPWP xa _ rfl (.inl (SqL.of xa3)) _ rfl _ rfl ⟨ rfl, .inr (xWP _ rfl ?_)⟩)))
        refine (xWWPPWWPP _ _ rfl rfl _ _ rfl rfl (xWP _ rfl ?_))
        refine ite2 (fun d1 => ?_) (fun d1 => iteFb rfl noneC)
        refine (xWPWP _ rfl _ rfl (xWWWWPPPP oa _ _ _ rfl rfl (SqL.of n2.at_) xb4 (xWWPPWPWP xb _ rfl (.inl (SqL.of xb3)) _ rfl _ rfl ⟨ rfl, .inr (xWP _ rfl ?_)⟩)))
        refine (xWWPPWWPP _ _ rfl rfl _ _ rfl rfl (xWP _ rfl ?_))
        refine ite2 (fun d2 => ?_) (fun d2 => noneC)
        have h12 : (MM.row os a).length < 4 ∧ (MM.row (os.set a (insAt (MM.row os a) ((MM.row os a).idxOf one) (2 * ts.length))) b).length < 4 := by
          have d1' : ((vns (MM.row os a)).length : Int) < 4 - (if decide (vn a = vn b) = true then 1 else 0) := of_decide_eq_true d1
          have d2' : ((vns (MM.row os b)).length : Int) < 4 - (if decide (vn a = vn b) = true then 1 else 0) := of_decide_eq_true d2
          rw [hra] at d1'
          rw [List.length_map] at d2'
          by_cases hab : a = b
          · subst hab
            rw [if_pos (by simp)] at d1'
            rw [MM.row_set_same ha0, MM.insAt_len]
            (first | exact AR.g394 hra d1' | omega)
          · have nab : ¬ (decide (vn a = vn b) = true) := by
              intro z
              have z' := of_decide_eq_true z
              injection z' with z'
              exact hab (by (first | exact AR.j26 z' | omega))
            rw [if_neg nab] at d1' d2'
            rw [MM.row_set_ne (Ne.symm hab)]
            (first | exact AR.m48 (AR.j14 (AR.i2 d1' (of_decide_eq_true (id (Eq.refl true))))) | omega)
        refine (xWPWP _ rfl _ rfl (xWWWWPPPP oa _ _ _ rfl rfl (SqL.of n2.at_) xa4 (xPWPWP (.inl ⟨rfl, _, SqL.of xa3⟩) _ rfl _ rfl (xWWWWPPPP oa _ _ _ rfl rfl (SqL.of n2.at_) xa4 (xPWPWWWPP (.inl ⟨rfl, _, SqL.of xa3⟩) _ rfl xa _ one rfl rfl (xPPWP xa3 ha1 _ rfl (xWWWWPPPP xa _ _ _ rfl rfl xa3 ?_ ⟨ ?_, ?_⟩)))))))
        · rw [List.length_map]; exact AR.n1 ia
        · rw [List.length_map]; exact Nat.lt_of_le_of_lt (g.g.four a) (by decide)
        rw [MM.insAt_vns]
        have n3 := n2.set (l := insAt (MM.row os a) ((MM.row os a).idxOf one) (2 * ts.length)) xa1
        have t3 := hm1.ts.other xa3 (Ne.symm nta) (.lst (vns (insAt (MM.row os a) ((MM.row os a).idxOf one) (2 * ts.length))))
        have s3 : Same H0 (upd H1 xa (.lst (vns (insAt (MM.row os a) ((MM.row os a).idxOf one) (2 * ts.length))))) := fun c u h => by rw [upd_ne (ne_of_none h (n2.news _ xa2))]; exact g2 _ _ h
        have hb2 : two ∈ MM.row (os.set a (insAt (MM.row os a) ((MM.row os a).idxOf one) (2 * ts.length))) b := by
          by_cases hab : b = a
          · subst hab; rw [MM.row_set_same ha0]; exact MM.insAt_mem.mpr (.inr hb1)
          · rw [MM.row_set_ne hab]; exact hb1
        have gd := g.newTie (i := (MM.row os a).idxOf one) (j := (MM.row (os.set a (insAt (MM.row os a) ((MM.row os a).idxOf one) (2 * ts.length))) b).idxOf two) ha0 hb0 h12.1 h12.2
        have hol : (os.set a (insAt (MM.row os a) ((MM.row os a).idxOf one) (2 * ts.length))).length = os.length := List.length_set
        generalize upd H1 xa (.lst (vns (insAt (MM.row os a) ((MM.row os a).idxOf one) (2 * ts.length)))) = H3 at n3 t3 s3
        generalize os.set a (insAt (MM.row os a) ((MM.row os a).idxOf one) (2 * ts.length)) = os1 at n3 hb2 gd h12 hol
        obtain ⟨yb, yb1, yb2, yb3, yb4⟩ := n3.item (p := b) (by exact AR.n22g hol hb0)
        have ib := List.idxOf_lt_length_of_mem hb2
        refine (xWPWP _ rfl _ rfl (xWWWWPPPP oa _ _ _ rfl rfl (SqL.of n3.at_) yb4 (xPWPWP (.inl ⟨rfl, _, SqL.of yb3⟩) _ rfl _ rfl (xWWWWPPPP oa _ _ _ rfl rfl (SqL.of n3.at_) yb4 (xPWPWWWPP (.inl ⟨rfl, _, SqL.of yb3⟩) _ rfl yb _ two rfl rfl (xPPWPWWPP yb3 hb2 _ rfl _ _ rfl rfl (xWWWWPPPP yb _ _ _ rfl rfl yb3 ?_ ⟨ ?_, ?_⟩)))))))
        · rw [List.length_map]; exact AR.n1 ib
        · rw [List.length_map]; exact Nat.lt_trans h12.2 (by decide)
        have e1 : (fun i j : Int => V.int (i + j)) ((2 * ts.length : Nat) : Int) 1 = vn (2 * ts.length + 1) := rfl
        rw [e1, MM.insAt_vns]
        have n4 := n3.set (l := insAt (MM.row os1 b) ((MM.row os1 b).idxOf two) (2 * ts.length + 1)) yb1
        have t4 := t3.other yb3 (fun z => hm1.ar (z ▸ yb2)) (.lst (vns (insAt (MM.row os1 b) ((MM.row os1 b).idxOf two) (2 * ts.length + 1))))
        have s4 : Same H0 (upd H3 yb (.lst (vns (insAt (MM.row os1 b) ((MM.row os1 b).idxOf two) (2 * ts.length + 1))))) := fun c u h => by rw [upd_ne (ne_of_none h (n2.news _ yb2))]; exact s3 _ _ h
        generalize upd H3 yb (.lst (vns (insAt (MM.row os1 b) ((MM.row os1 b).idxOf two) (2 * ts.length + 1)))) = H4 at n4 t4 s4
        refine yWPP (id t4) fun tq tq1 tq2 tq3 => ?_
        refine (xWPPWPWPP _ rfl (.inl ⟨rfl, _, SqL.of tq1⟩) _ rfl _ rfl (by show 2 ≤ sizeLine; decide) (fun tp htp => ?_))
        have g5 := same_new htp (.tup [vn a, vn b])
        refine (xWWWPPPP ta _ _ rfl rfl (g5 _ _ tq1) ?_ ?_)
        · rw [List.length_map, tq2]; exact Nat.lt_of_le_of_lt ht100 (by decide)
        have t5 := (g5.ts t4).push (t := (a, b)) (g5 _ _ tq1) upd_same
        have n5 : NewOs H0 (upd (upd H4 tp (.tup [vn a, vn b])) ta (.lst (tq.map V.ref ++ [.ref tp]))) oa rr (os1.set b (insAt (MM.row os1 b) ((MM.row os1 b).idxOf two) (2 * ts.length + 1))) := n4.keep fun c u hc h => by
          rw [upd_ne (show c ≠ ta by rcases hc with rfl | hc; exact Ne.symm hm1.ao; rintro rfl; exact hm1.ar hc)]
          exact g5 _ _ h
        have s5 : Same H0 (upd (upd H4 tp (.tup [vn a, vn b])) ta (.lst (tq.map V.ref ++ [.ref tp]))) := fun c u h => by rw [upd_ne (ne_of_none h hm1.an)]; exact g5 _ _ (s4 _ _ h)
        exact q _ rr _ _ s5 ⟨t5, n5, hm1.an, hm1.ao, hm1.ar⟩ gd (by rw [List.length_append]; exact Nat.le_refl _) (by rw [List.length_set]; (first | exact AR.n18 (AR.n22 hol) | omega))
    · refine yWPPP (n2.item hb0) fun xb xb1 xb2 xb3 xb4 => ?_
      refine iteFb rfl ?_
      refine (xWPWP _ rfl _ rfl (xWWWWPPPP oa _ _ _ rfl rfl (SqL.of n2.at_) xa4 (xWWPPWPWP xa _ rfl (.inl (SqL.of xa3)) _ rfl _ rfl ⟨ rfl, .inr (xWP _ rfl ?_)⟩)))
      refine (xWWPPWWPP _ _ rfl rfl _ _ rfl rfl (xWP _ rfl ?_))
      refine ite2 (fun d1 => ?_) (fun d1 => iteFb rfl noneC)
      refine (xWPWP _ rfl _ rfl (xWWWWPPPP oa _ _ _ rfl rfl (SqL.of n2.at_) xb4 (xWWPPWPWP xb _ rfl (.inl (SqL.of xb3)) _ rfl _ rfl ⟨ rfl, .inr (xWP _ rfl ?_)⟩)))
      refine (xWWPPWWPP _ _ rfl rfl _ _ rfl rfl (xWP _ rfl ?_))
      refine ite2 (fun d2 => ?_) (fun d2 => noneC)
      have h12 : (MM.row os a).length < 4 ∧ (MM.row (os.set a (insAt (MM.row os a) ((MM.row os a).idxOf one) (2 * ts.length))) b).length < 4 := by
        have d1' : ((vns (MM.row os a)).length : Int) < 4 - (if decide (vn a = vn b) = true then 1 else 0) := of_decide_eq_true d1
        have d2' : ((vns (MM.row os b)).length : Int) < 4 - (if decide (vn a = vn b) = true then 1 else 0) := of_decide_eq_true d2
        rw [hra] at d1'
        rw [List.length_map] at d2'
        by_cases hab : a = b
        · subst hab
          rw [if_pos (by simp)] at d1'
          rw [MM.row_set_same ha0, MM.insAt_len]
          (first | exact AR.g394 hra d1' | omega)
        · have nab : ¬ (decide (vn a = vn b) = true) := by
            intro z
            have z' := of_decide_eq_true z
            injection z' with z'
            exact hab (by (first | exact AR.j26 z' | omega))
          rw [if_neg nab] at d1' d2'
          rw [MM.row_set_ne (Ne.symm hab)]
          (first | exact AR.m48 (AR.j14 (AR.i2 d1' (of_decide_eq_true (id (Eq.refl true))))) | omega)
      refine (xWPWP _ rfl _ rfl (xWWWWPPPP oa _ _ _ rfl rfl (SqL.of n2.at_) xa4 (xPWPWP (.inl ⟨rfl, _, SqL.of xa3⟩) _ rfl _ rfl (xWWWWPPPP oa _ _ _ rfl rfl (SqL.of n2.at_) xa4 (xPWPWWWPP (.inl ⟨rfl, _, SqL.of xa3⟩) _ rfl xa _ one rfl rfl (xPPWP xa3 ha1 _ rfl (xWWWWPPPP xa _ _ _ rfl rfl xa3 ?_ ⟨ ?_, ?_⟩)))))))
      · rw [List.length_map]; exact AR.n1 ia
      · rw [List.length_map]; exact Nat.lt_of_le_of_lt (g.g.four a) (by decide)
      rw [MM.insAt_vns]
      have n3 := n2.set (l := insAt (MM.row os a) ((MM.row os a).idxOf one) (2 * ts.length)) xa1
      have t3 := hm1.ts.other xa3 (Ne.symm nta) (.lst (vns (insAt (MM.row os a) ((MM.row os a).idxOf one) (2 * ts.length))))
      have s3 : Same H0 (upd H1 xa (.lst (vns (insAt (MM.row os a) ((MM.row os a).idxOf one) (2 * ts.length))))) := fun c u h => by rw [upd_ne (ne_of_none h (n2.news _ xa2))]; exact g2 _ _ h
      have hb2 : two ∈ MM.row (os.set a (insAt (MM.row os a) ((MM.row os a).idxOf one) (2 * ts.length))) b := by
        by_cases hab : b = a
        · subst hab; rw [MM.row_set_same ha0]; exact MM.insAt_mem.mpr (.inr hb1)
        · rw [MM.row_set_ne hab]; exact hb1
      have gd := g.newTie (i := (MM.row os a).idxOf one) (j := (MM.row (os.set a (insAt (MM.row os a) ((MM.row os a).idxOf one) (2 * ts.length))) b).idxOf two) ha0 hb0 h12.1 h12.2
      have hol : (os.set a (insAt (MM.row os a) ((MM.row os a).idxOf one) (2 * ts.length))).length = os.length := List.length_set
      generalize upd H1 xa (.lst (vns (insAt (MM.row os a) ((MM.row os a).idxOf one) (2 * ts.length)))) = H3 at n3 t3 s3
      generalize os.set a (insAt (MM.row os a) ((MM.row os a).idxOf one) (2 * ts.length)) = os1 at n3 hb2 gd h12 hol
      obtain ⟨yb, yb1, yb2, yb3, yb4⟩ := n3.item (p := b) (by exact AR.n22g hol hb0)
      have ib := List.idxOf_lt_length_of_mem hb2
      refine (xWPWP _ rfl _ rfl (xWWWWPPPP oa _ _ _ rfl rfl (SqL.of n3.at_) yb4 (xPWPWP (.inl ⟨rfl, _, SqL.of yb3⟩) _ rfl _ rfl (xWWWWPPPP oa _ _ _ rfl rfl (SqL.of n3.at_) yb4 (xPWPWWWPP (.inl ⟨rfl, _, SqL.of yb3⟩) _ rfl yb _ two rfl rfl (xPPWPWWPP yb3 hb2 _ rfl _ _ rfl rfl (xWWWWPPPP yb _ _ _ rfl rfl yb3 ?_ ⟨ ?_, ?_⟩)))))))
      · rw [List.length_map]; exact AR.n1 ib
      · rw [List.length_map]; exact Nat.lt_trans h12.2 (by decide)
      have e1 : (fun i j : Int => V.int (i + j)) ((2 * ts.length : Nat) : Int) 1 = vn (2 * ts.length + 1) := rfl
      rw [e1, MM.insAt_vns]
      have n4 := n3.set (l := insAt (MM.row os1 b) ((MM.row os1 b).idxOf two) (2 * ts.length + 1)) yb1
      have t4 := t3.other yb3 (fun z => hm1.ar (z ▸ yb2)) (.lst (vns (insAt (MM.row os1 b) ((MM.row os1 b).idxOf two) (2 * ts.length + 1))))
      have s4 : Same H0 (upd H3 yb (.lst (vns (insAt (MM.row os1 b) ((MM.row os1 b).idxOf two) (2 * ts.length + 1))))) := fun c u h => by rw [upd_ne (ne_of_none h (n2.news _ yb2))]; exact s3 _ _ h
      generalize upd H3 yb (.lst (vns (insAt (MM.row os1 b) ((MM.row os1 b).idxOf two) (2 * ts.length + 1)))) = H4 at n4 t4 s4
      refine yWPP (id t4) fun tq tq1 tq2 tq3 => ?_
      refine (xWPPWPWPP _ rfl (.inl ⟨rfl, _, SqL.of tq1⟩) _ rfl _ rfl (by show 2 ≤ sizeLine; decide) (fun tp htp => ?_))
      have g5 := same_new htp (.tup [vn a, vn b])
      refine (xWWWPPPP ta _ _ rfl rfl (g5 _ _ tq1) ?_ ?_)
      · rw [List.length_map, tq2]; exact Nat.lt_of_le_of_lt ht100 (by decide)
      have t5 := (g5.ts t4).push (t := (a, b)) (g5 _ _ tq1) upd_same
      have n5 : NewOs H0 (upd (upd H4 tp (.tup [vn a, vn b])) ta (.lst (tq.map V.ref ++ [.ref tp]))) oa rr (os1.set b (insAt (MM.row os1 b) ((MM.row os1 b).idxOf two) (2 * ts.length + 1))) := n4.keep fun c u hc h => by
        rw [upd_ne (show c ≠ ta by rcases hc with rfl | hc; exact Ne.symm hm1.ao; rintro rfl; exact hm1.ar hc)]
        exact g5 _ _ h
      have s5 : Same H0 (upd (upd H4 tp (.tup [vn a, vn b])) ta (.lst (tq.map V.ref ++ [.ref tp]))) := fun c u h => by rw [upd_ne (ne_of_none h hm1.an)]; exact g5 _ _ (s4 _ _ h)
      exact q _ rr _ _ s5 ⟨t5, n5, hm1.an, hm1.ao, hm1.ar⟩ gd (by rw [List.length_append]; exact Nat.le_refl _) (by rw [List.length_set]; (first | exact AR.n18 (AR.n22 hol) | omega))
  · refine yWPPP (n2.item hb0) fun xb xb1 xb2 xb3 xb4 => ?_
    refine iteFb rfl ?_
    refine (xWPWP _ rfl _ rfl (xWWWWPPPP oa _ _ _ rfl rfl (SqL.of n2.at_) xa4 (xWWPPWPWP xa _ rfl (.inl (SqL.of xa3)) _ rfl _ rfl ⟨ rfl, .inr (xWP _ rfl ?_)⟩)))
    refine (xWWPPWWPP _ _ rfl rfl _ _ rfl rfl (xWP _ rfl ?_))
    refine ite2 (fun d1 => ?_) (fun d1 => iteFb rfl noneC)
    refine (xWPWP _ rfl _ rfl (xWWWWPPPP oa _ _ _ rfl rfl (SqL.of n2.at_) xb4 (xWWPPWPWP xb _ rfl (.inl (SqL.of xb3)) _ rfl _ rfl ⟨ rfl, .inr (xWP _ rfl ?_)⟩)))
    refine (xWWPPWWPP _ _ rfl rfl _ _ rfl rfl (xWP _ rfl ?_))
    refine ite2 (fun d2 => ?_) (fun d2 => noneC)
    have h12 : (MM.row os a).length < 4 ∧ (MM.row (os.set a (insAt (MM.row os a) ((MM.row os a).idxOf one) (2 * ts.length))) b).length < 4 := by
      have d1' : ((vns (MM.row os a)).length : Int) < 4 - (if decide (vn a = vn b) = true then 1 else 0) := of_decide_eq_true d1
      have d2' : ((vns (MM.row os b)).length : Int) < 4 - (if decide (vn a = vn b) = true then 1 else 0) := of_decide_eq_true d2
      rw [hra] at d1'
      rw [List.length_map] at d2'
      by_cases hab : a = b
      · subst hab
        rw [if_pos (by simp)] at d1'
        rw [MM.row_set_same ha0, MM.insAt_len]
        (first | exact AR.g394 hra d1' | omega)
      · have nab : ¬ (decide (vn a = vn b) = true) := by
          intro z
          have z' := of_decide_eq_true z
          injection z' with z'
          exact hab (by (first | exact AR.j26 z' | omega))
        rw [if_neg nab] at d1' d2'
        rw [MM.row_set_ne (Ne.symm hab)]
        (first | exact AR.m48 (AR.j14 (AR.i2 d1' (of_decide_eq_true (id (Eq.refl true))))) | omega)
    refine (xWPWP _ rfl _ rfl (xWWWWPPPP oa _ _ _ rfl rfl (SqL.of n2.at_) xa4 (xPWPWP (.inl ⟨rfl, _, SqL.of xa3⟩) _ rfl _ rfl (xWWWWPPPP oa _ _ _ rfl rfl (SqL.of n2.at_) xa4 (xPWPWWWPP (.inl ⟨rfl, _, SqL.of xa3⟩) _ rfl xa _ one rfl rfl (xPPWP xa3 ha1 _ rfl (xWWWWPPPP xa _ _ _ rfl rfl xa3 ?_ ⟨ ?_, ?_⟩)))))))
    · rw [List.length_map]; exact AR.n1 ia
    · rw [List.length_map]; exact Nat.lt_of_le_of_lt (g.g.four a) (by decide)
    rw [MM.insAt_vns]
    have n3 := n2.set (l := insAt (MM.row os a) ((MM.row os a).idxOf one) (2 * ts.length)) xa1
    have t3 := hm1.ts.other xa3 (Ne.symm nta) (.lst (vns (insAt (MM.row os a) ((MM.row os a).idxOf one) (2 * ts.length))))
    have s3 : Same H0 (upd H1 xa (.lst (vns (insAt (MM.row os a) ((MM.row os a).idxOf one) (2 * ts.length))))) := fun c u h => by rw [upd_ne (ne_of_none h (n2.news _ xa2))]; exact g2 _ _ h
    have hb2 : two ∈ MM.row (os.set a (insAt (MM.row os a) ((MM.row os a).idxOf one) (2 * ts.length))) b := by
      by_cases hab : b = a
      · subst hab; rw [MM.row_set_same ha0]; exact MM.insAt_mem.mpr (.inr hb1)
      · rw [MM.row_set_ne hab]; exact hb1
    have gd := g.newTie (i := (MM.row os a).idxOf one) (j := (MM.row (os.set a (insAt (MM.row os a) ((MM.row os a).idxOf one) (2 * ts.length))) b).idxOf two) ha0 hb0 h12.1 h12.2
    have hol : (os.set a (insAt (MM.row os a) ((MM.row os a).idxOf one) (2 * ts.length))).length = os.length := List.length_set
    generalize upd H1 xa (.lst (vns (insAt (MM.row os a) ((MM.row os a).idxOf one) (2 * ts.length)))) = H3 at n3 t3 s3
    generalize os.set a (insAt (MM.row os a) ((MM.row os a).idxOf one) (2 * ts.length)) = os1 at n3 hb2 gd h12 hol
    obtain ⟨yb, yb1, yb2, yb3, yb4⟩ := n3.item (p := b) (by exact AR.n22g hol hb0)
    have ib := List.idxOf_lt_length_of_mem hb2
    refine (xWPWP _ rfl _ rfl (xWWWWPPPP oa _ _ _ rfl rfl (SqL.of n3.at_) yb4 (xPWPWP (.inl ⟨rfl, _, SqL.of yb3⟩) _ rfl _ rfl (xWWWWPPPP oa _ _ _ rfl rfl (SqL.of n3.at_) yb4 (xPWPWWWPP (.inl ⟨rfl, _, SqL.of yb3⟩) _ rfl yb _ two rfl rfl (xPPWPWWPP yb3 hb2 _ rfl _ _ rfl rfl (xWWWWPPPP yb _ _ _ rfl rfl yb3 ?_ ⟨ ?_, ?_⟩)))))))
    · rw [List.length_map]; exact AR.n1 ib
    · rw [List.length_map]; exact Nat.lt_trans h12.2 (by decide)
    have e1 : (fun i j : Int => V.int (i + j)) ((2 * ts.length : Nat) : Int) 1 = vn (2 * ts.length + 1) := rfl
    rw [e1, MM.insAt_vns]
    have n4 := n3.set (l := insAt (MM.row os1 b) ((MM.row os1 b).idxOf two) (2 * ts.length + 1)) yb1
    have t4 := t3.other yb3 (fun z => hm1.ar (z ▸ yb2)) (.lst (vns (insAt (MM.row os1 b) ((MM.row os1 b).idxOf two) (2 * ts.length + 1))))
    have s4 : Same H0 (upd H3 yb (.lst (vns (insAt (MM.row os1 b) ((MM.row os1 b).idxOf two) (2 * ts.length + 1))))) := fun c u h => by rw [upd_ne (ne_of_none h (n2.news _ yb2))]; exact s3 _ _ h
    generalize upd H3 yb (.lst (vns (insAt (MM.row os1 b) ((MM.row os1 b).idxOf two) (2 * ts.length + 1)))) = H4 at n4 t4 s4
    refine yWPP (id t4) fun tq tq1 tq2 tq3 => ?_
    refine (xWPPWPWPP _ rfl (.inl ⟨rfl, _, SqL.of tq1⟩) _ rfl _ rfl (by show 2 ≤ sizeLine; decide) (fun tp htp => ?_))
    have g5 := same_new htp (.tup [vn a, vn b])
    refine (xWWWPPPP ta _ _ rfl rfl (g5 _ _ tq1) ?_ ?_)
    · rw [List.length_map, tq2]; exact Nat.lt_of_le_of_lt ht100 (by decide)
    have t5 := (g5.ts t4).push (t := (a, b)) (g5 _ _ tq1) upd_same
    have n5 : NewOs H0 (upd (upd H4 tp (.tup [vn a, vn b])) ta (.lst (tq.map V.ref ++ [.ref tp]))) oa rr (os1.set b (insAt (MM.row os1 b) ((MM.row os1 b).idxOf two) (2 * ts.length + 1))) := n4.keep fun c u hc h => by
      rw [upd_ne (show c ≠ ta by rcases hc with rfl | hc; exact Ne.symm hm1.ao; rintro rfl; exact hm1.ar hc)]
      exact g5 _ _ h
    have s5 : Same H0 (upd (upd H4 tp (.tup [vn a, vn b])) ta (.lst (tq.map V.ref ++ [.ref tp]))) := fun c u h => by rw [upd_ne (ne_of_none h hm1.an)]; exact g5 _ _ (s4 _ _ h)
    exact q _ rr _ _ s5 ⟨t5, n5, hm1.an, hm1.ao, hm1.ar⟩ gd (by rw [List.length_append]; exact Nat.le_refl _) (by rw [List.length_set]; (first | exact AR.n18 (AR.n22 hol) | omega))
end K01

namespace MM
theorem surj {f : Nat → Nat} {N : Nat} (m : Maps f N) {y : Nat} (hy : y < N) : ∃ x, x < N ∧ f x = y := by
  refine yWPP (comes_round m hy) fun k h0 _ h => ?_
  refine (xWP (iter f (k - 1) y) (iter_lt m hy _) ?_)
  have e : k = (k - 1) + 1 := by (first | exact AR.m46 (AR.m78 h0) | omega)
  rw [e] at h
  exact h
theorem maps_of {l : List Nat} (nd : l.Nodup) (h : ∀ x ∈ l, x < l.length) : Maps (fun i => l.getD i 0) l.length where
  lt := fun e he => h _ (by simp only [List.getD, List.getElem?_eq_getElem he, Option.getD_some]; exact List.getElem_mem he)
  inj := fun a b ha hb q => by
    simp only [List.getD, List.getElem?_eq_getElem ha, List.getElem?_eq_getElem hb, Option.getD_some] at q
    exact (List.getElem_inj nd).mp q
end MM

namespace L2
open PySem PyProof.Rows
theorem cut_from (l : List Nat) {k : Nat} (h : k ≤ l.length) : cutV (vns l) (some (k : Int)) none = vns (l.drop k) := by
  unfold cutV
  have e : (vns l).length = l.length := List.length_map _
  rw [HT.sIx_nat, HT.sIx_none, e, Nat.min_eq_left h]
  have e2 : (vns l).drop k = vns (l.drop k) := by unfold vns; rw [List.map_drop]
  rw [e2]
  exact List.take_of_length_le (by rw [List.length_map, List.length_drop]; exact Nat.le_refl _)
theorem cut_to (l : List Nat) {k : Nat} (h : k ≤ l.length) : cutV (vns l) none (some (k : Int)) = vns (l.take k) := by
  unfold cutV
  have e : (vns l).length = l.length := List.length_map _
  rw [HT.sIx_nat, HT.sIx_none, e, Nat.min_eq_left h, List.drop_zero, Nat.sub_zero]
  unfold vns
  rw [List.map_take]
theorem ixN_nat {n j : Nat} (h : j < n) : ixN n (j : Int) = some j := by
  unfold ixN
  rw [if_pos (by (first | exact AR.j11 | omega)), if_pos (by first | exact AR.j12 h | omega)]
  simp
theorem rot_perm (l : List Nat) (k : Nat) : (l.drop k ++ l.take k).Perm l := by
  have h := List.perm_append_comm (l₁ := l.drop k) (l₂ := l.take k)
  rw [List.take_append_drop] at h
  exact h
end L2

namespace MM
theorem Good.tie {ts : Ties} {os : Ords} (g : Good ts os) {i : Nat} (hi : i < ts.length) : (ts.getD i (0, 0)).1 < os.length ∧ (ts.getD i (0, 0)).2 < os.length := by
  have h1 := (g.g.has (2 * i) (by omega)).1
  have h2 := (g.g.has (2 * i + 1) (by (clear h1; omega))).1
  unfold place at h1 h2
  rw [if_pos (by (first | exact AR.m86 | omega)), show 2 * i / 2 = i by (first | exact AR.m85 | omega)] at h1
  rw [if_neg (by (first | exact AR.m84 | omega)), show (2 * i + 1) / 2 = i by (first | exact AR.m87 | omega)] at h2
  exact ⟨h1, h2⟩
end MM
namespace L2
open PySem PyProof.Rows
theorem TsI.push {H : Hp} {D p : Addr} {ts : AW.Ts} {ys : List V} (h : TsI H D ts) (hD : H D = some (.lst ys)) {x y : Int} (hp : H p = some (.tup [.int x, .int y])) : TsI (upd H D (.lst (ys ++ [.ref p]))) D (ts ++ [(x, y)]) := by
  refine yWPP h fun tr e1 e2 e3 => ?_; try clear h
  rw [hD] at e1
  cases e1
  have ne : ∀ {b : Addr} {l : List V}, H b = some (.tup l) → b ≠ D := fun hb z => by rw [z, hD] at hb; cases hb
  exact TsI.more (a := D) e2 (fun j t e => let ⟨r, q1, q2⟩ := e3 j t e; (xWP r q1 (by rw [upd_ne (ne q2)]; exact q2))) upd_same (by rw [upd_ne (ne hp)]; exact hp)
theorem TsI.len {H : Hp} {D : Addr} {ts : AW.Ts} {ys : List V} (h : TsI H D ts) (hD : H D = some (.lst ys)) : ys.length = ts.length := by
  refine yWPP h fun tr e1 e2 e3 => ?_; try clear h
  rw [hD] at e1
  cases e1
  rw [List.length_map, e2]
end L2
namespace K01
open PySem L2 PyProof.Rows
variable {P : Program} {w : World} {K : PySem.W.Frag} {mg : Str → Option Value} {base : Heap} {t : Adr}
def spRenamedB (vs : List L2.V) (H : L2.Hp) (Q : L2.VK) (ta oa : Addr) (c : Int) (ts : MM.Ties) (os : MM.Ords) : Prop := vs = [.ref ta, .ref oa, .int c] ∧ TsAt H ta ts ∧ OsAt H oa os ∧ MM.Good ts os ∧ ts.length ≤ 400 ∧ os.length ≤ 400 ∧
  ∀ (r : Addr) (m : Int) (ts' : AW.Ts) (os' : AW.Os) (H' : Hp), Same H H' → WebI H' r m ts' os' → ts'.length = ts.length → os'.length = os.length → (∀ o ∈ os', 0 < o.length ∧ o.length ≤ 4) → Q (.ref r) H'
def spRenamed : Sp := fun vs H Q _ => ∃ (ta oa : Addr) (c : Int) (ts : MM.Ties) (os : MM.Ords), spRenamedB vs H Q ta oa c ts os
theorem ok_lrenamed (T : Txt K mg t) : FnOk P w K mg base CX0 2 t.a_l_renamed t.d_l_renamed ["_law_ties", "_law_orders", "_law_cell"] spRenamed := by
  have G_l_turned := ok_lturned (P := P) (w := w) (base := base) T
  have G_l_mix := ok_mix (P := P) (w := w) (base := base) T
  have G_l_digit := ok_ldigit (P := P) (w := w) (base := base) T
  refine T.F_l_renamed.ok sc_l_renamed (fun vs H Q E h => ?_) (fun cdv A outer s H vs Q E hr h => ?_)
  · refine yWWWWWP h fun ta oa c ts os ye477_5 _ => ?_; try clear h; subst ye477_5; rfl
  refine yWWWWWPPP h fun ta oa c ts os ye478_5 ht ho yr478 => ?_; try clear h; subst ye478_5; refine yPPP yr478 fun g ht400 ho400 q => ?_; try clear yr478
  have nd := sc_l_renamed.nd
  have nd_l_end_l_names : (["_law_end", "_law_names"] : List Str).Nodup := by decide
  have nd_l_order : (["_law_order"] : List Str).Nodup := by decide
  have nd_l_tie : (["_law_tie"] : List Str).Nodup := by decide
  refine (xWP _ (pss_cons (ps_set (i := 3) nd rfl (Or.inl rfl) (pe_call G_l_turned (hr.mono (by decide)) rfl T.m_l_turned T.k_l_turned T.b_l_turned .nil pass0 (pa_cons (pe_call G_l_mix (hr.mono (by decide)) rfl T.m_l_mix T.k_l_mix T.b_l_mix .nil pass0 (pa_cons (pv 2) (pa_cons pe_int pa_nil))) (pa_cons (pe_callB call_len_seq rfl T.z_len PySem.boot_len (pa_cons (pv 1) pa_nil)) pa_nil))))
    (pss_cons (ps_set (i := 4) nd rfl (Or.inl rfl) (pe_call G_l_turned (hr.mono (by decide)) rfl T.m_l_turned T.k_l_turned T.b_l_turned .nil pass0 (pa_cons (pe_call G_l_mix (hr.mono (by decide)) rfl T.m_l_mix T.k_l_mix T.b_l_mix .nil pass0 (pa_cons (pv 2) (pa_cons pe_int pa_nil))) (pa_cons (pe_callB call_len_seq rfl T.z_len PySem.boot_len (pa_cons (pv 0) pa_nil)) pa_nil))))
    (pss_cons (ps_set (i := 5) nd rfl (Or.inr rfl) (pe_lst pa_nil))
    (pss_cons (ps_setComp (i := 6) nd rfl (Or.inl rfl)  (N' := ["_law_tie"]) (js := [none]) rfl (pi_list (pv 0)) (fun _ _ _ _ _ => (pg_name (i := 0) nd_l_tie rfl (Or.inl rfl))) (fun _ _ _ _ _ => pf_nil) (fun _ _ _ _ _ => (pe_tup (pa_cons pe_int (pa_cons pe_int pa_nil)))))
    (pss_cons (ps_for PassesOwn.never rfl (pi_enum rfl T.z_enumerate (pa_cons (pv 0) pa_nil)) (pg_tup rfl (pgs_cons (pg_name (i := 7) nd rfl (Or.inl rfl)) (pgs_cons (pg_tup rfl (pgs_cons (pg_name (i := 8) nd rfl (Or.inl rfl)) (pgs_cons (pg_name (i := 9) nd rfl (Or.inl rfl)) pgs_nil))) pgs_nil))) (pss_cons (ps_set (i := 10) nd rfl (Or.inl rfl) (pe_call G_l_digit (hr.mono (by decide)) rfl T.m_l_digit T.k_l_digit T.b_l_digit .nil pass0 (pa_cons (pe_call G_l_mix (hr.mono (by decide)) rfl T.m_l_mix T.k_l_mix T.b_l_mix .nil pass0 (pa_cons (pv 2) (pa_cons pe_int pa_nil))) (pa_cons pe_int (pa_cons (pv 7) pa_nil)))))
    (pss_cons (ps_asg (pe_ix ix_list (pe_lst (pa_cons (pe_tup (pa_cons (pe_ix ix_list (pv 3) (pv 8) (fun _ _ => rfl)) (pa_cons (pe_ix ix_list (pv 3) (pv 9) (fun _ _ => rfl)) pa_nil))) (pa_cons (pe_tup (pa_cons (pe_ix ix_list (pv 3) (pv 9) (fun _ _ => rfl)) (pa_cons (pe_ix ix_list (pv 3) (pv 8) (fun _ _ => rfl)) pa_nil))) pa_nil))) (pv 10) (fun _ _ => rfl)) (pg_sub (pv 6) (pe_ix ix_list (pv 4) (pv 7) (fun _ _ => rfl)) set_list))
    (pss_one (ps_set (i := 5) nd rfl (Or.inr rfl) (pe_op op_cat (pv 5) (pe_lst (pa_cons (pe_op op_add (pe_op op_mul pe_int (pe_ix ix_list (pv 4) (pv 7) (fun _ _ => rfl))) (pv 10)) (pa_cons (pe_op op_sub (pe_op op_add (pe_op op_mul pe_int (pe_ix ix_list (pv 4) (pv 7) (fun _ _ => rfl))) pe_int) (pv 10)) pa_nil)))))))))
    (pss_cons (ps_setComp (i := 11) nd rfl (Or.inl rfl)  (N' := ["_law_order"]) (js := [none]) rfl (pi_list (pv 1)) (fun _ _ _ _ _ => (pg_name (i := 0) nd_l_order rfl (Or.inl rfl))) (fun _ _ _ _ _ => pf_nil) (fun _ _ _ _ _ => (pe_lst pa_nil)))
    (pss_cons (ps_for PassesOwn.never rfl (pi_enum rfl T.z_enumerate (pa_cons (pv 1) pa_nil)) (pg_tup rfl (pgs_cons (pg_name (i := 12) nd rfl (Or.inl rfl)) (pgs_cons (pg_name (i := 13) nd rfl (Or.inl rfl)) pgs_nil))) (pss_cons (ps_set (i := 14) nd rfl (Or.inl rfl) (pe_op op_mod (pe_call G_l_digit (hr.mono (by decide)) rfl T.m_l_digit T.k_l_digit T.b_l_digit .nil pass0 (pa_cons (pe_call G_l_mix (hr.mono (by decide)) rfl T.m_l_mix T.k_l_mix T.b_l_mix .nil pass0 (pa_cons (pv 2) (pa_cons pe_int pa_nil))) (pa_cons pe_int (pa_cons (pv 12) pa_nil)))) (pe_callB call_len_seq rfl T.z_len PySem.boot_len (pa_cons (pv 13) pa_nil))))
    (pss_one (ps_asg (pe_comp (N' := ["_law_end", "_law_names"]) (js := [none, some 5]) rfl (pi_list (pe_op op_cat (pe_slice sl_list (pv 13) (po_some (pv 14)) po_none) (pe_slice sl_list (pv 13) po_none (po_some (pv 14))))) (fun _ _ _ _ _ => (pg_name (i := 0) nd_l_end_l_names rfl (Or.inl rfl))) (fun _ _ _ _ _ => pf_nil) (fun _ _ _ _ _ => (pe_ix (kix_list (K := K) rfl) (pv 1) (pv 0) (fun _ _ => rfl)))) (pg_sub (pv 11) (pe_ix ix_list (pv 3) (pv 12) (fun _ _ => rfl)) set_list)))))
    (pss_one (ps_ret (pe_tup (pa_cons (pe_callB call_len_seq rfl T.z_len PySem.boot_len (pa_cons (pv 1) pa_nil)) (pa_cons (pv 6) (pa_cons (pv 11) pa_nil))))))))))))) ?_)
  refine yWPP (id ht) fun tr tr1 tr2 tr3 => ?_
  refine yWPP (id ho) fun rr rr1 rr2 rr3 => ?_
  have trl : (tr.map V.ref).length = ts.length := by rw [List.length_map]; exact tr2
  have rrl : (rr.map V.ref).length = os.length := by rw [List.length_map]; exact rr2
  -- places, numbers
  refine (xWPWWPPP _ rfl c 0 rfl (by decide) (by decide) (fun m0 hm0 _ => (xWPWWPP _ rfl oa _ rfl (.inl (SqL.of rr1)) (xWWPPP m0 ((rr.map V.ref).length) rfl hm0 (by exact AR.n22b rrl ho400) (fun pr ps hpr hpn hpl hpe => ?_)))))
  have g1 := same_new hpr (.lst (vns ps))
  refine (xWPWWPPP _ rfl c 1 rfl (by decide) (by decide) (fun m1 hm1 _ => (xWPWWPP _ rfl ta _ rfl (.inl (SqL.of (g1 _ _ tr1))) (xWWPPP m1 ((tr.map V.ref).length) rfl hm1 (by exact AR.n22b trl ht400) (fun nr nu hnr hnn hnl hne => ?_)))))
  rw [trl] at hnl hne
  rw [rrl] at hpl hpe
  have g2 := same_new hnr (.lst (vns nu))
  have mP : MM.Maps (fun i => ps.getD i 0) os.length := by have := MM.maps_of hpn (by rw [hpe]; exact hpl); rw [hpe] at this; exact this
  have mU : MM.Maps (fun i => nu.getD i 0) ts.length := by have := MM.maps_of hnn (by rw [hne]; exact hnl); rw [hne] at this; exact this
  -- names
  refine ⟨(by show 0 ≤ sizeLine; decide), fun na0 hna0 => ?_⟩
  have g3 := same_new hna0 (.lst [])
  have k1 : (upd (upd (upd H pr (.lst (vns ps))) nr (.lst (vns nu))) na0 (.lst [])) pr = some (.lst (vns ps)) := g3 _ _ (g2 _ _ upd_same)
  have k2 : (upd (upd (upd H pr (.lst (vns ps))) nr (.lst (vns nu))) na0 (.lst [])) nr = some (.lst (vns nu)) := g3 _ _ upd_same
  have k3 : (upd (upd (upd H pr (.lst (vns ps))) nr (.lst (vns nu))) na0 (.lst [])) na0 = some (.lst []) := upd_same
  have g4 := (g1.trans g2).trans g3
  generalize upd (upd (upd H pr (.lst (vns ps))) nr (.lst (vns nu))) na0 (.lst []) = H4 at k1 k2 k3 g4
  clear g1 g2 g3 hpr hnr hna0
  have atP : ∀ x, x < os.length → atI (vns ps) (x : Int) = some (vn (ps.getD x 0)) := fun x hx => at_vns (by exact AR.n22g hpe hx) rfl
  have atU : ∀ x, x < ts.length → atI (vns nu) (x : Int) = some (vn (nu.getD x 0)) := fun x hx => at_vns (by exact AR.n22g hne hx) rfl
  -- told
  dsimp only
  refine tail fun N hN => ?_
  refine (xWPWPP _ rfl ta rfl ⟨_, SqL.of (g4 _ _ tr1)⟩ (fun D hD => ?_))
  let Pv1 : Nat → List L2.V → L2.Hp → Prop := fun i ys H' => (∃ td : AW.Ts, TsI H' D td ∧ td.length = i) ∧ H' D = some (.lst ys) ∧ Same H4 H'
  refine comp_map ts.length Pv1 (xPP (xWP ([]) (xWPP ([]) upd_same rfl (fun i t h => by simp at h)) rfl) upd_same (same_new hD _)) ?_ ?_
  · intro i ys H' hi hq81; refine yPP hq81 fun ye482_0 h2 h3 => ?_; try clear hq81; obtain ⟨td, h1, hl⟩ := ye482_0
    have hx : (tr.map V.ref)[i]? = some (.ref (tr[i]'(by exact AR.n22g tr2 hi))) := by rw [List.getElem?_map, List.getElem?_eq_getElem (by exact AR.n22g tr2 hi)]; rfl
    refine ⟨(xWWP _ _ (SqL.of (h3 _ _ (g4 _ _ tr1))) hx), ?_⟩
    intro x H'' hq82; obtain ⟨rfl, hx'⟩ := hq82
    refine ⟨(Fills.refl _).set _ rfl, ?_⟩
    refine ⟨(by show 2 ≤ sizeLine; decide), fun tp htp => ?_⟩
    have g5 := same_new htp (.tup [vn 0, vn 0])
    exact (xPPPP (g5 _ _ h2) (by rw [h1.len h2, hl]; exact Nat.lt_of_lt_of_le hi (Nat.le_trans ht400 (by decide))) (xWP _ ((h1.same g5).push (g5 _ _ h2) upd_same) (by simp [hl])) upd_same ((h3.trans g5).fresh hD _))
  intro ys H5 hq83; refine yPP hq83 fun ye483_0 d5 g5 => ?_; try clear hq83; obtain ⟨td5, t5, tl5⟩ := ye483_0
  refine ⟨(xWP _ (SqL.of (g5 _ _ (g4 _ _ tr1))) (by rw [trl]; exact Nat.le_refl _)), ?_⟩
  subst hN
  have naD : na0 ≠ D := ne_of_none k3 hD
  -- the loop over the ties
  dsimp only
  refine tail fun N hN => ?_
  refine (xWPWPP _ rfl ta rfl ⟨_, SqL.of (g5 _ _ (g4 _ _ tr1))⟩ ?_)
  let Pv2 : Nat → L2.St → L2.Hp → Prop := fun i σ H' => ∃ (na : Addr) (nl : List Int) (td : AW.Ts) (o7 o8 o9 o10 : Option V),
      σ = [some (.ref ta), some (.ref oa), some (.int c), some (.ref pr), some (.ref nr), some (.ref na), some (.ref D), o7, o8, o9, o10, none, none, none, none] ∧ Same H4 H' ∧ nl.length = 2 * i ∧ na ≠ D ∧ H' na = some (.lst (nl.map V.int)) ∧ TsI H' D td ∧ td.length = ts.length
  refine for_enum (xs := tr.map V.ref) Pv2
    (xWWWWWWWP na0 ([]) _ none none none none rfl (xPPPPP g5 rfl naD (g5 _ _ k3) t5 tl5)) (fun i σ H' _ h => by refine yWWWWWWWP h fun na fl td o7 o8 o9 o10 _ yr484 => ?_; try clear h; obtain ⟨h1, _⟩ := yr484; exact SqL.of (h1 _ _ (g4 _ _ tr1))) ?_ ?_
  · rintro i x σ H6 Tt hx ⟨na, nl, td, o7, o8, o9, o10, rfl, s6, hfl, nD, en, td6, tdl⟩ hTt
    have hi : i < ts.length := by have := (List.getElem?_eq_some_iff.mp hx).1; exact AR.n22e trl this
    refine yWP (tr3 i _ (List.getElem?_eq_getElem hi)) fun rt rt1 rt2 => ?_
    have ex : x = .ref rt := by rw [List.getElem?_map, rt1] at hx; cases hx; rfl
    subst ex
    have tab := g.tie hi
    have hget : ts.getD i (0, 0) = ts[i] := by simp only [List.getD, List.getElem?_eq_getElem hi, Option.getD_some]
    rw [hget] at tab
    have hUi := mU.lt i hi
    have gT := same_new hTt (.tup [vn i, .ref rt])
    refine (xWWPPPWWP Tt _ rfl (SqT.of upd_same) rfl _ _ rfl (xWWPWWPPP _ _ rfl rt _ rfl (SqT.of (gT _ _ (s6 _ _ (g4 _ _ rt2)))) rfl (xWWPWWPPP _ _ rfl _ _ rfl rfl rfl ?_)))
    refine (xWPWWPPP _ rfl c 2 rfl (by decide) (by decide) (fun m2 hm2 _ => (xWPWWWPPP _ rfl m2 2 i rfl (by decide) (by decide) (xPP (by (first | exact AR.j11 | omega)) (by (clear ho400 rr2 rrl hm0 hpe hm1 hfl tab hUi hm2; omega)) (fun d hd0 hd1 => ?_)))))
    have s7 := s6.trans gT
    have td7 := td6.same gT
    have en7 := gT _ _ en
    generalize upd H6 Tt (.tup [vn i, .ref rt]) = H7 at s7 td7 en7
    refine (xWPWP _ rfl _ rfl (xWWWWPPPP pr _ _ _ rfl rfl (SqL.of (s7 _ _ k1)) (atP _ tab.1) (xWPWP _ rfl _ rfl (xWWWWPPPP pr _ _ _ rfl rfl (SqL.of (s7 _ _ k1)) (atP _ tab.2) ⟨ (by show 2 ≤ sizeLine; decide), fun p1 hp1 => ?_⟩))))
    have gp1 := same_new hp1 (.tup [vn (ps.getD ts[i].1 0), vn (ps.getD ts[i].2 0)])
    refine (xWPWP _ rfl _ rfl (xWWWWPPPP pr _ _ _ rfl rfl (SqL.of (gp1 _ _ (s7 _ _ k1))) (atP _ tab.2) (xWPWP _ rfl _ rfl (xWWWWPPPP pr _ _ _ rfl rfl (SqL.of (gp1 _ _ (s7 _ _ k1))) (atP _ tab.1) ⟨ (by show 2 ≤ sizeLine; decide), fun p2 hp2 => ?_⟩))))
    have gp2 := same_new hp2 (.tup [vn (ps.getD ts[i].2 0), vn (ps.getD ts[i].1 0)])
    refine ⟨(by show 2 ≤ sizeLine; decide), fun pl hpl => ?_⟩
    have gp3 := same_new hpl (.lst [.ref p1, .ref p2])
    have epl := upd_same (H := upd (upd H7 p1 (.tup [vn (ps.getD ts[i].1 0), vn (ps.getD ts[i].2 0)])) p2 (.tup [vn (ps.getD ts[i].2 0), vn (ps.getD ts[i].1 0)])) (a := pl) (o := .lst [.ref p1, .ref p2])
    obtain ⟨pp, u, v, hat, htu⟩ : ∃ (pp : Addr) (u v : Int), atI [V.ref p1, V.ref p2] d = some (.ref pp) ∧ (upd (upd (upd H7 p1 (.tup [vn (ps.getD ts[i].1 0), vn (ps.getD ts[i].2 0)])) p2 (.tup [vn (ps.getD ts[i].2 0), vn (ps.getD ts[i].1 0)])) pl (.lst [.ref p1, .ref p2])) pp = some (.tup [.int u, .int v]) := by
      have : d = 0 ∨ d = 1 := by (clear ht400 ho400 tr2 rr2 trl rrl hm0 hpe hm1 hne tl5 hfl tdl tab hUi hm2; omega)
      rcases this with rfl | rfl
      · exact (xWWWP p1 _ _ rfl (gp3 _ _ (gp2 _ _ upd_same)))
      · exact (xWWWP p2 _ _ rfl (gp3 _ _ upd_same))
    have gp := (gp1.trans gp2).trans gp3
    have s8 := s7.trans gp
    have td8 := td7.same gp
    have en8 := gp _ _ en7
    generalize upd (upd (upd H7 p1 (.tup [vn (ps.getD ts[i].1 0), vn (ps.getD ts[i].2 0)])) p2 (.tup [vn (ps.getD ts[i].2 0), vn (ps.getD ts[i].1 0)])) pl (.lst [.ref p1, .ref p2]) = H8 at s8 td8 en8 htu epl
    refine yWPP td8 fun tq tq1 tq2 tq3 => ?_; try clear td8
    refine (xWPWWWWPP _ rfl pl _ _ _ rfl rfl (xPPWPWPWP (SqL.of epl) hat _ rfl _ rfl _ rfl (xWWWWPPPP nr _ _ _ rfl rfl (SqL.of (s8 _ _ k2)) (atU _ hi) (xWWWWPPPP D _ _ (nu.getD i 0) rfl rfl tq1 (ixN_nat (by rw [List.length_map, tq2, tdl]; exact hUi)) ?_))))
    have td9 := TsI.put tq1 tq2 tq3 htu (nu.getD i 0)
    have s9 := s8.fresh hD (.lst ((tq.map V.ref).set (nu.getD i 0) (.ref pp)))
    have en9 : (upd H8 D (.lst ((tq.map V.ref).set (nu.getD i 0) (.ref pp)))) na = some (.lst (nl.map V.int)) := by rw [upd_ne nD]; exact en8
    generalize upd H8 D (.lst ((tq.map V.ref).set (nu.getD i 0) (.ref pp))) = H9 at td9 s9 en9
    refine (xWPWPWP _ rfl _ rfl _ rfl (xWWWWPPPP nr _ _ _ rfl rfl (SqL.of (s9 _ _ k2)) (atU _ hi) (xWWPPPWP _ _ rfl rfl (.inl ⟨by decide, by decide⟩) _ rfl (xWWPPWPWP _ _ rfl rfl _ rfl _ rfl (xWWWWPPPP nr _ _ _ rfl rfl (SqL.of (s9 _ _ k2)) (atU _ hi) (xWWPPPWWP _ _ rfl rfl (.inl ⟨by decide, by decide⟩) _ _ rfl (xPWPWWPPP rfl _ rfl _ _ rfl rfl (by show 2 ≤ sizeLine; decide) (fun nx hnx => ?_))))))))
    have gn1 := same_new hnx (.lst ([2 * ((nu.getD i 0 : Nat) : Int) + d, 2 * ((nu.getD i 0 : Nat) : Int) + 1 - d].map V.int))
    refine (xWWWWPPPP na nx _ _ rfl rfl (gn1 _ _ en9) upd_same ⟨ ?_, fun nb hnb => ?_⟩)
    · rw [List.length_map, hfl]; exact Nat.le_trans (by show 2 * i + 2 ≤ 1000; (clear ho400 rr2 rrl hm0 hpe hm1 hfl tab hUi hm2 hd0 hd1; omega)) (by decide)
    have gn2 := same_new hnb (.lst (nl.map V.int ++ [2 * ((nu.getD i 0 : Nat) : Int) + d, 2 * ((nu.getD i 0 : Nat) : Int) + 1 - d].map V.int))
    refine yWPP (id td9) fun tq' tq1' _ _ => ?_
    exact (xWWWWWWWP nb (nl ++ [2 * ((nu.getD i 0 : Nat) : Int) + d, 2 * ((nu.getD i 0 : Nat) : Int) + 1 - d]) _ _ _ _ _ rfl (xPPPPP (s9.trans (gn1.trans gn2)) (by rw [List.length_append, hfl]; rfl) ((ne_of_none (gn1 _ _ tq1') hnb).symm) (by rw [List.map_append]; exact upd_same) (td9.same (gn1.trans gn2)) (by rw [List.length_set]; exact tdl)))
  · intro σ H6 hq84; refine yWWWWWWWP hq84 fun na nl td o7 o8 o9 o10 ye488_7 yr488 => ?_; try clear hq84; subst ye488_7; refine yPPPPP yr488 fun s6 hfl nD en td6 tdl => ?_; try clear yr488
    rw [trl] at hfl
    subst hN
    have s0 := g4.trans s6
    -- rows
    dsimp only
    refine tail fun N hN => ?_
    refine (xWPWPP _ rfl oa rfl ⟨_, SqL.of (s0 _ _ rr1)⟩ (fun D2 hD2 => ?_))
    refine comp_news os.length (fun _ => []) hD2 (by (first | exact AR.n4 ho400 (of_decide_eq_true (id (Eq.refl true))) | omega)) (fun i H' hi g' => ?_) (fun H' g' => ?_) ?_ ?_
    · exact (xWWP _ (.ref (rr[i]'(by exact AR.n22g rr2 hi))) (SqL.of (g' _ _ (s0 _ _ rr1))) (by rw [List.getElem?_map, List.getElem?_eq_getElem (by exact AR.n22g rr2 hi)]; rfl))
    · exact (xWP _ (SqL.of (g' _ _ (s0 _ _ rr1))) (by rw [rrl]; exact Nat.le_refl _))
    · rintro i H' x H'' k hi g' ⟨rfl, _⟩ hk
      exact (xPP ((Fills.refl _).set _ rfl) (by show 0 ≤ sizeLine; decide) (fun l hl' => hk l _ hl' (same_new hl' _) upd_same))
    intro rr7 H7 n7 g7
    subst hN
    have n7' : NewL H6 H7 D2 rr7 (vv (List.replicate os.length [])) := by
      have e : (List.range os.length).map (fun _ => ([] : List V)) = vv (List.replicate os.length []) := by
        rw [show vv (List.replicate os.length []) = List.replicate os.length [] by simp [vv]]
        exact List.eq_replicate_iff.mpr ⟨by simp, fun b hb => by refine yWP (List.mem_map.mp hb) fun _ _ yr490 => ?_; subst yr490; rfl⟩
      rw [← e]; exact n7
    -- the loop over the orders
    dsimp only
    refine tail fun N hN => ?_
    refine (xWPWPP _ rfl oa rfl ⟨_, SqL.of (g7 _ _ (s0 _ _ rr1))⟩ ?_)
    let Pv3 : Nat → L2.St → L2.Hp → Prop := fun i σ H' => ∃ (rr' : List Addr) (rows : AW.Os) (o12 o13 o14 : Option V),
        σ = [some (.ref ta), some (.ref oa), some (.int c), some (.ref pr), some (.ref nr), some (.ref na), some (.ref D), o7, o8, o9, o10, some (.ref D2), o12, o13, o14] ∧ Same H6 H' ∧ NewL H6 H' D2 rr' (vv rows) ∧ rows.length = os.length ∧
        ∀ p, p < i → ∃ l : List Int, rows[ps.getD p 0]? = some l ∧ 0 < l.length ∧ l.length ≤ 4
    refine for_enum (xs := rr.map V.ref) Pv3
      (xWWWWWPPP rr7 _ none none none rfl g7 n7' ⟨ by simp, fun p hp => absurd hp (Nat.not_lt_zero _)⟩) (fun i σ H' _ h => by refine yWWWWWPP h fun rr' rows o12 o13 o14 _ h1 _ => ?_; try clear h; exact SqL.of (h1 _ _ (s0 _ _ rr1))) ?_ ?_
    · rintro i x σ H8 Tt hx ⟨rr', rows, o12, o13, o14, rfl, s8, n8, rl8, hw⟩ hTt
      have hi : i < os.length := by have := (List.getElem?_eq_some_iff.mp hx).1; exact AR.n22e rrl this
      refine yWP (rr3 i _ (List.getElem?_eq_getElem hi)) fun xo xo1 xo2 => ?_
      have ex : x = .ref xo := by rw [List.getElem?_map, xo1] at hx; cases hx; rfl
      subst ex
      have hrow : MM.row os i = os[i] := by unfold MM.row; rw [List.getD_eq_getElem?_getD, List.getElem?_eq_getElem hi]; rfl
      rw [← hrow] at xo2
      have hfull := g.g.full i hi
      have hfour := g.g.four i
      have hlt : ∀ e ∈ MM.row os i, e < 2 * ts.length := fun e he => (g.g.ends i e he).1
      generalize MM.row os i = ord at xo2 hfull hfour hlt
      have hPi := mP.lt i hi
      have gT := same_new hTt (.tup [vn i, .ref xo])
      have s9 := s8.trans gT
      have n9 := n8.keep gT
      refine (xWWPPPWWP Tt _ rfl (SqT.of upd_same) rfl _ _ rfl (xWWPP _ _ rfl rfl ?_))
      generalize upd H8 Tt (.tup [vn i, .ref xo]) = H9 at s9 n9
      have exo := s9 _ _ (s0 _ _ xo2)
      have ordl : (vns ord).length = ord.length := List.length_map _
      have ordp : 0 < ord.length := List.length_pos_iff.mpr hfull
      refine (xWPWWPPP _ rfl c 3 rfl (by decide) (by decide) (fun m3 hm3 _ => (xWPWWWPPP _ rfl m3 4 i rfl (by decide) (by decide) (xPP (by (first | exact AR.j11 | omega)) (by (clear ht400 tr2 trl hm0 hm1 hne tl5 hfl tdl hfour hPi ordl ordp hm3; omega)) (fun d hd0 hd1 => (xWPWWPP _ rfl xo _ rfl (.inl (SqL.of exo)) (xWWPPP _ _ rfl rfl (by show (0 : Int) < ((vns ord).length : Nat); (first | exact AR.j16 (AR.n22g ordl ordp) | omega)) ?_)))))))
      obtain ⟨k, hk, ek⟩ := MM.mod_ix d (n := (vns ord).length) (by exact AR.n22g ordl ordp)
      show gName 14 (V.int (d % ((vns ord).length : Nat))) _ _ _
      rw [ek]
      refine (xWPWPWP _ rfl _ rfl _ rfl (xWWPP xo _ rfl (SqL.of exo) (fun s1 hs1 => ?_)))
      rw [cut_from ord (by (first | exact AR.n1 (AR.n22e ordl hk) | omega))]
      have gs1 := same_new hs1 (.lst (vns (ord.drop k)))
      refine (xWPWPWP _ rfl _ rfl _ rfl (xWWPP xo _ rfl (SqL.of (gs1 _ _ exo)) (fun s2 hs2 => ?_)))
      rw [cut_to ord (by (first | exact AR.n1 (AR.n22e ordl hk) | omega))]
      have gs2 := same_new hs2 (.lst (vns (ord.take k)))
      refine (xWWWWPPPP s1 s2 _ _ rfl rfl (gs2 _ _ upd_same) upd_same ⟨ ?_, fun rl hrl => ?_⟩)
      · rw [List.length_map, List.length_map, List.length_drop, List.length_take]
        exact Nat.le_trans (by (first | exact Nat.le_trans (Nat.add_le_add (Nat.le_trans (Nat.sub_le _ _) hfour) (Nat.le_trans (Nat.min_le_right _ _) hfour)) (by decide) | omega) : _ ≤ 100) (by decide)
      rw [← vns_app]
      have gs3 := same_new hrl (.lst (vns (ord.drop k ++ ord.take k)))
      have hperm := rot_perm ord k
      have s10 := s9.trans ((gs1.trans gs2).trans gs3)
      have n10 := n9.keep ((gs1.trans gs2).trans gs3)
      have erl := upd_same (H := upd (upd H9 s1 (.lst (vns (ord.drop k)))) s2 (.lst (vns (ord.take k)))) (a := rl) (o := .lst (vns (ord.drop k ++ ord.take k)))
      generalize upd (upd (upd H9 s1 (.lst (vns (ord.drop k)))) s2 (.lst (vns (ord.take k)))) rl (.lst (vns (ord.drop k ++ ord.take k))) = H10 at s10 n10 erl
      generalize ord.drop k ++ ord.take k = rot at erl hperm
      have hrl5 : rot.length ≤ 4 := by rw [hperm.length_eq]; exact hfour
      have hrl0 : 0 < rot.length := by rw [hperm.length_eq]; exact ordp
      refine (xWPP rl rfl ⟨_, SqL.of erl⟩ (fun D3 hD3 => ?_))
      let Pv4 : Nat → List L2.V → L2.Hp → Prop := fun i ys H' => ∃ l : List Int, ys = l.map V.int ∧ l.length = i ∧ H' = upd H10 D3 (.lst (l.map V.int))
      refine comp_map rot.length Pv4 (xWPP ([]) rfl rfl rfl) ?_ ?_
      · intro j ys H' hj hq85; refine yWPP hq85 fun l ye493_1 hl yr493 => ?_; try clear hq85; subst ye493_1; subst yr493
        have gD := same_new hD3 (.lst (l.map V.int))
        have hx : (vns rot)[j]? = some (vn rot[j]) := by rw [List.getElem?_map, List.getElem?_eq_getElem hj]; rfl
        refine ⟨(xWWP _ _ (SqL.of (gD _ _ erl)) hx), ?_⟩
        intro x' H'' hq86; obtain ⟨rfl, hx'⟩ := hq86
        have e6 := hx' _ (SqL.of (gD _ _ erl))
        rw [hx] at e6
        cases e6
        have hjl := hlt rot[j] (hperm.mem_iff.mp (List.getElem_mem hj))
        have hat : atI (nl.map V.int) ((rot[j] : Nat) : Int) = some (.int (nl[rot[j]]'(by exact AR.n22g hfl hjl))) := atI_nat (by rw [List.getElem?_map, List.getElem?_eq_getElem (by exact AR.n22g hfl hjl)]; rfl)
        refine ⟨(Fills.refl _).set _ rfl, ?_⟩
        refine (xWPWP _ rfl _ rfl (xWWWWPPPP na _ _ _ rfl rfl (SqL.of (gD _ _ (s10 _ _ en))) hat (xPPWPP upd_same ?_ (l ++ [nl[rot[j]]'(by exact AR.n22g hfl hjl)]) ?_ (by simp [hl]) ?_)))
        · rw [List.length_map, hl]; exact Nat.lt_of_lt_of_le hj (Nat.le_trans hrl5 (by decide))
        · rw [List.map_append]; rfl
        · rw [upd_upd, List.map_append]; rfl
      · intro ys H' hq87; refine yWPP hq87 fun l ye494_1 hl yr494 => ?_; try clear hq87; subst ye494_1; subst yr494
        have gD := same_new hD3 (.lst (l.map V.int))
        refine ⟨(xWP _ (SqL.of (gD _ _ erl)) (by rw [List.length_map]; exact Nat.le_refl _)), ?_⟩
        have n11 := n10.keep gD
        refine (xWPWPWP _ rfl _ rfl _ rfl (xWWWWPPPP pr _ _ _ rfl rfl (SqL.of (gD _ _ (s10 _ _ (s6 _ _ k1)))) (atP i hi) (xWWWWPPPP D2 _ _ (ps.getD i 0) rfl rfl n11.at_ (ixN_nat (by rw [List.length_map, n11.len, List.length_map, rl8]; exact hPi)) ?_)))
        have n12 := n11.swap (x := D3) (l := l.map V.int) upd_same (s10.free hD3) (ne_of_none n10.at_ hD3).symm (n10.notIn hD3) (ps.getD i 0)
        refine (xWWWWWPPP _ (rows.set (ps.getD i 0) l) _ _ _ rfl ((s10.trans gD).fresh hD2 _) (by rw [show vv (rows.set (ps.getD i 0) l) = (vv rows).set (ps.getD i 0) (l.map V.int) from List.map_set ..]; exact n12) ⟨ by rw [List.length_set]; exact rl8, fun p hp => ?_⟩)
        rcases Nat.lt_or_ge p i with hp' | hp'
        · have ne : ps.getD i 0 ≠ ps.getD p 0 := fun z => by have := mP.inj i p hi (by exact AR.n5 hp' hi) z; exact AR.n25c hp' this
          rw [List.getElem?_set_ne ne]
          exact hw p hp'
        · have ep : p = i := by (first | exact AR.n24 (AR.m32 hp) (AR.n9 hp') | omega)
          subst ep
          exact (xWPP l (List.getElem?_set_self (by rw [rl8]; exact hPi)) (by exact AR.n22g hl hrl0) (by exact AR.n22b hl hrl5))
    · intro σ H8 hq88; refine yWWWWWPPP hq88 fun rr' rows o12 o13 o14 ye495_5 s8 n8 yr495 => ?_; try clear hq88; subst ye495_5; obtain ⟨rl8, hw⟩ := yr495
      rw [rrl] at hw
      subst hN
      refine (xWPWWPPWP _ rfl oa _ rfl (.inl (SqL.of (s8 _ _ (s0 _ _ rr1)))) _ rfl (xWPP _ rfl (by show 3 ≤ sizeLine; decide) (fun r hr' => ?_)))
      have gr := same_new hr' (.tup [.int ((rr.map V.ref).length : Nat), .ref D, .ref D2])
      refine q r _ td rows _ ((s0.trans s8).trans gr) (xWWPP D D2 upd_same (td6.same (s8.trans gr)) (n8.os.same gr)) tdl rl8 fun o ho => ?_
      obtain ⟨x, hx, rfl⟩ := List.mem_iff_getElem.mp ho
      obtain ⟨p, hp, e⟩ := MM.surj mP (y := x) (by exact AR.n22e rl8 hx)
      refine yWP (hw p hp) fun l h1 h2 => ?_
      have e' : ps.getD p 0 = x := e
      rw [e', List.getElem?_eq_getElem hx] at h1
      cases h1
      exact h2
end K01

namespace MM
theorem good2 : Good [(0, 1)] [[0], [1]] where
  one := Nat.le_refl _
  g := {
    ends := fun p e he => by
      match p, he with
      | 0, he => have h : e = 0 := by simpa [row] using he
                 subst h; exact ⟨by decide, rfl⟩
      | 1, he => have h : e = 1 := by simpa [row] using he
                 subst h; exact ⟨by decide, rfl⟩
      | p + 2, he => simp [row] at he
    has := fun e he => by
      have : e = 0 ∨ e = 1 := by simp at he; first | exact AR.m92 he | omega
      rcases this with rfl | rfl <;> exact ⟨by decide, by decide⟩
    nd := fun p => by
      match p with
      | 0 => decide
      | 1 => decide
      | p + 2 => simp [row]
    full := fun p hp => by
      match p, hp with
      | 0, _ => decide
      | 1, _ => decide
      | p + 2, hp => exact absurd hp (by show ¬ p + 2 < 2; (first | exact AR.n9 (AR.n18' (of_decide_eq_true (id (Eq.refl true)))) | omega))
    four := fun p => by
      match p with
      | 0 => decide
      | 1 => decide
      | p + 2 => simp [row] }
theorem good1 : Good [(0, 0)] [[0, 1]] where
  one := Nat.le_refl _
  g := {
    ends := fun p e he => by
      match p, he with
      | 0, he => have h : e = 0 ∨ e = 1 := by simpa [row] using he
                 rcases h with rfl | rfl <;> exact ⟨by decide, rfl⟩
      | p + 1, he => simp [row] at he
    has := fun e he => by
      have : e = 0 ∨ e = 1 := by simp at he; first | exact AR.m92 he | omega
      rcases this with rfl | rfl <;> exact ⟨by decide, by decide⟩
    nd := fun p => by
      match p with
      | 0 => decide
      | p + 1 => simp [row]
    full := fun p hp => by
      match p, hp with
      | 0, _ => decide
      | p + 1, hp => exact absurd hp (by show ¬ p + 1 < 1; (first | exact AR.n9 (AR.n18' (of_decide_eq_true (id (Eq.refl true)))) | omega))
    four := fun p => by
      match p with
      | 0 => decide
      | p + 1 => simp [row] }
end MM
namespace L2
open PySem PyProof.Rows
end L2
namespace K01
open PySem L2 PyProof.Rows
variable {P : Program} {w : World} {K : PySem.W.Frag} {mg : Str → Option Value} {base : Heap} {t : Adr}
def spMapB (K : PySem.W.Frag) (vs : List L2.V) (H : L2.Hp) (Q : L2.VK) (sa : Addr) (ns : List Int) (steps most : Int) : Prop := vs = [.ref sa, .int steps, .int most] ∧ SqL K H sa (ns.map V.int) ∧ 0 ≤ steps ∧ steps ≤ 30 ∧
  ∀ (r : Addr) (m : Int) (ts : AW.Ts) (os : AW.Os) (H' : Hp), Same H H' → WebI H' r m ts os → 0 < ts.length → ts.length ≤ 40 → 0 < os.length → os.length ≤ 40 → (∀ o ∈ os, 0 < o.length ∧ o.length ≤ 4) → Q (.ref r) H'
def spMap (K : PySem.W.Frag) : Sp := fun vs H Q _ => ∃ (sa : Addr) (ns : List Int) (steps most : Int), spMapB K vs H Q sa ns steps most
theorem ok_lmap (T : Txt K mg t) : FnOk P w K mg base CX0 5 t.a_l_map t.d_l_map ["_law_script", "_law_steps", "_law_most"] (spMap K) := by
  have G_l_cell_at := ok_cell (P := P) (w := w) (base := base) T
  have G_l_mix := ok_mix (P := P) (w := w) (base := base) T
  have G_l_step := ok_lstep (P := P) (w := w) (base := base) T
  have G_l_renamed := ok_lrenamed (P := P) (w := w) (base := base) T
  refine T.F_l_map.ok sc_l_map (fun vs H Q E h => ?_) (fun cdv A outer s H vs Q E hr h => ?_)
  · refine yWWWWP h fun sa ns steps most ye497_4 _ => ?_; try clear h; subst ye497_4; rfl
  refine yWWWWPPPP h fun sa ns steps most ye498_4 hS hs0 hs1 q => ?_; try clear h; subst ye498_4
  have nd := sc_l_map.nd
  refine (xWP _ (pss_cons (ps_set (i := 3) nd rfl (Or.inl rfl) (pe_call G_l_cell_at (hr.mono (by decide)) rfl T.m_l_cell_at T.k_l_cell_at T.b_l_cell_at .nil pass0 (pa_cons (pv 0) (pa_cons pe_int pa_nil))))
    (pss_cons (ps_set (i := 4) nd rfl (Or.inl rfl) (pe_lst (pa_cons (pe_tup (pa_cons pe_int (pa_cons pe_int pa_nil))) pa_nil)))
    (pss_cons (ps_set (i := 5) nd rfl (Or.inl rfl) (pe_lst (pa_cons (pe_lst (pa_cons pe_int pa_nil)) (pa_cons (pe_lst (pa_cons pe_int pa_nil)) pa_nil))))
    (pss_cons (ps_if (pt_cmpR op_eq (pe_op op_mod (pe_call G_l_mix (hr.mono (by decide)) rfl T.m_l_mix T.k_l_mix T.b_l_mix .nil pass0 (pa_cons (pv 3) (pa_cons pe_int pa_nil))) pe_int) pe_int (nomark _)) (pss_cons (ps_set (i := 4) nd rfl (Or.inl rfl) (pe_lst (pa_cons (pe_tup (pa_cons pe_int (pa_cons pe_int pa_nil))) pa_nil)))
    (pss_one (ps_set (i := 5) nd rfl (Or.inl rfl) (pe_lst (pa_cons (pe_lst (pa_cons pe_int (pa_cons pe_int pa_nil))) pa_nil))))) pss_nil)
    (pss_cons (ps_for PassesOwn.never rfl (pi_range1 rfl T.z_range (pa_cons (pe_op op_mod (pe_call G_l_mix (hr.mono (by decide)) rfl T.m_l_mix T.k_l_mix T.b_l_mix .nil pass0 (pa_cons (pv 3) (pa_cons pe_int pa_nil))) (pe_op op_add (pv 1) pe_int)) pa_nil)) (pg_name (i := 6) nd rfl (Or.inl rfl)) (pss_one (ps_expr (pe_call G_l_step (hr.mono (by decide)) rfl T.m_l_step T.k_l_step T.b_l_step .nil pass0 (pa_cons (pv 4) (pa_cons (pv 5) (pa_cons (pe_call G_l_mix (hr.mono (by decide)) rfl T.m_l_mix T.k_l_mix T.b_l_mix .nil pass0 (pa_cons (pe_call G_l_cell_at (hr.mono (by decide)) rfl T.m_l_cell_at T.k_l_cell_at T.b_l_cell_at .nil pass0 (pa_cons (pv 0) (pa_cons (pe_op op_add pe_int (pe_op op_mod (pv 6) pe_int)) pa_nil))) (pa_cons (pe_op op_add pe_int (pv 6)) pa_nil))) (pa_cons (pv 2) pa_nil))))))))
    (pss_one (ps_ret (pe_call G_l_renamed (hr.mono (by decide)) rfl T.m_l_renamed T.k_l_renamed T.b_l_renamed .nil pass0 (pa_cons (pv 4) (pa_cons (pv 5) (pa_cons (pe_call G_l_cell_at (hr.mono (by decide)) rfl T.m_l_cell_at T.k_l_cell_at T.b_l_cell_at .nil pass0 (pa_cons (pv 0) (pa_cons pe_int pa_nil))) pa_nil))))))))))) ?_)
  refine (xWPWWWPPP _ rfl sa ns 0 rfl hS (by decide) (fun c => ?_))
  refine ⟨(by show 2 ≤ sizeLine; decide), fun t0 ht0 => ⟨(by show 1 ≤ sizeLine; decide), fun ta hta => ?_⟩⟩
  have a1 := same_new ht0 (.tup [vn 0, vn 1])
  have a2 := same_new hta (.lst [.ref t0])
  refine ⟨(by show 1 ≤ sizeLine; decide), fun o0 ho0 => ⟨(by show 1 ≤ sizeLine; decide), fun o1 ho1 => ⟨(by show 2 ≤ sizeLine; decide), fun oa hoa => ?_⟩⟩⟩
  have a3 := same_new ho0 (.lst [vn 0])
  have a4 := same_new ho1 (.lst [vn 1])
  have a5 := same_new hoa (.lst [.ref o0, .ref o1])
  have gA := (((a1.trans a2).trans a3).trans a4).trans a5
  have n01 : o0 ≠ o1 := ne_of_none upd_same ho1
  have n0a : oa ≠ o0 := (ne_of_none (a4 _ _ upd_same) hoa).symm
  have n1a : oa ≠ o1 := (ne_of_none upd_same hoa).symm
  have mA : MapM H (upd (upd (upd (upd (upd H t0 (.tup [vn 0, vn 1])) ta (.lst [.ref t0])) o0 (.lst [vn 0])) o1 (.lst [vn 1])) oa (.lst [.ref o0, .ref o1])) ta oa [o0, o1] [(0, 1)] [[0], [1]] := by
    refine ⟨(xWPP ([t0]) (a5 _ _ (a4 _ _ (a3 _ _ upd_same))) rfl (fun i u hu => ?_)), ⟨upd_same, rfl, fun i u hu => ?_, by simp [n01], by simp [n0a, n1a], ?_, fun x hx => ?_⟩, a1.free hta, ne_of_none (a4 _ _ (a3 _ _ upd_same)) hoa, fun z => ?_⟩
    · match i, hu with
      | 0, hu => cases hu; exact (xWP t0 rfl (a5 _ _ (a4 _ _ (a3 _ _ (a2 _ _ upd_same)))))
      | i + 1, hu => simp at hu
    · match i, hu with
      | 0, hu => cases hu; exact (xWP o0 rfl (a5 _ _ (a4 _ _ upd_same)))
      | 1, hu => cases hu; exact (xWP o1 rfl (a5 _ _ upd_same))
      | i + 2, hu => simp at hu
    · exact ((a1.trans a2).trans (a3.trans a4)).free hoa
    · have hx' : x = o0 ∨ x = o1 := by simpa using hx
      rcases hx' with rfl | rfl
      · exact (a1.trans a2).free ho0
      · exact ((a1.trans a2).trans a3).free ho1
    · have hz : ta = o0 ∨ ta = o1 := by simpa using z
      rcases hz with rfl | rfl
      · exact ne_of_none upd_same ho0 rfl
      · exact ne_of_none (a3 _ _ upd_same) ho1 rfl
  have gdA := MM.good2
  generalize upd (upd (upd (upd (upd H t0 (.tup [vn 0, vn 1])) ta (.lst [.ref t0])) o0 (.lst [vn 0])) o1 (.lst [vn 1])) oa (.lst [.ref o0, .ref o1]) = HA at gA mA
  clear a1 a2 a3 a4 a5 n01 n0a n1a ht0 hta ho0 ho1 hoa
  dsimp only
  refine viaN (fun σ' H' => ∃ (tc oc : Addr) (rr : List Addr) (ts : MM.Ties) (os : MM.Ords), σ' = [some (.ref sa), some (.int steps), some (.int most), some (.int c), some (.ref tc), some (.ref oc), none] ∧ Same H H' ∧ MapM H H' tc oc rr ts os ∧ MM.Good ts os ∧ ts.length ≤ 1 ∧ os.length ≤ 2) (fun _ r1 => ?_) ?_
  · refine (xWPWWPPP _ rfl c 0 rfl (by decide) (by decide) (fun m0 hm0 _ => (xWWPPPPWP _ _ rfl rfl (by show (0 : Int) < 4; decide) rfl _ rfl ?_)))
    refine ite2 (fun cc => ?_) (fun cc => r1 _ _ (xWWWWWPPP ta oa _ _ _ rfl gA mA (xPP gdA (by simp) (by simp))))
    refine ⟨(by show 2 ≤ sizeLine; decide), fun t1 ht1 => ⟨(by show 1 ≤ sizeLine; decide), fun tb htb => ?_⟩⟩
    have a1 := same_new ht1 (.tup [vn 0, vn 0])
    have a2 := same_new htb (.lst [.ref t1])
    refine ⟨(by show 2 ≤ sizeLine; decide), fun o2 ho2 => ⟨(by show 1 ≤ sizeLine; decide), fun ob hob => ?_⟩⟩
    have a3 := same_new ho2 (.lst [vn 0, vn 1])
    have a4 := same_new hob (.lst [.ref o2])
    have gB := gA.trans (((a1.trans a2).trans a3).trans a4)
    have mB : MapM H (upd (upd (upd (upd HA t1 (.tup [vn 0, vn 0])) tb (.lst [.ref t1])) o2 (.lst [vn 0, vn 1])) ob (.lst [.ref o2])) tb ob [o2] [(0, 0)] [[0, 1]] := by
      refine ⟨(xWPP ([t1]) (a4 _ _ (a3 _ _ upd_same)) rfl (fun i u hu => ?_)), ⟨upd_same, rfl, fun i u hu => ?_, by simp, by simp; exact (ne_of_none upd_same hob).symm, ?_, fun x hx => ?_⟩, gA.free (a1.free htb), ne_of_none (a3 _ _ upd_same) hob, fun z => ?_⟩
      · match i, hu with
        | 0, hu => cases hu; exact (xWP t1 rfl (a4 _ _ (a3 _ _ (a2 _ _ upd_same))))
        | i + 1, hu => simp at hu
      · match i, hu with
        | 0, hu => cases hu; exact (xWP o2 rfl (a4 _ _ upd_same))
        | i + 1, hu => simp at hu
      · exact gA.free ((a1.trans (a2.trans a3)).free hob)
      · have hx' : x = o2 := by simpa using hx
        subst hx'
        exact gA.free ((a1.trans a2).free ho2)
      · have hz : tb = o2 := by simpa using z
        exact ne_of_none upd_same ho2 hz
    have gdB := MM.good1
    generalize upd (upd (upd (upd HA t1 (.tup [vn 0, vn 0])) tb (.lst [.ref t1])) o2 (.lst [vn 0, vn 1])) ob (.lst [.ref o2]) = HB at gB mB
    exact r1 _ _ (xWWWWWPPP tb ob _ _ _ rfl gB mB (xPP gdB (by simp) (by simp)))
  intro σ' HC hq89; refine yWWWWWPPP hq89 fun tc oc rrC tsC osC ye499_5 gC mC yr499 => ?_; try clear hq89; subst ye499_5; refine yPP yr499 fun gdC lC1 lC2 => ?_; try clear yr499
  refine (xWPWWPPP _ rfl c 1 rfl (by decide) (by decide) (fun m1 hm1 _ => (xWPWWPP _ rfl _ _ rfl rfl (xWWPPPWPP _ _ rfl rfl (by show (0 : Int) < steps + 1; (first | exact AR.j25 hs0 hs1 | omega)) (m1 % (steps + 1)) rfl ?_ ⟨ ?_, ?_⟩))))
  · have := Int.emod_nonneg m1 (show steps + 1 ≠ 0 by (first | exact AR.j23 (AR.j25 hs0 hs1) | omega)); (clear hs0 hs1 lC1 lC2 hm1; omega)
  · have := Int.emod_lt_of_pos m1 (show 0 < steps + 1 by (first | exact AR.j25 hs0 hs1 | omega)); (clear lC1 lC2 hm1; omega)
  have hn : (m1 % (steps + 1)).toNat ≤ 30 := by have := Int.emod_lt_of_pos m1 (show 0 < steps + 1 by (first | exact AR.j25 hs0 hs1 | omega)); (clear lC1 lC2 hm1; omega)
  let Pv1 : Nat → L2.St → L2.Hp → Prop := fun i σ H' => ∃ (rr : List Addr) (ts : MM.Ties) (os : MM.Ords) (o6 : Option V), σ = [some (.ref sa), some (.int steps), some (.int most), some (.int c), some (.ref tc), some (.ref oc), o6] ∧ Same H H' ∧ MapM H H' tc oc rr ts os ∧ MM.Good ts os ∧ ts.length ≤ i + 1 ∧ os.length ≤ i + 2
  refine for_range (lo := 0) (n := (m1 % (steps + 1)).toNat) Pv1
    (xWWWWPPPP _ _ _ none rfl gC mC gdC ⟨ by exact lC1, by exact lC2⟩) ?_ ?_
  · intro i σ H1 hi hq90; refine yWWWWPPPP hq90 fun rr ts os o6 ye501_4 g1 hm gd yr501 => ?_; try clear hq90; subst ye501_4; obtain ⟨l1, l2⟩ := yr501
    refine (xWPWPWPWP _ rfl _ rfl _ rfl _ rfl (xWWPPPWWP _ _ rfl rfl (by show (0 : Int) < 6; decide) _ _ rfl (xPWWWPPP rfl sa ns _ rfl (g1.seq hS) (by (clear hs0 hs1 lC1 lC2 hm1 hn hi l1 l2; omega)) (fun c2 => (xWPWWPP _ rfl _ _ rfl rfl (xWWPPP _ _ rfl (by (clear hs0 hs1 lC1 lC2 hm1 hn hi l1 l2; omega)) (by (clear hs0 hs1 lC1 lC2 hm1 l1 l2; omega)) (fun m2 hm2 _ => (xWP _ rfl (xWWWWWWWW H tc oc m2 most rr ts os (xPPPPPPP rfl g1 hm gd (by (first | exact AR.n4 l1 (AR.m15 (AR.n28 hi hn (of_decide_eq_true (id (Eq.refl true))))) | omega)) (by (first | exact AR.n3' l2 (AR.n21d (AR.n28 hi hn (of_decide_eq_true (id (Eq.refl true))))) | omega)) hm2 ?_))))))))))
    exact fun H2 rr' ts' os' g' hm' gd' k1 k2 => (xWWWWPPPP rr' ts' os' _ rfl g' hm' gd' ⟨ by (first | exact AR.n4 k1 (AR.n21 l1 (of_decide_eq_true (id (Eq.refl true)))) | omega), by (first | exact AR.n4 k2 (AR.n21a l2) | omega)⟩)
  · intro σ H1 hq91; refine yWWWWPPPP hq91 fun rr ts os o6 ye502_4 g1 hm gd yr502 => ?_; try clear hq91; subst ye502_4; obtain ⟨l1, l2⟩ := yr502
    refine (xWPWPWP _ rfl _ rfl _ rfl (xWWWPPP sa ns 1 rfl (g1.seq hS) (by decide) (fun c3 => (xWWWWWPPP tc oc c3 ts os rfl hm.ts hm.os.os (xPPP gd (by (first | exact AR.n4 l1 (AR.n21a (AR.n4 hn (of_decide_eq_true (id (Eq.refl true))))) | omega)) (by (first | exact AR.n4 l2 (AR.n21a (AR.n4 hn (of_decide_eq_true (id (Eq.refl true))))) | omega)) ?_)))))
    exact fun r m ts' os' H2 g2 w2 k1 k2 k3 => q r m ts' os' H2 (g1.trans g2) w2 (by have := gd.one; (first | exact AR.n22g k1 (AR.m16 this) | omega)) (by (clear hs0 hs1 lC1 lC2 hm1 l2 k2; omega)) (by have := (gd.g.has 0 (by have := gd.one; (clear hs0 hs1 lC1 lC2 hm1 hn l1 l2 k2; omega))).1; (first | exact AR.n22g k2 (AR.m35 this) | omega)) (by (clear hs0 hs1 lC1 lC2 hm1 l1 k1; omega)) k3
end K01

namespace AW
def inWb (m : Int) (ts : Ts) : Bool := ts.all fun t => (decide (0 ≤ t.1) && decide (t.1 < m)) && (decide (0 ≤ t.2) && decide (t.2 < m))
theorem inWb_iff {m : Int} {ts : Ts} : inWb m ts = true ↔ InW m ts := by
  unfold inWb InW
  rw [List.all_eq_true]
  simp only [Bool.and_eq_true, decide_eq_true_eq]
end AW
namespace K01
open PySem L2 PyProof.Rows
variable {P : Program} {w : World} {K : PySem.W.Frag} {mg : Str → Option Value} {base : Heap} {t : Adr}
theorem ch0 {σ : L2.St} {H : Hp} {Q : VK} {i j : Nat} {x m : Int} (h1 : σ[i]? = some (some (.int x))) (h2 : σ[j]? = some (some (.int m))) (q : Q (.bl (decide (0 ≤ x) && decide (x < m))) H) :
    tChain (rI0 fun i j => V.bl (decide (i ≤ j))) (rI0 fun i j => V.bl (decide (i < j))) (tC (V.int 0)) (tVar i) (tVar j) σ H Q := by
  refine (xWPWWPPWP _ h1 _ _ rfl rfl _ rfl ?_)
  by_cases c : (0 : Int) ≤ x
  · rw [if_pos (decide_eq_true c)]
    rw [decide_eq_true c, Bool.true_and] at q
    exact (xWPWWPP _ h2 _ _ rfl rfl q)
  · rw [if_neg (by simpa using c)]
    rw [decide_eq_false c, Bool.false_and] at q
    exact q
def spTnpB (vs : List L2.V) (H : L2.Hp) (Q : L2.VK) (m : Int) (a : Addr) (ts : AW.Ts) : Prop := vs = [.int m, .ref a] ∧ TsI H a ts ∧ ts.length ≤ 1000 ∧ ∀ H', Same H H' → Q (.bl (AW.inWb m ts)) H'
def spTnp : Sp := fun vs H Q _ => ∃ (m : Int) (a : Addr) (ts : AW.Ts), spTnpB vs H Q m a ts
theorem ok_tnp (T : Txt K mg t) : FnOk P w K mg base CX0 1 t.a_ties_name_places t.d_ties_name_places ["many", "ties"] spTnp := by
  refine T.F_ties_name_places.ok sc_ties_name_places (fun vs H Q E h => ?_) (fun cdv A outer s H vs Q E hr h => ?_)
  · refine yWWWP h fun m a ts ye503_3 _ => ?_; try clear h; subst ye503_3; rfl
  refine yWWWPPP h fun m a ts ye504_3 ye504_4 hl q => ?_; try clear h; subst ye504_3; obtain ⟨tr, e1, e2, e3⟩ := ye504_4
  have nd := sc_ties_name_places.nd
  have nd_a_b_many : (["a", "b", "many"] : List Str).Nodup := by decide
  refine (xWP _ (pss_one (ps_ret (pe_callB (call_allB rfl) rfl T.z_all boot_all (pa_cons (pe_comp (N' := ["a", "b", "many"]) (js := [none, none, some 0]) rfl (pi_list (pv 1)) (fun _ _ _ _ _ => (kpg_tup (K := K) (n := 2) rfl rfl (pgs_cons (pg_name (i := 0) nd_a_b_many rfl (Or.inl rfl)) (pgs_cons (pg_name (i := 1) nd_a_b_many rfl (Or.inl rfl)) pgs_nil)))) (fun _ _ _ _ _ => pf_nil) (fun _ _ _ _ _ => (pe_and (pe_chain op_le op_lt pe_int (pv 0) (pv 2)) (pe_one (pe_chain op_le op_lt pe_int (pv 1) (pv 2)))))) pa_nil)))) ?_)
  refine (xWPWPP _ rfl a rfl ⟨_, SqL.of e1⟩ (fun D hD => ?_))
  let fs : Nat → Bool := fun k => (ts[k]?).any fun t => (decide (0 ≤ t.1) && decide (t.1 < m)) && (decide (0 ≤ t.2) && decide (t.2 < m))
  refine comp_pure ts.length (fun k => .bl (fs k)) hD (by first | exact AR.n4 hl (of_decide_eq_true (id (Eq.refl true))) | omega) (fun i H' hi g2 => ?_) (fun H' g2 => (xWP _ (SqL.of (g2 _ _ e1)) (by rw [List.length_map]; exact AR.n22 e2))) ?_ ?_
  · refine yWP (e3 i ts[i] (List.getElem?_eq_getElem hi)) fun r q1 _ => ?_
    exact (xWWP _ (.ref r) (SqL.of (g2 _ _ e1)) (by rw [List.getElem?_map, q1]; rfl))
  · rintro i H' x H'' k hi g2 ⟨rfl, hx⟩ hk
    refine yWWPP (TsI.nth (a := a) e2 e3 (hx _ (SqL.of (g2 _ _ e1)))) fun t r et ye506_3 er => ?_; subst ye506_3
    have hf : fs i = ((decide (0 ≤ t.1) && decide (t.1 < m)) && (decide (0 ≤ t.2) && decide (t.2 < m))) := by show (ts[i]?).any _ = _; rw [et]; rfl
    have hk0 := hk H'' (Same.refl _)
    rw [hf] at hk0
    refine (xWWPPP r _ rfl (SqT.of (g2 _ _ er)) rfl ?_)
    refine (xWWPWWPPP _ _ rfl _ _ rfl rfl (((Fills.refl _).set _ rfl).set _ rfl) ?_)
    refine ch0 (x := t.1) (m := m) rfl rfl (xWP _ rfl ?_)
    by_cases c : (decide (0 ≤ t.1) && decide (t.1 < m)) = true
    · rw [if_pos c]
      rw [c, Bool.true_and] at hk0
      exact ch0 (x := t.2) (m := m) rfl rfl hk0
    · rw [if_neg c]
      rw [Bool.eq_false_iff.mpr c, Bool.false_and] at hk0
      exact hk0
  · intro H' g2 hD'
    rw [show (List.range ts.length).map (fun k => V.bl (fs k)) = ((List.range ts.length).map fs).map V.bl by rw [List.map_map]; rfl] at hD'
    refine (xWWPP D _ rfl (SqL.of hD') ?_)
    have e : ((List.range ts.length).map fs).all id = AW.inWb m ts := by
      unfold AW.inWb
      rw [Bool.eq_iff_iff, List.all_eq_true, List.all_eq_true]
      constructor
      · intro h x hx
        obtain ⟨i, hi, rfl⟩ := List.mem_iff_getElem.mp hx
        have := h (fs i) (List.mem_map.mpr (xWP i (List.mem_range.mpr hi) rfl))
        have e : fs i = _ := (show (ts[i]?).any _ = _ from by rw [List.getElem?_eq_getElem hi])
        rw [e] at this
        exact this
      · intro h b hb
        refine yWP (List.mem_map.mp hb) fun i hi yr507 => ?_; subst yr507
        have hi := List.mem_range.mp hi
        have e : fs i = _ := (show (ts[i]?).any _ = _ from by rw [List.getElem?_eq_getElem hi])
        rw [e]
        exact h _ (List.getElem_mem hi)
    rw [e]
    exact q H' g2
end K01

namespace K01
open PySem L2 PyProof.Rows
variable {P : Program} {w : World} {K : PySem.W.Frag} {mg : Str → Option Value} {base : Heap} {t : Adr}
def spEapB (vs : List L2.V) (H : L2.Hp) (Q : L2.VK) (m : Nat) (a : Addr) (ts : AW.Ts) : Prop := vs = [vn m, .ref a] ∧ TsI H a ts ∧ AW.InW m ts ∧ m ≤ 1000 ∧ ts.length ≤ 1000 ∧
  ∀ (r : Addr) (H' : Hp), Same H H' → OsI H' r ((List.range m).map fun p : Nat => AW.endsAt ts p) → Q (.ref r) H'
def spEap : Sp := fun vs H Q _ => ∃ (m : Nat) (a : Addr) (ts : AW.Ts), spEapB vs H Q m a ts
theorem ok_eap (T : Txt K mg t) : FnOk P w K mg base CX0 1 t.a_ends_at_places t.d_ends_at_places ["many", "ties"] spEap := by
  refine T.F_ends_at_places.ok sc_ends_at_places (fun vs H Q E h => ?_) (fun cdv A outer s H vs Q E hr h => ?_)
  · refine yWWWP h fun m a ts ye508_3 _ => ?_; try clear h; subst ye508_3; rfl
  refine yWWWPPPPP h fun m a ts ye509_3 ye509_4 hw hm hl q => ?_; try clear h; subst ye509_3; obtain ⟨tr, e1, e2, e3⟩ := ye509_4
  have nd := sc_ends_at_places.nd
  have nd_place : (["place"] : List Str).Nodup := by decide
  refine (xWP _ (pss_cons (ps_setComp (i := 2) nd rfl (Or.inl rfl)  (N' := ["place"]) (js := [none]) rfl (pi_range1 rfl T.z_range (pa_cons (pv 0) pa_nil)) (fun _ _ _ _ _ => (pg_name (i := 0) nd_place rfl (Or.inl rfl))) (fun _ _ _ _ _ => pf_nil) (fun _ _ _ _ _ => (pe_lst pa_nil)))
    (pss_cons (ps_for PassesOwn.never rfl (pi_enum rfl T.z_enumerate (pa_cons (pv 1) pa_nil)) (pg_tup rfl (pgs_cons (pg_name (i := 3) nd rfl (Or.inl rfl)) (pgs_cons (pg_name (i := 4) nd rfl (Or.inl rfl)) pgs_nil))) (pss_cons (ps_expr (pe_bm PySem.F.plainAttrs_list PySem.F.slot_list_append PySem.F.type_list_append mt_append (pe_ix ix_list (pv 2) (pe_ix ix_tup (pv 4) pe_int (fun _ _ => rfl)) (fun _ _ => rfl)) (pa_cons (pe_op op_mul pe_int (pv 3)) pa_nil)))
    (pss_one (ps_expr (pe_bm PySem.F.plainAttrs_list PySem.F.slot_list_append PySem.F.type_list_append mt_append (pe_ix ix_list (pv 2) (pe_ix ix_tup (pv 4) pe_int (fun _ _ => rfl)) (fun _ _ => rfl)) (pa_cons (pe_op op_add (pe_op op_mul pe_int (pv 3)) pe_int) pa_nil))))))
    (pss_one (ps_ret (pv 2))))) ?_)
  refine (xWPWPPP _ rfl (m : Int) rfl (by (clear e2 hl; omega)) (by (clear e2 hl; omega)) (fun D hD => ?_))
  refine comp_news m (fun _ => []) hD (by (first | exact AR.n4 hm (of_decide_eq_true (id (Eq.refl true))) | omega)) (fun i H' hi g2 => ?_) (fun H' g2 => ?_) ?_ ?_
  · show i < ((m : Int) - 0).toNat; (clear e2 hl; omega)
  · show ((m : Int) - 0).toNat ≤ m; (clear e2 hl; omega)
  · rintro i H' x H'' k hi g2 hy hk
    obtain ⟨e, y⟩ := hy
    subst e
    exact (xPP ((Fills.refl _).set _ rfl) (by show 0 ≤ sizeLine; decide) (fun l hl' => hk l _ hl' (same_new hl' _) upd_same))
  · intro rr H1 w1 g1
    let F : Nat → Nat → List V := fun k p => (AW.endsAt (ts.take k) p).map V.int
    let Pv1 : Nat → L2.St → L2.Hp → Prop := fun k σ H' => (∃ v3 v4, σ = [some (vn m), some (.ref a), some (.ref D), v3, v4]) ∧ NewL H H' D rr ((List.range m).map (F k)) ∧ Same H H'
    refine (xWPWPP _ rfl a rfl ⟨_, SqL.of (g1 _ _ e1)⟩ (for_enum (K := K) (a := a) (xs := tr.map V.ref) Pv1 (xPP (xWW _ _ rfl) ?_ g1) ?_ ?_ ?_))
    · have e : F 0 = fun _ => [] := by funext p; show (AW.endsAt (ts.take 0) p).map V.int = []; rw [List.take_zero]; rfl
      rw [e]; exact w1
    · intro i σ H' hi hq92; refine yPP hq92 fun _ _ g2 => ?_; try clear hq92
      exact SqL.of (g2 _ _ e1)
    · rintro i x σ H' Tp hx ⟨⟨v3, v4, rfl⟩, w2, g2⟩ hTp
      refine yWWPP (TsI.nth (a := a) e2 e3 hx) fun ye511_0 r et ye511_3 er => ?_; obtain ⟨u, v⟩ := ye511_0; subst ye511_3
      refine yPP (hw _ (List.mem_of_getElem? et)) fun ye512_0 v0 v1 => ?_; obtain ⟨u0, u1⟩ := ye512_0
      obtain ⟨p1, rfl⟩ := Int.eq_ofNat_of_zero_le u0
      obtain ⟨p2, rfl⟩ := Int.eq_ofNat_of_zero_le v0
      have u1 : p1 < m := Int.ofNat_lt.mp u1
      have v1 : p2 < m := Int.ofNat_lt.mp v1
      have hi : i < ts.length := (List.getElem?_eq_some_iff.mp et).1
      have g3 := g2.trans (same_new hTp (.tup [vn i, .ref r]))
      have w3 := w2.keep (same_new hTp (.tup [vn i, .ref r]))
      have small : ∀ (k p : Nat), (F k p).length < sizeLine := fun k p => by
        show ((AW.endsAt (ts.take k) p).map V.int).length < sizeLine
        have h1 : (AW.endsAt (ts.take k) p).length ≤ (AW.all2 (ts.take k)).length := List.length_filter_le ..
        have h2 : (AW.all2 (ts.take k)).length ≤ 2000 := by unfold AW.all2; rw [List.length_map, List.length_range, List.length_take]; (clear hm u0 v0 u1 v1 hi h1; omega)
        rw [List.length_map]
        exact Nat.lt_of_le_of_lt (Nat.le_trans h1 h2) (by decide)
      refine (xWWPPPWWP Tp _ rfl (SqT.of upd_same) rfl _ _ rfl (xWWPP _ _ rfl rfl ?_))
      refine yWPPP (w3.item u1) fun x1 a1 b1 c1 d1 => ?_
      refine (xWPWP _ rfl _ rfl (xWWWWPPPP r _ _ _ rfl rfl (SqT.of (g3 _ _ er)) rfl (xWWWWPPPP D _ _ _ rfl rfl (SqL.of w3.at_) d1 (xPWPWWPPP (.inl ⟨rfl, _, SqL.of b1⟩) _ rfl _ _ rfl rfl (.inl ⟨by decide, by decide⟩) (xWWWPPPP x1 _ _ rfl rfl b1 (small i p1) ?_)))))
      have w4 := w3.put a1 (F i p1 ++ [V.int (2 * (i : Int))])
      have g4 := g3.fresh c1 (.lst (F i p1 ++ [V.int (2 * (i : Int))]))
      refine yWPPP (w4.item v1) fun x2 a2 b2 c2 d2 => ?_
      refine (xWPWP _ rfl _ rfl (xWWWWPPPP r _ _ _ rfl rfl (SqT.of (g4 _ _ er)) rfl (xWWWWPPPP D _ _ _ rfl rfl (SqL.of w4.at_) d2 (xPWPWWPPP (.inl ⟨rfl, _, SqL.of b2⟩) _ rfl _ _ rfl rfl (.inl ⟨by decide, by decide⟩) (xWWPPWWWP _ _ rfl rfl x2 _ _ rfl (xPPPPP rfl b2 ?_ (xWW _ _ rfl) ?_ (g4.fresh c2 _)))))))
      · show (if p2 = p1 then F i p1 ++ [V.int (2 * (i : Int))] else F i p2).length < sizeLine
        have h1 := small i p1
        have h2 := small i p2
        split
        · rw [List.length_append]
          have h3 : (AW.endsAt (ts.take i) p1).length ≤ (AW.all2 (ts.take i)).length := List.length_filter_le ..
          have h4 : (AW.all2 (ts.take i)).length ≤ 2000 := by unfold AW.all2; rw [List.length_map, List.length_range, List.length_take]; (clear hm u0 v0 u1 v1 h1 h2 h3; omega)
          have h5 : (F i p1).length = (AW.endsAt (ts.take i) p1).length := List.length_map ..
          exact Nat.lt_of_le_of_lt (show _ ≤ 2001 by rw [h5]; simp; exact AR.n4 h3 h4) (by decide)
        · exact h2
      · have w5 := w4.put a2 ((if p2 = p1 then F i p1 ++ [V.int (2 * (i : Int))] else F i p2) ++ [V.int (2 * (i : Int) + 1)])
        have e : (fun j => if j = p2 then (if p2 = p1 then F i p1 ++ [V.int (2 * (i : Int))] else F i p2) ++ [V.int (2 * (i : Int) + 1)] else if j = p1 then F i p1 ++ [V.int (2 * (i : Int))] else F i j) = F (i + 1) := by
          funext j
          have ht : ts.take (i + 1) = ts.take i ++ [((p1 : Int), (p2 : Int))] := by rw [List.take_add_one, et]; rfl
          have hlt : (ts.take i).length = i := by rw [List.length_take]; (first | exact AR.m24 (AR.n1 hi) | omega)
          show _ = (AW.endsAt (ts.take (i + 1)) j).map V.int
          rw [ht, AW.endsAt_snoc, hlt, List.map_append, List.map_append]
          have c1 : ((p1 : Int) = (j : Int)) ↔ (j = p1) := by (first | exact AR.j22 | omega)
          have c2 : ((p2 : Int) = (j : Int)) ↔ (j = p2) := by (first | exact AR.j22 | omega)
          simp only [c1, c2]
          by_cases k2 : j = p2
          · subst k2
            by_cases k1 : j = p1
            · subst k1; simp [F]
            · simp [F, k1]
          · by_cases k1 : j = p1
            · subst k1; simp [F, k2]
            · simp [F, k1, k2]
        rw [e] at w5
        exact w5
    · intro σ H' hq93; refine yPP hq93 fun ye515_0 w2 g2 => ?_; try clear hq93; obtain ⟨v3, v4, rfl⟩ := ye515_0
      refine (xWP _ rfl (q D H' g2 ?_))
      have e : F (tr.map V.ref).length = fun p : Nat => (AW.endsAt ts p).map V.int := by funext p; show (AW.endsAt (ts.take _) p).map V.int = _; rw [List.length_map, e2, List.take_length]
      rw [e] at w2
      refine NewL.os (rr := rr) (H := H) ?_
      rw [List.map_map]
      exact w2
end K01

namespace K01
open PySem L2 PyProof.Rows
variable {P : Program} {w : World} {K : PySem.W.Frag} {mg : Str → Option Value} {base : Heap} {t : Adr}
def spOfitB (vs : List L2.V) (H : L2.Hp) (Q : L2.VK) (wa : Addr) (m : Nat) (ts : AW.Ts) (os : AW.Os) : Prop := vs = [.ref wa] ∧ WebI H wa m ts os ∧ AW.InW m ts ∧ m ≤ 1000 ∧ ts.length ≤ 1000 ∧
  ∀ (b : Bool) (H' : Hp), Same H H' → (b = true ↔ os.length = m ∧ AW.Fit ts os) → Q (.bl b) H'
def spOfit : Sp := fun vs H Q _ => ∃ (wa : Addr) (m : Nat) (ts : AW.Ts) (os : AW.Os), spOfitB vs H Q wa m ts os
theorem ok_ofit (T : Txt K mg t) : FnOk P w K mg base CX0 2 t.a_orders_fit t.d_orders_fit ["web"] spOfit := by
  have G_ends_at_places := ok_eap (P := P) (w := w) (base := base) T
  refine T.F_orders_fit.ok sc_orders_fit (fun vs H Q E h => ?_) (fun cdv A outer s H vs Q E hr h => ?_)
  · refine yWWWWP h fun wa m ts os ye516_4 _ => ?_; try clear h; subst ye516_4; rfl
  refine yWWWWPPPP h fun wa m ts os ye517_4 ye517_5 hin hm yr517 => ?_; try clear h; subst ye517_4; obtain ⟨tA, oA, hw, hT, or, o1, o2, o3⟩ := ye517_5; obtain ⟨hl, q⟩ := yr517
  have nd := sc_orders_fit.nd
  refine (xWP _ (pss_cons (ps_set (i := 1) nd rfl (Or.inl rfl) (pe_ix ix_tup (pv 0) pe_int (fun _ _ => rfl)))
    (pss_cons (ps_if (pt_cmpR op_ne (pe_callB call_len_seq rfl T.z_len PySem.boot_len (pa_cons (pv 1) pa_nil)) (pe_ix ix_tup (pv 0) pe_int (fun _ _ => rfl)) (nomark _)) (pss_one (ps_ret pe_bl)) pss_nil)
    (pss_cons (ps_for PassesOwn.never rfl (pi_zip rfl T.z_zip (pa_cons (pv 1) (pa_cons (pe_call G_ends_at_places (hr.mono (by decide)) rfl T.m_ends_at_places T.k_ends_at_places T.b_ends_at_places .nil pass0 (pa_cons (pe_ix ix_tup (pv 0) pe_int (fun _ _ => rfl)) (pa_cons (pe_ix ix_tup (pv 0) pe_int (fun _ _ => rfl)) pa_nil))) pa_nil))) (pg_tup rfl (pgs_cons (pg_name (i := 2) nd rfl (Or.inl rfl)) (pgs_cons (pg_name (i := 3) nd rfl (Or.inl rfl)) pgs_nil))) (pss_one (ps_if (PW.pt (pw_or (pt_cmpR op_gt (pe_callB call_len_seq rfl T.z_len PySem.boot_len (pa_cons (pv 2) pa_nil)) (pe_glob (v := .int 4) rfl T.g_MOST_ENDS_AT_A_PLACE ⟨_, rfl⟩) (nomark _)) (pw_or1 (pt_cmpR (op_neD hr.units) (pe_callB call_sortedA rfl T.z_sorted boot_sorted (pa_cons (pv 2) pa_nil)) (pv 3) (nomark _))))) (pss_one (ps_ret pe_bl)) pss_nil)))
    (pss_one (ps_ret pe_bl))))) ?_)
  refine (xWPWWWWPP _ rfl wa _ _ _ rfl rfl (xPP (SqT.of hw) rfl ?_))
  refine (xWPWWPPWP _ rfl oA _ rfl (.inl (SqL.of o1)) _ rfl (xWWWWPPPP wa _ _ _ rfl rfl (SqT.of hw) rfl (xPWP rfl _ rfl (ite2 (fun c => ?_) (fun c => ?_)))))
  · refine q false H (Same.refl _) ⟨fun z => Bool.noConfusion z, fun z => ?_⟩
    rw [List.length_map, o2, z.1] at c
    simp at c
  have hlen : os.length = m := by
    rw [List.length_map, o2] at c
    apply Classical.byContradiction
    intro z
    apply c
    simp only [Bool.not_eq_true', decide_eq_false_iff_not]
    intro z2
    exact z (Int.ofNat.inj (V.int.inj z2))
  refine (xWPWP _ rfl _ rfl (xWWWWPPPP wa _ _ _ rfl rfl (SqT.of hw) rfl (xWPWWWWPP _ rfl wa _ _ _ rfl rfl (xPPWWWPPP (SqT.of hw) rfl m tA ts rfl hT hin (xPP hm hl (fun r H1 g1 hE => ?_))))))
  refine yWPP hE fun er r1 r2 r3 => ?_; try clear hE
  let Pv1 : Nat → L2.St → L2.Hp → Prop := fun k σ H' => (∃ v2 v3, σ = [some (.ref wa), some (.ref oA), v2, v3]) ∧ Same H1 H' ∧ ∀ (i : Nat) o, i < k → os[i]? = some o → o.length ≤ 4 ∧ o.Perm (AW.endsAt ts i)
  refine (xWWWWPPP oA r _ _ rfl (g1 _ _ o1) r1 (for_zip (xs := or.map V.ref) (ys := er.map V.ref) Pv1 ?_ (xPP (xWW _ _ rfl) (Same.refl _) (fun i o hi => by (clear o2 hm hl hlen r2; omega))) ?_ ?_ ?_))
  · rw [List.length_map, List.length_map, o2, r2, List.length_map, List.length_range, hlen]
  · intro i σ H' hi hq94; refine yPP hq94 fun _ g2 _ => ?_; try clear hq94
    exact ⟨g2 _ _ (g1 _ _ o1), g2 _ _ r1⟩
  · rintro i x y σ H' Tp hx hy ⟨⟨v2, v3, rfl⟩, g2, ih⟩ hTp
    refine yWWPP (OsI.nth o2 o3 hx) fun o ra eo ye520_3 era => ?_; subst ye520_3
    refine yWWPP (OsI.nth r2 r3 hy) fun l rb el ye521_3 erb => ?_; subst ye521_3
    have hi : i < m := by rw [← hlen]; exact (List.getElem?_eq_some_iff.mp eo).1
    have el2 : l = AW.endsAt ts i := by
      have : ((List.range m).map fun p : Nat => AW.endsAt ts p)[i]? = some (AW.endsAt ts i) := by simp [hi]
      rw [this] at el
      exact (Option.some.inj el).symm
    subst el2
    have g3 := g2.trans (same_new hTp (.tup [.ref ra, .ref rb]))
    refine (xWWPPPWWP Tp _ rfl (SqT.of upd_same) rfl _ _ rfl (xWWPP _ _ rfl rfl ?_))
    refine (xWPWWPP _ rfl ra _ rfl (.inl (SqL.of (g3 _ _ (g1 _ _ era)))) (xWWPPWP _ _ rfl rfl _ rfl (ite2 (fun c => iteT ?_) (fun c => ?_))))
    · have c : (4 : Int) < ((o.map V.int).length : Nat) := of_decide_eq_true c
      rw [List.length_map] at c
      refine q false _ (g1.trans g3) ⟨fun z => Bool.noConfusion z, fun z => ?_⟩
      have := (z.2 i o eo).1
      (clear o2 hm hl hlen r2 hi z; omega)
    have c4 : o.length ≤ 4 := by
      rw [List.length_map] at c
      simp only [decide_eq_true_eq] at c
      (first | exact AR.j15 (AR.i8 c (of_decide_eq_true (id (Eq.refl true)))) | omega)
    refine (xWPWWPP _ rfl ra o rfl (SqL.of (g3 _ _ (g1 _ _ era))) (fun ls ns' hls p1 p2 => ?_))
    have g4 := g3.trans (same_new hls (.lst (ns'.map V.int)))
    refine (xWPWWPPPP _ rfl _ _ (bd_ints upd_same) (bd_ints (g4 _ _ erb)) (shaped_ints _) (shaped_ints _) (xWP _ rfl ?_))
    rw [eqv_intsL]
    by_cases e : ns' = AW.endsAt ts i
    · rw [decide_eq_true e]
      refine iteF (xPP (xWW _ _ rfl) g4 (fun j o' hj ho' => ?_))
      by_cases hj2 : j < i
      · exact ih j o' hj2 ho'
      · have : j = i := by exact AR.n24b hj hj2
        subst this
        rw [eo] at ho'
        cases ho'
        exact ⟨c4, e ▸ p1.symm⟩
    · rw [decide_eq_false e]
      refine iteT (q false _ (g1.trans g4) ⟨fun z => Bool.noConfusion z, fun z => ?_⟩)
      exact absurd (AW.sorted_eq (p1.trans (z.2 i o eo).2) p2 (AW.up_endsAt ts i)) e
  · intro σ H' hq95; refine yPP hq95 fun ye522_0 g2 ih => ?_; try clear hq95; obtain ⟨v2, v3, rfl⟩ := ye522_0
    refine q true H' (g1.trans g2) ⟨fun _ => ⟨hlen, fun i o hio => ih i o ?_ hio⟩, fun _ => rfl⟩
    rw [List.length_map, o2]
    exact (List.getElem?_eq_some_iff.mp hio).1
end K01

namespace K01
open PySem L2 PyProof.Rows
variable {P : Program} {w : World} {K : PySem.W.Frag} {mg : Str → Option Value} {base : Heap} {t : Adr}
def spHangB (vs : List L2.V) (H : L2.Hp) (Q : L2.VK) (m : Nat) (a : Addr) (ts : AW.Ts) : Prop := vs = [vn m, .ref a] ∧ TsI H a ts ∧ AW.InW m ts ∧ 0 < m ∧ m ≤ 1000 ∧ ts.length ≤ 1000 ∧
  ∀ (b : Bool) (H' : Hp), Same H H' → (b = true ↔ AW.Whole m ts) → Q (.bl b) H'
def spHang : Sp := fun vs H Q _ => ∃ (m : Nat) (a : Addr) (ts : AW.Ts), spHangB vs H Q m a ts
def HangI (H : Hp) (m : Nat) (ts : AW.Ts) (D rA wA : Addr) (rr : List Addr) (R : List Bool) (W : List Int) (H' : Hp) : Prop :=
  NewL H H' D rr ((List.range m).map fun p : Nat => (AW.nbs ts p).map V.int) ∧ H' rA = some (.lst (R.map V.bl)) ∧ H' wA = some (.lst (W.map V.int)) ∧ Same H H'
theorem nbs_len (ts : AW.Ts) (p : Int) : (AW.nbs ts p).length ≤ 2 * ts.length := by
  induction ts with
  | nil => exact Nat.le_refl _
  | cons t ts ih =>
    unfold AW.nbs AW.nb at ih ⊢
    rw [List.flatMap_cons, List.length_append, List.length_cons, List.length_append]
    have h1 : (if t.1 = p then [t.2] else []).length ≤ 1 := by split <;> simp
    have h2 : (if t.2 = p then [t.1] else []).length ≤ 1 := by split <;> simp
    omega
theorem ok_hang (T : Txt K mg t) : FnOk P w K mg base CX0 1 t.a_hangs_together t.d_hangs_together ["many", "ties"] spHang := by
  refine T.F_hangs_together.ok sc_hangs_together (fun vs H Q E h => ?_) (fun cdv A outer s H vs Q E hr h => ?_)
  · refine yWWWP h fun m a ts ye523_3 _ => ?_; try clear h; subst ye523_3; rfl
  refine yWWWPPPPP h fun m a ts ye524_3 ye524_4 hw hm0 hm yr524 => ?_; try clear h; subst ye524_3; obtain ⟨tr, e1, e2, e3⟩ := ye524_4; obtain ⟨hl, q⟩ := yr524
  have nd := sc_hangs_together.nd
  have nd_place : (["place"] : List Str).Nodup := by decide
  refine (xWP _ (pss_cons (ps_setComp (i := 2) nd rfl (Or.inl rfl)  (N' := ["place"]) (js := [none]) rfl (pi_range1 rfl T.z_range (pa_cons (pv 0) pa_nil)) (fun _ _ _ _ _ => (pg_name (i := 0) nd_place rfl (Or.inl rfl))) (fun _ _ _ _ _ => pf_nil) (fun _ _ _ _ _ => (pe_lst pa_nil)))
    (pss_cons (ps_for PassesOwn.never rfl (pi_list (pv 1)) (pg_tup rfl (pgs_cons (pg_name (i := 3) nd rfl (Or.inl rfl)) (pgs_cons (pg_name (i := 4) nd rfl (Or.inl rfl)) pgs_nil))) (pss_cons (ps_expr (pe_bm PySem.F.plainAttrs_list PySem.F.slot_list_append PySem.F.type_list_append mt_append (pe_ix ix_list (pv 2) (pv 3) (fun _ _ => rfl)) (pa_cons (pv 4) pa_nil)))
    (pss_one (ps_expr (pe_bm PySem.F.plainAttrs_list PySem.F.slot_list_append PySem.F.type_list_append mt_append (pe_ix ix_list (pv 2) (pv 4) (fun _ _ => rfl)) (pa_cons (pv 3) pa_nil))))))
    (pss_cons (ps_setComp (i := 5) nd rfl (Or.inl rfl)  (N' := ["place"]) (js := [none]) rfl (pi_range1 rfl T.z_range (pa_cons (pv 0) pa_nil)) (fun _ _ _ _ _ => (pg_name (i := 0) nd_place rfl (Or.inl rfl))) (fun _ _ _ _ _ => pf_nil) (fun _ _ _ _ _ => (pe_cmpR op_eq (pv 0) pe_int (nomark _))))
    (pss_cons (ps_set (i := 6) nd rfl (Or.inl rfl) (pe_lst (pa_cons pe_int pa_nil)))
    (pss_cons (ps_while PassesOwn.never (pt_truth (pv 6) (fun _ => rfl)) (pss_cons (ps_set (i := 7) nd rfl (Or.inl rfl) (pe_bm0 PySem.F.plainAttrs_list PySem.F.slot_list_pop PySem.F.type_list_pop mt_pop (pv 6)))
    (pss_one (ps_for PassesOwn.never rfl (pi_list (pe_ix ix_list (pv 2) (pv 7) (fun _ _ => rfl))) (pg_name (i := 8) nd rfl (Or.inl rfl)) (pss_one (ps_if (pt_not (pt_truth (pe_ix ix_list (pv 5) (pv 8) (fun _ _ => rfl)) (fun _ => rfl))) (pss_cons (ps_asg pe_bl (pg_sub (pv 5) (pv 8) set_list))
    (pss_one (ps_expr (pe_bm PySem.F.plainAttrs_list PySem.F.slot_list_append PySem.F.type_list_append mt_append (pv 6) (pa_cons (pv 8) pa_nil))))) pss_nil))))))
    (pss_one (ps_ret (pe_callB (call_allB rfl) rfl T.z_all boot_all (pa_cons (pv 5) pa_nil))))))))) ?_)
  refine (xWPWPPP _ rfl (m : Int) rfl (by (clear e2 hl; omega)) (by (clear e2 hl; omega)) (fun D hD => ?_))
  refine comp_news m (fun _ => []) hD (by (first | exact AR.n4 hm (of_decide_eq_true (id (Eq.refl true))) | omega)) (fun i H' hi g2 => ?_) (fun H' g2 => ?_) ?_ ?_
  · show i < ((m : Int) - 0).toNat; (first | exact AR.g445 hm0 hm hi | omega)
  · show ((m : Int) - 0).toNat ≤ m; (first | exact AR.g446 hm0 hm | omega)
  · rintro i H' x H'' k hi g2 ⟨e, y⟩ hk
    subst e
    exact (xPP ((Fills.refl _).set _ rfl) (by show 0 ≤ sizeLine; decide) (fun l hl' => hk l _ hl' (same_new hl' _) upd_same))
  intro rr H1 w1 g1
  let F : Nat → Nat → List V := fun k p => (AW.nbs (ts.take k) p).map V.int
  have small : ∀ (k p : Nat), (F k p).length ≤ 2000 := fun k p => by
    show ((AW.nbs (ts.take k) p).map V.int).length ≤ 2000
    have h1 := nbs_len (ts.take k) p
    rw [List.length_take] at h1
    rw [List.length_map]; (clear hm0 hm; omega)
  let Pv1 : Nat → L2.St → L2.Hp → Prop := fun k σ H' => (∃ v3 v4, σ = [some (vn m), some (.ref a), some (.ref D), v3, v4, none, none, none, none]) ∧ NewL H H' D rr ((List.range m).map (F k)) ∧ Same H H'
  refine (xWPWPP _ rfl a rfl ⟨_, SqL.of (g1 _ _ e1)⟩ (for_list (K := K) (a := a) (xs := tr.map V.ref) Pv1 (xPP (xWW _ _ rfl) ?_ g1) ?_ ?_ ?_))
  · have e : F 0 = fun _ => [] := by funext p; show (AW.nbs (ts.take 0) p).map V.int = []; rw [List.take_zero]; rfl
    rw [e]; exact w1
  · intro i σ H' hi hq96; refine yPP hq96 fun _ _ g2 => ?_; try clear hq96
    exact SqL.of (g2 _ _ e1)
  · intro i x σ H' hx hq97; refine yPP hq97 fun ye526_0 w2 g2 => ?_; try clear hq97; obtain ⟨v3, v4, rfl⟩ := ye526_0
    refine yWWPP (TsI.nth (a := a) e2 e3 hx) fun ye527_0 r et ye527_3 er => ?_; obtain ⟨u, v⟩ := ye527_0; subst ye527_3
    refine yPP (hw _ (List.mem_of_getElem? et)) fun ye528_0 v0 v1 => ?_; obtain ⟨u0, u1⟩ := ye528_0
    obtain ⟨p1, rfl⟩ := Int.eq_ofNat_of_zero_le u0
    obtain ⟨p2, rfl⟩ := Int.eq_ofNat_of_zero_le v0
    have u1 : p1 < m := Int.ofNat_lt.mp u1
    have v1 : p2 < m := Int.ofNat_lt.mp v1
    refine (xWWPPPWWP r _ rfl (SqT.of (g2 _ _ er)) rfl _ _ rfl (xWWPP _ _ rfl rfl ?_))
    refine yWPPP (w2.item u1) fun x1 a1 b1 c1 d1 => ?_
    refine (xWPWP _ rfl _ rfl (xWWWWPPPP D _ _ _ rfl rfl (SqL.of w2.at_) d1 (xPWPWWWPP (.inl ⟨rfl, _, SqL.of b1⟩) _ rfl x1 _ _ rfl rfl (xPP b1 (Nat.lt_of_le_of_lt (small i p1) (by decide)) ?_))))
    have w4 := w2.put a1 (F i p1 ++ [V.int (p2 : Int)])
    have g4 := g2.fresh c1 (.lst (F i p1 ++ [V.int (p2 : Int)]))
    refine yWPPP (w4.item v1) fun x2 a2 b2 c2 d2 => ?_
    refine (xWPWP _ rfl _ rfl (xWWWWPPPP D _ _ _ rfl rfl (SqL.of w4.at_) d2 (xPWPWWWPP (.inl ⟨rfl, _, SqL.of b2⟩) _ rfl x2 _ _ rfl rfl (xPPPP b2 ?_ (xWW _ _ rfl) ?_ (g4.fresh c2 _)))))
    · show (if p2 = p1 then F i p1 ++ [V.int (p2 : Int)] else F i p2).length < sizeLine
      have h1 := small i p1
      have h2 := small i p2
      refine Nat.lt_of_le_of_lt (show _ ≤ 2001 from ?_) (by decide)
      split
      · rw [List.length_append]; simp; exact h1
      · (first | exact AR.n4 h2 (of_decide_eq_true (id (Eq.refl true))) | omega)
    · have w5 := w4.put a2 ((if p2 = p1 then F i p1 ++ [V.int (p2 : Int)] else F i p2) ++ [V.int (p1 : Int)])
      have e : (fun j => if j = p2 then (if p2 = p1 then F i p1 ++ [V.int (p2 : Int)] else F i p2) ++ [V.int (p1 : Int)] else if j = p1 then F i p1 ++ [V.int (p2 : Int)] else F i j) = F (i + 1) := by
        funext j
        have ht : ts.take (i + 1) = ts.take i ++ [((p1 : Int), (p2 : Int))] := by rw [List.take_add_one, et]; rfl
        show _ = (AW.nbs (ts.take (i + 1)) j).map V.int
        rw [ht, AW.nbs_snoc, List.map_append]
        unfold AW.nb
        have c1 : ((p1 : Int) = (j : Int)) ↔ (j = p1) := by (first | exact AR.j22 | omega)
        have c2 : ((p2 : Int) = (j : Int)) ↔ (j = p2) := by (first | exact AR.j22 | omega)
        simp only [c1, c2]
        by_cases k2 : j = p2
        · subst k2
          by_cases k1 : j = p1
          · subst k1; simp [F]
          · simp [F, k1]
        · by_cases k1 : j = p1
          · subst k1; simp [F, k2]
          · simp [F, k1, k2]
      rw [e] at w5
      exact w5
  intro σ H2 hq98; refine yPP hq98 fun ye531_0 w2 g2 => ?_; try clear hq98; obtain ⟨v3, v4, rfl⟩ := ye531_0
  have eF : F (tr.map V.ref).length = fun p : Nat => (AW.nbs ts p).map V.int := by funext p; show (AW.nbs (ts.take _) p).map V.int = _; rw [List.length_map, e2, List.take_length]
  rw [eF] at w2
  refine (xWPWPPP _ rfl (m : Int) rfl (by (clear e2 hl; omega)) (by (clear e2 hl; omega)) (fun rA hrA => ?_))
  refine comp_pure m (fun p => .bl (decide ((V.int (0 + (p : Int))) = V.int 0))) hrA (by (first | exact AR.n4 hm (of_decide_eq_true (id (Eq.refl true))) | omega)) (fun i H' hi g3 => ?_) (fun H' g3 => ?_) ?_ ?_
  · show i < ((m : Int) - 0).toNat; (first | exact AR.g445 hm0 hm hi | omega)
  · show ((m : Int) - 0).toNat ≤ m; (first | exact AR.g446 hm0 hm | omega)
  · rintro i H' x H'' k hi g3 ⟨e, y⟩ hk
    subst e
    subst y
    exact (xPWPP ((Fills.refl _).set _ rfl) _ rfl rfl (hk _ (Same.refl _)))
  intro H3 g3 eR
  have eR0 : (List.range m).map (fun p : Nat => V.bl (decide ((V.int (0 + (p : Int))) = V.int 0))) = ((List.range m).map fun p => decide (p = 0)).map V.bl := by
    rw [List.map_map]
    refine List.map_congr_left fun p _ => ?_
    show V.bl (decide _) = V.bl (decide (p = 0))
    have hp : (V.int (0 + (p : Int)) = V.int 0) ↔ p = 0 := ⟨fun z => by have := V.int.inj z; (clear e2 hm0 hm hl; omega), fun z => by rw [z]; rfl⟩
    simp only [hp]
  rw [eR0] at eR
  refine ⟨(by show 1 ≤ sizeLine; decide), fun wA hwA => ?_⟩
  have w3 := w2.keep g3
  have g23 := g2.trans g3
  have rD : rA ≠ D := fun z => by rw [z, w2.at_] at hrA; cases hrA
  have rin : rA ∉ rr := w2.notIn hrA
  have wD : wA ≠ D := fun z => by rw [z, w3.at_] at hwA; cases hwA
  have win : wA ∉ rr := w3.notIn hwA
  have wr : wA ≠ rA := fun z => by rw [z, eR] at hwA; cases hwA
  have r0 : H rA = none := g2.free hrA
  have w0 : H wA = none := g23.free hwA
  let Wv1 : Nat → L2.St → L2.Hp → Prop := fun M σ H' => ∃ R W v3 v4 v7 v8, (M = 2 * AW.falses R + W.length ∧ M ≤ 2001) ∧ σ = [some (vn m), some (.ref a), some (.ref D), v3, v4, some (.ref rA), some (.ref wA), v7, v8] ∧ HangI H m ts D rA wA rr R W H' ∧ AW.Srch m ts R W
  refine (xWP Wv1 (xWWWWWWWP _ _ _ _ _ _ _ ⟨rfl, ?bnd⟩ (xPP rfl (xPPP (w3.other wD win _) (by rw [upd_ne (Ne.symm wr)]; exact eR) (by exact upd_same) (g23.fresh w0 _)) (AW.Srch.start hm0))) ?_)
  case bnd =>
    have h1 : AW.falses ((List.range m).map fun p => decide (p = 0)) ≤ m := by
      unfold AW.falses
      exact Nat.le_trans (List.length_filter_le ..) (by simp)
    show _ + 1 ≤ 2001
    (clear e2 hl; omega)
  intro M σ H' hq99; refine yWWWWWWPP hq99 fun R W v3 v4 v7 v8 ye532_6 ye532_7 yr532 => ?_; try clear hq99; obtain ⟨rfl, hB⟩ := ye532_6; subst ye532_7; obtain ⟨⟨w4, hR, hW, g4⟩, hS⟩ := yr532
  refine (xWPWP _ rfl _ (.inl (xWP _ (SqL.of hW) rfl)) ?_)
  rcases List.eq_nil_or_concat W with rfl | ⟨W0, pz, rfl⟩
  · refine iteF (xWPWWPP _ rfl rA R rfl (SqL.of hR) (q _ H' g4 (hS.done hw)))
  rw [List.concat_eq_append] at *
  obtain ⟨p0, rfl, hp0⟩ := hS.win pz (by simp)
  have hpm : p0 < m := by rw [← hS.len]; exact (List.getElem?_eq_some_iff.mp hp0).1
  have eW : (W0 ++ [(p0 : Int)]).map V.int = W0.map V.int ++ [vn p0] := by rw [List.map_append]; rfl
  rw [eW]
  rw [show (!(W0.map V.int ++ [vn p0]).isEmpty) = true by simp]
  refine iteT ⟨fun σ' H'' => ∃ R' W' v3 v4 v7 v8, 2 * AW.falses R' + W'.length < 2 * AW.falses R + (W0 ++ [(p0 : Int)]).length ∧ σ' = [some (vn m), some (.ref a), some (.ref D), v3, v4, some (.ref rA), some (.ref wA), v7, v8] ∧ HangI H m ts D rA wA rr R' W' H'' ∧ AW.Srch m ts R' W', ?_, ?_⟩
  · intro σ' H'' hq100; refine yWWWWWWPP hq100 fun R' W' v3 v4 v7 v8 hM ye533_7 yr533 => ?_; try clear hq100; subst ye533_7; obtain ⟨hI, hS'⟩ := yr533
    exact (xWP _ hM (xWWWWWWPP R' W' _ _ _ _ ⟨rfl, by exact AR.n2' hM hB⟩ rfl ⟨ hI, hS'⟩))
  rw [eW] at hW
  refine (xWPPWWWPP _ rfl (.inl ⟨rfl, _, SqL.of hW⟩) wA _ (vn p0) rfl rfl (xPP hW (by rw [List.length_append]; simp) ?_))
  rw [List.dropLast_concat]
  have w5 := w4.other wD win (.lst (W0.map V.int))
  have g5 := g4.fresh w0 (.lst (W0.map V.int))
  refine yWPPP (w5.item hpm) fun x1 a1 b1 c1 d1 => ?_
  have hlen : (W0 ++ [(p0 : Int)]).length = W0.length + 1 := by simp
  rw [hlen]
  let Pv2 : Nat → L2.St → L2.Hp → Prop := fun k σ H'' => ∃ R' W' v8, 2 * AW.falses R' + W'.length < 2 * AW.falses R + (W0.length + 1) ∧
    σ = [some (vn m), some (.ref a), some (.ref D), v3, v4, some (.ref rA), some (.ref wA), some (vn p0), v8] ∧ HangI H m ts D rA wA rr R' W' H'' ∧ AW.SrchI m ts R' W' p0 k
  refine (xWPWP _ rfl _ rfl (xWWWWPPPP D _ _ _ rfl rfl (SqL.of w5.at_) d1 (xWPP x1 rfl ⟨_, SqL.of b1⟩ (for_list (K := K) (a := x1) (xs := (AW.nbs ts p0).map V.int) Pv2 (xWWWPPP R W0 _ (by (first | exact AR.n21c AR.m3 | omega)) rfl (xPPP w5 (by rw [upd_ne (Ne.symm wr)]; exact hR) upd_same g5) (.start hS)) ?_ ?_ ?_))))
  · intro i σ H'' hi hq101; refine yWWWPPP hq101 fun R' W' v8 _ _ ye535_5 _ => ?_; try clear hq101; obtain ⟨w6, _⟩ := ye535_5
    refine yWPP (w6.item hpm) fun x2 a2 b2 _ => ?_
    rw [a1] at a2
    cases a2
    exact SqL.of b2
  · intro i x σ H'' hx hq102; refine yWWWPPP hq102 fun R' W' v8 hM ye537_4 ye537_5 hI => ?_; try clear hq102; subst ye537_4; obtain ⟨w6, hR', hW', g6⟩ := ye537_5
    rw [List.getElem?_map] at hx
    cases eq' : (AW.nbs ts p0)[i]? with
    | none => rw [eq'] at hx; cases hx
    | some qz =>
      rw [eq'] at hx
      cases hx
      obtain ⟨q0, q1⟩ := AW.nbs_in hw (List.mem_of_getElem? eq')
      obtain ⟨qn, rfl⟩ := Int.eq_ofNat_of_zero_le q0
      have q1 : qn < m := Int.ofNat_lt.mp q1
      have hql : qn < R'.length := by rw [hI.len]; exact q1
      have eb : R'[qn]? = some R'[qn] := List.getElem?_eq_getElem hql
      refine (xWPWP _ rfl _ rfl (xWWWWPPPP rA _ _ (.bl R'[qn]) rfl rfl (SqL.of hR') (atI_nat (by rw [List.getElem?_map, eb]; rfl)) (xWP (R'[qn]) rfl ?_)))
      cases hb : R'[qn] with
      | true =>
        refine iteF (xWWWPPP R' W' _ hM rfl (xPPP w6 hR' hW' g6) (hI.skip eq' ?_))
        rw [show ((qn : Int)).toNat = qn from rfl, eb, hb]
      | false =>
        rw [hb] at eb
        have hset : (R'.map V.bl).set qn (.bl true) = (R'.set qn true).map V.bl := by rw [List.map_set]
        have hf := AW.falses_set eb
        refine iteT (xWPWP _ rfl _ rfl (xWWWWPPPP rA _ _ qn rfl rfl hR' ?_ ?_))
        · exact ixN_ok (by rw [List.length_map]; exact hql) rfl
        rw [hset]
        refine (xWPPWP _ rfl (.inl ⟨rfl, _, SqL.of (by rw [upd_ne wr]; exact hW')⟩) _ rfl (xWWWPPPP wA _ _ rfl rfl (by rw [upd_ne wr]; exact hW') ?_ ?_))
        · rw [List.length_map]
          exact Nat.lt_of_le_of_lt (show _ ≤ 2001 by rw [hlen] at hB; (clear e2 hm0 hm hl hpm q0 q1; omega)) (by decide)
        refine (xWWWPPP (R'.set qn true) (W' ++ [(qn : Int)]) _ ?_ rfl (xPPP ((w6.other rD rin _).other wD win _) ?_ ?_ ((g6.fresh r0 _).fresh w0 _)) (hI.reach eq' q1))
        · rw [List.length_append]; simp; (clear e2 hm0 hm hl hB hpm hlen q0 q1; omega)
        · rw [upd_ne (Ne.symm wr)]; exact upd_same
        · rw [List.map_append]; exact upd_same
  · intro σ H'' hq103; refine yWWWPPP hq103 fun R' W' v8 hM ye538_4 hI hS' => ?_; try clear hq103; subst ye538_4
    exact (xWWWWWWPP R' W' _ _ _ _ (by simpa using hM) rfl ⟨ hI, hS'.finish (by rw [List.length_map]; exact Nat.le_refl _)⟩)
end K01

namespace L2
open PySem PySem.Spec PyProof.Rows
theorem Fun.okX {P : Program} {w : World} {K : PySem.W.Frag} {mg : Str → Option Value} {base : Heap} {C : Addr} {x qual : Str} {st : Stmt} {f : Addr} {fd : FuncData} {N ps : List Str} {k : Nat} {sp : Sp} (F : Fun K x qual st f fd) (S : FnScope N ps (defScope st)) (len : ∀ vs H Q E, sp vs H Q E → vs.length = ps.length)
    (hbody : ∀ (cdv : Value) (A : Around) (outer : List Env) (s : Shared) (H : Hp) (vs : List V) (Q : VK) (E : XK), Room k (A.deeper (envOfC qual (defScope st) s.heap.objs.size f cdv)) → sp vs H Q E →
      ∃ t, PSs (cxOf (CXr P w C) P w K mg base N qual (defScope st) f cdv A outer s H E) (defBody st) t ∧ t { nx := fun _ H' => Q .non H', rt := Q } (start N vs) H) : FnOk P w K mg base (CXr P w C) (k + 1) f fd ps sp := by
  refine yWWWWWWWW F.ex fun oc od kV doc pm an cdv ct yr539 => ?_; refine yWPP yr539 fun osl ye540_1 lk hcd => ?_; try clear yr539; subst ye540_1
  exact fn_of lk hcd S len fun A outer s H vs Q E hr hsp => hbody cdv A outer s H vs Q E hr hsp
end L2
namespace K01
open PySem L2 PyProof.Rows
variable {P : Program} {w : World} {K : PySem.W.Frag} {mg : Str → Option Value} {base : Heap} {t : Adr}
theorem chLe {σ : L2.St} {H : Hp} {Q : VK} {a c x : Int} {tb : TE} (hb : ∀ R : VK, R (.int x) H → tb σ H R) (q : Q (.bl (decide (a ≤ x) && decide (x ≤ c))) H) :
    tChain (rI0 fun i j => V.bl (decide (i ≤ j))) (rI0 fun i j => V.bl (decide (i ≤ j))) (tC (V.int a)) tb (tC (V.int c)) σ H Q := by
  refine hb _ (xWWPPWP _ _ rfl rfl _ rfl ?_)
  by_cases h : a ≤ x
  · rw [if_pos (decide_eq_true h)]
    rw [decide_eq_true h, Bool.true_and] at q
    exact (xWWPP _ _ rfl rfl q)
  · rw [if_neg (by simpa using h)]
    rw [decide_eq_false h, Bool.false_and] at q
    exact q
def spCheck : Sp := fun vs H Q E => ∃ (wa : Addr) (m : Int) (ts : AW.Ts) (os : AW.Os), vs = [.ref wa] ∧ WebI H wa m ts os ∧ ts.length ≤ 1000 ∧
  (AW.IsMap m ts os → ∀ H', Same H H' → Q .non H') ∧ (¬ AW.IsMap m ts os → ∀ x H', Same H H' → E (.ref x) none H')
theorem ok_check (T : Txt K mg t) : FnOk P w K mg base (CXr P w t.c_NoMap) 3 t.a_check_map t.d_check_map ["web"] spCheck := by
  have G_ties_name_places := ok_tnp (P := P) (w := w) (base := base) T
  have G_orders_fit := ok_ofit (P := P) (w := w) (base := base) T
  have G_hangs_together := ok_hang (P := P) (w := w) (base := base) T
  refine T.F_check_map.okX sc_check_map (fun vs H Q E h => ?_) (fun cdv A outer s H vs Q E hr h => ?_)
  · refine yWWWWP h fun wa m ts os ye541_4 _ => ?_; try clear h; subst ye541_4; rfl
  refine yWWWWPPPP h fun wa m ts os ye542_4 ye542_5 hl q1 q2 => ?_; try clear h; subst ye542_4; obtain ⟨tA, oA, hw, hT, hO⟩ := ye542_5
  have nd := sc_check_map.nd
  refine (xWP _ (pss_cons (ps_set (i := 1) nd rfl (Or.inl rfl) (pe_ix ix_tup (pv 0) pe_int (fun _ _ => rfl)))
    (pss_cons (ps_set (i := 2) nd rfl (Or.inl rfl) (pe_ix ix_tup (pv 0) pe_int (fun _ _ => rfl)))
    (pss_cons (ps_if (pt_not (pt_chain op_le op_le pe_int (pv 1) (pe_glob (v := .int 200) rfl T.g_MOST_PLACES ⟨_, rfl⟩))) (pss_one (ps_raise T.x_in PySem.F.excBase_ValueError T.m_NoMap)) pss_nil)
    (pss_cons (ps_if (pt_not (pt_chain op_le op_le pe_int (pe_callB call_len_seq rfl T.z_len PySem.boot_len (pa_cons (pv 2) pa_nil)) (pe_glob (v := .int 400) rfl T.g_MOST_TIES ⟨_, rfl⟩))) (pss_one (ps_raise T.x_in PySem.F.excBase_ValueError T.m_NoMap)) pss_nil)
    (pss_cons (ps_if (pt_not (pt_truth (pe_call G_ties_name_places (hr.mono (by decide)) rfl T.m_ties_name_places T.k_ties_name_places T.b_ties_name_places .nil pass0 (pa_cons (pv 1) (pa_cons (pv 2) pa_nil))) (fun _ => rfl))) (pss_one (ps_raise T.x_in PySem.F.excBase_ValueError T.m_NoMap)) pss_nil)
    (pss_cons (ps_if (pt_not (pt_truth (pe_call G_orders_fit (hr.mono (by decide)) rfl T.m_orders_fit T.k_orders_fit T.b_orders_fit .nil pass0 (pa_cons (pv 0) pa_nil)) (fun _ => rfl))) (pss_one (ps_raise T.x_in PySem.F.excBase_ValueError T.m_NoMap)) pss_nil)
    (pss_one (ps_if (pt_not (pt_truth (pe_call G_hangs_together (hr.mono (by decide)) rfl T.m_hangs_together T.k_hangs_together T.b_hangs_together .nil pass0 (pa_cons (pv 1) (pa_cons (pv 2) pa_nil))) (fun _ => rfl))) (pss_one (ps_raise T.x_in PySem.F.excBase_ValueError T.m_NoMap)) pss_nil)))))))) ?_)
  refine (xWPWWWWPP _ rfl wa _ _ _ rfl rfl (xPP (SqT.of hw) rfl ?_))
  refine (xWPWWWWPP _ rfl wa _ _ _ rfl rfl (xPP (SqT.of hw) rfl ?_))
  dsimp only [gName, tSeq, tIfS, tNot, tTest]
  refine chLe (x := m) ?h1 ?h2
  case h1 => exact fun R h => (xWP _ rfl h)
  refine (xWP _ rfl ?_)
  by_cases c1 : 1 ≤ m ∧ m ≤ 200
  case neg =>
    rw [show (decide ((1 : Int) ≤ m) && decide (m ≤ 200)) = false by rw [← Bool.decide_and]; exact decide_eq_false c1]
    exact iteT fun x => q2 (fun z => c1 z.1.1) x H (Same.refl _)
  rw [show (decide ((1 : Int) ≤ m) && decide (m ≤ 200)) = true by rw [← Bool.decide_and]; exact decide_eq_true c1]
  refine iteF ?_
  refine yWPP (id hT) fun tr e1 e2 e3 => ?_
  dsimp only [tNext, tSeq, tIfS, tNot, tTest]
  refine chLe (x := ((tr.map V.ref).length : Nat)) ?h3 ?h4
  case h3 => exact fun R h => (xWPWWPP _ rfl tA _ rfl (.inl (SqL.of e1)) h)
  refine (xWP _ rfl ?_)
  rw [List.length_map, e2]
  by_cases c2 : 1 ≤ ts.length ∧ ts.length ≤ 400
  case neg =>
    rw [show (decide ((1 : Int) ≤ (ts.length : Nat)) && decide (((ts.length : Nat) : Int) ≤ 400)) = false by rw [← Bool.decide_and]; exact decide_eq_false (fun z => c2 (by (clear c1 c2; omega)))]
    exact iteT fun x => q2 (fun z => c2 z.1.2) x H (Same.refl _)
  rw [show (decide ((1 : Int) ≤ (ts.length : Nat)) && decide (((ts.length : Nat) : Int) ≤ 400)) = true by rw [← Bool.decide_and]; exact decide_eq_true (by (clear c1; omega))]
  refine iteF (xWPWPWWWP _ rfl _ rfl m tA ts rfl (xPP hT hl (fun H1 g1 => (xWP _ rfl ?_))))
  by_cases c3 : AW.InW m ts
  case neg =>
    rw [show AW.inWb m ts = false from Bool.eq_false_iff.mpr fun z => c3 (AW.inWb_iff.mp z)]
    exact iteT fun x => q2 (fun z => c3 z.2.1) x H1 g1
  rw [AW.inWb_iff.mpr c3]
  obtain ⟨n, rfl⟩ := Int.eq_ofNat_of_zero_le (show 0 ≤ m by (clear hl e2 c2; omega))
  refine iteF (xWPWWWWPP _ rfl wa n ts os rfl (xWWPP tA oA (g1 _ _ hw) (hT.same g1) (hO.same g1)) (xPPP c3 (by (first | exact AR.j15 (AR.i4 c1.right (of_decide_eq_true (id (Eq.refl true)))) | omega)) hl (fun b H2 g2 hb => (xWP _ rfl ?_))))
  cases b with
  | false => exact iteT fun x => q2 (fun z => Bool.noConfusion (hb.mpr ⟨Int.ofNat.inj z.2.2.1, z.2.2.2.1⟩)) x H2 (g1.trans g2)
  | true =>
    obtain ⟨f1, f2⟩ := hb.mp rfl
    refine iteF (xWPWPWWWP _ rfl _ rfl n tA ts rfl (xPPPPP ((hT.same g1).same g2) c3 (by (clear hl e2 c2 hb; omega)) (by (first | exact AR.j15 (AR.i4 c1.right (of_decide_eq_true (id (Eq.refl true)))) | omega)) hl (fun b H3 g3 hb => (xWP _ rfl ?_))))
    cases b with
    | false => exact iteT fun x => q2 (fun z => Bool.noConfusion (hb.mpr z.2.2.2.2)) x H3 ((g1.trans g2).trans g3)
    | true => exact iteF (q1 (xPPPP ⟨c1, c2⟩ c3 (congrArg Int.ofNat f1) f2 (hb.mp rfl)) H3 ((g1.trans g2).trans g3))
end K01

namespace K01
open PySem L2 PyProof.Rows
variable {P : Program} {w : World} {K : PySem.W.Frag} {mg : Str → Option Value} {base : Heap} {t : Adr}
def spKind (C : Addr) : Sp := fun vs H Q _ => ∃ x : Addr, vs = [.ref x] ∧ H x = some (excO C x) ∧ ∀ H', Same H H' → Q (.bl true) H'
theorem ok_kind (T : Txt K mg t) : FnOk P w K mg base CX0 1 t.a_l_kind t.d_l_kind ["_law_error"] (spKind t.c_NoMap) := by
  refine T.F_l_kind.ok sc_l_kind (fun vs H Q E h => ?_) (fun cdv A outer s H vs Q E hr h => ?_)
  · refine yWP h fun x ye544_1 _ => ?_; try clear h; subst ye544_1; rfl
  refine yWPP h fun x ye545_1 hx q => ?_; try clear h; subst ye545_1
  have nd := sc_l_kind.nd
  refine (xWP _ (pss_cons (ps_set (i := 1) nd rfl (Or.inl rfl) (pe_callB call_isiXs rfl T.z_isinstance boot_isinstance (pa_cons (pv 0) (pa_cons (pe_tup (pa_cons (pe_glob (v := .ref t.c_NoLaid) rfl T.m_NoLaid rfl) (pa_cons (pe_glob (v := .ref t.c_NoLand) rfl T.m_NoLand rfl) (pa_cons (pe_glob (v := .ref t.c_NoNet) rfl T.m_NoNet rfl) (pa_cons (pe_glob (v := .ref t.c_NoPicture) rfl T.m_NoPicture rfl) (pa_cons (pe_glob (v := .ref t.c_NoRow) rfl T.m_NoRow rfl) (pa_cons (pe_glob (v := .ref t.c_NoShape) rfl T.m_NoShape rfl) (pa_cons (pe_glob (v := .ref t.c_NoText) rfl T.m_NoText rfl) (pa_cons (pe_glob (v := .ref t.c_NoThing) rfl T.m_NoThing rfl) (pa_cons (pe_glob (v := .ref t.c_NotFlat) rfl T.m_NotFlat rfl) pa_nil)))))))))) pa_nil))))
    (pss_one (ps_ret (pe_and (pe_callB call_isiX rfl T.z_isinstance boot_isinstance (pa_cons (pv 0) (pa_cons (pe_glob (v := .ref t.c_NoMap) rfl T.m_NoMap rfl) pa_nil))) (pe_and (pe_callB call_isiX rfl T.z_isinstance boot_isinstance (pa_cons (pv 0) (pa_cons (pe_bltn (v := .ty "ValueError") rfl T.z_ValueError PyProof.Rows.Boot.«ValueError» rfl) pa_nil))) (pe_one (pe_not (pv 1)))))))) ?_)
  refine (xWPP _ rfl (by show 9 ≤ sizeLine; decide) (fun tp htp => ?_))
  have g1 := same_new htp (.tup ([t.c_NoLaid, t.c_NoLand, t.c_NoNet, t.c_NoPicture, t.c_NoRow, t.c_NoShape, t.c_NoText, t.c_NoThing, t.c_NotFlat].map V.ref))
  refine (xWWWWWPPP x t.c_NoMap tp ([t.c_NoLaid, t.c_NoLand, t.c_NoNet, t.c_NoPicture, t.c_NoRow, t.c_NoShape, t.c_NoText, t.c_NoThing, t.c_NotFlat]) false rfl (g1 _ _ hx) upd_same (xPP T.x_K (kitAny_none ?_) ?_))
  · simp only [List.mem_cons, List.not_mem_nil, or_false]
    rintro D (rfl | rfl | rfl | rfl | rfl | rfl | rfl | rfl | rfl)
    · exact T.x_NoLaid
    · exact T.x_NoLand
    · exact T.x_NoNet
    · exact T.x_NoPicture
    · exact T.x_NoRow
    · exact T.x_NoShape
    · exact T.x_NoText
    · exact T.x_NoThing
    · exact T.x_NotFlat
  refine (xWPWWWWWP _ rfl x t.c_NoMap _ _ true rfl (xPPPPWP (.inl (xWP _ rfl rfl)) (g1 _ _ hx) T.x_K kit_self true rfl (iteT ?_)))
  refine (xWPWWWWWP _ rfl x t.c_NoMap _ _ true rfl (xPPPPWP (.inr (xWP _ rfl rfl)) (g1 _ _ hx) T.x_K (kit_ve T.x_ve) true rfl (iteT ?_)))
  exact (xWPWP _ rfl false rfl (q _ g1))
def spRefB (vs : List L2.V) (H : L2.Hp) (Q : L2.VK) (wa : Addr) (m : Int) (ts : AW.Ts) (os : AW.Os) : Prop := vs = [.ref wa] ∧ WebI H wa m ts os ∧ ts.length ≤ 1000 ∧ ∀ (b : Bool) (H' : Hp), Same H H' → (b = true ↔ ¬ AW.IsMap m ts os) → Q (.bl b) H'
def spRef : Sp := fun vs H Q _ => ∃ (wa : Addr) (m : Int) (ts : AW.Ts) (os : AW.Os), spRefB vs H Q wa m ts os
theorem ok_ref (T : Txt K mg t) : FnOk P w K mg base CX0 4 t.a_l_refused t.d_l_refused ["_law_web"] spRef := by
  have G_check_map := ok_check (P := P) (w := w) (base := base) T
  have G_l_kind := ok_kind (P := P) (w := w) (base := base) T
  refine T.F_l_refused.ok sc_l_refused (fun vs H Q E h => ?_) (fun cdv A outer s H vs Q E hr h => ?_)
  · refine yWWWWP h fun wa m ts os ye546_4 _ => ?_; try clear h; subst ye546_4; rfl
  refine yWWWWPPP h fun wa m ts os ye547_4 hW hl q => ?_; try clear h; subst ye547_4
  have nd := sc_l_refused.nd
  refine (xWP _ (pss_cons (ps_set (i := 1) nd rfl (Or.inl rfl) pe_non)
    (pss_cons (ps_tryAs (i := 2) (E := fun _ _ H2 => Same H H2 ∧ ¬ AW.IsMap m ts os) rfl rfl rfl rfl T.m_BendError rfl T.x_up.exm nd rfl rfl (fun pn xe hx => (pss_one (ps_if (pt_cmpR op_notN (pe_call G_check_map (hr.mono (by decide)) rfl T.m_check_map T.k_check_map T.b_check_map .nil hx (pa_cons (pv 0) pa_nil)) pe_non (nomark _)) (pss_one (ps_ret pe_non)) pss_nil))) (fun pn xe e => (pss_one (ps_set (i := 1) nd rfl (Or.inl rfl) (pv 2)))))
    (pss_cons (ps_if (pt_cmpR op_isN (pv 1) pe_non (nomark _)) (pss_one (ps_ret pe_bl)) pss_nil)
    (pss_cons (ps_if (pt_not (pt_truth (pe_call G_l_kind (hr.mono (by decide)) rfl T.m_l_kind T.k_l_kind T.b_l_kind .nil pass0 (pa_cons (pv 1) pa_nil)) (fun _ => rfl))) (pss_one (ps_ret pe_non)) pss_nil)
    (pss_one (ps_ret pe_bl)))))) ?_)
  refine ⟨?_, ?_⟩
  · refine (xWPWWWWPP _ rfl wa m ts os rfl hW (xPP hl (fun hM H1 g1 => ?_) (fun hM x H1 g1 => ⟨g1, hM⟩)))
    refine (xPWP rfl _ rfl (iteF (xWPPWP _ rfl rfl _ rfl (iteT ?_))))
    exact q false H1 g1 ⟨fun z => Bool.noConfusion z, fun z => absurd hM z⟩
  · rintro x σ' H1 hlen ⟨g1, hM⟩ hx
    have g2 := g1.trans (same_new hx (excO t.c_NoMap x))
    match σ', hlen with
    | [s0, s1, s2], _ =>
      refine (xWPWPPWP _ rfl _ rfl rfl _ rfl (iteF (xWPWPP _ rfl x rfl upd_same (fun H2 g3 => (xWP _ rfl (iteF ?_))))))
      exact q true H2 (g2.trans g3) ⟨fun _ => hM, fun _ => rfl⟩
end K01

namespace L2
open PySem PyProof.Rows
theorem inV_ints (x : Int) (ns : List Int) : inV (.int x) (ns.map V.int) = decide (x ∈ ns) := by
  unfold inV
  rw [Bool.eq_iff_iff, List.any_eq_true, decide_eq_true_iff]
  constructor
  · intro hq104; refine yWP hq104 fun y hy h => ?_; try clear hq104
    refine yWP (List.mem_map.mp hy) fun z hz yr549 => ?_; subst yr549
    have : z = x := by simpa [eqV] using h
    exact this ▸ hz
  · intro h
    exact (xWP (.int x) (List.mem_map.mpr (xWP x h rfl)) (by simp [eqV]))
theorem flat_ints (ns : List Int) : (ns.map V.int).all flatV = true := by
  rw [List.all_eq_true]; intro y hy; refine yWP (List.mem_map.mp hy) fun n _ yr550 => ?_; subst yr550; rfl
theorem at_pairI {x y e : Int} : atI [V.int x, V.int y] (e % 2) = some (.int (if e % 2 = 0 then x else y)) := by
  have h : e % 2 = 0 ∨ e % 2 = 1 := by omega
  rcases h with h | h
  · rw [h]; rfl
  · rw [h]; rfl
end L2
namespace K01
open PySem L2 PyProof.Rows
variable {P : Program} {w : World} {K : PySem.W.Frag} {mg : Str → Option Value} {base : Heap} {t : Adr}
def spPlaceIB (vs : List L2.V) (H : L2.Hp) (Q : L2.VK) (a : Addr) (ts : AW.Ts) (e : Int) : Prop := vs = [.ref a, .int e] ∧ TsI H a ts ∧ 0 ≤ e ∧ e < 2 * ts.length ∧ Q (.int (AW.plc ts e.toNat)) H
def spPlaceI : Sp := fun vs H Q _ => ∃ (a : Addr) (ts : AW.Ts) (e : Int), spPlaceIB vs H Q a ts e
theorem ok_placeI (T : Txt K mg t) : FnOk P w K mg base CX0 1 t.a_l_place t.d_l_place ["_law_ties", "_law_end"] spPlaceI := by
  refine T.F_l_place.ok sc_l_place (fun vs H Q E h => ?_) (fun cdv A outer s H vs Q E hr h => ?_)
  · refine yWWWP h fun a ts e ye551_3 _ => ?_; try clear h; subst ye551_3; rfl
  refine yWWWPPPP h fun a ts e ye552_3 ye552_4 h0 h1 q => ?_; try clear h; subst ye552_3; obtain ⟨tr, e1, e2, e3⟩ := ye552_4
  obtain ⟨n, rfl⟩ := Int.eq_ofNat_of_zero_le h0
  have hn : n / 2 < ts.length := by (clear e2 h0; omega)
  refine yWP (e3 (n / 2) ts[n / 2] (List.getElem?_eq_getElem hn)) fun r f1 f2 => ?_
  refine (xWP _ (pss_one (ps_ret (pe_ix ix_seq (pe_ix ix_list (pv 0) (pe_op op_fdiv (pv 1) pe_int) (fun _ _ => rfl)) (pe_op op_mod (pv 1) pe_int) (fun _ _ => rfl)))) ?_)
  refine (xWPWPWWPP _ rfl _ rfl _ _ rfl rfl (xPWWWWPPP ⟨by decide, by decide⟩ a _ _ (.ref r) rfl rfl (SqL.of e1) ⟨ (by show atI _ ((n : Int) / 2) = _; rw [show (n : Int) / 2 = ((n / 2 : Nat) : Int) by (first | exact AR.j28 | omega)]; exact atI_nat (by rw [List.getElem?_map, f1]; rfl)), ?_⟩))
  refine (xWPWWPPP _ rfl _ _ rfl rfl (by show (0 : Int) < 2; decide) (.inr (.inl (xWWWWPPPP r _ _ _ rfl rfl (SqT.of f2) at_pairI ?_))))
  have e : (if (n : Int) % 2 = 0 then ts[n / 2].1 else ts[n / 2].2) = AW.plc ts (Int.toNat n) := by
    unfold AW.plc
    rw [show (Int.toNat (n : Int)) = n from rfl, List.getElem?_eq_getElem hn]
    simp only [Option.map_some, Option.getD_some]
    by_cases c : n % 2 = 0
    · rw [if_pos c, if_pos (by (first | exact AR.g359 c | omega))]
    · rw [if_neg c, if_neg (by (clear e2 h0 h1; omega))]
  rw [e]
  exact q
def spIsmB (vs : List L2.V) (H : L2.Hp) (Q : L2.VK) (wa : Addr) (m : Int) (ts : AW.Ts) (os : AW.Os) : Prop := vs = [.ref wa] ∧ WebI H wa m ts os ∧ ts.length ≤ 1000 ∧ os.flatten.length ≤ 5000 ∧ ∀ (b : Bool) (H' : Hp), Same H H' → (b = true ↔ AW.IsMap m ts os) → Q (.bl b) H'
def spIsm : Sp := fun vs H Q _ => ∃ (wa : Addr) (m : Int) (ts : AW.Ts) (os : AW.Os), spIsmB vs H Q wa m ts os
theorem ok_ism (T : Txt K mg t) : FnOk P w K mg base CX0 2 t.a_l_is_map t.d_l_is_map ["_law_web"] spIsm := by
  have G_l_place := ok_placeI (P := P) (w := w) (base := base) T
  refine T.F_l_is_map.ok sc_l_is_map (fun vs H Q E h => ?_) (fun cdv A outer s H vs Q E hr h => ?_)
  · refine yWWWWP h fun wa m ts os ye554_4 _ => ?_; try clear h; subst ye554_4; rfl
  refine yWWWWPPPP h fun wa m ts os ye555_4 ye555_5 hl hfl q => ?_; try clear h; subst ye555_4; obtain ⟨tA, oA, hw, hT, hO⟩ := ye555_5
  have nd := sc_l_is_map.nd
  have nd_l_end_l_place_here_l_ties : (["_law_end", "_law_place_here", "_law_ties"] : List Str).Nodup := by decide
  refine (xWP _ (pss_cons (ps_asg (pv 0) (pg_tup rfl (pgs_cons (pg_name (i := 1) nd rfl (Or.inl rfl)) (pgs_cons (pg_name (i := 2) nd rfl (Or.inr rfl)) (pgs_cons (pg_name (i := 3) nd rfl (Or.inl rfl)) pgs_nil)))))
    (pss_cons (ps_if (PW.pt (pw_or (pt_cmpR op_lt (pv 1) pe_int (nomark _)) (pw_or (pt_cmpR op_gt (pv 1) pe_int (nomark _)) (pw_or (pt_cmpR op_lt (pe_callB call_len_seq rfl T.z_len PySem.boot_len (pa_cons (pv 2) pa_nil)) pe_int (nomark _)) (pw_or (pt_cmpR op_gt (pe_callB call_len_seq rfl T.z_len PySem.boot_len (pa_cons (pv 2) pa_nil)) pe_int (nomark _)) (pw_or1 (pt_cmpR op_ne (pe_callB call_len_seq rfl T.z_len PySem.boot_len (pa_cons (pv 3) pa_nil)) (pv 1) (nomark _)))))))) (pss_one (ps_ret pe_bl)) pss_nil)
    (pss_cons (ps_for PassesOwn.never rfl (pi_list (pv 2)) (pg_tup rfl (pgs_cons (pg_name (i := 4) nd rfl (Or.inl rfl)) (pgs_cons (pg_name (i := 5) nd rfl (Or.inl rfl)) pgs_nil))) (pss_one (ps_if (PW.pt (pw_or (pt_cmpR op_lt (pv 4) pe_int (nomark _)) (pw_or (pt_cmpR op_ge (pv 4) (pv 1) (nomark _)) (pw_or (pt_cmpR op_lt (pv 5) pe_int (nomark _)) (pw_or1 (pt_cmpR op_ge (pv 5) (pv 1) (nomark _))))))) (pss_one (ps_ret pe_bl)) pss_nil)))
    (pss_cons (ps_set (i := 6) nd rfl (Or.inl rfl) (pe_lst pa_nil))
    (pss_cons (ps_for PassesOwn.never rfl (pi_list (pv 3)) (pg_name (i := 7) nd rfl (Or.inl rfl)) (pss_one (ps_set (i := 6) nd rfl (Or.inl rfl) (pe_op op_cat (pv 6) (pv 7)))))
    (pss_cons (ps_if (pt_cmpR (op_neD hr.units) (pe_callB call_sortedA rfl T.z_sorted boot_sorted (pa_cons (pv 6) pa_nil)) (pe_callTy (call_list_rng rfl) rfl T.z_list boot_list (pa_cons (pe_callTy call_range1 rfl T.z_range boot_range (pa_cons (pe_op op_mul pe_int (pe_callB call_len_seq rfl T.z_len PySem.boot_len (pa_cons (pv 2) pa_nil))) pa_nil)) pa_nil)) (nomark _)) (pss_one (ps_ret pe_bl)) pss_nil)
    (pss_cons (ps_for PassesOwn.never rfl (pi_enum rfl T.z_enumerate (pa_cons (pv 3) pa_nil)) (pg_tup rfl (pgs_cons (pg_name (i := 8) nd rfl (Or.inr rfl)) (pgs_cons (pg_name (i := 7) nd rfl (Or.inl rfl)) pgs_nil))) (pss_one (ps_if (PW.pt (pw_or (pt_cmpR op_gt (pe_callB call_len_seq rfl T.z_len PySem.boot_len (pa_cons (pv 7) pa_nil)) pe_int (nomark _)) (pw_or1 (pt_cmpR (op_neD hr.units) (pe_comp (N' := ["_law_end", "_law_place_here", "_law_ties"]) (js := [none, some 8, some 2]) rfl (pi_list (pv 7)) (fun _ _ _ _ _ => (pg_name (i := 0) nd_l_end_l_place_here_l_ties rfl (Or.inl rfl))) (fun _ _ _ _ _ => (pf_one (pt_cmpR op_ne (pe_call G_l_place (hr.mono (by decide)) rfl T.m_l_place T.k_l_place T.b_l_place .nil pass0 (pa_cons (pv 2) (pa_cons (pv 0) pa_nil))) (pv 1) (nomark _)))) (fun _ _ _ _ _ => (pv 0))) (pe_lst pa_nil) (nomark _))))) (pss_one (ps_ret pe_bl)) pss_nil)))
    (pss_cons (ps_set (i := 9) nd rfl (Or.inl rfl) (pe_lst (pa_cons pe_int pa_nil)))
    (pss_cons (ps_for PassesOwn.never rfl (pi_range1 rfl T.z_range (pa_cons (pv 1) pa_nil)) (pg_name (i := 10) nd rfl (Or.inl rfl)) (pss_cons (ps_for PassesOwn.never rfl (pi_list (pv 2)) (pg_tup rfl (pgs_cons (pg_name (i := 4) nd rfl (Or.inl rfl)) (pgs_cons (pg_name (i := 5) nd rfl (Or.inl rfl)) pgs_nil))) (pss_cons (ps_if (PW.pt (pw_and (pt_cmpR op_in_seq (pv 4) (pv 9) rfl) (pw_and1 (pt_cmpR op_notIn_seq (pv 5) (pv 9) rfl)))) (pss_one (ps_expr (pe_bm PySem.F.plainAttrs_list PySem.F.slot_list_append PySem.F.type_list_append mt_append (pv 9) (pa_cons (pv 5) pa_nil)))) pss_nil)
    (pss_one (ps_if (PW.pt (pw_and (pt_cmpR op_in_seq (pv 5) (pv 9) rfl) (pw_and1 (pt_cmpR op_notIn_seq (pv 4) (pv 9) rfl)))) (pss_one (ps_expr (pe_bm PySem.F.plainAttrs_list PySem.F.slot_list_append PySem.F.type_list_append mt_append (pv 9) (pa_cons (pv 4) pa_nil)))) pss_nil))))
    (pss_one (ps_if (pt_cmpR op_eq (pe_callB call_len_seq rfl T.z_len PySem.boot_len (pa_cons (pv 9) pa_nil)) (pv 1) (nomark _)) (pss_one (ps_ret pe_bl)) pss_nil))))
    (pss_one (ps_ret pe_bl))))))))))) ?_)
  refine yWPP (id hT) fun tr e1 e2 e3 => ?_
  refine yWPP (id hO) fun or o1 o2 o3 => ?_
  have no : ∀ {H'}, Same H H' → ¬ AW.IsMap m ts os → Q (.bl false) H' := fun g z => q false _ g ⟨fun y => Bool.noConfusion y, fun y => absurd y z⟩
  refine (xWPWWPPP _ rfl wa _ rfl (SqT.of hw) rfl (xWWPWWP _ _ rfl _ _ rfl (xWWPP _ _ rfl rfl ?_)))
  refine (xWPWWPPWP _ rfl _ _ rfl rfl _ rfl (ite2 (fun c => iteT ?_) (fun c1 => ?_)))
  · exact no (Same.refl _) fun z => by have := z.1.1; have := of_decide_eq_true c; (clear hl hfl e2 o2; omega)
  have c1 : 1 ≤ m := by simpa using c1
  refine (xWPWWPPWP _ rfl _ _ rfl rfl _ rfl (ite2 (fun c => iteT ?_) (fun c2 => ?_)))
  · exact no (Same.refl _) fun z => by have := z.1.1; have := of_decide_eq_true c; (clear hl hfl e2 o2; omega)
  have c2 : m ≤ 200 := by simpa using c2
  refine (xWPWWPP _ rfl tA _ rfl (.inl (SqL.of e1)) (xWWPPWP _ _ rfl rfl _ rfl ?_))
  rw [List.length_map, e2]
  refine ite2 (fun c => iteT ?_) (fun c3 => ?_)
  · exact no (Same.refl _) fun z => by have := z.1.2; have := of_decide_eq_true c; (clear hfl o2 c1 c2; omega)
  have c3 : 1 ≤ ts.length := by
    have := of_decide_eq_false (Bool.eq_false_iff.mpr c3)
    (first | exact AR.j15 (AR.j29 this (of_decide_eq_true (id (Eq.refl true)))) | omega)
  refine (xWPWWPP _ rfl tA _ rfl (.inl (SqL.of e1)) (xWWPPWP _ _ rfl rfl _ rfl ?_))
  rw [List.length_map, e2]
  refine ite2 (fun c => iteT ?_) (fun c4 => ?_)
  · exact no (Same.refl _) fun z => by have := z.1.2; have := of_decide_eq_true c; (clear hfl o2 c1 c2; omega)
  have c4 : ts.length ≤ 400 := by
    have := of_decide_eq_false (Bool.eq_false_iff.mpr c4)
    (first | exact AR.j15 (AR.i8 this (of_decide_eq_true (id (Eq.refl true)))) | omega)
  refine (xWPWWPPWP _ rfl oA _ rfl (.inl (SqL.of o1)) _ rfl (xPWP rfl _ rfl ?_))
  rw [List.length_map, o2]
  by_cases c5 : (os.length : Int) = m
  case neg =>
    rw [show (!decide ((V.int (os.length : Nat)) = V.int m)) = true by rw [decide_eq_false (fun z => c5 (V.int.inj z))]; rfl]
    exact iteT (no (Same.refl _) fun z => c5 z.2.2.1)
  rw [show (!decide ((V.int (os.length : Nat)) = V.int m)) = false by rw [decide_eq_true (congrArg V.int c5)]; rfl]
  refine iteF ?_
  obtain ⟨n, rfl⟩ := Int.eq_ofNat_of_zero_le (show 0 ≤ m by (clear hl hfl e2 o2 c3 c4 c5; omega))
  have c5 : os.length = n := Int.ofNat.inj c5
  let Pv1 : Nat → L2.St → L2.Hp → Prop := fun k σ H' => (∃ v4 v5, σ = [some (.ref wa), some (vn n), some (.ref tA), some (.ref oA), v4, v5, none, none, none, none, none]) ∧ H = H' ∧ ∀ (i : Nat) t, i < k → ts[i]? = some t → (0 ≤ t.1 ∧ t.1 < n) ∧ 0 ≤ t.2 ∧ t.2 < n
  refine (xWPWPP _ rfl tA rfl ⟨_, SqL.of e1⟩ (for_list (K := K) (a := tA) (xs := tr.map V.ref) Pv1 (xPP (xWW _ _ rfl) rfl (fun i t hi => by (clear hl hfl e2 o2 c3 c4 c1 c2 c5; omega))) ?_ ?_ ?_))
  · intro i σ H' hi hq105; refine yPP hq105 fun _ ye558_1 _ => ?_; try clear hq105; subst ye558_1
    exact SqL.of e1
  · intro i x σ H' hx hq106; refine yPP hq106 fun ye559_0 ye559_1 ih => ?_; try clear hq106; obtain ⟨v4, v5, rfl⟩ := ye559_0; subst ye559_1
    refine yWWPP (TsI.nth (a := tA) e2 e3 hx) fun ye560_0 r et ye560_3 er => ?_; obtain ⟨u, v⟩ := ye560_0; subst ye560_3
    refine (xWWPPPWWP r _ rfl (SqT.of er) rfl _ _ rfl (xWWPP _ _ rfl rfl ?_))
    have bad : ¬ ((0 ≤ u ∧ u < n) ∧ 0 ≤ v ∧ v < n) → Q (.bl false) H := fun z => no (Same.refl _) fun y => z (y.2.1 _ (List.mem_of_getElem? et))
    refine (xWPWWPPWP _ rfl _ _ rfl rfl _ rfl (ite2 (fun c => iteT (bad fun z => ?_)) (fun d1 => ?_)))
    · have := of_decide_eq_true c; (clear hl hfl e2 o2 c3 c4 c1 c2 c5 bad; omega)
    refine (xWPWPWWPP _ rfl _ rfl _ _ rfl rfl (xWP _ rfl (ite2 (fun c => iteT (bad fun z => ?_)) (fun d2 => ?_))))
    · have := of_decide_eq_true c; (clear hl hfl e2 o2 c3 c4 c1 c2 c5 bad; omega)
    refine (xWPWWPPWP _ rfl _ _ rfl rfl _ rfl (ite2 (fun c => iteT (bad fun z => ?_)) (fun d3 => ?_)))
    · have := of_decide_eq_true c; (clear hl hfl e2 o2 c3 c4 c1 c2 c5 bad; omega)
    refine (xWPWPWWPP _ rfl _ rfl _ _ rfl rfl (xWP _ rfl (ite2 (fun c => bad fun z => ?_) (fun d4 => ?_))))
    · have := of_decide_eq_true c; (clear hl hfl e2 o2 c3 c4 c1 c2 c5 bad; omega)
    refine (xPP (xWW _ _ rfl) rfl (fun j t hj ht => ?_))
    by_cases hj2 : j < i
    · exact ih j t hj2 ht
    · have : j = i := by exact AR.n24b hj hj2
      subst this
      rw [et] at ht
      cases ht
      have f1 := of_decide_eq_false (Bool.eq_false_iff.mpr d1)
      have f2 := of_decide_eq_false (Bool.eq_false_iff.mpr d2)
      have f3 := of_decide_eq_false (Bool.eq_false_iff.mpr d3)
      have f4 := of_decide_eq_false (Bool.eq_false_iff.mpr d4)
      dsimp only
      (clear hl hfl e2 o2 c3 c4 c1 c2 c5 bad hj hj2; omega)
  intro σ H' hq107; refine yPP hq107 fun ye561_0 ye561_1 hin => ?_; try clear hq107; obtain ⟨v4, v5, rfl⟩ := ye561_0; subst ye561_1
  have c6 : AW.InW n ts := fun t ht => by
    obtain ⟨i, hi, rfl⟩ := List.mem_iff_getElem.mp ht
    exact hin i _ (by rw [List.length_map, e2]; exact hi) (List.getElem?_eq_getElem hi)
  refine ⟨(by show 0 ≤ sizeLine; decide), fun eA heA => ?_⟩
  let Pv2 : Nat → L2.St → L2.Hp → Prop := fun k σ H' => (∃ v7 eA, σ = [some (.ref wa), some (vn n), some (.ref tA), some (.ref oA), v4, v5, some (.ref eA), v7, none, none, none] ∧ H' eA = some (.lst ((os.take k).flatten.map V.int))) ∧ Same H H'
  refine (xWPWPP _ rfl oA rfl ⟨_, SqL.of (same_new heA _ _ _ o1)⟩ (for_list (K := K) (a := oA) (xs := or.map V.ref) Pv2 ⟨(xWWP _ eA rfl upd_same), same_new heA _⟩ ?_ ?_ ?_))
  · intro i σ H' hi hq108; obtain ⟨_, g⟩ := hq108
    exact SqL.of (g _ _ o1)
  · intro i x σ H' hx hq109; obtain ⟨⟨v7, eA, rfl, hE⟩, g⟩ := hq109
    refine yWWPP (OsI.nth o2 o3 hx) fun o r eo ye562_3 er => ?_; subst ye562_3
    have ht : os.take (i + 1) = os.take i ++ [o] := by rw [List.take_add_one, eo]; rfl
    refine (xWPWP _ rfl _ rfl (xWWWWPPPP eA r _ _ rfl rfl hE (g _ _ er) ⟨ ?_, fun p hp => ⟨(xWWP _ p rfl ?_), g.trans (same_new hp _)⟩⟩))
    · rw [← List.length_append, ← List.map_append, List.length_map]
      have e : (os.take i).flatten ++ o = (os.take (i + 1)).flatten := by rw [ht, List.flatten_append]; simp
      rw [e]
      have h2 : (os.take (i + 1)).flatten.length ≤ os.flatten.length := by
        conv => rhs; rw [← List.take_append_drop (i + 1) os]
        rw [List.flatten_append, List.length_append]
        (first | exact AR.m1 | omega)
      exact Nat.le_trans (Nat.le_trans h2 hfl) (by decide)
    · have e : (os.take (i + 1)).flatten.map V.int = (os.take i).flatten.map V.int ++ o.map V.int := by rw [ht, List.flatten_append, List.map_append]; simp
      rw [e]
      exact upd_same
  intro σ H1 hq110; obtain ⟨⟨v7, eA, rfl, hE⟩, g1⟩ := hq110
  rw [List.length_map, o2, List.take_length] at hE
  clear heA
  refine (xWPWWPP _ rfl eA _ rfl (SqL.of hE) (fun sA ns' hsA p1 p2 => ?_))
  have g2 := g1.trans (same_new hsA (.lst (ns'.map V.int)))
  refine (xWPWWPP _ rfl tA _ rfl (.inl (SqL.of (g2 _ _ e1))) (xWWPPPWP _ _ rfl rfl (.inl ⟨by decide, by decide⟩) _ rfl (fun gA hgA => ?_)))
  rw [List.length_map, e2]
  refine (xWWPPP gA (2 * ts.length) rfl ?_ (by (clear hfl o2 c1 c2 c5; omega)) (fun lA hlA => ?_))
  · rw [upd_same]; simp
  have eA2 : vns (List.range (2 * ts.length)) = (AW.all2 ts).map V.int := vns_ints _
  rw [eA2]
  have gB := same_new hgA (.rng 0 (2 * ((ts.length : Nat) : Int)))
  have gC := same_new hlA (.lst ((AW.all2 ts).map V.int))
  have g3 := (g2.trans gB).trans gC
  refine (xWWPPPPWP _ _ (bd_ints (ns := ns') (gC _ _ (gB _ _ upd_same))) (bd_ints (ns := AW.all2 ts) upd_same) (shaped_ints _) (shaped_ints _) _ rfl ?_)
  rw [eqv_intsL]
  by_cases c7 : ns' = AW.all2 ts
  case neg =>
    rw [decide_eq_false c7]
    refine iteT (no g3 fun z => ?_)
    exact c7 (AW.sorted_eq (p1.trans ((AW.fit_iff c6 (congrArg Int.ofNat c5)).mp z.2.2.2.1).1) p2 (AW.up_all2 ts))
  rw [decide_eq_true c7]
  have c7 : os.flatten.Perm (AW.all2 ts) := c7 ▸ p1.symm
  refine iteF ?_
  clear eA2
  generalize upd (upd (upd H1 sA (HO.lst (ns'.map V.int))) gA (HO.rng 0 (2 * ((ts.length : Nat) : Int)))) lA (HO.lst ((AW.all2 ts).map V.int)) = H2 at g3
  let Pv3 : Nat → L2.St → L2.Hp → Prop := fun k σ H' => (∃ v7 v8, σ = [some (.ref wa), some (vn n), some (.ref tA), some (.ref oA), v4, v5, some (.ref eA), v7, v8, none, none]) ∧ Same H H' ∧ ∀ (i : Nat) o, i < k → os[i]? = some o → o.length ≤ 4 ∧ ∀ e ∈ o, AW.plc ts e.toNat = i
  refine (xWPWPP _ rfl oA rfl ⟨_, SqL.of (g3 _ _ o1)⟩ (for_enum (K := K) (a := oA) (xs := or.map V.ref) Pv3 (xPP (xWW _ _ rfl) g3 (fun i o hi => by (clear hl hfl e2 o2 c3 c4 c1 c2 c5; omega))) ?_ ?_ ?_))
  · intro i σ H' hi hq111; refine yPP hq111 fun _ g _ => ?_; try clear hq111
    exact SqL.of (g _ _ o1)
  · rintro i x σ H' Tp hx ⟨⟨v7', v8, rfl⟩, g, ih⟩ hTp
    refine yWWPP (OsI.nth o2 o3 hx) fun o r eo ye564_3 er => ?_; subst ye564_3
    have g4 := g.trans (same_new hTp (.tup [vn i, .ref r]))
    refine (xWWPPPWWP Tp _ rfl (SqT.of upd_same) rfl _ _ rfl (xWWPP _ _ rfl rfl ?_))
    have bad : ∀ {H'}, Same H H' → ¬ (o.length ≤ 4 ∧ ∀ e ∈ o, AW.plc ts e.toNat = i) → Q (.bl false) H' := fun g z => no g fun y => z (((AW.fit_iff c6 (congrArg Int.ofNat c5)).mp y.2.2.2.1).2 i o eo)
    refine (xWPWWPP _ rfl r _ rfl (.inl (SqL.of (g4 _ _ er))) (xWWPPWP _ _ rfl rfl _ rfl ?_))
    rw [List.length_map]
    refine ite2 (fun c => iteT (bad g4 fun z => ?_)) (fun d1 => ?_)
    · have := of_decide_eq_true c; (clear hl hfl e2 o2 c3 c4 c1 c2 c5; omega)
    have d1 : o.length ≤ 4 := by have := of_decide_eq_false (Bool.eq_false_iff.mpr d1); (first | exact AR.j15 (AR.i8 this (of_decide_eq_true (id (Eq.refl true)))) | omega)
    refine (xWPWPP _ rfl r rfl ⟨_, SqL.of (g4 _ _ er)⟩ (fun D hD => ?_))
    let bd : Int → Bool := fun e => !decide (V.int (AW.plc ts e.toNat) = vn i)
    have mem : ∀ e ∈ o, 0 ≤ e ∧ e < 2 * ts.length := fun e he => AW.mem_all2.mp (c7.mem_iff.mp (List.mem_flatten.mpr (xWP o (List.mem_of_getElem? eo) he)))
    let Pv4 : Nat → List L2.V → L2.Hp → Prop := fun j ys H5 => ys = ((o.take j).filter bd).map V.int ∧ Same (upd H' Tp (HO.tup [vn i, V.ref r])) H5 ∧ H5 D = some (.lst ys)
    refine comp_by o.length Pv4 (xPP rfl (same_new hD _) upd_same) ?_ ?_
    · intro j ys H5 hj hq112; refine yPP hq112 fun ye565_0 g5 hD5 => ?_; try clear hq112; subst ye565_0
      have er5 := (g4.trans g5) _ _ er
      have ej : (o.map V.int)[j]? = some (.int o[j]) := by rw [List.getElem?_map, List.getElem?_eq_getElem hj]; rfl
      refine ⟨(xWWP _ _ (SqL.of er5) ej), ?_⟩
      intro x' H6 hq113; obtain ⟨rfl, hx'⟩ := hq113
      have e6 := hx' _ (SqL.of er5)
      rw [ej] at e6
      cases e6
      obtain ⟨m0, m1⟩ := mem o[j] (List.getElem_mem hj)
      have tk : o.take (j + 1) = o.take j ++ [o[j]] := by rw [List.take_add_one, List.getElem?_eq_getElem hj]; rfl
      refine (xPWPWP ((Fills.refl _).set _ rfl) _ rfl _ rfl (xWWWPPPP tA ts (o[j]) rfl (hT.same (g4.trans g5)) m0 m1 (xWPPWP _ rfl rfl _ rfl ?_)))
      dsimp only [Pv4]
      rw [tk, List.filter_append, List.map_append]
      refine ite2 (fun c => (xWPPPPP _ rfl hD5 ?_ ?_ (g5.fresh hD _) upd_same)) (fun c => (xPP ?_ g5 ?_))
      · rw [List.length_map]
        exact Nat.lt_of_le_of_lt (Nat.le_trans (List.length_filter_le _ _) (show _ ≤ 4 by rw [List.length_take]; (first | exact AR.n6 (AR.m42 d1 AR.m27) | omega))) (by decide)
      · rw [List.filter_cons_of_pos (show bd o[j] = true from c)]; rfl
      · rw [List.filter_cons_of_neg (show ¬ bd o[j] = true from c)]; simp
      · exact hD5
    · intro ys H5 hq114; refine yPP hq114 fun ye566_0 g5 hD5 => ?_; try clear hq114; subst ye566_0
      rw [List.take_length] at hD5
      refine (xPP (xWP _ (SqL.of ((g4.trans g5) _ _ er)) (by rw [List.length_map]; exact Nat.le_refl _)) (by show 0 ≤ sizeLine; decide) (fun nA hnA => ?_))
      have g6 := (g4.trans g5).trans (same_new hnA (.lst (([] : List Int).map V.int)))
      refine (xWWPPPPWP _ _ (bd_ints (ns := o.filter bd) (same_new hnA _ _ _ hD5)) (bd_ints (ns := []) upd_same) (shaped_ints _) (shaped_ints _) _ rfl ?_)
      rw [eqv_intsL]
      by_cases c : o.filter bd = []
      · rw [decide_eq_true c]
        refine iteF (xPP (xWW _ _ rfl) g6 (fun j o' hj ho' => ?_))
        by_cases hj2 : j < i
        · exact ih j o' hj2 ho'
        · have : j = i := by exact AR.n24b hj hj2
          subst this
          rw [eo] at ho'
          cases ho'
          refine ⟨d1, fun e he => ?_⟩
          have z := List.filter_eq_nil_iff.mp c e he
          have z : ¬ (!decide (V.int (AW.plc ts e.toNat) = vn j)) = true := z
          simp only [Bool.not_eq_true', decide_eq_false_iff_not, Classical.not_not] at z
          exact V.int.inj z
      · rw [decide_eq_false c]
        refine iteT (bad g6 fun z => c (List.filter_eq_nil_iff.mpr fun e he => ?_))
        show ¬ (!decide (V.int (AW.plc ts e.toNat) = vn i)) = true
        rw [z.2 e he]
        simp
  intro σ H3 hq115; refine yPP hq115 fun ye567_0 g4 hf => ?_; try clear hq115; obtain ⟨v7', v8, rfl⟩ := ye567_0
  have c8 : AW.Fit2 ts os := ⟨c7, fun i o hi => hf i o (by rw [List.length_map, o2]; exact (List.getElem?_eq_some_iff.mp hi).1) hi⟩
  have c8 := (AW.fit_iff c6 (congrArg Int.ofNat c5)).mpr c8
  refine ⟨(by show 1 ≤ sizeLine; decide), fun cA hcA => ?_⟩
  have c0 : H cA = none := g4.free hcA
  let Pv5 : Nat → L2.St → L2.Hp → Prop := fun k σ H' => (∃ v4 v5 v10, σ = [some (.ref wa), some (vn n), some (.ref tA), some (.ref oA), v4, v5, some (.ref eA), v7', v8, some (.ref cA), v10]) ∧ Same H H' ∧ ∃ C : List Int, H' cA = some (.lst (C.map V.int)) ∧ AW.Passed n ts C k ∧ (0 < k → C.length ≠ n)
  refine (xWPWPPP _ rfl (n : Int) rfl (by (clear hl hfl e2 o2 c3 c4 c5; omega)) (by (clear hl hfl e2 o2 c3 c4 c5; omega)) (for_range (n := n) (lo := 0) Pv5 (xPPWPP (xWWW _ _ _ rfl) (g4.trans (same_new hcA _)) ([0]) upd_same ⟨.start (by (first | exact AR.g473 c1 c2 c5 | omega)), .inr (Nat.le_refl _)⟩ (fun z => absurd z (Nat.lt_irrefl _))) ?_ ?_))
  · intro i σ H' hi hq116; refine yPPWPP hq116 fun ye568_0 g C0 hC0 hp hne => ?_; try clear hq116; obtain ⟨v4', v5', v10, rfl⟩ := ye568_0
    let Pv6 : Nat → L2.St → L2.Hp → Prop := fun k σ H5 => (∃ v4 v5, σ = [some (.ref wa), some (vn n), some (.ref tA), some (.ref oA), v4, v5, some (.ref eA), v7', v8, some (.ref cA), some (.int (0 + (i : Int)))]) ∧ Same H H5 ∧ ∃ C : List Int, H5 cA = some (.lst (C.map V.int)) ∧ AW.Pass n ts C0 C k
    refine (xWPWPP _ rfl tA rfl ⟨_, SqL.of (g _ _ e1)⟩ (for_list (K := K) (a := tA) (xs := tr.map V.ref) Pv6 (xPPWPP (xWW _ _ rfl) g C0 hC0 hp.1 (.inl ⟨rfl, fun j t hj => absurd hj (Nat.not_lt_zero _)⟩)) ?_ ?_ ?_))
    · intro k σ H5 hk hq117; refine yPP hq117 fun _ g5 _ => ?_; try clear hq117
      exact SqL.of (g5 _ _ e1)
    · intro k x σ H5 hx hq118; refine yPPWP hq118 fun ye570_0 g5 C hC hP => ?_; try clear hq118; obtain ⟨v4'', v5'', rfl⟩ := ye570_0
      refine yWWPP (TsI.nth (a := tA) e2 e3 hx) fun ye571_0 r et ye571_3 er => ?_; obtain ⟨u, v⟩ := ye571_0; subst ye571_3
      have hP2 := hP.next c6 et
      have m1 : v ∈ AW.nbs ts u := AW.mem_nbs.mpr (xWP _ (List.mem_of_getElem? et) (.inl ⟨rfl, rfl⟩))
      have l1 := hP.1.le
      have l2 := (AW.half_come hP.1 c6 m1).le
      refine (xWWPPPWWP r _ rfl (SqT.of (g5 _ _ er)) rfl _ _ rfl (xWWPP _ _ rfl rfl ?_))
      refine via (fun σ' H6 => σ' = [some (.ref wa), some (vn n), some (.ref tA), some (.ref oA), some (.int u), some (.int v), some (.ref eA), v7', v8, some (.ref cA), some (.int (0 + (i : Int)))] ∧ Same H H6 ∧ H6 cA = some (.lst ((AW.half C u v).map V.int))) (fun hr1 => ?_) ?_
      · refine (xWPWPWWPP _ rfl _ rfl cA _ rfl (.inl (SqL.of hC)) (xPPWP rfl (flat_ints _) _ rfl ?_))
        by_cases b1 : u ∈ C
        case neg =>
          refine iteFb (by simp [inV_ints, b1]) (iteF (hr1 _ _ (xPP rfl g5 ?_)))
          rw [show AW.half C u v = C by unfold AW.half; rw [if_neg (fun z => b1 z.1)]]; exact hC
        refine iteTb (by simp [inV_ints, b1]) (xWPWPWWPP _ rfl _ rfl cA _ rfl (.inl (SqL.of hC)) (xPPWP rfl (flat_ints _) _ rfl ?_))
        by_cases b2 : v ∈ C
        · refine iteFb (by simp [inV_ints, b2]) (hr1 _ _ (xPP rfl g5 ?_))
          rw [show AW.half C u v = C by unfold AW.half; rw [if_neg (fun z => z.2 b2)]]; exact hC
        · refine iteTb (by simp [inV_ints, b2]) (xWPPWP _ rfl (.inl ⟨rfl, _, SqL.of hC⟩) _ rfl (xWWWPPPP cA _ _ rfl rfl hC (Nat.lt_of_le_of_lt (show _ ≤ 200 by rw [List.length_map]; (first | exact AR.n4 l1 (AR.j15 (AR.i4 c2 (of_decide_eq_true (id (Eq.refl true))))) | omega)) (by decide)) (hr1 _ _ (xPP rfl (g5.fresh c0 _) ?_))))
          rw [show AW.half C u v = C ++ [v] by unfold AW.half; rw [if_pos ⟨b1, b2⟩], List.map_append]; exact upd_same
      · intro σ' H6 hq119; refine yPP hq119 fun ye572_0 g6 hC6 => ?_; try clear hq119; subst ye572_0
        generalize hCC : AW.half C u v = CC at hC6 hP2 l2
        refine (xWPWPWWPP _ rfl _ rfl cA _ rfl (.inl (SqL.of hC6)) (xPPWP rfl (flat_ints _) _ rfl ?_))
        by_cases b1 : v ∈ CC
        case neg =>
          refine iteFb (by simp [inV_ints, b1]) (iteF (xPPWP (xWW _ _ rfl) g6 _ ?_ hP2))
          rw [show AW.half CC v u = CC by unfold AW.half; rw [if_neg (fun z => b1 z.1)]]; exact hC6
        refine iteTb (by simp [inV_ints, b1]) (xWPWPWWPP _ rfl _ rfl cA _ rfl (.inl (SqL.of hC6)) (xPPWP rfl (flat_ints _) _ rfl ?_))
        by_cases b2 : u ∈ CC
        · refine iteFb (by simp [inV_ints, b2]) (xPPWP (xWW _ _ rfl) g6 _ ?_ hP2)
          rw [show AW.half CC v u = CC by unfold AW.half; rw [if_neg (fun z => z.2 b2)]]; exact hC6
        · refine iteTb (by simp [inV_ints, b2]) (xWPPWP _ rfl (.inl ⟨rfl, _, SqL.of hC6⟩) _ rfl (xWWWPPPPP cA _ _ rfl rfl hC6 (Nat.lt_of_le_of_lt (show _ ≤ 200 by rw [List.length_map]; (first | exact AR.n4 l2 (AR.j15 (AR.i4 c2 (of_decide_eq_true (id (Eq.refl true))))) | omega)) (by decide)) (xWW _ _ rfl) (xPWP (g6.fresh c0 _) _ ?_ hP2)))
          rw [show AW.half CC v u = CC ++ [u] by unfold AW.half; rw [if_pos ⟨b1, b2⟩], List.map_append]; exact upd_same
    · intro σ H5 hq120; refine yPPWP hq120 fun ye573_0 g5 C hC hP => ?_; try clear hq120; obtain ⟨v4'', v5'', rfl⟩ := ye573_0
      rw [List.length_map, e2] at hP
      have hp2 := hP.done hp
      refine (xWPWWPPWP _ rfl cA _ rfl (.inl (SqL.of hC)) _ rfl (xPWP rfl _ rfl ?_))
      rw [List.length_map]
      by_cases d : C.length = n
      · rw [decide_eq_true (show (V.int (C.length : Nat)) = vn n by rw [d])]
        exact iteT (q true H5 g5 ⟨fun _ => (xPPPP (xPP ⟨c1, c2⟩ c3 c4) c6 (congrArg Int.ofNat c5) c8 (hp2.1.whole d)), fun _ => rfl⟩)
      · rw [decide_eq_false (show ¬ (V.int (C.length : Nat)) = vn n from fun z => d (Int.ofNat.inj (V.int.inj z)))]
        exact iteF (xPPWPP (xWWW _ _ _ rfl) g5 C hC hp2 (fun _ => d))
  · intro σ H' hq121; refine yPPWPP hq121 fun ye574_0 g C hC hp hne => ?_; try clear hq121; obtain ⟨v4', v5', v10, rfl⟩ := ye574_0
    exact no g fun z => hp.never (hne (by (first | exact AR.g473 c1 c2 c5 | omega))) z.2.2.2.2
end K01

namespace K01
open PySem L2 PyProof.Rows
variable {P : Program} {w : World} {K : PySem.W.Frag} {mg : Str → Option Value} {base : Heap} {t : Adr}
theorem erase_map {α β : Type} (f : α → β) : ∀ (l : List α) (j : Nat), (l.map f).eraseIdx j = (l.eraseIdx j).map f
  | [], _ => rfl
  | _ :: _, 0 => rfl
  | x :: l, j + 1 => congrArg (f x :: ·) (erase_map f l j)
def BoOut (H0 : Hp) (oA : Addr) (os : AW.Os) (wy : Int) (H' : Hp) : Prop :=
  ∃ (rr : List Addr) (os' : AW.Os), NewL H0 H' oA rr (vv os') ∧ Same H0 H' ∧ os'.flatten.length ≤ os.flatten.length + 1 ∧ os'.length ≤ os.length + 1 ∧ (7 < wy → os'.length = os.length)
def spBoB (vs : List L2.V) (H : L2.Hp) (Q : L2.VK) (oA : Addr) (en pk : Int) (H0 : Hp) (rr : List Addr) (os : AW.Os) : Prop := vs = [.ref oA, .int en, .int pk] ∧ NewL H0 H oA rr (vv os) ∧ Same H0 H ∧ 0 < os.length ∧ os.length ≤ 100 ∧ (∀ o ∈ os, 0 < o.length ∧ o.length ≤ 100) ∧ 0 ≤ pk ∧
  ∀ H', BoOut H0 oA os (pk % 20) H' → Q .non H'
def spBo : Sp := fun vs H Q _ => ∃ (oA : Addr) (en pk : Int) (H0 : Hp) (rr : List Addr) (os : AW.Os), spBoB vs H Q oA en pk H0 rr os
theorem ok_bo (T : Txt K mg t) : FnOk P w K mg base CX0 1 t.a_l_bent_orders t.d_l_bent_orders ["_law_orders", "_law_ends", "_law_pick"] spBo := by
  refine T.F_l_bent_orders.ok sc_l_bent_orders (fun vs H Q E h => ?_) (fun cdv A outer s H vs Q E hr h => ?_)
  · refine yWWWWWWP h fun oA en pk H0 rr os ye575_6 _ => ?_; try clear h; subst ye575_6; rfl
  refine yWWWWWWPP h fun oA en pk H0 rr os ye576_6 w0 yr576 => ?_; try clear h; subst ye576_6; refine yPPPPP yr576 fun g0 hp hb ho hpk q => ?_; try clear yr576
  have nd := sc_l_bent_orders.nd
  refine (xWP _ (pss_cons (ps_set (i := 3) nd rfl (Or.inl rfl) (pe_op op_mod (pe_op op_fdiv (pv 2) pe_int) (pe_callB call_len_seq rfl T.z_len PySem.boot_len (pa_cons (pv 0) pa_nil))))
    (pss_cons (ps_set (i := 4) nd rfl (Or.inl rfl) (pe_op op_mod (pe_op op_fdiv (pv 2) pe_int) (pe_callB call_len_seq rfl T.z_len PySem.boot_len (pa_cons (pe_ix ix_list (pv 0) (pv 3) (fun _ _ => rfl)) pa_nil))))
    (pss_cons (ps_set (i := 5) nd rfl (Or.inl rfl) (pe_op op_mod (pe_op op_fdiv (pv 2) pe_int) (pe_callB call_len_seq rfl T.z_len PySem.boot_len (pa_cons (pv 0) pa_nil))))
    (pss_cons (ps_set (i := 6) nd rfl (Or.inl rfl) (pe_op op_mod (pv 2) pe_int))
    (pss_cons (ps_if (pt_cmpR op_eq (pv 6) pe_int (nomark _)) (pss_one (ps_expr (pe_bm PySem.F.plainAttrs_list PySem.F.slot_list_pop PySem.F.type_list_pop mt_popAt (pe_ix ix_list (pv 0) (pv 3) (fun _ _ => rfl)) (pa_cons (pv 4) pa_nil)))) pss_nil)
    (pss_cons (ps_if (pt_cmpR op_eq (pv 6) pe_int (nomark _)) (pss_one (ps_expr (pe_bm PySem.F.plainAttrs_list PySem.F.slot_list_insert PySem.F.type_list_insert mt_insert (pe_ix ix_list (pv 0) (pv 5) (fun _ _ => rfl)) (pa_cons (pe_op op_mod (pe_op op_fdiv (pv 2) pe_int) pe_int) (pa_cons (pe_ix ix_list (pe_ix ix_list (pv 0) (pv 3) (fun _ _ => rfl)) (pv 4) (fun _ _ => rfl)) pa_nil))))) pss_nil)
    (pss_cons (ps_if (pt_cmpR op_eq (pv 6) pe_int (nomark _)) (pss_one (ps_asg (pe_tup (pa_cons (pe_ix ix_list (pe_ix ix_list (pv 0) (pv 5) (fun _ _ => rfl)) pe_int (fun _ _ => rfl)) (pa_cons (pe_ix ix_list (pe_ix ix_list (pv 0) (pv 3) (fun _ _ => rfl)) (pv 4) (fun _ _ => rfl)) pa_nil))) (pg_tup rfl (pgs_cons (pg_sub (pe_ix ix_list (pv 0) (pv 3) (fun _ _ => rfl)) (pv 4) set_list) (pgs_cons (pg_sub (pe_ix ix_list (pv 0) (pv 5) (fun _ _ => rfl)) pe_int set_list) pgs_nil))))) pss_nil)
    (pss_cons (ps_if (pt_cmpR op_eq (pv 6) pe_int (nomark _)) (pss_one (ps_asg (pe_ix ix_list (pe_lst (pa_cons (pv 1) (pa_cons (pe_op op_sub pe_int pe_int) (pa_cons (pe_op op_sub (pe_ix ix_list (pe_ix ix_list (pv 0) (pv 3) (fun _ _ => rfl)) (pv 4) (fun _ _ => rfl)) (pv 1)) pa_nil)))) (pe_op op_mod (pe_op op_fdiv (pv 2) pe_int) pe_int) (fun _ _ => rfl)) (pg_sub (pe_ix ix_list (pv 0) (pv 3) (fun _ _ => rfl)) (pv 4) set_list))) pss_nil)
    (pss_cons (ps_if (pt_cmpR op_eq (pv 6) pe_int (nomark _)) (pss_one (ps_expr (pe_bm PySem.F.plainAttrs_list PySem.F.slot_list_append PySem.F.type_list_append mt_append (pe_ix ix_list (pv 0) (pv 3) (fun _ _ => rfl)) (pa_cons (pe_ix ix_list (pe_lst (pa_cons (pv 1) (pa_cons (pe_op op_sub pe_int pe_int) pa_nil))) (pe_op op_mod (pe_op op_fdiv (pv 2) pe_int) pe_int) (fun _ _ => rfl)) pa_nil)))) pss_nil)
    (pss_cons (ps_if (PW.pt (pw_or (pt_cmpR op_eq (pv 6) pe_int (nomark _)) (pw_or1 (pt_cmpR op_eq (pv 6) pe_int (nomark _))))) (pss_one (ps_expr (pe_bm PySem.F.plainAttrs_list PySem.F.slot_list_append PySem.F.type_list_append mt_append (pv 0) (pa_cons (pe_lst pa_nil) pa_nil)))) pss_nil)
    (pss_one (ps_if (pt_cmpR op_eq (pv 6) pe_int (nomark _)) (pss_one (ps_expr (pe_bm0 PySem.F.plainAttrs_list PySem.F.slot_list_pop PySem.F.type_list_pop mt_pop (pv 0)))) pss_nil)))))))))))) ?_)
  have hlen : ((rr.map V.ref).length : Nat) = os.length := by rw [List.length_map, w0.len, List.length_map]
  have at3 : ∀ {z : Int}, 0 ≤ z → ∃ p : Nat, z % ((rr.map V.ref).length : Nat) = (p : Int) ∧ p < os.length := fun {z} hz => by
    rw [hlen]
    have h1 := Int.emod_nonneg z (show (os.length : Int) ≠ 0 by (first | exact AR.j23 (AR.j16 hp) | omega))
    have h2 := Int.emod_lt_of_pos z (show 0 < (os.length : Int) by (first | exact AR.j16 hp | omega))
    exact (xWP ((z % (os.length : Int)).toNat) (by (first | exact AR.j20 h1 | omega)) (by (first | exact AR.j21 h1 h2 | omega)))
  obtain ⟨p, ep, hpl⟩ := at3 (z := pk / 20) (by (first | exact AR.j18 hpk | omega))
  obtain ⟨p2, ep2, hpl2⟩ := at3 (z := pk / 3000) (by (clear hp hb hlen ep hpl; omega))
  refine yWPPP (w0.at' hpl) fun x a1 b1 c1 d1 => ?_
  refine yWPPP (w0.at' hpl2) fun x2 a2 b2 c2 d2 => ?_
  have ho1 := ho os[p] (List.getElem_mem hpl)
  have ho2 := ho os[p2] (List.getElem_mem hpl2)
  have pos1 : (0 : Int) < ((rr.map V.ref).length : Nat) := by rw [hlen]; (first | exact AR.j16 hp | omega)
  have pos2 : (0 : Int) < (((os[p]).map V.int).length : Nat) := by rw [List.length_map]; (first | exact AR.j16 ho1.left | omega)
  obtain ⟨j, ej, hj⟩ : ∃ j : Nat, pk / 400 % (((os[p]).map V.int).length : Nat) = (j : Int) ∧ j < os[p].length := by
    rw [List.length_map]
    have h1 := Int.emod_nonneg (pk / 400) (show (os[p].length : Int) ≠ 0 by (first | exact AR.j23 (AR.j16 ho1.left) | omega))
    have h2 := Int.emod_lt_of_pos (pk / 400) (show 0 < (os[p].length : Int) by (first | exact AR.j16 ho1.left | omega))
    exact (xWP ((pk / 400 % (os[p].length : Int)).toNat) (by (first | exact AR.j20 h1 | omega)) (by (first | exact AR.j21 h1 h2 | omega)))
  refine (xWPWWPPP _ rfl _ _ rfl rfl ⟨by decide, by decide⟩ (xWPWWPP _ rfl oA _ rfl (.inl (SqL.of w0.at_)) (xWWPPP _ _ rfl rfl pos1 ?_)))
  dsimp only
  rw [ep]
  refine (xWPWWPPP _ rfl _ _ rfl rfl ⟨by decide, by decide⟩ (xWPWP _ rfl _ rfl (xWWWWPPPP oA _ _ _ rfl rfl (SqL.of w0.at_) d1 (xWWPPWWPP x _ rfl (.inl (SqL.of b1)) _ _ rfl rfl ⟨ pos2, ?_⟩))))
  dsimp only
  rw [ej]
  refine (xWPWWPPP _ rfl _ _ rfl rfl ⟨by decide, by decide⟩ (xWPWWPP _ rfl oA _ rfl (.inl (SqL.of w0.at_)) (xWWPPP _ _ rfl rfl pos1 ?_)))
  dsimp only
  rw [ep2]
  refine (xWPWWPPP _ rfl _ _ rfl rfl (by show (0 : Int) < 20; decide) ?_)
  dsimp only
  generalize hwy : pk % 20 = wy at q ⊢
  let S : L2.St := [some (.ref oA), some (.int en), some (.int pk), some (vn p), some (vn j), some (vn p2), some (.int wy)]
  have out1 : ∀ {H1 : Hp} (l : List Int), Same H H1 → l.length ≤ os[p].length + 1 → BoOut H0 oA os wy (upd H1 x (.lst (l.map V.int))) := fun {H1} l g hl => by
    have hf := AW.flat_set os p l hpl
    exact (xWWPPPP rr (os.set p l) ((w0.keep g).setI a1 l) ((g0.trans g).fresh c1 _) (by (first | exact AR.g483 hpl hl hf | omega)) (by rw [List.length_set]; (first | exact AR.m1 | omega)) (fun _ => List.length_set))
  have out2 : ∀ {H1 : Hp} (l : List Int), Same H H1 → l.length ≤ os[p2].length + 1 → BoOut H0 oA os wy (upd H1 x2 (.lst (l.map V.int))) := fun {H1} l g hl => by
    have hf := AW.flat_set os p2 l hpl2
    exact (xWWPPPP rr (os.set p2 l) ((w0.keep g).setI a2 l) ((g0.trans g).fresh c2 _) (by (first | exact AR.g483 hpl2 hl hf | omega)) (by rw [List.length_set]; (first | exact AR.m1 | omega)) (fun _ => List.length_set))
  have own : BoOut H0 oA os wy H := (xWWPPPP rr os w0 g0 (by (first | exact AR.m1 | omega)) (by (first | exact AR.m1 | omega)) (fun _ => rfl))
  have ej2 : (os[p].map V.int)[j]? = some (.int os[p][j]) := by rw [List.getElem?_map, List.getElem?_eq_getElem hj]; rfl
  have m2 : pk / 9 % 2 = 0 ∨ pk / 9 % 2 = 1 := by (clear hp hb hpk hlen ep ep2 ho1 ho2 pos1 pos2 ej hwy; omega)
  have m3 : pk / 9 % 3 = 0 ∨ pk / 9 % 3 = 1 ∨ pk / 9 % 3 = 2 := by (clear hp hb hpk hlen ep ep2 ho1 ho2 pos1 pos2 ej hwy m2; omega)
  have two : ∀ a b : Int, ∃ z : Int, atI [V.int a, V.int b] (pk / 9 % 2) = some (.int z) := fun a b => by
    rcases m2 with h | h <;> rw [h] <;> exact ⟨_, rfl⟩
  have three : ∀ a b c : Int, ∃ z : Int, atI [V.int a, V.int b, V.int c] (pk / 9 % 3) = some (.int z) := fun a b c => by
    rcases m3 with h | h | h <;> rw [h] <;> exact ⟨_, rfl⟩
  have is : ∀ {n : Int}, decide (V.int wy = V.int n) = true → wy = n := fun h => V.int.inj (of_decide_eq_true h)
  have isnt : ∀ {n : Int}, ¬ decide (V.int wy = V.int n) = true → wy ≠ n := fun h z => h (by rw [z]; simp)
  -- 0: an end left out
  refine viaN (fun σ' H' => σ' = S ∧ ((H = H' ∧ wy ≠ 0) ∨ (wy = 0 ∧ BoOut H0 oA os wy H'))) (fun _ r1 => ?_) ?_
  · refine (xWPPWP _ rfl rfl _ rfl (ite2 (fun c => ?_) (fun c => r1 _ _ ⟨rfl, .inl ⟨rfl, isnt c⟩⟩)))
    refine (xWPWP _ rfl _ rfl (xWWWWPPPP oA _ _ _ rfl rfl (SqL.of w0.at_) d1 (xPWP (.inl ⟨rfl, _, SqL.of b1⟩) _ rfl (xWWWWWPPP x _ (j : Int) j (.int os[p][j]) rfl rfl b1 (xPPPP (by (clear hp hb hpk hlen ep ep2 ho1 ho2 pos1 pos2 ej hwy m2 m3; omega)) (by (clear hp hb hpk hlen ep ep2 ho2 pos1 pos2 ej hwy m2 m3; omega)) ?_ ej2 (r1 _ _ ⟨rfl, .inr ⟨is c, ?_⟩⟩))))))
    · exact (ixN_seq (ixN_ok (by rw [List.length_map]; exact hj) rfl)).1
    · rw [show (os[p].map V.int).eraseIdx j = (os[p].eraseIdx j).map V.int from erase_map _ _ _]
      exact out1 _ (Same.refl _) (Nat.le_trans (len_erase _ _) (Nat.le_succ _))
  intro σ' H1 hq122; obtain ⟨rfl, h1⟩ := hq122
  -- 1: an end put in twice
  refine viaN (fun σ' H' => σ' = S ∧ ((H = H' ∧ wy ≠ 0 ∧ wy ≠ 1) ∨ ((wy = 0 ∨ wy = 1) ∧ BoOut H0 oA os wy H'))) (fun _ r1 => ?_) ?_
  · refine (xWPPWP _ rfl rfl _ rfl (ite2 (fun c => ?_) (fun c => r1 _ _ ⟨rfl, ?_⟩)))
    · obtain ⟨rfl, _⟩ | ⟨z, _⟩ := h1
      case inr => have := is c; (clear hp hb hpk hlen ep ep2 ho1 ho2 pos1 pos2 ej hwy m2 m3; omega)
      obtain ⟨i, ei, hi⟩ : ∃ i : Nat, pk / 9 % 2 = (i : Int) ∧ i ≤ 1 := (xWP ((pk / 9 % 2).toNat) (by (clear hp hb hpk hlen ep ep2 ho1 ho2 pos1 pos2 ej hwy m2 m3; omega)) (by (clear hp hb hpk hlen ep ep2 ho1 ho2 pos1 pos2 ej hwy m2 m3; omega)))
      refine (xWPWP _ rfl _ rfl (xWWWWPPPP oA _ _ _ rfl rfl (SqL.of w0.at_) d2 (xPWPWWPPP (.inl ⟨rfl, _, SqL.of b2⟩) _ rfl _ _ rfl rfl ⟨by decide, by decide⟩ (xWWPPPWP _ _ rfl rfl (by show (0 : Int) < 2; decide) _ rfl (xWPWWWWPP _ rfl oA _ _ _ rfl rfl (xPPWP (SqL.of w0.at_) d1 _ rfl (xWWWWPPPP x _ _ _ rfl rfl (SqL.of b1) (atI_nat ej2) (xWWWWPPPP x2 _ i (.int os[p][j]) rfl ?_ b2 ?_ ⟨ ?_, r1 _ _ ⟨rfl, .inr ⟨.inr (is c), ?_⟩⟩⟩))))))))
      · show [V.int (pk / 9 % 2), _] = _
        rw [ei]
      · rw [List.length_map]; (clear hp hb hpk hlen ep ep2 ho1 pos1 pos2 ej hwy m2 m3 hi; omega)
      · rw [List.length_map]; exact Nat.lt_of_le_of_lt ho2.2 (by decide)
      · rw [show insAt (os[p2].map V.int) i (.int os[p][j]) = (insAt os[p2] i os[p][j]).map V.int by unfold insAt; simp]
        exact out2 _ (Same.refl _) (by unfold insAt; simp; (clear hp hb hpk hlen ep ep2 ho1 pos1 pos2 ej hwy m2 m3 hi; omega))
    · rcases h1 with ⟨e, z⟩ | ⟨z, o⟩
      · exact .inl (xPP e z (isnt c))
      · exact .inr ⟨.inl z, o⟩
  clear h1
  intro σ' H1 hq123; obtain ⟨rfl, h1⟩ := hq123
  -- 2: two ends exchanged
  refine viaN (fun σ' H' => σ' = S ∧ ((H = H' ∧ wy ≠ 0 ∧ wy ≠ 1 ∧ wy ≠ 2) ∨ ((wy = 0 ∨ wy = 1 ∨ wy = 2) ∧ BoOut H0 oA os wy H'))) (fun _ r1 => ?_) ?_
  · refine (xWPPWP _ rfl rfl _ rfl (ite2 (fun c => ?_) (fun c => r1 _ _ ⟨rfl, ?_⟩)))
    · obtain ⟨rfl, _⟩ | ⟨z, _⟩ := h1
      case inr => have := is c; (clear hp hb hpk hlen ep ep2 ho1 ho2 pos1 pos2 ej hwy m2 m3; omega)
      have e0 : (os[p2].map V.int)[0]? = some (.int (os[p2][0]'(by (first | exact ho2.left | omega)))) := by rw [List.getElem?_map, List.getElem?_eq_getElem (by (first | exact ho2.left | omega) : 0 < os[p2].length)]; rfl
      refine (xWPWP _ rfl _ rfl (xWWWWPPPP oA _ _ _ rfl rfl (SqL.of w0.at_) d2 (xWWWWPPPP x2 _ _ _ rfl rfl (SqL.of b2) (atI_nat e0) (xWPWP _ rfl _ rfl (xWWWWPPPP oA _ _ _ rfl rfl (SqL.of w0.at_) d1 (xWPWWWWPP _ rfl x _ _ _ rfl rfl (xPPP (SqL.of b1) (atI_nat ej2) (by show 2 ≤ sizeLine; decide) (fun tp htp => ?_))))))))
      have gt := same_new htp (.tup [.int (os[p2][0]'(by (first | exact ho2.left | omega))), .int os[p][j]])
      refine (xWWPPPWWP tp _ rfl (SqT.of upd_same) rfl _ _ rfl (xWPWP _ rfl _ rfl (xWWWWPPPP oA _ _ _ rfl rfl (SqL.of (gt _ _ w0.at_)) d1 (xWPWWWWPP _ rfl x _ _ j rfl rfl (xPP (gt _ _ b1) (ixN_ok (by rw [List.length_map]; exact hj) rfl) ?_)))))
      rw [show (os[p].map V.int).set j (.int (os[p2][0]'(by (first | exact ho2.left | omega)))) = (os[p].set j (os[p2][0]'(by (first | exact ho2.left | omega)))).map V.int by rw [List.map_set]]
      have w1 := (w0.keep gt).setI a1 (os[p].set j (os[p2][0]'(by (first | exact ho2.left | omega))))
      have g1 := (g0.trans gt).fresh c1 (.lst ((os[p].set j (os[p2][0]'(by (first | exact ho2.left | omega)))).map V.int))
      have hf1 := AW.flat_set os p (os[p].set j (os[p2][0]'(by (first | exact ho2.left | omega)))) hpl
      rw [List.length_set] at hf1
      have hl2 : p2 < (os.set p (os[p].set j (os[p2][0]'(by (first | exact ho2.left | omega))))).length := by rw [List.length_set]; exact hpl2
      have hrow : 0 < (os.set p (os[p].set j (os[p2][0]'(by (first | exact ho2.left | omega)))))[p2].length := by
        rw [List.getElem_set]
        split
        · rw [List.length_set]; (first | exact ho1.left | omega)
        · (clear hp hb hpk hlen ep ep2 ho1 pos1 pos2 ej hwy m2 m3 hf1; omega)
      generalize os.set p (os[p].set j (os[p2][0]'(by (first | exact ho2.left | omega)))) = os1 at w1 hf1 hl2 hrow
      have hos1 : os1.length = os.length := by have := w1.len; have := w0.len; rw [List.length_map] at *; (first | exact AR.n24' (AR.n22d this (AR.n22 hlen)) (AR.n22d hlen (AR.n22 this)) | omega)
      generalize upd (upd H tp (HO.tup [V.int (os[p2][0]'(by (first | exact ho2.left | omega))), V.int os[p][j]])) x (HO.lst ((os[p].set j (os[p2][0]'(by (first | exact ho2.left | omega)))).map V.int)) = H2 at w1 g1
      refine yWPPP (w1.at' hl2) fun x3 a3 b3 c3 d3 => ?_
      refine (xWWPWPWP _ _ rfl _ rfl _ rfl (xWWWWPPPP oA _ _ _ rfl rfl (SqL.of w1.at_) d3 (xWWWWPPPP x3 _ _ 0 rfl rfl b3 (ixN_ok (by rw [List.length_map]; exact hrow) rfl) ⟨ rfl, r1 _ _ ⟨rfl, .inr ⟨.inr (.inr (is c)), ?_⟩⟩⟩)))
      rw [show (os1[p2].map V.int).set 0 (.int os[p][j]) = (os1[p2].set 0 os[p][j]).map V.int by rw [List.map_set]]
      have hf2 := AW.flat_set os1 p2 (os1[p2].set 0 os[p][j]) hl2
      rw [List.length_set] at hf2
      exact (xWWPPPP rr (os1.set p2 (os1[p2].set 0 os[p][j])) (w1.setI a3 _) (g1.fresh c3 _) (by (clear hp hb hpk hlen ep ep2 ho1 pos1 pos2 ej hwy m2 m3 hrow hos1; omega)) (by rw [List.length_set]; (first | exact AR.n18 (AR.n22 hos1) | omega)) (fun _ => by rw [List.length_set]; exact hos1))
    · rcases h1 with ⟨e, z⟩ | ⟨z, o⟩
      · exact .inl (xPPP e z.1 z.2 (isnt c))
      · exact .inr ⟨by first | exact z.imp_right Or.inl | omega, o⟩
  clear h1
  intro σ' H1 hq124; obtain ⟨rfl, h1⟩ := hq124
  -- 3: one beyond or below nought
  refine viaN (fun σ' H' => σ' = S ∧ ((H = H' ∧ wy ≠ 0 ∧ wy ≠ 1 ∧ wy ≠ 2 ∧ wy ≠ 3) ∨ ((wy = 0 ∨ wy = 1 ∨ wy = 2 ∨ wy = 3) ∧ BoOut H0 oA os wy H'))) (fun _ r1 => ?_) ?_
  · refine (xWPPWP _ rfl rfl _ rfl (ite2 (fun c => ?_) (fun c => r1 _ _ ⟨rfl, ?_⟩)))
    · obtain ⟨rfl, _⟩ | ⟨z, _⟩ := h1
      case inr => have := is c; (clear hp hb hpk hlen ep ep2 ho1 ho2 pos1 pos2 ej hwy m2 m3; omega)
      obtain ⟨z, ez⟩ := three en (0 - 1) (os[p][j] - en)
      refine (xWPWWPPWP _ rfl _ _ rfl rfl _ rfl (xWPWWWWPP _ rfl oA _ _ _ rfl rfl (xPPWP (SqL.of w0.at_) d1 _ rfl (xWWWWPPPP x _ _ _ rfl rfl (SqL.of b1) (atI_nat ej2) (xWPWWPPP _ rfl _ _ rfl rfl (by show 3 ≤ sizeLine; decide) (fun lA hlA => ?_))))))
      have gt := same_new hlA (.lst [.int en, .int (0 - 1), .int (os[p][j] - en)])
      refine (xWPWWPPP _ rfl _ _ rfl rfl ⟨by decide, by decide⟩ (xWWPPP _ _ rfl rfl (by show (0 : Int) < 3; decide) (xWWWWPPPP lA _ _ (.int z) rfl rfl (SqL.of upd_same) ez (xWPWP _ rfl _ rfl (xWWWWPPPP oA _ _ _ rfl rfl (SqL.of (gt _ _ w0.at_)) d1 (xWPWWWWPP _ rfl x _ _ j rfl rfl (xPP (gt _ _ b1) (ixN_ok (by rw [List.length_map]; exact hj) rfl) (r1 _ _ ⟨rfl, .inr ⟨.inr (.inr (.inr (is c))), ?_⟩⟩))))))))
      rw [show (os[p].map V.int).set j (.int z) = (os[p].set j z).map V.int by rw [List.map_set]]
      exact out1 _ gt (by rw [List.length_set]; (first | exact AR.m1 | omega))
    · rcases h1 with ⟨e, z⟩ | ⟨z, o⟩
      · exact .inl (xPPPP e z.1 z.2.1 z.2.2 (isnt c))
      · exact .inr ⟨by first | exact z.imp_right (Or.imp_right Or.inl) | omega, o⟩
  clear h1
  intro σ' H1 hq125; obtain ⟨rfl, h1⟩ := hq125
  -- 4: one more
  refine viaN (fun σ' H' => σ' = S ∧ ((H = H' ∧ (wy < 0 ∨ 4 < wy)) ∨ ((0 ≤ wy ∧ wy ≤ 4) ∧ BoOut H0 oA os wy H'))) (fun _ r1 => ?_) ?_
  · refine (xWPPWP _ rfl rfl _ rfl (ite2 (fun c => ?_) (fun c => r1 _ _ ⟨rfl, ?_⟩)))
    · obtain ⟨rfl, _⟩ | ⟨z, _⟩ := h1
      case inr => have := is c; (clear hp hb hpk hlen ep ep2 ho1 ho2 pos1 pos2 ej hwy m2 m3; omega)
      obtain ⟨z, ez⟩ := two en (0 - 1)
      refine (xWPWP _ rfl _ rfl (xWWWWPPPP oA _ _ _ rfl rfl (SqL.of w0.at_) d1 (xPWPWWPPP (.inl ⟨rfl, _, SqL.of b1⟩) _ rfl _ _ rfl rfl (by show 2 ≤ sizeLine; decide) (fun lA hlA => ?_))))
      have gt := same_new hlA (.lst [.int en, .int (0 - 1)])
      refine (xWPWWPPP _ rfl _ _ rfl rfl ⟨by decide, by decide⟩ (xWWPPP _ _ rfl rfl (by show (0 : Int) < 2; decide) (xWWWWPPPP lA _ _ (.int z) rfl rfl (SqL.of upd_same) ez (xWWWPPPP x _ _ rfl rfl (gt _ _ b1) ?_ (r1 _ _ ⟨rfl, .inr ⟨by have := is c; (clear hp hb hpk hlen ep ep2 ho1 ho2 pos1 pos2 ej hwy m2 m3; omega), ?_⟩⟩)))))
      · rw [List.length_map]; exact Nat.lt_of_le_of_lt ho1.2 (by decide)
      · rw [show os[p].map V.int ++ [.int z] = (os[p] ++ [z]).map V.int by rw [List.map_append]; rfl]
        exact out1 _ gt (by simp)
    · have := isnt c
      rcases h1 with ⟨e, z⟩ | ⟨z, o⟩
      · exact .inl ⟨e, by (clear hp hb hpk hlen ep ep2 ho1 ho2 pos1 pos2 ej m2 m3; omega)⟩
      · exact .inr ⟨by (clear hp hb hpk hlen ep ep2 ho1 ho2 pos1 pos2 ej m2 m3 this; omega), o⟩
  clear h1
  intro σ' H1 hq126; obtain ⟨rfl, h1⟩ := hq126
  -- 5, 7: an order more
  have five : wy = 5 ∨ wy = 7 → H = H1 → ∀ lA, H lA = none → BoOut H0 oA os wy (upd (upd H lA (.lst [])) oA (.lst (rr.map V.ref ++ [.ref lA]))) := fun hw e lA hlA => by
    have w1 := w0.push (l := []) hlA (g0.free hlA)
    rw [List.map_append] at w1
    refine (xWWPPPP (rr ++ [lA]) (os ++ [[]]) (by rw [show vv (os ++ [[]]) = vv os ++ [[]] by simp [vv]]; exact w1) ((g0.fresh (g0.free hlA) _).fresh w0.new _) (by simp) (by simp) (fun z => by (clear hp hb hpk hlen ep ep2 ho1 ho2 pos1 pos2 ej m2 m3 h1; omega)))
  refine viaN (fun σ' H' => σ' = S ∧ ((H = H' ∧ (wy < 0 ∨ 4 < wy) ∧ wy ≠ 5 ∧ wy ≠ 7) ∨ (((0 ≤ wy ∧ wy ≤ 5) ∨ wy = 7) ∧ BoOut H0 oA os wy H'))) (fun _ r1 => ?_) ?_
  · have app : wy = 5 ∨ wy = 7 → H = H1 := fun z => by
      rcases h1 with ⟨e, _⟩ | ⟨y, _⟩
      · exact e
      · (clear hp hb hpk hlen ep ep2 ho1 ho2 pos1 pos2 ej m2 m3 five; omega)
    refine (xWPPWP _ rfl rfl _ rfl (ite2 (fun c => iteT ?_) (fun c => ?_)))
    · obtain rfl := app (.inl (is c))
      refine (xWPPP _ rfl (.inl ⟨rfl, _, SqL.of w0.at_⟩) (by show 0 ≤ sizeLine; decide) (fun lA hlA => ?_))
      refine (xWWWPPPP oA _ _ rfl rfl (same_new hlA _ _ _ w0.at_) (by rw [hlen]; exact Nat.lt_of_le_of_lt hb (by decide)) (r1 _ _ ⟨rfl, .inr ⟨by have := is c; (clear hp hb hpk hlen ep ep2 ho1 ho2 pos1 pos2 ej hwy m2 m3 h1 five app; omega), five (.inl (is c)) rfl lA hlA⟩⟩))
    · refine (xWPPWP _ rfl rfl _ rfl (ite2 (fun c7 => ?_) (fun c7 => r1 _ _ ⟨rfl, ?_⟩)))
      · obtain rfl := app (.inr (is c7))
        refine (xWPPP _ rfl (.inl ⟨rfl, _, SqL.of w0.at_⟩) (by show 0 ≤ sizeLine; decide) (fun lA hlA => ?_))
        refine (xWWWPPPP oA _ _ rfl rfl (same_new hlA _ _ _ w0.at_) (by rw [hlen]; exact Nat.lt_of_le_of_lt hb (by decide)) (r1 _ _ ⟨rfl, .inr ⟨.inr (is c7), five (.inr (is c7)) rfl lA hlA⟩⟩))
      · have := isnt c
        have := isnt c7
        rcases h1 with ⟨e, z⟩ | ⟨z, o⟩
        · exact .inl (xPPP e (by exact z) (by (clear hp hb hpk hlen ep ep2 ho1 ho2 pos1 pos2 ej hwy m2 m3 five app; omega)) (by exact this))
        · exact .inr ⟨by (first | exact AR.m51 (AR.m48 z.left (AR.i4 z.right (of_decide_eq_true (id (Eq.refl true))))) | omega), o⟩
  clear h1
  intro σ' H1 hq127; obtain ⟨rfl, h1⟩ := hq127
  -- 6: an order less
  refine (xWPPWP _ rfl rfl _ rfl (ite2 (fun c => ?_) (fun c => ?_)))
  · obtain ⟨rfl, _⟩ | ⟨z, _⟩ := h1
    case inr => have := is c; (clear hp hb hpk hlen ep ep2 ho1 ho2 pos1 pos2 ej hwy m2 m3 five; omega)
    have hr0 : 0 < rr.length := by rw [w0.len, List.length_map]; exact hp
    refine (xWPPWWWPP _ rfl (.inl ⟨rfl, _, SqL.of w0.at_⟩) oA _ (.ref (rr[rr.length - 1]'(by exact AR.n20' hr0))) rfl rfl (xPP w0.at_ ?_ (q _ (xWWPPPP rr.dropLast os.dropLast ?_ (g0.fresh w0.new _) ?_ ?_ ?_))))
    · rw [List.length_map, List.getElem?_map, List.getElem?_eq_getElem (by exact AR.n20' hr0)]; rfl
    · rw [show vv os.dropLast = (vv os).dropLast by unfold vv; rw [List.map_dropLast]]; exact w0.pop
    · have := AW.flat_drop os; exact AR.n18 this
    · rw [List.length_dropLast]; (first | exact AR.n1 (AR.m72 hp (of_decide_eq_true (id (Eq.refl true)))) | omega)
    · intro z; have := is c; (clear hp hb hpk hlen ep ep2 ho1 ho2 pos1 pos2 ej m2 m3 five hr0; omega)
  · rcases h1 with ⟨rfl, _⟩ | ⟨_, o⟩
    · exact q _ own
    · exact q _ o
end K01

namespace K01
open PySem L2 PyProof.Rows
variable {P : Program} {w : World} {K : PySem.W.Frag} {mg : Str → Option Value} {base : Heap} {t : Adr}
def spBentB (vs : List L2.V) (H : L2.Hp) (Q : L2.VK) (wa : Addr) (pk m : Int) (ts : AW.Ts) (os : AW.Os) : Prop := vs = [.ref wa, .int pk] ∧ WebI H wa m ts os ∧ 0 < ts.length ∧ ts.length ≤ 40 ∧ 0 < os.length ∧ os.length ≤ 40 ∧ (∀ o ∈ os, 0 < o.length ∧ o.length ≤ 4) ∧ 0 ≤ pk ∧
  ∀ (r : Addr) (m' : Int) (ts' : AW.Ts) (os' : AW.Os) (H' : Hp), Same H H' → WebI H' r m' ts' os' → ts'.length ≤ 100 → os'.flatten.length ≤ 1000 → os'.length ≤ 450 → Q (.ref r) H'
def spBent : Sp := fun vs H Q _ => ∃ (wa : Addr) (pk m : Int) (ts : AW.Ts) (os : AW.Os), spBentB vs H Q wa pk m ts os
theorem ok_bent (T : Txt K mg t) : FnOk P w K mg base CX0 2 t.a_l_bent t.d_l_bent ["_law_web", "_law_pick"] spBent := by
  have G_l_bent_orders := ok_bo (P := P) (w := w) (base := base) T
  refine T.F_l_bent.ok sc_l_bent (fun vs H Q E h => ?_) (fun cdv A outer s H vs Q E hr h => ?_)
  · refine yWWWWWP h fun wa pk m ts os ye581_5 _ => ?_; try clear h; subst ye581_5; rfl
  refine yWWWWWPPP h fun wa pk m ts os ye582_5 hW ht0 yr582 => ?_; try clear h; subst ye582_5; refine yPPPPP yr582 fun ht1 ho0 ho1 hor hpk q => ?_; try clear yr582
  have nd := sc_l_bent.nd
  have nd_l_order : (["_law_order"] : List Str).Nodup := by decide
  refine (xWP _ (pss_cons (ps_par3 (i := 2) (j := 3) (k := 4) rfl nd rfl rfl rfl (by decide) (by decide) (by decide) rfl rfl rfl (pa_cons (pe_ix ix_tup (pv 0) pe_int (fun _ _ => rfl)) (pa_cons (pe_callTy call_list_of rfl T.z_list boot_list (pa_cons (pe_ix ix_tup (pv 0) pe_int (fun _ _ => rfl)) pa_nil)) (pa_cons (pe_comp (N' := ["_law_order"]) (js := [none]) rfl (pi_list (pe_ix ix_tup (pv 0) pe_int (fun _ _ => rfl))) (fun _ _ _ _ _ => (pg_name (i := 0) nd_l_order rfl (Or.inl rfl))) (fun _ _ _ _ _ => pf_nil) (fun _ _ _ _ _ => (pe_callTy (kcall_list (K := K) rfl) rfl T.z_list boot_list (pa_cons (pv 0) pa_nil)))) pa_nil))) rfl rfl)
    (pss_cons (ps_set (i := 5) nd rfl (Or.inl rfl) (pe_op op_mod (pv 1) pe_int))
    (pss_cons (ps_set (i := 6) nd rfl (Or.inl rfl) (pe_op op_mod (pe_op op_fdiv (pv 1) pe_int) (pe_callB call_len_seq rfl T.z_len PySem.boot_len (pa_cons (pv 3) pa_nil))))
    (pss_cons (ps_asg (pe_ix ix_list (pv 3) (pv 6) (fun _ _ => rfl)) (pg_tup rfl (pgs_cons (pg_name (i := 7) nd rfl (Or.inl rfl)) (pgs_cons (pg_name (i := 8) nd rfl (Or.inl rfl)) pgs_nil))))
    (pss_cons (ps_expr (pe_call G_l_bent_orders (hr.mono (by decide)) rfl T.m_l_bent_orders T.k_l_bent_orders T.b_l_bent_orders .nil pass0 (pa_cons (pv 4) (pa_cons (pe_op op_mul pe_int (pe_callB call_len_seq rfl T.z_len PySem.boot_len (pa_cons (pv 3) pa_nil))) (pa_cons (pv 1) pa_nil)))))
    (pss_cons (ps_if (pt_cmpR op_eq (pv 5) pe_int (nomark _)) (pss_one (ps_set (i := 2) nd rfl (Or.inl rfl) (pe_op op_add (pv 2) pe_int))) pss_nil)
    (pss_cons (ps_if (pt_cmpR op_eq (pv 5) pe_int (nomark _)) (pss_one (ps_asg (pe_ix ix_list (pe_lst (pa_cons (pe_tup (pa_cons (pv 7) (pa_cons (pe_ix ix_list (pe_lst (pa_cons (pv 2) (pa_cons (pe_op op_sub pe_int pe_int) (pa_cons (pe_op op_sub (pv 8) (pv 2)) pa_nil)))) (pe_op op_mod (pe_op op_fdiv (pv 1) pe_int) pe_int) (fun _ _ => rfl)) pa_nil))) (pa_cons (pe_tup (pa_cons (pv 2) (pa_cons pe_int pa_nil))) pa_nil))) (pe_op op_mod (pe_op op_fdiv (pv 1) pe_int) pe_int) (fun _ _ => rfl)) (pg_sub (pv 3) (pv 6) set_list))) pss_nil)
    (pss_cons (ps_if (pt_cmpR op_eq (pv 5) pe_int (nomark _)) (pss_one (ps_ret (pe_tup (pa_cons (pv 2) (pa_cons (pe_lst pa_nil) (pa_cons (pv 4) pa_nil)))))) pss_nil)
    (pss_cons (ps_if (pt_cmpR op_eq (pv 5) pe_int (nomark _)) (pss_one (ps_ret (pe_tup (pa_cons (pe_op op_sub (pv 2) (pe_op op_mul (pe_op op_mod (pe_op op_fdiv (pv 1) pe_int) pe_int) (pv 2))) (pa_cons (pe_lst pa_nil) (pa_cons (pe_lst pa_nil) pa_nil)))))) pss_nil)
    (pss_cons (ps_if (pt_cmpR op_eq (pv 5) pe_int (nomark _)) (pss_one (ps_ret (pe_tup (pa_cons (pe_op op_add (pv 2) pe_int) (pa_cons (pe_op op_cat (pv 3) (pe_lst (pa_cons (pe_tup (pa_cons (pv 2) (pa_cons (pv 2) pa_nil))) pa_nil))) (pa_cons (pe_op op_cat (pv 4) (pe_lst (pa_cons (pe_lst (pa_cons (pe_op op_mul pe_int (pe_callB call_len_seq rfl T.z_len PySem.boot_len (pa_cons (pv 3) pa_nil))) (pa_cons (pe_op op_add (pe_op op_mul pe_int (pe_callB call_len_seq rfl T.z_len PySem.boot_len (pa_cons (pv 3) pa_nil))) pe_int) pa_nil))) pa_nil))) pa_nil)))))) pss_nil)
    (pss_cons (ps_if (pt_cmpR op_eq (pv 5) pe_int (nomark _)) (pss_one (ps_ret (pe_tup (pa_cons (pe_op op_add (pv 2) pe_int) (pa_cons (pe_op op_cat (pv 3) (pe_lst (pa_cons (pe_tup (pa_cons (pv 2) (pa_cons (pe_op op_add (pv 2) pe_int) pa_nil))) pa_nil))) (pa_cons (pe_op op_cat (pv 4) (pe_lst (pa_cons (pe_lst (pa_cons (pe_op op_mul pe_int (pe_callB call_len_seq rfl T.z_len PySem.boot_len (pa_cons (pv 3) pa_nil))) pa_nil)) (pa_cons (pe_lst (pa_cons (pe_op op_add (pe_op op_mul pe_int (pe_callB call_len_seq rfl T.z_len PySem.boot_len (pa_cons (pv 3) pa_nil))) pe_int) pa_nil)) pa_nil)))) pa_nil)))))) pss_nil)
    (pss_cons (ps_if (pt_cmpR op_eq (pv 5) pe_int (nomark _)) (pss_one (ps_set (i := 2) nd rfl (Or.inl rfl) (pe_op op_add (pv 2) (pe_ix ix_list (pe_lst (pa_cons pe_int (pa_cons (pe_op op_sub pe_int pe_int) pa_nil))) (pe_op op_mod (pe_op op_fdiv (pv 1) pe_int) pe_int) (fun _ _ => rfl))))) pss_nil)
    (pss_cons (ps_if (pt_cmpR op_eq (pv 5) pe_int (nomark _)) (pss_one (ps_asg (pe_tup (pa_cons (pv 8) (pa_cons (pv 7) pa_nil))) (pg_sub (pv 3) (pv 6) set_list))) pss_nil)
    (pss_cons (ps_set (i := 9) nd rfl (Or.inl rfl) (pe_op op_mod (pe_op op_fdiv (pv 1) pe_int) (pe_callB (call_max2 rfl) rfl T.z_max boot_max (pa_cons pe_int (pa_cons (pe_callB call_len_seq rfl T.z_len PySem.boot_len (pa_cons (pv 4) pa_nil)) pa_nil)))))
    (pss_cons (ps_for PassesOwn.never rfl (pi_range1 rfl T.z_range (pa_cons (pe_op op_mod (pe_callB (call_max2 rfl) rfl T.z_max boot_max (pa_cons pe_int (pa_cons (pe_op op_sub (pv 5) pe_int) pa_nil))) pe_int) pa_nil)) (pg_name (i := 10) nd rfl (Or.inl rfl)) (pss_cons (ps_asg (pe_op op_cat (pe_ix ix_list (pv 4) (pv 9) (fun _ _ => rfl)) (pe_lst (pa_cons (pe_op op_mul pe_int (pe_callB call_len_seq rfl T.z_len PySem.boot_len (pa_cons (pv 3) pa_nil))) (pa_cons (pe_op op_add (pe_op op_mul pe_int (pe_callB call_len_seq rfl T.z_len PySem.boot_len (pa_cons (pv 3) pa_nil))) pe_int) pa_nil)))) (pg_sub (pv 4) (pv 9) set_list))
    (pss_one (ps_expr (pe_bm PySem.F.plainAttrs_list PySem.F.slot_list_append PySem.F.type_list_append mt_append (pv 3) (pa_cons (pe_tup (pa_cons (pv 9) (pa_cons (pv 9) pa_nil))) pa_nil))))))
    (pss_one (ps_ret (pe_tup (pa_cons (pv 2) (pa_cons (pv 3) (pa_cons (pv 4) pa_nil))))))))))))))))))))) ?_)
  refine yWWPP hW fun tA oA w1 ye584_3 yr584 => ?_; try clear hW; obtain ⟨tr, t1, t2, t3⟩ := ye584_3; obtain ⟨orr, o1, o2, o3⟩ := yr584
  have atT : ∀ {j : Nat}, j < ts.length → ∃ (ua ub : Int) (r : Addr), tr[j]? = some r ∧ H r = some (.tup [.int ua, .int ub]) := fun hj => let ⟨r, h1, h2⟩ := t3 _ _ (List.getElem?_eq_getElem hj); (xWWWP _ _ r h1 h2)
  refine (xWPWWWWPP _ rfl wa _ _ (.int m) rfl rfl (xPPWP (SqT.of w1) rfl _ rfl (xWWWWPPPP wa _ _ (.ref tA) rfl rfl (SqT.of w1) rfl (xWWPP tA _ rfl (.inl (SqL.of t1)) (fun lT hlT => ?_)))))
  have g1 := same_new hlT (.lst (tr.map V.ref))
  have hl1 : upd H lT (.lst (tr.map V.ref)) lT = some (.lst (tr.map V.ref)) := upd_same
  let H1 : Hp := upd H lT (.lst (tr.map V.ref))
  refine (xWPWWWWPP _ rfl wa _ _ (.ref oA) rfl rfl (xPPWPP (SqT.of (g1 _ _ w1)) rfl oA rfl ⟨_, SqL.of (g1 _ _ o1)⟩ (fun D hD => ?_)))
  refine comp_news os.length (fun i => (os.getD i []).map V.int) hD (by (first | exact AR.n4 ho1 (of_decide_eq_true (id (Eq.refl true))) | omega)) (fun i H' hi g2 => ?_) (fun H' g2 => ?_) ?_ ?_
  · exact (xWWP _ (.ref (orr[i]'(by exact AR.n22g o2 hi))) (SqL.of (g2 _ _ (g1 _ _ o1))) (by rw [List.getElem?_map, List.getElem?_eq_getElem (by exact AR.n22g o2 hi)]; rfl))
  · exact (xWP _ (SqL.of (g2 _ _ (g1 _ _ o1))) (by rw [List.length_map, o2]; exact Nat.le_refl _))
  · rintro i H' x H'' k hi g2 hy hk
    obtain ⟨e, y⟩ := hy
    subst e
    refine yWWPP (OsI.nth o2 o3 (y _ (SqL.of (g2 _ _ (g1 _ _ o1))))) fun l r el ye585_3 er => ?_; subst ye585_3
    refine (xPWPWWPP ((Fills.refl _).set _ rfl) _ rfl r _ rfl (.inl (SqL.of (g2 _ _ (g1 _ _ er)))) (fun a ha => hk a _ ha (same_new ha _) ?_))
    rw [show os.getD i [] = l by rw [List.getD_eq_getElem?_getD, el]; rfl]
    exact upd_same
  intro rr H2 w2 g2
  rw [rows_vv] at w2
  have b : Bn H H1 lT D ts os H2 := ⟨g1.trans g2, g1, (xWPP tr (g2 _ _ hl1) t2 (fun i t e => let ⟨r, q1, q2⟩ := t3 i t e; (xWP r q1 (g2 _ _ (g1 _ _ q2))))), hlT, ⟨_, hl1⟩, ⟨rr, w2⟩, fun x hx => g2.free hx⟩
  have hTl : ((tr.map V.ref).length : Nat) = ts.length := by rw [List.length_map, t2]
  obtain ⟨k, ek, hk⟩ : ∃ k : Nat, pk / 400 % ((tr.map V.ref).length : Nat) = (k : Int) ∧ k < ts.length := by
    rw [hTl]
    have h1 := Int.emod_nonneg (pk / 400) (show (ts.length : Int) ≠ 0 by (first | exact AR.j23 (AR.j16 ht0) | omega))
    have h2 := Int.emod_lt_of_pos (pk / 400) (show 0 < (ts.length : Int) by (first | exact AR.j16 ht0 | omega))
    exact (xWP ((pk / 400 % (ts.length : Int)).toNat) (by (first | exact AR.j20 h1 | omega)) (by (clear ho0 ho1 hpk o2 h1; omega)))
  refine (xWWWP _ _ _ rfl ?_)
  refine (xWPWWPPP _ rfl _ _ rfl rfl (by show (0 : Int) < 20; decide) (xWPWWPPP _ rfl _ _ rfl rfl ⟨by decide, by decide⟩ (xWPWWPP _ rfl lT _ rfl (.inl (SqL.of (g2 _ _ hl1))) (xWWPPP _ _ rfl rfl (by show (0 : Int) < ((tr.map V.ref).length : Nat); (first | exact AR.j16 (AR.n22g hTl ht0) | omega)) ?_))))
  dsimp only
  rw [ek]
  refine yWWWP (atT hk) fun ua ub r er ev2 => ?_
  refine (xWPWP _ rfl _ rfl (xWWWWPPPP lT _ _ _ rfl rfl (SqL.of (g2 _ _ hl1)) (atI_nat (by rw [List.getElem?_map, er]; rfl)) (xWWPPPWWP r _ rfl (SqT.of (g2 _ _ (g1 _ _ ev2))) rfl _ _ rfl (xWWPP _ _ rfl rfl ?_))))
  refine (xWPWPWWPP _ rfl _ rfl lT _ rfl (.inl (SqL.of (g2 _ _ hl1))) (xWWPPPWP _ _ rfl rfl (.inl ⟨by decide, by decide⟩) _ rfl (xWWWWWWPP D _ pk H1 rr os rfl w2 (xPPPPP g2 ho0 (by (first | exact AR.n4 ho1 (of_decide_eq_true (id (Eq.refl true))) | omega)) (fun o ho => ⟨(hor o ho).1, by have := (hor o ho).2; (first | exact AR.n4 this (of_decide_eq_true (id (Eq.refl true))) | omega)⟩) hpk (fun H3 hb => ?_)))))
  refine yWWPPPP hb fun rr4 os4 w4 g4 b1 b2 b3 => ?_; try clear hb
  have hfl : os4.flatten.length ≤ 161 := by
    have := AW.flat_le os (fun o ho => (hor o ho).2); (clear ht0 ht1 hpk t2 hTl ek hk b2 b3; omega)
  clear b w2 g2
  have b : Bn H H1 lT D ts os4 H3 := ⟨g1.trans g4, g1, (xWPP tr (g4 _ _ hl1) t2 (fun i t e => let ⟨r, q1, q2⟩ := t3 i t e; (xWP r q1 (g4 _ _ (g1 _ _ q2))))), hlT, ⟨_, hl1⟩, ⟨rr4, w4⟩, fun x hx => g4.free hx⟩
  clear w4 g4 ev2 er hl1 t3 t2 atT t1 o3 o1 o2
  have is : ∀ {n : Int}, decide (V.int (pk % 20) = V.int n) = true → pk % 20 = n := fun h => V.int.inj (of_decide_eq_true h)
  have m3 : pk / 9 % 3 = 0 ∨ pk / 9 % 3 = 1 ∨ pk / 9 % 3 = 2 := by (clear ht0 ht1 ho0 ho1 hpk hTl ek hk b1 b2 b3 hfl; omega)
  have m2 : pk / 9 % 2 = 0 ∨ pk / 9 % 2 = 1 := by (clear ht0 ht1 ho0 ho1 hpk hTl ek hk b1 b2 b3 hfl m3; omega)
  have m27 : pk / 27 % 2 = 0 ∨ pk / 27 % 2 = 1 := by (clear ht0 ht1 ho0 ho1 hpk hTl ek hk b1 b2 b3 hfl m3 m2; omega)
  have two : ∀ a b : Int, ∃ z : Int, atI [V.int a, V.int b] (pk / 9 % 2) = some (.int z) := fun a b => by
    rcases m2 with h | h <;> rw [h] <;> exact ⟨_, rfl⟩
  have three : ∀ a b c : Int, ∃ z : Int, atI [V.int a, V.int b, V.int c] (pk / 9 % 3) = some (.int z) := fun a b c => by
    rcases m3 with h | h | h <;> rw [h] <;> exact ⟨_, rfl⟩
  dsimp only
  let S : Int → L2.St := fun m' => [some (.ref wa), some (.int pk), some (.int m'), some (.ref lT), some (.ref D), some (.int (pk % 20)), some (vn k), some (.int ua), some (.int ub), none, none]
  refine viaN (fun σ' H' => H3 = H' ∧ ∃ m' : Int, σ' = S m') (fun _ r1 => ?_) ?_
  · exact (xWPPWP _ rfl rfl _ rfl (ite2 (fun c => (xWPWWPP _ rfl _ _ rfl rfl (r1 _ _ ⟨rfl, _, rfl⟩))) (fun c => r1 _ _ ⟨rfl, _, rfl⟩)))
  intro σ' H' hq128; obtain ⟨rfl, m', rfl⟩ := hq128
  -- 8
  refine viaN (fun σ' H' => σ' = S m' ∧ ∃ ts', Bn H H1 lT D ts' os4 H' ∧ ts'.length = ts.length) (fun _ r1 => ?_) ?_
  · refine (xWPPWP _ rfl rfl _ rfl (ite2 (fun c => ?_) (fun c => r1 _ _ (xPWP rfl ts b rfl))))
    obtain ⟨z, ez⟩ := three m' (0 - 1) (ub - m')
    refine (xWPWPWWPP _ rfl _ rfl _ _ rfl rfl (xWPWPWWPP _ rfl _ rfl _ _ rfl rfl ⟨ (by show 3 ≤ sizeLine; decide), fun lA hlA => ?_⟩))
    have ga := same_new hlA (.lst [.int m', .int (0 - 1), .int (ub - m')])
    refine (xWPWWPPP _ rfl _ _ rfl rfl ⟨by decide, by decide⟩ (xWWPPP _ _ rfl rfl (by show (0 : Int) < 3; decide) (xWWWWPPPP lA _ _ (.int z) rfl rfl (SqL.of upd_same) ez ⟨ (by show 2 ≤ sizeLine; decide), fun p1 hp1 => ?_⟩)))
    have gb := same_new hp1 (.tup [.int ua, .int z])
    refine (xWPP _ rfl (by show 2 ≤ sizeLine; decide) (fun p2 hp2 => ?_))
    have gc := same_new hp2 (.tup [.int m', .int 0])
    refine ⟨(by show 2 ≤ sizeLine; decide), fun lB hlB => ?_⟩
    have gd := same_new hlB (.lst [.ref p1, .ref p2])
    have bb := b.keep (ga.trans (gb.trans (gc.trans gd)))
    have e1 := gd _ _ (gc _ _ (upd_same (H := upd H3 lA (.lst [.int m', .int (0 - 1), .int (ub - m')])) (a := p1) (o := .tup [.int ua, .int z])))
    have e2 := gd _ _ (upd_same (H := upd (upd H3 lA (.lst [.int m', .int (0 - 1), .int (ub - m')])) p1 (.tup [.int ua, .int z])) (a := p2) (o := .tup [.int m', .int 0]))
    refine yWPP bb.tI fun tr' y1 y2 y3 => ?_
    have fin : ∃ (pp : Addr) (x y : Int), atI [V.ref p1, V.ref p2] (pk / 27 % 2) = some (.ref pp) ∧ upd (upd (upd (upd H3 lA (.lst [.int m', .int (0 - 1), .int (ub - m')])) p1 (.tup [.int ua, .int z])) p2 (.tup [.int m', .int 0])) lB (.lst [.ref p1, .ref p2]) pp = some (.tup [.int x, .int y]) := by
      rcases m27 with h | h
      · exact (xWWWP p1 _ _ (by rw [h]; rfl) e1)
      · exact (xWWWP p2 _ _ (by rw [h]; rfl) e2)
    refine yWWWP fin fun pp x y f1 f2 => ?_; try clear fin
    refine (xWPWWPPP _ rfl _ _ rfl rfl ⟨by decide, by decide⟩ (xWWPPP _ _ rfl rfl (by show (0 : Int) < 2; decide) (xWWWWPPPP lB _ _ (.ref pp) rfl rfl (SqL.of upd_same) f1 (xWPWP _ rfl _ rfl (xWWWWPPPP lT _ _ k rfl rfl y1 (ixN_ok (by rw [List.length_map, y2]; exact hk) rfl) (r1 _ _ (xPWP rfl (ts.set k (x, y)) (bb.wrT (TsI.put y1 y2 y3 f2 k)) List.length_set)))))))
  intro σ' H4 hq129; refine yPWP hq129 fun ye590_0 ts2 bb l2 => ?_; try clear hq129; subst ye590_0
  have out : ∀ {r : Addr} {m2 : Int} {ts3 : AW.Ts} {os3 : AW.Os} {H5 : Hp}, Same H4 H5 → WebI H5 r m2 ts3 os3 → ts3.length ≤ 100 → os3.flatten.length ≤ 1000 → os3.length ≤ 450 → Q (.ref r) H5 := fun g w h1 h2 h3 => q _ _ _ _ _ (bb.same.trans g) w h1 h2 h3
  refine yWPP bb.tI fun tr' y1 y2 y3 => ?_
  obtain ⟨rr', w4⟩ := bb.oN
  refine yWPP w4.os fun orr' z1 z2 z3 => ?_
  have ylen : (tr'.map V.ref).length = ts2.length := by rw [List.length_map, y2]
  have zlen : (orr'.map V.ref).length = os4.length := by rw [List.length_map, z2]
  -- 9
  refine (xWPPWP _ rfl rfl _ rfl (ite2 (fun c => ?_) (fun c9 => ?_)))
  · refine (xWPP _ rfl (by show 0 ≤ sizeLine; decide) (fun e he => (xWPP _ rfl (by show 3 ≤ sizeLine; decide) (fun r hr => ?_))))
    have ga := same_new he (.lst [])
    have gb := same_new hr (.tup [.int m', .ref e, .ref D])
    exact out (ts3 := []) (ga.trans gb) (xWWPP e D upd_same (xWPP ([]) (gb _ _ upd_same) rfl (fun i t h => by simp at h)) (w4.os.same (ga.trans gb))) (by simp) (by (first | exact AR.n4 hfl (of_decide_eq_true (id (Eq.refl true))) | omega)) (by (first | exact AR.n4 b2 (AR.n21a (AR.n4 ho1 (of_decide_eq_true (id (Eq.refl true))))) | omega))
  -- 10
  refine (xWPPWP _ rfl rfl _ rfl (ite2 (fun c => ?_) (fun c10 => ?_)))
  · refine (xWPWPWWPP _ rfl _ rfl _ _ rfl rfl (xPWWPPPWP ⟨by decide, by decide⟩ _ _ rfl rfl (by show (0 : Int) < 2; decide) _ rfl (xWWPPPWWP _ _ rfl rfl (.inl ⟨by (clear ht0 ht1 ho0 ho1 hpk hTl ek hk b1 b2 b3 hfl m3 m2 m27 l2 y2 z2 ylen zlen; omega), by (clear ht0 ht1 ho0 ho1 hpk hTl ek hk b1 b2 b3 hfl m3 m2 m27 l2 y2 z2 ylen zlen; omega)⟩) _ _ rfl (xPP rfl (by show 0 ≤ sizeLine; decide) (fun e he => ⟨(by show 0 ≤ sizeLine; decide), fun f hf => ⟨(by show 3 ≤ sizeLine; decide), fun r hr => ?_⟩⟩)))))
    have ga := same_new he (.lst [])
    have gb := same_new hf (.lst [])
    have gc := same_new hr (.tup [.int (m' - pk / 9 % 2 * m'), .ref e, .ref f])
    exact out (ts3 := []) (os3 := []) (ga.trans (gb.trans gc)) (xWWPP e f upd_same (xWPP ([]) (gc _ _ (gb _ _ upd_same)) rfl (fun i t h => by simp at h)) (xWPP ([]) (gc _ _ upd_same) rfl (fun i t h => by simp at h))) (by simp) (by simp) (by simp)
  -- 11
  refine (xWPPWP _ rfl rfl _ rfl (ite2 (fun c => ?_) (fun c11 => ?_)))
  · refine (xWPWWPPWP _ rfl _ _ rfl rfl _ rfl (xWPWPP _ rfl _ rfl (by show 2 ≤ sizeLine; decide) (fun p hp => ⟨(by show 1 ≤ sizeLine; decide), fun lp hlp => ?_⟩)))
    have ga := same_new hp (.tup [.int m', .int m'])
    have gb := same_new hlp (.lst [.ref p])
    have gab := ga.trans gb
    refine (xWWWWPPPP lT lp _ _ rfl rfl (gab _ _ y1) upd_same ⟨ ?_, fun lt hlt => ?_⟩)
    · rw [ylen]; show ts2.length + 1 ≤ sizeLine; exact Nat.le_trans (show ts2.length + 1 ≤ 100 by (first | exact AR.n21a (AR.n22b l2 (AR.n4 ht1 (of_decide_eq_true (id (Eq.refl true))))) | omega)) (by decide)
    have gc := same_new hlt (.lst (tr'.map V.ref ++ [.ref p]))
    have gabc := gab.trans gc
    refine (xWPWPWWPP _ rfl _ rfl lT _ rfl (.inl (SqL.of (gabc _ _ y1))) (xWWPPPWP _ _ rfl rfl (.inl ⟨by decide, by decide⟩) _ rfl (xWWPPWWPP lT _ rfl (.inl (SqL.of (gabc _ _ y1))) _ _ rfl rfl (xPWWPPP (.inl ⟨by decide, by decide⟩) _ _ rfl rfl (by show 2 ≤ sizeLine; decide) (fun lo hlo => ⟨(by show 1 ≤ sizeLine; decide), fun lq hlq => ?_⟩)))))
    have gd := same_new hlo (.lst [V.int (2 * ((tr'.map V.ref).length : Nat)), V.int (2 * ((tr'.map V.ref).length : Nat) + 1)])
    have ge := same_new hlq (.lst [.ref lo])
    have gde := gabc.trans (gd.trans ge)
    refine (xWWWWPPPP D lq _ _ rfl rfl (gde _ _ z1) upd_same ⟨ ?_, fun lr hlr => ⟨(by show 3 ≤ sizeLine; decide), fun r hr => ?_⟩⟩)
    · rw [zlen]; show os4.length + 1 ≤ sizeLine; exact Nat.le_trans (show os4.length + 1 ≤ 100 by (clear ht0 ht1 hpk hTl ek hk b1 b3 hfl m3 m2 m27 l2 y2 ylen; omega)) (by decide)
    have gf := same_new hlr (.lst (orr'.map V.ref ++ [.ref lo]))
    have gg := same_new hr (.tup [.int (m' + 1), .ref lt, .ref lr])
    have gall := gde.trans (gf.trans gg)
    have hfg := gf.trans gg
    refine out gall (xWWPP lt lr upd_same (TsI.more (a := lT) y2 (fun i t h => let ⟨r, q1, q2⟩ := y3 i t h; (xWP r q1 (gall _ _ q2))) (hfg _ _ (ge _ _ (gd _ _ upd_same))) (hfg _ _ (ge _ _ (gd _ _ (gc _ _ (gb _ _ upd_same)))))) (OsI.more (os2 := [[2 * ((tr'.map V.ref).length : Nat), 2 * ((tr'.map V.ref).length : Nat) + 1]]) (rs := [lo]) z2 (fun i t h => let ⟨r, q1, q2⟩ := z3 i t h; (xWP r q1 (gall _ _ q2))) (gg _ _ upd_same) rfl (fun i o h => ?_))) (by simp; (first | exact AR.n22b l2 (AR.n4 ht1 (of_decide_eq_true (id (Eq.refl true)))) | omega)) (by rw [List.flatten_append, List.length_append]; exact Nat.le_trans (Nat.add_le_add_right hfl 2) (by decide)) (by simp; (first | exact AR.n4 b2 (AR.n21a (AR.n4 ho1 (of_decide_eq_true (id (Eq.refl true))))) | omega))
    match i, h with
    | 0, h => cases h; exact (xWP lo rfl (hfg _ _ (ge _ _ upd_same)))
  -- 12
  refine (xWPPWP _ rfl rfl _ rfl (ite2 (fun c => ?_) (fun c12 => ?_)))
  · refine (xWPWWPPWP _ rfl _ _ rfl rfl _ rfl (xWPWPWWPP _ rfl _ rfl _ _ rfl rfl ⟨ (by show 2 ≤ sizeLine; decide), fun p hp => ⟨(by show 1 ≤ sizeLine; decide), fun lp hlp => ?_⟩⟩))
    have ga := same_new hp (.tup [.int m', .int (m' + 1)])
    have gb := same_new hlp (.lst [.ref p])
    have gab := ga.trans gb
    refine (xWWWWPPPP lT lp _ _ rfl rfl (gab _ _ y1) upd_same ⟨ ?_, fun lt hlt => ?_⟩)
    · rw [ylen]; show ts2.length + 1 ≤ sizeLine; exact Nat.le_trans (show ts2.length + 1 ≤ 100 by (first | exact AR.n21a (AR.n22b l2 (AR.n4 ht1 (of_decide_eq_true (id (Eq.refl true))))) | omega)) (by decide)
    have gc := same_new hlt (.lst (tr'.map V.ref ++ [.ref p]))
    have gabc := gab.trans gc
    refine (xWPWPWWPP _ rfl _ rfl lT _ rfl (.inl (SqL.of (gabc _ _ y1))) (xWWPPPP _ _ rfl rfl (.inl ⟨by decide, by decide⟩) (by show 1 ≤ sizeLine; decide) (fun lo hlo => ?_)))
    have gd := same_new hlo (.lst [V.int (2 * ((tr'.map V.ref).length : Nat))])
    have gabd := gabc.trans gd
    refine (xWPWWPP _ rfl lT _ rfl (.inl (SqL.of (gabd _ _ y1))) (xWWPPPWWP _ _ rfl rfl (.inl ⟨by decide, by decide⟩) _ _ rfl (xPP rfl (by show 1 ≤ sizeLine; decide) (fun lo2 hlo2 => ⟨(by show 2 ≤ sizeLine; decide), fun lq hlq => ?_⟩))))
    have gd2 := same_new hlo2 (.lst [V.int (2 * ((tr'.map V.ref).length : Nat) + 1)])
    have ge := same_new hlq (.lst [.ref lo, .ref lo2])
    have gde := gabd.trans (gd2.trans ge)
    refine (xWWWWPPPP D lq _ _ rfl rfl (gde _ _ z1) upd_same ⟨ ?_, fun lr hlr => ⟨(by show 3 ≤ sizeLine; decide), fun r hr => ?_⟩⟩)
    · rw [zlen]; show os4.length + 2 ≤ sizeLine; exact Nat.le_trans (show os4.length + 2 ≤ 100 by (clear ht0 ht1 hpk hTl ek hk b1 b3 hfl m3 m2 m27 l2 y2 ylen; omega)) (by decide)
    have gf := same_new hlr (.lst (orr'.map V.ref ++ [.ref lo, .ref lo2]))
    have gg := same_new hr (.tup [.int (m' + 2), .ref lt, .ref lr])
    have gall := gde.trans (gf.trans gg)
    have hfg := gf.trans gg
    refine out gall (xWWPP lt lr upd_same (TsI.more (a := lT) y2 (fun i t h => let ⟨r, q1, q2⟩ := y3 i t h; (xWP r q1 (gall _ _ q2))) (hfg _ _ (ge _ _ (gd2 _ _ (gd _ _ upd_same)))) (hfg _ _ (ge _ _ (gd2 _ _ (gd _ _ (gc _ _ (gb _ _ upd_same))))))) (OsI.more (os2 := [[2 * ((tr'.map V.ref).length : Nat)], [2 * ((tr'.map V.ref).length : Nat) + 1]]) (rs := [lo, lo2]) z2 (fun i t h => let ⟨r, q1, q2⟩ := z3 i t h; (xWP r q1 (gall _ _ q2))) (gg _ _ upd_same) rfl (fun i o h => ?_))) (by simp; (first | exact AR.n22b l2 (AR.n4 ht1 (of_decide_eq_true (id (Eq.refl true)))) | omega)) (by rw [List.flatten_append, List.length_append]; exact Nat.le_trans (Nat.add_le_add_right hfl 2) (by decide)) (by simp; (first | exact AR.n4 b2 (AR.n21a (AR.n4 ho1 (of_decide_eq_true (id (Eq.refl true))))) | omega))
    match i, h with
    | 0, h => cases h; exact (xWP lo rfl (hfg _ _ (ge _ _ (gd2 _ _ upd_same))))
    | 1, h => cases h; exact (xWP lo2 rfl (hfg _ _ (ge _ _ upd_same)))
  dsimp only [tNext]
  -- 13
  refine viaN (fun σ' H' => True ∧ Bn H H1 lT D ts2 os4 H' ∧ ∃ m2 : Int, σ' = S m2) (fun _ r1 => ?_) ?_
  · refine (xWPPWP _ rfl rfl _ rfl (ite2 (fun c => ?_) (fun c => r1 _ _ (xPP trivial bb ⟨ _, rfl⟩))))
    obtain ⟨z, ez⟩ := two 1 (0 - 1)
    refine (xWPWWPPP _ rfl _ _ rfl rfl (by show 2 ≤ sizeLine; decide) (fun lA hlA => ?_))
    exact (xWPWWPPP _ rfl _ _ rfl rfl ⟨by decide, by decide⟩ (xWWPPP _ _ rfl rfl (by show (0 : Int) < 2; decide) (xWWWWPPPP lA _ _ (.int z) rfl rfl (SqL.of upd_same) ez (xWWPP _ _ rfl rfl (r1 _ _ (xPP trivial (bb.keep (same_new hlA _)) ⟨ _, rfl⟩))))))
  clear y1 y2 y3 z1 z2 z3 w4 ylen zlen out
  clear bb
  intro σ' H6 hq130; refine yPP hq130 fun _ bb yr593 => ?_; try clear hq130; obtain ⟨m3', rfl⟩ := yr593
  -- 14
  refine viaN (fun σ' H' => σ' = S m3' ∧ ∃ ts', Bn H H1 lT D ts' os4 H' ∧ ts'.length = ts.length) (fun _ r1 => ?_) ?_
  · refine (xWPPWP _ rfl rfl _ rfl (ite2 (fun c => ?_) (fun c => r1 _ _ (xPWP rfl ts2 bb l2))))
    refine (xWPWPP _ rfl _ rfl (by show 2 ≤ sizeLine; decide) (fun p hp => ?_))
    have ga := same_new hp (.tup [.int ub, .int ua])
    have b3 := bb.keep ga
    refine yWPP b3.tI fun tr3 y1 y2 y3 => ?_
    exact (xWPWP _ rfl _ rfl (xWWWWPPPP lT _ _ k rfl rfl y1 (ixN_ok (by rw [List.length_map, y2, l2]; exact hk) rfl) (r1 _ _ (xPWP rfl (ts2.set k (ub, ua)) (b3.wrT (TsI.put y1 y2 y3 upd_same k)) (by rw [List.length_set]; exact l2)))))
  intro σ' H5 hq131; refine yPWP hq131 fun ye595_0 ts5 b5 l5 => ?_; try clear hq131; subst ye595_0
  obtain ⟨rr5, w5⟩ := b5.oN
  have rl : (rr5.map V.ref).length = os4.length := by rw [List.length_map, w5.len, List.length_map]
  have pos : (0 : Int) < if ((rr5.map V.ref).length : Int) > 1 then ((rr5.map V.ref).length : Int) else 1 := by split <;> (clear ht0 ht1 ho0 ho1 hpk hTl ek hk b1 b2 b3 hfl m3 m2 m27 l2 l5 rl; omega)
  obtain ⟨p, ep, hp⟩ : ∃ p : Nat, pk / 20 % (if ((rr5.map V.ref).length : Int) > 1 then ((rr5.map V.ref).length : Int) else 1) = (p : Int) ∧ (0 < os4.length → p < os4.length) := by
    have h1 := Int.emod_nonneg (pk / 20) (show (if ((rr5.map V.ref).length : Int) > 1 then ((rr5.map V.ref).length : Int) else 1) ≠ 0 by (first | exact AR.j23 pos | omega))
    have h2 := Int.emod_lt_of_pos (pk / 20) pos
    refine ⟨_, (Int.toNat_of_nonneg h1).symm, fun h0 => ?_⟩
    split at h2 <;> rename_i c <;> rw [rl] at * <;> simp only [c, if_true, if_false] at h1 ⊢ <;> (clear ht0 ht1 hpk hTl ek hk b1 b3 hfl m3 m2 m27 l2 l5 rl pos h1; omega)
  refine (xWPWWPPP _ rfl _ _ rfl rfl ⟨by decide, by decide⟩ (xWPWWPP _ rfl D _ rfl (.inl (SqL.of w5.at_)) (xWWPWWPPP _ _ rfl _ _ rfl rfl pos ?_)))
  dsimp only
  rw [ep]
  refine (xWPWWPP _ rfl _ _ rfl rfl (xWWPWWPPP _ _ rfl _ _ rfl rfl (by show (0 : Int) < 4; decide) (xWPPP _ rfl ?_ ?_ ?_)))
  · split <;> (clear ht0 ht1 ho0 ho1 hpk hTl ek hk b1 b2 b3 hfl m3 m2 m27 l2 l5 rl pos ep hp; omega)
  · split <;> (clear ht0 ht1 ho0 ho1 hpk hTl ek hk b1 b2 b3 hfl m3 m2 m27 l2 l5 rl pos ep hp; omega)
  let Pv1 : Nat → L2.St → L2.Hp → Prop := fun i σ H' => ∃ (ts' : AW.Ts) (os' : AW.Os) (v : Option V), σ = [some (.ref wa), some (.int pk), some (.int m3'), some (.ref lT), some (.ref D), some (.int (pk % 20)), some (vn k), some (.int ua), some (.int ub), some (vn p), v] ∧ Bn H H1 lT D ts' os' H' ∧ ts'.length ≤ 40 + i ∧ os'.length = os4.length ∧ os'.flatten.length ≤ 161 + 2 * i
  refine for_range (lo := 0) Pv1 (xWWWPPPP ts5 os4 none rfl b5 (by exact AR.n22b l5 ht1) rfl (by exact hfl)) ?_ ?_
  · intro i σ H' hi hq132; refine yWWWPPPP hq132 fun ts' os' v ye596_3 b' n1 n2 n3 => ?_; try clear hq132; subst ye596_3
    have way : 15 < pk % 20 := by
      split at hi
      · (clear ht0 ht1 ho0 ho1 hpk hTl ek hk b1 b2 b3 hfl m3 m2 m27 l2 l5 rl pos ep hp n1 n2 n3 hi; omega)
      · simp at hi
    have hi3 : i < 4 := by split at hi <;> (clear ht0 ht1 ho0 ho1 hpk hTl ek hk b1 b2 b3 hfl m3 m2 m27 l2 l5 rl pos ep hp n1 n2 n3; omega)
    have hp' : p < os'.length := by rw [n2]; exact hp (by rw [b3 (by (clear ht0 ht1 ho0 ho1 hpk hTl ek hk b1 b2 b3 hfl m3 m2 m27 l2 l5 rl pos ep hp hi n1 n2 n3 hi3; omega))]; exact ho0)
    obtain ⟨rr', w'⟩ := b'.oN
    refine yWPP b'.tI fun tr' y1 y2 y3 => ?_
    refine yWPPP (w'.at' hp') fun x a1 c1 d1 e1 => ?_
    have ylen : ((tr'.map V.ref).length : Nat) = ts'.length := by rw [List.length_map, y2]
    have hrow := AW.flat_row os' p hp'
    refine (xWPWP _ rfl _ rfl (xWWWWPPPP D _ _ _ rfl rfl (SqL.of w'.at_) e1 (xWPWWPP _ rfl lT _ rfl (.inl (SqL.of y1)) (xWWPPPWP _ _ rfl rfl (.inl ⟨by decide, by decide⟩) _ rfl (xWWPPWWPP lT _ rfl (.inl (SqL.of y1)) _ _ rfl rfl (xPWWPPP (.inl ⟨by decide, by decide⟩) _ _ rfl rfl (by show 2 ≤ sizeLine; decide) (fun lA hlA => ?_)))))))
    have ga := same_new hlA (.lst [V.int (2 * ((tr'.map V.ref).length : Nat)), V.int (2 * ((tr'.map V.ref).length : Nat) + 1)])
    refine (xWWWWPPPP x lA _ _ rfl rfl (ga _ _ c1) upd_same ⟨ ?_, fun lB hlB => ?_⟩)
    · rw [List.length_map]; show os'[p].length + 2 ≤ sizeLine; exact Nat.le_trans (show os'[p].length + 2 ≤ 1000 by (clear ht0 ht1 ho0 ho1 hpk hTl ek hk b1 b2 b3 hfl m3 m2 m27 l2 l5 rl pos ep hp hi n1 n2 way y2 ylen; omega)) (by decide)
    have gb := same_new hlB (.lst (os'[p].map V.int ++ [V.int (2 * ((tr'.map V.ref).length : Nat)), V.int (2 * ((tr'.map V.ref).length : Nat) + 1)]))
    have gab := ga.trans gb
    have wk := w'.keep gab
    have fB : H' lB = none := ga.free hlB
    have fB1 : H1 lB = none := b'.dm _ fB
    let nw : List Int := [2 * ((tr'.map V.ref).length : Nat), 2 * ((tr'.map V.ref).length : Nat) + 1]
    have ws := wk.swap (x := lB) (l := (os'[p] ++ nw).map V.int) (by rw [List.map_append]; exact upd_same) fB1 (fun z => by rw [z, w'.at_] at fB; cases fB) (w'.notIn fB) p
    have bs := (b'.keep gab).wrO (os' := os'.set p (os'[p] ++ nw)) (by rw [show vv (os'.set p (os'[p] ++ nw)) = (vv os').set p ((os'[p] ++ nw).map V.int) from List.map_set ..]; exact ws) rfl
    refine (xWPWP _ rfl _ rfl (xWWWWPPPP D _ _ p rfl rfl (gab _ _ w'.at_) (ixN_ok (by rw [List.length_map, w'.len, List.length_map]; exact hp') rfl) ?_))
    refine yWPP bs.tI fun tr2 x1 x2 x3 => ?_
    refine (xWPPWPWPP _ rfl (.inl ⟨rfl, _, SqL.of x1⟩) _ rfl _ rfl (by show 2 ≤ sizeLine; decide) (fun tp htp => ?_))
    have gt := same_new htp (.tup [vn p, vn p])
    have bt := bs.keep gt
    refine yWPP bt.tI fun tr3 u1 u2 u3 => ?_
    refine (xWWWPPPP lT _ _ rfl rfl u1 ?_ (xWWWPPPP (ts' ++ [((p : Int), (p : Int))]) _ _ rfl (bt.wrT ?_) (by simp; (clear ht0 ht1 ho0 ho1 hpk hTl ek hk b1 b2 b3 hfl m3 m2 m27 l2 l5 rl pos ep hp hi n2 n3 way hi3 hrow; omega)) (by rw [List.length_set]; exact n2) ?_))
    · rw [List.length_map, u2]; exact Nat.lt_of_le_of_lt (show ts'.length ≤ 100 by (first | exact AR.n3' n1 (AR.n14 hi3 (of_decide_eq_true (id (Eq.refl true)))) | omega)) (by decide)
    · have ne : ∀ {b : Addr} {l : List V}, upd (upd (upd (upd H' lA (.lst [V.int (2 * ((tr'.map V.ref).length : Nat)), V.int (2 * ((tr'.map V.ref).length : Nat) + 1)])) lB (.lst (os'[p].map V.int ++ [V.int (2 * ((tr'.map V.ref).length : Nat)), V.int (2 * ((tr'.map V.ref).length : Nat) + 1)]))) D (.lst ((rr'.map V.ref).set p (.ref lB)))) tp (.tup [vn p, vn p]) b = some (.tup l) → b ≠ lT := fun hb z => by rw [z, u1] at hb; cases hb
      exact TsI.more (a := lT) u2 (fun i t h => let ⟨r, q1, q2⟩ := u3 i t h; (xWP r q1 (by rw [upd_ne (ne q2)]; exact q2))) upd_same (by rw [upd_ne (ne upd_same)]; exact upd_same)
    · have := AW.flat_set os' p (os'[p] ++ nw) hp'
      rw [List.length_append] at this
      have e2 : nw.length = 2 := rfl
      (clear ht0 ht1 ho0 ho1 hpk hTl ek hk b1 b2 b3 hfl m3 m2 m27 l2 l5 rl pos ep hp hi n1 n2 way hi3 y2 ylen hrow x2 u2; omega)
  · intro σ H' hq133; refine yWWWPPPP hq133 fun ts' os' v ye601_3 b' n1 n2 n3 => ?_; try clear hq133; subst ye601_3
    refine (xWPWPWPP _ rfl _ rfl _ rfl (by show 3 ≤ sizeLine; decide) (fun r hr => ?_))
    have : (if 0 < pk % 20 - 15 then pk % 20 - 15 else 0) % 4 < 4 := by (clear ht0 ht1 ho0 ho1 hpk hTl ek hk b1 b2 b3 hfl m3 m2 m27 l2 l5 rl pos ep hp n1 n2 n3; omega)
    exact q r _ _ _ _ (b'.same.trans (same_new hr _)) (b'.web hr) (by (clear ht0 ht1 ho0 ho1 hpk hTl ek hk b1 b2 b3 hfl m3 m2 m27 l2 l5 rl pos ep hp n2 n3 this; omega)) (by (clear ht0 ht1 ho0 ho1 hpk hTl ek hk b1 b2 b3 hfl m3 m2 m27 l2 l5 rl pos ep hp n1 n2 this; omega)) (by (clear ht0 ht1 hpk hTl ek hk b1 b3 hfl m3 m2 m27 l2 l5 pos ep hp n1 n3 this; omega))
end K01

namespace L2
open PySem PyProof.Rows
theorem TsI.cat {H : Hp} {l : Addr} {ts : AW.Ts} {tr : List Addr} (h1 : tr.length = ts.length) (h2 : ∀ (i : Nat) t, ts[i]? = some t → ∃ r, tr[i]? = some r ∧ H r = some (.tup [.int t.1, .int t.2]))
    {rs : List Addr} {ts2 : AW.Ts} (hl : H l = some (.lst (tr.map V.ref ++ rs.map V.ref))) (g1 : rs.length = ts2.length) (g2 : ∀ (i : Nat) t, ts2[i]? = some t → ∃ r, rs[i]? = some r ∧ H r = some (.tup [.int t.1, .int t.2])) : TsI H l (ts ++ ts2) := by
  refine (xWPP (tr ++ rs) (by rw [hl, List.map_append]) (by simp [h1, g1]) (fun i t e => ?_))
  by_cases q : i < ts.length
  · rw [List.getElem?_append_left q] at e
    refine yWP (h2 i t e) fun b q1 q2 => ?_
    exact (xWP b (by rw [List.getElem?_append_left (by exact AR.n22g h1 q)]; exact q1) q2)
  · rw [List.getElem?_append_right (by exact AR.n6 q)] at e
    refine yWP (g2 _ t e) fun b q1 q2 => ?_
    exact (xWP b (by rw [List.getElem?_append_right (by (first | exact AR.n22b h1 (AR.n6 q) | omega)), h1]; exact q1) q2)
theorem TsI.other {H : Hp} {a o : Addr} {ts : AW.Ts} (h : TsI H a ts) {xs : List V} (ho : H o = some (.lst xs)) (ne : a ≠ o) (u : HO) : TsI (upd H o u) a ts := by
  refine yWPP h fun tr h1 h2 h3 => ?_; try clear h
  exact (xWPP tr (by rw [upd_ne ne]; exact h1) h2 (fun i t e => let ⟨r, q1, q2⟩ := h3 i t e; (xWP r q1 (by rw [upd_ne (show r ≠ o from fun z => by rw [z, ho] at q2; cases q2)]; exact q2))))
theorem OsI.push {H : Hp} {a x : Addr} {os : AW.Os} {xs : List V} (h : OsI H a os) (ha : H a = some (.lst xs)) {l : List Int} (hx : H x = some (.lst (l.map V.int))) (xa : x ≠ a) : OsI (upd H a (.lst (xs ++ [.ref x]))) a (os ++ [l]) := by
  refine yWPP h fun tr h1 h2 h3 => ?_; try clear h
  rw [h1] at ha
  cases ha
  have ne : ∀ {i : Nat} {r : Addr} {l : List Int}, tr[i]? = some r → H r = some (.lst (l.map V.int)) → r ≠ a := fun {i r l} q1 q2 z => by
    rw [z, h1] at q2
    have e : tr.map V.ref = l.map V.int := by injection q2 with e; injection e
    have e2 := congrArg (·[i]?) e
    simp only [List.getElem?_map, q1] at e2
    cases c : l[i]? with
    | none => rw [c] at e2; cases e2
    | some y => rw [c] at e2; cases e2
  refine OsI.more (rs := [x]) (os2 := [l]) h2 (fun i o e => let ⟨r, q1, q2⟩ := h3 i o e; (xWP r q1 (by rw [upd_ne (ne q1 q2)]; exact q2))) upd_same rfl fun i o e => ?_
  match i, e with
  | 0, e => cases e; exact (xWP x rfl (by rw [upd_ne xa]; exact hx))
end L2
namespace K01
open PySem L2 PyProof.Rows
variable {P : Program} {w : World} {K : PySem.W.Frag} {mg : Str → Option Value} {base : Heap} {t : Adr}
def spGiv : Sp := fun vs H Q _ => ∃ n : Nat, vs = [vn n] ∧ 3 ≤ n ∧ n ≤ 220 ∧ ∀ (r : Addr) (m : Int) (ts : AW.Ts) (os : AW.Os) (H' : Hp), Same H H' → WebI H' r m ts os → ts.length ≤ 450 → os.flatten.length ≤ 1000 → os.length ≤ 450 → Q (.ref r) H'
theorem ok_row (T : Txt K mg t) : FnOk P w K mg base CX0 1 t.a_l_row t.d_l_row ["_law_many"] spGiv := by
  refine T.F_l_row.ok sc_l_row (fun vs H Q E h => ?_) (fun cdv A outer s H vs Q E hr h => ?_)
  · refine yWP h fun n ye606_1 _ => ?_; try clear h; subst ye606_1; rfl
  refine yWPPP h fun n ye607_1 hn3 hn q => ?_; try clear h; subst ye607_1
  have nd := sc_l_row.nd
  have nd_l_k : (["_law_k"] : List Str).Nodup := by decide
  refine (xWP _ (pss_cons (ps_setComp (i := 1) nd rfl (Or.inl rfl)  (N' := ["_law_k"]) (js := [none]) rfl (pi_range1 rfl T.z_range (pa_cons (pe_op op_sub (pv 0) pe_int) pa_nil)) (fun _ _ _ _ _ => (pg_name (i := 0) nd_l_k rfl (Or.inl rfl))) (fun _ _ _ _ _ => pf_nil) (fun _ _ _ _ _ => (pe_tup (pa_cons (pv 0) (pa_cons (pe_op op_add (pv 0) pe_int) pa_nil)))))
    (pss_cons (ps_set (i := 2) nd rfl (Or.inl rfl) (pe_op op_cat (pe_op op_cat (pe_lst (pa_cons (pe_lst (pa_cons pe_int pa_nil)) pa_nil)) (pe_comp (N' := ["_law_k"]) (js := [none]) rfl (pi_range2 rfl T.z_range (pa_cons pe_int (pa_cons (pe_op op_sub (pv 0) pe_int) pa_nil))) (fun _ _ _ _ _ => (pg_name (i := 0) nd_l_k rfl (Or.inl rfl))) (fun _ _ _ _ _ => pf_nil) (fun _ _ _ _ _ => (pe_lst (pa_cons (pe_op op_sub (pe_op op_mul pe_int (pv 0)) pe_int) (pa_cons (pe_op op_mul pe_int (pv 0)) pa_nil)))))) (pe_lst (pa_cons (pe_lst (pa_cons (pe_op op_sub (pe_op op_mul pe_int (pv 0)) pe_int) pa_nil)) pa_nil))))
    (pss_one (ps_ret (pe_tup (pa_cons (pv 0) (pa_cons (pv 1) (pa_cons (pv 2) pa_nil)))))))) ?_)
  refine (xWPWWPPWP _ rfl _ _ rfl rfl ((n : Int) - 1) rfl (xPP (by omega) (by omega) (fun D hD => ?_)))
  let Pv1 : Nat → List L2.V → L2.Hp → Prop := fun i ys H' => (∃ ts : AW.Ts, TsI H' D ts ∧ ts.length = i) ∧ H' D = some (.lst ys) ∧ Same H H'
  refine comp_map (n - 1) Pv1 (xPP (xWP ([]) (xWPP ([]) upd_same rfl (fun i t h => by simp at h)) rfl) upd_same (same_new hD _)) ?_ ?_
  · intro i ys H' hi hq134; refine yPP hq134 fun ye608_0 h2 h3 => ?_; try clear hq134; obtain ⟨ts, ⟨tr, e1, e2, e3⟩, hl⟩ := ye608_0
    refine ⟨(by show i < ((n : Int) - 1).toNat; omega), ?_⟩
    intro x H'' hq135; obtain ⟨rfl, rfl⟩ := hq135
    refine ⟨(Fills.refl _).set _ rfl, ?_⟩
    refine (xWPWPWWPP _ rfl _ rfl _ _ rfl rfl ⟨ (by show 2 ≤ sizeLine; decide), fun tp htp => ?_⟩)
    have g5 := same_new htp (.tup [.int (0 + (i : Int)), .int (0 + (i : Int) + 1)])
    rw [h2] at e1
    cases e1
    have ne : ∀ {b : Addr} {l : List V}, upd H'' tp (.tup [.int (0 + (i : Int)), .int (0 + (i : Int) + 1)]) b = some (.tup l) → b ≠ D := fun hb z => by rw [z, g5 _ _ h2] at hb; cases hb
    refine (xPPPP (g5 _ _ h2) (by rw [List.length_map, e2, hl]; exact Nat.lt_of_le_of_lt (by first | exact AR.n5' hi (AR.n19 (AR.n3 hn (of_decide_eq_true (id (Eq.refl true))))) | omega : i ≤ 1000) (by decide)) (xWP (ts ++ [(0 + (i : Int), 0 + (i : Int) + 1)]) (TsI.more (a := D) e2 (fun j t e => let ⟨r, q1, q2⟩ := e3 j t e; (xWP r q1 (by rw [upd_ne (ne (g5 _ _ q2))]; exact g5 _ _ q2))) upd_same (by rw [upd_ne (ne upd_same)]; exact upd_same)) (by simp [hl])) upd_same ((h3.trans g5).fresh hD _))
  intro ys H1 hq136; refine yPP hq136 fun ye609_0 d1 g1 => ?_; try clear hq136; obtain ⟨ts, t1, tl⟩ := ye609_0
  refine ⟨(by show ((n : Int) - 1).toNat ≤ n - 1; (clear tl; omega)), ?_⟩
  refine ⟨(by show 1 ≤ sizeLine; decide), fun o0 ho0 => ⟨(by show 1 ≤ sizeLine; decide), fun l0 hl0 => ?_⟩⟩
  have a1 := same_new ho0 (.lst [.int 0])
  have a2 := same_new hl0 (.lst [.ref o0])
  have a12 := a1.trans a2
  refine (xWPWWPP _ rfl _ _ rfl rfl (xWWPP 1 ((n : Int) - 1) rfl (xPPP (by (clear hn3 hn tl; omega)) (by (clear hn3 hn tl; omega)) (by (clear tl; omega)) (by (clear tl; omega))) (fun D2 hD2 => ?_)))
  refine comp_news (n - 2) (fun i => [V.int (2 * (1 + (i : Int)) - 1), V.int (2 * (1 + (i : Int)))]) hD2 (by (first | exact AR.n19' (AR.n4 hn (of_decide_eq_true (id (Eq.refl true)))) | omega)) (fun i H' hi g2 => ?_) (fun H' g2 => ?_) ?_ ?_
  · show i < ((n : Int) - 1 - 1).toNat; (clear tl; omega)
  · show ((n : Int) - 1 - 1).toNat ≤ n - 2; (clear tl; omega)
  · rintro i H' x H'' k hi g2 hy hk
    obtain ⟨rfl, rfl⟩ := hy
    exact (xPWPWWPPP ((Fills.refl _).set _ rfl) _ rfl _ _ rfl rfl (.inl ⟨by decide, by decide⟩) (xWWPPWP _ _ rfl rfl _ rfl (xWWPPPP _ _ rfl rfl (.inl ⟨by decide, by decide⟩) (by show 2 ≤ sizeLine; decide) (fun l hl => hk l _ hl (same_new hl _) upd_same))))
  intro rr H3 w3 g3
  have rl : rr.length = n - 2 := by rw [w3.len]; simp
  have k0 : H3 o0 = some (.lst [.int 0]) := g3 _ _ (a2 _ _ upd_same)
  refine (xWWWWPPPP l0 D2 _ _ rfl rfl (g3 _ _ upd_same) w3.at_ ⟨ ?_, fun p1 hp1 => ?_⟩)
  · rw [List.length_map, rl]; exact Nat.le_trans (by show 1 + (n - 2) ≤ 1000; (first | exact AR.m11 (AR.n19' (AR.n4 hn (of_decide_eq_true (id (Eq.refl true))))) (of_decide_eq_true (id (Eq.refl true))) | omega)) (by decide)
  have a3 := same_new hp1 (.lst ([V.ref o0] ++ rr.map V.ref))
  refine (xWPWWPPP _ rfl _ _ rfl rfl (.inl ⟨by decide, by decide⟩) (xWWPPP _ _ rfl rfl (by show 1 ≤ sizeLine; decide) (fun o2 ho2 => ⟨(by show 1 ≤ sizeLine; decide), fun l2 hl2 => ?_⟩)))
  have a4 := same_new ho2 (.lst [V.int (2 * (n : Int) - 3)])
  have a5 := same_new hl2 (.lst [.ref o2])
  refine (xWWWWPPPP p1 l2 _ _ rfl rfl (a5 _ _ (a4 _ _ upd_same)) upd_same ⟨ ?_, fun p2 hp2 => ?_⟩)
  · rw [List.length_append, List.length_map, rl]; exact Nat.le_trans (by show 1 + (n - 2) + 1 ≤ 1000; (clear tl rl; omega)) (by decide)
  have a6 := same_new hp2 (.lst ([V.ref o0] ++ rr.map V.ref ++ [V.ref o2]))
  refine (xWPWPWPP _ rfl _ rfl _ rfl (by show 3 ≤ sizeLine; decide) (fun r hr' => ?_))
  have a7 := same_new hr' (.tup [vn n, .ref D, .ref p2])
  have g56 := a5.trans (a6.trans a7)
  have g36 := a3.trans (a4.trans g56)
  have gall := g3.trans g36
  let mids : AW.Os := (List.range (n - 2)).map fun i : Nat => [2 * (1 + (i : Int)) - 1, 2 * (1 + (i : Int))]
  have mrow : ∀ (i : Nat) o, mids[i]? = some o → ∃ x, rr[i]? = some x ∧ H3 x = some (.lst (o.map V.int)) := fun i o e => by
    have hi : i < n - 2 := by have := (List.getElem?_eq_some_iff.mp e).1; simpa [mids] using this
    have eo : o = [2 * (1 + (i : Int)) - 1, 2 * (1 + (i : Int))] := by
      have : mids[i]? = some [2 * (1 + (i : Int)) - 1, 2 * (1 + (i : Int))] := by simp [mids, hi]
      rw [this] at e; exact (Option.some.inj e).symm
    subst eo
    exact w3.row i _ (by simp [hi])
  have ml : mids.length = n - 2 := by simp [mids]
  have i1 : OsI (upd (upd (upd (upd (upd H3 p1 (.lst ([V.ref o0] ++ rr.map V.ref))) o2 (.lst [V.int (2 * (n : Int) - 3)])) l2 (.lst [.ref o2])) p2 (.lst ([V.ref o0] ++ rr.map V.ref ++ [V.ref o2]))) r (.tup [vn n, .ref D, .ref p2])) p2 ([[0]] ++ mids ++ [[2 * (n : Int) - 3]]) := by
    refine OsI.more (tr := [o0] ++ rr) (rs := [o2]) (by simp [rl, ml]) (fun i o e => ?_) (by rw [List.map_append]; exact a7 _ _ upd_same) rfl (fun i o e => ?_)
    · match i, e with
      | 0, e => cases e; exact (xWP o0 rfl (g36 _ _ k0))
      | i + 1, e =>
        refine yWP (mrow i o e) fun x q1 q2 => ?_
        exact (xWP x q1 (g36 _ _ q2))
    · match i, e with
      | 0, e => cases e; exact (xWP o2 rfl (g56 _ _ upd_same))
  refine q r n ts _ _ (g1.trans (a12.trans gall)) (xWWPP D p2 upd_same (t1.same (a12.trans gall)) i1) (by (first | exact AR.n22b tl (AR.n19' (AR.n4 hn (of_decide_eq_true (id (Eq.refl true))))) | omega)) ?_ (by simp [ml]; (first | exact AR.n4 hn (of_decide_eq_true (id (Eq.refl true))) | omega))
  rw [List.flatten_append, List.flatten_append, List.length_append, List.length_append]
  have := AW.flat_le mids fun o ho => by
    refine yWP (List.mem_map.mp ho) fun i _ yr611 => ?_; subst yr611
    exact (by decide : 2 ≤ 4)
  rw [ml] at this
  exact Nat.le_trans (Nat.add_le_add_right (Nat.add_le_add_left this 1) 1) (by (clear tl rl this; omega))
theorem ok_ring (T : Txt K mg t) : FnOk P w K mg base CX0 1 t.a_l_ring t.d_l_ring ["_law_many"] spGiv := by
  refine T.F_l_ring.ok sc_l_ring (fun vs H Q E h => ?_) (fun cdv A outer s H vs Q E hr h => ?_)
  · refine yWP h fun n ye612_1 _ => ?_; try clear h; subst ye612_1; rfl
  refine yWPPP h fun n ye613_1 hn3 hn q => ?_; try clear h; subst ye613_1
  have nd := sc_l_ring.nd
  refine (xWP _ (pss_cons (ps_set (i := 1) nd rfl (Or.inl rfl) (pe_lst pa_nil))
    (pss_cons (ps_set (i := 2) nd rfl (Or.inl rfl) (pe_lst pa_nil))
    (pss_cons (ps_for PassesOwn.never rfl (pi_range1 rfl T.z_range (pa_cons (pv 0) pa_nil)) (pg_name (i := 3) nd rfl (Or.inl rfl)) (pss_cons (ps_set (i := 1) nd rfl (Or.inl rfl) (pe_op op_cat (pv 1) (pe_lst (pa_cons (pe_tup (pa_cons (pv 3) (pa_cons (pe_op op_mod (pe_op op_add (pv 3) pe_int) (pv 0)) pa_nil))) (pa_cons (pe_tup (pa_cons (pv 3) (pa_cons (pe_op op_mod (pe_op op_add (pv 3) pe_int) (pv 0)) pa_nil))) pa_nil)))))
    (pss_cons (ps_set (i := 4) nd rfl (Or.inl rfl) (pe_op op_mul pe_int (pe_op op_mod (pe_op op_sub (pe_op op_add (pv 3) (pv 0)) pe_int) (pv 0))))
    (pss_one (ps_expr (pe_bm PySem.F.plainAttrs_list PySem.F.slot_list_append PySem.F.type_list_append mt_append (pv 2) (pa_cons (pe_lst (pa_cons (pe_op op_mul pe_int (pv 3)) (pa_cons (pe_op op_add (pe_op op_mul pe_int (pv 3)) pe_int) (pa_cons (pe_op op_add (pv 4) pe_int) (pa_cons (pe_op op_add (pv 4) pe_int) pa_nil))))) pa_nil)))))))
    (pss_one (ps_ret (pe_tup (pa_cons (pv 0) (pa_cons (pv 1) (pa_cons (pv 2) pa_nil))))))))) ?_)
  refine ⟨(by show 0 ≤ sizeLine; decide), fun a0 ha0 => ⟨(by show 0 ≤ sizeLine; decide), fun oo hoo => ?_⟩⟩
  have b1 := same_new ha0 (.lst [])
  have b2 := same_new hoo (.lst [])
  have hoH : H oo = none := b1.free hoo
  refine (xWPWPPP _ rfl (n : Int) rfl (by omega) (by omega) ?_)
  let Pv2 : Nat → L2.St → L2.Hp → Prop := fun i σ H' => ∃ (a : Addr) (ts : AW.Ts) (os : AW.Os) (o3 o4 : Option V), σ = [some (vn n), some (.ref a), some (.ref oo), o3, o4] ∧ TsI H' a ts ∧ OsI H' oo os ∧ a ≠ oo ∧ Same H H' ∧ ts.length = 2 * i ∧ os.length = i ∧ os.flatten.length = 4 * i
  refine for_range (lo := 0) (n := n) Pv2 (xWWWWWPPP a0 ([]) ([]) none none rfl (xWPP ([]) (b2 _ _ upd_same) rfl (fun i t h => by simp at h)) (xWPP ([]) upd_same rfl (fun i t h => by simp at h)) (xPPPP (ne_of_none upd_same hoo) (b1.trans b2) rfl rfl rfl)) ?_ ?_
  · intro i σ H1 hi hq137; refine yWWWWWPPP hq137 fun a ts os o3 o4 ye614_5 t1 n1 yr614 => ?_; try clear hq137; subst ye614_5; refine yPPPP yr614 fun ao g1 l1 l2 l3 => ?_; try clear yr614
    refine yWPP t1 fun tr e1 e2 e3 => ?_; try clear t1
    refine yWPP (id n1) fun orr f1 f2 f3 => ?_
    refine (xWPWPWP _ rfl _ rfl _ rfl (xWWPPWP _ _ rfl rfl _ rfl (xWWPPPP _ _ rfl rfl (by show (0 : Int) < n; (first | exact AR.j16 (AR.m16 (AR.n17 hn3)) | omega)) (by show 2 ≤ sizeLine; decide) (fun p1 hp1 => ?_))))
    have c1 := same_new hp1 (.tup [.int (0 + (i : Int)), .int ((0 + (i : Int) + 1) % (n : Int))])
    refine (xWPWPWWPP _ rfl _ rfl _ _ rfl rfl (xWPWWPPPP _ rfl _ _ rfl rfl (by show (0 : Int) < n; (first | exact AR.j16 (AR.m16 (AR.n17 hn3)) | omega)) (by show 2 ≤ sizeLine; decide) (fun p2 hp2 => ⟨(by show 2 ≤ sizeLine; decide), fun pl hpl => ?_⟩)))
    have c2 := same_new hp2 (.tup [.int (0 + (i : Int)), .int ((0 + (i : Int) + 1) % (n : Int))])
    have c3 := same_new hpl (.lst [V.ref p1, V.ref p2])
    have c13 := c1.trans (c2.trans c3)
    refine (xWWWWPPPP a pl _ _ rfl rfl (c13 _ _ e1) upd_same ⟨ ?_, fun pn hpn => ?_⟩)
    · rw [List.length_map, e2, l1]; exact Nat.le_trans (by show 2 * i + 2 ≤ 1000; (clear l1 l3 e2; omega)) (by decide)
    have c4 := same_new hpn (.lst (tr.map V.ref ++ [V.ref p1, V.ref p2]))
    have cc := c13.trans c4
    have pno : pn ≠ oo := (ne_of_none (c13 _ _ f1) hpn).symm
    refine (xWPWPWWPP _ rfl _ rfl _ _ rfl rfl (xWWPPWP _ _ rfl rfl _ rfl (xWWPPPWWP _ _ rfl rfl (by show (0 : Int) < n; (first | exact AR.j16 (AR.m16 (AR.n17 hn3)) | omega)) _ _ rfl (xPP rfl (.inl ⟨by decide, by decide⟩) ?_))))
    refine (xWPPWPWWP _ rfl (.inl ⟨rfl, _, SqL.of (cc _ _ f1)⟩) _ rfl _ _ rfl (xPPWPWWPP rfl (.inl ⟨by decide, by decide⟩) _ rfl _ _ rfl rfl (xPWWPPWP (.inl ⟨by decide, by decide⟩) _ _ rfl rfl _ rfl (xWWPPWP _ _ rfl rfl _ rfl (xWWPPP _ _ rfl rfl (by show 4 ≤ sizeLine; decide) (fun nl hnl => ?_))))))
    let four : List Int := [4 * (0 + (i : Int)), 4 * (0 + (i : Int)) + 2, 4 * ((0 + (i : Int) + n - 1) % n) + 1, 4 * ((0 + (i : Int) + n - 1) % n) + 3]
    have c5 := same_new hnl (.lst (four.map V.int))
    have ca := cc.trans c5
    have nlo : nl ≠ oo := (ne_of_none (cc _ _ f1) hnl).symm
    have t2 := TsI.cat (H := upd (upd (upd (upd (upd H1 p1 (.tup [.int (0 + (i : Int)), .int ((0 + (i : Int) + 1) % (n : Int))])) p2 (.tup [.int (0 + (i : Int)), .int ((0 + (i : Int) + 1) % (n : Int))])) pl (.lst [V.ref p1, V.ref p2])) pn (.lst (tr.map V.ref ++ [V.ref p1, V.ref p2]))) nl (.lst (four.map V.int))) (l := pn) (rs := [p1, p2]) (ts2 := [(0 + (i : Int), (0 + (i : Int) + 1) % (n : Int)), (0 + (i : Int), (0 + (i : Int) + 1) % (n : Int))]) e2 (fun j t e => let ⟨r, q1, q2⟩ := e3 j t e; (xWP r q1 (ca _ _ q2))) (c5 _ _ upd_same) rfl (fun j t e => by
      match j, e with
      | 0, e => cases e; exact (xWP p1 rfl (c5 _ _ (c4 _ _ (c3 _ _ (c2 _ _ upd_same)))))
      | 1, e => cases e; exact (xWP p2 rfl (c5 _ _ (c4 _ _ (c3 _ _ upd_same)))))
    refine (xWWWPPPP oo _ _ rfl rfl (ca _ _ f1) ?_ (xWWWWWPPP pn _ (os ++ [four]) _ _ rfl (t2.other (ca _ _ f1) pno _) ((n1.same ca).push (ca _ _ f1) upd_same nlo) (xPPPP pno ((g1.trans ca).fresh hoH _) (by simp [l1]; (clear hn3 hn hi l1 l2 l3 e2 f2; omega)) (by simp [l2]) ?_)))
    · rw [List.length_map, f2, l2]; exact Nat.lt_of_le_of_lt (by (first | exact AR.n1 (AR.n28 hi hn (of_decide_eq_true (id (Eq.refl true)))) | omega) : i ≤ 1000) (by decide)
    · rw [List.flatten_append, List.length_append, l3]; show 4 * i + 4 = 4 * (i + 1); (clear hn3 hn hi l1 l2 l3 e2 f2; omega)
  · intro σ H1 hq138; refine yWWWWWPPP hq138 fun a ts os o3 o4 ye618_5 t1 n1 yr618 => ?_; try clear hq138; subst ye618_5; refine yPPPP yr618 fun ao g1 l1 l2 l3 => ?_; try clear yr618
    refine (xWPWPWPP _ rfl _ rfl _ rfl (by show 3 ≤ sizeLine; decide) (fun r hr' => ?_))
    have gr := same_new hr' (.tup [vn n, .ref a, .ref oo])
    exact q r n ts os _ (g1.trans gr) (xWWPP a oo upd_same (t1.same gr) (n1.same gr)) (by (clear l3; omega)) (by (clear l1; omega)) (by (first | exact AR.n22b l2 (AR.n4 hn (of_decide_eq_true (id (Eq.refl true)))) | omega))
end K01

namespace L2
open PySem PyProof.Rows
def dTI (ts : AW.Ts) : List PyData := ts.map fun t => .tuple [.int t.1, .int t.2]
def dOI (os : AW.Os) : List PyData := os.map fun l => .list (l.map PyData.int)
def dWI (m : Int) (ts : AW.Ts) (os : AW.Os) : PyData := .tuple [.int m, .list (dTI ts), .list (dOI os)]
theorem bds_of {K : PySem.W.Frag} {H : Hp} : ∀ (xs : List V) (ds : List PyData), xs.length = ds.length → (∀ (i : Nat) x d, xs[i]? = some x → ds[i]? = some d → Bd K H x d) → Bds K H xs ds
  | [], [], _, _ => .nil
  | [], _ :: _, h, _ => by cases h
  | _ :: _, [], h, _ => by cases h
  | x :: xs, d :: ds, h, f => .cons (f 0 x d rfl rfl) (bds_of xs ds (by simpa using h) fun i x' d' h1 h2 => f (i + 1) x' d' h1 h2)
theorem bd_webI {K : PySem.W.Frag} {H : Hp} {w : Addr} {m : Int} {ts : AW.Ts} {os : AW.Os} (h : WebI H w m ts os) : Bd K H (.ref w) (dWI m ts os) := by
  refine yWWPP h fun tA oA h1 ye620_3 yr620 => ?_; try clear h; obtain ⟨tr, t1, t2, t3⟩ := ye620_3; obtain ⟨rr, o1, o2, o3⟩ := yr620
  refine .tup (SqT.of h1) (.cons (.int _) (.cons (.lst (SqL.of t1) (bds_of _ _ (by rw [dTI, List.length_map, List.length_map, t2]) fun i x d hx hd => ?_)) (.cons (.lst (SqL.of o1) (bds_of _ _ (by rw [dOI, List.length_map, List.length_map, o2]) fun i x d hx hd => ?_)) .nil)))
  · refine yWWPP (TsI.nth (a := tA) t2 t3 hx) fun t r e1 ye621_3 e2 => ?_; subst ye621_3
    rw [dTI, List.getElem?_map, e1] at hd
    cases hd
    exact .tup (SqT.of e2) (.cons (.int _) (.cons (.int _) .nil))
  · refine yWWPP (OsI.nth o2 o3 hx) fun l r e1 ye622_3 e2 => ?_; subst ye622_3
    rw [dOI, List.getElem?_map, e1] at hd
    cases hd
    exact bd_ints e2
theorem webI_shaped (m : Int) (ts : AW.Ts) (os : AW.Os) : SeqAt.shaped (dWI m ts os) = true := by
  have h1 : PyData.canLayAll0 (dTI ts) = true ∧ PyData.depthAll (dTI ts) ≤ 3 := lay_all 3 fun d hd => by
    refine yWP (List.mem_map.mp hd) fun n _ yr623 => ?_; subst yr623
    exact ⟨rfl, by simp [PyData.depth, PyData.depthAll]⟩
  have h2 : PyData.canLayAll0 (dOI os) = true ∧ PyData.depthAll (dOI os) ≤ 3 := lay_all 3 fun d hd => by
    refine yWP (List.mem_map.mp hd) fun n _ yr624 => ?_; subst yr624
    have := lay_ints n
    exact ⟨this.1, by rw [PyData.depth]; (clear h1; omega)⟩
  have h : PyData.canLayAll0 [PyData.int m, .list (dTI ts), .list (dOI os)] = true ∧ PyData.depthAll [PyData.int m, .list (dTI ts), .list (dOI os)] ≤ 4 := lay_all 4 fun d hd => by
    simp only [List.mem_cons, List.not_mem_nil, or_false] at hd
    rcases hd with rfl | rfl | rfl
    · exact ⟨rfl, by simp [PyData.depth]⟩
    · exact ⟨h1.1, by rw [PyData.depth]; (clear h2; omega)⟩
    · exact ⟨h2.1, by rw [PyData.depth]; (clear h1; omega)⟩
  unfold SeqAt.shaped
  rw [Bool.and_eq_true]
  refine ⟨h.1, decide_eq_true ?_⟩
  unfold dWI
  rw [PyData.depth]
  (clear h1 h2; omega)
theorem webI_eqv (m : Int) (ts : AW.Ts) (os : AW.Os) : PyData.eqv (dWI m ts os) (dWI m ts os) = true := SeqAt.eqv_refl _ (SeqAt.canLay_of_shaped (webI_shaped m ts os))
end L2

namespace K01
open PySem L2 PyProof.Rows
variable {P : Program} {w : World} {K : PySem.W.Frag} {mg : Str → Option Value} {base : Heap} {t : Adr}
def spLawB (K : PySem.W.Frag) (vs : List L2.V) (H : L2.Hp) (Q : L2.VK) (a : Addr) (ns : List Int) : Prop := vs = [.ref a] ∧ SqL K H a (ns.map V.int) ∧ ns.length ≤ 63 ∧ ∀ H', Q (.bl true) H'
def spLaw (K : PySem.W.Frag) : Sp := fun vs H Q _ => ∃ (a : Addr) (ns : List Int), spLawB K vs H Q a ns
def Fine (H : Hp) (x : Addr) : Prop := ∃ (m : Int) (ts : AW.Ts) (os : AW.Os), WebI H x m ts os ∧ ts.length ≤ 450 ∧ os.flatten.length ≤ 1000 ∧ os.length ≤ 450
theorem ok_law (T : Txt K mg t) : FnOk P w K mg base CX0 lawK t.a_law t.d_law ["_law_script"] (spLaw K) := by
  have G_l_cell_at := ok_cell (P := P) (w := w) (base := base) T
  have G_l_mix := ok_mix (P := P) (w := w) (base := base) T
  have G_l_map := ok_lmap (P := P) (w := w) (base := base) T
  have G_l_bent := ok_bent (P := P) (w := w) (base := base) T
  have G_l_row := ok_row (P := P) (w := w) (base := base) T
  have G_l_ring := ok_ring (P := P) (w := w) (base := base) T
  have G_l_refused := ok_ref (P := P) (w := w) (base := base) T
  have G_l_is_map := ok_ism (P := P) (w := w) (base := base) T
  refine T.F_law.ok sc_law (fun vs H Q E h => ?_) (fun cdv A outer s H vs Q E hr h => ?_)
  · refine yWWP h fun a ns ye625_2 _ => ?_; try clear h; subst ye625_2; rfl
  refine yWWPPP h fun sa ns ye626_2 hS hns q => ?_; try clear h; subst ye626_2
  have nd := sc_law.nd
  have nd_l_order : (["_law_order"] : List Str).Nodup := by decide
  refine (xWP _ (pss_cons (ps_set (i := 1) nd rfl (Or.inl rfl) (pe_call G_l_map (hr.mono (by decide)) rfl T.m_l_map T.k_l_map T.b_l_map .nil pass0 (pa_cons (pv 0) (pa_cons pe_int (pa_cons pe_int pa_nil)))))
    (pss_cons (ps_set (i := 2) nd rfl (Or.inl rfl) (pe_call G_l_mix (hr.mono (by decide)) rfl T.m_l_mix T.k_l_mix T.b_l_mix .nil pass0 (pa_cons (pe_call G_l_cell_at (hr.mono (by decide)) rfl T.m_l_cell_at T.k_l_cell_at T.b_l_cell_at .nil pass0 (pa_cons (pv 0) (pa_cons pe_int pa_nil))) (pa_cons pe_int pa_nil))))
    (pss_cons (ps_if (pt_cmpR op_gt (pe_op op_mod (pe_call G_l_cell_at (hr.mono (by decide)) rfl T.m_l_cell_at T.k_l_cell_at T.b_l_cell_at .nil pass0 (pa_cons (pv 0) (pa_cons pe_int pa_nil))) pe_int) pe_int (nomark _)) (pss_one (ps_set (i := 1) nd rfl (Or.inl rfl) (pe_call G_l_bent (hr.mono (by decide)) rfl T.m_l_bent T.k_l_bent T.b_l_bent .nil pass0 (pa_cons (pv 1) (pa_cons (pv 2) pa_nil))))) pss_nil)
    (pss_cons (ps_set (i := 3) nd rfl (Or.inl rfl) (pe_lst (pa_cons (pv 1) pa_nil)))
    (pss_cons (ps_if (pt_cmpR op_eq (pe_op op_mod (pe_op op_fdiv (pe_call G_l_cell_at (hr.mono (by decide)) rfl T.m_l_cell_at T.k_l_cell_at T.b_l_cell_at .nil pass0 (pa_cons (pv 0) (pa_cons pe_int pa_nil))) pe_int) pe_int) pe_int (nomark _)) (pss_one (ps_set (i := 3) nd rfl (Or.inl rfl) (pe_lst (pa_cons (pe_call G_l_row (hr.mono (by decide)) rfl T.m_l_row T.k_l_row T.b_l_row .nil pass0 (pa_cons (pe_op op_add pe_int (pe_op op_mod (pv 2) pe_int)) pa_nil)) (pa_cons (pe_call G_l_ring (hr.mono (by decide)) rfl T.m_l_ring T.k_l_ring T.b_l_ring .nil pass0 (pa_cons (pe_op op_add pe_int (pe_op op_mod (pe_op op_fdiv (pv 2) pe_int) pe_int)) pa_nil)) pa_nil))))) pss_nil)
    (pss_cons (ps_for PassesOwn.never rfl (pi_list (pv 3)) (pg_name (i := 4) nd rfl (Or.inl rfl)) (pss_cons (ps_set (i := 5) nd rfl (Or.inl rfl) (pe_tup (pa_cons (pe_ix ix_tup (pv 4) pe_int (fun _ _ => rfl)) (pa_cons (pe_callTy call_list_of rfl T.z_list boot_list (pa_cons (pe_ix ix_tup (pv 4) pe_int (fun _ _ => rfl)) pa_nil)) (pa_cons (pe_comp (N' := ["_law_order"]) (js := [none]) rfl (pi_list (pe_ix ix_tup (pv 4) pe_int (fun _ _ => rfl))) (fun _ _ _ _ _ => (pg_name (i := 0) nd_l_order rfl (Or.inl rfl))) (fun _ _ _ _ _ => pf_nil) (fun _ _ _ _ _ => (pe_callTy (kcall_list (K := K) rfl) rfl T.z_list boot_list (pa_cons (pv 0) pa_nil)))) pa_nil)))))
    (pss_one (ps_if (PW.pt (pw_or (pt_cmpR op_ne (pe_call G_l_refused (hr.mono (by decide)) rfl T.m_l_refused T.k_l_refused T.b_l_refused .nil pass0 (pa_cons (pv 5) pa_nil)) (pe_not (pe_call G_l_is_map (hr.mono (by decide)) rfl T.m_l_is_map T.k_l_is_map T.b_l_is_map .nil pass0 (pa_cons (pv 4) pa_nil))) (nomark _)) (pw_or1 (pt_cmpR (op_neD hr.units) (pv 5) (pv 4) (nomark _))))) (pss_one (ps_ret pe_bl)) pss_nil))))
    (pss_one (ps_ret pe_bl)))))))) ?_)
  refine (xWPWWWWPP _ rfl sa ns 15 10 rfl hS (xPP (by decide) (by decide) (fun r m ts os H1 g1 w1 t0 b1 p0 b2 prow => ?_)))
  have fl := AW.flat_le os fun o ho => (prow o ho).2
  have f1 : Fine H1 r := (xWWWPPP _ _ _ w1 (by (first | exact AR.n4 b1 (of_decide_eq_true (id (Eq.refl true))) | omega)) (by (clear hns t0 b1; omega)) (by (first | exact AR.n4 b2 (of_decide_eq_true (id (Eq.refl true))) | omega)))
  refine (xWPWWWPPP _ rfl sa ns 8 rfl (g1.seq hS) (by decide) (fun c => (xWWPPP c 0 rfl (by decide) (by decide) (fun pk hpk _ => ?_))))
  dsimp only
  refine viaN (fun σ' H' => ∃ r : Addr, σ' = [some (.ref sa), some (.ref r), some (.int pk), none, none, none] ∧ Same H H' ∧ Fine H' r) (fun _ r1 => ?_) ?_
  · refine (xWPWWWPPP _ rfl sa ns 8 rfl (g1.seq hS) (by decide) (fun c => (xWWPPPWWP _ _ rfl rfl (by show (0 : Int) < 4; decide) _ _ rfl (xPWP rfl _ rfl (ite2 (fun c => ?_) (fun c => r1 _ _ (xWPP r rfl g1 f1)))))))
    exact (xWPWP _ rfl _ rfl (xWWWWWPPP r pk _ _ _ rfl w1 t0 (xPPPPP b1 p0 b2 prow hpk (fun r' m' ts' os' H' g' w' l1 l2 l3 => r1 _ _ (xWPPWWWPP r' rfl (g1.trans g') _ _ _ w' (by (first | exact AR.n4 l1 (of_decide_eq_true (id (Eq.refl true))) | omega)) ⟨ l2, l3⟩)))))
  clear f1 w1 p0 prow fl b1 b2 g1 t0
  intro σ' H2 hq139; refine yWPP hq139 fun r2 ye627_1 g2 f2 => ?_; try clear hq139; subst ye627_1
  refine (xWPP _ rfl (by show 1 ≤ sizeLine; decide) (fun lw hlw => ?_))
  have g3 := same_new hlw (.lst [.ref r2])
  have keep : ∀ {H' H'' : Hp} {x : Addr}, Fine H' x → Same H' H'' → Fine H'' x := fun ⟨m, ts, os, h, h1, h2⟩ g => (xWWWPP m ts os (h.same g) h1 h2)
  dsimp only
  refine viaN (fun σ' H' => ∃ (r : Addr) (lw : Addr) (ws : List Addr), σ' = [some (.ref sa), some (.ref r), some (.int pk), some (.ref lw), none, none] ∧ Same H H' ∧ H' lw = some (.lst (ws.map V.ref)) ∧ ∀ x ∈ ws, Fine H' x) (fun _ r1 => ?_) ?_
  · refine (xWPWWWPPP _ rfl sa ns 8 rfl ((g2.trans g3).seq hS) (by decide) (fun c => (xWWPPPWWP _ _ rfl rfl ⟨by decide, by decide⟩ _ _ rfl (xPPPWP rfl (by show (0 : Int) < 16; decide) rfl _ rfl (ite2 (fun c => ?_) (fun c => r1 _ _ (xWWWPPP r2 lw ([r2]) rfl (g2.trans g3) upd_same (fun x hx => by rw [List.mem_singleton.mp hx]; exact keep f2 g3))))))))
    refine (xWPWWPPP _ rfl _ _ rfl rfl (by show (0 : Int) < 4; decide) (xWWPPWPPP _ _ rfl rfl ((199 + pk % 4).toNat) ?_ (by (clear hns hpk; omega)) (by (clear hns hpk; omega)) (fun ra ma tsa osa Ha ga wa la1 la2 la3 => ?_)))
    · exact congrArg (fun z => [V.int z]) (show 199 + pk % 4 = (((199 + pk % 4).toNat : Nat) : Int) by first | exact (Int.toNat_of_nonneg (Int.add_nonneg (by decide) (Int.emod_nonneg _ (by decide)))).symm | omega)
    refine (xWPWWPPP _ rfl _ _ rfl rfl ⟨by decide, by decide⟩ (xWWPPPWWP _ _ rfl rfl (by show (0 : Int) < 2; decide) _ _ rfl (xPWPPP rfl ((200 + pk / 4 % 2).toNat) ?_ (by (clear hns hpk la1 la2 la3; omega)) (by (clear hns hpk la1 la2 la3; omega)) (fun rb mb tsb osb Hb gb wb lb1 lb2 lb3 => ?_))))
    · exact congrArg (fun z => [V.int z]) (show 200 + pk / 4 % 2 = (((200 + pk / 4 % 2).toNat : Nat) : Int) by first | exact (Int.toNat_of_nonneg (Int.add_nonneg (by decide) (Int.emod_nonneg _ (by decide)))).symm | omega)
    refine ⟨(by show 2 ≤ sizeLine; decide), fun l2 hl2 => r1 _ _ (xWWWPPP r2 l2 ([ra, rb]) rfl ?_ upd_same ?_)⟩
    · exact g2.trans (g3.trans (ga.trans (gb.trans (same_new hl2 _))))
    · have gc := same_new hl2 (.lst [.ref ra, .ref rb])
      intro x hx
      rcases List.mem_cons.mp hx with rfl | hx
      · exact (xWWWPPP _ _ _ (wa.same (gb.trans gc)) la1 la2 la3)
      · rw [List.mem_singleton.mp hx]; exact (xWWWPPP _ _ _ (wb.same gc) lb1 lb2 lb3)
  clear g3 g2 f2 hlw
  intro σ' H3 hq140; refine yWWWPPP hq140 fun r3 l3 ws ye628_3 g3 e3 f3 => ?_; try clear hq140; subst ye628_3
  let Pv1 : Nat → L2.St → L2.Hp → Prop := fun i σ H' => (∃ v4 v5, σ = [some (.ref sa), some (.ref r3), some (.int pk), some (.ref l3), v4, v5]) ∧ Same H3 H'
  refine (xWPWPP _ rfl l3 rfl ⟨_, SqL.of e3⟩ (for_list (K := K) (a := l3) (xs := ws.map V.ref) Pv1 ⟨(xWW _ _ rfl), Same.refl _⟩ ?_ ?_ ?_))
  · intro i σ H' _ hq141; obtain ⟨_, g⟩ := hq141
    exact SqL.of (g _ _ e3)
  · intro i x σ H4 hx hq142; obtain ⟨⟨v4, v5, rfl⟩, g4⟩ := hq142
    rw [List.getElem?_map] at hx
    refine yWP (Option.map_eq_some_iff.mp hx) fun one e1 yr629 => ?_; subst yr629
    refine yWWWPPP (keep (f3 one (List.mem_of_getElem? e1)) g4) fun m ts os hW b1 b2 b3 => ?_
    refine yWWPP (id hW) fun tA oA w1 ye631_3 yr631 => ?_; obtain ⟨tr, t1, t2, t3⟩ := ye631_3; obtain ⟨orr, o1, o2, o3⟩ := yr631
    have ob : os.length ≤ 100000 := by (first | exact AR.n4 b3 (of_decide_eq_true (id (Eq.refl true))) | omega)
    refine (xWPWWWWPP _ rfl one _ _ (.int m) rfl rfl (xPPWP (SqT.of w1) rfl _ rfl (xWWWWPPPP one _ _ (.ref tA) rfl rfl (SqT.of w1) rfl (xWWPP tA _ rfl (.inl (SqL.of t1)) (fun lT hlT => ?_)))))
    have g5 := same_new hlT (.lst (tr.map V.ref))
    refine (xWPWWWWPP _ rfl one _ _ (.ref oA) rfl rfl (xPPWPP (SqT.of (g5 _ _ w1)) rfl oA rfl ⟨_, SqL.of (g5 _ _ o1)⟩ (fun D hD => ?_)))
    refine comp_news os.length (fun i => (os.getD i []).map V.int) hD ob (fun i H' hi g2 => ?_) (fun H' g2 => ?_) ?_ ?_
    · exact (xWWP _ (.ref (orr[i]'(by exact AR.n22g o2 hi))) (SqL.of (g2 _ _ (g5 _ _ o1))) (by rw [List.getElem?_map, List.getElem?_eq_getElem (by exact AR.n22g o2 hi)]; rfl))
    · exact (xWP _ (SqL.of (g2 _ _ (g5 _ _ o1))) (by rw [List.length_map, o2]; exact Nat.le_refl _))
    · rintro i H' x H'' k hi g2 hy hk
      obtain ⟨e, y⟩ := hy
      subst e
      refine yWWPP (OsI.nth o2 o3 (y _ (SqL.of (g2 _ _ (g5 _ _ o1))))) fun l r el ye632_3 er => ?_; subst ye632_3
      refine (xPWPWWPP ((Fills.refl _).set _ rfl) _ rfl r _ rfl (.inl (SqL.of (g2 _ _ (g5 _ _ er)))) (fun a ha => hk a _ ha (same_new ha _) ?_))
      rw [show os.getD i [] = l by rw [List.getD_eq_getElem?_getD, el]; rfl]
      exact upd_same
    intro rr H6 w6 g6
    rw [rows_vv] at w6
    refine ⟨(by show 3 ≤ sizeLine; decide), fun wh hwh => ?_⟩
    have g7 := same_new hwh (.tup [.int m, .ref lT, .ref D])
    have g57 := g5.trans (g6.trans g7)
    have hH : WebI (upd H6 wh (.tup [.int m, .ref lT, .ref D])) wh m ts os := (xWWPP lT D upd_same (xWPP tr (g7 _ _ (g6 _ _ upd_same)) t2 (fun i t e => let ⟨r, q1, q2⟩ := t3 i t e; (xWP r q1 (g57 _ _ q2)))) (w6.os.same g7))
    refine (xWPWWWWPP _ rfl wh m ts os rfl hH ⟨ by (first | exact AR.n4 b1 (of_decide_eq_true (id (Eq.refl true))) | omega), fun b H8 g8 hb => ?_⟩)
    refine (xWPWWWWPP _ rfl one m ts os rfl (hW.same (g57.trans g8)) (xPP (by (first | exact AR.n4 b1 (of_decide_eq_true (id (Eq.refl true))) | omega)) (by (first | exact AR.n4 b2 (of_decide_eq_true (id (Eq.refl true))) | omega)) (fun c H9 g9 hc => (xWPPWP c rfl rfl _ rfl ?_))))
    have ebc : b = !c := by
      by_cases z : AW.IsMap m ts os
      · rw [hc.mpr z]; cases b with
        | false => rfl
        | true => exact absurd z (hb.mp rfl)
      · rw [hb.mpr z]; cases c with
        | false => rfl
        | true => exact absurd (hc.mp rfl) z
    refine iteFb (by rw [ebc]; simp) ?_
    refine (xWPWPWWPP _ rfl _ rfl _ _ (bd_webI (hH.same (g8.trans g9))) (bd_webI (hW.same (g57.trans (g8.trans g9)))) (xPPWP (webI_shaped _ _ _) (webI_shaped _ _ _) _ rfl ?_))
    rw [webI_eqv]
    exact iteF ⟨(xWW _ _ rfl), g4.trans (g57.trans (g8.trans g9))⟩
  · rintro σ H' _
    exact q _
end K01

namespace L2
open PySem
theorem len0 {p : List Value → Prop} (h : p []) : ∀ us : List Value, us.length = 0 → p us
  | [], _ => h
theorem lenS {n : Nat} {p : List Value → Prop} (h : ∀ a us, us.length = n → p (a :: us)) : ∀ us : List Value, us.length = n + 1 → p us
  | a :: us, e => h a us (Nat.succ.inj e)
theorem len1 {p : List Value → Prop} (h : ∀ a, p [a]) : ∀ us : List Value, us.length = 1 → p us := lenS fun a => len0 (h a)
theorem len2 {p : List Value → Prop} (h : ∀ a b, p [a, b]) : ∀ us : List Value, us.length = 2 → p us := lenS fun a => lenS fun b => len0 (h a b)
theorem len3 {p : List Value → Prop} (h : ∀ a b c, p [a, b, c]) : ∀ us : List Value, us.length = 3 → p us := lenS fun a => lenS fun b => lenS fun c => len0 (h a b c)
theorem len4 {p : List Value → Prop} (h : ∀ a b c d, p [a, b, c, d]) : ∀ us : List Value, us.length = 4 → p us := lenS fun a => lenS fun b => lenS fun c => lenS fun d => len0 (h a b c d)
end L2
namespace K01
open PySem L2
theorem all_mk {l : PySem.W.OpenLaw} {w : World} {K : PySem.W.Frag} {h : Heap} {mg : Str → Option Value} {fa f0 f1 f2 f3 f4 f5 f6 f7 f8 f9 f10 f11 f12 f13 f14 f15 f16 f17 f18 f19 f20 f21 f22 f23 : Addr} (X : K.In h) (G : h.Ns mainGlobals mg) (hfa : mg "law" = some (.ref fa)) {q_MOST_PLACES q_MOST_TIES q_MOST_ENDS_AT_A_PLACE : Tok} {c_BendError c_NoMap c_NotFlat c_NoLand c_NoNet c_NoShape c_NoLaid c_NoText c_NoPicture c_NoRow c_NoThing : Addr}
    {od0 an0 od1 an1 od2 an2 od3 an3 od4 an4 od5 an5 od6 an6 od7 an7 od8 an8 od9 an9 od10 an10 od11 an11 od12 an12 od13 an13 od14 an14 od15 an15 od16 an16 od17 an17 od18 an18 od19 an19 od20 an20 od21 an21 od22 an22 od23 an23 : Option Addr} {sl0 sl1 sl2 sl3 sl4 sl5 sl6 sl7 sl8 sl9 sl10 sl11 sl12 sl13 sl14 sl15 sl16 sl17 sl18 sl19 sl20 sl21 sl22 sl23 : Array (Option Value)} {oc0 kV0 dc0 pm0 cd0 ct0 oc1 kV1 dc1 pm1 cd1 ct1 oc2 kV2 dc2 pm2 cd2 ct2 oc3 kV3 dc3 pm3 cd3 ct3 oc4 kV4 dc4 pm4 cd4 ct4 oc5 kV5 dc5 pm5 cd5 ct5 oc6 kV6 dc6 pm6 cd6 ct6 oc7 kV7 dc7 pm7 cd7 ct7 oc8 kV8 dc8 pm8 cd8 ct8 oc9 kV9 dc9 pm9 cd9 ct9 oc10 kV10 dc10 pm10 cd10 ct10 oc11 kV11 dc11 pm11 cd11 ct11 oc12 kV12 dc12 pm12 cd12 ct12 oc13 kV13 dc13 pm13 cd13 ct13 oc14 kV14 dc14 pm14 cd14 ct14 oc15 kV15 dc15 pm15 cd15 ct15 oc16 kV16 dc16 pm16 cd16 ct16 oc17 kV17 dc17 pm17 cd17 ct17 oc18 kV18 dc18 pm18 cd18 ct18 oc19 kV19 dc19 pm19 cd19 ct19 oc20 kV20 dc20 pm20 cd20 ct20 oc21 kV21 dc21 pm21 cd21 ct21 oc22 kV22 dc22 pm22 cd22 ct22 oc23 kV23 dc23 pm23 cd23 ct23 : Value}
    (a0 : PySem.W.nsIn K mainGlobals "check_map" = some (some (.ref f0))) (l0 : K.lookup f0 = some ⟨oc0, od0, .func (PySem.W.fnOf "check_map" "check_map" (defArgs s_check_map) (defBody s_check_map) (defScope s_check_map) .none kV0 dc0 pm0 an0 cd0 ct0), sl0⟩) (c0 : PySem.W.codeIn K cd0 "check_map" = true) (k0 : PySem.W.keepIn K (.ref f0) = true)
    (a1 : PySem.W.nsIn K mainGlobals "ties_name_places" = some (some (.ref f1))) (l1 : K.lookup f1 = some ⟨oc1, od1, .func (PySem.W.fnOf "ties_name_places" "ties_name_places" (defArgs s_ties_name_places) (defBody s_ties_name_places) (defScope s_ties_name_places) .none kV1 dc1 pm1 an1 cd1 ct1), sl1⟩) (c1 : PySem.W.codeIn K cd1 "ties_name_places" = true) (k1 : PySem.W.keepIn K (.ref f1) = true)
    (a2 : PySem.W.nsIn K mainGlobals "orders_fit" = some (some (.ref f2))) (l2 : K.lookup f2 = some ⟨oc2, od2, .func (PySem.W.fnOf "orders_fit" "orders_fit" (defArgs s_orders_fit) (defBody s_orders_fit) (defScope s_orders_fit) .none kV2 dc2 pm2 an2 cd2 ct2), sl2⟩) (c2 : PySem.W.codeIn K cd2 "orders_fit" = true) (k2 : PySem.W.keepIn K (.ref f2) = true)
    (a3 : PySem.W.nsIn K mainGlobals "ends_at_places" = some (some (.ref f3))) (l3 : K.lookup f3 = some ⟨oc3, od3, .func (PySem.W.fnOf "ends_at_places" "ends_at_places" (defArgs s_ends_at_places) (defBody s_ends_at_places) (defScope s_ends_at_places) .none kV3 dc3 pm3 an3 cd3 ct3), sl3⟩) (c3 : PySem.W.codeIn K cd3 "ends_at_places" = true) (k3 : PySem.W.keepIn K (.ref f3) = true)
    (a4 : PySem.W.nsIn K mainGlobals "hangs_together" = some (some (.ref f4))) (l4 : K.lookup f4 = some ⟨oc4, od4, .func (PySem.W.fnOf "hangs_together" "hangs_together" (defArgs s_hangs_together) (defBody s_hangs_together) (defScope s_hangs_together) .none kV4 dc4 pm4 an4 cd4 ct4), sl4⟩) (c4 : PySem.W.codeIn K cd4 "hangs_together" = true) (k4 : PySem.W.keepIn K (.ref f4) = true)
    (a5 : PySem.W.nsIn K mainGlobals "_law_cell_at" = some (some (.ref f5))) (l5 : K.lookup f5 = some ⟨oc5, od5, .func (PySem.W.fnOf "_law_cell_at" "_law_cell_at" (defArgs s_l_cell_at) (defBody s_l_cell_at) (defScope s_l_cell_at) .none kV5 dc5 pm5 an5 cd5 ct5), sl5⟩) (c5 : PySem.W.codeIn K cd5 "_law_cell_at" = true) (k5 : PySem.W.keepIn K (.ref f5) = true)
    (a6 : PySem.W.nsIn K mainGlobals "_law_mix" = some (some (.ref f6))) (l6 : K.lookup f6 = some ⟨oc6, od6, .func (PySem.W.fnOf "_law_mix" "_law_mix" (defArgs s_l_mix) (defBody s_l_mix) (defScope s_l_mix) .none kV6 dc6 pm6 an6 cd6 ct6), sl6⟩) (c6 : PySem.W.codeIn K cd6 "_law_mix" = true) (k6 : PySem.W.keepIn K (.ref f6) = true)
    (a7 : PySem.W.nsIn K mainGlobals "_law_digit" = some (some (.ref f7))) (l7 : K.lookup f7 = some ⟨oc7, od7, .func (PySem.W.fnOf "_law_digit" "_law_digit" (defArgs s_l_digit) (defBody s_l_digit) (defScope s_l_digit) .none kV7 dc7 pm7 an7 cd7 ct7), sl7⟩) (c7 : PySem.W.codeIn K cd7 "_law_digit" = true) (k7 : PySem.W.keepIn K (.ref f7) = true)
    (a8 : PySem.W.nsIn K mainGlobals "_law_turned" = some (some (.ref f8))) (l8 : K.lookup f8 = some ⟨oc8, od8, .func (PySem.W.fnOf "_law_turned" "_law_turned" (defArgs s_l_turned) (defBody s_l_turned) (defScope s_l_turned) .none kV8 dc8 pm8 an8 cd8 ct8), sl8⟩) (c8 : PySem.W.codeIn K cd8 "_law_turned" = true) (k8 : PySem.W.keepIn K (.ref f8) = true)
    (a9 : PySem.W.nsIn K mainGlobals "_law_other" = some (some (.ref f9))) (l9 : K.lookup f9 = some ⟨oc9, od9, .func (PySem.W.fnOf "_law_other" "_law_other" (defArgs s_l_other) (defBody s_l_other) (defScope s_l_other) .none kV9 dc9 pm9 an9 cd9 ct9), sl9⟩) (c9 : PySem.W.codeIn K cd9 "_law_other" = true) (k9 : PySem.W.keepIn K (.ref f9) = true)
    (a10 : PySem.W.nsIn K mainGlobals "_law_place" = some (some (.ref f10))) (l10 : K.lookup f10 = some ⟨oc10, od10, .func (PySem.W.fnOf "_law_place" "_law_place" (defArgs s_l_place) (defBody s_l_place) (defScope s_l_place) .none kV10 dc10 pm10 an10 cd10 ct10), sl10⟩) (c10 : PySem.W.codeIn K cd10 "_law_place" = true) (k10 : PySem.W.keepIn K (.ref f10) = true)
    (a11 : PySem.W.nsIn K mainGlobals "_law_behind" = some (some (.ref f11))) (l11 : K.lookup f11 = some ⟨oc11, od11, .func (PySem.W.fnOf "_law_behind" "_law_behind" (defArgs s_l_behind) (defBody s_l_behind) (defScope s_l_behind) .none kV11 dc11 pm11 an11 cd11 ct11), sl11⟩) (c11 : PySem.W.codeIn K cd11 "_law_behind" = true) (k11 : PySem.W.keepIn K (.ref f11) = true)
    (a12 : PySem.W.nsIn K mainGlobals "_law_lands" = some (some (.ref f12))) (l12 : K.lookup f12 = some ⟨oc12, od12, .func (PySem.W.fnOf "_law_lands" "_law_lands" (defArgs s_l_lands) (defBody s_l_lands) (defScope s_l_lands) .none kV12 dc12 pm12 an12 cd12 ct12), sl12⟩) (c12 : PySem.W.codeIn K cd12 "_law_lands" = true) (k12 : PySem.W.keepIn K (.ref f12) = true)
    (a13 : PySem.W.nsIn K mainGlobals "_law_step" = some (some (.ref f13))) (l13 : K.lookup f13 = some ⟨oc13, od13, .func (PySem.W.fnOf "_law_step" "_law_step" (defArgs s_l_step) (defBody s_l_step) (defScope s_l_step) .none kV13 dc13 pm13 an13 cd13 ct13), sl13⟩) (c13 : PySem.W.codeIn K cd13 "_law_step" = true) (k13 : PySem.W.keepIn K (.ref f13) = true)
    (a14 : PySem.W.nsIn K mainGlobals "_law_renamed" = some (some (.ref f14))) (l14 : K.lookup f14 = some ⟨oc14, od14, .func (PySem.W.fnOf "_law_renamed" "_law_renamed" (defArgs s_l_renamed) (defBody s_l_renamed) (defScope s_l_renamed) .none kV14 dc14 pm14 an14 cd14 ct14), sl14⟩) (c14 : PySem.W.codeIn K cd14 "_law_renamed" = true) (k14 : PySem.W.keepIn K (.ref f14) = true)
    (a15 : PySem.W.nsIn K mainGlobals "_law_map" = some (some (.ref f15))) (l15 : K.lookup f15 = some ⟨oc15, od15, .func (PySem.W.fnOf "_law_map" "_law_map" (defArgs s_l_map) (defBody s_l_map) (defScope s_l_map) .none kV15 dc15 pm15 an15 cd15 ct15), sl15⟩) (c15 : PySem.W.codeIn K cd15 "_law_map" = true) (k15 : PySem.W.keepIn K (.ref f15) = true)
    (a16 : PySem.W.nsIn K mainGlobals "_law_kind" = some (some (.ref f16))) (l16 : K.lookup f16 = some ⟨oc16, od16, .func (PySem.W.fnOf "_law_kind" "_law_kind" (defArgs s_l_kind) (defBody s_l_kind) (defScope s_l_kind) .none kV16 dc16 pm16 an16 cd16 ct16), sl16⟩) (c16 : PySem.W.codeIn K cd16 "_law_kind" = true) (k16 : PySem.W.keepIn K (.ref f16) = true)
    (a17 : PySem.W.nsIn K mainGlobals "_law_refused" = some (some (.ref f17))) (l17 : K.lookup f17 = some ⟨oc17, od17, .func (PySem.W.fnOf "_law_refused" "_law_refused" (defArgs s_l_refused) (defBody s_l_refused) (defScope s_l_refused) .none kV17 dc17 pm17 an17 cd17 ct17), sl17⟩) (c17 : PySem.W.codeIn K cd17 "_law_refused" = true) (k17 : PySem.W.keepIn K (.ref f17) = true)
    (a18 : PySem.W.nsIn K mainGlobals "_law_is_map" = some (some (.ref f18))) (l18 : K.lookup f18 = some ⟨oc18, od18, .func (PySem.W.fnOf "_law_is_map" "_law_is_map" (defArgs s_l_is_map) (defBody s_l_is_map) (defScope s_l_is_map) .none kV18 dc18 pm18 an18 cd18 ct18), sl18⟩) (c18 : PySem.W.codeIn K cd18 "_law_is_map" = true) (k18 : PySem.W.keepIn K (.ref f18) = true)
    (a19 : PySem.W.nsIn K mainGlobals "_law_bent_orders" = some (some (.ref f19))) (l19 : K.lookup f19 = some ⟨oc19, od19, .func (PySem.W.fnOf "_law_bent_orders" "_law_bent_orders" (defArgs s_l_bent_orders) (defBody s_l_bent_orders) (defScope s_l_bent_orders) .none kV19 dc19 pm19 an19 cd19 ct19), sl19⟩) (c19 : PySem.W.codeIn K cd19 "_law_bent_orders" = true) (k19 : PySem.W.keepIn K (.ref f19) = true)
    (a20 : PySem.W.nsIn K mainGlobals "_law_bent" = some (some (.ref f20))) (l20 : K.lookup f20 = some ⟨oc20, od20, .func (PySem.W.fnOf "_law_bent" "_law_bent" (defArgs s_l_bent) (defBody s_l_bent) (defScope s_l_bent) .none kV20 dc20 pm20 an20 cd20 ct20), sl20⟩) (c20 : PySem.W.codeIn K cd20 "_law_bent" = true) (k20 : PySem.W.keepIn K (.ref f20) = true)
    (a21 : PySem.W.nsIn K mainGlobals "_law_row" = some (some (.ref f21))) (l21 : K.lookup f21 = some ⟨oc21, od21, .func (PySem.W.fnOf "_law_row" "_law_row" (defArgs s_l_row) (defBody s_l_row) (defScope s_l_row) .none kV21 dc21 pm21 an21 cd21 ct21), sl21⟩) (c21 : PySem.W.codeIn K cd21 "_law_row" = true) (k21 : PySem.W.keepIn K (.ref f21) = true)
    (a22 : PySem.W.nsIn K mainGlobals "_law_ring" = some (some (.ref f22))) (l22 : K.lookup f22 = some ⟨oc22, od22, .func (PySem.W.fnOf "_law_ring" "_law_ring" (defArgs s_l_ring) (defBody s_l_ring) (defScope s_l_ring) .none kV22 dc22 pm22 an22 cd22 ct22), sl22⟩) (c22 : PySem.W.codeIn K cd22 "_law_ring" = true) (k22 : PySem.W.keepIn K (.ref f22) = true)
    (a23 : PySem.W.nsIn K mainGlobals "law" = some (some (.ref f23))) (l23 : K.lookup f23 = some ⟨oc23, od23, .func (PySem.W.fnOf "law" "law" (defArgs s_law) (defBody s_law) (defScope s_law) .none kV23 dc23 pm23 an23 cd23 ct23), sl23⟩) (c23 : PySem.W.codeIn K cd23 "law" = true) (k23 : PySem.W.keepIn K (.ref f23) = true)
    (z0 : PySem.W.nsIn K mainGlobals "all" = some none)
    (z1 : PySem.W.nsIn K mainGlobals "enumerate" = some none)
    (z2 : PySem.W.nsIn K mainGlobals "int" = some none)
    (z3 : PySem.W.nsIn K mainGlobals "isinstance" = some none)
    (z4 : PySem.W.nsIn K mainGlobals "len" = some none)
    (z5 : PySem.W.nsIn K mainGlobals "list" = some none)
    (z6 : PySem.W.nsIn K mainGlobals "max" = some none)
    (z7 : PySem.W.nsIn K mainGlobals "range" = some none)
    (z8 : PySem.W.nsIn K mainGlobals "sorted" = some none)
    (z9 : PySem.W.nsIn K mainGlobals "zip" = some none)
    (g_MOST_PLACES : PySem.W.nsIn K mainGlobals "MOST_PLACES" = some (some (.int 200 q_MOST_PLACES)))
    (g_MOST_TIES : PySem.W.nsIn K mainGlobals "MOST_TIES" = some (some (.int 400 q_MOST_TIES)))
    (g_MOST_ENDS_AT_A_PLACE : PySem.W.nsIn K mainGlobals "MOST_ENDS_AT_A_PLACE" = some (some (.int 4 q_MOST_ENDS_AT_A_PLACE)))
    (m_BendError : PySem.W.nsIn K mainGlobals "BendError" = some (some (.ref c_BendError)))
    (m_NoMap : PySem.W.nsIn K mainGlobals "NoMap" = some (some (.ref c_NoMap)))
    (m_NotFlat : PySem.W.nsIn K mainGlobals "NotFlat" = some (some (.ref c_NotFlat)))
    (m_NoLand : PySem.W.nsIn K mainGlobals "NoLand" = some (some (.ref c_NoLand)))
    (m_NoNet : PySem.W.nsIn K mainGlobals "NoNet" = some (some (.ref c_NoNet)))
    (m_NoShape : PySem.W.nsIn K mainGlobals "NoShape" = some (some (.ref c_NoShape)))
    (m_NoLaid : PySem.W.nsIn K mainGlobals "NoLaid" = some (some (.ref c_NoLaid)))
    (m_NoText : PySem.W.nsIn K mainGlobals "NoText" = some (some (.ref c_NoText)))
    (m_NoPicture : PySem.W.nsIn K mainGlobals "NoPicture" = some (some (.ref c_NoPicture)))
    (m_NoRow : PySem.W.nsIn K mainGlobals "NoRow" = some (some (.ref c_NoRow)))
    (m_NoThing : PySem.W.nsIn K mainGlobals "NoThing" = some (some (.ref c_NoThing)))
    (x_in : PySem.W.excIn K c_NoMap [.type "ValueError", .type "Exception", .type "BaseException", .type "object"] "ValueError.__new__" = true)
    (x_up : L2.ClsU K c_NoMap c_BendError)
    (x_ve : PySem.W.subIn K (.ref c_NoMap) (.type "ValueError") = some true)
    (x_NoLaid : L2.ClsN K c_NoMap c_NoLaid)
    (x_NoLand : L2.ClsN K c_NoMap c_NoLand)
    (x_NoNet : L2.ClsN K c_NoMap c_NoNet)
    (x_NoPicture : L2.ClsN K c_NoMap c_NoPicture)
    (x_NoRow : L2.ClsN K c_NoMap c_NoRow)
    (x_NoShape : L2.ClsN K c_NoMap c_NoShape)
    (x_NoText : L2.ClsN K c_NoMap c_NoText)
    (x_NoThing : L2.ClsN K c_NoMap c_NoThing)
    (x_NotFlat : L2.ClsN K c_NoMap c_NotFlat)
    (x_K : L2.ExcK K c_NoMap)
    (z_ValueError : PySem.W.nsIn K mainGlobals "ValueError" = some none)
    : ∃ fd : FuncData, (∀ (s : Shared) (v : Value), BindsTo s fd ⟨[v], []⟩ [("_law_script", v)]) ∧ ∀ base : Heap, K.In base → base.Ns mainGlobals mg → FnOk l.prog w K mg base CX0 lawK fa fd ["_law_script"] (spLaw K) := by
  have e := hfa.symm.trans (PySem.W.mg_of X G a23)
  cases e
  have F0 := fun_mk (st := s_check_map) l0 c0 k0
  have b0 := F0.binds (ps := ["web"]) fun _ _ _ _ _ _ => len1 fun _ => rfl
  have F1 := fun_mk (st := s_ties_name_places) l1 c1 k1
  have b1 := F1.binds (ps := ["many", "ties"]) fun _ _ _ _ _ _ => len2 fun _ _ => rfl
  have F2 := fun_mk (st := s_orders_fit) l2 c2 k2
  have b2 := F2.binds (ps := ["web"]) fun _ _ _ _ _ _ => len1 fun _ => rfl
  have F3 := fun_mk (st := s_ends_at_places) l3 c3 k3
  have b3 := F3.binds (ps := ["many", "ties"]) fun _ _ _ _ _ _ => len2 fun _ _ => rfl
  have F4 := fun_mk (st := s_hangs_together) l4 c4 k4
  have b4 := F4.binds (ps := ["many", "ties"]) fun _ _ _ _ _ _ => len2 fun _ _ => rfl
  have F5 := fun_mk (st := s_l_cell_at) l5 c5 k5
  have b5 := F5.binds (ps := ["_law_script", "_law_k"]) fun _ _ _ _ _ _ => len2 fun _ _ => rfl
  have F6 := fun_mk (st := s_l_mix) l6 c6 k6
  have b6 := F6.binds (ps := ["_law_cell", "_law_k"]) fun _ _ _ _ _ _ => len2 fun _ _ => rfl
  have F7 := fun_mk (st := s_l_digit) l7 c7 k7
  have b7 := F7.binds (ps := ["_law_number", "_law_by", "_law_k"]) fun _ _ _ _ _ _ => len3 fun _ _ _ => rfl
  have F8 := fun_mk (st := s_l_turned) l8 c8 k8
  have b8 := F8.binds (ps := ["_law_number", "_law_many"]) fun _ _ _ _ _ _ => len2 fun _ _ => rfl
  have F9 := fun_mk (st := s_l_other) l9 c9 k9
  have b9 := F9.binds (ps := ["_law_end"]) fun _ _ _ _ _ _ => len1 fun _ => rfl
  have F10 := fun_mk (st := s_l_place) l10 c10 k10
  have b10 := F10.binds (ps := ["_law_ties", "_law_end"]) fun _ _ _ _ _ _ => len2 fun _ _ => rfl
  have F11 := fun_mk (st := s_l_behind) l11 c11 k11
  have b11 := F11.binds (ps := ["_law_ties", "_law_orders", "_law_end"]) fun _ _ _ _ _ _ => len3 fun _ _ _ => rfl
  have F12 := fun_mk (st := s_l_lands) l12 c12 k12
  have b12 := F12.binds (ps := ["_law_ties", "_law_orders"]) fun _ _ _ _ _ _ => len2 fun _ _ => rfl
  have F13 := fun_mk (st := s_l_step) l13 c13 k13
  have b13 := F13.binds (ps := ["_law_ties", "_law_orders", "_law_pick", "_law_most"]) fun _ _ _ _ _ _ => len4 fun _ _ _ _ => rfl
  have F14 := fun_mk (st := s_l_renamed) l14 c14 k14
  have b14 := F14.binds (ps := ["_law_ties", "_law_orders", "_law_cell"]) fun _ _ _ _ _ _ => len3 fun _ _ _ => rfl
  have F15 := fun_mk (st := s_l_map) l15 c15 k15
  have b15 := F15.binds (ps := ["_law_script", "_law_steps", "_law_most"]) fun _ _ _ _ _ _ => len3 fun _ _ _ => rfl
  have F16 := fun_mk (st := s_l_kind) l16 c16 k16
  have b16 := F16.binds (ps := ["_law_error"]) fun _ _ _ _ _ _ => len1 fun _ => rfl
  have F17 := fun_mk (st := s_l_refused) l17 c17 k17
  have b17 := F17.binds (ps := ["_law_web"]) fun _ _ _ _ _ _ => len1 fun _ => rfl
  have F18 := fun_mk (st := s_l_is_map) l18 c18 k18
  have b18 := F18.binds (ps := ["_law_web"]) fun _ _ _ _ _ _ => len1 fun _ => rfl
  have F19 := fun_mk (st := s_l_bent_orders) l19 c19 k19
  have b19 := F19.binds (ps := ["_law_orders", "_law_ends", "_law_pick"]) fun _ _ _ _ _ _ => len3 fun _ _ _ => rfl
  have F20 := fun_mk (st := s_l_bent) l20 c20 k20
  have b20 := F20.binds (ps := ["_law_web", "_law_pick"]) fun _ _ _ _ _ _ => len2 fun _ _ => rfl
  have F21 := fun_mk (st := s_l_row) l21 c21 k21
  have b21 := F21.binds (ps := ["_law_many"]) fun _ _ _ _ _ _ => len1 fun _ => rfl
  have F22 := fun_mk (st := s_l_ring) l22 c22 k22
  have b22 := F22.binds (ps := ["_law_many"]) fun _ _ _ _ _ _ => len1 fun _ => rfl
  have F23 := fun_mk (st := s_law) l23 c23 k23
  have b23 := F23.binds (ps := ["_law_script"]) fun _ _ _ _ _ _ => len1 fun _ => rfl
  have T : Txt K mg { q_MOST_PLACES := q_MOST_PLACES, q_MOST_TIES := q_MOST_TIES, q_MOST_ENDS_AT_A_PLACE := q_MOST_ENDS_AT_A_PLACE, c_BendError := c_BendError, c_NoMap := c_NoMap, c_NotFlat := c_NotFlat, c_NoLand := c_NoLand, c_NoNet := c_NoNet, c_NoShape := c_NoShape, c_NoLaid := c_NoLaid, c_NoText := c_NoText, c_NoPicture := c_NoPicture, c_NoRow := c_NoRow, c_NoThing := c_NoThing, a_check_map := f0, d_check_map := _, a_ties_name_places := f1, d_ties_name_places := _, a_orders_fit := f2, d_orders_fit := _, a_ends_at_places := f3, d_ends_at_places := _, a_hangs_together := f4, d_hangs_together := _, a_l_cell_at := f5, d_l_cell_at := _, a_l_mix := f6, d_l_mix := _, a_l_digit := f7, d_l_digit := _, a_l_turned := f8, d_l_turned := _, a_l_other := f9, d_l_other := _, a_l_place := f10, d_l_place := _, a_l_behind := f11, d_l_behind := _, a_l_lands := f12, d_l_lands := _, a_l_step := f13, d_l_step := _, a_l_renamed := f14, d_l_renamed := _, a_l_map := f15, d_l_map := _, a_l_kind := f16, d_l_kind := _, a_l_refused := f17, d_l_refused := _, a_l_is_map := f18, d_l_is_map := _, a_l_bent_orders := f19, d_l_bent_orders := _, a_l_bent := f20, d_l_bent := _, a_l_row := f21, d_l_row := _, a_l_ring := f22, d_l_ring := _, a_law := fa, d_law := _ } := { g_MOST_PLACES := PySem.W.mg_of X G g_MOST_PLACES, g_MOST_TIES := PySem.W.mg_of X G g_MOST_TIES, g_MOST_ENDS_AT_A_PLACE := PySem.W.mg_of X G g_MOST_ENDS_AT_A_PLACE, m_BendError := PySem.W.mg_of X G m_BendError, m_NoMap := PySem.W.mg_of X G m_NoMap, m_NotFlat := PySem.W.mg_of X G m_NotFlat, m_NoLand := PySem.W.mg_of X G m_NoLand, m_NoNet := PySem.W.mg_of X G m_NoNet, m_NoShape := PySem.W.mg_of X G m_NoShape, m_NoLaid := PySem.W.mg_of X G m_NoLaid, m_NoText := PySem.W.mg_of X G m_NoText, m_NoPicture := PySem.W.mg_of X G m_NoPicture, m_NoRow := PySem.W.mg_of X G m_NoRow, m_NoThing := PySem.W.mg_of X G m_NoThing, x_in := x_in, x_up := x_up, x_ve := x_ve, x_NoLaid := x_NoLaid, x_NoLand := x_NoLand, x_NoNet := x_NoNet, x_NoPicture := x_NoPicture, x_NoRow := x_NoRow, x_NoShape := x_NoShape, x_NoText := x_NoText, x_NoThing := x_NoThing, x_NotFlat := x_NotFlat, x_K := x_K, z_ValueError := PySem.W.mg_none_of X G z_ValueError, F_check_map := F0, m_check_map := PySem.W.mg_of X G a0, k_check_map := k0, b_check_map := b0, F_ties_name_places := F1, m_ties_name_places := PySem.W.mg_of X G a1, k_ties_name_places := k1, b_ties_name_places := b1, F_orders_fit := F2, m_orders_fit := PySem.W.mg_of X G a2, k_orders_fit := k2, b_orders_fit := b2, F_ends_at_places := F3, m_ends_at_places := PySem.W.mg_of X G a3, k_ends_at_places := k3, b_ends_at_places := b3, F_hangs_together := F4, m_hangs_together := PySem.W.mg_of X G a4, k_hangs_together := k4, b_hangs_together := b4, F_l_cell_at := F5, m_l_cell_at := PySem.W.mg_of X G a5, k_l_cell_at := k5, b_l_cell_at := b5, F_l_mix := F6, m_l_mix := PySem.W.mg_of X G a6, k_l_mix := k6, b_l_mix := b6, F_l_digit := F7, m_l_digit := PySem.W.mg_of X G a7, k_l_digit := k7, b_l_digit := b7, F_l_turned := F8, m_l_turned := PySem.W.mg_of X G a8, k_l_turned := k8, b_l_turned := b8, F_l_other := F9, m_l_other := PySem.W.mg_of X G a9, k_l_other := k9, b_l_other := b9, F_l_place := F10, m_l_place := PySem.W.mg_of X G a10, k_l_place := k10, b_l_place := b10, F_l_behind := F11, m_l_behind := PySem.W.mg_of X G a11, k_l_behind := k11, b_l_behind := b11, F_l_lands := F12, m_l_lands := PySem.W.mg_of X G a12, k_l_lands := k12, b_l_lands := b12, F_l_step := F13, m_l_step := PySem.W.mg_of X G a13, k_l_step := k13, b_l_step := b13, F_l_renamed := F14, m_l_renamed := PySem.W.mg_of X G a14, k_l_renamed := k14, b_l_renamed := b14, F_l_map := F15, m_l_map := PySem.W.mg_of X G a15, k_l_map := k15, b_l_map := b15, F_l_kind := F16, m_l_kind := PySem.W.mg_of X G a16, k_l_kind := k16, b_l_kind := b16, F_l_refused := F17, m_l_refused := PySem.W.mg_of X G a17, k_l_refused := k17, b_l_refused := b17, F_l_is_map := F18, m_l_is_map := PySem.W.mg_of X G a18, k_l_is_map := k18, b_l_is_map := b18, F_l_bent_orders := F19, m_l_bent_orders := PySem.W.mg_of X G a19, k_l_bent_orders := k19, b_l_bent_orders := b19, F_l_bent := F20, m_l_bent := PySem.W.mg_of X G a20, k_l_bent := k20, b_l_bent := b20, F_l_row := F21, m_l_row := PySem.W.mg_of X G a21, k_l_row := k21, b_l_row := b21, F_l_ring := F22, m_l_ring := PySem.W.mg_of X G a22, k_l_ring := k22, b_l_ring := b22, F_law := F23, m_law := PySem.W.mg_of X G a23, k_law := k23, b_law := b23, z_all := PySem.W.mg_none_of X G z0, z_enumerate := PySem.W.mg_none_of X G z1, z_int := PySem.W.mg_none_of X G z2, z_isinstance := PySem.W.mg_none_of X G z3, z_len := PySem.W.mg_none_of X G z4, z_list := PySem.W.mg_none_of X G z5, z_max := PySem.W.mg_none_of X G z6, z_range := PySem.W.mg_none_of X G z7, z_sorted := PySem.W.mg_none_of X G z8, z_zip := PySem.W.mg_none_of X G z9 }
  exact (xWP _ (fun s v => .of_eq rfl) (fun base _ _ => ok_law T))
theorem walk {l : PySem.W.OpenLaw} {q : Program} {loose : List Str} {XP : (Str → Option Value) → Heap → Prop} {YP : World → Heap → Prop} {d : DefRec} {K : Params → PySem.W.Frag} (hn : l.most = some 63) (hdf : d.params.defaults = [])
    (hY : ∀ (w : World) (h : Heap), YP w h → (K w.params).In h)
    (F : ∀ (w : World) (mg : Str → Option Value) (fa : Addr) (h : Heap), (K w.params).In h → h.Ns mainGlobals mg → mg d.name = some (.ref fa) →
      ∃ fd : FuncData, (∀ (s : Shared) (u : Value), BindsTo s fd ⟨[u], []⟩ [("_law_script", u)]) ∧ ∀ base : Heap, (K w.params).In base → base.Ns mainGlobals mg → FnOk l.prog w (K w.params) mg base CX0 lawK fa fd ["_law_script"] (spLaw (K w.params))) :
    PySem.W.WalkO q loose XP YP l.row.toRowW d [] (fun f vs => PySem.call f vs) :=
  L2.walk_of (n := 63) (k := lawK) (x := "_law_script") (CX := fun _ => CX0) (sp := fun w => spLaw (K w.params)) hn (by decide) hdf ⟨rfl, by decide, by decide⟩ hY F (fun _ _ a ns hl _ hS => (xWWPPP a ns rfl hS hl (fun _ => rfl))) fun _ _ _ _ _ z => z
end K01
def PySem.W.Fast.tw9371169283537920936 : Nat := 0
def PySem.W.Fast.tw4535451887544877966 : Nat := 0
def PySem.W.Fast.tw342580645669064748 : Nat := 0
def PySem.W.Fast.tw49851920052493841 : Nat := 0
def PySem.W.Fast.tw11447546651960930620 : Nat := 0
def PySem.W.Fast.tw58734338647937242 : Nat := 0
def PySem.W.Fast.tw2952669319377846672 : Nat := 0
def PySem.W.Fast.tw781664229336309378 : Nat := 0
def PySem.W.Fast.tw15371611690806424247 : Nat := 0
def PySem.W.Fast.tw1753909396774829885 : Nat := 0
def PySem.W.Fast.tw16808581605747922425 : Nat := 0
def PySem.W.Fast.tw13315408999066132823 : Nat := 0
def PySem.W.Fast.tw10714514956427421548 : Nat := 0
def PySem.W.Fast.tw2421390242802632329 : Nat := 0
def PySem.W.Fast.tw2354838254991763255 : Nat := 0
def PySem.W.Fast.tw13187645902509342275 : Nat := 0
def PySem.W.Fast.tw17526590813187991253 : Nat := 0
def PySem.W.Fast.tw6865688435450096785 : Nat := 0
def PySem.W.Fast.tw10861306522231696286 : Nat := 0
def PySem.W.Fast.tw860120406082009275 : Nat := 0
def PySem.W.Fast.tw17561148065738827089 : Nat := 0
def PySem.W.Fast.tw16497784498719075462 : Nat := 0
def PySem.W.Fast.tw1008259069304486097 : Nat := 0
def PySem.W.Fast.tw7236129809681925716 : Nat := 0
def PySem.W.Fast.tw11042753001782142858 : Nat := 0
def PySem.W.Fast.tw13696408354343054124 : Nat := 0
def PySem.W.Fast.tw1255372596545751245 : Nat := 0
def PySem.W.Fast.tw17058644009165730654 : Nat := 0
def PySem.W.Fast.tw5010603893859082107 : Nat := 0
def PySem.W.Fast.tw679570135717575243 : Nat := 0
def PySem.W.Fast.tw11021277045840009838 : Nat := 0
def PySem.W.Fast.tw4716015732514822094 : Nat := 0
def PySem.W.Fast.tw6294255356706736334 : Nat := 0
def PySem.W.Fast.tw15215550593325683660 : Nat := 0
def PySem.W.Fast.tw1170784509824805694 : Nat := 0
def PySem.W.Fast.tw16435195728630252869 : Nat := 0
def PySem.W.Fast.tw5666168073098876167 : Nat := 0
def PySem.W.Fast.tw8519086891088621090 : Nat := 0
def PySem.W.Fast.tw15429031618808961102 : Nat := 0
def PySem.W.Fast.tw2563472279368340962 : Nat := 0
def PySem.W.Fast.tw155000331895435341 : Nat := 0
def PySem.W.Fast.tw13741485301728337711 : Nat := 0
def PySem.W.Fast.tw8135943993535930251 : Nat := 0
def PySem.W.Fast.tw18060614036857844616 : Nat := 0
open PySem PySem.W PyProof.Rows
set_option maxRecDepth 100000 in
set_option maxHeartbeats 0 in
theorem PySem.Challenge.cw_fewbends_k01_maps_looked_at_holds : PySem.Challenge.rw_fewbends_k01_maps_looked_at.Holds := by
  w_on; o_law; k_head; (case hw => w_witness2)
  k_fill
  refine K01.walk (l := PySem.Challenge.rw_fewbends_k01_maps_looked_at) rfl rfl (fun w h Y => PySem.W.kIn_of Y) ?F
  case F =>
    intro w mg fa h KX G hmg
    refine' K01.all_mk KX G hmg ?a0 ?l0 ?c0 ?k0 ?a1 ?l1 ?c1 ?k1 ?a2 ?l2 ?c2 ?k2 ?a3 ?l3 ?c3 ?k3 ?a4 ?l4 ?c4 ?k4 ?a5 ?l5 ?c5 ?k5 ?a6 ?l6 ?c6 ?k6 ?a7 ?l7 ?c7 ?k7 ?a8 ?l8 ?c8 ?k8 ?a9 ?l9 ?c9 ?k9 ?a10 ?l10 ?c10 ?k10 ?a11 ?l11 ?c11 ?k11 ?a12 ?l12 ?c12 ?k12 ?a13 ?l13 ?c13 ?k13 ?a14 ?l14 ?c14 ?k14 ?a15 ?l15 ?c15 ?k15 ?a16 ?l16 ?c16 ?k16 ?a17 ?l17 ?c17 ?k17 ?a18 ?l18 ?c18 ?k18 ?a19 ?l19 ?c19 ?k19 ?a20 ?l20 ?c20 ?k20 ?a21 ?l21 ?c21 ?k21 ?a22 ?l22 ?c22 ?k22 ?a23 ?l23 ?c23 ?k23 ?z0 ?z1 ?z2 ?z3 ?z4 ?z5 ?z6 ?z7 ?z8 ?z9 ?g_MOST_PLACES ?g_MOST_TIES ?g_MOST_ENDS_AT_A_PLACE ?m_BendError ?m_NoMap ?m_NotFlat ?m_NoLand ?m_NoNet ?m_NoShape ?m_NoLaid ?m_NoText ?m_NoPicture ?m_NoRow ?m_NoThing ?x_in ?x_up ?x_ve ?x_NoLaid ?x_NoLand ?x_NoNet ?x_NoPicture ?x_NoRow ?x_NoShape ?x_NoText ?x_NoThing ?x_NotFlat ?x_K ?z_ValueError
    (case a0 => k_is); (case l0 => k_is); (case c0 => k_is); (case k0 => k_is)
    (case a1 => k_is); (case l1 => k_is); (case c1 => k_is); (case k1 => k_is)
    (case a2 => k_is); (case l2 => k_is); (case c2 => k_is); (case k2 => k_is)
    (case a3 => k_is); (case l3 => k_is); (case c3 => k_is); (case k3 => k_is)
    (case a4 => k_is); (case l4 => k_is); (case c4 => k_is); (case k4 => k_is)
    (case a5 => k_is); (case l5 => k_is); (case c5 => k_is); (case k5 => k_is)
    (case a6 => k_is); (case l6 => k_is); (case c6 => k_is); (case k6 => k_is)
    (case a7 => k_is); (case l7 => k_is); (case c7 => k_is); (case k7 => k_is)
    (case a8 => k_is); (case l8 => k_is); (case c8 => k_is); (case k8 => k_is)
    (case a9 => k_is); (case l9 => k_is); (case c9 => k_is); (case k9 => k_is)
    (case a10 => k_is); (case l10 => k_is); (case c10 => k_is); (case k10 => k_is)
    (case a11 => k_is); (case l11 => k_is); (case c11 => k_is); (case k11 => k_is)
    (case a12 => k_is); (case l12 => k_is); (case c12 => k_is); (case k12 => k_is)
    (case a13 => k_is); (case l13 => k_is); (case c13 => k_is); (case k13 => k_is)
    (case a14 => k_is); (case l14 => k_is); (case c14 => k_is); (case k14 => k_is)
    (case a15 => k_is); (case l15 => k_is); (case c15 => k_is); (case k15 => k_is)
    (case a16 => k_is); (case l16 => k_is); (case c16 => k_is); (case k16 => k_is)
    (case a17 => k_is); (case l17 => k_is); (case c17 => k_is); (case k17 => k_is)
    (case a18 => k_is); (case l18 => k_is); (case c18 => k_is); (case k18 => k_is)
    (case a19 => k_is); (case l19 => k_is); (case c19 => k_is); (case k19 => k_is)
    (case a20 => k_is); (case l20 => k_is); (case c20 => k_is); (case k20 => k_is)
    (case a21 => k_is); (case l21 => k_is); (case c21 => k_is); (case k21 => k_is)
    (case a22 => k_is); (case l22 => k_is); (case c22 => k_is); (case k22 => k_is)
    (case a23 => k_is); (case l23 => k_is); (case c23 => k_is); (case k23 => k_is)
    (case z0 => k_is); (case z1 => k_is); (case z2 => k_is); (case z3 => k_is); (case z4 => k_is); (case z5 => k_is); (case z6 => k_is); (case z7 => k_is); (case z8 => k_is); (case z9 => k_is)
    (case g_MOST_PLACES => k_is)
    (case g_MOST_TIES => k_is)
    (case g_MOST_ENDS_AT_A_PLACE => k_is)
    (case m_BendError => k_is)
    (case m_NoMap => k_is)
    (case m_NotFlat => k_is)
    (case m_NoLand => k_is)
    (case m_NoNet => k_is)
    (case m_NoShape => k_is)
    (case m_NoLaid => k_is)
    (case m_NoText => k_is)
    (case m_NoPicture => k_is)
    (case m_NoRow => k_is)
    (case m_NoThing => k_is)
    (case x_in => k_exc)
    (case x_up => exact ⟨by k_is, by k_is, by k_is, by k_is⟩)
    (case x_ve => k_is)
    (case x_NoLaid => exact ⟨by k_is, by k_is, by k_is, by decide⟩)
    (case x_NoLand => exact ⟨by k_is, by k_is, by k_is, by decide⟩)
    (case x_NoNet => exact ⟨by k_is, by k_is, by k_is, by decide⟩)
    (case x_NoPicture => exact ⟨by k_is, by k_is, by k_is, by decide⟩)
    (case x_NoRow => exact ⟨by k_is, by k_is, by k_is, by decide⟩)
    (case x_NoShape => exact ⟨by k_is, by k_is, by k_is, by decide⟩)
    (case x_NoText => exact ⟨by k_is, by k_is, by k_is, by decide⟩)
    (case x_NoThing => exact ⟨by k_is, by k_is, by k_is, by decide⟩)
    (case x_NotFlat => exact ⟨by k_is, by k_is, by k_is, by decide⟩)
    (case x_K => exact ⟨by k_is, by k_is, by k_is, by k_is, by k_is, by k_is⟩)
    (case z_ValueError => k_is)

