import PyProof.Rows.All
import Wide.All
import OpenK.AllK
import Wide.FinOn
import Lean
import PyProof.EqAt
import PyProof.EqKinds
import PyProof.TupleCall
import KE.BitLaws
import KE.KSortTup
import PyProof.MeetsSeq3
import PyProof.FactsAll.list_2
import PyProof.Rows.SortRuns
import PyProof.Rows.SortShell
import PyProof.Rows.SortRev
import PyProof.Rows.SortWalk
import PyProof.FactsAll.tuple_1
import PyProof.DictItems
import KE.KDictSum
import PyProof.SetKind
import PyProof.TupleKey
import PyProof.IsRules
import PyProof.DictKinds
import PyProof.Rows.SetFrom
import PyProof.FactsAll.set_1
import PyProof.FactsAll.set_2
import PySem.Challenge.RW_fewbends_k76_pictures
section
variable {A B C D E F G H I J : Type}
theorem xWW {R : A → B → Prop} (a : A) (b : B) (r : R a b) : ∃ a b, R a b := ⟨a, b, r⟩
theorem xPP {K L R : Prop} (k : K) (l : L) (r : R) : K ∧ L ∧ R := ⟨k, l, r⟩
theorem xPW {K : Prop} {R : A → Prop} (k : K) (a : A) (r : R a) : K ∧ ∃ a, R a := ⟨k, a, r⟩
theorem xWP {K R : A → Prop} (a : A) (k : K a) (r : R a) : ∃ a, K a ∧ R a := ⟨a, k, r⟩
theorem xWWP {K R : A → B → Prop} (a : A) (b : B) (k : K a b) (r : R a b) : ∃ a b, K a b ∧ R a b := ⟨a, b, k, r⟩
theorem xPPP {K L M R : Prop} (k : K) (l : L) (m : M) (r : R) : K ∧ L ∧ M ∧ R := ⟨k, l, m, r⟩
theorem xWPP {K L R : A → Prop} (a : A) (k : K a) (l : L a) (r : R a) : ∃ a, K a ∧ L a ∧ R a := ⟨a, k, l, r⟩
theorem xWWW {R : A → B → C → Prop} (a : A) (b : B) (c : C) (r : R a b c) : ∃ a b c, R a b c := ⟨a, b, c, r⟩
theorem xPWP {K : Prop} {L R : A → Prop} (k : K) (a : A) (l : L a) (r : R a) : K ∧ ∃ a, L a ∧ R a := ⟨k, a, l, r⟩
theorem xWWWW {R : A → B → C → D → Prop} (a : A) (b : B) (c : C) (d : D) (r : R a b c d) : ∃ a b c d, R a b c d := ⟨a, b, c, d, r⟩
theorem xWWPP {K L R : A → B → Prop} (a : A) (b : B) (k : K a b) (l : L a b) (r : R a b) : ∃ a b, K a b ∧ L a b ∧ R a b := ⟨a, b, k, l, r⟩
theorem xPPWW {K L : Prop} {R : A → B → Prop} (k : K) (l : L) (a : A) (b : B) (r : R a b) : K ∧ L ∧ ∃ a b, R a b := ⟨k, l, a, b, r⟩
theorem xPWPP {K : Prop} {L M R : A → Prop} (k : K) (a : A) (l : L a) (m : M a) (r : R a) : K ∧ ∃ a, L a ∧ M a ∧ R a := ⟨k, a, l, m, r⟩
theorem xPPWP {K L : Prop} {M R : A → Prop} (k : K) (l : L) (a : A) (m : M a) (r : R a) : K ∧ L ∧ ∃ a, M a ∧ R a := ⟨k, l, a, m, r⟩
theorem xWWWP {K R : A → B → C → Prop} (a : A) (b : B) (c : C) (k : K a b c) (r : R a b c) : ∃ a b c, K a b c ∧ R a b c := ⟨a, b, c, k, r⟩
theorem xPWWW {K : Prop} {R : A → B → C → Prop} (k : K) (a : A) (b : B) (c : C) (r : R a b c) : K ∧ ∃ a b c, R a b c := ⟨k, a, b, c, r⟩
theorem xWPWP {K : A → Prop} {L R : A → B → Prop} (a : A) (k : K a) (b : B) (l : L a b) (r : R a b) : ∃ a, K a ∧ ∃ b, L a b ∧ R a b := ⟨a, k, b, l, r⟩
theorem xWPWW {K : A → Prop} {R : A → B → C → Prop} (a : A) (k : K a) (b : B) (c : C) (r : R a b c) : ∃ a, K a ∧ ∃ b c, R a b c := ⟨a, k, b, c, r⟩
theorem xPWWP {K : Prop} {L R : A → B → Prop} (k : K) (a : A) (b : B) (l : L a b) (r : R a b) : K ∧ ∃ a b, L a b ∧ R a b := ⟨k, a, b, l, r⟩
theorem xWPPP {K L M R : A → Prop} (a : A) (k : K a) (l : L a) (m : M a) (r : R a) : ∃ a, K a ∧ L a ∧ M a ∧ R a := ⟨a, k, l, m, r⟩
theorem xPPPP {K L M N R : Prop} (k : K) (l : L) (m : M) (n : N) (r : R) : K ∧ L ∧ M ∧ N ∧ R := ⟨k, l, m, n, r⟩
theorem xWPPWP {K L : A → Prop} {M R : A → B → Prop} (a : A) (k : K a) (l : L a) (b : B) (m : M a b) (r : R a b) : ∃ a, K a ∧ L a ∧ ∃ b, M a b ∧ R a b := xWP a k (xPWP l b m r)
theorem xPPPPP {K L M N O R : Prop} (k : K) (l : L) (m : M) (n : N) (o : O) (r : R) : K ∧ L ∧ M ∧ N ∧ O ∧ R := xPP k l (xPPP m n o r)
theorem xPPPWP {K L M : Prop} {N R : A → Prop} (k : K) (l : L) (m : M) (a : A) (n : N a) (r : R a) : K ∧ L ∧ M ∧ ∃ a, N a ∧ R a := xPP k l (xPWP m a n r)
theorem xPPWPP {K L : Prop} {M N R : A → Prop} (k : K) (l : L) (a : A) (m : M a) (n : N a) (r : R a) : K ∧ L ∧ ∃ a, M a ∧ N a ∧ R a := xPP k l (xWPP a m n r)
theorem xWWPPP {K L M R : A → B → Prop} (a : A) (b : B) (k : K a b) (l : L a b) (m : M a b) (r : R a b) : ∃ a b, K a b ∧ L a b ∧ M a b ∧ R a b := xWWP a b k (xPP l m r)
theorem xWWPWP {K : A → B → Prop} {L R : A → B → C → Prop} (a : A) (b : B) (k : K a b) (c : C) (l : L a b c) (r : R a b c) : ∃ a b, K a b ∧ ∃ c, L a b c ∧ R a b c := xWWP a b k (xWP c l r)
theorem xWWWWW {R : A → B → C → D → E → Prop} (a : A) (b : B) (c : C) (d : D) (e : E) (r : R a b c d e) : ∃ a b c d e, R a b c d e := xWW a b (xWWW c d e r)
theorem xWWWWP {K R : A → B → C → D → Prop} (a : A) (b : B) (c : C) (d : D) (k : K a b c d) (r : R a b c d) : ∃ a b c d, K a b c d ∧ R a b c d := xWW a b (xWWP c d k r)
theorem xWPWPP {K : A → Prop} {L M R : A → B → Prop} (a : A) (k : K a) (b : B) (l : L a b) (m : M a b) (r : R a b) : ∃ a, K a ∧ ∃ b, L a b ∧ M a b ∧ R a b := xWP a k (xWPP b l m r)
theorem xPWWPP {K : Prop} {L M R : A → B → Prop} (k : K) (a : A) (b : B) (l : L a b) (m : M a b) (r : R a b) : K ∧ ∃ a b, L a b ∧ M a b ∧ R a b := xPW k a (xWPP b l m r)
theorem xPWPPP {K : Prop} {L M N R : A → Prop} (k : K) (a : A) (l : L a) (m : M a) (n : N a) (r : R a) : K ∧ ∃ a, L a ∧ M a ∧ N a ∧ R a := xPWP k a l (xPP m n r)
theorem xWWWPP {K L R : A → B → C → Prop} (a : A) (b : B) (c : C) (k : K a b c) (l : L a b c) (r : R a b c) : ∃ a b c, K a b c ∧ L a b c ∧ R a b c := xWW a b (xWPP c k l r)
theorem xPWPWP {K : Prop} {L : A → Prop} {M R : A → B → Prop} (k : K) (a : A) (l : L a) (b : B) (m : M a b) (r : R a b) : K ∧ ∃ a, L a ∧ ∃ b, M a b ∧ R a b := xPWP k a l (xWP b m r)
theorem xWWPWWP {K : A → B → Prop} {L R : A → B → C → D → Prop} (a : A) (b : B) (k : K a b) (c : C) (d : D) (l : L a b c d) (r : R a b c d) : ∃ a b, K a b ∧ ∃ c d, L a b c d ∧ R a b c d := xWWP a b k (xWWP c d l r)
theorem xPWWPPP {K : Prop} {L M N R : A → B → Prop} (k : K) (a : A) (b : B) (l : L a b) (m : M a b) (n : N a b) (r : R a b) : K ∧ ∃ a b, L a b ∧ M a b ∧ N a b ∧ R a b := xPWWP k a b l (xPP m n r)
theorem xWWPPPP {K L M N R : A → B → Prop} (a : A) (b : B) (k : K a b) (l : L a b) (m : M a b) (n : N a b) (r : R a b) : ∃ a b, K a b ∧ L a b ∧ M a b ∧ N a b ∧ R a b := xWWP a b k (xPPP l m n r)
theorem xPWPPWP {K : Prop} {L M : A → Prop} {N R : A → B → Prop} (k : K) (a : A) (l : L a) (m : M a) (b : B) (n : N a b) (r : R a b) : K ∧ ∃ a, L a ∧ M a ∧ ∃ b, N a b ∧ R a b := xPWP k a l (xPWP m b n r)
theorem xWWWPPP {K L M R : A → B → C → Prop} (a : A) (b : B) (c : C) (k : K a b c) (l : L a b c) (m : M a b c) (r : R a b c) : ∃ a b c, K a b c ∧ L a b c ∧ M a b c ∧ R a b c := xWWW a b c (xPPP k l m r)
theorem xPPPPWP {K L M N : Prop} {O R : A → Prop} (k : K) (l : L) (m : M) (n : N) (a : A) (o : O a) (r : R a) : K ∧ L ∧ M ∧ N ∧ ∃ a, O a ∧ R a := xPPP k l m (xPWP n a o r)
theorem xWWPPWP {K L : A → B → Prop} {M R : A → B → C → Prop} (a : A) (b : B) (k : K a b) (l : L a b) (c : C) (m : M a b c) (r : R a b c) : ∃ a b, K a b ∧ L a b ∧ ∃ c, M a b c ∧ R a b c := xWWP a b k (xPWP l c m r)
theorem xPPPWPP {K L M : Prop} {N O R : A → Prop} (k : K) (l : L) (m : M) (a : A) (n : N a) (o : O a) (r : R a) : K ∧ L ∧ M ∧ ∃ a, N a ∧ O a ∧ R a := xPPP k l m (xWPP a n o r)
theorem xPPWWPP {K L : Prop} {M N R : A → B → Prop} (k : K) (l : L) (a : A) (b : B) (m : M a b) (n : N a b) (r : R a b) : K ∧ L ∧ ∃ a b, M a b ∧ N a b ∧ R a b := xPP k l (xWWPP a b m n r)
theorem xWPWWPP {K : A → Prop} {L M R : A → B → C → Prop} (a : A) (k : K a) (b : B) (c : C) (l : L a b c) (m : M a b c) (r : R a b c) : ∃ a, K a ∧ ∃ b c, L a b c ∧ M a b c ∧ R a b c := xWP a k (xWWPP b c l m r)
theorem xWWWWPP {K L R : A → B → C → D → Prop} (a : A) (b : B) (c : C) (d : D) (k : K a b c d) (l : L a b c d) (r : R a b c d) : ∃ a b c d, K a b c d ∧ L a b c d ∧ R a b c d := xWWW a b c (xWPP d k l r)
theorem xWWWWWW {R : A → B → C → D → E → F → Prop} (a : A) (b : B) (c : C) (d : D) (e : E) (f : F) (r : R a b c d e f) : ∃ a b c d e f, R a b c d e f := xWWW a b c (xWWW d e f r)
theorem xWPWPWP {K : A → Prop} {L : A → B → Prop} {M R : A → B → C → Prop} (a : A) (k : K a) (b : B) (l : L a b) (c : C) (m : M a b c) (r : R a b c) : ∃ a, K a ∧ ∃ b, L a b ∧ ∃ c, M a b c ∧ R a b c := xWP a k (xWPWP b l c m r)
theorem xPPWPPP {K L : Prop} {M N O R : A → Prop} (k : K) (l : L) (a : A) (m : M a) (n : N a) (o : O a) (r : R a) : K ∧ L ∧ ∃ a, M a ∧ N a ∧ O a ∧ R a := xPP k l (xWPPP a m n o r)
theorem xPPPPPP {K L M N O P R : Prop} (k : K) (l : L) (m : M) (n : N) (o : O) (p : P) (r : R) : K ∧ L ∧ M ∧ N ∧ O ∧ P ∧ R := xPPP k l m (xPPP n o p r)
theorem xPPWPWP {K L : Prop} {M : A → Prop} {N R : A → B → Prop} (k : K) (l : L) (a : A) (m : M a) (b : B) (n : N a b) (r : R a b) : K ∧ L ∧ ∃ a, M a ∧ ∃ b, N a b ∧ R a b := xPP k l (xWPWP a m b n r)
theorem xPWPPPP {K : Prop} {L M N O R : A → Prop} (k : K) (a : A) (l : L a) (m : M a) (n : N a) (o : O a) (r : R a) : K ∧ ∃ a, L a ∧ M a ∧ N a ∧ O a ∧ R a := xPWP k a l (xPPP m n o r)
theorem xWPWPWPP {K : A → Prop} {L : A → B → Prop} {M N R : A → B → C → Prop} (a : A) (k : K a) (b : B) (l : L a b) (c : C) (m : M a b c) (n : N a b c) (r : R a b c) : ∃ a, K a ∧ ∃ b, L a b ∧ ∃ c, M a b c ∧ N a b c ∧ R a b c := xWPWP a k b l (xWPP c m n r)
theorem xPWPWWPP {K : Prop} {L : A → Prop} {M N R : A → B → C → Prop} (k : K) (a : A) (l : L a) (b : B) (c : C) (m : M a b c) (n : N a b c) (r : R a b c) : K ∧ ∃ a, L a ∧ ∃ b c, M a b c ∧ N a b c ∧ R a b c := xPWP k a l (xWWPP b c m n r)
theorem xWPPWPWP {K L : A → Prop} {M : A → B → Prop} {N R : A → B → C → Prop} (a : A) (k : K a) (l : L a) (b : B) (m : M a b) (c : C) (n : N a b c) (r : R a b c) : ∃ a, K a ∧ L a ∧ ∃ b, M a b ∧ ∃ c, N a b c ∧ R a b c := xWPP a k l (xWPWP b m c n r)
theorem xWWWPPPP {K L M N R : A → B → C → Prop} (a : A) (b : B) (c : C) (k : K a b c) (l : L a b c) (m : M a b c) (n : N a b c) (r : R a b c) : ∃ a b c, K a b c ∧ L a b c ∧ M a b c ∧ N a b c ∧ R a b c := xWWWP a b c k (xPPP l m n r)
theorem xWWWWPPP {K L M R : A → B → C → D → Prop} (a : A) (b : B) (c : C) (d : D) (k : K a b c d) (l : L a b c d) (m : M a b c d) (r : R a b c d) : ∃ a b c d, K a b c d ∧ L a b c d ∧ M a b c d ∧ R a b c d := xWWW a b c (xWPPP d k l m r)
theorem xPPPPPPP {K L M N O P Q R : Prop} (k : K) (l : L) (m : M) (n : N) (o : O) (p : P) (q : Q) (r : R) : K ∧ L ∧ M ∧ N ∧ O ∧ P ∧ Q ∧ R := xPPP k l m (xPPPP n o p q r)
theorem xWWPWWPP {K : A → B → Prop} {L M R : A → B → C → D → Prop} (a : A) (b : B) (k : K a b) (c : C) (d : D) (l : L a b c d) (m : M a b c d) (r : R a b c d) : ∃ a b, K a b ∧ ∃ c d, L a b c d ∧ M a b c d ∧ R a b c d := xWWP a b k (xWWPP c d l m r)
theorem xPPPPWPP {K L M N : Prop} {O P R : A → Prop} (k : K) (l : L) (m : M) (n : N) (a : A) (o : O a) (p : P a) (r : R a) : K ∧ L ∧ M ∧ N ∧ ∃ a, O a ∧ P a ∧ R a := xPPP k l m (xPWPP n a o p r)
theorem xPWWPPPP {K : Prop} {L M N O R : A → B → Prop} (k : K) (a : A) (b : B) (l : L a b) (m : M a b) (n : N a b) (o : O a b) (r : R a b) : K ∧ ∃ a b, L a b ∧ M a b ∧ N a b ∧ O a b ∧ R a b := xPWWP k a b l (xPPP m n o r)
theorem xPWPWPWP {K : Prop} {L : A → Prop} {M : A → B → Prop} {N R : A → B → C → Prop} (k : K) (a : A) (l : L a) (b : B) (m : M a b) (c : C) (n : N a b c) (r : R a b c) : K ∧ ∃ a, L a ∧ ∃ b, M a b ∧ ∃ c, N a b c ∧ R a b c := xPWP k a l (xWPWP b m c n r)
theorem xWWWWWWW {R : A → B → C → D → E → F → G → Prop} (a : A) (b : B) (c : C) (d : D) (e : E) (f : F) (g : G) (r : R a b c d e f g) : ∃ a b c d e f g, R a b c d e f g := xWWW a b c (xWWWW d e f g r)
theorem xWWPPPWP {K L M : A → B → Prop} {N R : A → B → C → Prop} (a : A) (b : B) (k : K a b) (l : L a b) (m : M a b) (c : C) (n : N a b c) (r : R a b c) : ∃ a b, K a b ∧ L a b ∧ M a b ∧ ∃ c, N a b c ∧ R a b c := xWWP a b k (xPPWP l m c n r)
theorem xWWPPPPP {K L M N O R : A → B → Prop} (a : A) (b : B) (k : K a b) (l : L a b) (m : M a b) (n : N a b) (o : O a b) (r : R a b) : ∃ a b, K a b ∧ L a b ∧ M a b ∧ N a b ∧ O a b ∧ R a b := xWWP a b k (xPPPP l m n o r)
theorem xPWWPPWP {K : Prop} {L M : A → B → Prop} {N R : A → B → C → Prop} (k : K) (a : A) (b : B) (l : L a b) (m : M a b) (c : C) (n : N a b c) (r : R a b c) : K ∧ ∃ a b, L a b ∧ M a b ∧ ∃ c, N a b c ∧ R a b c := xPWWP k a b l (xPWP m c n r)
theorem xWPWWPPP {K : A → Prop} {L M N R : A → B → C → Prop} (a : A) (k : K a) (b : B) (c : C) (l : L a b c) (m : M a b c) (n : N a b c) (r : R a b c) : ∃ a, K a ∧ ∃ b c, L a b c ∧ M a b c ∧ N a b c ∧ R a b c := xWP a k (xWWPPP b c l m n r)
theorem xPPPPPWP {K L M N O : Prop} {P R : A → Prop} (k : K) (l : L) (m : M) (n : N) (o : O) (a : A) (p : P a) (r : R a) : K ∧ L ∧ M ∧ N ∧ O ∧ ∃ a, P a ∧ R a := xPPP k l m (xPPWP n o a p r)
theorem xWWPPWPP {K L : A → B → Prop} {M N R : A → B → C → Prop} (a : A) (b : B) (k : K a b) (l : L a b) (c : C) (m : M a b c) (n : N a b c) (r : R a b c) : ∃ a b, K a b ∧ L a b ∧ ∃ c, M a b c ∧ N a b c ∧ R a b c := xWWP a b k (xPWPP l c m n r)
theorem xPPPWPPP {K L M : Prop} {N O P R : A → Prop} (k : K) (l : L) (m : M) (a : A) (n : N a) (o : O a) (p : P a) (r : R a) : K ∧ L ∧ M ∧ ∃ a, N a ∧ O a ∧ P a ∧ R a := xPPP k l m (xWPPP a n o p r)
theorem xWPWPPWP {K : A → Prop} {L M : A → B → Prop} {N R : A → B → C → Prop} (a : A) (k : K a) (b : B) (l : L a b) (m : M a b) (c : C) (n : N a b c) (r : R a b c) : ∃ a, K a ∧ ∃ b, L a b ∧ M a b ∧ ∃ c, N a b c ∧ R a b c := xWPWP a k b l (xPWP m c n r)
theorem xPPWWPPP {K L : Prop} {M N O R : A → B → Prop} (k : K) (l : L) (a : A) (b : B) (m : M a b) (n : N a b) (o : O a b) (r : R a b) : K ∧ L ∧ ∃ a b, M a b ∧ N a b ∧ O a b ∧ R a b := xPP k l (xWWPPP a b m n o r)
theorem xPPWPPPP {K L : Prop} {M N O P R : A → Prop} (k : K) (l : L) (a : A) (m : M a) (n : N a) (o : O a) (p : P a) (r : R a) : K ∧ L ∧ ∃ a, M a ∧ N a ∧ O a ∧ P a ∧ R a := xPPWP k l a m (xPPP n o p r)
theorem xPWPWPPP {K : Prop} {L : A → Prop} {M N O R : A → B → Prop} (k : K) (a : A) (l : L a) (b : B) (m : M a b) (n : N a b) (o : O a b) (r : R a b) : K ∧ ∃ a, L a ∧ ∃ b, M a b ∧ N a b ∧ O a b ∧ R a b := xPWP k a l (xWPPP b m n o r)
theorem xPPWPWWPP {K L : Prop} {M : A → Prop} {N O R : A → B → C → Prop} (k : K) (l : L) (a : A) (m : M a) (b : B) (c : C) (n : N a b c) (o : O a b c) (r : R a b c) : K ∧ L ∧ ∃ a, M a ∧ ∃ b c, N a b c ∧ O a b c ∧ R a b c := xPPWP k l a m (xWWPP b c n o r)
theorem xPPWWWWPP {K L : Prop} {M N R : A → B → C → D → Prop} (k : K) (l : L) (a : A) (b : B) (c : C) (d : D) (m : M a b c d) (n : N a b c d) (r : R a b c d) : K ∧ L ∧ ∃ a b c d, M a b c d ∧ N a b c d ∧ R a b c d := xPPWW k l a b (xWWPP c d m n r)
theorem xWWWWWWWP {K R : A → B → C → D → E → F → G → Prop} (a : A) (b : B) (c : C) (d : D) (e : E) (f : F) (g : G) (k : K a b c d e f g) (r : R a b c d e f g) : ∃ a b c d e f g, K a b c d e f g ∧ R a b c d e f g := xWWWW a b c d (xWWWP e f g k r)
theorem xWPWWPPWP {K : A → Prop} {L M : A → B → C → Prop} {N R : A → B → C → D → Prop} (a : A) (k : K a) (b : B) (c : C) (l : L a b c) (m : M a b c) (d : D) (n : N a b c d) (r : R a b c d) : ∃ a, K a ∧ ∃ b c, L a b c ∧ M a b c ∧ ∃ d, N a b c d ∧ R a b c d := xWPWW a k b c (xPPWP l m d n r)
theorem xWPWWWWWP {K : A → Prop} {L R : A → B → C → D → E → F → Prop} (a : A) (k : K a) (b : B) (c : C) (d : D) (e : E) (f : F) (l : L a b c d e f) (r : R a b c d e f) : ∃ a, K a ∧ ∃ b c d e f, L a b c d e f ∧ R a b c d e f := xWPWW a k b c (xWWWP d e f l r)
theorem xWPPWPWPP {K L : A → Prop} {M : A → B → Prop} {N O R : A → B → C → Prop} (a : A) (k : K a) (l : L a) (b : B) (m : M a b) (c : C) (n : N a b c) (o : O a b c) (r : R a b c) : ∃ a, K a ∧ L a ∧ ∃ b, M a b ∧ ∃ c, N a b c ∧ O a b c ∧ R a b c := xWPP a k l (xWPWPP b m c n o r)
theorem xPWPWPWWP {K : Prop} {L : A → Prop} {M : A → B → Prop} {N R : A → B → C → D → Prop} (k : K) (a : A) (l : L a) (b : B) (m : M a b) (c : C) (d : D) (n : N a b c d) (r : R a b c d) : K ∧ ∃ a, L a ∧ ∃ b, M a b ∧ ∃ c d, N a b c d ∧ R a b c d := xPWPWP k a l b m (xWWP c d n r)
theorem xWPPWWPPP {K L : A → Prop} {M N O R : A → B → C → Prop} (a : A) (k : K a) (l : L a) (b : B) (c : C) (m : M a b c) (n : N a b c) (o : O a b c) (r : R a b c) : ∃ a, K a ∧ L a ∧ ∃ b c, M a b c ∧ N a b c ∧ O a b c ∧ R a b c := xWPP a k l (xWWPPP b c m n o r)
theorem xPWWWPPPP {K : Prop} {L M N O R : A → B → C → Prop} (k : K) (a : A) (b : B) (c : C) (l : L a b c) (m : M a b c) (n : N a b c) (o : O a b c) (r : R a b c) : K ∧ ∃ a b c, L a b c ∧ M a b c ∧ N a b c ∧ O a b c ∧ R a b c := xPWWW k a b c (xPPPP l m n o r)
theorem xPWWWWWPP {K : Prop} {L M R : A → B → C → D → E → Prop} (k : K) (a : A) (b : B) (c : C) (d : D) (e : E) (l : L a b c d e) (m : M a b c d e) (r : R a b c d e) : K ∧ ∃ a b c d e, L a b c d e ∧ M a b c d e ∧ R a b c d e := xPWWW k a b c (xWWPP d e l m r)
theorem xWPWWWWPP {K : A → Prop} {L M R : A → B → C → D → E → Prop} (a : A) (k : K a) (b : B) (c : C) (d : D) (e : E) (l : L a b c d e) (m : M a b c d e) (r : R a b c d e) : ∃ a, K a ∧ ∃ b c d e, L a b c d e ∧ M a b c d e ∧ R a b c d e := xWPWW a k b c (xWWPP d e l m r)
theorem xWWPPPWWP {K L M : A → B → Prop} {N R : A → B → C → D → Prop} (a : A) (b : B) (k : K a b) (l : L a b) (m : M a b) (c : C) (d : D) (n : N a b c d) (r : R a b c d) : ∃ a b, K a b ∧ L a b ∧ M a b ∧ ∃ c d, N a b c d ∧ R a b c d := xWWPP a b k l (xPWWP m c d n r)
theorem xPPWWPPWP {K L : Prop} {M N : A → B → Prop} {O R : A → B → C → Prop} (k : K) (l : L) (a : A) (b : B) (m : M a b) (n : N a b) (c : C) (o : O a b c) (r : R a b c) : K ∧ L ∧ ∃ a b, M a b ∧ N a b ∧ ∃ c, O a b c ∧ R a b c := xPPWW k l a b (xPPWP m n c o r)
theorem xWPWPWWPP {K : A → Prop} {L : A → B → Prop} {M N R : A → B → C → D → Prop} (a : A) (k : K a) (b : B) (l : L a b) (c : C) (d : D) (m : M a b c d) (n : N a b c d) (r : R a b c d) : ∃ a, K a ∧ ∃ b, L a b ∧ ∃ c d, M a b c d ∧ N a b c d ∧ R a b c d := xWPWP a k b l (xWWPP c d m n r)
theorem xPPPPWWPP {K L M N : Prop} {O P R : A → B → Prop} (k : K) (l : L) (m : M) (n : N) (a : A) (b : B) (o : O a b) (p : P a b) (r : R a b) : K ∧ L ∧ M ∧ N ∧ ∃ a b, O a b ∧ P a b ∧ R a b := xPPPP k l m n (xWWPP a b o p r)
theorem xWPWPWPWP {K : A → Prop} {L : A → B → Prop} {M : A → B → C → Prop} {N R : A → B → C → D → Prop} (a : A) (k : K a) (b : B) (l : L a b) (c : C) (m : M a b c) (d : D) (n : N a b c d) (r : R a b c d) : ∃ a, K a ∧ ∃ b, L a b ∧ ∃ c, M a b c ∧ ∃ d, N a b c d ∧ R a b c d := xWPWP a k b l (xWPWP c m d n r)
theorem xWPPWPPPP {K L : A → Prop} {M N O P R : A → B → Prop} (a : A) (k : K a) (l : L a) (b : B) (m : M a b) (n : N a b) (o : O a b) (p : P a b) (r : R a b) : ∃ a, K a ∧ L a ∧ ∃ b, M a b ∧ N a b ∧ O a b ∧ P a b ∧ R a b := xWPPWP a k l b m (xPPP n o p r)
theorem xWPPWWWWP {K L : A → Prop} {M R : A → B → C → D → E → Prop} (a : A) (k : K a) (l : L a) (b : B) (c : C) (d : D) (e : E) (m : M a b c d e) (r : R a b c d e) : ∃ a, K a ∧ L a ∧ ∃ b c d e, M a b c d e ∧ R a b c d e := xWPP a k l (xWWWWP b c d e m r)
theorem xWWWWWWWW {R : A → B → C → D → E → F → G → H → Prop} (a : A) (b : B) (c : C) (d : D) (e : E) (f : F) (g : G) (h : H) (r : R a b c d e f g h) : ∃ a b c d e f g h, R a b c d e f g h := xWWWW a b c d (xWWWW e f g h r)
theorem xPWPWWPPP {K : Prop} {L : A → Prop} {M N O R : A → B → C → Prop} (k : K) (a : A) (l : L a) (b : B) (c : C) (m : M a b c) (n : N a b c) (o : O a b c) (r : R a b c) : K ∧ ∃ a, L a ∧ ∃ b c, M a b c ∧ N a b c ∧ O a b c ∧ R a b c := xPWP k a l (xWWPPP b c m n o r)
theorem xWPWWPPPP {K : A → Prop} {L M N O R : A → B → C → Prop} (a : A) (k : K a) (b : B) (c : C) (l : L a b c) (m : M a b c) (n : N a b c) (o : O a b c) (r : R a b c) : ∃ a, K a ∧ ∃ b c, L a b c ∧ M a b c ∧ N a b c ∧ O a b c ∧ R a b c := xWPWW a k b c (xPPPP l m n o r)
theorem xPPPWPWWP {K L M : Prop} {N : A → Prop} {O R : A → B → C → Prop} (k : K) (l : L) (m : M) (a : A) (n : N a) (b : B) (c : C) (o : O a b c) (r : R a b c) : K ∧ L ∧ M ∧ ∃ a, N a ∧ ∃ b c, O a b c ∧ R a b c := xPPPWP k l m a n (xWWP b c o r)
theorem xWWWWWPPP {K L M R : A → B → C → D → E → Prop} (a : A) (b : B) (c : C) (d : D) (e : E) (k : K a b c d e) (l : L a b c d e) (m : M a b c d e) (r : R a b c d e) : ∃ a b c d e, K a b c d e ∧ L a b c d e ∧ M a b c d e ∧ R a b c d e := xWWWW a b c d (xWPPP e k l m r)
theorem xWPPPPPPP {K L M N O P Q R : A → Prop} (a : A) (k : K a) (l : L a) (m : M a) (n : N a) (o : O a) (p : P a) (q : Q a) (r : R a) : ∃ a, K a ∧ L a ∧ M a ∧ N a ∧ O a ∧ P a ∧ Q a ∧ R a := xWPPP a k l m (xPPPP n o p q r)
theorem xWPPWWWPP {K L : A → Prop} {M N R : A → B → C → D → Prop} (a : A) (k : K a) (l : L a) (b : B) (c : C) (d : D) (m : M a b c d) (n : N a b c d) (r : R a b c d) : ∃ a, K a ∧ L a ∧ ∃ b c d, M a b c d ∧ N a b c d ∧ R a b c d := xWPP a k l (xWWWPP b c d m n r)
theorem xWPPWPWWP {K L : A → Prop} {M : A → B → Prop} {N R : A → B → C → D → Prop} (a : A) (k : K a) (l : L a) (b : B) (m : M a b) (c : C) (d : D) (n : N a b c d) (r : R a b c d) : ∃ a, K a ∧ L a ∧ ∃ b, M a b ∧ ∃ c d, N a b c d ∧ R a b c d := xWPPWP a k l b m (xWWP c d n r)
theorem xWPPPWPPP {K L M : A → Prop} {N O P R : A → B → Prop} (a : A) (k : K a) (l : L a) (m : M a) (b : B) (n : N a b) (o : O a b) (p : P a b) (r : R a b) : ∃ a, K a ∧ L a ∧ M a ∧ ∃ b, N a b ∧ O a b ∧ P a b ∧ R a b := xWPPP a k l m (xWPPP b n o p r)
theorem xPWPWPWPP {K : Prop} {L : A → Prop} {M : A → B → Prop} {N O R : A → B → C → Prop} (k : K) (a : A) (l : L a) (b : B) (m : M a b) (c : C) (n : N a b c) (o : O a b c) (r : R a b c) : K ∧ ∃ a, L a ∧ ∃ b, M a b ∧ ∃ c, N a b c ∧ O a b c ∧ R a b c := xPWP k a l (xWPWPP b m c n o r)
theorem xPWWPPPWP {K : Prop} {L M N : A → B → Prop} {O R : A → B → C → Prop} (k : K) (a : A) (b : B) (l : L a b) (m : M a b) (n : N a b) (c : C) (o : O a b c) (r : R a b c) : K ∧ ∃ a b, L a b ∧ M a b ∧ N a b ∧ ∃ c, O a b c ∧ R a b c := xPWWP k a b l (xPPWP m n c o r)
theorem xPWPWWWWP {K : Prop} {L : A → Prop} {M R : A → B → C → D → E → Prop} (k : K) (a : A) (l : L a) (b : B) (c : C) (d : D) (e : E) (m : M a b c d e) (r : R a b c d e) : K ∧ ∃ a, L a ∧ ∃ b c d e, M a b c d e ∧ R a b c d e := xPWP k a l (xWWWWP b c d e m r)
theorem xPPWWPPPP {K L : Prop} {M N O P R : A → B → Prop} (k : K) (l : L) (a : A) (b : B) (m : M a b) (n : N a b) (o : O a b) (p : P a b) (r : R a b) : K ∧ L ∧ ∃ a b, M a b ∧ N a b ∧ O a b ∧ P a b ∧ R a b := xPPWW k l a b (xPPPP m n o p r)
theorem xWPWWWPPP {K : A → Prop} {L M N R : A → B → C → D → Prop} (a : A) (k : K a) (b : B) (c : C) (d : D) (l : L a b c d) (m : M a b c d) (n : N a b c d) (r : R a b c d) : ∃ a, K a ∧ ∃ b c d, L a b c d ∧ M a b c d ∧ N a b c d ∧ R a b c d := xWPWW a k b c (xWPPP d l m n r)
theorem xPPWWPWWP {K L : Prop} {M : A → B → Prop} {N R : A → B → C → D → Prop} (k : K) (l : L) (a : A) (b : B) (m : M a b) (c : C) (d : D) (n : N a b c d) (r : R a b c d) : K ∧ L ∧ ∃ a b, M a b ∧ ∃ c d, N a b c d ∧ R a b c d := xPPWW k l a b (xPWWP m c d n r)
theorem xPPPPPWWP {K L M N O : Prop} {P R : A → B → Prop} (k : K) (l : L) (m : M) (n : N) (o : O) (a : A) (b : B) (p : P a b) (r : R a b) : K ∧ L ∧ M ∧ N ∧ O ∧ ∃ a b, P a b ∧ R a b := xPPPP k l m n (xPWWP o a b p r)
theorem xPPWPWWWP {K L : Prop} {M : A → Prop} {N R : A → B → C → D → Prop} (k : K) (l : L) (a : A) (m : M a) (b : B) (c : C) (d : D) (n : N a b c d) (r : R a b c d) : K ∧ L ∧ ∃ a, M a ∧ ∃ b c d, N a b c d ∧ R a b c d := xPPWP k l a m (xWWWP b c d n r)
theorem xWWWWPPPP {K L M N R : A → B → C → D → Prop} (a : A) (b : B) (c : C) (d : D) (k : K a b c d) (l : L a b c d) (m : M a b c d) (n : N a b c d) (r : R a b c d) : ∃ a b c d, K a b c d ∧ L a b c d ∧ M a b c d ∧ N a b c d ∧ R a b c d := xWWWW a b c d (xPPPP k l m n r)
theorem xPWPWPPWP {K : Prop} {L : A → Prop} {M N : A → B → Prop} {O R : A → B → C → Prop} (k : K) (a : A) (l : L a) (b : B) (m : M a b) (n : N a b) (c : C) (o : O a b c) (r : R a b c) : K ∧ ∃ a, L a ∧ ∃ b, M a b ∧ N a b ∧ ∃ c, O a b c ∧ R a b c := xPWP k a l (xWPPWP b m n c o r)
theorem xWWPPWPWP {K L : A → B → Prop} {M : A → B → C → Prop} {N R : A → B → C → D → Prop} (a : A) (b : B) (k : K a b) (l : L a b) (c : C) (m : M a b c) (d : D) (n : N a b c d) (r : R a b c d) : ∃ a b, K a b ∧ L a b ∧ ∃ c, M a b c ∧ ∃ d, N a b c d ∧ R a b c d := xWWPP a b k l (xWPWP c m d n r)
theorem xWPWPWWWP {K : A → Prop} {L : A → B → Prop} {M R : A → B → C → D → E → Prop} (a : A) (k : K a) (b : B) (l : L a b) (c : C) (d : D) (e : E) (m : M a b c d e) (r : R a b c d e) : ∃ a, K a ∧ ∃ b, L a b ∧ ∃ c d e, M a b c d e ∧ R a b c d e := xWPWP a k b l (xWWWP c d e m r)
theorem xPWWWWPPP {K : Prop} {L M N R : A → B → C → D → Prop} (k : K) (a : A) (b : B) (c : C) (d : D) (l : L a b c d) (m : M a b c d) (n : N a b c d) (r : R a b c d) : K ∧ ∃ a b c d, L a b c d ∧ M a b c d ∧ N a b c d ∧ R a b c d := xPWWW k a b c (xWPPP d l m n r)
theorem xWWPPPPWP {K L M N : A → B → Prop} {O R : A → B → C → Prop} (a : A) (b : B) (k : K a b) (l : L a b) (m : M a b) (n : N a b) (c : C) (o : O a b c) (r : R a b c) : ∃ a b, K a b ∧ L a b ∧ M a b ∧ N a b ∧ ∃ c, O a b c ∧ R a b c := xWWPP a b k l (xPPWP m n c o r)
theorem xWWPWWPPP {K : A → B → Prop} {L M N R : A → B → C → D → Prop} (a : A) (b : B) (k : K a b) (c : C) (d : D) (l : L a b c d) (m : M a b c d) (n : N a b c d) (r : R a b c d) : ∃ a b, K a b ∧ ∃ c d, L a b c d ∧ M a b c d ∧ N a b c d ∧ R a b c d := xWWP a b k (xWWPPP c d l m n r)
theorem xPPPWWPPP {K L M : Prop} {N O P R : A → B → Prop} (k : K) (l : L) (m : M) (a : A) (b : B) (n : N a b) (o : O a b) (p : P a b) (r : R a b) : K ∧ L ∧ M ∧ ∃ a b, N a b ∧ O a b ∧ P a b ∧ R a b := xPPP k l m (xWWPPP a b n o p r)
theorem xWWPPWPPP {K L : A → B → Prop} {M N O R : A → B → C → Prop} (a : A) (b : B) (k : K a b) (l : L a b) (c : C) (m : M a b c) (n : N a b c) (o : O a b c) (r : R a b c) : ∃ a b, K a b ∧ L a b ∧ ∃ c, M a b c ∧ N a b c ∧ O a b c ∧ R a b c := xWWPP a b k l (xWPPP c m n o r)
theorem xWWWPPPPP {K L M N O R : A → B → C → Prop} (a : A) (b : B) (c : C) (k : K a b c) (l : L a b c) (m : M a b c) (n : N a b c) (o : O a b c) (r : R a b c) : ∃ a b c, K a b c ∧ L a b c ∧ M a b c ∧ N a b c ∧ O a b c ∧ R a b c := xWWWP a b c k (xPPPP l m n o r)
theorem xPPWWWPPP {K L : Prop} {M N O R : A → B → C → Prop} (k : K) (l : L) (a : A) (b : B) (c : C) (m : M a b c) (n : N a b c) (o : O a b c) (r : R a b c) : K ∧ L ∧ ∃ a b c, M a b c ∧ N a b c ∧ O a b c ∧ R a b c := xPPWW k l a b (xWPPP c m n o r)
theorem xWWWWWWPP {K L R : A → B → C → D → E → F → Prop} (a : A) (b : B) (c : C) (d : D) (e : E) (f : F) (k : K a b c d e f) (l : L a b c d e f) (r : R a b c d e f) : ∃ a b c d e f, K a b c d e f ∧ L a b c d e f ∧ R a b c d e f := xWWWW a b c d (xWWPP e f k l r)
theorem xWWPPWWPP {K L : A → B → Prop} {M N R : A → B → C → D → Prop} (a : A) (b : B) (k : K a b) (l : L a b) (c : C) (d : D) (m : M a b c d) (n : N a b c d) (r : R a b c d) : ∃ a b, K a b ∧ L a b ∧ ∃ c d, M a b c d ∧ N a b c d ∧ R a b c d := xWWPP a b k l (xWWPP c d m n r)
theorem xWWPPWWWP {K L : A → B → Prop} {M R : A → B → C → D → E → Prop} (a : A) (b : B) (k : K a b) (l : L a b) (c : C) (d : D) (e : E) (m : M a b c d e) (r : R a b c d e) : ∃ a b, K a b ∧ L a b ∧ ∃ c d e, M a b c d e ∧ R a b c d e := xWWPP a b k l (xWWWP c d e m r)
end
open List renaming length_map→Zq,getElem?_eq_getElem→Zz,getElem?_eq_some_iff→Zj,getElem?_map→Zk,getD_eq_getElem?_getD→Zv,mem_cons_of_mem→Zw,getElem?_append_left→Zx,getElem?_append_right→Zy,mem_of_getElem?→Zg,mem_map→Zh,mem_singleton→Zb,mem_cons_self→Zd,mem_append→Zf,length_append→Zm,mem_cons→Zn,getElem_mem→Zp,getElem?_eq_none→Zr,mem_range→Zs,map_append→Zt,length_singleton→ZQ,length_cons→Yq,mem_filter→Yz,length_range→Yj,mem_flatMap→Yk,take_length→Yv,length_take→Yw,getElem?_concat_length→Yx,mem_iff_getElem→Yy,map_map→Yg,getElem?_reverse→Yh,append_assoc→Yb,length_drop→Yd,mem_map_of_mem→Yf,map_congr_left→Ym,ext_getElem?→Yn,length_reverse→Yp
open Nat renaming le_trans→Yr,lt_of_le_of_lt→Ys,lt_of_lt_of_le→Yt,lt_succ_of_lt→YQ
open Option renaming map_eq_some_iff→Xq
open Int renaming emod_nonneg→Xz,emod_lt_of_pos→Xj,eq_ofNat_of_zero_le→Xk
open Bool renaming and_eq_true→Xv,eq_iff_iff→Xw
set_option Elab.async false
set_option linter.all false
set_option maxRecDepth 100000
namespace L2
open PySem PySem.Spec PyProof.Rows
abbrev Key:=Sum Int Str
def keyIs:Key→Value→Bool
 | .inl k,v=>Value.isInt k v
 | .inr x,v=>Value.isStrOf x v
def keyH (w:World):Key→Int
 | .inl k=>hashInt k
 | .inr x=>hashStr w x
theorem keyIs_shape:∀ {k:Key} {v:Value},keyIs k v=true→(∃ i t,k=Sum.inl i∧v=Value.int i t)∨(∃ x t,k=Sum.inr x∧v=Value.str x t)
 | .inl i,v,h=>by
  obtain ⟨t,e⟩:=Value.isInt_shape (k:=i) (v:=v) h
  exact .inl ⟨i,t,rfl, e⟩
 | .inr x,v,h=>by
  obtain ⟨t,e⟩:=Value.isStrOf_shape (x:=x) (v:=v) h
  exact .inr ⟨x,t,rfl, e⟩
theorem keyIs_int (i:Int) (t:Tok):keyIs (.inl i) (.int i t)=true:=by simp [keyIs,Value.isInt]
theorem keyIs_str (x:Str) (t:Tok):keyIs (.inr x) (.str x t)=true:=by simp [keyIs,Value.isStrOf]
theorem key_ll (a b:Int):decide ((Sum.inl a:Key)=Sum.inl b)=(a==b):=by
 by_cases e:a=b
 ·subst e;simp
 ·have h:¬(Sum.inl a:Key)=Sum.inl b:=fun q=>e (Sum.inl.inj q)
  rw [decide_eq_false h]
  exact (beq_eq_false_iff_ne.mpr e).symm
theorem key_rr (a b:Str):decide ((Sum.inr a:Key)=Sum.inr b)=decide (a=b):=by
 by_cases e:a=b
 ·subst e;simp
 ·have h:¬(Sum.inr a:Key)=Sum.inr b:=fun q=>e (Sum.inr.inj q)
  rw [decide_eq_false h,decide_eq_false e]
theorem key_lr (a:Int) (b:Str):decide ((Sum.inl a:Key)=Sum.inr b)=false:=decide_eq_false (fun q=>nomatch q)
theorem key_rl (a:Str) (b:Int):decide ((Sum.inr a:Key)=Sum.inl b)=false:=decide_eq_false (fun q=>nomatch q)
def mixKind (prog:Program) (w:World):PySem.KeyKind prog w Key where
 is:=keyIs
 hash:=keyH w
 inj:=fun v a b ha hb=>by
  rcases keyIs_shape ha with ⟨i,t,rfl, rfl⟩ | ⟨x,t,rfl, rfl⟩
  ·rcases keyIs_shape hb with ⟨j,u,rfl, e⟩ | ⟨y,u,rfl, e⟩
   ·injection e with e1 _;rw [e1]
   ·exact nomatch e
  ·rcases keyIs_shape hb with ⟨j,u,rfl, e⟩ | ⟨y,u,rfl, e⟩
   ·exact nomatch e
   ·injection e with e1 _;rw [e1]
 byValue:=fun k v h=>by
  rcases keyIs_shape h with ⟨i,t,rfl, rfl⟩ | ⟨x,t,rfl, rfl⟩<;>rfl
 pyHash:=fun hv h=>by
  rcases keyIs_shape hv with ⟨i,t,rfl, rfl⟩ | ⟨x,t,rfl, rfl⟩
  ·exact wpAny_pyHash_int h
  ·exact wpAny_pyHash_str h
 eqBool:=fun hu hv h=>by
  rcases keyIs_shape hu with ⟨i,t,rfl, rfl⟩ | ⟨x,t,rfl, rfl⟩
  ·rcases keyIs_shape hv with ⟨j,u,rfl, rfl⟩ | ⟨y,u,rfl, rfl⟩
   ·rw [key_ll] at h;exact wpAny_eqBool_int h
   ·rw [key_lr] at h;exact SeqAt.EqAt.int_str i t y u _ _ _ _ h
  ·rcases keyIs_shape hv with ⟨j,u,rfl, rfl⟩ | ⟨y,u,rfl, rfl⟩
   ·rw [key_rl] at h;exact SeqAt.EqAt.str_int x t j u _ _ _ _ h
   ·rw [key_rr] at h;exact wpAny_eqBool_str h
 «strs»:=fun k x t v h=>by
  rcases keyIs_shape h with ⟨i,u,rfl, e⟩ | ⟨y,u,rfl, e⟩
  ·exact nomatch e
  ·injection e with e1 _
   subst e1
   cases v<;>rfl
theorem mixKind_int (prog:Program) (w:World) (i:Int) (t:Tok):(mixKind prog w).is (.inl i) (.int i t)=true:=keyIs_int i t
theorem mixKind_str (prog:Program) (w:World) (x:Str) (t:Tok):(mixKind prog w).is (.inr x) (.str x t)=true:=keyIs_str x t
inductive V where
 | non | bl (b:Bool) | int (i:Int) | str (x:Str) | byt (b:Array UInt8) | flt (b:UInt64) | ref (a:Addr) | ty (n:String)
 deriving DecidableEq
def RelV:V→Value→Prop
 | .non,u=>u=Value.none
 | .bl b,u=>u=Value.bool b
 | .int i,u=>∃ t,u=Value.int i t
 | .str x,u=>∃ t,u=Value.str x t
 | .byt b,u=>∃ t,u=Value.bytes b t
 | .flt b,u=>∃ t,u=Value.float b t
 | .ref a,u=>u=Value.ref a
 | .ty n,u=>u=Value.type n
abbrev Vals:List V→List Value→Prop:=Paired RelV
theorem Vals.length {xs:List V} {us:List Value} (r:Vals xs us):xs.length=us.length:=Paired.length r
theorem Vals.get:∀ {xs:List V} {us:List Value} {i:Nat} {x:V},Vals xs us→xs[i]?=some x→∃ u,us[i]?=some u∧RelV x u
 | _,_,_,_,.nil,e=>by simp at e
 | _,_,0,_,.cons r _,e=>by simp at e;subst e;exact ⟨_,rfl, r⟩
 | _,_,i+1,x,.cons _ t,e=>by
  obtain ⟨u,h1, h2⟩:=Vals.get (i:=i) (x:=x) t (by simpa using e)
  exact ⟨u,by simpa using h1, h2⟩
theorem Vals.set {x:V} {u:Value} (r:RelV x u):∀ {xs:List V} {us:List Value} (i:Nat),Vals xs us→Vals (xs.set i x) (us.set i u)
 | _,_,_,.nil=>.nil
 | _,_,0,.cons _ t=>.cons r t
 | _,_,i+1,.cons q t=>.cons q (Vals.set r i t)
theorem Vals.append:∀ {xs ys:List V} {us ws:List Value},Vals xs us→Vals ys ws→Vals (xs++ys) (us++ws)
 | _,_,_,_,.nil,s=>s
 | _,_,_,_,.cons r t,s=>.cons r (Vals.append t s)
theorem Vals.take:∀ {xs:List V} {us:List Value} (n:Nat),Vals xs us→Vals (xs.take n) (us.take n)
 | _,_,0,_=>.nil
 | _,_,_+1,.nil=>.nil
 | _,_,n+1,.cons r t=>.cons r (Vals.take n t)
theorem Vals.drop:∀ {xs:List V} {us:List Value} (n:Nat),Vals xs us→Vals (xs.drop n) (us.drop n)
 | _,_,0,r=>r
 | _,_,_+1,.nil=>.nil
 | _,_,n+1,.cons _ t=>Vals.drop n t
def RelO:Option V→Option Value→Prop
 | some v,some u=>RelV v u
 | none,none=>True
 | _,_=>False
def KV {κ:Type}:List (κ×V)→List (κ×Value)→Prop:=Paired fun (p:κ×V) (q:κ×Value)=>p.1=q.1∧RelV p.2 q.2
def kV:Key→V
 | .inl i=>.int i
 | .inr x=>.str x
inductive HO where
 | lst (xs:List V)
 | tup (xs:List V)
 | dK (kvs:List (Key×V)) | dT (kvs:List (List Key×V))
 | set (S:Int→Bool) (n:Nat)
 | ins (C dx:Addr) (fs:List (Str×V))
 | own (x:Addr)
 | xd (fs:List (Str×V))
 | met (f x:Addr)
 | rng (lo hi:Int)
 | frz (o:Obj) (u:HO)
 | tbl (ps:Array Value)
 | ext (φ:Heap→Prop)
abbrev Hp:=Addr→Option HO
def upd (H:Hp) (a:Addr) (o:HO):Hp:=fun b=>if b=a then some o else H b
theorem upd_same {H:Hp} {a:Addr} {o:HO}:upd H a o a=some o:=by unfold upd;rw [if_pos rfl]
theorem upd_ne {H:Hp} {a b:Addr} {o:HO} (h:b≠a):upd H a o b=H b:=by unfold upd;rw [if_neg h]
theorem ne_of {H:Hp} {a b:Addr} {o u:HO} (h:H a=some o) (h':H b=some u) (d:o≠u):a≠b:=by
 intro e;subst e;rw [h] at h';exact d (Option.some.inj h')
theorem ne_of_none {H:Hp} {a b:Addr} {o:HO} (h:H a=some o) (h':H b=none):a≠b:=by
 intro e;subst e;rw [h] at h';cases h'
section
variable (P:Program) (w:World)
def ObjOk (H:Hp) (h:Heap) (a:Addr):HO→Prop
 | .lst xs=>xs.length≤sizeLine∧∃ (its:List Value) (n:Nat),Vals xs its∧h.get? a=some { cls:=.type "list",data:=.seq its.toArray n }
 | .tup xs=>xs.length≤sizeLine∧∃ its:List Value,Vals xs its∧IsTup h a its.toArray
 | .dK kvs=>kvs.length≤sizeLine∧(a==sysModules)=false∧∃ vs,KV kvs vs∧h.DictOf (mixKind P w) a vs
 | .dT kvs=>kvs.length≤sizeLine∧(a==sysModules)=false∧∃ xs:List (List Key×Addr×Value),
   Paired (fun (p:List Key×V) (q:List Key×Addr×Value)=>p.1=q.1∧H q.2.1=some (.tup (p.1.map kV))∧RelV p.2 q.2.2) kvs xs ∧
   ∃ o es ep,h.get? a=some o∧o.ExactDict∧o.data=.dict es ep∧es.toList=xs.map (entryOfKey (tupleKind (mixKind P w)))∧(xs.map (·.1)).Nodup
 | .set S n=>h.SetOf (intKind P w) a S n
 | .ins C dx fs=>H dx=some (.own a)∧fs.length≤1000∧dx≠a∧h.get? a=some (PySem.W.instObj C dx) ∧
   ∃ mA,h.Ns1 dx mA∧(∀ f,RelO (fs.lookup f) (mA f))∧PySem.Within mA (fs.map (·.1))
 | .own _=>∃ o,h.get? a=some o
 | .xd fs=>∃ mA,h.Ns1 a mA∧∀ f,RelO (fs.lookup f) (mA f)
 | .rng lo hi=>∃ t u v,h.get? a=some { cls:=.type "range",data:=.fields #[.int lo t,.int hi u,.int 1 v] }
 | .frz o u=>h.get? a=some o∧ObjOk H h a u
 | .tbl ps=>h.get? a=some { cls:=.none,data:=.fields ps }
 | .met f x=>h.get? a=some (PySem.W.methodObj (.ref f) (.ref x))
 | .ext φ=>φ h∧(∃ o,h.get? a=some o)∧∀ h1 h2:Heap,φ h1→(∀ o,h1.get? a=some o→h2.get? a=some o)→φ h2
def HOk (H:Hp) (h:Heap):Prop:=∀ a o,H a=some o→ObjOk P w H h a o
end
section
variable {P:Program} {w:World} {H H':Hp} {h h':Heap} {a:Addr} {o:HO}
theorem ObjOk.lt (x:ObjOk P w H h a o):a<h.objs.size:=by
 cases o with
 | lst xs=>obtain ⟨_,_,_,_, e⟩:=x;exact Heap.lt_size e
 | tup xs=>obtain ⟨_,_,_, p⟩:=x;exact p.lt
 | dK kvs=>obtain ⟨_,_,_,_,o,_,_,e, _⟩:=x;exact Heap.lt_size e
 | dT kvs=>obtain ⟨_,_,_,_,o,_,_,e, _⟩:=x;exact Heap.lt_size e
 | set S n=>obtain ⟨o,_,_,_,e, _⟩:=x;exact Heap.lt_size e
 | ins C dx fs=>obtain ⟨_,_,_,e, _⟩:=x;exact Heap.lt_size e
 | own y=>obtain ⟨_,e⟩:=x;exact Heap.lt_size e
 | xd fs=>obtain ⟨_,⟨_,_,_,e, _⟩, _⟩:=x;exact Heap.lt_size e
 | rng lo hi=>obtain ⟨_,_,_, e⟩:=x;exact Heap.lt_size e
 | frz ob u=>obtain ⟨e,_⟩:=x;exact Heap.lt_size e
 | tbl ps=>exact Heap.lt_size (show h.get? a=some _ from x)
 | met f y=>exact Heap.lt_size (show h.get? a=some _ from x)
 | ext φ=>obtain ⟨_,⟨_,e⟩, _⟩:=x;exact Heap.lt_size e
theorem Paired.mapP {α β:Type} {F G:α→β→Prop}:∀ {l₁:List α} {l₂:List β},Paired F l₁ l₂→(∀ a b,F a b→G a b)→Paired G l₁ l₂
 | _,_,.nil,_=>.nil
 | _,_,.cons r t,f=>.cons (f _ _ r) (Paired.mapP t f)
theorem ObjOk.stay (x:ObjOk P w H h a o) (k:∀ b u,(b=a∨H b=some (.own a))→h.get? b=some u→h'.get? b=some u)
  (ho:∀ b,H b=some (.own a)→H' b=some (.own a)) (ht:∀ b xs,H b=some (.tup xs)→H' b=some (.tup xs)):ObjOk P w H' h' a o:=by
 induction o with
 | lst xs=>obtain ⟨z,its,n,r, e⟩:=x;exact ⟨z,its,n,r, k _ _ (.inl rfl) e⟩
 | tup xs=>obtain ⟨z,its,r,ob,e, c⟩:=x;exact ⟨z,its,r,ob,k _ _ (.inl rfl) e, c⟩
 | dK kvs=>obtain ⟨z,y,vs,r,ob,es,ep,e, c⟩:=x;exact ⟨z,y,vs,r,ob,es,ep,k _ _ (.inl rfl) e, c⟩
 | dT kvs =>
  obtain ⟨z,y,xs,r,ob,es,ep,e, c⟩:=x
  exact ⟨z,y,xs,Paired.mapP r fun p q z=>⟨z.1,ht _ _ z.2.1, z.2.2⟩,ob,es,ep,k _ _ (.inl rfl) e, c⟩
 | set S n=>obtain ⟨ob,es,ep,t,e, c⟩:=x;exact ⟨ob,es,ep,t,k _ _ (.inl rfl) e, c⟩
 | ins C dx fs =>
  obtain ⟨d,z,ne,e,mA,⟨od,es,ep,e2, c⟩, r⟩:=x
  exact ⟨ho _ d,z,ne,k _ _ (.inl rfl) e,mA,⟨od,es,ep,k _ _ (.inr d) e2, c⟩, r⟩
 | own y=>obtain ⟨ob,e⟩:=x;exact ⟨ob,k _ _ (.inl rfl) e⟩
 | xd fs=>obtain ⟨mA,⟨od,es,ep,e, c⟩, r⟩:=x;exact ⟨mA,⟨od,es,ep,k _ _ (.inl rfl) e, c⟩, r⟩
 | rng lo hi=>obtain ⟨t,u,v, e⟩:=x;exact ⟨t,u,v, k _ _ (.inl rfl) e⟩
 | frz ob u ih=>obtain ⟨e,q⟩:=x;exact ⟨k _ _ (.inl rfl) e,ih q⟩
 | tbl ps =>
  have e:h.get? a=some { cls:=.none,data:=.fields ps }:=x
  show h'.get? a=some { cls:=.none,data:=.fields ps }
  exact k a _ (.inl rfl) e
 | met f y =>
  have e:h.get? a=some (PySem.W.methodObj (.ref f) (.ref y)):=x
  show h'.get? a=some (PySem.W.methodObj (.ref f) (.ref y))
  exact k a _ (.inl rfl) e
 | ext φ=>obtain ⟨p,⟨o,e⟩, st⟩:=x;exact ⟨st _ _ p fun o q=>k _ _ (.inl rfl) q,⟨o,k _ _ (.inl rfl) e⟩, st⟩
theorem HOk.lt (x:HOk P w H h) (e:H a=some o):a<h.objs.size:=(x a o e).lt
theorem HOk.fresh (x:HOk P w H h) (e:h.objs.size≤a):H a=none:=by
 cases q:H a with
 | none=>rfl
 | some u=>exact absurd (Yt (x.lt q) e) (Nat.lt_irrefl _)
theorem HOk.kept (x:HOk P w H h) (k:∀ b u,h.get? b=some u→h'.get? b=some u):HOk P w H h':=fun a o e =>
 (x a o e).stay (fun b u _ q=>k b u q) (fun _ q=>q) fun _ _ q=>q
theorem HOk.laid (x:HOk P w H h) (k:∀ b u,h.get? b=some u→h'.get? b=some u) (hp:h.objs.size≤a) (new:ObjOk P w (upd H a o) h' a o):HOk P w (upd H a o) h':=fun b u e=>by
 have hn:=x.fresh hp
 by_cases hb:b=a
 ·subst hb;rw [upd_same] at e;cases e;exact new
 ·rw [upd_ne hb] at e
  exact (x b u e).stay (fun c v _ q=>k c v q) (fun c q=>by rw [upd_ne (ne_of_none q hn)];exact q) fun c xs q=>by rw [upd_ne (ne_of_none q hn)];exact q
end
def Rd (H:Hp) (a:Addr) (u:HO):Prop:=H a=some u∨∃ o,H a=some (.frz o u)
theorem Rd.ok {P:Program} {w:World} {H:Hp} {h:Heap} {a:Addr} {u:HO} (r:Rd H a u) (x:HOk P w H h):ObjOk P w H h a u:=by
 rcases r with r | ⟨o,r⟩
 ·exact x a u r
 ·obtain ⟨_,q⟩:=x a _ r
  exact q
def Mut:Option HO→Prop
 | some (.lst _)=>True
 | some (.dK _)=>True
 | some (.dT _)=>True
 | some (.set _ _)=>True
 | some (.ins _ _ _)=>True
 | some (.ext _)=>True
 | _=>False
section
variable {P:Program} {w:World} {H:Hp} {h h':Heap} {x e:Addr} {o':HO}
theorem HOk.write (ok:HOk P w H h) (mu:Mut (H x)) (he:e=x∨H e=some (.own x)) (k:∀ b u,b≠e→h.get? b=some u→h'.get? b=some u) (heo:∃ u,h'.get? e=some u)
  (new:ObjOk P w (upd H x o') h' x o'):HOk P w (upd H x o') h':=fun b u q=>by
 have nown:∀ c y,H c=some (.own y)→c≠x:=fun c y r z=>by subst z;rw [r] at mu;exact mu
 have ntup:∀ c xs,H c=some (.tup xs)→c≠x:=fun c xs r z=>by subst z;rw [r] at mu;exact mu
 by_cases hb:b=x
 ·subst hb;rw [upd_same] at q;cases q;exact new
 ·rw [upd_ne hb] at q
  by_cases hbe:b=e
  ·have q':H b=some (.own x):=by
    rcases he with z | z
    ·exact absurd (hbe.trans z) hb
    ·rw [hbe];exact z
   rw [q] at q';cases q'
   obtain ⟨v,hv⟩:=heo
   exact ⟨v,by rw [hbe];exact hv⟩
  ·refine (ok b u q).stay (fun c v hc r=>k c v ?_ r) (fun c r=>by rw [upd_ne (nown c b r)];exact r) fun c xs r=>by rw [upd_ne (ntup c xs r)];exact r
   rcases hc with rfl | hc
   ·exact hbe
   ·rintro rfl
    rcases he with z | z
    ·exact nown c b hc z
    ·rw [hc] at z;cases z;exact hb rfl
end
structure Un (fs ex:List Addr) (H H':Hp) (h h':Heap):Prop where
 keep:∀ b o,h.get? b=some o→H b=none→b∉fs→b∉ex→h'.get? b=some o
 slot:∀ b o,h.get? b=some o→H b=none→b∈fs→b∉ex→∃ sl,h'.get? b=some { o with slots:=sl }
 free:∀ b o,h.get? b=some o→H b=none→b∉ex→H' b=none
 there:∀ b o,h.get? b=some o→b∉ex→∃ o',h'.get? b=some o'
 tups:∀ b xs,H b=some (.tup xs)→H' b=some (.tup xs)
 frzs:∀ b o u,H b=some (.frz o u)→H' b=some (.frz o u)
 tbls:∀ b ps,H b=some (.tbl ps)→∃ more,H' b=some (.tbl (ps++more))
section
variable {fs fs' ex ex':List Addr} {H H1 H2:Hp} {h h1 h2 h':Heap} {a x e:Addr} {o:HO}
theorem Un.any (u:Un fs ex H H1 h h1) {b:Addr} {ob:Obj} (q:h.get? b=some ob) (n:H b=none) (hx:b∉ex):∃ sl,h1.get? b=some { ob with slots:=sl }:=by
 by_cases hb:b∈fs
 ·exact u.slot b ob q n hb hx
 ·exact ⟨ob.slots,u.keep b ob q n hb hx⟩
theorem Un.kept (k:∀ b u,h.get? b=some u→h'.get? b=some u):Un fs ex H H h h' :=
 ⟨fun b ob q _ _ _=>k b ob q,fun b ob q _ _ _=>⟨ob.slots,k b ob q⟩,fun _ _ _ n _=>n,fun b ob q _=>⟨ob,k b ob q⟩,fun _ _ q=>q,fun _ _ _ q=>q, fun _ ps q=>⟨#[],by rw [q];simp⟩⟩
theorem Un.refl:Un fs ex H H h h:=Un.kept fun _ _ q=>q
theorem Un.laid (k:∀ b u,h.get? b=some u→h'.get? b=some u) (hp:h.objs.size≤a) (hn:H a=none):Un fs ex H (upd H a o) h h' where
 keep:=fun b u q _ _ _=>k b u q
 slot:=fun b u q _ _ _=>⟨u.slots,k b u q⟩
 free:=fun b u q n _=>by rw [upd_ne (Nat.ne_of_lt (Yt (Heap.lt_size q) hp))];exact n
 there:=fun b u q _=>⟨u,k b u q⟩
 tups:=fun b xs q=>by rw [upd_ne (ne_of_none q hn)];exact q
 frzs:=fun b u xs q=>by rw [upd_ne (ne_of_none q hn)];exact q
 tbls:=fun b ps q=>⟨#[],by rw [upd_ne (ne_of_none q hn),q];simp⟩
theorem Un.write (mu:Mut (H x)) (he:e=x∨H e=some (.own x)) (k:∀ b u,b≠e→h.get? b=some u→h'.get? b=some u) (heo:∃ u,h'.get? e=some u):Un fs ex H (upd H x o) h h':=by
 have hx:∀ b,H b=none→b≠x:=fun b n z=>by subst z;rw [n] at mu;exact mu
 have hb:∀ b,H b=none→b≠e:=fun b n z=>by
  subst z
  rcases he with r | r
  ·exact hx b n r
  ·rw [n] at r;cases r
 have hm:∀ b u,H b=some u→¬Mut (some u)→b≠x:=fun b u q nm z=>by subst z;rw [q] at mu;exact nm mu
 refine ⟨fun b u q n _ _=>k b u (hb b n) q,fun b u q n _ _=>⟨u.slots,k b u (hb b n) q⟩,fun b u q n _=>by rw [upd_ne (hx b n)];exact n,fun b u q _=>?_,
  fun b xs q=>by rw [upd_ne (hm b _ q fun z=>z)];exact q,fun b u xs q=>by rw [upd_ne (hm b _ q fun z=>z)];exact q, fun b ps q=>⟨#[],by rw [upd_ne (hm b _ q fun z=>z),q];simp⟩⟩
 by_cases hbe:b=e
 ·subst hbe;exact heo
 ·exact ⟨u,k b u hbe q⟩
end
def trk (h:Heap) (H:Hp):List Addr:=(List.range h.objs.size).filter fun a=>(H a).isSome
def hidT (h:Heap) (H:Hp):Heap:=PySem.W.hideAll h (trk h H)
theorem hidT_size (h:Heap) (H:Hp):(hidT h H).objs.size=h.objs.size:=PySem.W.hideAll_size _ _
theorem hidT_get {h:Heap} {H:Hp} {b:Addr} {o:Obj} (e:h.get? b=some o) (n:H b=none):(hidT h H).get? b=some o :=
 PySem.W.hideAll_get _ e fun hm=>by
  have q:(H b).isSome=true:=(Yz.mp hm).2
  rw [n] at q;simp at q
theorem of_hidT {h:Heap} {H:Hp} {b:Addr} {o:Obj} (e:(hidT h H).get? b=some o):h.get? b=some o∧H b=none:=by
 have e':h.get? b=some o:=PySem.W.of_hideAll (trk h H) e
 refine ⟨e',?_⟩
 cases q:H b with
 | none=>rfl
 | some x =>
  have hm:b∈trk h H:=Yz.mpr ⟨Zs.mpr (Heap.lt_size e'),by simp [q]⟩
  have z:(hidT h H).get? b=none:=PySem.W.hideAll_none (trk h H) hm
  rw [z] at e;cases e
end L2
namespace L2
open PySem PySem.Spec PyProof.Rows
structure Mod (K:PySem.W.Frag) (mg:Str→Option Value) (base:Heap):Prop where
 kin:K.In base
 glob:base.Ns mainGlobals mg
 blt:∃ mb,base.Ns builtinsNs mb∧∀ x:Str,x≠"__name__"→mb x=bootBuiltins x
 nolimit:base.NoLimit
structure Cx where
 prog:Program
 w:World
 K:PySem.W.Frag
 mg:Str→Option Value
 base:Heap
 A:Around
 N:List Str
 s₀:Shared
 H₀:Hp
 env:Env
 outer:List Env
 stack:List Env
 ex:List Addr
 fn:Str→Bool
 calm:Bool
 pn:List (Addr×Obj)
 xe:Value→Shared→Prop
def frs (l:List Env):List Addr:=l.filterMap (·.frame)
abbrev Cx.fs (X:Cx):List Addr:=frs X.outer
def Vis (sc:Scope) (x:Str):Prop:=sc.names.lookup x=some .local∨sc.names.lookup x=some .cell∨sc.names.lookup x=some .free
def Loc (sc:Scope) (x:Str):Prop:=sc.names.lookup x=some .local∨sc.names.lookup x=some .cell
def Look (env:Env) (h:Heap) (m:Str→Option Value) (x:Str) (u:Value):Prop :=
 (env.kindOf x=some .local∧m x=some u)∨((env.kindOf x=some .cell∨env.kindOf x=some .free)∧∃ c,env.cells.lookup x=some c∧h.IsCell c (some u))
structure Cx.Ok (X:Cx):Prop where
 mod:Mod X.K X.mg X.base
 kind:X.env.scope.kind=.function
 glob:X.env.globals=mainGlobals
 blt:X.env.builtins=builtinsNs
 above:X.s₀.heap.objs.size≤X.env.locals
 inj:∀ x y c,X.env.cells.lookup x=some c→X.env.cells.lookup y=some c→x=y
 has:∀ x,(X.env.kindOf x=some .cell∨X.env.kindOf x=some .free)→∃ c,X.env.cells.lookup x=some c
 cab:∀ x c,X.fn x=true→X.env.cells.lookup x=some c→X.s₀.heap.objs.size≤c
 hd:X.calm=true→X.A.handled=none
 frames:X.A.frames=some X.stack
 stk:X.stack=X.outer∨(X.stack=X.env::X.outer∧X.env.frame=some X.env.locals)
 exf:∀ b∈X.ex,b≠X.env.locals∧∀ x c,X.env.cells.lookup x=some c→c≠b
 bs:∀ b o,X.base.get? b=some o→X.s₀.heap.get? b=some o∧X.H₀ b=none
 bsz:X.base.objs.size≤X.s₀.heap.objs.size
 noex:∀ b o,X.base.get? b=some o→b∉X.ex
 exfs:∀ b∈X.ex,b∉X.fs
 funs:X.s₀.heap.FunFrames X.base X.outer
 frf:∀ b∈X.fs,X.H₀ b=none
structure Inv (X:Cx) (pins:List (Addr×Obj)) (σ:List (Option V)) (H:Hp) (s:Shared):Prop where
 ok:X.Ok
 os:s.os=X.s₀.os
 bare:AllBare s.gens
 base:Un X.fs X.ex X.H₀ H X.s₀.heap s.heap
 loc:∃ m,s.heap.Ns X.env.locals m∧∀ (i:Nat) (x:Str) (v:V),X.N[i]?=some x→σ[i]?=some (some v)→Vis X.env.scope x→∃ u,RelV v u∧Look X.env s.heap m x u
 cell:∀ x c,X.env.cells.lookup x=some c→∃ v,s.heap.IsCell c v
 free:H X.env.locals=none
 freeC:∀ x c,X.env.cells.lookup x=some c→H c=none
 pin:∀ p∈X.pn++pins,s.heap.get? p.1=some p.2∧H p.1=none∧p.1≠X.env.locals∧p.1∉X.fs∧∀ v,p.2.data≠.cell v
 hok:HOk X.prog X.w H s.heap
 len:σ.length=X.N.length
section
variable {X:Cx} {pins:List (Addr×Obj)} {σ:List (Option V)} {H H':Hp} {s:Shared} {h':Heap}
theorem Cx.Ok.nofr (ok:X.Ok) {b:Addr} {o:Obj} (e:X.base.get? b=some o):b∉X.fs:=fun hb=>by
 have:=(ok.funs.mem hb).1
 rw [e] at this;cases this
theorem Inv.bs (I:Inv X pins σ H s):∀ b o,X.base.get? b=some o→s.heap.get? b=some o∧H b=none:=fun b o e =>
 ⟨I.base.keep b o (I.ok.bs b o e).1 (I.ok.bs b o e).2 (I.ok.nofr e) (I.ok.noex b o e),I.base.free b o (I.ok.bs b o e).1 (I.ok.bs b o e).2 (I.ok.noex b o e)⟩
theorem Inv.bk (I:Inv X pins σ H s):∀ b o,X.base.get? b=some o→s.heap.get? b=some o:=fun b o e=>(I.bs b o e).1
theorem Inv.mod (I:Inv X pins σ H s):Mod X.K X.mg X.base:=I.ok.mod
theorem Inv.kIn (I:Inv X pins σ H s):X.K.In s.heap:=I.ok.mod.kin.keeps I.bk
theorem Inv.fr (I:Inv X pins σ H s):∃ m,Fr X.base X.env.locals s.heap m :=
 let ⟨m,hn,_⟩:=I.loc
 ⟨m,hn,I.bk, Yr I.ok.bsz I.ok.above⟩
theorem Inv.lt (I:Inv X pins σ H s):X.env.locals<s.heap.objs.size:=let ⟨_,hn,_⟩:=I.loc;hn.lt
theorem Inv.sz (I:Inv X pins σ H s):X.s₀.heap.objs.size≤s.heap.objs.size:=Yr I.ok.above (Nat.le_of_lt I.lt)
theorem Inv.nofs (I:Inv X pins σ H s) {a:Addr} (h:s.heap.objs.size≤a):a∉X.fs:=fun hb=>by
 obtain ⟨_,o,ho, _⟩:=I.ok.funs.mem hb
 exact absurd (Yt (Heap.lt_size ho) (Yr I.sz h)) (Nat.lt_irrefl _)
theorem Inv.cne (I:Inv X pins σ H s):∀ x c,X.env.cells.lookup x=some c→c≠X.env.locals:=fun x c e z=>by
 obtain ⟨v,o,ho, hd⟩:=I.cell x c e
 obtain ⟨m,⟨o',es,ep,ho',hd', _⟩, _⟩:=I.loc
 rw [z,ho'] at ho;cases ho;rw [hd'] at hd;cases hd
theorem Inv.funs (I:Inv X pins σ H s):s.heap.FunFrames X.base X.outer:=by
 have all:∀ (l:List Env),(∀ b∈frs l,b∈X.fs)→X.s₀.heap.FunFrames X.base l→s.heap.FunFrames X.base l:=by
  intro l
  induction l with
  | nil=>intro _ _;trivial
  | cons env r ih =>
   intro hs hl
   obtain ⟨hk,⟨L,o,hf,hn,ho, hd⟩, hr⟩:=hl
   have hL:L∈X.fs:=hs L (by unfold frs;rw [List.filterMap_cons,hf];exact Zd)
   obtain ⟨sl,e⟩:=I.base.slot L o ho (I.ok.frf L hL) hL fun z=>I.ok.exfs L z hL
   exact ⟨hk,⟨L,_,hf,hn,e, hd⟩, ih (fun b hb=>hs b (by unfold frs;rw [List.filterMap_cons,hf];exact Zw _ hb)) hr⟩
 exact all X.outer (fun _ hb=>hb) I.ok.funs
theorem Inv.stack (I:Inv X pins σ H s):s.heap.FunFrames X.base X.stack:=by
 rcases I.ok.stk with e | ⟨e,hf⟩
 ·rw [e];exact I.funs
 ·rw [e]
  obtain ⟨m,hn, _⟩:=I.loc
  refine .cons (by rw [I.ok.kind];decide) hf hn ?_ I.funs
  exact Heap.get?_none_of_le (Yr I.ok.bsz I.ok.above)
theorem Inv.stkSub (I:Inv X pins σ H s):∀ b∈frs X.stack,b∈X.env.locals::X.fs:=fun b hb=>by
 rcases I.ok.stk with e | ⟨e,hf⟩
 ·rw [e] at hb;exact Zw _ hb
 ·rw [e] at hb
  unfold frs at hb
  rw [List.filterMap_cons,hf] at hb
  exact hb
theorem Inv.stkFree (I:Inv X pins σ H s):∀ b∈frs X.stack,H b=none:=fun b hb=>by
 rcases Zn.mp (I.stkSub b hb) with e | hb
 ·rw [e];exact I.free
 ·obtain ⟨_,o,ho, _⟩:=I.ok.funs.mem hb
  exact I.base.free b o ho (I.ok.frf b hb) fun z=>I.ok.exfs b z hb
theorem Inv.step {g':Array GenState} {t':Nat} {d':Drawn} {ch:List Addr} (I:Inv X pins σ H s)
  (hch:∀ b∈ch,(b∈X.ex∨X.s₀.heap.objs.size≤b)∧b≠X.env.locals∧(∀ x c,X.env.cells.lookup x=some c→c≠b)∧∀ p∈X.pn++pins,p.1≠b)
  (keep:∀ b o,b≠X.env.locals→b∉X.fs→b∉ch→s.heap.get? b=some o→H b=none→h'.get? b=some o)
  (slot:∀ b o,b≠X.env.locals→b∈X.fs→b∉ch→s.heap.get? b=some o→H b=none→∃ sl,h'.get? b=some { o with slots:=sl }) (free:∀ b o,b∉ch→s.heap.get? b=some o→H b=none→H' b=none)
  (there:∀ b o,b∉ch→s.heap.get? b=some o→∃ o',h'.get? b=some o')
  (tups:∀ b xs,H b=some (.tup xs)→H' b=some (.tup xs)) (frzs:∀ b o u,H b=some (.frz o u)→H' b=some (.frz o u)) (tbls:∀ b ps,H b=some (.tbl ps)→∃ more,H' b=some (.tbl (ps++more)))
  (ns:∀ m,s.heap.Ns X.env.locals m→h'.Ns X.env.locals m) (hok:HOk X.prog X.w H' h') (hg:AllBare g') :
  Inv X pins σ H' { s with heap:=h',gens:=g',drawn:=d',toks:=t' }:=by
 have neL:∀ b o,X.s₀.heap.get? b=some o→b≠X.env.locals:=fun b o e=>Nat.ne_of_lt (Yt (Heap.lt_size e) I.ok.above)
 have neC:∀ b o,X.s₀.heap.get? b=some o→b∉X.ex→b∉ch:=fun b o e hx hb=>by
  rcases (hch b hb).1 with z | z
  ·exact hx z
  ·exact absurd (Yt (Heap.lt_size e) z) (Nat.lt_irrefl _)
 have cellK:∀ x c,X.env.cells.lookup x=some c→∀ v,s.heap.IsCell c v→h'.IsCell c v:=fun x c e v ⟨o,ho,hd⟩=>by
  have nch:c∉ch:=fun z=>(hch c z).2.2.1 x c e rfl
  by_cases hc:c∈X.fs
  ·obtain ⟨sl,q⟩:=slot c o (I.cne x c e) hc nch ho (I.freeC x c e)
   exact ⟨_,q, hd⟩
  ·exact ⟨o,keep c o (I.cne x c e) hc nch ho (I.freeC x c e), hd⟩
 refine ⟨I.ok,I.os,hg,⟨fun b o e n hb hx=>?_,fun b o e n hb hx=>?_,fun b o e n hx=>?_,fun b o e hx=>?_,fun b xs e=>tups b xs (I.base.tups b xs e),fun b o xs e=>frzs b o xs (I.base.frzs b o xs e), fun b ps e=>?_⟩,?_,fun x c e=>?_,?_,fun x c e=>?_,fun p hp=>?_,hok, I.len⟩
 ·exact keep b o (neL b o e) hb (neC b o e hx) (I.base.keep b o e n hb hx) (I.base.free b o e n hx)
 ·obtain ⟨sl,e1⟩:=I.base.slot b o e n hb hx
  obtain ⟨sl',e2⟩:=slot b _ (neL b o e) hb (neC b o e hx) e1 (I.base.free b o e n hx)
  exact ⟨sl',e2⟩
 ·obtain ⟨o',e1⟩:=I.base.there b o e hx
  exact free b o' (neC b o e hx) e1 (I.base.free b o e n hx)
 ·obtain ⟨o',e1⟩:=I.base.there b o e hx
  exact there b o' (neC b o e hx) e1
 ·obtain ⟨m1,e1⟩:=I.base.tbls b ps e
  obtain ⟨m2,e2⟩:=tbls b _ e1
  exact ⟨m1++m2,by rw [e2,Array.append_assoc]⟩
 ·obtain ⟨m,hn, hl⟩:=I.loc
  refine ⟨m,ns m hn, fun i x v e1 e2 e3=>?_⟩
  obtain ⟨u,r, l⟩:=hl i x v e1 e2 e3
  refine ⟨u,r, ?_⟩
  rcases l with l | ⟨k,c,e, z⟩
  ·exact .inl l
  ·exact .inr ⟨k,c,e, cellK x c e _ z⟩
 ·obtain ⟨v,z⟩:=I.cell x c e
  exact ⟨v,cellK x c e v z⟩
 ·obtain ⟨m,⟨o,_,_,ho, _⟩, _⟩:=I.loc
  exact free _ o (fun z=>(hch _ z).2.1 rfl) ho I.free
 ·obtain ⟨v,o,ho, hd⟩:=I.cell x c e
  exact free c o (fun z=>(hch c z).2.2.1 x c e rfl) ho (I.freeC x c e)
 ·obtain ⟨e,n,ne,nf, d⟩:=I.pin p hp
  have nch:p.1∉ch:=fun z=>(hch p.1 z).2.2.2 p hp rfl
  exact ⟨keep p.1 p.2 ne nf nch e n,free p.1 p.2 nch e n,ne,nf, d⟩
theorem Inv.un {t':Nat} (I:Inv X pins σ H s) (u:Un X.fs [] H H' s.heap h') (hok:HOk X.prog X.w H' h'):Inv X pins σ H' { s with heap:=h',toks:=t' }:=by
 obtain ⟨m,⟨o,es,ep,ho, r⟩, _⟩:=id I.loc
 obtain ⟨sl,hL⟩:=u.any ho I.free (by simp)
 exact I.step (g':=s.gens) (d':=s.drawn) (ch:=[]) (fun _ z=>nomatch z) (fun b o _ hb _ e n=>u.keep b o e n hb (by simp)) (fun b o _ hb _ e n=>u.slot b o e n hb (by simp)) (fun b o _ e n=>u.free b o e n (by simp)) (fun b o _ e=>u.there b o e (by simp)) u.tups u.frzs u.tbls (fun m' hm=>by
  obtain ⟨o',es',ep',ho', r'⟩:=hm
  rw [ho] at ho';cases ho'
  exact ⟨_,es',ep',hL, r'⟩) hok I.bare
theorem Inv.call {g':Array GenState} {t':Nat} {d':Drawn} {ch:List Addr} (I:Inv X pins σ H s) (u:Un (frs X.stack) ch H H' s.heap h') (hok:HOk X.prog X.w H' h') (hg:AllBare g')
  (hch:∀ b∈ch,(b∈X.ex∨X.s₀.heap.objs.size≤b)∧b≠X.env.locals∧(∀ x c,X.env.cells.lookup x=some c→c≠b)∧∀ p∈X.pn++pins,p.1≠b) :
  Inv X pins σ H' { s with heap:=h',gens:=g',drawn:=d',toks:=t' }:=by
 obtain ⟨m,⟨o,es,ep,ho, r⟩, _⟩:=id I.loc
 obtain ⟨sl,hL⟩:=u.any ho I.free fun z=>(hch _ z).2.1 rfl
 exact I.step (ch:=ch) hch (fun b o hL hb hc e n=>u.keep b o e n (fun z=>(Zn.mp (I.stkSub b z)).elim hL hb) hc) (fun b o _ _ hc e n=>u.any e n hc) (fun b o hc e n=>u.free b o e n hc) (fun b o hc e=>u.there b o e hc) u.tups u.frzs u.tbls (fun m' hm=>by
  obtain ⟨o',es',ep',ho', r'⟩:=hm
  rw [ho] at ho';cases ho'
  exact ⟨_,es',ep',hL, r'⟩) hok hg
theorem Inv.turned {t':Nat} {it:Addr} (I:Inv X pins σ H s) (k:∀ b o,b≠it→s.heap.get? b=some o→h'.get? b=some o) (hn:H it=none) (hL:it≠X.env.locals)
  (h1:it∈X.ex∨X.s₀.heap.objs.size≤it) (h2:∀ x c,X.env.cells.lookup x=some c→c≠it) (h3:∀ p∈X.pn++pins,p.1≠it):Inv X pins σ H { s with heap:=h',toks:=t' }:=by
 have nit:∀ b u,H b=some u→b≠it:=fun b u e z=>by rw [z,hn] at e;cases e
 refine I.step (g':=s.gens) (d':=s.drawn) (ch:=[it]) (fun b hb=>?_) (fun b o _ _ hc e _=>k b o (fun z=>hc (by simp [z])) e) (fun b o _ _ hc e _=>⟨o.slots,k b o (fun z=>hc (by simp [z])) e⟩) (fun _ _ _ _ n=>n)
  (fun b o hc e=>⟨o,k b o (fun z=>hc (by simp [z])) e⟩) (fun _ _ e=>e) (fun _ _ _ e=>e) (fun b ps e=>⟨#[],by rw [e];simp⟩) (fun m hm=>?_) (fun b u e=>?_) I.bare
 ·have e:b=it:=by simpa using hb
  subst e
  exact ⟨h1,hL,h2, h3⟩
 ·obtain ⟨o,es,ep,ho, r⟩:=hm
  exact ⟨o,es,ep,k _ o (Ne.symm hL) ho, r⟩
 ·refine (I.hok b u e).stay (fun c v hc q=>k c v ?_ q) (fun _ q=>q) fun _ _ q=>q
  rcases hc with z | z
  ·rw [z];exact nit b u e
  ·exact nit c _ z
theorem Inv.tok (I:Inv X pins σ H s) (t:Nat):Inv X pins σ H { s with toks:=t }:=I.un (h':=s.heap) (t':=t) Un.refl I.hok
theorem Inv.kept {t':Nat} (I:Inv X pins σ H s) (k:∀ b u,s.heap.get? b=some u→h'.get? b=some u):Inv X pins σ H { s with heap:=h',toks:=t' }:=I.un (Un.kept k) (I.hok.kept k)
theorem Inv.laid {a:Addr} {o:HO} {t':Nat} (I:Inv X pins σ H s) (k:∀ b u,s.heap.get? b=some u→h'.get? b=some u) (hp:s.heap.objs.size≤a) (new:ObjOk X.prog X.w (upd H a o) h' a o) :
  Inv X pins σ (upd H a o) { s with heap:=h',toks:=t' }:=I.un (Un.laid k hp (I.hok.fresh hp)) (I.hok.laid k hp new)
theorem Inv.write {x e:Addr} {o:HO} {t':Nat} (I:Inv X pins σ H s) (mu:Mut (H x)) (he:e=x∨H e=some (.own x)) (k:∀ b u,b≠e→s.heap.get? b=some u→h'.get? b=some u) (heo:∃ u,h'.get? e=some u)
  (new:ObjOk X.prog X.w (upd H x o) h' x o):Inv X pins σ (upd H x o) { s with heap:=h',toks:=t' }:=I.un (Un.write mu he k heo) (I.hok.write mu he k heo new)
theorem Inv.weak {σ':List (Option V)} (I:Inv X pins σ H s) (hl:σ'.length=σ.length) (w:∀ (i:Nat) v,σ'[i]?=some (some v)→σ[i]?=some (some v)):Inv X pins σ' H s :=
 ⟨I.ok,I.os,I.bare,I.base,let ⟨m,hn,hl'⟩:=I.loc;⟨m,hn, fun i x v e1 e2 e3=>hl' i x v e1 (w i v e2) e3⟩,I.cell,I.free,I.freeC,I.pin,I.hok, hl.trans I.len⟩
theorem Inv.pins_of {pins':List (Addr×Obj)} (I:Inv X pins σ H s) (h:∀ p∈pins',s.heap.get? p.1=some p.2∧H p.1=none∧p.1≠X.env.locals∧p.1∉X.fs∧∀ v,p.2.data≠.cell v):Inv X pins' σ H s :=
 ⟨I.ok,I.os,I.bare,I.base,I.loc,I.cell,I.free,I.freeC,fun p hp=>(Zf.mp hp).elim (fun z=>I.pin p (List.mem_append_left _ z)) (h p),I.hok, I.len⟩
theorem nodup_ix {N:List Str} (hN:N.Nodup) {i j:Nat} {x:Str} (a:N[i]?=some x) (b:N[j]?=some x):i=j:=by
 obtain ⟨h1,e1⟩:=Zj.mp a
 obtain ⟨h2,e2⟩:=Zj.mp b
 exact (List.getElem_inj hN).mp (e1.trans e2.symm)
theorem store_ok2 {M:Model} {A:Around} {E:Value→Shared→Prop} {i:Nat} {x:Str} {v:V} {u:Value} {Q:Unit→Shared→Prop} (I:Inv X pins σ H s) (hN:X.N.Nodup) (hi:X.N[i]?=some x) (hx:Loc X.env.scope x) (r:RelV v u)
  (h:∀ s',Inv X pins (σ.set i (some v)) H s'→(∃ a,Heap.SameBut a s.heap s'.heap∧(a=X.env.locals∨X.env.cells.lookup x=some a))→Q () s') (hf:X.fn x=true∨X.env.scope.names.lookup x=some .local:=by first | exact .inl rfl | exact .inr rfl | assumption):wpAny M A (storeName X.env x u) Q E s:=by
 obtain ⟨m,hn, hl⟩:=id I.loc
 have hcls:(X.env.scope.kind==.class||(X.env.scope.kind==.module&&X.env.locals != X.env.globals))=false:=by rw [I.ok.kind];rfl
 have hiσ:i<σ.length:=by rw [I.len];exact (Zj.mp hi).1
 have cne:=I.cne
 have tracked:∀ {a:Addr} {h':Heap},(∃ o,s.heap.get? a=some o∧H a=none)→Heap.SameBut a s.heap h'→HOk X.prog X.w H h':=fun {a h'} ha hs b ob e=>by
  obtain ⟨_,_, hfree⟩:=ha
  refine (I.hok b ob e).stay (fun c w' hc q=>(hs.2 c ?_).trans q) (fun _ q=>q) fun _ _ q=>q
  rintro rfl
  rcases hc with rfl | hc
  ·rw [hfree] at e;cases e
  ·rw [hfree] at hc;cases hc
 rcases hx with hk | hk
 ·refine wpAny_storeName_local hk hn (fun h' hn' hs=>?_) hcls
  obtain ⟨oL,_,_,hoL, _⟩:=id hn
  refine h _ ⟨I.ok,I.os,I.bare,⟨fun b o e n hb hx=>?_,fun b o e n hb hx=>?_,I.base.free,fun b o e hx=>?_,I.base.tups,I.base.frzs, I.base.tbls⟩,⟨_,hn', fun j y v' e1 e2 e3=>?_⟩,fun y c e=>?_,I.free,I.freeC,fun p hp=>?_,tracked ⟨oL,hoL, I.free⟩ hs, by simpa using I.len⟩ ⟨_,hs, .inl rfl⟩
  ·exact (hs.2 b (Nat.ne_of_lt (Yt (Heap.lt_size e) I.ok.above))).trans (I.base.keep b o e n hb hx)
  ·obtain ⟨sl,e1⟩:=I.base.slot b o e n hb hx
   exact ⟨sl,(hs.2 b (Nat.ne_of_lt (Yt (Heap.lt_size e) I.ok.above))).trans e1⟩
  ·obtain ⟨o',e1⟩:=I.base.there b o e hx
   exact ⟨o',(hs.2 b (Nat.ne_of_lt (Yt (Heap.lt_size e) I.ok.above))).trans e1⟩
  ·by_cases hj:j=i
   ·subst hj
    rw [hi] at e1;cases e1
    rw [List.getElem?_set_self hiσ] at e2
    cases e2
    exact ⟨u,r, .inl ⟨hk,by simp⟩⟩
   ·rw [List.getElem?_set_ne (Ne.symm hj)] at e2
    obtain ⟨u',r', q⟩:=hl j y v' e1 e2 e3
    refine ⟨u',r', ?_⟩
    rcases q with ⟨k,e⟩ | ⟨k,c,e, z⟩
    ·refine .inl ⟨k,?_⟩
     have:y≠x:=fun e=>hj (nodup_ix hN e1 (e▸hi))
     simp [this,e]
    ·exact .inr ⟨k,c,e, z.sameBut hs (cne y c e)⟩
  ·obtain ⟨w',z⟩:=I.cell y c e
   exact ⟨w',z.sameBut hs (cne y c e)⟩
  ·obtain ⟨e,n,ne,nf, d⟩:=I.pin p hp
   exact ⟨(hs.2 p.1 ne).trans e,n,ne,nf, d⟩
 ·have hfn:X.fn x=true:=by
   rcases hf with z | z
   ·exact z
   ·rw [z] at hk;cases hk
  obtain ⟨c,hc⟩:=I.ok.has x (.inl hk)
  obtain ⟨w',z⟩:=I.cell x c hc
  refine wpAny_storeName_cell I.ok.kind hk hc z (fun h' hc' hs=>?_)
  obtain ⟨oc,hoc, hocd⟩:=id z
  refine h { s with heap:=h' } ⟨I.ok,I.os,I.bare,⟨fun b o e n hb hx=>?_,fun b o e n hb hx=>?_,I.base.free,fun b o e hx=>?_,I.base.tups,I.base.frzs, I.base.tbls⟩,⟨m,hn.sameBut hs (Ne.symm (cne x c hc)), fun j y v' e1 e2 e3=>?_⟩,fun y c' e=>?_,I.free,I.freeC,fun p hp=>?_,tracked ⟨oc,hoc, I.freeC x c hc⟩ hs, by simpa using I.len⟩ ⟨c,hs, .inr hc⟩
  ·exact (hs.2 b (Nat.ne_of_lt (Yt (Heap.lt_size e) (I.ok.cab x c hfn hc)))).trans (I.base.keep b o e n hb hx)
  ·obtain ⟨sl,e1⟩:=I.base.slot b o e n hb hx
   exact ⟨sl,(hs.2 b (Nat.ne_of_lt (Yt (Heap.lt_size e) (I.ok.cab x c hfn hc)))).trans e1⟩
  ·obtain ⟨o',e1⟩:=I.base.there b o e hx
   exact ⟨o',(hs.2 b (Nat.ne_of_lt (Yt (Heap.lt_size e) (I.ok.cab x c hfn hc)))).trans e1⟩
  ·by_cases hj:j=i
   ·subst hj
    rw [hi] at e1;cases e1
    rw [List.getElem?_set_self hiσ] at e2
    cases e2
    exact ⟨u,r, .inr ⟨.inl hk,c,hc, hc'⟩⟩
   ·rw [List.getElem?_set_ne (Ne.symm hj)] at e2
    obtain ⟨u',r', q⟩:=hl j y v' e1 e2 e3
    refine ⟨u',r', ?_⟩
    rcases q with q | ⟨k,c',e, z'⟩
    ·exact .inl q
    ·refine .inr ⟨k,c',e, z'.sameBut hs ?_⟩
     rintro rfl
     exact hj (nodup_ix hN e1 (I.ok.inj _ _ _ e hc▸hi))
  ·by_cases hcc:c'=c
   ·subst hcc;exact ⟨_,hc'⟩
   ·obtain ⟨w2,z2⟩:=I.cell y c' e
    exact ⟨w2,z2.sameBut hs hcc⟩
  ·obtain ⟨e,n,ne,nf, d⟩:=I.pin p hp
   refine ⟨(hs.2 p.1 ?_).trans e,n,ne,nf, d⟩
   intro q
   rw [q,hoc] at e
   have q':oc=p.2:=Option.some.inj e
   exact d w' (by rw [←q'];exact hocd)
theorem store_ok {M:Model} {A:Around} {E:Value→Shared→Prop} {i:Nat} {x:Str} {v:V} {u:Value} {Q:Unit→Shared→Prop} (I:Inv X pins σ H s) (hN:X.N.Nodup) (hi:X.N[i]?=some x) (hx:Loc X.env.scope x) (r:RelV v u)
  (h:∀ s',Inv X pins (σ.set i (some v)) H s'→Q () s') (hf:X.fn x=true∨X.env.scope.names.lookup x=some .local:=by first | exact .inl rfl | exact .inr rfl | assumption):wpAny M A (storeName X.env x u) Q E s :=
 store_ok2 I hN hi hx r (fun s' I' _=>h s' I') hf
theorem Inv.call' {s':Shared} {ch:List Addr} (I:Inv X pins σ H s) (ho:s'.os=s.os) (u:Un (frs X.stack) ch H H' s.heap s'.heap) (hok:HOk X.prog X.w H' s'.heap) (hg:AllBare s'.gens)
  (hch:∀ b∈ch,(b∈X.ex∨X.s₀.heap.objs.size≤b)∧b≠X.env.locals∧(∀ x c,X.env.cells.lookup x=some c→c≠b)∧∀ p∈X.pn++pins,p.1≠b):Inv X pins σ H' s':=by
 obtain ⟨h',g',d',t', o'⟩:=s'
 have e:o'=s.os:=ho
 subst e
 exact I.call (g':=g') (t':=t') (d':=d') u hok hg hch
end
abbrev XK:=Value→Option Addr→Hp→Prop
abbrev St:=List (Option V)
abbrev VK:=V→Hp→Prop
abbrev TE:=St→Hp→VK→Prop
abbrev TT:=St→Hp→(Bool→Hp→Prop)→Prop
abbrev TA:=St→Hp→(List V→Hp→Prop)→Prop
structure Ends where
 nx:St→Hp→Prop
 rt:VK
 bk:St→Hp→Prop:=fun _ _=>False
 ct:St→Hp→Prop:=fun _ _=>False
abbrev TS:=Ends→St→Hp→Prop
def EP (X:Cx) (pins:List (Addr×Obj)) (σ:St) (Q:VK) (u:Value) (s':Shared):Prop:=∃ v H',Inv X pins σ H' s'∧RelV v u∧Q v H'
def TP (X:Cx) (pins:List (Addr×Obj)) (σ:St) (Q:Bool→Hp→Prop) (b:Bool) (s':Shared):Prop:=∃ H',Inv X pins σ H' s'∧Q b H'
def AP (X:Cx) (pins:List (Addr×Obj)) (σ:St) (Q:List V→Hp→Prop) (us:List Value) (s':Shared):Prop:=∃ vs H',Inv X pins σ H' s'∧Vals vs us∧Q vs H'
def SP (X:Cx) (pins:List (Addr×Obj)) (D:Ends) (f:Flow) (s':Shared):Prop :=
 match f with
 | .next=>∃ σ' H',Inv X pins σ' H' s'∧D.nx σ' H'
 | .brk=>∃ σ' H',Inv X pins σ' H' s'∧D.bk σ' H'
 | .cont=>∃ σ' H',Inv X pins σ' H' s'∧D.ct σ' H'
 | .ret u=>∃ v σ' H',Inv X pins σ' H' s'∧RelV v u∧D.rt v H'
def PE (X:Cx) (e:Expr) (t:TE):Prop :=
 ∀ (pins:List (Addr×Obj)) (s:Shared) (σ:St) (H:Hp) (Q:VK),Inv X pins σ H s→t σ H Q→wpAny (model X.prog X.w) X.A (eval e X.env) (EP X pins σ Q) X.xe s
def PT (X:Cx) (e:Expr) (t:TT):Prop :=
 ∀ (pins:List (Addr×Obj)) (s:Shared) (σ:St) (H:Hp) (Q:Bool→Hp→Prop),Inv X pins σ H s→t σ H Q→wpAny (model X.prog X.w) X.A (isTrue e X.env (eval e X.env)) (TP X pins σ Q) X.xe s
def PW (X:Cx) (e:Expr) (t:TT):Prop :=
 ∀ (whole:Sem Value) (pins:List (Addr×Obj)) (s:Shared) (σ:St) (H:Hp) (Q:Bool→Hp→Prop),Inv X pins σ H s→t σ H Q→wpAny (model X.prog X.w) X.A (isTrue e X.env whole) (TP X pins σ Q) X.xe s
theorem PW.pt {X:Cx} {e:Expr} {t:TT} (h:PW X e t):PT X e t:=h _
def PA (X:Cx) (es:List Expr) (t:TA):Prop :=
 ∀ (pos:Pos) (pins:List (Addr×Obj)) (s:Shared) (σ:St) (H:Hp) (Q:List V→Hp→Prop),Inv X pins σ H s→t σ H Q→wpAny (model X.prog X.w) X.A (spliced (backTo pos (starEach es X.env))) (AP X pins σ Q) X.xe s
def PS (X:Cx) (st:Stmt) (t:TS):Prop :=
 ∀ (pins:List (Addr×Obj)) (s:Shared) (σ:St) (H:Hp) (D:Ends),Inv X pins σ H s→t D σ H→wpAny (model X.prog X.w) X.A (exec st X.env) (SP X pins D) X.xe s
def PSs (X:Cx) (st:List Stmt) (t:TS):Prop :=
 ∀ (pins:List (Addr×Obj)) (s:Shared) (σ:St) (H:Hp) (D:Ends),Inv X pins σ H s→t D σ H→wpAny (model X.prog X.w) X.A (execs st X.env) (SP X pins D) X.xe s
theorem thn {α:Type} {t:Sem α} {Q Q':α→Shared→Prop} {M:Model} {A:Around} {E:Value→Shared→Prop} {s:Shared} (h:wpAny M A t Q E s) (hQ:∀ a s,Q a s→Q' a s):wpAny M A t Q' E s:=wpAny_mono h hQ fun _ _ x=>x
end L2
namespace L2
open PySem PySem.Spec PyProof.Rows
section
variable {X:Cx}
theorem bin {a b:Expr} {ta tb:TE} (ha:PE X a ta) (hb:PE X b tb) {pins:List (Addr×Obj)} {s:Shared} {σ:St} {H:Hp} {R:V→V→Hp→Prop} (I:Inv X pins σ H s) (h:ta σ H fun x H1=>tb σ H1 fun y H2=>R x y H2)
  {α:Type} {Q:α→Shared→Prop} {f:Value→Value→Sem α}
  (hf:∀ v u s2 x y H2,Inv X pins σ H2 s2→RelV x v→RelV y u→R x y H2→wpAny (model X.prog X.w) X.A (f v u) Q X.xe s2) :
  wpAny (model X.prog X.w) X.A (eval a X.env) (fun v s₁=>wpAny (model X.prog X.w) X.A (eval b X.env) (fun u s₂=>wpAny (model X.prog X.w) X.A (f v u) Q X.xe s₂) X.xe s₁) X.xe s:=by
 refine thn (ha pins s σ H _ I h) fun v s1 ⟨x,H1,I1,r1,q1⟩=>?_
 refine thn (hb pins s1 σ H1 _ I1 q1) fun u s2 ⟨y,H2,I2,r2,q2⟩=>?_
 exact hf v u s2 x y H2 I2 r1 r2 q2
def tVar (i:Nat):TE:=fun σ H Q=>∃ v,σ[i]?=some (some v)∧Q v H
def tC (v:V):TE:=fun _ H Q=>Q v H
theorem pe_var {i:Nat} {x:Str} {pos:Pos} (hN:X.N[i]?=some x) (hv:Vis X.env.scope x) (hd:(x==("__debug__" : Str))=false:=by decide) (hcd:(x==("__classdict__" : Str))=false:=by decide):PE X (.Name x pos) (tVar i):=by
 intro pins s σ H Q I h
 obtain ⟨v,e, h⟩:=h
 obtain ⟨m,hn, hl⟩:=I.loc
 obtain ⟨u,r, l⟩:=hl i x v hN e hv
 have fin:EP X pins σ Q u s:=⟨v,H,I,r, h⟩
 rcases l with ⟨hk,hm⟩ | ⟨hk,c,hc, hcell⟩
 ·exact wpAny_Name (wpAny_loadName_local I.ok.kind hk hn hm fin) hd
 ·rcases hk with hk | hk
  ·exact wpAny_Name (wpAny_loadName_cell I.ok.kind hk hc hcell fin) hd
  ·exact wpAny_Name (wpAny_loadName_free I.ok.kind hk hc hcell fin hcd) hd
theorem pe_int {i j pos}:PE X (.Constant (.int i) j pos) (tC (.int i)):=fun _ _ _ H _ I h=>wpAny_Constant_int ⟨.int i,H,I.tok _,⟨_,rfl⟩, h⟩
theorem pe_bl {b j pos}:PE X (.Constant (.bool b) j pos) (tC (.bl b)):=fun _ _ _ H _ I h=>Constant_bool ⟨.bl b,H,I,rfl, h⟩
theorem pe_non {j pos}:PE X (.Constant .none j pos) (tC .non):=fun _ _ _ H _ I h=>Constant_none ⟨.non,H,I,rfl, h⟩
theorem pe_str {x j pos}:PE X (.Constant (.str x) j pos) (tC (.str x)):=fun _ _ _ H _ I h=>Calls.Constant_str ⟨.str x,H,I.tok _,⟨_,rfl⟩, h⟩
def Gl (X:Cx) (x:Str):Prop:=X.env.kindOf x=some .globalImplicit
theorem ld_glob {E:Value→Shared→Prop} {pins:List (Addr×Obj)} {s:Shared} {σ:St} {H:Hp} {x:Str} {u:Value} {pos:Pos} {Q:Value→Shared→Prop} (I:Inv X pins σ H s) (hg:Gl X x) (hm:X.mg x=some u) (h:Q u s)
  (hd:(x==("__debug__" : Str))=false:=by decide):wpAny (model X.prog X.w) X.A (eval (.Name x pos) X.env) Q E s :=
 Calls.Name_function_global I.ok.kind hg (Calls.loadGlobal_global (by rw [I.ok.glob];exact I.mod.glob.keeps I.bk) hm h) hd
theorem ld_blt {E:Value→Shared→Prop} {pins:List (Addr×Obj)} {s:Shared} {σ:St} {H:Hp} {x:Str} {u:Value} {pos:Pos} {Q:Value→Shared→Prop} (I:Inv X pins σ H s) (hg:Gl X x) (hm:X.mg x=none) (hv:bootBuiltins x=some u) (h:Q u s)
  (hn:x≠"__name__":=by decide) (hd:(x==("__debug__" : Str))=false:=by decide):wpAny (model X.prog X.w) X.A (eval (.Name x pos) X.env) Q E s:=by
 obtain ⟨mb,h1, h2⟩:=I.mod.blt
 exact Calls.Name_function_global I.ok.kind hg (Calls.loadGlobal_builtin (by rw [I.ok.glob];exact I.mod.glob.keeps I.bk) hm (by rw [I.ok.blt];exact h1.keeps I.bk) ((h2 x hn).trans hv) h) hd
theorem pe_glob {x:Str} {v:V} {u:Value} {pos:Pos} (hg:Gl X x) (hm:X.mg x=some u) (r:RelV v u) (hd:(x==("__debug__" : Str))=false:=by decide):PE X (.Name x pos) (tC v) :=
 fun _ _ _ H _ I h=>ld_glob I hg hm ⟨v,H,I,r, h⟩ hd
theorem pe_bltn {x:Str} {v:V} {u:Value} {pos:Pos} (hg:Gl X x) (hm:X.mg x=none) (hv:bootBuiltins x=some u) (r:RelV v u) (hn:x≠"__name__":=by decide) (hd:(x==("__debug__" : Str))=false:=by decide):PE X (.Name x pos) (tC v) :=
 fun _ _ _ H _ I h=>ld_blt I hg hm hv ⟨v,H,I,r, h⟩ hn hd
variable {a b:Expr} {ta tb:TE} {pos:Pos}
variable {tA tB':TT} {rest:List Expr}
def tAnd (t u:TT):TT:=fun σ H Q=>t σ H fun c H1=>if c=true then u σ H1 Q else Q false H1
def tOr (t u:TT):TT:=fun σ H Q=>t σ H fun c H1=>if c=true then Q true H1 else u σ H1 Q
def tNot (t:TT):TT:=fun σ H Q=>t σ H fun c H1=>Q (!c) H1
theorem pw_and1 (ha:PT X a tA):PW X (.BoolOp .And [a] pos) tA:=by
 intro wh pins s σ H Q I h
 refine isTrue_and (thn (ha pins s σ H Q I h) fun c s1 e=>?_)
 cases c with
 | true=>exact isTrue_and_nil e
 | false=>exact e
theorem pw_or1 (ha:PT X a tA):PW X (.BoolOp .Or [a] pos) tA:=by
 intro wh pins s σ H Q I h
 refine isTrue_or (thn (ha pins s σ H Q I h) fun c s1 e=>?_)
 cases c with
 | false=>exact isTrue_or_nil e
 | true=>exact e
theorem pw_and (ha:PT X a tA) (hb:PW X (.BoolOp .And (b::rest) pos) tB'):PW X (.BoolOp .And (a::b::rest) pos) (tAnd tA tB'):=by
 intro wh pins s σ H Q I h
 refine isTrue_and (thn (ha pins s σ H _ I h) fun c s1 ⟨H1,I1,q1⟩=>?_)
 cases c with
 | true=>exact hb wh pins s1 σ H1 Q I1 q1
 | false=>exact ⟨H1,I1, q1⟩
theorem pw_or (ha:PT X a tA) (hb:PW X (.BoolOp .Or (b::rest) pos) tB'):PW X (.BoolOp .Or (a::b::rest) pos) (tOr tA tB'):=by
 intro wh pins s σ H Q I h
 refine isTrue_or (thn (ha pins s σ H _ I h) fun c s1 ⟨H1,I1,q1⟩=>?_)
 cases c with
 | true=>exact ⟨H1,I1, q1⟩
 | false=>exact hb wh pins s1 σ H1 Q I1 q1
theorem pt_not (ha:PT X a tA):PT X (.UnaryOp .Not a pos) (tNot tA):=by
 intro pins s σ H Q I h
 exact isTrue_not (ha pins s σ H (fun c H1=>Q (!c) H1) I h)
def tIf (t:TT) (ta tb:TE):TE:=fun σ H Q=>t σ H fun c H1=>if c=true then ta σ H1 Q else tb σ H1 Q
theorem pe_ifExp {c:Expr} (hc:PT X c tA) (ha:PE X a ta) (hb:PE X b tb):PE X (.IfExp c a b pos) (tIf tA ta tb):=by
 intro pins s σ H Q I h
 refine wpAny_IfExp (thn (hc pins s σ H _ I h) fun d s1 ⟨H1,I1,q1⟩=>?_)
 cases d with
 | true=>exact ha pins s1 σ H1 Q I1 q1
 | false=>exact hb pins s1 σ H1 Q I1 q1
end
end L2
namespace L2
open PySem PySem.Spec PyProof.Rows
def SqL (K:PySem.W.Frag) (H:Hp) (a:Addr) (xs:List V):Prop :=
 Rd H a (.lst xs) ∨
  ∃ (o:Obj) (its:Array Value) (n:Nat),K.lookup a=some o∧o.cls=.type "list"∧o.dict=none∧o.data=.seq its n∧its.size≤sizeLine∧Vals xs its.toList
def SqT (K:PySem.W.Frag) (H:Hp) (a:Addr) (xs:List V):Prop :=
 Rd H a (.tup xs) ∨
  ∃ (o:Obj) (its:Array Value) (n:Nat),K.lookup a=some o∧o.cls=.type "tuple"∧o.data=.seq its n∧its.size≤sizeLine∧Vals xs its.toList
def absV:Value→Option V
 | .none=>some .non
 | .bool b=>some (.bl b)
 | .int i _=>some (.int i)
 | .str x _=>some (.str x)
 | .bytes b _=>some (.byt b)
 | .float b _=>some (.flt b)
 | .ref a=>some (.ref a)
 | .type n=>some (.ty n)
 | _=>none
theorem RelV.abs {x:V} {u:Value} (r:RelV x u):absV u=some x:=by
 cases x with
 | non=>cases r;rfl
 | bl _=>cases r;rfl
 | int _=>obtain ⟨t,rfl⟩:=r;rfl
 | str _=>obtain ⟨t,rfl⟩:=r;rfl
 | byt _=>obtain ⟨t,rfl⟩:=r;rfl
 | flt _=>obtain ⟨t,rfl⟩:=r;rfl
 | ref _=>cases r;rfl
 | ty _=>cases r;rfl
theorem RelV.inj {x y:V} {u:Value} (r:RelV x u) (q:RelV y u):x=y:=Option.some.inj (r.abs.symm.trans q.abs)
theorem Vals.inj:∀ {xs ys:List V} {us:List Value},Vals xs us→Vals ys us→xs=ys
 | _,_,_,.nil,.nil=>rfl
 | _,_,_,.cons r t,.cons r' t'=>by rw [r.inj r',Vals.inj t t']
section
variable {X:Cx} {pins:List (Addr×Obj)} {σ:St} {H:Hp} {s:Shared} {a:Addr} {xs ys:List V}
theorem SqL.of {K:PySem.W.Frag} (h:H a=some (.lst xs)):SqL K H a xs:=.inl (.inl h)
theorem SqT.of {K:PySem.W.Frag} (h:H a=some (.tup xs)):SqT K H a xs:=.inl (.inl h)
theorem Inv.list (I:Inv X pins σ H s) (h:SqL X.K H a xs):∃ its:List Value,Vals xs its∧PlainL s.heap a its.toArray∧xs.length≤sizeLine:=by
 rcases h with h | ⟨o,its,n,hk,hc,hd,hs,hz, r⟩
 ·obtain ⟨z,its,n,r, e⟩:=h.ok I.hok
  exact ⟨its,r,⟨_,n,e,rfl,rfl, rfl⟩, z⟩
 ·refine ⟨its.toList,r,⟨o,n,I.kIn a o hk,hc,hd, by simpa using hs⟩, ?_⟩
  have e:=r.length
  simp only [Array.length_toList] at e
  omega
theorem Inv.tuple (I:Inv X pins σ H s) (h:SqT X.K H a xs):∃ its:List Value,Vals xs its∧IsTup s.heap a its.toArray∧xs.length≤sizeLine:=by
 rcases h with h | ⟨o,its,n,hk,hc,hs,hz, r⟩
 ·obtain ⟨z,its,r, p⟩:=h.ok I.hok
  exact ⟨its,r,p, z⟩
 ·refine ⟨its.toList,r,⟨o,I.kIn a o hk,hc,n, by simpa using hs⟩, ?_⟩
  have e:=r.length
  simp only [Array.length_toList] at e
  omega
theorem Inv.list_inj (I:Inv X pins σ H s) (h:SqL X.K H a xs) (h':SqL X.K H a ys):xs=ys:=by
 obtain ⟨its,r,⟨o,n,e,_,_, d⟩, _⟩:=I.list h
 obtain ⟨its',r',⟨o',n',e',_,_, d'⟩, _⟩:=I.list h'
 rw [e] at e';cases e'
 rw [d] at d'
 injection d' with d1 _
 have:its=its':=by simpa using congrArg Array.toList d1
 subst this
 exact r.inj r'
end
abbrev Cx.wish (X:Cx) (E:Value→Shared→Prop):Cx:={ X with xe:=E }
abbrev Cx.nox (X:Cx):Cx:=X.wish fun _ _=>False
theorem Cx.Ok.wish {X:Cx} (ok:X.Ok) (E:Value→Shared→Prop):(X.wish E).Ok :=
 ⟨ok.mod,ok.kind,ok.glob,ok.blt,ok.above,ok.inj,ok.has,ok.cab,ok.hd,ok.frames,ok.stk,ok.exf,ok.bs,ok.bsz,ok.noex,ok.exfs,ok.funs, ok.frf⟩
theorem Cx.Ok.unwish {X:Cx} {E:Value→Shared→Prop} (ok:(X.wish E).Ok):X.Ok :=
 ⟨ok.mod,ok.kind,ok.glob,ok.blt,ok.above,ok.inj,ok.has,ok.cab,ok.hd,ok.frames,ok.stk,ok.exf,ok.bs,ok.bsz,ok.noex,ok.exfs,ok.funs, ok.frf⟩
section
variable {X:Cx} {pins:List (Addr×Obj)} {σ:St} {H:Hp} {s:Shared} {E:Value→Shared→Prop}
theorem Inv.wish (I:Inv X pins σ H s) (E:Value→Shared→Prop):Inv (X.wish E) pins σ H s:=⟨I.ok.wish E,I.os,I.bare,I.base,I.loc,I.cell,I.free,I.freeC,I.pin,I.hok, I.len⟩
theorem Inv.unwish (I:Inv (X.wish E) pins σ H s):Inv X pins σ H s:=⟨I.ok.unwish,I.os,I.bare,I.base,I.loc,I.cell,I.free,I.freeC,I.pin,I.hok, I.len⟩
theorem SP.unwish {D:Ends} {f:Flow} {s':Shared} (h:SP (X.wish E) pins D f s'):SP X pins D f s':=by
 cases f with
 | next=>obtain ⟨σ',H',I, q⟩:=h;exact ⟨σ',H',I.unwish, q⟩
 | brk=>obtain ⟨σ',H',I, q⟩:=h;exact ⟨σ',H',I.unwish, q⟩
 | cont=>obtain ⟨σ',H',I, q⟩:=h;exact ⟨σ',H',I.unwish, q⟩
 | ret u=>obtain ⟨v,σ',H',I,r, q⟩:=h;exact ⟨v,σ',H',I.unwish,r, q⟩
theorem PSs.nox {st:List Stmt} {t:TS} (h:PSs X.nox st t):PSs X st t:=fun pins s σ H D I hw =>
 wpAny_mono (h pins s σ H D (I.wish _) hw) (fun _ _ q=>q.unwish) fun _ _ z=>False.elim z
end
section
variable {X:Cx} {st:Stmt} {rest:List Stmt} {t u:TS} {e:Expr} {te:TE} {pos:Pos}
def tNext:TS:=fun D σ H=>D.nx σ H
def tSeq (t u:TS):TS:=fun D σ H=>t { D with nx:=u D } σ H
theorem pss_nil:PSs X [] tNext:=fun _ _ σ H _ I h=>wpAny_execs_nil ⟨σ,H,I, h⟩
theorem pss_cons (h1:PS X st t) (h2:PSs X rest u):PSs X (st::rest) (tSeq t u):=by
 intro pins s σ H D I h
 refine wpAny_execs_cons (thn (h1 pins s σ H { D with nx:=u D } I h) fun f s1 q=>?_)
 cases f with
 | next =>
  obtain ⟨σ',H',I', q⟩:=q
  exact h2 pins s1 σ' H' D I' q
 | ret v=>exact q
 | brk=>exact q
 | cont=>exact q
theorem pss_one (h1:PS X st t):PSs X [st] t:=by
 intro pins s σ H D I h
 refine wpAny_execs_cons (thn (h1 pins s σ H D I h) fun f s1 q=>?_)
 cases f with
 | next=>exact wpAny_execs_nil q
 | ret v=>exact q
 | brk=>exact q
 | cont=>exact q
theorem Inv.quiet {pins:List (Addr×Obj)} {σ:St} {H:Hp} {s:Shared} (I:Inv X pins σ H s):interactive X.env=false:=by simp [interactive,I.ok.kind]
def tDrop (te:TE):TS:=fun D σ H=>te σ H fun _ H1=>D.nx σ H1
theorem ps_expr (he:PE X e te) (hs:swapsWith e none pos.line X.env=pure false:=by rfl):PS X (.Expr e pos) (tDrop te):=by
 intro pins s σ H D I h
 exact wpAny_Expr_any (thn (he pins s σ H _ I h) fun v s1 ⟨x,H1,I1,r1,q1⟩=>⟨σ,H1,I1, q1⟩) I.quiet hs
def tRet (te:TE):TS:=fun D σ H=>te σ H D.rt
theorem ps_ret (he:PE X e te):PS X (.Return (some e) pos) (tRet te):=by
 intro pins s σ H D I h
 exact wpAny_Return_some (thn (he pins s σ H _ I h) fun v s1 ⟨x,H1,I1,r1,q1⟩=>⟨x,σ,H1,I1,r1, q1⟩)
def tIfS (c:TT) (t u:TS):TS:=fun D σ H=>c σ H fun b H1=>if b=true then t D σ H1 else u D σ H1
theorem ps_if {c:Expr} {a b:List Stmt} {tc:TT} (hc:PT X c tc) (ha:PSs X a t) (hb:PSs X b u):PS X (.If c a b pos) (tIfS tc t u):=by
 intro pins s σ H D I h
 refine wpAny_If (thn (hc pins s σ H _ I h) fun d s1 ⟨H1,I1,q1⟩=>?_)
 cases d with
 | true=>exact ha pins s1 σ H1 D I1 q1
 | false=>exact hb pins s1 σ H1 D I1 q1
end
abbrev TG:=V→St→Hp→(St→Hp→Prop)→Prop
abbrev TGs:=List V→St→Hp→(St→Hp→Prop)→Prop
def PG (X:Cx) (target:Expr) (t:TG):Prop :=
 ∀ (pins:List (Addr×Obj)) (s:Shared) (σ:St) (H:Hp) (v:V) (u:Value) (Q:St→Hp→Prop),Inv X pins σ H s→RelV v u→t v σ H Q →
  wpAny (model X.prog X.w) X.A (assign target X.env u) (fun _ s'=>∃ σ' H',Inv X pins σ' H' s'∧Q σ' H') X.xe s
def PGs (X:Cx) (ts:List Expr) (t:TGs):Prop :=
 ∀ (pins:List (Addr×Obj)) (s:Shared) (σ:St) (H:Hp) (vs:List V) (us:List Value) (Q:St→Hp→Prop),Inv X pins σ H s→Vals vs us→t vs σ H Q →
  wpAny (model X.prog X.w) X.A (assignInOrder ((assignEach ts X.env).map (·.2)) us) (fun _ s'=>∃ σ' H',Inv X pins σ' H' s'∧Q σ' H') X.xe s
abbrev TSet:=V→V→V→Hp→(Hp→Prop)→Prop
def PSet (X:Cx) (t:TSet):Prop :=
 ∀ (pins:List (Addr×Obj)) (s:Shared) (σ:St) (H:Hp) (o i v:V) (ov iv u:Value) (Q:Hp→Prop),Inv X pins σ H s→RelV o ov→RelV i iv→RelV v u→t o i v H Q →
  wpAny (model X.prog X.w) X.A (setItem ov iv u) (fun _ s'=>∃ H',Inv X pins σ H' s'∧Q H') X.xe s
section
variable {X:Cx} {pos:Pos}
def gName (i:Nat):TG:=fun v σ H Q=>Q (σ.set i (some v)) H
theorem pg_name {i:Nat} {x:Str} (hN:X.N.Nodup) (hi:X.N[i]?=some x) (hx:Loc X.env.scope x) (hf:X.fn x=true∨X.env.scope.names.lookup x=some .local:=by first | exact .inl rfl | exact .inr rfl | assumption):PG X (.Name x pos) (gName i):=by
 intro pins s σ H v u Q I r h
 exact wpAny_assign_Name (store_ok I hN hi hx r (fun s' I'=>⟨_,H,I', h⟩) hf)
def gNil:TGs:=fun vs σ H Q=>vs=[]∧Q σ H
def gCons (t:TG) (u:TGs):TGs:=fun vs σ H Q=>∃ v r,vs=v::r∧t v σ H fun σ' H'=>u r σ' H' Q
theorem pgs_nil:PGs X [] gNil:=by
 intro pins s σ H vs us Q I r h
 obtain ⟨e,h⟩:=h
 subst e
 cases r
 exact assignInOrder_nil ⟨σ,H,I, h⟩
theorem pgs_cons {e:Expr} {es:List Expr} {t:TG} {u:TGs} (h1:PG X e t) (h2:PGs X es u)
  (hs:(assignEach (e::es) X.env).map (·.2)=assign e X.env::(assignEach es X.env).map (·.2):=by rfl):PGs X (e::es) (gCons t u):=by
 intro pins s σ H vs us Q I r h
 obtain ⟨v,vr,e1, h⟩:=h
 subst e1
 cases r with
 | cons r rr =>
  rw [hs]
  refine assignInOrder_cons (thn (h1 pins s σ H _ _ _ I r h) fun _ s1 ⟨σ1,H1,I1,q1⟩=>?_)
  exact h2 pins s1 σ1 H1 _ _ Q I1 rr q1
def gTup (K:PySem.W.Frag) (n:Nat) (t:TGs):TG:=fun v σ H Q=>∃ a xs,v=.ref a∧SqT K H a xs∧xs.length=n∧t xs σ H Q
theorem pg_tup {es:List Expr} {k:Nat} {t:TGs} {n:Nat} (hc:X.calm=true) (h:PGs X es t)
  (hn:(assignEach es X.env).length=n:=by rfl) (hst:(assignEach es X.env).findIdx? (·.1)=none:=by rfl):PG X (.Tuple es k pos) (gTup X.K n t):=by
 intro pins s σ H v u Q I r hw
 obtain ⟨a,xs,e1,hq,hl, hw⟩:=hw
 subst e1
 cases r
 obtain ⟨its,rv,ht, hz⟩:=I.tuple hq
 refine assign_Tuple_tuple (I.ok.hd hc) ht (by simp [hn,←hl,rv.length]) hst fun h' hx=>?_
 have I1:Inv X pins σ H { s with heap:=h' }:=I.kept (t':=s.toks) fun b o e=>hx b o (Nat.ne_of_lt (Heap.lt_size e)) e
 exact h pins _ σ H xs _ Q I1 (by simpa using rv) hw
def gSub (to ti:TE) (t:TSet):TG:=fun v σ H Q=>to σ H fun o H1=>ti σ H1 fun i H2=>t o i v H2 fun H3=>Q σ H3
theorem pg_sub {o i:Expr} {to ti:TE} {t:TSet} (ho:PE X o to) (hi:PE X i ti) (hs:PSet X t)
  (ha:∀ v,assign (.Subscript o i pos) X.env v=(do
   let ov ←holding [v] (eval o X.env)
   let iv ←holding [v,ov] (eval i X.env)
   standAt pos
   holding [v,ov,iv] (setItem ov iv v)
   release [v,ov,iv] []):=by intro _;rfl):PG X (.Subscript o i pos) (gSub to ti t):=by
 intro pins s σ H v u Q I r h
 rw [ha]
 refine wpAny_bind (wpAny_holding (thn (ho pins s σ H _ I h) fun ov s1 ⟨x,H1,I1,r1,q1⟩=>?_))
 refine wpAny_bind (wpAny_holding (thn (hi pins s1 σ H1 _ I1 q1) fun iv s2 ⟨y,H2,I2,r2,q2⟩=>?_))
 refine wpAny_bind (wpAny_standAt (wpAny_bind (wpAny_holding (thn (hs pins s2 σ H2 x y v ov iv u _ I2 r1 r2 r q2) fun _ s3 ⟨H3,I3,q3⟩=>?_))))
 exact wpAny_release ⟨σ,H3,I3, q3⟩
def tAsg (te:TE) (g:TG):TS:=fun D σ H=>te σ H fun x H1=>g x σ H1 D.nx
theorem ps_asg {tg e:Expr} {te:TE} {g:TG} (he:PE X e te) (hg:PG X tg g) (hs:swapsWithSole [tg] e pos.line X.env=pure false:=by rfl) (hw:swappedStores [tg] e X.env=pure none:=by rfl)
  (h1:(assignEach [tg] X.env).map (·.2)=[assign tg X.env]:=by rfl):PS X (.Assign [tg] e pos) (tAsg te g):=by
 intro pins s σ H D I h
 refine wpAny_Assign_stores (thn (he pins s σ H _ I h) fun v s1 ⟨x,H1,I1,r1,q1⟩=>?_) hs hw
 rw [h1]
 exact thn (hg pins s1 σ H1 x v _ I1 r1 q1) fun _ s2 q=>q
theorem ps_set {i:Nat} {x:Str} {e:Expr} {te:TE} {pos':Pos} (hN:X.N.Nodup) (hi:X.N[i]?=some x) (hx:Loc X.env.scope x) (he:PE X e te) (hs:swapsWith e (some (.Name x pos')) pos.line X.env=pure false:=by rfl) (hf:X.fn x=true∨X.env.scope.names.lookup x=some .local:=by first | exact .inl rfl | exact .inr rfl | assumption) :
  PS X (.Assign [.Name x pos'] e pos) (tAsg te (gName i)):=by
 intro pins s σ H D I h
 refine wpAny_Assign_Name (thn (he pins s σ H _ I h) fun v s1 ⟨y,H1,I1,r1,q1⟩=>?_) hs
 exact store_ok I1 hN hi hx r1 (fun s2 I2=>⟨_,H1,I2, q1⟩) hf
end
section
variable {X:Cx} {pos:Pos}
def tWhile (c:TT) (tb:TS):TS:=fun D σ H=>∃ W:Nat→St→Hp→Prop,(∃ m,W m σ H)∧∀ m σ H,W m σ H →
 c σ H fun b H1=>if b=true then ∃ N:St→Hp→Prop,(∀ σ' H',N σ' H'→∃ m',m' < m∧W m' σ' H')∧tb { D with nx:=N,ct:=N,bk:=D.nx } σ H1 else D.nx σ H1
theorem ps_while {c:Expr} {body:List Stmt} {tc:TT} {tb:TS} (hp:PassesOwn (model X.prog X.w) X.A X.env X.xe) (hc:PT X c tc) (hb:PSs X body tb):PS X (.While c body [] pos) (tWhile tc tb):=by
 intro pins s σ H D I h
 obtain ⟨W,⟨m0,w0⟩, turn⟩:=h
 refine wpAny_While (codeAny_whileLoop (fun n s'=>∃ σ' H',Inv X pins σ' H' s'∧W n σ' H') ?_ m0 ⟨σ,H,I, w0⟩)
 rintro n s1 ⟨σ1,H1,I1, w1⟩
 refine wpAny_passesOwn hp (thn (hc pins s1 σ1 H1 _ I1 (turn n σ1 H1 w1)) fun b s2 ⟨H2,I2,q2⟩=>?_)
 cases b with
 | true =>
  obtain ⟨N,hN, q2⟩:=q2
  rw [if_pos rfl]
  refine wpAny_passesOwn hp (thn (hb pins s2 σ1 H2 _ I2 q2) fun f s3 q3=>?_)
  cases f with
  | next =>
   obtain ⟨σ3,H3,I3, n3⟩:=q3
   obtain ⟨m',hm, w3⟩:=hN σ3 H3 n3
   exact ⟨m',hm,σ3,H3,I3, w3⟩
  | cont =>
   obtain ⟨σ3,H3,I3, n3⟩:=q3
   obtain ⟨m',hm, w3⟩:=hN σ3 H3 n3
   exact ⟨m',hm,σ3,H3,I3, w3⟩
  | brk=>exact q3
  | ret v=>exact q3
 | false =>
  rw [if_neg Bool.false_ne_true]
  exact wpAny_execs_nil ⟨σ1,H2,I2, q2⟩
end
structure It where
 go:Nat→Hp→Prop
 yld:Nat→Hp→V→Hp→Prop
 stop:Nat→Hp→Prop
def FpOk (X:Cx) (pins:List (Addr×Obj)) (H:Hp) (b:Addr):Prop :=
 H b=none∧b≠X.env.locals∧b∉X.fs∧(b∈X.ex∨X.s₀.heap.objs.size≤b)∧(∀ x c,X.env.cells.lookup x=some c→c≠b)∧∀ p∈X.pn++pins,p.1≠b
theorem Inv.fpOk {X:Cx} {pins:List (Addr×Obj)} {σ:St} {H H':Hp} {s:Shared} {b:Addr} (I:Inv X pins σ H s) (hb:s.heap.objs.size≤b) (hn:H' b=none):FpOk X pins H' b:=by
 refine ⟨hn,Nat.ne_of_gt (Yt I.lt hb),I.nofs hb,.inr (Yr I.sz hb),fun x c e z=>?_, fun p hp z=>?_⟩
 ·obtain ⟨v,q⟩:=I.cell x c e
  exact absurd (Yt q.lt (by rw [z];exact hb)) (Nat.lt_irrefl _)
 ·exact absurd (Yt (Heap.lt_size (I.pin p hp).1) (by rw [z];exact hb)) (Nat.lt_irrefl _)
structure Turn (P:Program) (w:World) (K:PySem.W.Frag) (tg:Expr) (J:It) (fp:List Addr) (it:Addr) (tn:Nat→Heap→Prop):Prop where
 mem:it∈fp
 obj:∀ i h,tn i h→∀ b∈fp,∃ o,h.get? b=some o∧∀ v,o.data≠.cell v
 keep:∀ i h h',tn i h→(∀ b∈fp,∀ o,h.get? b=some o→h'.get? b=some o)→tn i h'
 item:∀ (X:Cx),X.prog=P→X.w=w→X.K=K→X.calm=true→∀ (i:Nat) (pins:List (Addr×Obj)) (s:Shared) (σ:St) (H:Hp) (E:Value→Shared→Prop),Inv X pins σ H s→(∀ b∈fp,FpOk X pins H b)→tn i s.heap→J.go i H →
  wpAny (model P w) X.A (pyNext (.ref it)) (fun r s1=>∃ u,r=some u ∧
   wpAny (model P w) X.A (letOwnedTupleGo tg (.ref it) u) (fun _ s2=>∃ x H',Inv X pins σ H' s2∧RelV x u∧J.yld i H x H'∧tn (i+1) s2.heap∧∀ b∈fp,H' b=none) E s1) E s
 done:∀ (X:Cx),X.prog=P→X.w=w→X.K=K→X.calm=true→∀ (i:Nat) (pins:List (Addr×Obj)) (s:Shared) (σ:St) (H:Hp) (E:Value→Shared→Prop),Inv X pins σ H s→(∀ b∈fp,FpOk X pins H b)→tn i s.heap→J.stop i H →
  wpAny (model P w) X.A (pyNext (.ref it)) (fun r s1=>r=none∧Inv X pins σ H s1) E s
 self:∀ (A:Around) (i:Nat) (s:Shared) (Q:Value→Shared→Prop) (E:Value→Shared→Prop),tn i s.heap→Q (.ref it) s→wpAny (model P w) A (pyIter (.ref it)) Q E s
abbrev TI:=St→Hp→(It→Hp→Prop)→Prop
def PIE (X:Cx) (pins:List (Addr×Obj)) (σ:St) (tg:Expr) (R:It→Hp→Prop) (itv:Value) (s2:Shared):Prop :=
 ∃ (it:Addr) (fp:List Addr) (tn:Nat→Heap→Prop) (J:It) (H':Hp),itv=.ref it∧Inv X pins σ H' s2∧Turn X.prog X.w X.K tg J fp it tn∧tn 0 s2.heap∧(∀ b∈fp,FpOk X pins H' b)∧R J H'
def PI (X:Cx) (tg iter:Expr) (wi:TI):Prop :=
 ∀ (pins:List (Addr×Obj)) (s:Shared) (σ:St) (H:Hp) (R:It→Hp→Prop),Inv X pins σ H s→wi σ H R →
  wpAny (model X.prog X.w) X.A (eval iter X.env) (fun v s1=>wpAny (model X.prog X.w) X.A (pyIter v) (PIE X pins σ tg R) X.xe s1) X.xe s
theorem go_of {M:Model} {A:Around} {E:Value→Shared→Prop} {s:Shared} {tg:Expr} {it:Addr} {u:Value} {o:Obj} {n:String} {vs:Array Value} {Q:Unit→Shared→Prop} (ho:s.heap.get? it=some o) (hc:o.cls=.type n) (hd:o.data=.fields vs)
  (hn:["enumerate","zip","dict_itemiterator","dict_reverseitemiterator","odict_iterator","itertools.zip_longest","itertools.pairwise"].contains n=false) (hQ:Q () s):wpAny M A (letOwnedTupleGo tg (.ref it) u) Q E s:=by
 unfold letOwnedTupleGo
 cases tg<;>first
  | exact wpAny_pure hQ
  | (cases u<;>first
    | exact wpAny_pure hQ
    | (refine wpAny_bind (wpAny_load ho ?_);rw [hc,hd];show wpAny M A (if (["enumerate","zip","dict_itemiterator","dict_reverseitemiterator","odict_iterator","itertools.zip_longest","itertools.pairwise"].contains n&&vs[0]?==some (rawInt _))=true then _ else _) Q E s;rw [if_neg (by intro h;rw [hn,Bool.false_and] at h;cases h)];exact wpAny_pure hQ))
def Itl (K:PySem.W.Frag) (a:Addr):It :=
 ⟨fun i H=>∃ xs x,SqL K H a xs∧xs[i]?=some x,fun i H x H'=>H'=H∧∀ xs,SqL K H a xs→xs[i]?=some x,fun i H=>∃ xs,SqL K H a xs∧xs.length≤i⟩
def Itr (lo:Int) (n:Nat):It:=⟨fun i _=>i<n,fun i H x H'=>H'=H∧x=.int (lo+i), fun i _=>n≤i⟩
theorem turn_list {P:Program} {w:World} {K:PySem.W.Frag} {tg:Expr} (a it:Addr):Turn P w K tg (Itl K a) [it] it (fun i h=>h.IsListIter it a i) where
 mem:=by simp
 obj:=fun i h st b hb=>by
  have e:b=it:=by simpa using hb
  subst e
  obtain ⟨o,e,c, d⟩:=st
  exact ⟨o,e, fun v z=>by rw [d] at z;cases z⟩
 keep:=fun i h h' st k=>st.at fun o e=>k it (by simp) o e
 item:=by
  intro X hP hw hK hc i pins s σ H E I hf st hg
  subst hP hw hK
  obtain ⟨xs,x,hq, hx⟩:=hg
  obtain ⟨its,rv,p, hz⟩:=I.list hq
  obtain ⟨u,hu, ru⟩:=rv.get hx
  obtain ⟨f0,f1,f2,f3,f4, f5⟩:=hf it (by simp)
  refine wpAny_pyNext_list_item st p.isList (x:=u) (by simpa using hu) fun h' st' sb=>?_
  have I1:Inv X pins σ H { s with heap:=h' }:=I.turned (t':=s.toks) (fun b o hb e=>(sb.2 b hb).trans e) f0 f1 f3 f4 f5
  obtain ⟨o,e,c, d⟩:=id st'
  exact ⟨u,rfl, go_of (s:={ s with heap:=h' }) e c d (by decide) ⟨x,H,I1,ru,⟨rfl,fun ys hy=>by rw [I.list_inj hy hq];exact hx⟩,st', fun b hb=>(hf b hb).1⟩⟩
 done:=by
  intro X hP hw hK hc i pins s σ H E I hf st hg
  subst hP hw hK
  obtain ⟨xs,hq, hx⟩:=hg
  obtain ⟨its,rv,p, hz⟩:=I.list hq
  obtain ⟨f0,f1,f2,f3,f4, f5⟩:=hf it (by simp)
  have hl:=rv.length
  exact wpAny_pyNext_list_end (I.ok.hd hc) st p.isList (by simp;omega) fun h' eb=>⟨rfl,I.turned (t':=s.toks) (fun b o hb e=>eb b o hb e) f0 f1 f3 f4 f5⟩
 self:=fun _ _ _ _ _ st h=>wpAny_pyIter_listiter st h
theorem turn_range {P:Program} {w:World} {K:PySem.W.Frag} {tg:Expr} (it:Addr) (lo:Int) (n:Nat):Turn P w K tg (Itr lo n) [it] it (fun i h=>IsRangeIter h it (lo+(i:Nat)*1) ((n:Int)-(i:Nat)) 1) where
 mem:=by simp
 obj:=fun i h st b hb=>by
  have e:b=it:=by simpa using hb
  subst e
  exact ⟨_,st, fun v z=>by
   have z':Data.fields _=Data.cell v:=z
   cases z'⟩
 keep:=fun i h h' st k=>k it (by simp) _ st
 item:=by
  intro X hP hw hK hc i pins s σ H E I hf st hg
  subst hP hw hK
  obtain ⟨f0,f1,f2,f3,f4, f5⟩:=hf it (by simp)
  have W:=Walks.range (prog:=X.prog) (w:=X.w) (I.ok.hd hc) it lo 1 n
  refine W.item i s _ _ hg st fun v h' tk hv st' kk=>?_
  obtain ⟨t,rfl⟩:=hv
  have I1:Inv X pins σ H { s with heap:=h',toks:=tk }:=I.turned (fun b o hb e=>kk b o (by simpa using hb) e) f0 f1 f3 f4 f5
  refine ⟨_,rfl, go_of (s:={ s with heap:=h',toks:=tk }) (n:="range_iterator") st' rfl rfl (by decide) ⟨.int (lo+i),H,I1,⟨t,?_⟩,⟨rfl,rfl⟩,st', fun b hb=>(hf b hb).1⟩⟩
  rw [Int.mul_one]
 done:=by
  intro X hP hw hK hc i pins s σ H E I hf st hg
  subst hP hw hK
  obtain ⟨f0,f1,f2,f3,f4, f5⟩:=hf it (by simp)
  exact wpAny_pyNext_range_end (I.ok.hd hc) st (by have:n≤i:=hg;omega) fun h' eb=>⟨rfl,I.turned (t':=s.toks) (fun b o hb e=>eb b o hb e) f0 f1 f3 f4 f5⟩
 self:=fun _ _ _ _ _ st h=>wpAny_pyIter_rangeiter st h
end L2
namespace L2
open PySem PySem.Spec PyProof.Rows
section
variable {X:Cx} {tg:Expr}
def iList (K:PySem.W.Frag) (tl:TE):TI:=fun σ H R=>tl σ H fun x H1=>∃ a,x=.ref a∧(∃ xs,SqL K H1 a xs)∧R (Itl K a) H1
theorem pi_list {l:Expr} {tl:TE} (hl:PE X l tl):PI X tg l (iList X.K tl):=by
 intro pins s σ H R I h
 refine thn (hl pins s σ H _ I h) fun v s1 ⟨x,H1,I1,r1,q1⟩=>?_
 obtain ⟨a,e,⟨xs,hq⟩, q⟩:=q1
 subst e
 cases r1
 obtain ⟨its,rv,p, hz⟩:=I1.list hq
 refine wpAny_pyIter_list p.isList ?_
 refine ⟨s1.heap.objs.size,[s1.heap.objs.size],_,_,H1,rfl,I1.kept (t':=s1.toks) fun b o e=>Heap.get?_push_of_some _ e,turn_list a _,⟨_,Heap.get?_push_size _ rfl,rfl, rfl⟩,fun b hb=>?_, q⟩
 have e:b=s1.heap.objs.size:=by simpa using hb
 subst e
 exact I1.fpOk (Nat.le_refl _) (I1.hok.fresh (Nat.le_refl _))
theorem range_it {pins:List (Addr×Obj)} {σ:St} {H:Hp} {s:Shared} {R:It→Hp→Prop} {E:Value→Shared→Prop} {lo hi:Int} {t u v:Tok} {tk:Nat} (I:Inv X pins σ H s) (h1 : -(2 ^ 62)≤lo) (h2:lo<2 ^ 62) (h3 : -(2 ^ 62)≤hi) (h4:hi<2 ^ 62)
  (q:R (Itr lo (hi-lo).toNat) H):wpAny (model X.prog X.w) X.A (pyIter (.ref s.heap.objs.size)) (PIE X pins σ tg R) E { s with heap:=s.heap.push { cls:=.type "range",data:=.fields #[.int lo t,.int hi u,.int 1 v] },toks:=tk }:=by
 refine wpAny_pyIter_range (IsRange.new ..) (small_one h1 h2 h3 h4) ?_
 have I1:Inv X pins σ H { s with heap:=s.heap.push { cls:=.type "range",data:=.fields #[.int lo t,.int hi u,.int 1 v] },toks:=tk }:=I.kept fun b o e=>Heap.get?_push_of_some _ e
 refine ⟨(s.heap.push { cls:=.type "range",data:=.fields #[.int lo t,.int hi u,.int 1 v] }).objs.size,[(s.heap.push { cls:=.type "range",data:=.fields #[.int lo t,.int hi u,.int 1 v] }).objs.size],_,_,H,rfl,
  I1.kept (t':=tk) fun b o e=>Heap.get?_push_of_some _ e,turn_range _ lo (hi-lo).toNat,?_,fun b hb=>?_, q⟩
 ·have e1:lo+((0:Nat):Int)*1=lo:=by simp
  have e2:(((hi-lo).toNat:Nat):Int)-((0:Nat):Int)=Builtin.Range.rangeSize lo hi 1:=by rw [rangeSize_one];split<;>omega
  show IsRangeIter _ _ (lo+((0:Nat):Int)*1) ((((hi-lo).toNat:Nat):Int)-((0:Nat):Int)) 1
  rw [e1,e2]
  exact Heap.get?_push_size _ rfl
 ·have e:b=(s.heap.push { cls:=.type "range",data:=.fields #[.int lo t,.int hi u,.int 1 v] }).objs.size:=by simpa using hb
  subst e
  exact I1.fpOk (Nat.le_refl _) (I1.hok.fresh (Nat.le_refl _))
def iRng1 (ta:TA):TI:=fun σ H R=>ta σ H fun vs H1=>∃ j:Int,vs=[.int j]∧-(2 ^ 62)≤j∧j<2 ^ 62∧R (Itr 0 j.toNat) H1
def iRng2 (ta:TA):TI:=fun σ H R=>ta σ H fun vs H1=>∃ i j:Int,vs=[.int i,.int j]∧(-(2 ^ 62)≤i∧i<2 ^ 62∧-(2 ^ 62)≤j∧j<2 ^ 62)∧R (Itr i (j-i).toNat) H1
theorem pi_range1 {a:Expr} {ta:TA} {p pos:Pos} (hg:Gl X "range") (hm:X.mg "range" = none) (ha:PA X [a] ta) (hs:starEach [a] X.env=[(false,eval a X.env)]:=by rfl):PI X tg (.Call (.Name "range" p) [a] [] pos) (iRng1 ta):=by
 intro pins s σ H R I h
 refine Call_ (ld_blt I hg hm boot_range (PyProof.Rows.callWith_type1 (thn (ha pos pins s σ H _ I h) fun us s1 ⟨vs,H1,I1,r1,q1⟩=>?_) hs rfl))
 obtain ⟨j,e,q1,q2, q⟩:=q1
 subst e
 cases r1 with
 | cons r rr =>
  cases rr
  obtain ⟨t,rfl⟩:=r
  exact call_range_1 (range_it I1 (by omega) (by omega) q1 q2 (by simpa using q))
theorem pi_range2 {a b:Expr} {ta:TA} {p pos:Pos} (hg:Gl X "range") (hm:X.mg "range" = none) (ha:PA X [a,b] ta) (hs:starEach [a,b] X.env=[(false,eval a X.env),(false,eval b X.env)]:=by rfl) (hs2:starEach [b] X.env=[(false,eval b X.env)]:=by rfl) :
  PI X tg (.Call (.Name "range" p) [a,b] [] pos) (iRng2 ta):=by
 intro pins s σ H R I h
 refine Call_ (ld_blt I hg hm boot_range (PyProof.Rows.callWith_type1 (thn (ha pos pins s σ H _ I h) fun us s1 ⟨vs,H1,I1,r1,q1⟩=>?_) (by rw [hs,hs2]) (by rw [hs2];rfl)))
 obtain ⟨i,j,e,⟨q1,q2,q3, q4⟩, q⟩:=q1
 subst e
 cases r1 with
 | cons r rr =>
  cases rr with
  | cons r' rr =>
   cases rr
   obtain ⟨t,rfl⟩:=r
   obtain ⟨t',rfl⟩:=r'
   exact call_range_2 (range_it I1 q1 q2 q3 q4 q)
def tFor (wi:TI) (g:TG) (tb:TS):TS:=fun D σ H=>wi σ H fun J H1=>∃ W:Nat→Nat→St→Hp→Prop,(∃ m,W 0 m σ H1)∧∀ i m σ H,W i m σ H →
 (J.stop i H∧D.nx σ H)∨(J.go i H∧∃ N:St→Hp→Prop,(∀ σ' H',N σ' H'→∃ m',m' < m∧W (i+1) m' σ' H')∧∀ x H',J.yld i H x H'→g x σ H' fun σ2 H2=>tb { D with nx:=N,ct:=N,bk:=D.nx } σ2 H2)
def pinsAt (fp:List Addr) (h:Heap):List (Addr×Obj):=fp.filterMap fun b=>(h.get? b).map fun o=>(b,o)
theorem mem_pinsAt {fp:List Addr} {h:Heap} {b:Addr} {o:Obj} (hb:b∈fp) (e:h.get? b=some o):(b,o)∈pinsAt fp h:=List.mem_filterMap.mpr ⟨b,hb, by rw [e];rfl⟩
theorem of_pinsAt {fp:List Addr} {h:Heap} {p:Addr×Obj} (hp:p∈pinsAt fp h):p.1∈fp∧h.get? p.1=some p.2:=by
 obtain ⟨b,hb, e⟩:=List.mem_filterMap.mp hp
 cases q:h.get? b with
 | none=>rw [q] at e;cases e
 | some o =>
  rw [q] at e
  have e':(b,o)=p:=Option.some.inj e
  subst e'
  exact ⟨hb,q⟩
theorem Inv.pinned {pins:List (Addr×Obj)} {σ:St} {H:Hp} {s:Shared} {fp:List Addr} (I:Inv X pins σ H s) (hf:∀ b∈fp,FpOk X pins H b) (ho:∀ b∈fp,∃ o,s.heap.get? b=some o∧∀ v,o.data≠.cell v):Inv X (pins++pinsAt fp s.heap) σ H s :=
 I.pins_of fun p hp=>(Zf.mp hp).elim (fun z=>I.pin p (List.mem_append_right _ z)) fun z=>by
  obtain ⟨hb,e⟩:=of_pinsAt z
  obtain ⟨f0,f1,f2, _⟩:=hf p.1 hb
  obtain ⟨o,e', d⟩:=ho p.1 hb
  rw [e] at e';cases e'
  exact ⟨e,f0,f1,f2, d⟩
theorem Inv.unpinned {pins pl:List (Addr×Obj)} {σ:St} {H:Hp} {s:Shared} (I:Inv X (pins++pl) σ H s):Inv X pins σ H s:=I.pins_of fun p hp=>I.pin p (List.mem_append_right _ (List.mem_append_left _ hp))
theorem ps_for {iter:Expr} {body:List Stmt} {wi:TI} {g:TG} {tb:TS} {pos:Pos} (hp:PassesOwn (model X.prog X.w) X.A X.env X.xe) (hc:X.calm=true) (hi:PI X tg iter wi) (hg:PG X tg g) (hb:PSs X body tb)
  (hs:∀ x,foldedSetIterable iter X.env x=pure x:=by intro _;rfl):PS X (.For tg iter body [] pos) (tFor wi g tb):=by
 intro pins s σ H D I h
 refine wpAny_For (thn (hi pins s σ H _ I h) fun v s1 h1=>thn h1 fun itv s2 h2=>?_) hs
 obtain ⟨it,fp,tn,J,H2,e,I2,T,st2,f2,W,⟨m0,w0⟩, turn⟩:=h2
 subst e
 have stat:∀ {H':Hp},(∀ b∈fp,H' b=none)→∀ b∈fp,FpOk X pins H' b:=fun hn b hb=>⟨hn b hb,(f2 b hb).2⟩
 refine codeAny_forLoop_any (fun n s'=>∃ i σ' H',Inv X pins σ' H' s'∧tn i s'.heap∧(∀ b∈fp,H' b=none)∧W i n σ' H') ?_ m0 ⟨0,σ,H2,I2,st2,fun b hb=>(f2 b hb).1, w0⟩
 rintro n s3 ⟨i,σ3,H3,I3,st3,fr3, w3⟩
 rcases turn i n σ3 H3 w3 with ⟨stop,qn⟩ | ⟨go,N,hN, step⟩
 ·refine wpAny_passesOwn hp (thn (T.done X rfl rfl rfl hc i pins s3 σ3 H3 X.xe I3 (stat fr3) st3 stop) fun r s4 ⟨hr,I4⟩=>?_)
  subst hr
  exact wpAny_execs_nil ⟨σ3,H3,I4, qn⟩
 ·refine wpAny_passesOwn hp (thn (T.item X rfl rfl rfl hc i pins s3 σ3 H3 X.xe I3 (stat fr3) st3 go) fun r s4 ⟨u,hr,h4⟩=>?_)
  subst hr
  refine wpAny_passesOwn hp (thn h4 fun _ s5 ⟨x,H5,I5,r5,y5,st5,fr5⟩=>?_)
  have I5':=I5.pinned (stat fr5) (T.obj _ _ st5)
  refine wpAny_passesOwn hp (thn (hg _ s5 σ3 H5 x u _ I5' r5 (step x H5 y5)) fun _ s6 ⟨σ6,H6,I6,q6⟩=>?_)
  refine wpAny_passesOwn hp (thn (hb _ s6 σ6 H6 _ I6 q6) fun f s7 q7=>?_)
  have again:∀ {σ7:St} {H7:Hp},Inv X (pins++pinsAt fp s5.heap) σ7 H7 s7→N σ7 H7→∃ m,m<n∧∃ i σ' H',Inv X pins σ' H' s7∧tn i s7.heap∧(∀ b∈fp,H' b=none)∧W i m σ' H':=fun {σ7 H7} I7 n7=>by
   obtain ⟨m',hm, w7⟩:=hN σ7 H7 n7
   refine ⟨m',hm,i+1,σ7,H7,I7.unpinned,T.keep _ _ _ st5 fun b hb o e=>(I7.pin (b,o) (List.mem_append_right _ (List.mem_append_right _ (mem_pinsAt hb e)))).1,fun b hb=>?_, w7⟩
   obtain ⟨o,e, d⟩:=T.obj _ _ st5 b hb
   exact (I7.pin (b,o) (List.mem_append_right _ (List.mem_append_right _ (mem_pinsAt hb e)))).2.1
  cases f with
  | next=>obtain ⟨σ7,H7,I7, n7⟩:=q7;exact again I7 n7
  | cont=>obtain ⟨σ7,H7,I7, n7⟩:=q7;exact again I7 n7
  | brk=>obtain ⟨σ7,H7,I7, q7⟩:=q7;exact ⟨σ7,H7,I7.unpinned, q7⟩
  | ret v=>obtain ⟨x7,σ7,H7,I7,r7, q7⟩:=q7;exact ⟨x7,σ7,H7,I7.unpinned,r7, q7⟩
end
theorem for_list {K:PySem.W.Frag} {a:Addr} {xs:List V} {g:TG} {tb:TS} {D:Ends} {σ:St} {H:Hp} (Pv:Nat→St→Hp→Prop) (h0:Pv 0 σ H) (hl:∀ i σ H,i≤xs.length→Pv i σ H→SqL K H a xs)
  (hs:∀ i x σ H,xs[i]?=some x→Pv i σ H→g x σ H fun σ2 H2=>tb { D with nx:=Pv (i+1),ct:=Pv (i+1),bk:=D.nx } σ2 H2) (hd:∀ σ H,Pv xs.length σ H→D.nx σ H) :
  ∃ W:Nat→Nat→St→Hp→Prop,(∃ m,W 0 m σ H)∧∀ i m σ H,W i m σ H →
   ((Itl K a).stop i H∧D.nx σ H)∨((Itl K a).go i H∧∃ N:St→Hp→Prop,(∀ σ' H',N σ' H'→∃ m',m' < m∧W (i+1) m' σ' H')∧∀ x H',(Itl K a).yld i H x H'→g x σ H' fun σ2 H2=>tb { D with nx:=N,ct:=N,bk:=D.nx } σ2 H2):=by
 refine ⟨fun i m σ H=>m=xs.length-i∧i≤xs.length∧Pv i σ H,⟨xs.length,by simp,Nat.zero_le _, h0⟩, ?_⟩
 rintro i m σ H ⟨rfl,hi, p⟩
 have q:=hl i σ H hi p
 by_cases hlt:i<xs.length
 ·refine .inr ⟨⟨xs,xs[i],q, by simp [hlt]⟩,Pv (i+1),fun σ' H' p'=>⟨xs.length-(i+1),by omega,rfl,hlt, p'⟩, fun x H' y=>?_⟩
  obtain ⟨e,y⟩:=y
  subst e
  exact hs i x σ _ (y xs q) p
 ·have e:i=xs.length:=by omega
  subst e
  exact .inl ⟨⟨xs,q, Nat.le_refl _⟩,hd σ H p⟩
theorem for_range {lo:Int} {n:Nat} {g:TG} {tb:TS} {D:Ends} {σ:St} {H:Hp} (Pv:Nat→St→Hp→Prop) (h0:Pv 0 σ H)
  (hs:∀ i σ H,i<n→Pv i σ H→g (.int (lo+i)) σ H fun σ2 H2=>tb { D with nx:=Pv (i+1),ct:=Pv (i+1),bk:=D.nx } σ2 H2) (hd:∀ σ H,Pv n σ H→D.nx σ H) :
  ∃ W:Nat→Nat→St→Hp→Prop,(∃ m,W 0 m σ H)∧∀ i m σ H,W i m σ H →
   ((Itr lo n).stop i H∧D.nx σ H)∨((Itr lo n).go i H∧∃ N:St→Hp→Prop,(∀ σ' H',N σ' H'→∃ m',m' < m∧W (i+1) m' σ' H')∧∀ x H',(Itr lo n).yld i H x H'→g x σ H' fun σ2 H2=>tb { D with nx:=N,ct:=N,bk:=D.nx } σ2 H2):=by
 refine ⟨fun i m σ H=>m=n-i∧i≤n∧Pv i σ H,⟨n,by simp,Nat.zero_le _, h0⟩, ?_⟩
 rintro i m σ H ⟨rfl,hi, p⟩
 by_cases hlt:i<n
 ·refine .inr ⟨hlt,Pv (i+1),fun σ' H' p'=>⟨n-(i+1),by omega,rfl,hlt, p'⟩, fun x H' y=>?_⟩
  obtain ⟨e,y⟩:=y
  subst e y
  exact hs i σ _ hlt p
 ·have e:i=n:=by omega
  subst e
  exact .inl ⟨Nat.le_refl _,hd σ H p⟩
end L2
namespace L2
open PySem PySem.Spec PyProof.Rows
abbrev R2:=V→V→Hp→VK→Prop
def OpR (X:Cx) (f:Value→Value→Sem Value) (r:R2):Prop :=
 ∀ (pins:List (Addr×Obj)) (s:Shared) (σ:St) (H:Hp) (x y:V) (v u:Value) (Q:VK),Inv X pins σ H s→RelV x v→RelV y u→r x y H Q →
  wpAny (model X.prog X.w) X.A (f v u) (EP X pins σ Q) X.xe s
def UnR (X:Cx) (f:Value→Sem Value) (r:V→Hp→VK→Prop):Prop :=
 ∀ (pins:List (Addr×Obj)) (s:Shared) (σ:St) (H:Hp) (x:V) (v:Value) (Q:VK),Inv X pins σ H s→RelV x v→r x H Q →
  wpAny (model X.prog X.w) X.A (f v) (EP X pins σ Q) X.xe s
def CallR (X:Cx) (f:Value) (r:List V→Hp→VK→Prop):Prop :=
 ∀ (pins:List (Addr×Obj)) (s:Shared) (σ:St) (H:Hp) (xs:List V) (us:List Value) (Q:VK),Inv X pins σ H s→Vals xs us→r xs H Q →
  wpAny (model X.prog X.w) X.A (call f us) (EP X pins σ Q) X.xe s
def TruR (X:Cx) (r:V→Hp→(Bool→Hp→Prop)→Prop):Prop :=
 ∀ (pins:List (Addr×Obj)) (s:Shared) (σ:St) (H:Hp) (x:V) (v:Value) (Q:Bool→Hp→Prop),Inv X pins σ H s→RelV x v→r x H Q →
  wpAny (model X.prog X.w) X.A (truthy v) (TP X pins σ Q) X.xe s
def tOp (r:R2) (ta tb:TE):TE:=fun σ H Q=>ta σ H fun x H1=>tb σ H1 fun y H2=>r x y H2 Q
def tUn (r:V→Hp→VK→Prop) (ta:TE):TE:=fun σ H Q=>ta σ H fun x H1=>r x H1 Q
def rI (C:Int→Int→Prop) (g:Int→Int→V):R2:=fun x y H Q=>∃ i j,x=.int i∧y=.int j∧C i j∧Q (g i j) H
def rI0 (g:Int→Int→V):R2:=fun x y H Q=>∃ i j,x=.int i∧y=.int j∧Q (g i j) H
def rU (g:Int→V):V→Hp→VK→Prop:=fun x H Q=>∃ i,x=.int i∧Q (g i) H
section
variable {X:Cx} {a b c:Expr} {ta tb tc:TE} {pos:Pos}
theorem binT (ha:PE X a ta) (hb:PE X b tb) {pins:List (Addr×Obj)} {s:Shared} {σ:St} {H:Hp} {R:V→V→Hp→Prop} (I:Inv X pins σ H s)
  (h:ta σ H fun x H1=>tb σ H1 fun y H2=>R x y H2) {Q:Value→Shared→Prop} {f:Value→Value→Sem Value}
  (hf:∀ v u s2 x y H2,Inv X pins σ H2 s2→RelV x v→RelV y u→R x y H2→wpAny (model X.prog X.w) X.A (f v u) Q X.xe s2) :
  wpAny (model X.prog X.w) X.A (eval a X.env) (fun v s₁=>wpAny (model X.prog X.w) X.A (eval b X.env) (fun u s₂=>wpAny (model X.prog X.w) X.A (f v u) Q X.xe s₂) X.xe s₁) X.xe s:=by
 refine thn (ha pins s σ H _ I h) fun v s1 ⟨x,H1,I1,r1,q1⟩=>?_
 refine thn (hb pins s1 σ H1 _ I1 q1) fun u s2 ⟨y,H2,I2,r2,q2⟩=>?_
 exact hf v u s2 x y H2 I2 r1 r2 q2
theorem pe_op {op:Operator} {r:R2} (ho:OpR X (binaryOp op) r) (ha:PE X a ta) (hb:PE X b tb):PE X (.BinOp a op b pos) (tOp r ta tb):=by
 intro pins s σ H Q I h
 exact wpAny_BinOp (binT ha hb I h fun v u s2 x y H2 I2 rx ry q=>ho pins s2 σ H2 x y v u Q I2 rx ry q)
theorem pe_un {op:UnaryOp} {r:V→Hp→VK→Prop} (ho:UnR X (unaryOp op) r) (ha:PE X a ta):PE X (.UnaryOp op a pos) (tUn r ta):=by
 intro pins s σ H Q I h
 exact UnaryOp_ (thn (ha pins s σ H _ I h) fun v s1 ⟨x,H1,I1,r1,q1⟩=>ho pins s1 σ H1 x v Q I1 r1 q1)
theorem opI {f:Value→Value→Sem Value} {C:Int→Int→Prop} {g:Int→Int→Int}
  (rule:∀ (i j:Int) (t u:Tok) (s:Shared) (Q:Value→Shared→Prop) (E:Value→Shared→Prop),C i j→Q (.int (g i j) s.toks) { s with toks:=s.toks+1 }→wpAny (model X.prog X.w) X.A (f (.int i t) (.int j u)) Q E s) :
  OpR X f (rI C fun i j=>.int (g i j)):=by
 intro pins s σ H x y v u Q I rx ry h
 obtain ⟨i,j,rfl,rfl,hc, q⟩:=h
 obtain ⟨t,rfl⟩:=rx
 obtain ⟨t',rfl⟩:=ry
 exact rule i j t t' s _ _ hc ⟨.int (g i j),H,I.tok _,⟨_,rfl⟩, q⟩
theorem opI0 {f:Value→Value→Sem Value} {g:Int→Int→Int}
  (rule:∀ (i j:Int) (t u:Tok) (s:Shared) (Q:Value→Shared→Prop) (E:Value→Shared→Prop),Q (.int (g i j) s.toks) { s with toks:=s.toks+1 }→wpAny (model X.prog X.w) X.A (f (.int i t) (.int j u)) Q E s) :
  OpR X f (rI0 fun i j=>.int (g i j)):=by
 intro pins s σ H x y v u Q I rx ry h
 obtain ⟨i,j,rfl,rfl, q⟩:=h
 obtain ⟨t,rfl⟩:=rx
 obtain ⟨t',rfl⟩:=ry
 exact rule i j t t' s _ _ ⟨.int (g i j),H,I.tok _,⟨_,rfl⟩, q⟩
theorem opB0 {f:Value→Value→Sem Value} {g:Int→Int→Bool}
  (rule:∀ (i j:Int) (t u:Tok) (s:Shared) (Q:Value→Shared→Prop) (E:Value→Shared→Prop),Q (.bool (g i j)) s→wpAny (model X.prog X.w) X.A (f (.int i t) (.int j u)) Q E s) :
  OpR X f (rI0 fun i j=>.bl (g i j)):=by
 intro pins s σ H x y v u Q I rx ry h
 obtain ⟨i,j,rfl,rfl, q⟩:=h
 obtain ⟨t,rfl⟩:=rx
 obtain ⟨t',rfl⟩:=ry
 exact rule i j t t' s _ _ ⟨.bl (g i j),H,I,rfl, q⟩
def CDiv (i j:Int):Prop:=0<j∧j<1073741824
def CPow (i j:Int):Prop:=0≤j∧j≤1000000∧i.natAbs<2 ^ 64
def CMul (i j:Int):Prop:=(-(2 ^ 64)<i∧i<2 ^ 64)∨(-(2 ^ 64)<j∧j<2 ^ 64)
theorem CMul.ok {i j:Int} (h:CMul i j):IntMulOk i j:=by
 rcases h with ⟨h1,h2⟩ | ⟨h1,h2⟩
 ·exact .of_left (intBits_le_64 h1 h2)
 ·exact .of_right (intBits_le_64 h1 h2)
theorem op_add:OpR X (binaryOp .Add) (rI0 fun i j=>.int (i+j)):=opI0 fun _ _ _ _ _ _ _ q=>add_int q
theorem op_sub:OpR X (binaryOp .Sub) (rI0 fun i j=>.int (i-j)):=opI0 fun _ _ _ _ _ _ _ q=>sub_int q
theorem op_mul:OpR X (binaryOp .Mult) (rI CMul fun i j=>.int (i*j)):=opI fun _ _ _ _ _ _ _ hc q=>mul_int q hc.ok
theorem op_fdiv:OpR X (binaryOp .FloorDiv) (rI CDiv fun i j=>.int (i / j)):=opI fun i j _ _ _ _ _ hc q=>by
 have h1:(0:Int)<j:=hc.1
 have h2:j<1073741824:=hc.2
 exact floordiv_int (by omega) (by rw [Int.fdiv_eq_ediv_of_nonneg i (by omega)];exact q) (.inl (PyProof.noPylong_small (by omega)))
theorem op_mod:OpR X (binaryOp .Mod) (rI (fun _ j=>0<j) fun i j=>.int (i%j)):=opI fun i j _ _ _ _ _ hc q=>by
 have h1:(0:Int)<j:=hc
 exact mod_int' (by omega) (by rw [Int.fmod_eq_emod_of_nonneg i (by omega)];exact q)
theorem op_pow:OpR X (binaryOp .Pow) (rI CPow fun i j=>.int (i ^ j.toNat)):=opI fun _ _ _ _ _ _ _ hc q=>pow_int_small hc.1 hc.2.1 hc.2.2 q
theorem op_shl:OpR X (binaryOp .LShift) (rI CPow fun i j=>.int (i*2 ^ j.toNat)):=opI fun _ _ _ _ _ _ _ hc q=>lshift_int_small hc.1 hc.2.1 hc.2.2 q
theorem op_or:OpR X (binaryOp .BitOr) (rI0 fun i j=>.int (Builtin.bitOr i j)):=opI0 fun _ _ _ _ _ _ _ q=>or_int q
theorem unI {f:Value→Sem Value} {g:Int→Int}
  (rule:∀ (i:Int) (t:Tok) (s:Shared) (Q:Value→Shared→Prop) (E:Value→Shared→Prop),Q (.int (g i) s.toks) { s with toks:=s.toks+1 }→wpAny (model X.prog X.w) X.A (f (.int i t)) Q E s) :
  UnR X f (rU fun i=>.int (g i)):=by
 intro pins s σ H x v Q I rx h
 obtain ⟨i,rfl, q⟩:=h
 obtain ⟨t,rfl⟩:=rx
 exact rule i t s _ _ ⟨.int (g i),H,I.tok _,⟨_,rfl⟩, q⟩
theorem un_neg:UnR X (unaryOp .USub) (rU fun i=>.int (-i)):=unI fun _ _ _ _ _ q=>neg_int q
end
def scal:V→V→Bool
 | .non,.non=>true | .non,.int _=>true | .int _,.non=>true | .non,.bl _=>true | .bl _,.non=>true | .non,.str _=>true | .str _,.non=>true
 | .int _,.int _=>true | .bl _,.bl _=>true | .str _,.str _=>true | .byt _,.byt _=>true
 | .int _,.str _=>true | .str _,.int _=>true | .bl _,.str _=>true | .str _,.bl _=>true
 | _,_=>false
def rEq:R2:=fun x y H Q=>scal x y=true∧Q (.bl (decide (x=y))) H
def rNe:R2:=fun x y H Q=>scal x y=true∧Q (.bl (!decide (x=y))) H
theorem dec_int {i j:Int}:decide (V.int i=V.int j)=(i==j):=by
 rw [Xw]
 simp
theorem dec_bl {i j:Bool}:decide (V.bl i=V.bl j)=(i==j):=by
 rw [Xw]
 simp
theorem dec_str {i j:Str}:decide (V.str i=V.str j)=(i==j):=by
 rw [Xw]
 simp
theorem dec_byt {i j:Array UInt8}:decide (V.byt i=V.byt j)=(i.toList==j.toList):=by
 rw [Xw]
 cases i
 cases j
 simp
section
variable {X:Cx} {a b c:Expr} {ta tb tc:TE} {pos:Pos}
theorem fin_bl {pins:List (Addr×Obj)} {σ:St} {H:Hp} {s:Shared} {Q:VK} {k k':Bool} (I:Inv X pins σ H s) (q:Q (.bl k) H) (e:k=k'):EP X pins σ Q (.bool k') s:=by
 subst e
 exact ⟨.bl k,H,I,rfl, q⟩
theorem op_eq:OpR X (compareOp .Eq) rEq:=by
 intro pins s σ H x y v u Q I rx ry h
 obtain ⟨hs,q⟩:=h
 cases x with
 | non =>
  cases rx
  cases y with
  | non=>cases ry;exact PySem.EqNone.eq_none_none (fin_bl I q (by simp))
  | bl j=>cases ry;exact PySem.EqNone.eq_none_bool (fin_bl I q (by simp))
  | int j=>obtain ⟨t',rfl⟩:=ry;exact PySem.EqNone.eq_none_int (fin_bl I q (by simp))
  | str j=>obtain ⟨t',rfl⟩:=ry;exact PySem.EqNone.eq_none_str (fin_bl I q (by simp))
  | _=>exact absurd (show false=true from hs) Bool.false_ne_true
 | bl i =>
  cases rx
  cases y with
  | non=>cases ry;exact PySem.EqNone.eq_bool_none (fin_bl I q (by simp))
  | bl j=>cases ry;exact eq_bool (fin_bl I q dec_bl)
  | str j=>obtain ⟨t',rfl⟩:=ry;exact PySem.EqMixed.eq_bool_str (fin_bl I q (by simp))
  | _=>exact absurd (show false=true from hs) Bool.false_ne_true
 | int i =>
  obtain ⟨t,rfl⟩:=rx
  cases y with
  | non=>cases ry;exact PySem.EqNone.eq_int_none (fin_bl I q (by simp))
  | int j=>obtain ⟨t',rfl⟩:=ry;exact eq_int (fin_bl I q dec_int)
  | str j=>obtain ⟨t',rfl⟩:=ry;exact PySem.EqMixed.eq_int_str (fin_bl I q (by simp))
  | _=>exact absurd (show false=true from hs) Bool.false_ne_true
 | str i =>
  obtain ⟨t,rfl⟩:=rx
  cases y with
  | non=>cases ry;exact PySem.EqNone.eq_str_none (fin_bl I q (by simp))
  | bl j=>cases ry;exact PySem.EqMixed.eq_str_bool (fin_bl I q (by simp))
  | int j=>obtain ⟨t',rfl⟩:=ry;exact PySem.EqMixed.eq_str_int (fin_bl I q (by simp))
  | str j=>obtain ⟨t',rfl⟩:=ry;exact eq_str (fin_bl I q dec_str)
  | _=>exact absurd (show false=true from hs) Bool.false_ne_true
 | byt i =>
  obtain ⟨t,rfl⟩:=rx
  cases y with
  | byt j=>obtain ⟨t',rfl⟩:=ry;exact PySem.W.eq_bytes (fin_bl I q dec_byt)
  | _=>exact absurd (show false=true from hs) Bool.false_ne_true
 | _=>cases y<;>exact absurd (show false=true from hs) Bool.false_ne_true
theorem op_ne:OpR X (compareOp .NotEq) rNe:=by
 intro pins s σ H x y v u Q I rx ry h
 obtain ⟨hs,q⟩:=h
 cases x with
 | non =>
  cases rx
  cases y with
  | non=>cases ry;exact PySem.EqNone.ne_none_none (fin_bl I q (by simp))
  | bl j=>cases ry;exact PySem.EqNone.ne_none_bool (fin_bl I q (by simp))
  | int j=>obtain ⟨t',rfl⟩:=ry;exact PySem.EqNone.ne_none_int (fin_bl I q (by simp))
  | str j=>obtain ⟨t',rfl⟩:=ry;exact PySem.EqNone.ne_none_str (fin_bl I q (by simp))
  | _=>exact absurd (show false=true from hs) Bool.false_ne_true
 | bl i =>
  cases rx
  cases y with
  | non=>cases ry;exact PySem.EqNone.ne_bool_none (fin_bl I q (by simp))
  | bl j=>cases ry;exact ne_bool (fin_bl I q (congrArg not dec_bl))
  | str j=>obtain ⟨t',rfl⟩:=ry;exact PySem.EqMixed.ne_bool_str (fin_bl I q (by simp))
  | _=>exact absurd (show false=true from hs) Bool.false_ne_true
 | int i =>
  obtain ⟨t,rfl⟩:=rx
  cases y with
  | non=>cases ry;exact PySem.EqNone.ne_int_none (fin_bl I q (by simp))
  | int j=>obtain ⟨t',rfl⟩:=ry;exact ne_int (fin_bl I q (congrArg not dec_int))
  | str j=>obtain ⟨t',rfl⟩:=ry;exact PySem.EqMixed.ne_int_str (fin_bl I q (by simp))
  | _=>exact absurd (show false=true from hs) Bool.false_ne_true
 | str i =>
  obtain ⟨t,rfl⟩:=rx
  cases y with
  | non=>cases ry;exact PySem.EqNone.ne_str_none (fin_bl I q (by simp))
  | bl j=>cases ry;exact PySem.EqMixed.ne_str_bool (fin_bl I q (by simp))
  | int j=>obtain ⟨t',rfl⟩:=ry;exact PySem.EqMixed.ne_str_int (fin_bl I q (by simp))
  | str j=>obtain ⟨t',rfl⟩:=ry;exact ne_str (fin_bl I q (congrArg not dec_str))
  | _=>exact absurd (show false=true from hs) Bool.false_ne_true
 | byt i =>
  obtain ⟨t,rfl⟩:=rx
  cases y with
  | byt j=>obtain ⟨t',rfl⟩:=ry;exact PySem.W.ne_bytes (fin_bl I q (congrArg not dec_byt))
  | _=>exact absurd (show false=true from hs) Bool.false_ne_true
 | _=>cases y<;>exact absurd (show false=true from hs) Bool.false_ne_true
theorem op_lt:OpR X (compareOp .Lt) (rI0 fun i j=>.bl (decide (i<j))):=opB0 fun _ _ _ _ _ _ _ q=>lt_int q
theorem op_gt:OpR X (compareOp .Gt) (rI0 fun i j=>.bl (decide (j<i))):=opB0 fun _ _ _ _ _ _ _ q=>gt_int q
theorem op_ge:OpR X (compareOp .GtE) (rI0 fun i j=>.bl (decide (j≤i))):=opB0 fun _ _ _ _ _ _ _ q=>ge_int q
theorem op_isN:OpR X (compareOp .Is) (fun x y H Q=>y=.non∧Q (.bl (decide (x=.non))) H):=by
 intro pins s σ H x y v u Q I rx ry h
 obtain ⟨rfl,q⟩:=h
 cases ry
 refine is_none_gen (fin_bl I q ?_)
 cases x<;>first
  | (cases rx;rfl)
  | (obtain ⟨t,rfl⟩:=rx;rfl)
theorem op_notN:OpR X (compareOp .IsNot) (fun x y H Q=>y=.non∧Q (.bl (!decide (x=.non))) H):=by
 intro pins s σ H x y v u Q I rx ry h
 obtain ⟨rfl,q⟩:=h
 cases ry
 refine isnot_none_gen (fin_bl I q ?_)
 cases x<;>first
  | (cases rx;rfl)
  | (obtain ⟨t,rfl⟩:=rx;rfl)
theorem nomark (b:Expr) {op:CmpOp} (h:op≠.In:=by decide) (h2:op≠.NotIn:=by decide):behindInMarks op b=false:=by
 have e1:(op==CmpOp.In)=false:=by cases op<;>first | rfl | exact absurd rfl h
 have e2:(op==CmpOp.NotIn)=false:=by cases op<;>first | rfl | exact absurd rfl h2
 cases b<;>simp [behindInMarks,e1,e2]
theorem pe_cmpR {op:CmpOp} {r:R2} (ho:OpR X (compareOp op) r) (ha:PE X a ta) (hb:PE X b tb) (hm:behindInMarks op b=false):PE X (.Compare a [op] [b] pos) (tOp r ta tb):=by
 intro pins s σ H Q I h
 exact wpAny_Compare1 (binT ha hb I h fun v u s2 x y H2 I2 rx ry q=>ho pins s2 σ H2 x y v u Q I2 rx ry q) hm
def tTest (t:TE):TT:=fun σ H Q=>t σ H fun x H'=>∃ k,x=.bl k∧Q k H'
theorem pt_cmpR {op:CmpOp} {r:R2} (ho:OpR X (compareOp op) r) (ha:PE X a ta) (hb:PE X b tb) (hm:behindInMarks op b=false):PT X (.Compare a [op] [b] pos) (tTest (tOp r ta tb)):=by
 intro pins s σ H Q I h
 refine wpAny_isTrue_Compare1 (thn (ha pins s σ H _ I h) fun v s1 ⟨x,H1,I1,r1,q1⟩=>thn (hb pins s1 σ H1 _ I1 q1) fun u s2 ⟨y,H2,I2,r2,q2⟩ =>
  thn (ho pins s2 σ H2 x y v u _ I2 r1 r2 q2) fun c s3 ⟨z,H3,I3,r3,k,e,q3⟩=>?_) hm
 subst e
 cases r3
 exact wpAny_truthy_bool ⟨H3,I3, q3⟩
def TruV (K:PySem.W.Frag) (x:V) (H:Hp) (k:Bool):Prop :=
 match x with
 | .non=>k=false
 | .bl b=>k=b
 | .int i=>k=(i != 0)
 | .str y=>y.length≤sizeLine∧k=((y.length:Int) != 0)
 | .byt y=>y.size≤sizeLine∧k=((y.size:Int) != 0)
 | .ref p=>(∃ xs,SqL K H p xs∧k=!xs.isEmpty)∨(∃ xs,SqT K H p xs∧k=!xs.isEmpty)∨∃ kvs,H p=some (.dK kvs)∧k=!kvs.isEmpty
 | _=>False
theorem isEmpty_kv {κ:Type} {kvs:List (κ×V)} {vs:List (κ×Value)} (r:KV kvs vs):(!vs.isEmpty)=!kvs.isEmpty:=by
 cases r<;>rfl
theorem isEmpty_of {xs:List V} {its:List Value} (r:Vals xs its):(!its.toArray.isEmpty)=!xs.isEmpty:=by
 cases r<;>simp
theorem line63:(sizeLine:Nat)<2 ^ 63:=by rw [sizeLine_eq];decide
theorem tru_ok:TruR X (fun x H Q=>∃ k,TruV X.K x H k∧Q k H):=by
 intro pins s σ H x v Q I rx h
 obtain ⟨k,e, q⟩:=h
 have hl:=line63
 have hs:sizeLine=16777216:=sizeLine_eq
 cases x with
 | non =>
  cases rx
  have e':k=false:=e
  subst e'
  exact truthy_none ⟨H,I, q⟩
 | bl b =>
  cases rx
  have e':k=b:=e
  subst e'
  exact wpAny_truthy_bool ⟨H,I, q⟩
 | int i =>
  obtain ⟨t,rfl⟩:=rx
  have e':k=(i != 0):=e
  subst e'
  exact PySem.P.truthy_int ⟨H,I, q⟩
 | str y =>
  obtain ⟨t,rfl⟩:=rx
  obtain ⟨hy,e'⟩:y.length≤sizeLine∧k=((y.length:Int) != 0):=e
  subst e'
  exact PySem.P.truthy_str (by omega) ⟨H,I.tok _, q⟩
 | byt y =>
  obtain ⟨t,rfl⟩:=rx
  obtain ⟨hy,e'⟩:y.size≤sizeLine∧k=((y.size:Int) != 0):=e
  subst e'
  exact PySem.W.truthy_bytes (by omega) ⟨H,I.tok _, q⟩
 | ref p =>
  cases rx
  have e':(∃ xs,SqL X.K H p xs∧k=!xs.isEmpty)∨(∃ xs,SqT X.K H p xs∧k=!xs.isEmpty)∨∃ kvs,H p=some (.dK kvs)∧k=!kvs.isEmpty:=e
  rcases e' with ⟨xs,hx, e'⟩ | ⟨xs,hx, e'⟩ | ⟨kvs,hx, e'⟩
  ·subst e'
   obtain ⟨its,r,pl, hz⟩:=I.list hx
   have hlen:=r.length
   exact wpAny_truthy_list pl.isList (by simp only [List.size_toArray];omega) ⟨H,I.tok _, by rw [isEmpty_of r];exact q⟩
  ·subst e'
   obtain ⟨its,r,pl, hz⟩:=I.tuple hx
   have hlen:=r.length
   exact truthy_tuple pl (by simp only [List.size_toArray];omega) ⟨H,I.tok _, by rw [isEmpty_of r];exact q⟩
  ·subst e'
   obtain ⟨hz,hS,vs,r, m⟩:kvs.length≤sizeLine∧(p==sysModules)=false∧∃ vs,KV kvs vs∧s.heap.DictOf (mixKind X.prog X.w) p vs:=I.hok p _ hx
   have hlen:kvs.length=vs.length:=Paired.length r
   exact wpAny_truthy_dict hS m (by omega) ⟨H,I.tok _, by rw [isEmpty_kv r];exact q⟩
 | _=>exact (show False from e).elim
theorem pt_truth (ha:PE X a ta) (he:∀ whole,isTrue a X.env whole=(do let v ←whole;standAt a.pos;holding [v] (truthy v))) :
  PT X a (fun σ H Q=>ta σ H fun x H'=>∃ k,TruV X.K x H' k∧Q k H'):=by
 intro pins s σ H Q I h
 exact isTrue_plain (thn (ha pins s σ H _ I h) fun v s1 ⟨x,H1,I1,r1,q1⟩=>tru_ok pins s1 σ H1 x v Q I1 r1 q1) (he _)
theorem vals1 {x:V} {us:List Value} (r:Vals [x] us):∃ u,us=[u]∧RelV x u:=by
 cases r with
 | cons r1 r2=>cases r2;exact ⟨_,rfl, r1⟩
theorem vals2 {x y:V} {us:List Value} (r:Vals [x,y] us):∃ u w',us=[u,w']∧RelV x u∧RelV y w':=by
 cases r with
 | cons r1 r2 =>
  cases r2 with
  | cons r3 r4=>cases r4;exact ⟨_,_,rfl,r1, r3⟩
theorem call_abs:CallR X (.builtin "abs") (fun xs H Q=>∃ i,xs=[.int i]∧Q (.int (if i<0 then -i else i)) H):=by
 intro pins s σ H xs us Q I r h
 obtain ⟨i,rfl, q⟩:=h
 obtain ⟨u,rfl,t, rfl⟩:=vals1 r
 exact call_abs_int fun u tk=>⟨.int (if i<0 then -i else i),H,I.tok _,⟨_,rfl⟩, q⟩
theorem call_max2 (hc:X.calm=true):CallR X (.builtin "max") (fun xs H Q=>∃ i j,xs=[.int i,.int j]∧Q (.int (if j>i then j else i)) H):=by
 intro pins s σ H xs us Q I r h
 obtain ⟨i,j,rfl, q⟩:=h
 obtain ⟨u,w',rfl,⟨t,rfl⟩, ⟨t',rfl⟩⟩:=vals2 r
 refine max_two_ints (I.ok.hd hc) fun h' tk k=>⟨_,H,I.kept k,?_, q⟩
 by_cases hj:j>i
 ·rw [if_pos hj,if_pos hj];exact ⟨_,rfl⟩
 ·rw [if_neg hj,if_neg hj];exact ⟨_,rfl⟩
theorem call_min2 (hc:X.calm=true):CallR X (.builtin "min") (fun xs H Q=>∃ i j,xs=[.int i,.int j]∧Q (.int (if j<i then j else i)) H):=by
 intro pins s σ H xs us Q I r h
 obtain ⟨i,j,rfl, q⟩:=h
 obtain ⟨u,w',rfl,⟨t,rfl⟩, ⟨t',rfl⟩⟩:=vals2 r
 refine min_two_ints (I.ok.hd hc) fun h' tk k=>⟨_,H,I.kept k,?_, q⟩
 by_cases hj:j<i
 ·rw [if_pos hj,if_pos hj];exact ⟨_,rfl⟩
 ·rw [if_neg hj,if_neg hj];exact ⟨_,rfl⟩
theorem call_int1:CallR X (.type "int") (fun xs H Q=>(∃ i,xs=[.int i]∧Q (.int i) H)∨∃ k,xs=[.bl k]∧Q (.int (if k then 1 else 0)) H):=by
 intro pins s σ H xs us Q I r h
 rcases h with ⟨i,rfl, q⟩ | ⟨k,rfl, q⟩
 ·obtain ⟨u,rfl,t, rfl⟩:=vals1 r
  exact call_int_int ⟨.int i,H,I,⟨_,rfl⟩, q⟩
 ·obtain ⟨u,rfl, r1⟩:=vals1 r
  cases r1
  exact call_int_bool ⟨.int (if k then 1 else 0),H,I.tok _,⟨_,rfl⟩, q⟩
theorem call_str_int:CallR X (.type "str") (fun xs H Q=>∃ i,xs=[.int i]∧i.natAbs.log2<1920∧Q (.str (toString i)) H):=by
 intro pins s σ H xs us Q I r h
 obtain ⟨i,rfl,hz, q⟩:=h
 obtain ⟨u,rfl,t, rfl⟩:=vals1 r
 exact PySem.P.str_of_int hz ⟨.str _,H,I.tok _,⟨_,rfl⟩, q⟩
end
end L2
namespace L2
open PySem PySem.Spec PyProof.Rows
structure ObjM (h:Heap) (x dx C:Addr) (mA:Str→Option Value):Prop where
 obj:h.get? x=some (PySem.W.instObj C dx)
 ns:h.Ns1 dx mA
 ne:dx≠x
theorem lookIn_ns {h:Heap} {dx:Addr} {mA:Str→Option Value} (n:h.Ns1 dx mA):∃ od,h.get? dx=some od∧∀ name,PySem.W.lookIn name od=some (mA name):=by
 obtain ⟨o,es,ep,ho,hd,hk,_, hm⟩:=n
 refine ⟨o,ho, fun name=>?_⟩
 have e:=hm name
 unfold nsFind findBy at e
 rw [←Array.find?_toList] at e
 unfold PySem.W.lookIn
 rw [hd]
 dsimp only
 split
 ·rename_i y q
  rw [q] at e
  exact congrArg some e
 ·rename_i q
  rw [q] at e
  have a:es.toList.any (·.refKey)=false:=by
   rw [List.any_eq_false]
   intro y hy
   obtain ⟨z,t, hkey⟩:=hk y (Array.mem_toList_iff.mp hy)
   simp [DictEntry.refKey,hkey]
  have a':¬es.toList.any (·.refKey)=true:=by rw [a];exact Bool.false_ne_true
  rw [if_neg a']
  exact congrArg some e
theorem ObjM.look {h:Heap} {x dx C:Addr} {mA:Str→Option Value} (I:ObjM h x dx C mA):∃ od,PySem.W.InstAt h x (PySem.W.instObj C dx) C (some od)∧∀ name,PySem.W.lookIn name od=some (mA name) :=
 let ⟨od,ho,hl⟩:=lookIn_ns I.ns
 ⟨od,⟨I.obj,rfl,rfl, ho⟩, hl⟩
section
variable {prog:Program} {w:World} {A:Around} {E:Value→Shared→Prop} {s:Shared} {K:PySem.W.Frag} {x dx C f:Addr} {mA:Str→Option Value} {name:Str} {v:Value}
end
section
variable {P:Program} {w:World} {H H':Hp} {h h':Heap} {a C dx:Addr} {fs fs':List (Str×V)}
theorem ins_get (hok:HOk P w H h) (e:H a=some (.ins C dx fs)):∃ mA,ObjM h a dx C mA∧(∀ f,RelO (fs.lookup f) (mA f))∧PySem.Within mA (fs.map (·.1))∧fs.length≤1000∧H dx=some (.own a):=by
 obtain ⟨d,z,ne,ob,mA,n,r, q⟩:=(show ObjOk P w H h a (.ins C dx fs) from hok a _ e)
 exact ⟨mA,⟨ob,n, ne⟩,r,q,z, d⟩
end
structure Cls (K:PySem.W.Frag) (C:Addr):Prop where
 pg:PySem.W.plainGet K C Str.empty=true
 hd:PySem.W.hasDictIn K C=true
 po:PySem.W.plainOver K C=true
 sa:PySem.W.findIn K (.ref C) "__setattr__" = some (some (.builtin "object.__setattr__"))
theorem Cls.get {K:PySem.W.Frag} {C:Addr} (c:Cls K C) (f:Str):PySem.W.plainGet K C f=true:=c.pg
section
variable {X:Cx} {pins:List (Addr×Obj)} {σ:St} {H:Hp} {s:Shared} {a C dx:Addr} {fs:List (Str×V)} {f:Str} {v:V} {A:Around} {E:Value→Shared→Prop}
end
section
variable {X:Cx} {o e value:Expr} {f:Str} {pos pos' tpos:Pos} {ta tv:TE}
end
section
variable {X:Cx} {pins:List (Addr×Obj)} {σ:St} {H:Hp} {s:Shared} {A:Around} {E:Value→Shared→Prop} {Q:Value→Shared→Prop} {c:Value} {b:Bool}
inductive TyOf (K:PySem.W.Frag) (H:Hp):V→Value→Prop where
 | non:TyOf K H .non (.type "NoneType")
 | bl (x:Bool):TyOf K H (.bl x) (.type "bool")
 | int (i:Int):TyOf K H (.int i) (.type "int")
 | str (x:Str):TyOf K H (.str x) (.type "str")
 | flt (x:UInt64):TyOf K H (.flt x) (.type "float")
 | lst {a:Addr} {xs:List V} (e:H a=some (.lst xs)):TyOf K H (.ref a) (.type "list")
 | frz {a:Addr} {o:Obj} {xs:List V} (e:H a=some (.frz o (.lst xs))):TyOf K H (.ref a) (.type "list")
 | tup {a:Addr} {xs:List V} (e:H a=some (.tup xs)):TyOf K H (.ref a) (.type "tuple")
 | dK {a:Addr} {kvs:List (Key×V)} (e:H a=some (.dK kvs)):TyOf K H (.ref a) (.type "dict")
 | dT {a:Addr} {kvs:List (List Key×V)} (e:H a=some (.dT kvs)):TyOf K H (.ref a) (.type "dict")
 | ins {a C dx:Addr} {fs:List (Str×V)} (e:H a=some (.ins C dx fs)) (cl:Cls K C) (ha:PySem.W.findIn K (.ref C) "__class__" = some (some (.builtin "object.__class__")))
   (hn:PySem.W.specialIn K (.builtin "object.__class__") "__get__" = some (some (.builtin "getset_descriptor.__get__"))) (htk:PySem.W.takesIn K (.builtin "object.__class__")=some true)
   (hm:PySem.W.mroIn K C (.type "object")=some true):TyOf K H (.ref a) (.ref C)
theorem isinst_ok {x:V} {u t:Value} (I:Inv X pins σ H s) (rx:RelV x u) (ty:TyOf X.K H x t) (e:PySem.W.kitOne X.K t c=some b) (h:∀ tk,Q (.bool b) { s with toks:=tk }) :
  wpAny (model X.prog X.w) A (call (.builtin "isinstance") [u,c]) Q E s:=by
 cases ty with
 | non=>cases (show u=Value.none from rx);exact PySem.W.kia_one PySem.W.kitx_none I.kIn True.intro e (fun z=>nomatch z) h
 | bl y=>cases (show u=Value.bool y from rx);exact PySem.W.kia_one PySem.W.kitx_bool I.kIn True.intro e (fun z=>nomatch z) h
 | int i=>obtain ⟨t,q⟩:=(show ∃ t,u=Value.int i t from rx);cases q;exact PySem.W.kia_one PySem.W.kitx_int I.kIn True.intro e (fun z=>nomatch z) h
 | str y=>obtain ⟨t,q⟩:=(show ∃ t,u=Value.str y t from rx);cases q;exact PySem.W.kia_one PySem.W.kitx_str I.kIn True.intro e (fun z=>nomatch z) h
 | flt y=>obtain ⟨t,q⟩:=(show ∃ t,u=Value.float y t from rx);cases q;exact PySem.W.kia_one PySem.W.kitx_float I.kIn True.intro e (fun z=>nomatch z) h
 | @lst a xs ea =>
  cases (show u=Value.ref a from rx)
  obtain ⟨_,_,n,_, h1⟩:=(show ObjOk X.prog X.w H s.heap a (.lst xs) from I.hok a _ ea)
  exact PySem.W.kia_one PySem.W.kitx_list I.kIn ⟨_,h1, rfl⟩ e (fun z=>nomatch z) h
 | @frz a ob xs ea =>
  cases (show u=Value.ref a from rx)
  obtain ⟨_,_,_,n,_, h1⟩:=(show ObjOk X.prog X.w H s.heap a (.frz ob (.lst xs)) from I.hok a _ ea)
  exact PySem.W.kia_one PySem.W.kitx_list I.kIn ⟨_,h1, rfl⟩ e (fun z=>nomatch z) h
 | @tup a xs ea =>
  cases (show u=Value.ref a from rx)
  obtain ⟨_,_,_, p⟩:=(show ObjOk X.prog X.w H s.heap a (.tup xs) from I.hok a _ ea)
  obtain ⟨o,h1,h2, _⟩:=p
  exact PySem.W.kia_one PySem.W.kitx_tuple I.kIn ⟨o,h1, h2⟩ e (fun z=>nomatch z) h
 | @dK a kvs ea =>
  cases (show u=Value.ref a from rx)
  obtain ⟨_,_,vs,_, p⟩:=(show ObjOk X.prog X.w H s.heap a (.dK kvs) from I.hok a _ ea)
  obtain ⟨o,es,ep,h1,h2, _⟩:=p
  exact PySem.W.kia_one PySem.W.kitx_dict I.kIn ⟨o,h1, h2.1⟩ e (fun z=>nomatch z) h
 | @dT a kvs ea =>
  cases (show u=Value.ref a from rx)
  obtain ⟨_,_,xs,_,o,es,ep,h1,h2, _⟩:=(show ObjOk X.prog X.w H s.heap a (.dT kvs) from I.hok a _ ea)
  exact PySem.W.kia_one PySem.W.kitx_dict I.kIn ⟨o,h1, h2.1⟩ e (fun z=>nomatch z) h
 | @ins a C dx fs ea cl ha hn htk hm =>
  cases (show u=Value.ref a from rx)
  obtain ⟨mA,O, _⟩:=ins_get I.hok ea
  obtain ⟨od,J, _⟩:=O.look
  exact PySem.W.kia_one (PySem.W.kitx_own (cl.get _) cl.hd ha hn htk hm) I.kIn J e (fun z=>nomatch z) h
end
end L2
namespace L2
open PySem PySem.Spec PyProof.Rows
structure Room (k:Nat) (A:Around):Prop where
 hd:A.handled=none
 dp:A.depth+3*k+5<recursionLimit
 un:A.units+16*k+200<cLine
theorem Room.mono {j k:Nat} {A:Around} (r:Room k A) (h:j≤k):Room j A:=⟨r.hd,by have:=r.dp;omega, by have:=r.un;omega⟩
theorem Room.deeper {k:Nat} {A:Around} (r:Room (k+1) A) (env:Env):Room k (A.deeper env) :=
 ⟨r.hd,by have:=r.dp;show A.depth+1+3*k+5<_;omega, by have:=r.un;show A.units+3+16*k+200<_;omega⟩
theorem Room.depth {k:Nat} {A:Around} (r:Room k A):A.depth<recursionLimit:=by have:=r.dp;omega
theorem Room.units {k:Nat} {A:Around} (r:Room k A):A.units+64<cLine:=by have:=r.un;omega
def tNil:TA:=fun _ H Q=>Q [] H
def tCons (ta:TE) (tr:TA):TA:=fun σ H Q=>ta σ H fun x H1=>tr σ H1 fun xs H2=>Q (x::xs) H2
section
variable {X:Cx} {e:Expr} {es:List Expr} {te:TE} {t:TA} {pos:Pos}
theorem pa_nil:PA X [] tNil:=fun _ _ _ _ H Q I h=>Calls.spliced_nil ⟨[],H,I,.nil, h⟩
theorem pa_cons (ha:PE X e te) (hr:PA X es t) (hs:starEach (e::es) X.env=(false,eval e X.env)::starEach es X.env:=by rfl):PA X (e::es) (tCons te t):=by
 intro pos pins s σ H Q I h
 rw [hs]
 show wpAny _ _ (spliced ((false,eval e X.env)::backTo pos (starEach es X.env))) _ _ s
 refine Calls.spliced_cons (thn (ha pins s σ H _ I h) fun u s1 ⟨x,H1,I1,r1,q1⟩=>?_)
 exact thn (hr pos pins s1 σ H1 _ I1 q1) fun us s2 ⟨xs,H2,I2,r2,q2⟩=>⟨x::xs,H2,I2,.cons r1 r2, q2⟩
def tTup (t:TA):TE:=fun σ H Q=>t σ H fun xs H1=>xs.length≤sizeLine∧∀ p,H1 p=none→Q (.ref p) (upd H1 p (.tup xs))
def tLst (t:TA):TE:=fun σ H Q=>t σ H fun xs H1=>xs.length≤sizeLine∧∀ p,H1 p=none→Q (.ref p) (upd H1 p (.lst xs))
theorem pe_tup {x1} (h:PA X es t):PE X (.Tuple es x1 pos) (tTup t):=by
 intro pins s σ H Q I hq
 refine wpAny_Tuple_spliced (thn (h pos pins s σ H _ I hq) fun us s1 ⟨xs,H1,I1,r,z,q⟩=>⟨by rw [←r.length];exact z,?_⟩)
 have hf:H1 s1.heap.objs.size=none:=I1.hok.fresh (Nat.le_refl _)
 refine ⟨.ref s1.heap.objs.size,upd H1 s1.heap.objs.size (.tup xs),I1.laid (t':=s1.toks) (fun b u e=>Heap.get?_push_of_some _ e) (Nat.le_refl _) ?_,rfl, q _ hf⟩
 exact ⟨z,us,r, ⟨_,Heap.get?_push_size _ rfl,rfl,_, rfl⟩⟩
theorem pe_lst (h:PA X es t):PE X (.List es pos) (tLst t):=by
 intro pins s σ H Q I hq
 refine wpAny_List_spliced (thn (h pos pins s σ H _ I hq) fun us s1 ⟨xs,H1,I1,r,z,q⟩=>⟨by rw [←r.length];exact z,?_⟩)
 have hf:H1 s1.heap.objs.size=none:=I1.hok.fresh (Nat.le_refl _)
 refine ⟨.ref s1.heap.objs.size,upd H1 s1.heap.objs.size (.lst xs),I1.laid (t':=s1.toks) (fun b u e=>Heap.get?_push_of_some _ e) (Nat.le_refl _) ?_,rfl, q _ hf⟩
 exact ⟨z,us,0,r, Heap.get?_push_size _ rfl⟩
end
abbrev Sp:=List V→Hp→VK→XK→Prop
abbrev CXT:=List Env→Hp→Shared→XK→Value→Shared→Prop
structure Env0 (P:Program) (w:World) (K:PySem.W.Frag) (mg:Str→Option Value) (base:Heap) (A:Around) (outer:List Env) (s:Shared) (H:Hp):Prop where
 frames:A.frames=some outer
 mod:Mod K mg base
 bs:∀ b o,base.get? b=some o→s.heap.get? b=some o∧H b=none
 bsz:base.objs.size≤s.heap.objs.size
 funs:s.heap.FunFrames base outer
 frf:∀ b∈frs outer,H b=none
 hok:HOk P w H s.heap
 bare:AllBare s.gens
def CE (outer:List Env) (P:Program) (w:World) (H:Hp) (s:Shared) (Q:VK) (u:Value) (s':Shared):Prop :=
 ∃ v H',s'.os=s.os∧AllBare s'.gens∧Un (frs outer) [] H H' s.heap s'.heap∧HOk P w H' s'.heap∧RelV v u∧Q v H'
def CR (CX:CXT) (outer:List Env) (P:Program) (w:World) (H:Hp) (s:Shared) (Q:VK) (E:XK) (r:Result) (s':Shared):Prop :=
 match r with
 | .ok (.ret u)=>CE outer P w H s Q u s'
 | .ok _=>False
 | .error e=>CX outer H s E e s'
structure FnOk (P:Program) (w:World) (K:PySem.W.Frag) (mg:Str→Option Value) (base:Heap) (CX:CXT) (k:Nat) (f:Addr) (fd:FuncData) (ps:List Str) (sp:Sp):Prop where
 len:∀ vs H Q E,sp vs H Q E→vs.length=ps.length
 run:∀ (A:Around) (outer:List Env) (s:Shared) (H:Hp) (args:Args) (us:List Value) (vs:List V) (Q:VK) (E:XK),Room k A→Env0 P w K mg base A outer s H→BindsTo s fd args (ps.zip us)→Vals vs us→sp vs H Q E →
  codeAny (model P w) A (.call (.ref f) args) (CR CX outer P w H s Q E) s
section
variable {X:Cx} {pins:List (Addr×Obj)} {σ:St} {H:Hp} {s s':Shared}
theorem Inv.env0 (I:Inv X pins σ H s):Env0 X.prog X.w X.K X.mg X.base X.A X.stack s H :=
 ⟨I.ok.frames,I.ok.mod,I.bs,Yr I.ok.bsz I.sz,I.stack,I.stkFree,I.hok, I.bare⟩
theorem Inv.after {Q:VK} {u:Value} (I:Inv X pins σ H s) (h:CE X.stack X.prog X.w H s Q u s'):EP X pins σ Q u s':=by
 obtain ⟨v,H',os,bare,un,hok,r, q⟩:=h
 obtain ⟨hh,g,d,t, os'⟩:=s'
 obtain rfl:os'=s.os:=os
 exact ⟨v,H',I.call (h':=hh) (g':=g) (d':=d) (t':=t) (ch:=[]) un hok bare (fun b z=>absurd z (by simp)),r, q⟩
end
def tCall (sp:Sp) (dvs:List V) (E:XK) (t:TA):TE:=fun σ H Q=>t σ H fun vs H1=>sp (vs++dvs) H1 Q E
def Binds (K:PySem.W.Frag) (fd:FuncData) (ps:List Str) (ds:List Value):Prop :=
 ∀ (s:Shared) (us:List Value),K.In s.heap→(us++ds).length=ps.length→BindsTo s fd ⟨us,[]⟩ (ps.zip (us++ds))
theorem Binds.all {K:PySem.W.Frag} {fd:FuncData} {ps:List Str} (h:∀ us:List Value,us.length=ps.length→bindArgs fd ⟨us,[]⟩=pure (ps.zip us)):Binds K fd ps []:=fun s us _ hl=>by
 rw [List.append_nil] at hl ⊢
 exact .of_eq (h us hl)
def Passes (CX:CXT) (X:Cx) (E:XK):Prop:=∀ (pins:List (Addr×Obj)) (σ:St) (H:Hp) (s:Shared) (e:Value) (s':Shared),Inv X pins σ H s→CX X.stack H s E e s'→X.xe e s'
section
variable {X:Cx} {CX:CXT} {k:Nat} {f C:Addr} {fd:FuncData} {ps:List Str} {sp:Sp} {dvs:List V} {ds:List Value} {E:XK} {x m:Str} {p pos apos:Pos} {e o:Expr} {es:List Expr} {ta:TE} {t:TA}
theorem run_fn {pins:List (Addr×Obj)} {σ:St} {H:Hp} {s:Shared} {Q:VK} {us:List Value} {vs:List V} (F:FnOk X.prog X.w X.K X.mg X.base CX k f fd ps sp) (hr:Room k X.A) (hb:Binds X.K fd ps ds) (hd:Vals dvs ds) (hx:Passes CX X E)
  (I:Inv X pins σ H s) (r:Vals vs us) (h:sp (vs++dvs) H Q E):wpAny (model X.prog X.w) X.A (call (.ref f) us) (EP X pins σ Q) X.xe s:=by
 have r2:Vals (vs++dvs) (us++ds):=r.append hd
 have hl:(us++ds).length=ps.length:=by rw [←r2.length];exact F.len _ _ _ _ h
 refine wpAny_call (codeAny_mono (F.run X.A X.stack s H ⟨us,[]⟩ (us++ds) (vs++dvs) Q E hr I.env0 (hb s us I.kIn hl) r2 h) fun r s' hq=>?_)
 cases r with
 | error e=>exact hx pins σ H s e s' I hq
 | ok fl =>
  cases fl with
  | ret u=>exact I.after hq
  | next=>exact False.elim hq
  | brk=>exact False.elim hq
  | cont=>exact False.elim hq
theorem pe_call (F:FnOk X.prog X.w X.K X.mg X.base CX k f fd ps sp) (hr:Room k X.A) (hg:Gl X x) (hm:X.mg x=some (.ref f)) (hk:PySem.W.keepIn X.K (.ref f)=true) (hb:Binds X.K fd ps ds) (hd:Vals dvs ds) (hx:Passes CX X E)
  (ha:PA X (e::es) t) (hdb:(x==("__debug__" : Str))=false:=by decide) (he:starEach (e::es) X.env=(false,eval e X.env)::starEach es X.env:=by rfl) (hpl:(backTo pos (starEach es X.env)).any (·.1)=false:=by rfl) :
  PE X (.Call (.Name x p) (e::es) [] pos) (tCall sp dvs E t):=by
 intro pins s σ H Q I h
 refine wpAny_Call_Name_kw (ld_glob I hg hm ?_ hdb)
 refine PySem.W.callWith_K (h₀:=X.base) I.ok.mod.kin hk (thn (ha pos pins s σ H _ I h) fun us s1 ⟨vs,H1,I1,r,q⟩=>⟨I1.kIn,?_⟩) he hpl
 exact run_fn F hr hb hd hx I1 r q
end
section
variable {X:Cx} {CX:CXT} {k:Nat} {f C:Addr} {fd:FuncData} {ps ks:List Str} {sp:Sp} {E:XK} {x m:Str} {p pos apos kpos:Pos} {e o:Expr} {es:List Expr} {kws:List Keyword} {te ta:TE} {t tk:TA} {nm:Option Str}
variable {g:List Value→List Value→List Value} {gV:List V→List V→List V}
end
structure FnScope (N P:List Str) (sc:Scope):Prop where
 kind:sc.kind=.function
 co:sc.isCoroutine=false
 gen:sc.isGenerator=false
 nd:N.Nodup
 pre:N.take P.length=P
 par:∀ x∈P,sc.names.lookup x=some .local∨sc.names.lookup x=some .cell
 nofree:∀ y∈sc.names,y.2≠.free
theorem bindL_out {kindOf:Str→Option NameKind} {x:Str}:∀ {binds:List (Str×Value)} {m:Str→Option Value},(∀ v,(x,v)∉binds)→bindL kindOf binds m x=m x
 | [],_,_=>rfl
 | (n,v)::r,m,h=>by
  unfold bindL
  rw [bindL_out fun w hw=>h w (Zw _ hw)]
  split
  ·have:x≠n:=by rintro rfl;exact h v Zd
   simp [this]
  ·rfl
theorem bindC_out {kindOf:Str→Option NameKind} {x:Str}:∀ {binds:List (Str×Value)} {m:Str→Option Value},(∀ v,(x,v)∉binds)→bindC kindOf binds m x=m x
 | [],_,_=>rfl
 | (n,v)::r,m,h=>by
  unfold bindC
  rw [bindC_out fun w hw=>h w (Zw _ hw)]
  split
  ·rfl
  ·have:x≠n:=by rintro rfl;exact h v Zd
   simp [this]
theorem bindL_get {kindOf:Str→Option NameKind} {x:Str} {v:Value}:∀ {P:List Str} {vs:List Value} {i:Nat} {m:Str→Option Value},P.Nodup→P[i]?=some x→vs[i]?=some v→kindOf x=some .local →
  bindL kindOf (P.zip vs) m x=some v
 | [],_,_,_,_,h,_,_=>by simp at h
 | _::_,[],_,_,_,_,h,_=>by simp at h
 | p::P,w::vs,0,m,nd,h1,h2,hk=>by
  simp at h1 h2;subst h1;subst h2
  show bindL kindOf ((p,w)::P.zip vs) m p=_
  unfold bindL
  rw [bindL_out fun v hv=>(List.nodup_cons.mp nd).1 (List.of_mem_zip hv).1,if_pos hk]
  simp
 | p::P,w::vs,i+1,m,nd,h1,h2,hk=>by
  show bindL kindOf ((p,w)::P.zip vs) m x=_
  unfold bindL
  exact bindL_get (i:=i) (List.nodup_cons.mp nd).2 (by simpa using h1) (by simpa using h2) hk
theorem bindC_get {kindOf:Str→Option NameKind} {x:Str} {v:Value}:∀ {P:List Str} {vs:List Value} {i:Nat} {m:Str→Option Value},P.Nodup→P[i]?=some x→vs[i]?=some v→kindOf x≠some .local →
  bindC kindOf (P.zip vs) m x=some v
 | [],_,_,_,_,h,_,_=>by simp at h
 | _::_,[],_,_,_,_,h,_=>by simp at h
 | p::P,w::vs,0,m,nd,h1,h2,hk=>by
  simp at h1 h2;subst h1;subst h2
  show bindC kindOf ((p,w)::P.zip vs) m p=_
  unfold bindC
  rw [bindC_out fun v hv=>(List.nodup_cons.mp nd).1 (List.of_mem_zip hv).1,if_neg hk]
  simp
 | p::P,w::vs,i+1,m,nd,h1,h2,hk=>by
  show bindC kindOf ((p,w)::P.zip vs) m x=_
  unfold bindC
  exact bindC_get (i:=i) (List.nodup_cons.mp nd).2 (by simpa using h1) (by simpa using h2) hk
def start (N:List Str) (vs:List V):St:=vs.map some++List.replicate (N.length-vs.length) none
def cxOf (CX:CXT) (P:Program) (w:World) (K:PySem.W.Frag) (mg:Str→Option Value) (base:Heap) (N:List Str) (qual:Str) (scope:Scope) (f:Addr) (cd:Value) (A:Around) (outer:List Env) (s:Shared) (H:Hp) (E:XK):Cx where
 prog:=P
 w:=w
 K:=K
 mg:=mg
 base:=base
 A:=A.deeper (envOfC qual scope s.heap.objs.size f cd)
 N:=N
 s₀:=s
 H₀:=H
 env:=envOfC qual scope s.heap.objs.size f cd
 outer:=outer
 stack:=envOfC qual scope s.heap.objs.size f cd::outer
 ex:=[]
 calm:=true
 fn:=fun _=>true
 pn:=[]
 xe:=fun e s'=>wpAny (model P w) (A.deeper (envOfC qual scope s.heap.objs.size f cd)) (leaving (envOfC qual scope s.heap.objs.size f cd) e) (fun _ s''=>CX outer H s E e s'') (fun e' s''=>CX outer H s E e' s'') s'
theorem cell_has {sc:Scope} {n:Nat} {x:Str} (h:sc.names.lookup x=some .cell):∃ c,(cellsFrom n sc.names []).lookup x=some c:=by
 have q:=PySem.W.cellsFrom_some sc.names n [] (.inl h)
 exact Option.isSome_iff_exists.mp q
theorem inv_start {CX:CXT} {P:Program} {w:World} {K:PySem.W.Frag} {mg:Str→Option Value} {base:Heap} {N ps:List Str} {qual:Str} {scope:Scope} {f:Addr} {cd:Value} {A:Around} {outer:List Env} {s s1:Shared} {H:Hp} {E:XK} {us:List Value} {vs:List V}
  (S:FnScope N ps scope) (hd:A.handled=none) (e0:Env0 P w K mg base A outer s H) (hl:vs.length=ps.length) (r:Vals vs us)
  (x:InCallC s s.heap.objs.size (bindL (envOfC qual scope s.heap.objs.size f cd).kindOf (ps.zip us) fun _=>none) (cellsFrom (s.heap.objs.size+1) scope.names []) (bindC (envOfC qual scope s.heap.objs.size f cd).kindOf (ps.zip us) fun _=>none) s1) :
  Inv (cxOf CX P w K mg base N qual scope f cd A outer s H E) [] (start N vs) H s1:=by
 have hpl:ps.length≤N.length:=by have:=congrArg List.length S.pre;rw [Yw] at this;omega
 obtain ⟨h1,tk,rfl, hk⟩:=x.done
 have noA:∀ b:Addr,b∉(cxOf CX P w K mg base N qual scope f cd A outer s H E).ex:=fun b z=>absurd (show b∈([]:List Addr) from z) (by simp)
 refine ⟨⟨e0.mod,S.kind,rfl,rfl,Nat.le_refl _,fun y z c h1 h2=>?_,fun y hy=>?_,fun y c _ h=>?_,fun _=>hd,Around.frames_deeper e0.frames,.inr ⟨rfl,rfl⟩,fun b z=>absurd z (noA b),e0.bs,e0.bsz,fun b _ _=>noA b,fun b z=>absurd z (noA b),e0.funs, e0.frf⟩,
  rfl,e0.bare,Un.kept hk,⟨_,x.toInCall.ns, fun i y v h1 h2 h3=>?_⟩,fun y c h=>⟨_,x.cell y c h⟩,e0.hok.fresh (Nat.le_refl _),fun y c h=>?_,fun p hp=>absurd (show p∈([]:List (Addr×Obj)) from hp) (by simp),e0.hok.kept hk, ?_⟩
 ·exact name_of_addr x.apart (PySem.mem_of_lookup h1) (PySem.mem_of_lookup h2)
 ·have hy:scope.names.lookup y=some .cell∨scope.names.lookup y=some .free:=hy
  rcases hy with hy | hy
  ·exact cell_has hy
  ·exact absurd rfl (S.nofree _ (PySem.mem_of_lookup hy))
 ·exact Nat.le_of_lt (x.above y c (PySem.mem_of_lookup h))
 ·have hi:i<vs.length:=by
   unfold start at h2
   by_cases hi:i<vs.length
   ·exact hi
   ·rw [Zy (by simpa using hi)] at h2
    rw [List.getElem?_replicate] at h2
    split at h2<;>cases h2
  have ha:vs[i]?=some v:=by
   unfold start at h2
   rw [Zx (by simpa using hi),Zk] at h2
   cases e:vs[i]? with
   | none=>rw [e] at h2;cases h2
   | some a=>rw [e] at h2;cases h2;rfl
  obtain ⟨u,hu, rv⟩:=r.get ha
  have hp:ps[i]?=some y:=by
   rw [←S.pre,List.getElem?_take_of_lt (by omega)];exact h1
  have ndP:ps.Nodup:=by rw [←S.pre];exact S.nd.sublist (List.take_sublist _ _)
  refine ⟨u,rv, ?_⟩
  rcases S.par y (Zg hp) with k | k
  ·exact .inl ⟨k,bindL_get ndP hp hu k⟩
  ·obtain ⟨c,e⟩:=cell_has (n:=s.heap.objs.size+1) k
   refine .inr ⟨.inl k,c,e, ?_⟩
   have q:=x.cell y c e
   rw [bindC_get ndP hp hu (by show scope.names.lookup y≠_;rw [k];decide)] at q
   exact q
 ·exact e0.hok.fresh (Nat.le_of_lt (x.above y c (PySem.mem_of_lookup h)))
 ·unfold start
  show _=N.length
  rw [Zm,Zq,List.length_replicate]
  omega
theorem fn_of {CX:CXT} {P:Program} {w:World} {K:PySem.W.Frag} {mg:Str→Option Value} {base:Heap} {k:Nat} {f:Addr} {name qual:Str} {params:Arguments} {body:List Stmt} {scope:Scope} {dV kV doc pm cdv ct oc:Value} {an od:Option Addr}
  {osl:Array (Option Value)} {N ps:List Str} {sp:Sp} (lk:K.lookup f=some ⟨oc,od,.func (PySem.W.fnOf name qual params body scope dV kV doc pm an cdv ct), osl⟩) (hcd:PySem.W.codeIn K cdv qual=true) (S:FnScope N ps scope)
  (len:∀ vs H Q E,sp vs H Q E→vs.length=ps.length)
  (hbody:∀ (A:Around) (outer:List Env) (s:Shared) (H:Hp) (vs:List V) (Q:VK) (E:XK),Room k (A.deeper (envOfC qual scope s.heap.objs.size f cdv))→sp vs H Q E →
   ∃ t,PSs (cxOf CX P w K mg base N qual scope f cdv A outer s H E) body t∧t { nx:=fun _ H'=>Q .non H',rt:=Q } (start N vs) H) :
  FnOk P w K mg base CX (k+1) f (PySem.W.fnOf name qual params body scope dV kV doc pm an cdv ct) ps sp:=by
 refine ⟨len,fun A outer s H args us vs Q E hr e0 hb r hsp=>?_⟩
 have hl:=len _ _ _ _ hsp
 have KX:K.In s.heap:=e0.mod.kin.keeps fun b o e=>(e0.bs b o e).1
 have lim:s.heap.NoLimit:=e0.mod.nolimit.keeps fun b o e=>(e0.bs b o e).1
 have hkind:∀ y∈ps.zip us,scope.names.lookup y.1=some .local∨(scope.names.lookup y.1=some .cell∧((cellsFrom (s.heap.objs.size+1) scope.names []).lookup y.1).isSome=true):=fun ⟨n,v⟩ hy=>by
  rcases S.par n (List.of_mem_zip hy).1 with q | q
  ·exact .inl q
  ·exact .inr ⟨q,PySem.W.cellsFrom_some _ _ _ (.inl q)⟩
 refine codeAny_call_function hr.depth (KX _ _ lk) rfl S.co S.gen rfl (PySem.W.codeRec_of KX hcd) (hb _ _ _ _ ?_)
 refine wpAny_newFunctionEnv_cells S.kind hkind fun env he s1 x=>?_
 subst he
 refine ⟨lim.keeps x.toInCall.keep,codeAny_func ?_⟩
 obtain ⟨t,ht, hq⟩:=hbody A outer s H vs Q E (hr.deeper _) hsp
 have I:Inv (cxOf CX P w K mg base N qual scope f cdv A outer s H E) [] (start N vs) H s1:=inv_start S hr.hd e0 hl r x
 refine wpAny_mono (ht [] s1 (start N vs) H _ I hq) (fun fl s' hs=>?_) fun e s' hs=>hs
 have fin:∀ {σ':St} {H':Hp} {v:V} {u:Value},Inv (cxOf CX P w K mg base N qual scope f cdv A outer s H E) [] σ' H' s'→RelV v u→Q v H'→CE outer P w H s Q u s' :=
  fun {σ' H' v u} J rv q=>⟨v,H',J.os,J.bare,J.base,J.hok,rv, q⟩
 cases fl with
 | ret u =>
  obtain ⟨v,σ',H',J,rv, q⟩:=hs
  exact fin J rv q
 | next =>
  obtain ⟨σ',H',J, q⟩:=hs
  exact fin (v:=V.non) (u:=Value.none) J rfl q
 | brk =>
  obtain ⟨_,_,_, q⟩:=hs
  exact False.elim q
 | cont =>
  obtain ⟨_,_,_, q⟩:=hs
  exact False.elim q
end L2
namespace L2
open PySem PySem.Spec PyProof.Rows
section
variable {X:Cx} {x:Str} {p pos:Pos} {e:Expr} {es:List Expr} {t:TA} {id T:String} {r:List V→Hp→VK→Prop}
def tCB (r:List V→Hp→VK→Prop) (t:TA):TE:=fun σ H Q=>t σ H fun vs H1=>r vs H1 Q
theorem pe_callB (hc:CallR X (.builtin id) r) (hg:Gl X x) (hm:X.mg x=none) (hv:bootBuiltins x=some (.builtin id)) (ha:PA X (e::es) t) (hn:x≠"__name__":=by decide) (hdb:(x==("__debug__" : Str))=false:=by decide)
  (he:starEach (e::es) X.env=(false,eval e X.env)::starEach es X.env:=by rfl) (hpl:(backTo pos (starEach es X.env)).any (·.1)=false:=by rfl):PE X (.Call (.Name x p) (e::es) [] pos) (tCB r t):=by
 intro pins s σ H Q I h
 refine wpAny_Call_Name_kw (ld_blt I hg hm hv ?_ hn hdb)
 exact PyProof.Rows.callWith_builtin1 (thn (ha pos pins s σ H _ I h) fun us s1 ⟨vs,H1,I1,r1,q1⟩=>hc pins s1 σ H1 vs us Q I1 r1 q1) he hpl
theorem pe_callTy (hc:CallR X (.type T) r) (hg:Gl X x) (hm:X.mg x=none) (hv:bootBuiltins x=some (.type T)) (ha:PA X (e::es) t) (hn:x≠"__name__":=by decide) (hdb:(x==("__debug__" : Str))=false:=by decide)
  (he:starEach (e::es) X.env=(false,eval e X.env)::starEach es X.env:=by rfl) (hpl:(backTo pos (starEach es X.env)).any (·.1)=false:=by rfl):PE X (.Call (.Name x p) (e::es) [] pos) (tCB r t):=by
 intro pins s σ H Q I h
 refine wpAny_Call_Name_kw (ld_blt I hg hm hv ?_ hn hdb)
 exact PyProof.Rows.callWith_type1 (thn (ha pos pins s σ H _ I h) fun us s1 ⟨vs,H1,I1,r1,q1⟩=>hc pins s1 σ H1 vs us Q I1 r1 q1) he hpl
end
end L2
namespace HT
open PySem PyProof.Rows
def lexLt:List Int→List Int→Bool
 | [],[]=>false
 | [],_::_=>true
 | _::_,[]=>false
 | x::xs,y::ys=>if x=y then lexLt xs ys else decide (x<y)
theorem lexLt_cons (x y:Int) (xs ys:List Int):lexLt (x::xs) (y::ys)=if x=y then lexLt xs ys else decide (x<y):=rfl
theorem lexLt_nil_nil:lexLt [] []=false:=rfl
theorem lexLt_nil_cons (y:Int) (ys:List Int):lexLt [] (y::ys)=true:=rfl
theorem lexLt_cons_nil (x:Int) (xs:List Int):lexLt (x::xs) []=false:=rfl
theorem eqAt_int (A:Around) (s:Shared) (a:Int) (t:Tok) (c:Int) (u:Tok):∃ e,SeqAt.EqAt A s (.int a t) (.int c u) e∧(e=true↔a=c) :=
 ⟨(a==c),SeqAt.EqAt.int_int a t c u, by simp⟩
theorem rcLt_int (A:Around) (s:Shared) (a:Int) (t:Tok) (c:Int) (u:Tok) (prog:Program) (w:World) (E:Value→Shared→Prop) (Q:Value→Shared→Prop) (h:Q (.bool (decide (a<c))) s) :
  wpAny (model prog w) A (richCompare .Lt (.int a t) (.int c u)) Q E s :=
 (PyProof.Rows.lt_int h:wpAny (model prog w) A (compareOp .Lt (.int a t) (.int c u)) Q E s)
section
open PySem.SeqAt
open PySem.AutoSeq1 (wpAny_loadPart')
open PySem.MeetsSeq PySem.MeetsSeq2 PySem.MeetsSeq3
theorem tuple_lt_ints (l b:Addr) (items items2:Array Value) (n n2:Nat) (dd dd2:Option Addr) (sl sl2:Array (Option Value)) (ns ms:List Int) (hi:IntsAre items.toList ns) (hj:IntsAre items2.toList ms) :
  Meets (Builtin.«tuple.__lt__» ⟨[.ref l,.ref b],[]⟩)
   (fun _ R s=>s.heap.get? l=some { cls:=.type "tuple",dict:=dd,data:=.seq items n,slots:=sl }∧s.heap.get? b=some { cls:=.type "tuple",dict:=dd2,data:=.seq items2 n2,slots:=sl2 } ∧
    R (.ok (.ret (.bool (lexLt ns ms)))) s) :=
 .of_wp fun prog w A R s h=>by
  obtain ⟨hp,g,d,tk, os⟩:=s;obtain ⟨hl,hb, h⟩:=h
  have f2:=AutoSeq1.sub_tuple_tuple
  have z1:items.size=ns.length:=by rw [←hi.length];simp
  have z2:items2.size=ms.length:=by rw [←hj.length];simp
  wp_walk using wpAny_loadPart' hl,wpAny_loadPart' hb,wpAny_forIn_list _ (fun rest b s'=>b.1=none∧s'=⟨hp,g,d,tk, os⟩∧∃ (vs ws:List Value) (ns' ms':List Int),rest=vs.zip ws ∧
   IntsAre vs ns'∧IntsAre ws ms'∧ns'.length+items2.size=ms'.length+items.size∧R (.ok (.ret (.bool (lexLt ns' ms')))) ⟨hp,g,d,tk, os⟩) _
  case turn =>
   rintro ⟨y,x⟩ rest b s' ⟨hb',rfl,vs,ws,ns',ms',hz,hvi,hwi,hlen, hR⟩
   cases hvi with
   | nil=>rw [List.zip_nil_left] at hz;cases hz
   | cons a t hvi' =>
    cases hwi with
    | nil=>rw [List.zip_nil_right] at hz;cases hz
    | cons c u hwi' =>
     rw [List.zip_cons_cons] at hz
     injection hz with hyx hrest
     injection hyx with hy hx
     subst hy hx
     rw [lexLt_cons] at hR
     simp only [Yq] at hlen
     obtain ⟨e,he, hiff⟩:=eqAt_int A.in1 ⟨hp,g,d,tk, os⟩ a t c u
     refine wpAny_bind (he prog w _ _ ?_)
     cases e with
     | true =>
      rw [if_pos (hiff.mp rfl)] at hR
      wp_walk
      exact ⟨rfl,rfl,_,_,_,_,hrest,hvi',hwi',by omega, hR⟩
     | false =>
      rw [if_neg (fun q=>absurd (hiff.mpr q) Bool.false_ne_true)] at hR
      have hri:=rcLt_int A.in1 ⟨hp,g,d,tk, os⟩ a t c u prog w
      wp_walk using hri
      exact ⟨_,rfl, by simpa using hR⟩
  case fin =>
   rintro ⟨b1,b2⟩ s' ⟨hb',rfl,vs,ws,ns',ms',hz,hvi,hwi,hlen, hR⟩
   simp only at hb'
   subst hb'
   have hv:lexLt ns' ms'=decide (items.size<items2.size):=by
    cases hvi with
    | nil =>
     cases hwi with
     | nil =>
      simp only [List.length_nil] at hlen
      rw [lexLt_nil_nil]
      exact (decide_eq_false (by omega)).symm
     | cons c u hw =>
      simp only [List.length_nil,Yq] at hlen
      rw [lexLt_nil_cons]
      exact (decide_eq_true (by omega)).symm
    | cons a t hv =>
     cases hwi with
     | nil =>
      simp only [List.length_nil,Yq] at hlen
      rw [lexLt_cons_nil]
      exact (decide_eq_false (by omega)).symm
     | cons c u hw =>
      rw [List.zip_cons_cons] at hz
      cases hz
   rw [hv] at hR
   wp_walk
   exact ⟨_,rfl, by simpa [Builtin.Tuple.tupleCompareSizes] using hR⟩
  case h =>
   exact ⟨rfl,rfl,items.toList,items2.toList,ns,ms,rfl,hi,hj,by omega, h⟩
end
section
variable {prog:Program} {w:World} {A:Around} {E:Value→Shared→Prop} {s:Shared}
theorem lt_tupInts {l b:Addr} {items items2:Array Value} {ns ms:List Int} {Q:Value→Shared→Prop} (hl:IsTup s.heap l items) (hb:IsTup s.heap b items2) (hi:IntsAre items.toList ns) (hj:IntsAre items2.toList ms)
  (hu:A.units<cLine) (h:Q (.bool (lexLt ns ms)) s):wpAny (model prog w) A (compareOp .Lt (.ref l) (.ref b)) Q E s:=by
 obtain ⟨⟨cls,dd,data, sl⟩,ho,hc,n, hd⟩:=id hl
 obtain ⟨⟨cls2,dd2,data2, sl2⟩,ho2,hc2,n2, hd2⟩:=id hb
 simp only at hc hd hc2 hd2
 subst hc hd hc2 hd2
 exact richCompare_meets_room (op:=.Lt) ⟨_,ho, rfl⟩ ⟨_,ho2, rfl⟩ PySem.F.slot_tuple_lt PySem.F.entry_tuple_lt (PySem.F.args_tuple_lt_2 _ _) (tuple_lt_ints l b items items2 n n2 dd dd2 sl sl2 ns ms hi hj)
  ⟨ho,ho2, show Value.bool (lexLt ns ms)≠Value.notImplemented∧Q (.bool (lexLt ns ms)) s from ⟨(fun x=>nomatch x),h⟩⟩ hu
def sIx (n d:Nat):Option Int→Nat
 | none=>d
 | some v=>if v<0 then (v+(n:Int)).toNat else min v.toNat n
theorem sIx_none (n d:Nat):sIx n d none=d:=rfl
theorem sIx_nat (n d k:Nat):sIx n d (some (k:Int))=min k n:=by
 show (if (k:Int)<0 then ((k:Int)+(n:Int)).toNat else min (k:Int).toNat n)=min k n
 rw [if_neg (by omega),Int.toNat_natCast]
end
end HT
namespace L2
open PySem PySem.Spec PyProof.Rows
abbrev TO:=St→Hp→(Option Int→Hp→Prop)→Prop
def PO (X:Cx) (e:Option Expr) (t:TO):Prop :=
 ∀ (pins:List (Addr×Obj)) (s:Shared) (σ:St) (H:Hp) (Q:Option Int→Hp→Prop),Inv X pins σ H s→t σ H Q →
  wpAny (model X.prog X.w) X.A (evalPart e X.env) (fun u s'=>∃ o H',Inv X pins σ H' s'∧IsPart u o∧Q o H') X.xe s
def tNoPart:TO:=fun _ H Q=>Q none H
def tPart (t:TE):TO:=fun σ H Q=>t σ H fun x H1=>∃ i,x=.int i∧Q (some i) H1
theorem intsAre_of {ns:List Int}:∀ {us:List Value},Vals (ns.map V.int) us→IntsAre us ns:=by
 induction ns with
 | nil=>intro us r;rw [List.map_nil] at r;cases r;exact .nil
 | cons n ns ih =>
  intro us r
  rw [List.map_cons] at r
  cases r with
  | cons r1 r2 =>
   obtain ⟨t,e⟩:=r1
   subst e
   exact .cons n t (ih r2)
section
variable {X:Cx} {e:Expr} {te:TE} {lo hi:Option Expr} {tl th:TO} {pos p2:Pos}
theorem po_none:PO X none tNoPart:=by
 intro pins s σ H Q I h
 rw [evalPart_none]
 exact wpAny_pure ⟨none,H,I,.none, h⟩
theorem po_some (h:PE X e te):PO X (some e) (tPart te):=by
 intro pins s σ H Q I hw
 rw [evalPart_some]
 refine thn (h pins s σ H _ I hw) fun u s1 ⟨x,H1,I1,r1,q1⟩=>?_
 obtain ⟨i,rfl, q⟩:=q1
 obtain ⟨t,rfl⟩:=r1
 exact ⟨some i,H1,I1,.int i t, q⟩
def SlR (X:Cx) (r:V→Option Int→Option Int→Hp→VK→Prop):Prop :=
 ∀ (pins:List (Addr×Obj)) (s:Shared) (σ:St) (H:Hp) (x:V) (v vl vu:Value) (lo hi:Option Int) (sl:Addr) (Q:VK),Inv X pins σ H s→RelV x v→s.heap.IsSliceOf sl vl vu .none→IsPart vl lo→IsPart vu hi→r x lo hi H Q →
  ∃ T id,typeLookup (.type T) "__getitem__" = pure (some (.builtin id))∧s.TypeIs v T∧wpAny (model X.prog X.w) X.A (getItem v (.ref sl)) (EP X pins σ Q) X.xe s
def tSl (r:V→Option Int→Option Int→Hp→VK→Prop) (te:TE) (tl th:TO):TE:=fun σ H Q=>te σ H fun x H1=>tl σ H1 fun l H2=>th σ H2 fun u H3=>r x l u H3 Q
theorem pe_slice {r:V→Option Int→Option Int→Hp→VK→Prop} (hr:SlR X r) (he:PE X e te) (hl:PO X lo tl) (hu:PO X hi th):PE X (.Subscript e (.Slice lo hi none p2) pos) (tSl r te tl th):=by
 intro pins s σ H Q I h
 refine Subscript_ (thn (he pins s σ H _ I h) fun v s1 ⟨x,H1,I1,r1,q1⟩=>?_)
 refine wpAny_Slice (thn (hl pins s1 σ H1 _ I1 q1) fun vl s2 ⟨l,H2,I2,pl,q2⟩=>thn (hu pins s2 σ H2 _ I2 q2) fun vu s3 ⟨u,H3,I3,pu,q3⟩=>?_)
 rw [evalPart_none]
 refine wpAny_pure ?_
 have I4:Inv X pins σ H3 { s3 with heap:=s3.heap.push { cls:=.type "slice",data:=.fields #[vl,vu,.none] } }:=I3.kept (t':=s3.toks) fun b ob q=>Heap.get?_push_of_some _ q
 obtain ⟨T,id,hT,ht, hg⟩:=hr pins { s3 with heap:=s3.heap.push { cls:=.type "slice",data:=.fields #[vl,vu,.none] } } σ H3 x v vl vu l u s3.heap.objs.size Q I4 r1 (Heap.IsSliceOf.new ..) pl pu q3
 show wpAny (model X.prog X.w) X.A (subscriptTail e (.Slice lo hi none p2) v (.ref s3.heap.objs.size)) (EP X pins σ Q) X.xe { s3 with heap:=s3.heap.push { cls:=.type "slice",data:=.fields #[vl,vu,.none] } }
 exact tail_any (ops:=[.ref s3.heap.objs.size,v]) ht hT hg (by with_unfolding_all rfl)
def cutV (xs:List V) (lo hi:Option Int):List V:=(xs.drop (HT.sIx xs.length 0 lo)).take (HT.sIx xs.length xs.length hi-HT.sIx xs.length 0 lo)
theorem cutV_length (xs:List V) (lo hi:Option Int):(cutV xs lo hi).length≤xs.length:=by
 unfold cutV
 rw [Yw,Yd]
 omega
end
end L2
namespace L2
open PySem PySem.Spec PyProof.Rows
def ixN (n:Nat) (i:Int):Option Nat:=if 0≤i then (if i<n then some i.toNat else none) else if -(n:Int)≤i then some (i+n).toNat else none
def atI {α:Type} (xs:List α) (i:Int):Option α:=(ixN xs.length i).bind fun j=>xs[j]?
theorem ixN_seq {n:Nat} {i:Int} {j:Nat} (h:ixN n i=some j):seqIndex? i n=some j∧j<n∧-(n:Int)≤i∧i<n:=by
 unfold ixN at h
 by_cases h0:0≤i
 ·rw [if_pos h0] at h
  by_cases h1:i<n
  ·rw [if_pos h1] at h
   have e:i.toNat=j:=Option.some.inj h
   exact ⟨by rw [seqIndex_of h0 h1,e],by omega,by omega, h1⟩
  ·rw [if_neg h1] at h;cases h
 ·rw [if_neg h0] at h
  by_cases h1 : -(n:Int)≤i
  ·rw [if_pos h1] at h
   have e:(i+n).toNat=j:=Option.some.inj h
   exact ⟨by rw [seqIndex_neg (by omega) h1,e],by omega,h1, by omega⟩
  ·rw [if_neg h1] at h;cases h
theorem atI_get {α:Type} {xs:List α} {i:Int} {v:α} (h:atI xs i=some v):∃ j,seqIndex? i xs.length=some j∧xs[j]?=some v∧j<xs.length∧-(xs.length:Int)≤i∧i<xs.length:=by
 unfold atI at h
 cases e:ixN xs.length i with
 | none=>rw [e] at h;cases h
 | some j =>
  rw [e] at h
  obtain ⟨h1,h2,h3, h4⟩:=ixN_seq e
  exact ⟨j,h1,h,h2,h3, h4⟩
theorem atI_nat {α:Type} {xs:List α} {j:Nat} {v:α} (h:xs[j]?=some v):atI xs (j:Int)=some v:=by
 have hj:j<xs.length:=(Zj.mp h).1
 have e:ixN xs.length (j:Int)=some j:=by
  unfold ixN
  rw [if_pos (by omega),if_pos (by omega)];simp
 unfold atI;rw [e];exact h
def PlainIx (b:Expr):Prop:=∀ o i,subscripted b false o i=operate [o,i] (getItem o i)
def IxR (X:Cx) (r:R2):Prop :=
 ∀ (value slice:Expr) (pins:List (Addr×Obj)) (s:Shared) (σ:St) (H:Hp) (x y:V) (v u:Value) (Q:VK),Inv X pins σ H s→RelV x v→RelV y u→r x y H Q →
  subscripted slice false v u=operate [v,u] (getItem v u)→wpAny (model X.prog X.w) X.A (subscriptTail value slice v u) (EP X pins σ Q) X.xe s
def MtR (X:Cx) (id:String) (r:V→List V→Hp→VK→Prop):Prop :=
 ∀ (pins:List (Addr×Obj)) (s:Shared) (σ:St) (H:Hp) (x:V) (xs:List V) (v:Value) (us:List Value) (Q:VK),Inv X pins σ H s→RelV x v→Vals xs us→r x xs H Q →
  wpAny (model X.prog X.w) X.A (call (.builtin id) (v::us)) (EP X pins σ Q) X.xe s
section
variable {X:Cx} {a b:Expr} {ta tb:TE} {pos:Pos}
theorem pe_ix {r:R2} (hr:IxR X r) (ha:PE X a ta) (hb:PE X b tb) (hs:PlainIx b):PE X (.Subscript a b pos) (tOp r ta tb):=by
 intro pins s σ H Q I h
 exact Subscript_ (binT ha hb I h fun v u s2 x y H2 I2 rx ry q=>hr a b pins s2 σ H2 x y v u Q I2 rx ry q (hs _ _))
def rIxL (K:PySem.W.Frag):R2:=fun x y H Q=>∃ p xs i v,x=.ref p∧y=.int i∧SqL K H p xs∧atI xs i=some v∧Q v H
def rIxT (K:PySem.W.Frag):R2:=fun x y H Q=>∃ p xs i v,x=.ref p∧y=.int i∧SqT K H p xs∧atI xs i=some v∧Q v H
def rIxS:R2:=fun x y H Q=>∃ z i c,x=.str z∧y=.int i∧z.length≤sizeLine∧atI z.cps.toList i=some c∧Q (.str ⟨#[c]⟩) H
theorem ix_list:IxR X (rIxL X.K):=by
 intro value slice pins s σ H x y v u Q I rx ry h hs
 obtain ⟨p,xs,i,z,rfl,rfl,hq,he, q⟩:=h
 cases rx
 obtain ⟨t,rfl⟩:=ry
 obtain ⟨its,r,pl, hz⟩:=I.list hq
 obtain ⟨j,h1,h2,h3,h4, h5⟩:=atI_get he
 obtain ⟨w,ew, rw'⟩:=r.get h2
 have hl:=r.length
 have hn:=line63
 have fin:EP X pins σ Q w s:=⟨z,H,I,rw', q⟩
 by_cases h0:0≤i
 ·have hj:i.toNat=j:=by
   rw [seqIndex_of h0 h5] at h1
   exact Option.some.inj h1
  exact item_listR pl.isList h0 (by omega) (by rw [hj];simpa using ew) fin hs
 ·have hj:(i+(its.toArray.size:Int)).toNat=j:=by
   rw [seqIndex_neg (by omega) h4] at h1
   rw [List.size_toArray,←hl]
   exact Option.some.inj h1
  exact subscriptTail_builtinR (x:=w) pl.isList.typeIs slot_list_getitem.lookup
   (wpAny_getItem_list_neg (Q:=fun r s'=>r=w∧EP X pins σ Q r s') pl.isList (by omega) (by rw [List.size_toArray]<;>omega) (by omega) (by rw [hj];simpa using ew) ⟨rfl,fin⟩) hs
theorem ix_tup:IxR X (rIxT X.K):=by
 intro value slice pins s σ H x y v u Q I rx ry h hs
 obtain ⟨p,xs,i,z,rfl,rfl,hq,he, q⟩:=h
 cases rx
 obtain ⟨t,rfl⟩:=ry
 obtain ⟨its,r,pl, hz⟩:=I.tuple hq
 obtain ⟨j,h1,h2,h3,h4, h5⟩:=atI_get he
 obtain ⟨w,ew, rw'⟩:=r.get h2
 have hl:=r.length
 have hn:=line63
 have fin:EP X pins σ Q w s:=⟨z,H,I,rw', q⟩
 exact subscriptTail_builtinR (x:=w) pl.typeIs slot_tuple_getitem.lookup
  (getItem_tuple (j:=j) (Q:=fun r s'=>r=w∧EP X pins σ Q r s') pl (by omega) (by omega) (by rw [List.size_toArray,←hl];exact h1) (by simpa using ew) ⟨rfl,fin⟩) hs
theorem ix_str:IxR X rIxS:=by
 intro value slice pins s σ H x y v u Q I rx ry h hs
 obtain ⟨z,i,c,rfl,rfl,hz,he, q⟩:=h
 obtain ⟨t,rfl⟩:=rx
 obtain ⟨t',rfl⟩:=ry
 obtain ⟨j,h1,h2,h3,h4, h5⟩:=atI_get he
 have hl:z.cps.toList.length=z.length:=by simp [Str.length]
 rw [hl] at h1 h4 h5
 have hn:=line63
 exact tail_any (typeIs_str s z t) slot_str_getitem.lookup (getItem_str (c:=c) (by
  have e1:decide (i < -(2 ^ 63:Int))=false:=decide_eq_false (by omega)
  have e2:decide (i≥2 ^ 63)=false:=decide_eq_false (by omega)
  rw [e1,e2,Bool.or_false]) (by rw [h1];simpa using h2) ⟨.str ⟨#[c]⟩,H,I.tok _,⟨_,rfl⟩, q⟩) hs
theorem mapSeq_set (its:List Value) (n j:Nat) (u:Value):Obj.mapSeq (·.setIfInBounds j u) { cls:=.type "list",data:=.seq its.toArray n }={ cls:=.type "list",data:=.seq (its.set j u).toArray n }:=by
 simp [Obj.mapSeq]
theorem Inv.lst {pins:List (Addr×Obj)} {σ:St} {H:Hp} {s:Shared} {p:Addr} {xs:List V} (I:Inv X pins σ H s) (h:H p=some (.lst xs)) :
  ∃ (its:List Value) (n:Nat),Vals xs its∧s.heap.get? p=some { cls:=.type "list",data:=.seq its.toArray n }∧xs.length≤sizeLine:=by
 obtain ⟨z,its,n,r, e⟩:=I.hok p _ h
 exact ⟨its,n,r,e, z⟩
theorem Inv.lstUpd {pins:List (Addr×Obj)} {σ:St} {H:Hp} {s:Shared} {p:Addr} {xs ys:List V} {its its':List Value} {n n':Nat} {f:Obj→Obj} (I:Inv X pins σ H s) (h:H p=some (.lst xs))
  (ho:s.heap.get? p=some { cls:=.type "list",data:=.seq its.toArray n }) (hf:f { cls:=.type "list",data:=.seq its.toArray n }={ cls:=.type "list",data:=.seq its'.toArray n' }) (r:Vals ys its') (hz:ys.length≤sizeLine) (t:Nat) :
  Inv X pins σ (upd H p (.lst ys)) { s with heap:=s.heap.update p f,toks:=t }:=by
 have e:(s.heap.update p f).get? p=some { cls:=.type "list",data:=.seq its'.toArray n' }:=by
  rw [Heap.get?_update_self f ho (by rw [hf]<;>rfl),hf]
 refine I.write (x:=p) (e:=p) (by rw [h];trivial) (.inl rfl) (fun b u hb q=>(Heap.get?_update_other _ _ (Ne.symm hb)).trans q) ⟨_,e⟩ ?_
 exact ⟨hz,its',n',r, e⟩
def rSetL:V→V→V→Hp→(Hp→Prop)→Prop:=fun o i v H Q=>∃ p xs k j,o=.ref p∧i=.int k∧H p=some (.lst xs)∧ixN xs.length k=some j∧Q (upd H p (.lst (xs.set j v)))
theorem set_list:PSet X rSetL:=by
 intro pins s σ H o i v ov iv u Q I ro ri rv h
 obtain ⟨p,xs,k,j,rfl,rfl,hp,hj, q⟩:=h
 cases ro
 obtain ⟨t,rfl⟩:=ri
 obtain ⟨its,n,r,ho, hz⟩:=I.lst hp
 obtain ⟨h1,h2,h3, h4⟩:=ixN_seq hj
 have hl:=r.length
 have hn:=line63
 have I':Inv X pins σ (upd H p (.lst (xs.set j v))) { s with heap:=s.heap.update p (Obj.mapSeq (·.setIfInBounds j u)) } :=
  I.lstUpd hp ho (mapSeq_set its n j u) (r.set rv j) (by rw [List.length_set];exact hz) s.toks
 by_cases h0:0≤k
 ·have hk:k.toNat=j:=by
   rw [seqIndex_of h0 h4] at h1
   exact Option.some.inj h1
  exact PySem.W.ki_setAt ho h0 (by omega) (by rw [List.size_toArray,←hl];exact h4) (by rw [hk];exact ⟨_,I', q⟩)
 ·have hk:(k+(its.toArray.size:Int)).toNat=j:=by
   rw [seqIndex_neg (by omega) h3] at h1
   rw [List.size_toArray,←hl]
   exact Option.some.inj h1
  exact PySem.W.ki_setBack ho (by omega) (by rw [List.size_toArray,←hl];exact h3) (by omega) (by rw [hk];exact ⟨_,I', q⟩)
theorem slice_bounds (lo hi:Option Int) (n:Nat):(sliceBounds lo hi none n).1=((HT.sIx n 0 lo:Nat):Int)∧(sliceBounds lo hi none n).2.1=((HT.sIx n n hi:Nat):Int)∧(sliceBounds lo hi none n).2.2=1:=by
 refine ⟨?_,?_, rfl⟩
 ·cases lo with
  | none=>simp [sliceBounds,HT.sIx]
  | some i =>
   simp only [sliceBounds,HT.sIx,Option.getD_none,show (1:Int)>0 by decide,if_true]
   by_cases h:i<0
   ·simp only [h,if_true]<;>omega
   ·simp only [h,if_false]<;>omega
 ·cases hi with
  | none=>simp [sliceBounds,HT.sIx]
  | some i =>
   simp only [sliceBounds,HT.sIx,Option.getD_none,show (1:Int)>0 by decide,if_true]
   by_cases h:i<0
   ·simp only [h,if_true]<;>omega
   ·simp only [h,if_false]<;>omega
theorem slicePick_cut (its:List Value) (lo hi:Option Int):slicePick its.toArray lo hi none=((its.drop (HT.sIx its.length 0 lo)).take (HT.sIx its.length its.length hi-HT.sIx its.length 0 lo)).toArray:=by
 obtain ⟨h1,h2, h3⟩:=slice_bounds lo hi its.toArray.size
 unfold slicePick
 rw [h1,h2,h3]
 simp only [sliceRange_one,pick_run,List.size_toArray]<;>rfl
def rSlL (K:PySem.W.Frag):V→Option Int→Option Int→Hp→VK→Prop:=fun x lo hi H Q=>∃ a xs,x=.ref a∧SqL K H a xs∧∀ p,H p=none→Q (.ref p) (upd H p (.lst (cutV xs lo hi)))
theorem sl_list:SlR X (rSlL X.K):=by
 intro pins s σ H x v vl vu lo hi sl Q I rx hs pl pu h
 obtain ⟨a,xs,rfl,hx, q⟩:=h
 cases rx
 obtain ⟨its,r,ht, hz⟩:=I.list hx
 have hlen:=r.length
 refine ⟨"list",_,slot_list_getitem.lookup,ht.isList.typeIs, ?_⟩
 refine wpAny_getItem_list_slice ht.isList hs pl pu .none (by simp) ?_ (by rw [List.size_toArray]<;>omega)
 rw [slicePick_cut,←hlen]
 refine ⟨.ref s.heap.objs.size,_,I.laid (t':=s.toks) (o:=.lst (cutV xs lo hi)) (fun b ob q=>Heap.get?_push_of_some _ q) (Nat.le_refl _) ?_,rfl, q _ (I.hok.fresh (Nat.le_refl _))⟩
 exact ⟨Yr (cutV_length xs lo hi) hz,_,0,(r.drop (HT.sIx xs.length 0 lo)).take (HT.sIx xs.length xs.length hi-HT.sIx xs.length 0 lo), Heap.get?_push_size _ rfl⟩
def flatV:V→Bool
 | .non=>true
 | .bl _=>true
 | .int _=>true
 | .str _=>true
 | _=>false
def eqV:V→V→Bool
 | .non,.non=>true
 | .bl a,.bl b=>a==b
 | .bl a,.int b=>(if a then 1 else 0)==b
 | .int a,.bl b=>a==(if b then 1 else 0)
 | .int a,.int b=>a==b
 | .str a,.str b=>a==b
 | _,_=>false
theorem eqAt_V {A:Around} {s:Shared} {y x:V} {u v:Value} (ry:RelV y u) (rx:RelV x v) (fy:flatV y=true) (fx:flatV x=true):SeqAt.EqAt A s u v (eqV y x):=by
 cases y with
 | non =>
  cases ry
  cases x with
  | non=>cases rx;exact SeqAt.EqAt.same _
  | bl b=>cases rx;exact SeqAt.EqAt.none_bool b
  | int b=>obtain ⟨t,rfl⟩:=rx;exact SeqAt.EqAt.none_int b t
  | str b=>obtain ⟨t,rfl⟩:=rx;exact SeqAt.EqAt.none_str b t
  | _=>exact absurd (show false=true from fx) Bool.false_ne_true
 | bl a =>
  cases ry
  cases x with
  | non=>cases rx;exact SeqAt.EqAt.bool_none a
  | bl b=>cases rx;exact SeqAt.EqAt.bool_bool a b
  | int b=>obtain ⟨t,rfl⟩:=rx;exact SeqAt.EqAt.bool_int a b t
  | str b=>obtain ⟨t,rfl⟩:=rx;exact SeqAt.EqAt.bool_str a b t
  | _=>exact absurd (show false=true from fx) Bool.false_ne_true
 | int a =>
  obtain ⟨t',rfl⟩:=ry
  cases x with
  | non=>cases rx;exact SeqAt.EqAt.int_none a t'
  | bl b=>cases rx;exact SeqAt.EqAt.int_bool a t' b
  | int b=>obtain ⟨t,rfl⟩:=rx;exact SeqAt.EqAt.int_int a t' b t
  | str b=>obtain ⟨t,rfl⟩:=rx;exact SeqAt.EqAt.int_str a t' b t
  | _=>exact absurd (show false=true from fx) Bool.false_ne_true
 | str a =>
  obtain ⟨t',rfl⟩:=ry
  cases x with
  | non=>cases rx;exact SeqAt.EqAt.str_none a t'
  | bl b=>cases rx;exact SeqAt.EqAt.str_bool a t' b
  | int b=>obtain ⟨t,rfl⟩:=rx;exact SeqAt.EqAt.str_int a t' b t
  | str b=>obtain ⟨t,rfl⟩:=rx;exact SeqAt.EqAt.str_str a t' b t
  | _=>exact absurd (show false=true from fx) Bool.false_ne_true
 | _=>exact absurd (show false=true from fy) Bool.false_ne_true
def eqU (x:V) (u:Value):Bool:=match u with
 | .none=>eqV .non x
 | .bool b=>eqV (.bl b) x
 | .int i _=>eqV (.int i) x
 | .str z _=>eqV (.str z) x
 | _=>false
theorem eqU_of {x y:V} {u:Value} (r:RelV y u) (f:flatV y=true):eqU x u=eqV y x:=by
 cases y with
 | non=>cases r;rfl
 | bl b=>cases r;rfl
 | int i=>obtain ⟨t,rfl⟩:=r;rfl
 | str z=>obtain ⟨t,rfl⟩:=r;rfl
 | _=>exact absurd (show false=true from f) Bool.false_ne_true
theorem mem_eqAt {A:Around} {s:Shared} {x:V} {v:Value} (rx:RelV x v) (fx:flatV x=true):∀ {xs:List V} {us:List Value},Vals xs us→xs.all flatV=true→∀ u∈us,SeqAt.EqAt A s u v (eqU x u)
 | _,_,.nil,_=>fun u hu=>by cases hu
 | y::xs,u::us,.cons r t,f=>fun u' hu=>by
  rw [List.all_cons,Xv] at f
  rcases Zn.mp hu with rfl | hu
  ·rw [eqU_of r f.1];exact eqAt_V r rx f.1 fx
  ·exact mem_eqAt rx fx t f.2 u' hu
theorem call_len_seq:CallR X (.builtin "len") (fun xs H Q=>∃ p ys,xs=[.ref p]∧(SqL X.K H p ys∨SqT X.K H p ys)∧Q (.int ys.length) H):=by
 intro pins s σ H xs us Q I r h
 obtain ⟨p,ys,rfl,hq, q⟩:=h
 obtain ⟨u,rfl, rx⟩:=vals1 r
 cases rx
 have hn:=line63
 rcases hq with hq | hq
 ·obtain ⟨its,r',pl, hz⟩:=I.list hq
  have hlen:=r'.length
  exact Calls.call_len_list pl.isList (by simp only [List.size_toArray]<;>omega) ⟨.int ys.length,H,I.tok _,⟨s.toks+1,by rw [List.size_toArray,hlen]⟩, q⟩
 ·obtain ⟨its,r',pl, hz⟩:=I.tuple hq
  have hlen:=r'.length
  exact len_tuple pl (by simp only [List.size_toArray]<;>omega) ⟨.int ys.length,H,I.tok _,⟨s.toks+1,by rw [List.size_toArray,hlen]⟩, q⟩
theorem call_list_of:CallR X (.type "list") (fun xs H Q=>∃ p ys,xs=[.ref p]∧(SqL X.K H p ys∨SqT X.K H p ys)∧∀ l,H l=none→Q (.ref l) (upd H l (.lst ys))):=by
 intro pins s σ H xs us Q I r h
 obtain ⟨p,ys,rfl,hq, q⟩:=h
 obtain ⟨u,rfl, rx⟩:=vals1 r
 cases rx
 have fin:∀ (its:List Value),Vals ys its→ys.length≤sizeLine→∀ (h':Heap) (c':Nat),(∀ b o',s.heap.get? b=some o'→h'.get? b=some o') →
   h'.get? s.heap.objs.size=some { cls:=.type "list",dict:=none,data:=.seq its.toArray c',slots:=#[] }→EP X pins σ Q (.ref s.heap.objs.size) { s with heap:=h' }:=fun its r' hz h' c' kp e =>
  ⟨.ref s.heap.objs.size,_,I.laid (t':=s.toks) kp (Nat.le_refl _) (show ObjOk X.prog X.w _ h' _ (.lst ys) from ⟨hz,its,c',r', e⟩),rfl, q _ (I.hok.fresh (Nat.le_refl _))⟩
 rcases hq with hq | hq
 ·obtain ⟨its,r',pl, hz⟩:=I.list hq
  have hlen:=r'.length
  obtain ⟨o,ho,hc,n, hd⟩:=pl.isList
  exact call_list_seq p (.inl rfl) ho hc hd (fun h' c' kp e=>fin its r' hz h' c' kp e) (by simp only [List.size_toArray]<;>omega)
 ·obtain ⟨its,r',pl, hz⟩:=I.tuple hq
  have hlen:=r'.length
  obtain ⟨o,ho,hc,n, hd⟩:=pl
  exact call_list_seq p (.inr rfl) ho hc hd (fun h' c' kp e=>fin its r' hz h' c' kp e) (by simp only [List.size_toArray]<;>omega)
def tyV (K:PySem.W.Frag) (T:String) (x:V) (H:Hp):Prop:=match x with
 | .str _=>T="str"
 | .int _=>T="int"
 | .ref p=>(T="list"∧∃ xs,SqL K H p xs)∨(T="tuple"∧∃ o,K.lookup p=some o∧o.cls=.type "tuple"∧o.dict=none) ∨
   (T="dict"∧((∃ kvs,H p=some (.dK kvs))∨∃ kvs,H p=some (.dT kvs)))∨(T="set"∧∃ S n,H p=some (.set S n))
 | _=>False
theorem tyV_is {pins:List (Addr×Obj)} {σ:St} {H:Hp} {s:Shared} {T:String} {x:V} {v:Value} (I:Inv X pins σ H s) (r:RelV x v) (ty:tyV X.K T x H) :
  s.TypeIs v T∧∀ a,v=.ref a→∃ ob,s.heap.get? a=some ob∧ob.dict=none:=by
 cases x with
 | str z =>
  obtain ⟨t,rfl⟩:=r
  cases (show T="str" from ty)
  exact ⟨typeIs_str s z t,fun _ e=>nomatch e⟩
 | int i =>
  obtain ⟨t,rfl⟩:=r
  cases (show T="int" from ty)
  exact ⟨typeIs_int s i t,fun _ e=>nomatch e⟩
 | ref p =>
  cases r
  rcases ty with ⟨rfl,xs, hq⟩ | ⟨rfl,o,hk,hc, hd⟩ | ⟨rfl,hk⟩ | ⟨rfl,S,n, hk⟩
  ·obtain ⟨its,_,pl, _⟩:=I.list hq
   refine ⟨pl.isList.typeIs,fun a e=>?_⟩
   cases e
   obtain ⟨o,n,e,c,hd, _⟩:=pl
   exact ⟨o,e, hd⟩
  ·refine ⟨⟨o,I.kIn p o hk, hc⟩,fun a e=>?_⟩
   cases e
   exact ⟨o,I.kIn _ o hk, hd⟩
  ·have z:∃ o,s.heap.get? p=some o∧o.ExactDict:=by
    rcases hk with ⟨kvs,hk⟩ | ⟨kvs,hk⟩
    ·obtain ⟨_,_,_,_,o,_,_,e,ex, _⟩:=I.hok p _ hk
     exact ⟨o,e, ex⟩
    ·obtain ⟨_,_,_,_,o,_,_,e,ex, _⟩:=I.hok p _ hk
     exact ⟨o,e, ex⟩
   obtain ⟨o,e, ex⟩:=z
   refine ⟨⟨o,e, ex.1⟩,fun a e2=>?_⟩
   cases e2
   exact ⟨o,e, ex.2.1⟩
  ·obtain ⟨o,_,_,_,e,ex, _⟩:=I.hok p _ hk
   refine ⟨⟨o,e, ex.1⟩,fun a e2=>?_⟩
   cases e2
   exact ⟨o,e, ex.2.1⟩
 | _=>exact False.elim ty
def tBM0 (K:PySem.W.Frag) (T:String) (r:V→List V→Hp→VK→Prop) (to:TE):TE:=fun σ H Q=>to σ H fun x H1=>tyV K T x H1∧r x [] H1 Q
def tBM (K:PySem.W.Frag) (T:String) (r:V→List V→Hp→VK→Prop) (to:TE) (t:TA):TE:=fun σ H Q=>to σ H fun x H1=>tyV K T x H1∧t σ H1 fun xs H2=>r x xs H2 Q
variable {o e:Expr} {es:List Expr} {to:TE} {t:TA} {name:Str} {apos cpos:Pos} {T id:String} {r:V→List V→Hp→VK→Prop}
theorem pe_bm0 (pa:PlainAttrs T) (slot:Slot T name id) (hty:typeOf (.builtin id)=pure (.type "method_descriptor")) (hm:MtR X id r) (ho:PE X o to)
  (hbase:attributeBase o name X.env (eval o X.env)=eval o X.env:=by rfl) (hline:(apos.endLine==cpos.line)=true:=by rfl):PE X (.Call (.Attribute o name apos) [] [] cpos) (tBM0 X.K T r to):=by
 intro pins s σ H Q I h
 refine wpAny_Call_method0_late hbase hline (thn (ho pins s σ H _ I h) fun v s1 ⟨x,H1,I1,r1,ty,q1⟩=>?_)
 obtain ⟨h1,h2⟩:=tyV_is I1 r1 ty
 exact ⟨T,id,pa,slot,hty,h1,h2, Calls.callWith_builtin rfl (PySem.evalArgs_none (hm pins s1 σ H1 x [] v [] Q I1 r1 .nil q1))⟩
theorem pe_bm (pa:PlainAttrs T) (slot:Slot T name id) (hty:typeOf (.builtin id)=pure (.type "method_descriptor")) (hm:MtR X id r) (ho:PE X o to) (ha:PA X (e::es) t)
  (hbase:attributeBase o name X.env (eval o X.env)=eval o X.env:=by rfl)
  (hfew:((backTo cpos (starEach (e::es) X.env)).all (fun x=>!x.1)&&(backToKw cpos (keywordEach [] X.env)).all (fun x=>x.1.isSome)
   && decide ((e::es).length+([]:List Keyword).length+(if ([]:List Keyword).isEmpty then 0 else 1)<30))=true:=by rfl)
  (hline:(apos.endLine==cpos.line)=true:=by rfl) (hs:starEach (e::es) X.env=(false,eval e X.env)::starEach es X.env:=by rfl) (hplain:(backTo cpos (starEach es X.env)).any (·.1)=false:=by rfl) :
  PE X (.Call (.Attribute o name apos) (e::es) [] cpos) (tBM X.K T r to t):=by
 intro pins s σ H Q I h
 refine wpAny_Call_method_late hbase hfew hline rfl (thn (ho pins s σ H _ I h) fun v s1 ⟨x,H1,I1,r1,ty,q1⟩=>?_)
 obtain ⟨h1,h2⟩:=tyV_is I1 r1 ty
 refine ⟨T,id,pa,slot,hty,h1,h2, ?_⟩
 have hA:=ha cpos pins s1 σ H1 _ I1 q1
 rw [hs] at hA ⊢
 refine Calls.callWith_builtin (by show (false||(backTo cpos (starEach es X.env)).any (·.1))=false;rw [hplain]<;>rfl) (Calls.evalArgs_plain ?_)
 exact thn hA fun us s2 ⟨vs,H2,I2,r2,q2⟩=>hm pins s2 σ H2 x vs v us Q I2 r1 r2 q2
end
end L2
namespace L2
open PySem PySem.Spec PyProof.Rows
def MtM (X:Cx) (id:String) (r:V→List V→Hp→VK→Prop):Prop :=
 ∀ (pins:List (Addr×Obj)) (s:Shared) (σ:St) (H:Hp) (x:V) (xs:List V) (v:Value) (us:List Value) (Q:VK),Inv X pins σ H s→RelV x v→Vals xs us→r x xs H Q →
  wpAny (model X.prog X.w) X.A (call (.builtin id) (v::us)) (EP X pins σ Q) X.xe s
theorem Vals.one:∀ {x:V} {us:List Value},Vals [x] us→∃ u,us=[u]∧RelV x u:=by
 intro x us h
 cases h with
 | cons r h=>cases h;exact ⟨_,rfl, r⟩
theorem Vals.two:∀ {x y:V} {us:List Value},Vals [x,y] us→∃ u v,us=[u,v]∧RelV x u∧RelV y v:=by
 intro x y us h
 cases h with
 | cons r h=>cases h with
  | cons q h=>cases h;exact ⟨_,_,rfl,r, q⟩
theorem Vals.zero:∀ {us:List Value},Vals [] us→us=[]
 | _,.nil=>rfl
theorem Vals.dropLast {xs:List V} {us:List Value} (h:Vals xs us):Vals xs.dropLast us.dropLast:=by
 induction h with
 | nil=>exact .nil
 | cons r t ih =>
  cases t with
  | nil=>exact .nil
  | cons q t'=>exact .cons r ih
theorem Vals.reverse {xs:List V} {us:List Value} (h:Vals xs us):Vals xs.reverse us.reverse:=by
 induction h with
 | nil=>exact .nil
 | cons r t ih=>rw [List.reverse_cons,List.reverse_cons];exact Vals.append ih (.cons r .nil)
theorem Vals.rep {xs:List V} {us:List Value} (h:Vals xs us):∀ k:Nat,Vals (List.replicate k xs).flatten (List.replicate k us).flatten
 | 0=>.nil
 | k+1=>by
  rw [List.replicate_succ,List.replicate_succ,List.flatten_cons,List.flatten_cons]
  exact Vals.append h (Vals.rep h k)
theorem erase_last {α:Type} (l:List α):l.eraseIdx (l.length-1)=l.dropLast:=by
 induction l with
 | nil=>rfl
 | cons a r ih =>
  cases r with
  | nil=>rfl
  | cons b r =>
   have e:(a::b::r).length-1=((b::r).length-1)+1:=by
    have h1:(a::b::r).length=r.length+2:=rfl
    have h2:(b::r).length=r.length+1:=rfl
    omega
   rw [e,List.eraseIdx_cons_succ,ih]
   all_goals rfl
theorem foldl_rep (its:List Value):∀ (k:Nat) (acc:List Value),
  List.foldl (fun x1 x2=>x1++x2) acc.toArray (List.replicate k its.toArray)=(acc++(List.replicate k its).flatten).toArray
 | 0,acc=>by simp
 | k+1,acc=>by
  have e:acc.toArray++its.toArray=(acc++its).toArray:=by simp
  have e2:(acc++its)++(List.replicate k its).flatten=acc++(List.replicate (k+1) its).flatten:=by
   rw [List.replicate_succ,List.flatten_cons,Yb]
  rw [←e2,←foldl_rep its k (acc++its),←e,List.replicate_succ,List.foldl_cons]
section
variable {X:Cx} {pins:List (Addr×Obj)} {σ:St} {H:Hp} {s:Shared} {l b:Addr} {xs ys zs:List V}
theorem Inv.lset {its its':List Value} {n:Nat} {f:Array Value→Array Value} {t':Nat} (I:Inv X pins σ H s) (hH:H l=some (.lst xs))
  (e:s.heap.get? l=some { cls:=.type "list",data:=.seq its.toArray n }) (hf:f its.toArray=its'.toArray) (hv:Vals ys its') (hz:ys.length≤sizeLine) :
  Inv X pins σ (upd H l (.lst ys)) { s with heap:=s.heap.update l (Obj.mapSeq f),toks:=t' }:=by
 have q:=PySem.IsL.update e f
 rw [hf] at q
 refine I.write (x:=l) (e:=l) (by rw [hH];exact trivial) (.inl rfl) (fun b' u hb hu=>(Heap.get?_update_other s.heap (Obj.mapSeq f) (Ne.symm hb)).trans hu) ⟨_,q⟩ ?_
 exact ⟨hz,its',_,hv, q⟩
theorem Inv.lnew {its:List Value} {t':Nat} (I:Inv X pins σ H s) (hv:Vals ys its) (hz:ys.length≤sizeLine) :
  Inv X pins σ (upd H s.heap.objs.size (.lst ys)) { s with heap:=s.heap.push { cls:=.type "list",data:=.seq its.toArray },toks:=t' } :=
 I.laid (fun _ _ q=>Heap.get?_push_of_some _ q) (Nat.le_refl _) ⟨hz,its,0,hv, Heap.get?_push_size _ rfl⟩
theorem Inv.fresh (I:Inv X pins σ H s):H s.heap.objs.size=none:=I.hok.fresh (Nat.le_refl _)
theorem Inv.lstM (I:Inv X pins σ H s) (hH:H l=some (.lst xs)):xs.length≤sizeLine∧∃ (its:List Value) (n:Nat),Vals xs its∧xs.length=its.length∧s.heap.get? l=some { cls:=.type "list",data:=.seq its.toArray n }:=by
 obtain ⟨z,its,n,r, e⟩:=I.hok l _ hH
 exact ⟨z,its,n,r,r.length, e⟩
theorem notLongL {n:Nat} (h:n≤sizeLine):Builtin.List.listTooLong n=false:=by
 unfold Builtin.List.listTooLong
 exact decide_eq_false (by omega)
end
section
variable {X:Cx}
def rAppend:V→List V→Hp→VK→Prop:=fun x vs H Q=>∃ l xs y,x=.ref l∧vs=[y]∧H l=some (.lst xs)∧xs.length<sizeLine∧Q .non (upd H l (.lst (xs++[y])))
theorem mt_append:MtM X "list.append" rAppend:=by
 intro pins s σ H x vs v us Q I rx rv h
 obtain ⟨l,xs,y,rfl,rfl,hH,hz, q⟩:=h
 cases rx
 obtain ⟨u,rfl, ru⟩:=rv.one
 obtain ⟨z,its,n,r,hl, e⟩:=I.lstM hH
 refine call_meets F.slot_list_append ⟨_,e, rfl⟩ F.entry_list_append (F.args_list_append_2 _ _) (PySem.list_append l its.toArray n u (by rw [List.size_toArray];omega)) ⟨e,?_⟩
 refine ⟨.non,_,I.lset (its':=its++[u]) hH e (by simp) (r.append (.cons ru .nil)) ?_,rfl, q⟩
 rw [Zm,ZQ]
 omega
def rExtend:V→List V→Hp→VK→Prop:=fun x vs H Q=>∃ l b xs zs,x=.ref l∧vs=[.ref b]∧H l=some (.lst xs)∧H b=some (.lst zs)∧xs.length+zs.length≤sizeLine∧Q .non (upd H l (.lst (xs++zs)))
theorem mt_extend:MtM X "list.extend" rExtend:=by
 intro pins s σ H x vs v us Q I rx rv h
 obtain ⟨l,b,xs,zs,rfl,rfl,hH,hB,hz, q⟩:=h
 cases rx
 obtain ⟨u,rfl, ru⟩:=rv.one
 cases ru
 obtain ⟨z,its,n,r,hl, e⟩:=I.lstM hH
 obtain ⟨z2,its2,n2,r2,hl2, e2⟩:=I.lstM hB
 have hsz:its.toArray.size+its2.toArray.size≤sizeLine:=by rw [List.size_toArray,List.size_toArray];omega
 have hlong:¬(!its.toArray.isEmpty&&Builtin.List.listTooLong (its.toArray.size+its2.toArray.size))=true:=by
  rw [notLongL hsz,Bool.and_false]
  exact Bool.false_ne_true
 refine call_meets F.slot_list_extend ⟨_,e, rfl⟩ F.entry_list_extend (F.args_list_extend_2 _ _)
  (AutoSeq1.list_extend_list_list_0 l its.toArray n b its2.toArray n2 hlong (by rw [List.size_toArray];omega) (by omega)) ⟨e,e2, ?_⟩
 refine ⟨.non,_,I.lset (its':=its++its2) hH e (by simp) (r.append r2) ?_,rfl, q⟩
 rw [Zm]
 omega
def rPop:V→List V→Hp→VK→Prop:=fun x vs H Q=>∃ l xs y,x=.ref l∧vs=[]∧H l=some (.lst xs)∧xs[xs.length-1]?=some y∧Q y (upd H l (.lst xs.dropLast))
theorem mt_pop:MtM X "list.pop" rPop:=by
 intro pins s σ H x vs v us Q I rx rv h
 obtain ⟨l,xs,y,rfl,rfl,hH,hy, q⟩:=h
 cases rx
 have hus:=rv.zero
 subst hus
 obtain ⟨z,its,n,r,hl, e⟩:=I.lstM hH
 obtain ⟨u,hu, ru⟩:=r.get hy
 have hy':its.toArray[its.toArray.size-1]?=some u:=by
  show its.toArray[its.length-1]?=some u
  rw [←Array.getElem?_toList,←hl]
  exact hu
 refine call_meets F.slot_list_pop ⟨_,e, rfl⟩ F.entry_list_pop (F.args_list_pop_1 _) (MeetsSeq.list_pop_last l its.toArray n u hy' (by rw [List.size_toArray];omega)) ⟨e,?_⟩
 refine ⟨y,_,I.lset (its':=its.dropLast) hH e ?_ r.dropLast ?_,ru, q⟩
 ·show its.toArray.eraseIdxIfInBounds (its.toArray.size-1)=its.dropLast.toArray
  rw [List.size_toArray,List.eraseIdxIfInBounds_toArray,erase_last]
 ·rw [List.length_dropLast]
  omega
def rClear:V→List V→Hp→VK→Prop:=fun x vs H Q=>∃ l xs,x=.ref l∧vs=[]∧H l=some (.lst xs)∧Q .non (upd H l (.lst []))
theorem mt_clear:MtM X "list.clear" rClear:=by
 intro pins s σ H x vs v us Q I rx rv h
 obtain ⟨l,xs,rfl,rfl,hH, q⟩:=h
 cases rx
 have hus:=rv.zero
 subst hus
 obtain ⟨z,its,n,r,hl, e⟩:=I.lstM hH
 refine call_meets F.slot_list_clear ⟨_,e, rfl⟩ F.entry_list_clear (F.args_list_clear_1 _) (AutoSeq1.list_clear_list_0 l its.toArray n (by rw [List.size_toArray];omega)) ⟨e,?_⟩
 exact ⟨.non,_,I.lset (its':=[]) (ys:=[]) hH e rfl .nil (Nat.zero_le _),rfl, q⟩
def rCat:R2:=fun x y H Q=>∃ l b xs zs,x=.ref l∧y=.ref b∧H l=some (.lst xs)∧H b=some (.lst zs)∧xs.length+zs.length≤sizeLine∧∀ p,H p=none→Q (.ref p) (upd H p (.lst (xs++zs)))
theorem op_cat:OpR X (binaryOp .Add) rCat:=by
 intro pins s σ H x y v u Q I rx ry h
 obtain ⟨l,b,xs,zs,rfl,rfl,hH,hB,hz, q⟩:=h
 cases rx
 cases ry
 obtain ⟨z,its,n,r,hl, e⟩:=I.lstM hH
 obtain ⟨z2,its2,n2,r2,hl2, e2⟩:=I.lstM hB
 refine PySem.P.add_list e e2 ?_ (by rw [List.size_toArray,List.size_toArray];omega)
 have ea:its.toArray++its2.toArray=(its++its2).toArray:=by simp
 rw [ea]
 exact ⟨.ref _,_,I.lnew (t':=s.toks) (r.append r2) (by rw [Zm];omega),rfl, q _ I.fresh⟩
def rRep:R2:=fun x y H Q=>∃ l k xs,x=.ref l∧y=.int k∧H l=some (.lst xs)∧-(2 ^ 63)≤k∧k<2 ^ 63∧xs.length*k.toNat≤sizeLine ∧
 ∀ p,H p=none→Q (.ref p) (upd H p (.lst (List.replicate k.toNat xs).flatten))
theorem len_rep {α:Type} (xs:List α) (k:Nat):(List.replicate k xs).flatten.length=k*xs.length:=by
 induction k with
 | zero=>simp
 | succ k ih=>rw [List.replicate_succ,List.flatten_cons,Zm,ih,Nat.succ_mul,Nat.add_comm]
theorem op_rep:OpR X (binaryOp .Mult) rRep:=by
 intro pins s σ H x y v u Q I rx ry h
 obtain ⟨l,k,xs,rfl,rfl,hH,h1,h2,hz, q⟩:=h
 cases rx
 obtain ⟨t,rfl⟩:=ry
 obtain ⟨z,its,n,r,hl, e⟩:=I.lstM hH
 have hlen:its.toArray.size*k.toNat≤sizeLine:=by rw [List.size_toArray,←hl];exact hz
 have hcap:¬its.toArray.size*k.toNat>(2 ^ 63-1) / 8:=by
  have:(sizeLine:Nat)≤(2 ^ 63-1) / 8:=by decide
  omega
 have hfit:¬(!Builtin.List.listFitsIndex k)=true:=by
  rw [fitsIndex_both h1 h2]
  exact Bool.false_ne_true
 have hlong:¬Builtin.List.listTooLong (its.toArray.size*k.toNat)=true:=by
  rw [notLongL hlen]
  exact Bool.false_ne_true
 have hnew:List.foldl (fun x1 x2=>x1++x2) #[] (List.replicate (if its.toArray.isEmpty=true then 0 else k.toNat) its.toArray)=(List.replicate k.toNat its).flatten.toArray:=by
  have f0:∀ m:Nat,List.foldl (fun x1 x2=>x1++x2) #[] (List.replicate m its.toArray)=(List.replicate m its).flatten.toArray:=fun m=>by
   have:=foldl_rep its m []
   rw [List.nil_append] at this
   exact this
  rw [f0]
  cases its with
  | nil=>simp
  | cons a r'=>rw [if_neg (by simp)]
 refine wpAny_binaryOp_repeat_ref (T:="list") (U:="int") (by decide) ⟨_,e, rfl⟩ (fun s'=>typeIs_int s' k t) noFill_list_mul F.fills_int_mul F.slot_int_rmul repeat_list F.slot_int_index.lookup
  (call_meets F.slot_int_rmul (typeIs_int s k t) F.entry_int_rmul (F.args_int_rmul_2 _ _) (int___rmul___int_list k t l its.toArray n)
   ⟨e,rfl,⟨_,e, rfl⟩, call_meets F.slot_list_mul ⟨_,e, rfl⟩ F.entry_list_mul (F.args_list_mul_2 _ _) (AutoListH.list___mul___list_int_3 l its.toArray n k t hfit hcap hlong) ⟨e,?_⟩⟩)
 rw [hnew]
 exact ⟨.ref _,_,I.lnew (t':=s.toks) (r.rep k.toNat) (by rw [len_rep,Nat.mul_comm];exact hz),rfl, q _ I.fresh⟩
end
section
variable {prog:Program} {w:World} {A:Around} {E:Value→Shared→Prop} {s:Shared}
end
section
variable {X:Cx}
end
end L2
namespace Att
open PySem PySem.W PySem.Calls PyProof.Rows
theorem ints_of_wellAll {P:Params} {h:Heap}:∀ (ns:List Int) (vs:List Value),WellAll P h vs (ns.map WData.int)→IntsAre vs ns:=by
 intro ns
 induction ns with
 | nil =>
  intro vs w
  rw [List.map_nil] at w
  cases w
  exact .nil
 | cons n ns ih =>
  intro vs w
  rw [List.map_cons] at w
  cases w with
  | cons a b =>
   cases a
   exact .cons _ _ (ih _ b)
theorem script_of {l:OpenLaw} {n:Nat} (hn:l.most=some n) {P:Params} {h:Heap} {args:List WData} {vals:List Value}
  (hpre:l.row.toRowW.claim.pre args=true) (hwl:WellAll P h vals args) :
  ∃ a vs ns,vals=[Value.ref a]∧args=[WData.list (ns.map WData.int)]∧h.get? a=some { cls:=.type "list",data:=.seq vs.toArray }∧IntsAre vs ns∧ns.length≤n:=by
 have hsh:WShape.hasAll [] args [.list .int]=true:=(pre_splitW hpre).1
 have hc:l.pre.holds [] { args:=args }=true:=(pre_splitW hpre).2
 obtain ⟨d,r,rfl,h1, h2⟩:=hasAllW_cons hsh
 obtain rfl:=hasAllW_nil h2
 obtain ⟨xs,rfl, h3⟩:=hasW_list h1
 obtain ⟨ns,rfl⟩:=items_int h3
 have hlen:ns.length≤n:=by
  unfold OpenLaw.pre at hc
  have h4:(WTm.not (.lt (.lit (.int (n:Int))) (.len (.arg 0)))).holds [] { args:=[.list (ns.map .int)] }=true:=by
   have h4:=(holds_andW hc).1
   rw [hn] at h4
   exact h4
  have h5:=condW_of h4 (w_not (w_lt w_lit (w_len_list (w_arg rfl))))
  rw [Zq] at h5
  refine Nat.le_of_not_lt fun q=>?_
  have q':(n:Int)<((ns.length:Nat):Int):=by omega
  first
   | (rw [decide_eq_true q'] at h5;exact absurd h5 (by decide))
   | (simp at h5;omega)
 cases hwl with
 | cons w1 w2 =>
  cases w2
  cases w1 with
  | list ho hall=>exact ⟨_,_,ns,rfl,rfl,ho,ints_of_wellAll ns _ hall, hlen⟩
theorem post_true (l:OpenLaw) (args:List WData):l.row.toRowW.claim.post args (.bool true) args=true :=
 postW_of (r:=l.row.toRowW) (X:=(true==true))
  (show WShape.has [] (.bool true) .bool=true by first | rfl | decide | simp [WShape.has,WShape.arms,WShape.armsAll])
  (show (WTm.eq .res (.lit (.bool true))).value [] { args:=args,res:=some (.bool true),after:=args }=some (.bool (true==true)) from w_eq_bool (w_res rfl) w_lit) rfl
theorem attach_call {l:OpenLaw} {n:Nat} {q:Program} {loose:List Str} {XP:(Str→Option Value)→Heap→Prop} {YP:World→Heap→Prop} {d:DefRec}
  (hn:l.most=some n) (hdf:d.params.defaults=[])
  (call:∀ (w:World) (s₀ s₁:Shared) (mg mb:Str→Option Value) (fa:Addr) (o:Obj) (pm cd doc:Value) (a:Addr) (vs:List Value) (ns:List Int),
   Ground q loose [] XP w s₀ mg mb s₁.heap→YP w s₁.heap →
   s₁.heap.get? fa=some o→o.data=.func (docDef d.name d.params d.body d.scope pm cd doc)→s₁.heap.CodeRec cd d.name→mg d.name=some (.ref fa) →
   s₁.heap.get? a=some { cls:=.type "list",data:=.seq vs.toArray }→IntsAre vs ns→ns.length≤n→s₁.gens=#[] →
   codeAny (model l.prog w) callerA (.call (.ref fa) ⟨[.ref a],[]⟩) (fun r s'=>r=.ok (.ret (.bool true))∧OldK s₁.heap s'.heap∧s'.os=s₁.os∧AllBare s'.gens) s₁) :
  WalkO q loose XP YP l.row.toRowW d [] (fun f vs=>PySem.call f vs):=by
 intro w s₀ s₁ mg mb G Y fa o pm cd doc dV kV ho hd hcd hD hmg hg args vals as hpre hlay hrd hwl hlo
 obtain rfl:dV=.none:=Dflts.none hD hdf
 obtain rfl:kV=.none:=Dflts.noKw hD
 obtain ⟨a,vs,ns,rfl,rfl,hobj,hints, hlen⟩:=script_of hn hpre hwl
 refine enter_call (codeAny_mono (call w s₀ s₁ mg mb fa o pm cd doc a vs ns G Y ho (fd_plain hd) hcd hmg hobj hints hlen hg) fun r s' hq=>?_)
 obtain ⟨rfl,h2,h3, h4⟩:=hq
 exact ⟨.inl ⟨.bool true,.bool true,[],rfl,fun _=>rfl,.bool true,post_true l _, fun _=>⟨List.Pairwise.nil,fun _ hm=>(nomatch hm)⟩⟩,h2,h3, h4⟩
section
variable {prog:Program} {w:World} {A:Around} {E:Value→Shared→Prop} {s:Shared} {K:Frag}
end
end Att
namespace L2
open PySem PySem.Spec PyProof.Rows
theorem vals_ints:∀ {vs:List Value} {ns:List Int},IntsAre vs ns→Vals (ns.map V.int) vs
 | _,_,.nil=>.nil
 | _,_,.cons n t h=>.cons ⟨t,rfl⟩ (vals_ints h)
def Only (H:Hp):Prop:=∀ b,H b=none∨∃ o xs,H b=some (.frz o (.lst xs))
theorem law_call {P:Program} {w:World} {K:PySem.W.Frag} {mg mb:Str→Option Value} {CX:CXT} {k:Nat} {fa a:Addr} {fd:FuncData} {x:Str} {sp:Sp} {s₁:Shared} {vs:List Value} {ns:List Int}
  (KX:K.In s₁.heap) (hns:s₁.heap.Ns mainGlobals mg) (hb:s₁.heap.Ns builtinsNs mb) (hbb:∀ x:Str,x≠"__name__"→mb x=bootBuiltins x) (hlim:s₁.heap.NoLimit) (hg:s₁.gens=#[])
  (ha:s₁.heap.get? a=some { cls:=.type "list",data:=.seq vs.toArray }) (hi:IntsAre vs ns) (hl:ns.length≤sizeLine) (hr:Room k callerA)
  (F:∀ base:Heap,K.In base→base.Ns mainGlobals mg→FnOk P w K mg base CX k fa fd [x] sp) (hbind:∀ (s:Shared) (u:Value),BindsTo s fd ⟨[u],[]⟩ [(x,u)])
  (hsp:∀ H:Hp,Only H→SqL K H a (ns.map V.int)→sp [.ref a] H (fun v _=>v=.bl true) fun _ _ _=>False)
  (hCX:∀ H e s',CX [] H s₁ (fun _ _ _=>False) e s'→False) :
  codeAny (model P w) callerA (.call (.ref fa) ⟨[.ref a],[]⟩) (fun r s'=>r=.ok (.ret (.bool true))∧OldK s₁.heap s'.heap∧s'.os=s₁.os∧AllBare s'.gens) s₁:=by
 have rv:=vals_ints hi
 have lenV:=hi.length
 have core:∀ H:Hp,Only H→SqL K H a (ns.map V.int)→HOk P w H s₁.heap→(∀ b,H b≠none→b=a)→(H a≠none→K.lookup a=none) →
   codeAny (model P w) callerA (.call (.ref fa) ⟨[.ref a],[]⟩) (fun r s'=>r=.ok (.ret (.bool true))∧OldK s₁.heap s'.heap∧s'.os=s₁.os∧AllBare s'.gens) s₁:=by
  intro H hO hS hok hA hK
  have base_of:∀ {b:Addr} {o:Obj},s₁.heap.get? b=some o→H b=none→(hidT s₁.heap H).get? b=some o:=fun e n=>hidT_get e n
  have noA:∀ {b:Addr} {o:Obj} {es:Array DictEntry} {ep:Nat},s₁.heap.get? b=some o→o.data=.dict es ep→H b=none:=fun {b o es ep} e d=>by
   cases q:H b with
   | none=>rfl
   | some u =>
    have e':b=a:=hA b (by rw [q];simp)
    subst e'
    rw [ha] at e;cases e
    have d':Data.seq vs.toArray _=Data.dict es ep:=d
    cases d'
  have nsK:∀ {b:Addr} {m:Str→Option Value},s₁.heap.Ns b m→(hidT s₁.heap H).Ns b m:=fun {b m} ⟨o,es,ep,e,d,r⟩=>⟨o,es,ep,base_of e (noA e d),d, r⟩
  have hKb:K.In (hidT s₁.heap H):=fun b o e=>base_of (KX b o e) (by
   cases q:H b with
   | none=>rfl
   | some u =>
    have e':b=a:=hA b (by rw [q];simp)
    subst e'
    rw [hK (by rw [q];simp)] at e;cases e)
  have hM:Mod K mg (hidT s₁.heap H):=⟨hKb,nsK hns,⟨mb,nsK hb, hbb⟩, let ⟨mc,h1,h2⟩:=hlim;⟨mc,nsK h1, h2⟩⟩
  have e0:Env0 P w K mg (hidT s₁.heap H) callerA [] s₁ H:=⟨rfl,hM,fun b o e=>of_hidT e,Nat.le_of_eq (hidT_size _ _),trivial,fun b hb=>absurd (show b∈([]:List Addr) from hb) (by simp),hok, .of_eq hg⟩
  refine codeAny_mono ((F _ hKb (nsK hns)).run callerA [] s₁ H ⟨[.ref a],[]⟩ [.ref a] [.ref a] _ _ hr e0 (hbind s₁ (.ref a)) (.cons rfl .nil) (hsp H hO hS)) fun r s' h=>?_
  cases r with
  | error e=>exact (hCX H e s' h).elim
  | ok fl =>
   cases fl with
   | next=>exact False.elim h
   | brk=>exact False.elim h
   | cont=>exact False.elim h
   | ret u =>
    obtain ⟨v,H',os,bare,un,hok',r', q⟩:=h
    have q':v=.bl true:=q
    subst q'
    obtain rfl:u=Value.bool true:=r'
    refine ⟨rfl,OldK.of_keep fun b o e=>?_,os, bare⟩
    cases q:H b with
    | none=>exact un.keep b o e q (by intro z;exact absurd (show b∈([]:List Addr) from z) (by simp)) (by simp)
    | some u =>
     rcases hO b with z | ⟨ob,xs, z⟩
     ·rw [q] at z;cases z
     ·have z2:=un.frzs b ob _ z
      obtain ⟨e1,_⟩:=hok b _ z
      obtain ⟨e2,_⟩:=hok' b _ z2
      rw [e] at e1;cases e1
      exact e2
 cases hk:K.lookup a with
 | some o =>
  have e:=KX a o hk
  rw [ha] at e
  cases e
  refine core (fun _=>none) (fun _=>.inl rfl) (.inr ⟨_,vs.toArray,_,hk,rfl,rfl,rfl,by rw [List.size_toArray,lenV];exact hl, by simpa using rv⟩) (fun b u z=>by have z':(none:Option HO)=some u:=z;cases z') (fun b z=>absurd rfl z) fun z=>absurd rfl z
 | none =>
  refine core (fun b=>if b=a then some (.frz { cls:=.type "list",data:=.seq vs.toArray } (.lst (ns.map V.int))) else none) (fun b=>?_) (.inl (.inr ⟨{ cls:=.type "list",data:=.seq vs.toArray },if_pos rfl⟩)) (fun b u z=>?_) (fun b z=>?_) fun _=>hk
  ·by_cases hb:b=a
   ·exact .inr ⟨_,_, if_pos hb⟩
   ·exact .inl (if_neg hb)
  ·by_cases hb:b=a
   ·have z':=(if_pos hb).symm.trans z
    cases z'
    subst hb
    exact ⟨ha,by rw [Zq];exact hl,vs,_,rv, ha⟩
   ·have z':=(if_neg hb).symm.trans z
    cases z'
  ·by_cases hb:b=a
   ·exact hb
   ·exact absurd (if_neg hb) z
theorem walk_of {l:PySem.W.OpenLaw} {n k:Nat} {q:Program} {loose:List Str} {XP:(Str→Option Value)→Heap→Prop} {YP:World→Heap→Prop} {d:DefRec} {K:Params→PySem.W.Frag} {CX:World→CXT} {sp:World→Sp} {x:Str}
  (hn:l.most=some n) (hn2:n≤sizeLine) (hdf:d.params.defaults=[]) (hr:Room k callerA)
  (hY:∀ (w:World) (h:Heap),YP w h→(K w.params).In h)
  (F:∀ (w:World) (mg:Str→Option Value) (fa:Addr) (h:Heap),(K w.params).In h→h.Ns mainGlobals mg→mg d.name=some (.ref fa) →
   ∃ fd:FuncData,(∀ (s:Shared) (u:Value),BindsTo s fd ⟨[u],[]⟩ [(x,u)]) ∧
    ∀ base:Heap,(K w.params).In base→base.Ns mainGlobals mg→FnOk l.prog w (K w.params) mg base (CX w) k fa fd [x] (sp w))
  (hsp:∀ (w:World) (H:Hp) (a:Addr) (ns:List Int),ns.length≤n→Only H→SqL (K w.params) H a (ns.map V.int)→sp w [.ref a] H (fun v _=>v=.bl true) fun _ _ _=>False)
  (hCX:∀ (w:World) (H:Hp) (s:Shared) (e:Value) (s':Shared),CX w [] H s (fun _ _ _=>False) e s'→False) :
  PySem.W.WalkO q loose XP YP l.row.toRowW d [] (fun f vs=>PySem.call f vs):=by
 refine Att.attach_call hn hdf fun w s₀ s₁ mg mb fa o pm cd doc a vs ns G Y ho hd hcd hmg hobj hints hlen hg=>?_
 have KX:=hY w _ Y
 obtain ⟨fd,hb, hF⟩:=F w mg fa _ KX G.T.g hmg
 exact law_call KX G.T.g G.T.b G.T.builtins G.T.nolimit hg hobj hints (Yr hlen hn2) hr hF hb (fun H hO hS=>hsp w H a ns hlen hO hS) fun H e s'=>hCX w H s₁ e s'
def defArgs (s:Stmt):Arguments:=match s with
 | .FunctionDef _ a _ _ _ _ _ _ _ _=>a
 | _=>{ posonlyargs:=[],args:=[],vararg:=none,kwonlyargs:=[],kw_defaults:=[],kwarg:=none,defaults:=[] }
def defBody (s:Stmt):List Stmt:=match s with
 | .FunctionDef _ _ b _ _ _ _ _ _ _=>b
 | _=>[]
def defScope (s:Stmt):Scope:=match s with
 | .FunctionDef _ _ _ _ _ _ sc _ _ _=>sc
 | _=>{ kind:=.function,names:=[],isGenerator:=false,isCoroutine:=false }
abbrev CX0:CXT:=fun _ _ _ _ _ _=>False
abbrev E0:XK:=fun _ _ _=>False
theorem pass0 {X:Cx}:Passes CX0 X E0:=fun _ _ _ _ _ _ _ h=>h.elim
structure Fun (K:PySem.W.Frag) (x qual:Str) (st:Stmt) (f:Addr) (fd:FuncData):Prop where
 ex:∃ (oc:Value) (od:Option Addr) (kV doc pm:Value) (an:Option Addr) (cdv ct:Value) (osl:Array (Option Value)),
  fd=PySem.W.fnOf x qual (defArgs st) (defBody st) (defScope st) .none kV doc pm an cdv ct∧K.lookup f=some ⟨oc,od,.func fd, osl⟩∧PySem.W.codeIn K cdv qual=true
 kp:PySem.W.keepIn K (.ref f)=true
section
variable {P:Program} {w:World} {K:PySem.W.Frag} {mg:Str→Option Value} {base:Heap}
theorem Fun.ok {x qual:Str} {st:Stmt} {f:Addr} {fd:FuncData} {N ps:List Str} {k:Nat} {sp:Sp} (F:Fun K x qual st f fd) (S:FnScope N ps (defScope st)) (len:∀ vs H Q E,sp vs H Q E→vs.length=ps.length)
  (hbody:∀ (cdv:Value) (A:Around) (outer:List Env) (s:Shared) (H:Hp) (vs:List V) (Q:VK) (E:XK),Room k (A.deeper (envOfC qual (defScope st) s.heap.objs.size f cdv))→sp vs H Q E →
   ∃ t,PSs (cxOf CX0 P w K mg base N qual (defScope st) f cdv A outer s H E).nox (defBody st) t∧t { nx:=fun _ H'=>Q .non H',rt:=Q } (start N vs) H):FnOk P w K mg base CX0 (k+1) f fd ps sp:=by
 obtain ⟨oc,od,kV,doc,pm,an,cdv,ct,osl,rfl,lk, hcd⟩:=F.ex
 refine fn_of lk hcd S len fun A outer s H vs Q E hr hsp=>?_
 obtain ⟨t,h, q⟩:=hbody cdv A outer s H vs Q E hr hsp
 exact ⟨t,h.nox, q⟩
theorem Fun.binds {x qual:Str} {st:Stmt} {f:Addr} {fd:FuncData} {ps:List Str} (F:Fun K x qual st f fd)
  (h:∀ (kV doc pm:Value) (an:Option Addr) (cdv ct:Value) (us:List Value),us.length=ps.length→bindArgs (PySem.W.fnOf x qual (defArgs st) (defBody st) (defScope st) .none kV doc pm an cdv ct) ⟨us,[]⟩=pure (ps.zip us)):Binds K fd ps []:=by
 obtain ⟨oc,od,kV,doc,pm,an,cdv,ct,osl,rfl,lk, hcd⟩:=F.ex
 exact .all (h kV doc pm an cdv ct)
theorem fun_mk {x qual:Str} {st:Stmt} {f:Addr} {oc:Value} {od an:Option Addr} {osl:Array (Option Value)} {kV doc pm cdv ct:Value} (l:K.lookup f=some ⟨oc,od,.func (PySem.W.fnOf x qual (defArgs st) (defBody st) (defScope st) .none kV doc pm an cdv ct), osl⟩)
  (c:PySem.W.codeIn K cdv qual=true) (k:PySem.W.keepIn K (.ref f)=true):Fun K x qual st f (PySem.W.fnOf x qual (defArgs st) (defBody st) (defScope st) .none kV doc pm an cdv ct):=⟨⟨oc,od,kV,doc,pm,an,cdv,ct,osl,rfl,l, c⟩,k⟩
end
theorem hu_of {A:Around} {k:Nat} (hr:Room k A):A.units+1<cLine:=Ys (Nat.add_le_add_left (by decide:1≤64) _) hr.units
section
variable {X:Cx}
theorem pv (i:Nat) {x:Str} {pos:Pos} (hN:X.N[i]?=some x:=by rfl) (hv:Vis X.env.scope x:=by first | exact Or.inl rfl | exact Or.inr (Or.inl rfl) | exact Or.inr (Or.inr rfl)) (hd:(x==("__debug__" : Str))=false:=by decide)
  (hcd:(x==("__classdict__" : Str))=false:=by decide):PE X (.Name x pos) (tVar i):=pe_var hN hv hd hcd
end
theorem iteF {A B:Prop} (h:B):if false=true then A else B:=by
 rw [if_neg Bool.false_ne_true]
 exact h
theorem iteT {A B:Prop} (h:A):if true=true then A else B:=by
 rw [if_pos rfl]
 exact h
theorem ite2 {c A B:Prop} [Decidable c] (h1:c→A) (h2:¬c→B):if c then A else B:=by
 by_cases h:c
 ·rw [if_pos h]
  exact h1 h
 ·rw [if_neg h]
  exact h2 h
def Same (H H':Hp):Prop:=∀ b o,H b=some o→H' b=some o
theorem Same.refl (H:Hp):Same H H:=fun _ _ h=>h
theorem Same.trans {H H1 H2:Hp} (a:Same H H1) (b:Same H1 H2):Same H H2:=fun c o h=>b c o (a c o h)
theorem Same.free {H H':Hp} (e:Same H H') {l:Addr} (h:H' l=Option.none):H l=Option.none:=by
 cases q:H l with
 | none=>rfl
 | some o =>
  rw [e l o q] at h
  cases h
theorem Same.seq {K:PySem.W.Frag} {H H':Hp} {a:Addr} {xs:List V} (e:Same H H') (h:SqL K H a xs):SqL K H' a xs:=by
 rcases h with (h | ⟨o,h⟩) | h
 ·exact .inl (.inl (e _ _ h))
 ·exact .inl (.inr ⟨o,e _ _ h⟩)
 ·exact .inr h
end L2
set_option Elab.async false
set_option linter.all false
set_option maxRecDepth 100000
set_option maxHeartbeats 4000000
namespace L2
open PySem PySem.Spec PyProof.Rows
def clOf (cells:List (Str×Addr)):List (Str×NameKind)→List (Str×Addr)→List (Str×Addr)
 | [],cs=>cs
 | x::r,cs=>clOf cells r (if x.2=.free then ((cells.lookup x.1).map fun c=>(x.1,c)).toList++cs else cs)
theorem closureFor_ok {scope:Scope} {env:Env} (h:∀ x∈scope.names,x.2=.free→∃ c,env.cells.lookup x.1=some c) :
  closureFor scope env=pure (clOf env.cells scope.names []):=by
 have key:∀ (l:List (Str×NameKind)) (cs:List (Str×Addr)) (f:Str×NameKind→List (Str×Addr)→Sem (ForInStep (List (Str×Addr)))),
   (∀ x∈l,x.2=.free→∃ c,env.cells.lookup x.1=some c) →
   (∀ x cs,f x cs=if (x.2==NameKind.free)=true then (cellOf env x.1 >>= fun a=>pure (ForInStep.yield ((x.1,a)::cs))) else pure (ForInStep.yield cs)) →
   forIn l cs f=pure (clOf env.cells l cs):=by
  intro l
  induction l with
  | nil=>intro cs f _ _;rfl
  | cons x r ih =>
   intro cs f hx hf
   rw [List.forIn_cons,hf]
   by_cases hk:x.2=.free
   ·obtain ⟨c,hc⟩:=hx x Zd hk
    rw [if_pos (by simp [hk])]
    have e:cellOf env x.1=pure c:=by unfold cellOf;rw [hc]
    rw [e]
    simp only [pure_bind]
    rw [ih _ f (fun y hy=>hx y (Zw _ hy)) hf]
    show _=pure (clOf env.cells r (if x.2=.free then ((env.cells.lookup x.1).map fun c=>(x.1,c)).toList++cs else cs))
    rw [if_pos hk,hc]
    rfl
   ·rw [if_neg (by simp [hk])]
    simp only [pure_bind]
    rw [ih _ f (fun y hy=>hx y (Zw _ hy)) hf]
    show _=pure (clOf env.cells r (if x.2=.free then ((env.cells.lookup x.1).map fun c=>(x.1,c)).toList++cs else cs))
    rw [if_neg hk]
 simp only [closureFor]
 rw [key scope.names [] _ h (fun x cs=>by obtain ⟨n,k⟩:=x;rfl)]
 first | rfl | simp only [pure_bind]
theorem clOf_in {cells:List (Str×Addr)}:∀ (l:List (Str×NameKind)) (cs:List (Str×Addr)) {x:Str} {c:Addr},(clOf cells l cs).lookup x=some c→cs.lookup x=some c∨cells.lookup x=some c
 | [],_,_,_,h=>.inl h
 | y::r,cs,x,c,h=>by
  have h':(clOf cells r (if y.2=.free then ((cells.lookup y.1).map fun c=>(y.1,c)).toList++cs else cs)).lookup x=some c:=h
  rcases clOf_in r _ h' with q | q
  ·by_cases hk:y.2=.free
   ·rw [if_pos hk] at q
    cases hl:cells.lookup y.1 with
    | none=>rw [hl] at q;exact .inl q
    | some d =>
     rw [hl] at q
     have q':(((y.1,d)::cs).lookup x)=some c:=q
     rw [List.lookup_cons] at q'
     cases hb:x==y.1 with
     | true =>
      rw [hb] at q'
      have e:=eq_of_beq hb
      subst e
      right
      rw [hl]
      exact q'
     | false=>rw [hb] at q';exact .inl q'
   ·rw [if_neg hk] at q
    exact .inl q
  ·exact .inr q
theorem clOf_has {cells:List (Str×Addr)}:∀ (l:List (Str×NameKind)) (cs:List (Str×Addr)) (x:Str),((x,NameKind.free)∈l∧∃ c,cells.lookup x=some c)∨(∃ c,cs.lookup x=some c)→∃ c,(clOf cells l cs).lookup x=some c
 | [],cs,x,h=>by
  rcases h with ⟨q,_⟩ | q
  ·cases q
  ·exact q
 | y::r,cs,x,h=>by
  show ∃ c,(clOf cells r (if y.2=.free then ((cells.lookup y.1).map fun c=>(y.1,c)).toList++cs else cs)).lookup x=some c
  apply clOf_has r
  rcases h with ⟨q,c, hc⟩ | ⟨c,hc⟩
  ·rcases Zn.mp q with q | q
   ·right
    subst q
    rw [if_pos rfl,hc]
    refine ⟨c,?_⟩
    show ((x,c)::cs).lookup x=some c
    rw [List.lookup_cons]
    simp
   ·exact .inl ⟨q,c, hc⟩
  ·right
   by_cases hk:y.2=.free
   ·rw [if_pos hk]
    cases hl:cells.lookup y.1 with
    | none=>exact ⟨c,hc⟩
    | some d =>
     show ∃ c,((y.1,d)::cs).lookup x=some c
     rw [List.lookup_cons]
     cases hb:x==y.1 with
     | true=>exact ⟨d,rfl⟩
     | false=>exact ⟨c,hc⟩
   ·rw [if_neg hk];exact ⟨c,hc⟩
theorem relabel_of {env:Env}:∀ {names:List (Str×NameKind)} {x:Str} {k':NameKind},
  (names.map fun (n,k)=>if (k==NameKind.free&&env.scope.kind==.function&&env.kindOf n==some .cell) then (n,NameKind.cell) else (n,k)).lookup x=some k' →
  ∃ k,(x,k)∈names∧(k=k'∨(k=.free∧k'=.cell))
 | [],_,_,h=>by simp at h
 | (n,k)::r,x,k',h=>by
  have ih:=@relabel_of env r x k'
  have h':List.lookup x ((if (k==NameKind.free&&env.scope.kind==.function&&env.kindOf n==some .cell)=true then (n,NameKind.cell) else (n,k))::_)=some k':=h
  by_cases hc:(k==NameKind.free&&env.scope.kind==.function&&env.kindOf n==some .cell)=true
  ·rw [if_pos hc,List.lookup_cons] at h'
   cases hb:x==n with
   | true =>
    rw [hb] at h'
    have e:=eq_of_beq hb
    subst e
    cases h'
    refine ⟨k,Zd, .inr ⟨?_,rfl⟩⟩
    simp only [Xv] at hc
    exact eq_of_beq hc.1.1
   | false =>
    rw [hb] at h'
    obtain ⟨k2,q, z⟩:=ih h'
    exact ⟨k2,Zw _ q, z⟩
  ·rw [if_neg hc,List.lookup_cons] at h'
   cases hb:x==n with
   | true =>
    rw [hb] at h'
    have e:=eq_of_beq hb
    subst e
    cases h'
    exact ⟨k,Zd, .inl rfl⟩
   | false =>
    rw [hb] at h'
    obtain ⟨k2,q, z⟩:=ih h'
    exact ⟨k2,Zw _ q, z⟩
theorem relabel_free {env:Env}:∀ {names:List (Str×NameKind)} {x:Str},names.lookup x=some .free →
  (names.map fun (n,k)=>if (k==NameKind.free&&env.scope.kind==.function&&env.kindOf n==some .cell) then (n,NameKind.cell) else (n,k)).lookup x=some .cell ∨
  (names.map fun (n,k)=>if (k==NameKind.free&&env.scope.kind==.function&&env.kindOf n==some .cell) then (n,NameKind.cell) else (n,k)).lookup x=some .free
 | [],_,h=>by simp at h
 | (n,k)::r,x,h=>by
  have ih:=@relabel_free env r x
  show List.lookup x ((if (k==NameKind.free&&env.scope.kind==.function&&env.kindOf n==some .cell)=true then (n,NameKind.cell) else (n,k))::_)=some .cell ∨
   List.lookup x ((if (k==NameKind.free&&env.scope.kind==.function&&env.kindOf n==some .cell)=true then (n,NameKind.cell) else (n,k))::_)=some .free
  rw [List.lookup_cons] at h
  by_cases hc:(k==NameKind.free&&env.scope.kind==.function&&env.kindOf n==some .cell)=true
  ·rw [if_pos hc]
   simp only [List.lookup_cons]
   cases hb:x==n with
   | true=>exact .inl rfl
   | false=>rw [hb] at h;exact ih h
  ·rw [if_neg hc]
   simp only [List.lookup_cons]
   cases hb:x==n with
   | true=>rw [hb] at h;exact .inr h
   | false=>rw [hb] at h;exact ih h
def Cx.comp (X:Cx) (N:List Str) (scope:Scope) (cl:List (Str×Addr)) (C:Addr) (fp:List Addr) (s:Shared) (H:Hp):Cx :=
 { prog:=X.prog,w:=X.w,K:=X.K,mg:=X.mg,base:=X.base,A:=X.A,N:=N,s₀:=s,H₀:=H,env:=compEnvC scope cl C X.env,outer:=X.stack,stack:=X.stack,ex:=fp,fn:=fun _=>false,calm:=X.calm,pn:=[],xe:=fun _ _=>False }
def inner (js:List (Option Nat)) (σ:St):St:=js.map fun o=>match o with
 | none=>none
 | some j=>(σ[j]?).getD none
def jsOk (N:List Str) (scope:Scope):List Str→List (Option Nat)→Bool
 | [],[]=>true
 | x::r,o::q=>(match o with | none=>true | some j=>N[j]?==some x&&scope.names.lookup x==some .free)&&jsOk N scope r q
 | _,_=>false
theorem jsOk_len {N:List Str} {scope:Scope}:∀ {N':List Str} {js:List (Option Nat)},jsOk N scope N' js=true→js.length=N'.length
 | [],[],_=>rfl
 | _::r,_::q,h=>by
  have h':=(Bool.and_eq_true_iff.mp h).2
  rw [Yq,Yq,jsOk_len h']
theorem jsOk_at {N:List Str} {scope:Scope}:∀ {N':List Str} {js:List (Option Nat)} {i:Nat} {x:Str} {j:Nat},jsOk N scope N' js=true→N'[i]?=some x→js[i]?=some (some j)→N[j]?=some x∧scope.names.lookup x=some .free
 | [],[],_,_,_,_,h,_=>by simp at h
 | y::r,o::q,0,x,j,h,h1,h2=>by
  have h':=(Bool.and_eq_true_iff.mp h).1
  simp at h1 h2
  subst h1 h2
  have h'':=Bool.and_eq_true_iff.mp h'
  exact ⟨eq_of_beq h''.1,eq_of_beq h''.2⟩
 | y::r,o::q,i+1,x,j,h,h1,h2=>by
  have h':=(Bool.and_eq_true_iff.mp h).2
  exact jsOk_at (i:=i) h' (by simpa using h1) (by simpa using h2)
theorem inner_at {js:List (Option Nat)} {σ:St} {i:Nat} {v:V} (h:(inner js σ)[i]?=some (some v)):∃ j,js[i]?=some (some j)∧σ[j]?=some (some v):=by
 unfold inner at h
 rw [Zk] at h
 cases e:js[i]? with
 | none=>rw [e] at h;cases h
 | some o =>
  rw [e] at h
  cases o with
  | none=>cases h
  | some j =>
   refine ⟨j,rfl, ?_⟩
   have h':(σ[j]?).getD none=some v:=by simpa using h
   cases q:σ[j]? with
   | none=>rw [q] at h';cases h'
   | some z=>rw [q] at h';simp at h';rw [h']
structure Fills (σ σ':St):Prop where
 len:σ.length=σ'.length
 at_:∀ (i:Nat) v,σ[i]?=some (some v)→σ'[i]?=some (some v)
theorem Fills.refl (σ:St):Fills σ σ:=⟨rfl,fun _ _ h=>h⟩
theorem Fills.set {σ σ':St} (f:Fills σ σ') {i:Nat} (x:V) (h:σ[i]?=some none):Fills σ (σ'.set i (some x)):=by
 refine ⟨by rw [List.length_set];exact f.len,fun j v q=>?_⟩
 by_cases e:i=j
 ·subst e;rw [h] at q;cases q
 ·rw [List.getElem?_set_ne e];exact f.at_ j v q
section
variable {X:Cx} {pins:List (Addr×Obj)} {σ:St} {H:Hp} {s:Shared}
theorem comp_inv {N':List Str} {js:List (Option Nat)} {scope:Scope} {fp:List Addr} {m:Str→Option Value} {h1:Heap} {tk:Nat} (I:Inv X pins σ H s)
  (hk:scope.kind=.function) (hcell:∀ y∈scope.names,y.2≠.cell) (hfree:∀ y∈scope.names,y.2=.free→X.env.kindOf y.1=some .cell∨X.env.kindOf y.1=some .free) (hjs:jsOk X.N scope N' js=true)
  (fpok:∀ b∈fp,FpOk X pins H b) (fpl:∀ b∈fp,b<s.heap.objs.size) (hns:h1.Ns s.heap.objs.size m) (hsb:∀ b o,s.heap.get? b=some o→h1.get? b=some o) :
  Inv (X.comp N' scope (clOf X.env.cells scope.names []) s.heap.objs.size fp s H) [] (inner js σ) H { s with heap:=h1,toks:=tk }:=by
 have incl:∀ {x c},(clOf X.env.cells scope.names []).lookup x=some c→X.env.cells.lookup x=some c:=fun {x c} q=>by
  rcases clOf_in _ _ q with z | z
  ·simp at z
  ·exact z
 have inn:∀ {x:Str},(x,NameKind.free)∈scope.names→∃ c,(clOf X.env.cells scope.names []).lookup x=some c:=fun {x} q=>clOf_has _ _ _ (.inl ⟨q,I.ok.has x (hfree _ q rfl)⟩)
 have fnot:∀ b∈fp,b∉frs X.stack:=fun b hb z=>(Zn.mp (I.stkSub b z)).elim (fpok b hb).2.1 (fpok b hb).2.2.1
 refine ⟨⟨I.ok.mod,?_,I.ok.glob,I.ok.blt,Nat.le_refl _,?_,?_,?_,I.ok.hd,I.ok.frames,.inl rfl,?_,I.bs,Yr I.ok.bsz I.sz,?_,fnot,I.stack, I.stkFree⟩,rfl,I.bare,Un.kept hsb,⟨m,hns, ?_⟩,?_,I.fresh,?_,?_,I.hok.kept hsb, ?_⟩
 ·exact hk
 ·intro x y c e1 e2
  exact I.ok.inj x y c (incl e1) (incl e2)
 ·intro x h
  have q:∃ k,(x,k)∈scope.names∧k=.free:=by
   rcases h with h | h
   ·obtain ⟨k,q1, q2⟩:=relabel_of (env:=X.env) h
    rcases q2 with rfl | ⟨q2,_⟩
    ·exact absurd rfl (hcell _ q1)
    ·exact ⟨k,q1, q2⟩
   ·obtain ⟨k,q1, q2⟩:=relabel_of (env:=X.env) h
    rcases q2 with rfl | ⟨_,q2⟩
    ·exact ⟨_,q1, rfl⟩
    ·cases q2
  obtain ⟨k,q1, rfl⟩:=q
  exact inn q1
 ·intro x c h _
  cases h
 ·intro b hb
  exact ⟨Nat.ne_of_lt (fpl b hb),fun x c e=>(fpok b hb).2.2.2.2.1 x c (incl e)⟩
 ·intro b o e hb
  rcases (fpok b hb).2.2.2.1 with z | z
  ·exact I.ok.noex b o e z
  ·exact absurd (Yt (Heap.lt_size e) (Yr I.ok.bsz z)) (Nat.lt_irrefl _)
 ·intro i x v e1 e2 _
  obtain ⟨j,q1, q2⟩:=inner_at e2
  obtain ⟨q3,q4⟩:=jsOk_at hjs e1 q1
  have q5:(x,NameKind.free)∈scope.names:=by
   have:∀ {l:List (Str×NameKind)},l.lookup x=some .free→(x,NameKind.free)∈l:=by
    intro l
    induction l with
    | nil=>intro z;simp at z
    | cons y r ih =>
     intro z
     obtain ⟨n,k⟩:=y
     rw [List.lookup_cons] at z
     cases hb:x==n with
     | true=>rw [hb] at z;have e:=eq_of_beq hb;subst e;cases z;exact Zd
     | false=>rw [hb] at z;exact Zw _ (ih z)
   exact this q4
  have kf:=hfree _ q5 rfl
  obtain ⟨m0,hn0, hl0⟩:=id I.loc
  obtain ⟨u,r, lk⟩:=hl0 j x v q3 q2 (kf.elim (fun z=>.inr (.inl z)) fun z=>.inr (.inr z))
  refine ⟨u,r, ?_⟩
  rcases lk with ⟨z,_⟩ | ⟨_,c,hc,o,ho, hd⟩
  ·rcases kf with k | k
   ·rw [k] at z;cases z
   ·rw [k] at z;cases z
  ·obtain ⟨c',hc'⟩:=inn q5
   have e:=incl hc'
   rw [hc] at e;cases e
   exact .inr ⟨relabel_free q4,c,hc',o,hsb _ _ ho, hd⟩
 ·intro x c e
  obtain ⟨v,o,ho, hd⟩:=I.cell x c (incl e)
  exact ⟨v,o,hsb _ _ ho, hd⟩
 ·intro x c e
  exact I.freeC x c (incl e)
 ·intro p hp
  cases hp
 ·show (inner js σ).length=N'.length
  unfold inner
  rw [Zq]
  exact jsOk_len hjs
def PF (X:Cx) (ifs:List Expr) (t:TT):Prop :=
 ∀ (pins:List (Addr×Obj)) (s:Shared) (σ:St) (H:Hp) (Q:Bool→Hp→Prop),Inv X pins σ H s→t σ H Q →
  wpAny (model X.prog X.w) X.A (forIn ifs true fun c r=>if r=true then do let ok ←isTrue c X.env (eval c X.env);pure (ForInStep.yield ok) else pure (ForInStep.yield r)) (TP X pins σ Q) X.xe s
def tTrue:TT:=fun _ H Q=>Q true H
theorem pf_nil:PF X [] tTrue:=fun _ _ _ H _ I h=>wpAny_tests_nil ⟨H,I, h⟩
theorem pf_one {c:Expr} {t:TT} (h:PT X c t):PF X [c] t:=fun pins s σ H Q I hw=>wpAny_tests_one (h pins s σ H Q I hw)
end
section
variable {prog:Program} {w:World} {A:Around} {E:Value→Shared→Prop} {R:Result→Shared→Prop} {s:Shared}
theorem compLoop_go {elt target iter:Expr} {ifs:List Expr} {scope:Scope} {pos:Pos} {it acc:Value} {env:Env} (I:Nat→Shared→Prop)
  (turn:∀ n s,I n s→wpAny (model prog w) A (pyNext it) (fun r s₁=>match r with
   | none=>R (.ok .next) s₁
   | some v=>wpAny (model prog w) A (letOwnedTupleGo target it v) (fun _ s₀=>wpAny (model prog w) A (assign target env v) (fun _ s₂ =>
     wpAny (model prog w) A (forIn ifs true fun c r=>if r=true then do let ok ←isTrue c env (eval c env);pure (ForInStep.yield ok) else pure (ForInStep.yield r)) (fun ok s₃ =>
      if ok=true then wpAny (model prog w) A (eval elt env) (fun x s₄ =>
       wpAny (model prog w) A (call (.builtin "list.append") [acc,x]) (fun _ s₅=>∃ m,m<n∧I m s₅) (fun _ _=>False) s₄) (fun _ _=>False) s₃
      else ∃ m,m<n∧I m s₃) (fun _ _=>False) s₂) (fun _ _=>False) s₀) (fun _ _=>False) s₁) (fun _ _=>False) s)
  (n:Nat) (h:I n s) :
  codeAny (model prog w) A (.compLoop (.ListComp elt [⟨target,iter,ifs, 0⟩] scope pos) 0 it acc env) R s:=by
 refine codeAny_loop rfl I (fun n s hI=>?_) n h
 show wpAny _ A ((compTurn (.ListComp elt [⟨target,iter,ifs, 0⟩] scope pos) 0 it acc env).onRaise (fun x=>do noteFrame x env;theTreesLotGoes x)) _ _ s
 refine wpAny_noted ?_
 rw [compTurn_list]
 refine wpAny_bind (wpAny_standAt (wpAny_bind (wpAny_mono (turn n s hI) (fun r s₁ h₁=>?_) fun _ _ h'=>h'.elim)))
 cases r with
 | none=>exact wpAny_pure h₁
 | some v =>
  refine wpAny_bind (wpAny_mono h₁ (fun _ s₀ h₀=>?_) fun _ _ h'=>h'.elim)
  refine wpAny_bind (wpAny_mono h₀ (fun _ s₂ h₂=>wpAny_bind (wpAny_mono h₂ (fun ok s₃ h₃=>?_) fun _ _ h'=>h'.elim)) fun _ _ h'=>h'.elim)
  cases ok with
  | false=>exact wpAny_pure ⟨rfl,h₃⟩
  | true =>
   exact wpAny_bind (wpAny_bind (wpAny_mono h₃ (fun x s₄ h₄=>wpAny_bind (wpAny_mono h₄ (fun _ s₅ h₅=>wpAny_pure (wpAny_pure ⟨rfl,h₅⟩)) fun _ _ h'=>h'.elim)) fun _ _ h'=>h'.elim))
end
section
variable {X:Cx}
def tComp (js:List (Option Nat)) (wi:TI) (g:TG) (tc:TT) (te:TE):TE:=fun σ H Q=>wi σ H fun J H1=>∀ D,H1 D=none→∃ W:Nat→Nat→List V→Hp→Prop,(∃ m,W 0 m [] (upd H1 D (.lst []))) ∧
 ∀ i m ys H,W i m ys H→(J.stop i H∧Q (.ref D) H)∨(J.go i H∧∃ N:List V→Hp→Prop,(∀ ys' H',N ys' H'→∃ m',m' < m∧W (i+1) m' ys' H')∧∀ x H',J.yld i H x H'→g x (inner js σ) H' fun σ2 H2=>Fills (inner js σ) σ2∧tc σ2 H2 fun b H3 =>
  if b=true then te σ2 H3 fun y H4=>H4 D=some (.lst ys)∧ys.length<sizeLine∧N (ys++[y]) (upd H4 D (.lst (ys++[y]))) else N ys H3)
theorem comp_block {N':List Str} {js:List (Option Nat)} {scope:Scope} {target iter elt:Expr} {ifs:List Expr} {pos:Pos} {g:TG} {tc:TT} {te:TE} {pins:List (Addr×Obj)} {σ:St} {H:Hp} {s:Shared} {Q:VK} {E:Value→Shared→Prop}
  {RR:Value→Addr→Result→Shared→Prop} {it:Addr} {fp:List Addr} {tn:Nat→Heap→Prop} {J:It} (I:Inv X pins σ H s) (T:Turn X.prog X.w X.K target J fp it tn) (st:tn 0 s.heap) (f:∀ b∈fp,FpOk X pins H b) (hc:X.calm=true)
  (q:∀ D,H D=none→∃ W:Nat→Nat→List V→Hp→Prop,(∃ m,W 0 m [] (upd H D (.lst []))) ∧
   ∀ i m ys H,W i m ys H→(J.stop i H∧Q (.ref D) H)∨(J.go i H∧∃ N:List V→Hp→Prop,(∀ ys' H',N ys' H'→∃ m',m' < m∧W (i+1) m' ys' H')∧∀ x H',J.yld i H x H'→g x (inner js σ) H' fun σ2 H2=>Fills (inner js σ) σ2∧tc σ2 H2 fun b H3 =>
  if b=true then te σ2 H3 fun y H4=>H4 D=some (.lst ys)∧ys.length<sizeLine∧N (ys++[y]) (upd H4 D (.lst (ys++[y]))) else N ys H3))
  (hg:∀ cl C fp s H,PG (X.comp N' scope cl C fp s H) target g) (hf:∀ cl C fp s H,PF (X.comp N' scope cl C fp s H) ifs tc) (he:∀ cl C fp s H,PE (X.comp N' scope cl C fp s H) elt te)
  (hk:scope.kind=.function) (hcell:∀ y∈scope.names,y.2≠.cell) (hfree:∀ y∈scope.names,y.2=.free→X.env.kindOf y.1=some .cell∨X.env.kindOf y.1=some .free) (hjs:jsOk X.N scope N' js=true)
  (hRR:∀ D C H' s',Inv X pins σ H' s'→Q (.ref D) H'→(∃ m,s'.heap.Ns C m)→H' C=none→C≠X.env.locals→X.s₀.heap.objs.size≤C→C∉X.fs→(∀ x c,X.env.cells.lookup x=some c→c≠C)→(∀ p∈X.pn++pins,p.1≠C) →
   RR (.ref D) C (.ok .next) s') :
  wpAny (model X.prog X.w) X.A (newList []) (fun acc s₃=>wpAny (model X.prog X.w) X.A (newFunctionEnv scope X.env.globals (clOf X.env.cells scope.names []) [] X.env.qual none .none (some X.env)) (fun cenv s₄ =>
   codeAny (model X.prog X.w) X.A (.compStart (.ListComp elt [⟨target,iter,ifs, 0⟩] scope pos) 0 (.ref it) acc { cenv with scope:=relabel scope X.env }) (RR acc cenv.locals) s₄) E s₃) E s:=by
 refine wpAny_newObj_type (wpAny_newFunctionEnv hcell (by intro y hy;simp at hy) (fun h₁ hns₁ hsb₁=>?_) hk)
 dsimp only at hns₁ hsb₁ ⊢
 have I3:Inv X pins σ (upd H s.heap.objs.size (.lst [])) { s with heap:=s.heap.push { cls:=.type "list",dict:=none,data:=.seq ([]:List Value).toArray } }:=I.lnew (its:=[]) (ys:=[]) (t':=s.toks) .nil (Nat.zero_le _)
 obtain ⟨W,⟨m0,w0⟩, turn⟩:=q s.heap.objs.size I.fresh
 generalize hD:s.heap.objs.size=D at I3 turn w0 ⊢
 have hsz:(s.heap.push { cls:=.type "list",dict:=none,data:=.seq ([]:List Value).toArray }).objs.size=D+1:=by rw [Heap.size_push,hD]
 have fpl:∀ b∈fp,b<D:=fun b hb=>by
  obtain ⟨o,e, _⟩:=T.obj _ _ st b hb
  rw [←hD];exact Heap.lt_size e
 generalize hs3:({ s with heap:=s.heap.push { cls:=.type "list",dict:=none,data:=.seq ([]:List Value).toArray } }:Shared)=s3 at I3
 have eh:s.heap.push { cls:=.type "list",dict:=none,data:=.seq ([]:List Value).toArray }=s3.heap:=by rw [←hs3]
 rw [eh] at hns₁ hsb₁ hsz ⊢
 have f3:∀ b∈fp,FpOk X pins (upd H D (.lst [])) b:=fun b hb=>⟨by rw [upd_ne (Nat.ne_of_lt (fpl b hb))];exact (f b hb).1,(f b hb).2⟩
 have keep1:∀ b o,s3.heap.get? b=some o→h₁.get? b=some o:=fun b o e=>hsb₁.extBut b o (Nat.ne_of_lt (Heap.lt_size e)) (Heap.get?_push_of_some _ e)
 have I4:=comp_inv (N':=N') (js:=js) (tk:=s.toks+([]:List (Str×Value)).length) I3 hk hcell hfree hjs f3 (fun b hb=>by rw [hsz];exact YQ (fpl b hb)) hns₁ keep1
 have es:({ s with heap:=h₁,toks:=s.toks+([]:List (Str×Value)).length }:Shared)={ s3 with heap:=h₁,toks:=s.toks+([]:List (Str×Value)).length }:=by rw [←hs3]
 rw [show ({ s with heap:=h₁,toks:=s.toks+([]:List (Str×Value)).length }:Shared)={ s3 with heap:=h₁,toks:=s.toks+([]:List (Str×Value)).length } from es]
 have st4:tn 0 h₁:=T.keep _ _ _ st fun b hb o e=>keep1 b o (eh▸Heap.get?_push_of_some _ e)
 have hCne:s3.heap.objs.size≠X.env.locals:=Nat.ne_of_gt I3.lt
 have loop:∀ s4:Shared,tn 0 s4.heap→Inv (X.comp N' scope (clOf X.env.cells scope.names []) s3.heap.objs.size fp s3 (upd H D (.lst []))) [] (inner js σ) (upd H D (.lst [])) s4 →
   codeAny (model X.prog X.w) X.A (.compLoop (.ListComp elt [⟨target,iter,ifs, 0⟩] scope pos) 0 (.ref it) (.ref D) (compEnvC scope (clOf X.env.cells scope.names []) s3.heap.objs.size X.env)) (RR (.ref D) s3.heap.objs.size) s4:=by
  intro s4 st4 I4
  generalize hX:X.comp N' scope (clOf X.env.cells scope.names []) s3.heap.objs.size fp s3 (upd H D (.lst []))=X' at I4
  have xprog:X'.prog=X.prog:=by rw [←hX];rfl
  have stat:∀ {H':Hp},(∀ b∈fp,H' b=none)→∀ b∈fp,FpOk X' [] H' b:=fun hn b hb=>by
   rw [←hX]
   refine ⟨hn b hb,?_,?_,.inl hb,?_, fun p hp=>nomatch hp⟩
   ·exact Nat.ne_of_lt (by show b<s3.heap.objs.size;rw [hsz];exact YQ (fpl b hb))
   ·exact fun z=>(Zn.mp (I3.stkSub b z)).elim (f3 b hb).2.1 (f3 b hb).2.2.1
   ·intro x c e
    rcases clOf_in _ _ e with z | z
    ·simp at z
    ·exact (f3 b hb).2.2.2.2.1 x c z
  have hg':=hg (clOf X.env.cells scope.names []) s3.heap.objs.size fp s3 (upd H D (.lst []))
  have hf':=hf (clOf X.env.cells scope.names []) s3.heap.objs.size fp s3 (upd H D (.lst []))
  have he':=he (clOf X.env.cells scope.names []) s3.heap.objs.size fp s3 (upd H D (.lst []))
  rw [hX] at hg' hf' he'
  have xA:X'.A=X.A:=by rw [←hX];rfl
  have xw:X'.w=X.w:=by rw [←hX];rfl
  have xK:X'.K=X.K:=by rw [←hX];rfl
  have xc:X'.calm=true:=by rw [←hX];exact hc
  have xe:X'.env=compEnvC scope (clOf X.env.cells scope.names []) s3.heap.objs.size X.env:=by rw [←hX];rfl
  have xx:X'.xe=fun _ _=>False:=by rw [←hX];rfl
  have T':Turn X'.prog X'.w X'.K target J fp it tn:=by rw [xprog,xw,xK];exact T
  rw [←xA,←xw,←xprog,←xe]
  refine compLoop_go (fun n s'=>∃ i ys H',Inv X' [] (inner js σ) H' s'∧tn i s'.heap∧(∀ b∈fp,H' b=none)∧W i n ys H') ?_ m0 ⟨0,[],_,I4,st4,fun b hb=>(f3 b hb).1, w0⟩
  rintro n s5 ⟨i,ys,H5,I5,st5,fr5, w5⟩
  rcases turn i n ys H5 w5 with ⟨stop,q⟩ | ⟨go,N,hN, step⟩
  ·refine thn (T'.done X' rfl rfl rfl xc i [] s5 _ H5 _ I5 (stat fr5) st5 stop) fun r s6 ⟨hr,I6⟩=>?_
   subst hr
   subst hX
   have I7:Inv X pins σ H5 s6:=I3.call' (s':=s6) I6.os I6.base I6.hok I6.bare fun b hb=>⟨(f3 b hb).2.2.2.1,(f3 b hb).2.1,(f3 b hb).2.2.2.2.1, (f3 b hb).2.2.2.2.2⟩
   obtain ⟨m6,hn6, _⟩:=I6.loc
   refine hRR D s3.heap.objs.size H5 s6 I7 q ⟨m6,hn6⟩ I6.free hCne I3.sz (I3.nofs (Nat.le_refl _)) (fun x c e z=>?_) (fun p hp z=>?_)
   ·obtain ⟨v,y⟩:=I3.cell x c e
    exact absurd (Yt y.lt (by rw [z];exact Nat.le_refl _)) (Nat.lt_irrefl _)
   ·exact absurd (Yt (Heap.lt_size (I3.pin p hp).1) (by rw [z];exact Nat.le_refl _)) (Nat.lt_irrefl _)
  ·refine thn (T'.item X' rfl rfl rfl xc i [] s5 _ H5 _ I5 (stat fr5) st5 go) fun r s6 ⟨u,hr,h6⟩=>?_
   subst hr
   refine thn h6 fun _ s7 ⟨x,H7,I7,r7,y7,st7,fr7⟩=>?_
   have I7':=I7.pinned (stat fr7) (T.obj _ _ st7)
   refine wpAny_mono (hg' _ s7 _ H7 x u _ I7' r7 (step x H7 y7)) (fun _ s8 ⟨σ8,H8,I8,fill8,q8⟩=>?_) (fun _ _ z=>by rw [xx] at z;exact z)
   refine wpAny_mono (hf' _ s8 σ8 H8 _ I8 q8) (fun b s9 ⟨H9,I9,q9⟩=>?_) (fun _ _ z=>by rw [xx] at z;exact z)
   have again:∀ {H':Hp} {s':Shared} {ys':List V},Inv X' ([]++pinsAt fp s7.heap) σ8 H' s'→N ys' H'→∃ m,m<n∧∃ i ys H',Inv X' [] (inner js σ) H' s'∧tn i s'.heap∧(∀ b∈fp,H' b=none)∧W i m ys H':=fun {H' s' ys'} I' n'=>by
    obtain ⟨m',hm, w'⟩:=hN ys' H' n'
    refine ⟨m',hm,i+1,ys',H',I'.unpinned.weak fill8.len fill8.at_,T.keep _ _ _ st7 fun b hb o e=>(I'.pin (b,o) (List.mem_append_right _ (List.mem_append_right _ (mem_pinsAt hb e)))).1,fun b hb=>?_, w'⟩
    obtain ⟨o,e, d⟩:=T.obj _ _ st7 b hb
    exact (I'.pin (b,o) (List.mem_append_right _ (List.mem_append_right _ (mem_pinsAt hb e)))).2.1
   cases b with
   | false=>exact again I9 q9
   | true =>
    refine wpAny_mono (he' _ s9 σ8 H9 _ I9 q9) (fun yv s10 ⟨y,H10,I10,ry,hD10,hz,q10⟩=>?_) (fun _ _ z=>by rw [xx] at z;exact z)
    refine wpAny_mono (mt_append (X:=X') _ s10 σ8 H10 (.ref D) [y] (.ref D) [yv] (fun _ H'=>H'=upd H10 D (.lst (ys++[y]))) I10 rfl (.cons ry .nil) ⟨D,ys,y,rfl,rfl,hD10,hz, rfl⟩) (fun _ s11 ⟨_,H11,I11,_,e11⟩=>?_) (fun _ _ z=>by rw [xx] at z;exact z)
    subst e11
    exact again I11 q10
 have l4:=loop { s3 with heap:=h₁,toks:=s.toks+([]:List (Str×Value)).length } st4 I4
 exact codeAny_compStart_list l4 (T.self _ 0 _ _ _ st4 l4)
theorem pe_comp {N':List Str} {js:List (Option Nat)} {scope:Scope} {target iter elt:Expr} {ifs:List Expr} {pos:Pos} {wi:TI} {g:TG} {tc:TT} {te:TE} (hc:X.calm=true) (hi:PI X target iter wi)
  (hg:∀ cl C fp s H,PG (X.comp N' scope cl C fp s H) target g) (hf:∀ cl C fp s H,PF (X.comp N' scope cl C fp s H) ifs tc) (he:∀ cl C fp s H,PE (X.comp N' scope cl C fp s H) elt te)
  (hk:scope.kind=.function:=by rfl) (hcell:(scope.names.all fun y=>y.2 != .cell)=true:=by rfl) (hfree:(scope.names.all fun y=>y.2 != .free||(X.env.kindOf y.1==some .cell||X.env.kindOf y.1==some .free))=true:=by rfl)
  (hnames:(scope.names.all fun y=>y.2 != .local||scope.names.lookup y.1==some .local)=true:=by rfl) (hjs:jsOk X.N scope N' js=true:=by rfl) (hs:∀ x,foldedSetIterable iter X.env x=pure x:=by intro _;rfl) :
  PE X (.ListComp elt [⟨target,iter,ifs, 0⟩] scope pos) (tComp js wi g tc te):=by
 have hcell':∀ y∈scope.names,y.2≠.cell:=fun y hy z=>by have:=List.all_eq_true.mp hcell y hy;simp [z] at this
 have hfree':∀ y∈scope.names,y.2=.free→X.env.kindOf y.1=some .cell∨X.env.kindOf y.1=some .free:=fun y hy z=>by have:=List.all_eq_true.mp hfree y hy;simpa [z] using this
 have hnames':∀ y∈scope.names,y.2=.local→scope.names.lookup y.1=some .local:=fun y hy z=>by have:=List.all_eq_true.mp hnames y hy;simpa [z] using this
 intro pins s σ H Q I h
 rw [eval_ListComp]
 refine wpAny_comprehension_free (use:=none) rfl hs (closureFor_ok fun x hx z=>I.ok.has x.1 (hfree' x hx z)) hk hnames' ?_
 refine thn (hi pins s σ H _ I h) fun v s1 h1=>thn h1 fun itv s2 h2=>?_
 obtain ⟨it,fp,tn,J,H2,e,I2,T,st2,f2, q2⟩:=h2
 subst e
 refine comp_block (RR:=fun acc C=>compPost (model X.prog X.w) X.A X.xe none (EP X pins σ Q) acc C) I2 T st2 f2 hc q2 hg hf he hk hcell' hfree' hjs ?_
 intro D C H' s' I' q ⟨m,hn⟩ c0 c1 c2 c3 c4 c5
 exact ⟨m,hn, fun h' hs'=>⟨.ref D,H',I'.turned (t':=s'.toks) (fun b o hb e=>(hs'.2 b hb).trans e) c0 c1 (.inr c2) c4 c5,rfl, q⟩⟩
theorem ps_setComp {N':List Str} {js:List (Option Nat)} {scope:Scope} {target iter elt:Expr} {ifs:List Expr} {pos pos' spos:Pos} {x:Str} {i:Nat} {wi:TI} {g:TG} {tc:TT} {te:TE} (hN:X.N.Nodup) (hi':X.N[i]?=some x) (hx:Loc X.env.scope x) (hc:X.calm=true) (hi:PI X target iter wi)
  (hg:∀ cl C fp s H,PG (X.comp N' scope cl C fp s H) target g) (hf:∀ cl C fp s H,PF (X.comp N' scope cl C fp s H) ifs tc) (he:∀ cl C fp s H,PE (X.comp N' scope cl C fp s H) elt te)
  (hsw:swapsWith (.ListComp elt [⟨target,iter,ifs, 0⟩] scope pos) (some (.Name x pos')) spos.line X.env=pure true:=by rfl)
  (hk:scope.kind=.function:=by rfl) (hcell:(scope.names.all fun y=>y.2 != .cell)=true:=by rfl) (hfree:(scope.names.all fun y=>y.2 != .free||(X.env.kindOf y.1==some .cell||X.env.kindOf y.1==some .free))=true:=by rfl)
  (hnames:(scope.names.all fun y=>y.2 != .local||scope.names.lookup y.1==some .local)=true:=by rfl) (hjs:jsOk X.N scope N' js=true:=by rfl) (hs:∀ x,foldedSetIterable iter X.env x=pure x:=by intro _;rfl)
  (hfn:X.fn x=true∨X.env.scope.names.lookup x=some .local:=by first | exact .inl rfl | exact .inr rfl | assumption) :
  PS X (.Assign [.Name x pos'] (.ListComp elt [⟨target,iter,ifs, 0⟩] scope pos) spos) (tAsg (tComp js wi g tc te) (gName i)):=by
 have hcell':∀ y∈scope.names,y.2≠.cell:=fun y hy z=>by have:=List.all_eq_true.mp hcell y hy;simp [z] at this
 have hfree':∀ y∈scope.names,y.2=.free→X.env.kindOf y.1=some .cell∨X.env.kindOf y.1=some .free:=fun y hy z=>by have:=List.all_eq_true.mp hfree y hy;simpa [z] using this
 have hnames':∀ y∈scope.names,y.2=.local→scope.names.lookup y.1=some .local:=fun y hy z=>by have:=List.all_eq_true.mp hnames y hy;simpa [z] using this
 intro pins s σ H D I h
 rw [exec_Assign_Name_used _ _ _ _ hsw]
 refine wpAny_bind (wpAny_standAt (wpAny_bind ?_))
 show wpAny _ X.A (do let _ ←comprehension (.ListComp elt [⟨target,iter,ifs, 0⟩] scope pos) scope X.env _ (newList []) false (eval iter X.env) (some (assign (.Name x pos') X.env))) _ _ s
 refine wpAny_bind (wpAny_mono (wpAny_comprehension_free (use:=some (assign (.Name x pos') X.env)) (Q:=fun _ s'=>SP X pins D .next s') rfl hs (closureFor_ok fun x hx z=>I.ok.has x.1 (hfree' x hx z)) hk hnames' ?_) (fun _ s' hq=>wpAny_pure (wpAny_pure hq)) fun _ _ e=>e)
 refine thn (hi pins s σ H _ I h) fun v s1 h1=>thn h1 fun itv s2 h2=>?_
 obtain ⟨it,fp,tn,J,H2,e,I2,T,st2,f2, q2⟩:=h2
 subst e
 refine comp_block (Q:=fun x H1=>gName i x σ H1 D.nx) (RR:=fun acc C=>compPost (model X.prog X.w) X.A X.xe (some (assign (.Name x pos') X.env)) (fun _ s'=>SP X pins D .next s') acc C) I2 T st2 f2 hc q2 hg hf he hk hcell' hfree' hjs ?_
 intro D' C H' s' I' q ⟨m,hn⟩ c0 c1 c2 c3 c4 c5
 obtain ⟨oC,es,ep,hoC,hdC, rC⟩:=id hn
 have I'':Inv X (pins++[(C,oC)]) σ H' s':=I'.pins_of fun p hp=>(Zf.mp hp).elim (fun z=>I'.pin p (List.mem_append_right _ z)) fun z=>by
  have e:=Zb.mp z
  subst e
  exact ⟨hoC,c0,c1,c3, fun v z=>by rw [hdC] at z;cases z⟩
 show wpAny _ X.A (assign (.Name x pos') X.env (.ref D')) _ _ _
 refine wpAny_assign_Name (store_ok I'' hN hi' hx (v:=.ref D') rfl (fun s3 I3=>?_) hfn)
 have hC3:=I3.pin (C,oC) (List.mem_append_right _ (List.mem_append_right _ (Zb.mpr rfl)))
 refine ⟨m,⟨oC,es,ep,hC3.1,hdC, rC⟩, fun h' hs'=>?_⟩
 exact ⟨_,H',I3.unpinned.turned (t':=s3.toks) (fun b o hb e=>(hs'.2 b hb).trans e) c0 c1 (.inr c2) c4 c5, q⟩
end
theorem comp_by {J:It} {js:List (Option Nat)} {σ:St} {H1:Hp} {R:Hp→Prop} {D:Addr} {g:TG} {tc:TT} {te:TE} (n:Nat) (Pv:Nat→List V→Hp→Prop) (h0:Pv 0 [] (upd H1 D (.lst [])))
  (hs:∀ i ys H,i<n→Pv i ys H→J.go i H∧∀ x H',J.yld i H x H'→g x (inner js σ) H' fun σ2 H2=>Fills (inner js σ) σ2∧tc σ2 H2 fun b H3 =>
   if b=true then te σ2 H3 fun y H4=>H4 D=some (.lst ys)∧ys.length<sizeLine∧Pv (i+1) (ys++[y]) (upd H4 D (.lst (ys++[y]))) else Pv (i+1) ys H3)
  (hd:∀ ys H,Pv n ys H→J.stop n H∧R H) :
  ∃ W:Nat→Nat→List V→Hp→Prop,(∃ m,W 0 m [] (upd H1 D (.lst []))) ∧
   ∀ i m ys H,W i m ys H→(J.stop i H∧R H)∨(J.go i H∧∃ N:List V→Hp→Prop,(∀ ys' H',N ys' H'→∃ m',m' < m∧W (i+1) m' ys' H')∧∀ x H',J.yld i H x H'→g x (inner js σ) H' fun σ2 H2=>Fills (inner js σ) σ2∧tc σ2 H2 fun b H3 =>
    if b=true then te σ2 H3 fun y H4=>H4 D=some (.lst ys)∧ys.length<sizeLine∧N (ys++[y]) (upd H4 D (.lst (ys++[y]))) else N ys H3):=by
 refine ⟨fun i m ys H=>m=n-i∧i≤n∧Pv i ys H,⟨n,by simp,Nat.zero_le _, h0⟩, ?_⟩
 rintro i m ys H ⟨rfl,hi, p⟩
 by_cases hlt:i<n
 ·obtain ⟨go,step⟩:=hs i ys H hlt p
  exact .inr ⟨go,Pv (i+1),fun ys' H' p'=>⟨n-(i+1),by omega,rfl,hlt, p'⟩, step⟩
 ·have e:i=n:=by omega
  subst e
  exact .inl (hd ys H p)
theorem comp_map {J:It} {js:List (Option Nat)} {σ:St} {H1:Hp} {R:Hp→Prop} {D:Addr} {g:TG} {te:TE} (n:Nat) (Pv:Nat→List V→Hp→Prop) (h0:Pv 0 [] (upd H1 D (.lst [])))
  (hs:∀ i ys H,i<n→Pv i ys H→J.go i H∧∀ x H',J.yld i H x H'→g x (inner js σ) H' fun σ2 H2=>Fills (inner js σ) σ2∧te σ2 H2 fun y H4=>H4 D=some (.lst ys)∧ys.length<sizeLine∧Pv (i+1) (ys++[y]) (upd H4 D (.lst (ys++[y]))))
  (hd:∀ ys H,Pv n ys H→J.stop n H∧R H) :
  ∃ W:Nat→Nat→List V→Hp→Prop,(∃ m,W 0 m [] (upd H1 D (.lst []))) ∧
   ∀ i m ys H,W i m ys H→(J.stop i H∧R H)∨(J.go i H∧∃ N:List V→Hp→Prop,(∀ ys' H',N ys' H'→∃ m',m' < m∧W (i+1) m' ys' H')∧∀ x H',J.yld i H x H'→g x (inner js σ) H' fun σ2 H2=>Fills (inner js σ) σ2∧tTrue σ2 H2 fun b H3 =>
    if b=true then te σ2 H3 fun y H4=>H4 D=some (.lst ys)∧ys.length<sizeLine∧N (ys++[y]) (upd H4 D (.lst (ys++[y]))) else N ys H3):=by
 refine comp_by n Pv h0 ?_ hd
 simp only [tTrue,if_true]
 exact hs
end L2
set_option Elab.async false
set_option linter.all false
set_option maxRecDepth 100000
set_option maxHeartbeats 4000000
namespace L2
open PySem PySem.Spec PyProof.Rows
section
variable {X:Cx} {tg:Expr}
end
section
variable {X:Cx} {pins:List (Addr×Obj)} {σ:St} {H:Hp} {s:Shared} {h':Heap}
theorem Inv.turnedNew {t':Nat} {ch:List Addr} {T:Addr} {o:HO} (I:Inv X pins σ H s) (k:∀ b u,b∉ch→s.heap.get? b=some u→h'.get? b=some u) (there:∀ b u,s.heap.get? b=some u→∃ u',h'.get? b=some u') (hT:s.heap.objs.size≤T)
  (hf:∀ b∈ch,FpOk X pins H b) (new:ObjOk X.prog X.w (upd H T o) h' T o):Inv X pins σ (upd H T o) { s with heap:=h',toks:=t' }:=by
 have hn:=I.hok.fresh hT
 have nit:∀ b u,H b=some u→b∉ch:=fun b u e z=>by rw [(hf b z).1] at e;cases e
 refine I.step (g':=s.gens) (d':=s.drawn) (ch:=ch) (fun b hb=>?_) (fun b o _ _ hc e _=>k b o hc e) (fun b o _ _ hc e _=>⟨o.slots,k b o hc e⟩) (fun b u hc e n=>?_) (fun b u hc e=>there b u e)
  (fun b xs e=>?_) (fun b ob u e=>?_) (fun b ps e=>⟨#[],?_⟩) (fun m hm=>?_) (fun b u e=>?_) I.bare
 ·exact ⟨(hf b hb).2.2.2.1,(hf b hb).2.1,(hf b hb).2.2.2.2.1, (hf b hb).2.2.2.2.2⟩
 ·rw [upd_ne (Nat.ne_of_lt (Yt (Heap.lt_size e) hT))];exact n
 ·rw [upd_ne (ne_of_none e hn)];exact e
 ·rw [upd_ne (ne_of_none e hn)];exact e
 ·rw [upd_ne (ne_of_none e hn),e];simp
 ·obtain ⟨ob,es,ep,ho, r⟩:=hm
  exact ⟨ob,es,ep,k _ ob (fun z=>(hf _ z).2.1 rfl) ho, r⟩
 ·by_cases hb:b=T
  ·subst hb;rw [upd_same] at e;cases e;exact new
  ·rw [upd_ne hb] at e
   refine (I.hok b u e).stay (fun c v hc q=>k c v ?_ q) (fun c q=>by rw [upd_ne (ne_of_none q hn)];exact q) fun c xs q=>by rw [upd_ne (ne_of_none q hn)];exact q
   rcases hc with z | z
   ·rw [z];exact nit b u e
   ·exact nit c _ z
end
def Ite (K:PySem.W.Frag) (a:Addr):It :=
 ⟨fun i H=>∃ xs x,SqL K H a xs∧xs[i]?=some x,fun i H v H'=>∃ T x,v=.ref T∧H T=none∧H'=upd H T (.tup [.int i,x])∧∀ xs,SqL K H a xs→xs[i]?=some x,fun i H=>∃ xs,SqL K H a xs∧xs.length≤i⟩
theorem turn_enum {P:Program} {w:World} {K:PySem.W.Frag} {elts:List Expr} {k:Nat} {pos:Pos} (a e it:Addr) (hei:e≠it):Turn P w K (.Tuple elts k pos) (Ite K a) [e,it] e (fun i h=>(∃ old,IsEnum h e it i old)∧h.IsListIter it a i) where
 mem:=by simp
 obj:=fun i h st b hb=>by
  obtain ⟨⟨old,he⟩,o,ho,hc, hd⟩:=st
  rcases Zn.mp hb with rfl | hb
  ·exact ⟨_,he, fun v z=>by
    have z':Data.fields _=Data.cell v:=z
    cases z'⟩
  ·have e':=Zb.mp hb
   subst e'
   exact ⟨o,ho, fun v z=>by rw [hd] at z;cases z⟩
 keep:=fun i h h' st k=>by
  obtain ⟨⟨old,he⟩,hit⟩:=st
  exact ⟨⟨old,k e (by simp) _ he⟩,hit.at fun o x=>k it (by simp) o x⟩
 item:=by
  intro X hP hw hK hc i pins s σ H E I hf st hg
  subst hP hw hK
  obtain ⟨⟨old,he⟩,hit⟩:=st
  obtain ⟨xs,x,hq, hx⟩:=hg
  obtain ⟨its,rv,pl, hz⟩:=I.list hq
  obtain ⟨u,hu, ru⟩:=rv.get hx
  have hux:its.toArray[i]?=some u:=by simpa using hu
  refine wpAny_pyNext_enum_item he hit pl.isList hux hei fun h' ho hit' hT hsz hk=>?_
  refine ⟨_,rfl, ?_⟩
  have kk:∀ b v,b∉[e,it]→s.heap.get? b=some v→h'.get? b=some v:=fun b v hb q=>hk b v (fun z=>hb (by simp [z])) (fun z=>hb (by simp [z])) q
  have th:∀ b v,s.heap.get? b=some v→∃ v',h'.get? b=some v':=fun b v q=>by
   by_cases h1:b=e
   ·subst h1;exact ⟨_,ho⟩
   ·by_cases h2:b=it
    ·subst h2;obtain ⟨o,q1, _⟩:=hit';exact ⟨_,q1⟩
    ·exact ⟨v,hk b v h1 h2 q⟩
  have I1:Inv X pins σ (upd H s.heap.objs.size (.tup [.int i,x])) { s with heap:=h',toks:=s.toks+1 } :=
   I.turnedNew (ch:=[e,it]) kk th (Nat.le_refl _) hf ⟨by show 2≤sizeLine;decide,[.int i s.toks,u],.cons ⟨_,rfl⟩ (.cons ru .nil), ⟨_,hT,rfl,_, rfl⟩⟩
  refine wpAny_letOwnedTupleGo_enum ho fun h2 he2 hs2=>?_
  have fe:=hf e (by simp)
  have fi:=hf it (by simp)
  have hTe:e≠s.heap.objs.size:=Nat.ne_of_lt (Heap.lt_size he)
  have hTi:it≠s.heap.objs.size:=by obtain ⟨o,q1, _⟩:=hit;exact Nat.ne_of_lt (Heap.lt_size q1)
  have I2:Inv X pins σ (upd H s.heap.objs.size (.tup [.int i,x])) { s with heap:=h2,toks:=s.toks+1 } :=
   Inv.turned (s:={ s with heap:=h',toks:=s.toks+1 }) (h':=h2) (t':=s.toks+1) (it:=e) I1 (fun b o hb q=>(hs2.2 b hb).trans q) (by rw [upd_ne hTe];exact fe.1) fe.2.1 fe.2.2.2.1 fe.2.2.2.2.1 fe.2.2.2.2.2
  refine ⟨.ref s.heap.objs.size,_,I2,rfl,⟨s.heap.objs.size,x,rfl,I.fresh,rfl, fun ys hys=>by rw [I.list_inj hys hq];exact hx⟩,⟨⟨_,by simpa using he2⟩,hit'.at fun o q=>(hs2.2 it hei.symm).trans q⟩, fun b hb=>?_⟩
  rcases Zn.mp hb with rfl | hb
  ·rw [upd_ne hTe];exact fe.1
  ·have e':=Zb.mp hb
   subst e'
   rw [upd_ne hTi];exact fi.1
 done:=by
  intro X hP hw hK hc i pins s σ H E I hf st hg
  subst hP hw hK
  obtain ⟨⟨old,he⟩,hit⟩:=st
  obtain ⟨xs,hq, hl⟩:=hg
  obtain ⟨its,rv,pl, hz⟩:=I.list hq
  have hlen:=rv.length
  obtain ⟨f0,f1,f2,f3,f4, f5⟩:=hf it (by simp)
  refine wpAny_pyNext_enum_end (I.ok.hd hc) he hit pl.isList (by simp;omega) fun h' eb=>⟨rfl,?_⟩
  exact I.turned (t':=s.toks) (fun b o hb q=>eb b o hb q) f0 f1 f3 f4 f5
 self:=fun _ _ _ _ _ st h=>by
  obtain ⟨⟨old,he⟩,_⟩:=st
  exact wpAny_pyIter_enum he h
section
variable {X:Cx}
def iEnum (K:PySem.W.Frag) (ta:TA):TI:=fun σ H R=>ta σ H fun vs H1=>∃ a,vs=[.ref a]∧(∃ xs,SqL K H1 a xs)∧R (Ite K a) H1
theorem pi_enum {a:Expr} {ta:TA} {p pos:Pos} {elts:List Expr} {k:Nat} {tpos:Pos} (hg:Gl X "enumerate") (hm:X.mg "enumerate" = none) (ha:PA X [a] ta) (hs:starEach [a] X.env=[(false,eval a X.env)]:=by rfl) :
  PI X (.Tuple elts k tpos) (.Call (.Name "enumerate" p) [a] [] pos) (iEnum X.K ta):=by
 intro pins s σ H R I h
 refine Call_ (ld_blt I hg hm (show bootBuiltins "enumerate" = some (.type "enumerate") by decide +kernel) (PyProof.Rows.callWith_type1 (thn (ha pos pins s σ H _ I h) fun us s1 ⟨vs,H1,I1,r1,q1⟩=>?_) hs rfl))
 obtain ⟨l,e,⟨xs,hq⟩, q⟩:=q1
 subst e
 cases r1 with
 | cons r rr =>
  cases rr
  cases r
  obtain ⟨its,rv,pl, hz⟩:=I1.list hq
  refine call_enumerate_list pl.isList fun h' he hit hsz hk=>?_
  refine wpAny_pyIter_enum he ?_
  have I2:Inv X pins σ H1 { s1 with heap:=h' }:=I1.kept (t':=s1.toks) hk
  refine ⟨s1.heap.objs.size+1,[s1.heap.objs.size+1,s1.heap.objs.size],_,_,H1,rfl,I2,turn_enum l _ _ (Nat.succ_ne_self _),⟨⟨_,by simpa using he⟩,hit⟩,fun b hb=>?_, q⟩
  rcases Zn.mp hb with rfl | hb
  ·exact I1.fpOk (Nat.le_succ _) (I1.hok.fresh (Nat.le_succ _))
  ·have e':=Zb.mp hb
   subst e'
   exact I1.fpOk (Nat.le_refl _) (I1.hok.fresh (Nat.le_refl _))
end
mutual
inductive Bd (K:PySem.W.Frag) (H:Hp):V→PyData→Prop
 | int (i:Int):Bd K H (.int i) (.int i)
 | non:Bd K H .non .none
 | bl (b:Bool):Bd K H (.bl b) (.bool b)
 | lst {a:Addr} {xs:List V} {ds:List PyData}:SqL K H a xs→Bds K H xs ds→Bd K H (.ref a) (.list ds)
 | tup {a:Addr} {xs:List V} {ds:List PyData}:SqT K H a xs→Bds K H xs ds→Bd K H (.ref a) (.tuple ds)
inductive Bds (K:PySem.W.Frag) (H:Hp):List V→List PyData→Prop
 | nil:Bds K H [] []
 | cons {x:V} {xs:List V} {d:PyData} {ds:List PyData}:Bd K H x d→Bds K H xs ds→Bds K H (x::xs) (d::ds)
end
section
variable {X:Cx} {pins:List (Addr×Obj)} {σ:St} {H:Hp} {s:Shared}
mutual
theorem Bd.reads (I:Inv X pins σ H s):∀ {x:V} {d:PyData} {u:Value},Bd X.K H x d→RelV x u→∃ as,Reads s.heap u d as
 | _,_,u,.int i,r=>by obtain ⟨t,rfl⟩:=r;exact ⟨_,.int i t⟩
 | _,_,u,.non,r=>by cases r;exact ⟨_,.none⟩
 | _,_,u,.bl b,r=>by cases r;exact ⟨_,.bool b⟩
 | _,_,u,.lst hq b,r=>by
  cases r
  obtain ⟨its,rv,⟨o,n,e,hc,_, hd⟩, hz⟩:=I.list hq
  obtain ⟨as,h⟩:=Bds.reads I b rv
  exact ⟨_,.list e hc hd (by simpa using h)⟩
 | _,_,u,.tup hq b,r=>by
  cases r
  obtain ⟨its,rv,⟨o,e,hc,n, hd⟩, hz⟩:=I.tuple hq
  obtain ⟨as,h⟩:=Bds.reads I b rv
  exact ⟨_,.tuple e hc hd (by simpa using h)⟩
theorem Bds.reads (I:Inv X pins σ H s):∀ {xs:List V} {ds:List PyData} {us:List Value},Bds X.K H xs ds→Vals xs us→∃ as,ReadsAll s.heap us ds as
 | _,_,_,.nil,r=>by cases r;exact ⟨_,.nil⟩
 | _,_,_,.cons b bs,r=>by
  cases r with
  | cons r rr =>
   obtain ⟨as,h⟩:=Bd.reads I b r
   obtain ⟨bs',h'⟩:=Bds.reads I bs rr
   exact ⟨_,.cons h h'⟩
end
end
section
variable {X:Cx}
def rEqD (K:PySem.W.Frag) (neg:Bool):R2:=fun x y H Q=>∃ dx dy,Bd K H x dx∧Bd K H y dy∧SeqAt.shaped dx=true∧SeqAt.shaped dy=true∧Q (.bl (PyData.eqv dx dy ^^ neg)) H
theorem op_eqD (hu:X.A.units+64<cLine):OpR X (compareOp .Eq) (rEqD X.K false):=by
 intro pins s σ H x y v u Q I rx ry h
 obtain ⟨dx,dy,bx,b_y,sx,sy, q⟩:=h
 obtain ⟨as,r1⟩:=bx.reads I rx
 obtain ⟨bs,r2⟩:=b_y.reads I ry
 exact eq_dataH r1 r2 sx sy hu ⟨.bl _,H,I,rfl, by simpa using q⟩
theorem op_neD (hu:X.A.units+64<cLine):OpR X (compareOp .NotEq) (rEqD X.K true):=by
 intro pins s σ H x y v u Q I rx ry h
 obtain ⟨dx,dy,bx,b_y,sx,sy, q⟩:=h
 obtain ⟨as,r1⟩:=bx.reads I rx
 obtain ⟨bs,r2⟩:=b_y.reads I ry
 exact ne_dataH r1 r2 sx sy hu ⟨.bl _,H,I,rfl, by simpa using q⟩
end
section
variable {X:Cx}
def kindV (H:Hp):V→String→Prop
 | .non,T=>T="NoneType"
 | .bl _,T=>T="bool"
 | .int _,T=>T="int"
 | .ref a,T=>(T="list"∧∃ xs,H a=some (.lst xs))∨(T="tuple"∧∃ xs,H a=some (.tup xs))
 | _,_=>False
theorem kindV.ty {K:PySem.W.Frag} {H:Hp} {x:V} {T:String} (h:kindV H x T):TyOf K H x (.type T):=by
 cases x with
 | non=>cases (show T="NoneType" from h);exact .non
 | bl b=>cases (show T="bool" from h);exact .bl b
 | int i=>cases (show T="int" from h);exact .int i
 | ref a =>
  rcases h with ⟨rfl,xs, e⟩ | ⟨rfl,xs, e⟩
  ·exact .lst e
  ·exact .tup e
 | _=>exact False.elim h
def isT (T c:String):Bool:=T==c||(T=="bool"&&c=="int")
theorem kind_in {H:Hp} {x:V} {T:String} (h:kindV H x T):T="NoneType"∨T="bool"∨T="int"∨T="list"∨T="tuple":=by
 cases x with
 | non=>exact .inl h
 | bl b=>exact .inr (.inl h)
 | int i=>exact .inr (.inr (.inl h))
 | ref a =>
  rcases h with ⟨rfl,xs, e⟩ | ⟨rfl,xs, e⟩
  ·exact .inr (.inr (.inr (.inl rfl)))
  ·exact .inr (.inr (.inr (.inr rfl)))
 | _=>exact False.elim h
theorem kit_T {K:PySem.W.Frag} {T n:String} (hT:T="NoneType"∨T="bool"∨T="int"∨T="list"∨T="tuple") (hn:n="list"∨n="tuple"∨n="int"∨n="bool"):PySem.W.kitOne K (.type T) (.type n)=some (isT T n):=by
 rcases hT with rfl | rfl | rfl | rfl | rfl<;>rcases hn with rfl | rfl | rfl | rfl<;>first | rfl | decide
def rIsi (H0:Unit):List V→Hp→VK→Prop:=fun xs H Q=>∃ x T n,xs=[x,.ty n]∧kindV H x T∧(n="list"∨n="tuple"∨n="int"∨n="bool")∧Q (.bl (isT T n)) H
theorem call_isi:CallR X (.builtin "isinstance") (rIsi ()):=by
 intro pins s σ H xs us Q I r h
 obtain ⟨x,T,n,rfl,k,hn, q⟩:=h
 obtain ⟨u,v,rfl,ru, rv⟩:=vals2 r
 cases (show v=Value.type n from rv)
 exact isinst_ok I ru k.ty (kit_T (kind_in k) hn) fun tk=>⟨.bl _,H,I.tok tk,rfl, q⟩
end
end L2
namespace L2
open PySem PySem.Spec PyProof.Rows
theorem iteFb {c:Bool} {A B:Prop} (hc:c=false) (h:B):if c=true then A else B:=by subst hc;exact iteF h
theorem same_new {H:Hp} {p:Addr} (h:H p=none) (o:HO):Same H (upd H p o):=fun b u q=>by rw [upd_ne (ne_of_none q h)];exact q
theorem Same.tup {K:PySem.W.Frag} {H H':Hp} {a:Addr} {xs:List V} (e:Same H H') (h:SqT K H a xs):SqT K H' a xs:=by
 rcases h with (h | ⟨o,h⟩) | h
 ·exact .inl (.inl (e _ _ h))
 ·exact .inl (.inr ⟨o,e _ _ h⟩)
 ·exact .inr h
section
variable {X:Cx} {K:PySem.W.Frag}
theorem kix_list (h:X.K=K):IxR X (rIxL K):=by subst h;exact ix_list
theorem kix_tup (h:X.K=K):IxR X (rIxT K):=by subst h;exact ix_tup
theorem kcall_list (h:X.K=K):CallR X (.type "list") (fun xs H Q=>∃ p ys,xs=[.ref p]∧(SqL K H p ys∨SqT K H p ys)∧∀ l,H l=none→Q (.ref l) (upd H l (.lst ys))):=by subst h;exact call_list_of
theorem kpg_tup {es:List Expr} {k:Nat} {t:TGs} {n:Nat} {pos:Pos} (e:X.K=K) (hc:X.calm=true) (h:PGs X es t)
  (hn:(assignEach es X.env).length=n:=by rfl) (hst:(assignEach es X.env).findIdx? (·.1)=none:=by rfl):PG X (.Tuple es k pos) (gTup K n t):=by subst e;exact pg_tup hc h hn hst
end
end L2
namespace MM
end MM
set_option Elab.async false
set_option linter.all false
set_option maxRecDepth 100000
set_option maxHeartbeats 4000000
namespace L2
open PySem PySem.Spec PyProof.Rows
abbrev vn (n:Nat):V:=.int (n:Int)
section
variable {X:Cx}
def insAt {α:Type} (l:List α) (i:Nat) (x:α):List α:=l.take i++x::l.drop i
def rInsert:V→List V→Hp→VK→Prop:=fun x vs H Q=>∃ (l:Addr) (xs:List V) (i:Nat) (y:V),x=.ref l∧vs=[vn i,y]∧H l=some (.lst xs)∧i≤xs.length∧xs.length<sizeLine∧Q .non (upd H l (.lst (insAt xs i y)))
theorem mt_insert:MtM X "list.insert" rInsert:=by
 intro pins s σ H x vs v us Q I rx rv h
 obtain ⟨l,xs,i,y,rfl,rfl,hH,hi,hz, q⟩:=h
 cases rx
 obtain ⟨u1,u2,rfl,⟨t,rfl⟩, r2⟩:=rv.two
 obtain ⟨z,its,n,r,hl, e⟩:=I.lstM hH
 have hfit:Builtin.List.listFitsIndex (i:Int)=true:=by
  unfold Builtin.List.listFitsIndex
  have:=line63
  simp only [Xv,decide_eq_true_eq]
  omega
 have hc0:¬(!Builtin.List.listFitsIndex (i:Int))=true:=by rw [hfit];exact Bool.false_ne_true
 have hz1:its.toArray.size≤sizeLine:=by rw [List.size_toArray];omega
 obtain ⟨w,hw⟩:∃ w:Int,w=(i:Int):=⟨_,rfl⟩
 rw [←hw] at hc0
 have mm:=PySem.AutoSeq1.list_insert_list_int_val_1 l its.toArray n w t u2 hc0 hz1
 rw [←hw]
 refine call_meets F.slot_list_insert ⟨_,e, rfl⟩ F.entry_list_insert (F.args_list_insert_3 _ _ _) mm ⟨e,?_⟩
 refine ⟨.non,_,I.lset (its':=insAt its i u2) (ys:=insAt xs i y) (t':=s.toks) hH e ?_ ?_ ?_,rfl, q⟩
 ·have hk:(if w<0 then (w+(its.toArray.size:Int)).toNat else min w.toNat its.toArray.size)=i:=by
   rw [if_neg (by omega),List.size_toArray]
   omega
  show (its.toArray.extract 0 (if w<0 then (w+(its.toArray.size:Int)).toNat else min w.toNat its.toArray.size)).push u2++its.toArray.extract (if w<0 then (w+(its.toArray.size:Int)).toNat else min w.toNat its.toArray.size)=_
  rw [hk]
  unfold insAt
  simp
  exact List.take_of_length_le (by simp)
 ·unfold insAt
  exact Vals.append (r.take _) (.cons r2 (r.drop _))
 ·unfold insAt
  rw [Zm,Yq,Yw,Yd]
  omega
end
end L2
set_option linter.all false
set_option maxRecDepth 100000
set_option maxHeartbeats 4000000
namespace L2
open PySem PySem.Spec PyProof.Rows
theorem comp_rel {J:It} {js:List (Option Nat)} {σ:St} {H1:Hp} {R:Hp→Prop} {D:Addr} {g:TG} {te:TE} (n:Nat) (Pe:Nat→V→Prop) (hD:H1 D=none) (hn:n≤100000)
  (go:∀ i H',i<n→Same H1 H'→J.go i H') (stop:∀ H',Same H1 H'→J.stop n H')
  (hs:∀ i H' x H'' (k:V→Hp→Prop),i<n→Same H1 H'→J.yld i H' x H''→(∀ v H4,Pe i v→Same H' H4→k v H4)→g x (inner js σ) H'' fun σ2 H2=>Fills (inner js σ) σ2∧te σ2 H2 k)
  (hd:∀ vs H',vs.length=n→(∀ (i:Nat) v,vs[i]?=some v→Pe i v)→Same H1 H'→H' D=some (.lst vs)→R H') :
  ∃ W:Nat→Nat→List V→Hp→Prop,(∃ m,W 0 m [] (upd H1 D (.lst []))) ∧
   ∀ i m ys H,W i m ys H→(J.stop i H∧R H)∨(J.go i H∧∃ N:List V→Hp→Prop,(∀ ys' H',N ys' H'→∃ m',m' < m∧W (i+1) m' ys' H')∧∀ x H',J.yld i H x H'→g x (inner js σ) H' fun σ2 H2=>Fills (inner js σ) σ2∧tTrue σ2 H2 fun b H3 =>
    if b=true then te σ2 H3 fun y H4=>H4 D=some (.lst ys)∧ys.length<sizeLine∧N (ys++[y]) (upd H4 D (.lst (ys++[y]))) else N ys H3):=by
 refine comp_map n (fun i ys H'=>ys.length=i∧(∀ (j:Nat) v,ys[j]?=some v→Pe j v)∧Same H1 H'∧H' D=some (.lst ys)) ⟨rfl,fun j v h=>by simp at h,same_new hD _, upd_same⟩ ?_ ?_
 ·rintro i ys H' hi ⟨hl,hp,g1, hD'⟩
  refine ⟨go i H' hi g1,fun x H'' hy=>hs i H' x H'' _ hi g1 hy fun v H4 hv g4=>⟨g4 _ _ hD',?_,?_,?_,?_, upd_same⟩⟩
  ·rw [hl];exact Yt hi (Yr hn (by decide))
  ·rw [Zm,hl];rfl
  ·intro j v' h
   by_cases hj:j<ys.length
   ·rw [Zx hj] at h;exact hp j v' h
   ·rw [Zy (by omega)] at h
    have hj2:j-ys.length=0:=by
     have:=(Zj.mp h).1
     simp at this;omega
    rw [hj2] at h
    simp at h
    subst h
    have:j=i:=by omega
    subst this
    exact hv
  ·exact fun b o h=>by rw [upd_ne (ne_of_none h hD)];exact g4 _ _ (g1 _ _ h)
 ·rintro ys H' ⟨hl,hp,g1, hD'⟩
  exact ⟨stop H' g1,hd ys H' hl hp g1 hD'⟩
theorem rel_fun {vs:List V} {n:Nat} {fs:Nat→V} (hl:vs.length=n) (h:∀ (i:Nat) v,vs[i]?=some v→v=fs i):vs=(List.range n).map fs:=by
 apply Yn
 intro i
 by_cases hi:i<n
 ·rw [Zk,List.getElem?_range hi]
  obtain ⟨v,hv⟩:∃ v,vs[i]?=some v:=⟨vs[i],Zz (by omega)⟩
  rw [hv,h i v hv];rfl
 ·rw [Zr (by omega),Zr (by simp;omega)]
theorem comp_pure {J:It} {js:List (Option Nat)} {σ:St} {H1:Hp} {R:Hp→Prop} {D:Addr} {g:TG} {te:TE} (n:Nat) (fs:Nat→V) (hD:H1 D=none) (hn:n≤100000)
  (go:∀ i H',i<n→Same H1 H'→J.go i H') (stop:∀ H',Same H1 H'→J.stop n H')
  (hs:∀ i H' x H'' (k:V→Hp→Prop),i<n→Same H1 H'→J.yld i H' x H''→(∀ H4,Same H' H4→k (fs i) H4)→g x (inner js σ) H'' fun σ2 H2=>Fills (inner js σ) σ2∧te σ2 H2 k)
  (hd:∀ H',Same H1 H'→H' D=some (.lst ((List.range n).map fs))→R H') :
  ∃ W:Nat→Nat→List V→Hp→Prop,(∃ m,W 0 m [] (upd H1 D (.lst []))) ∧
   ∀ i m ys H,W i m ys H→(J.stop i H∧R H)∨(J.go i H∧∃ N:List V→Hp→Prop,(∀ ys' H',N ys' H'→∃ m',m' < m∧W (i+1) m' ys' H')∧∀ x H',J.yld i H x H'→g x (inner js σ) H' fun σ2 H2=>Fills (inner js σ) σ2∧tTrue σ2 H2 fun b H3 =>
    if b=true then te σ2 H3 fun y H4=>H4 D=some (.lst ys)∧ys.length<sizeLine∧N (ys++[y]) (upd H4 D (.lst (ys++[y]))) else N ys H3) :=
 comp_rel n (fun i v=>v=fs i) hD hn go stop (fun i H' x H'' k hi g1 hy hk=>hs i H' x H'' k hi g1 hy fun H4 g4=>hk _ _ rfl g4)
  fun vs H' hl hp g1 e=>hd H' g1 (by rw [e,rel_fun hl hp])
def at0 (ls:List Int) (j:Nat):Int:=ls.getD j 0
theorem at_get {ls:List Int} {j:Nat} (h:j<ls.length):(ls.map V.int)[j]?=some (.int (at0 ls j)):=by
 unfold at0
 rw [Zk,Zz h]
 simp [List.getD,h]
theorem at0_mem {ls:List Int} {j:Nat} (h:j<ls.length):at0 ls j∈ls:=by
 unfold at0;simp [List.getD,h]
theorem atI_get0 {ls:List Int} {j:Nat} (h:j<ls.length) {k:Int} (hk:k=(j:Int)):atI (ls.map V.int) k=some (.int (at0 ls j)):=by
 subst hk;exact atI_nat (at_get h)
theorem ixN_ok {n j:Nat} {k:Int} (h:j<n) (hk:k=(j:Int)):ixN n k=some j:=by
 subst hk
 unfold ixN
 rw [if_pos (by omega),if_pos (by omega)]
 simp
theorem lay_all {ds:List PyData} (n:Nat) (h:∀ d∈ds,d.canLay0=true∧d.depth≤n):PyData.canLayAll0 ds=true∧PyData.depthAll ds≤n:=by
 induction ds with
 | nil=>exact ⟨rfl,Nat.zero_le _⟩
 | cons d ds ih =>
  have h1:=h d Zd
  have h2:=ih fun x hx=>h x (Zw _ hx)
  refine ⟨by rw [PyData.canLayAll0,h1.1,h2.1];rfl,?_⟩
  rw [PyData.depthAll]
  exact Nat.max_le.mpr ⟨h1.2,h2.2⟩
theorem for_enum {K:PySem.W.Frag} {a:Addr} {xs:List V} {g:TG} {tb:TS} {D:Ends} {σ:St} {H:Hp} (Pv:Nat→St→Hp→Prop) (h0:Pv 0 σ H) (hl:∀ i σ H,i≤xs.length→Pv i σ H→SqL K H a xs)
  (hs:∀ (i:Nat) x σ H T,xs[i]?=some x→Pv i σ H→H T=none→g (.ref T) σ (upd H T (.tup [vn i,x])) fun σ2 H2=>tb { D with nx:=Pv (i+1),ct:=Pv (i+1),bk:=D.nx } σ2 H2) (hd:∀ σ H,Pv xs.length σ H→D.nx σ H) :
  ∃ W:Nat→Nat→St→Hp→Prop,(∃ m,W 0 m σ H)∧∀ i m σ H,W i m σ H →
   ((Ite K a).stop i H∧D.nx σ H)∨((Ite K a).go i H∧∃ N:St→Hp→Prop,(∀ σ' H',N σ' H'→∃ m',m' < m∧W (i+1) m' σ' H')∧∀ x H',(Ite K a).yld i H x H'→g x σ H' fun σ2 H2=>tb { D with nx:=N,ct:=N,bk:=D.nx } σ2 H2):=by
 refine ⟨fun i m σ H=>m=xs.length-i∧i≤xs.length∧Pv i σ H,⟨xs.length,by simp,Nat.zero_le _, h0⟩, ?_⟩
 rintro i m σ H ⟨rfl,hi, p⟩
 have q:=hl i σ H hi p
 by_cases hlt:i<xs.length
 ·refine .inr ⟨⟨xs,xs[i],q, by simp [hlt]⟩,Pv (i+1),fun σ' H' p'=>⟨xs.length-(i+1),by omega,rfl,hlt, p'⟩, fun x H' y=>?_⟩
  obtain ⟨T,x',rfl,hT,rfl, y⟩:=y
  exact hs i x' σ _ T (y xs q) p hT
 ·have e:i=xs.length:=by omega
  subst e
  exact .inl ⟨⟨xs,q, Nat.le_refl _⟩,hd σ H p⟩
theorem preSum_at0 (ns:List Int):∀ k,k≤ns.length→PySem.preSum (at0 ns) k=(ns.take k).sum
 | 0,_=>by simp [PySem.preSum]
 | k+1,h=>by
  rw [PySem.preSum,preSum_at0 ns k (by omega),List.take_succ,List.sum_append]
  have hk:k<ns.length:=by omega
  unfold at0
  simp [List.getD,hk]
section
variable {X:Cx} {pins:List (Addr×Obj)} {σ:St} {H:Hp} {s:Shared}
theorem listIter_st {p:Addr} {its:List Value} (pl:PlainL s.heap p its.toArray) :
  (s.heap.push { cls:=.type "list_iterator",data:=.fields #[.ref p,.int 0 0] }).IsListIter s.heap.objs.size p 0∧(s.heap.push { cls:=.type "list_iterator",data:=.fields #[.ref p,.int 0 0] }).IsList p its.toArray:=by
 obtain ⟨o,n,e,hc,hd, hs⟩:=pl
 exact ⟨⟨_,Heap.get?_push_size _ rfl,rfl, rfl⟩,o,Heap.get?_push_of_some _ e,hc,n, hs⟩
theorem plain_ne {p:Addr} {its:List Value} (pl:PlainL s.heap p its.toArray):p<s.heap.objs.size:=by
 obtain ⟨o,n,e, _⟩:=pl
 exact Heap.lt_size e
theorem call_sumI (hc:X.calm=true):CallR X (.builtin "sum") (fun xs H Q=>∃ (p:Addr) (ns:List Int),xs=[.ref p]∧SqL X.K H p (ns.map V.int)∧Q (.int ns.sum) H):=by
 intro pins s σ H xs us Q I r h
 obtain ⟨p,ns,rfl,hq, q⟩:=h
 obtain ⟨u,rfl, rx⟩:=vals1 r
 cases rx
 obtain ⟨its,rv,pl, hz⟩:=I.list hq
 have hl:=rv.length
 rw [Zq] at hl
 have hp:=plain_ne pl
 refine call_sum_walkG (wpAny_pyIter_list pl.isList ?_)
 refine ⟨s.heap.objs.size,[s.heap.objs.size,p],[s.heap.objs.size],its.toArray.size,_,_,at0 ns,rfl,Walks.list (show X.A.in1.handled=none from I.ok.hd hc) _ p (Nat.ne_of_lt hp) its.toArray,listIter_st pl,fun b hb=>?_,fun i v hv=>?_, fun h' tk t' hk=>?_⟩
 ·have:=Heap.lt_size (Heap.get?_push_size s.heap (o:={ cls:=.type "list_iterator",data:=.fields #[.ref p,.int 0 0] }) rfl)
  simp only [Zn,List.not_mem_nil,or_false] at hb
  rcases hb with rfl | rfl
  ·exact this
  ·exact Nat.lt_trans hp this
 ·have hi:its[i]?=some v:=by simpa using hv
  have hi2:i<ns.length:=by rw [hl];exact (Zj.mp hi).1
  obtain ⟨u',hu, ru⟩:=rv.get (at_get hi2)
  rw [hi] at hu
  cases hu
  exact ru
 ·refine ⟨.int ns.sum,H,I.kept (h':=h') (t':=tk) fun b o e=>?_,⟨t',?_⟩, q⟩
  ·refine hk b o ?_ (Heap.get?_push_of_some _ e)
   simp only [Zn,List.not_mem_nil,or_false]
   exact Nat.ne_of_lt (Heap.lt_size e)
  ·rw [List.size_toArray,←hl,preSum_at0 ns _ (Nat.le_refl _),Yv]
end
end L2
namespace L2
open PySem PySem.Spec PyProof.Rows
section
variable {X:Cx}
end
end L2
namespace L2
open PySem PySem.Spec PyProof.Rows
section
variable {X:Cx}
theorem call_minL (hc:X.calm=true):CallR X (.builtin "min") (fun xs H Q=>∃ (p:Addr) (ns:List Int),xs=[.ref p]∧SqL X.K H p (ns.map V.int)∧0<ns.length∧∀ m:Int,m∈ns→(∀ x∈ns,m≤x)→Q (.int m) H):=by
 intro pins s σ H xs us Q I r h
 obtain ⟨p,ns,rfl,hq,h0, q⟩:=h
 obtain ⟨u,rfl, rx⟩:=vals1 r
 cases rx
 obtain ⟨its,rv,pl, hz⟩:=I.list hq
 have hl:=rv.length
 rw [Zq] at hl
 have hp:=plain_ne pl
 have hv:∀ (i:Nat) (v:Value),its.toArray[i]?=some v→∃ t,v=Value.int (at0 ns i) t:=fun i v hv=>by
  have hi:its[i]?=some v:=by simpa using hv
  have hi2:i<ns.length:=by rw [hl];exact (Zj.mp hi).1
  obtain ⟨u',hu, ru⟩:=rv.get (at_get hi2)
  rw [hi] at hu
  cases hu
  exact ru
 have hb:=argBest_lt (at0 ns) (its.toArray.size-1)
 refine call_min_walk (wpAny_pyIter_list pl.isList ?_)
 refine ⟨s.heap.objs.size,[s.heap.objs.size,p],[s.heap.objs.size],its.toArray.size,_,_,_,rfl,Walks.list (show X.A.in1.handled=none from I.ok.hd hc) _ p (Nat.ne_of_lt hp) its.toArray,listIter_st pl,fun b hb=>?_,by simp;omega,CmpOf.ints_lt (at0 ns) hv, fun v h' tk hP hk=>?_⟩
 ·have:=Heap.lt_size (Heap.get?_push_size s.heap (o:={ cls:=.type "list_iterator",data:=.fields #[.ref p,.int 0 0] }) rfl)
  simp only [Zn,List.not_mem_nil,or_false] at hb
  rcases hb with rfl | rfl
  ·exact this
  ·exact Nat.lt_trans hp this
 ·obtain ⟨t,rfl⟩:=hv _ _ hP
  have hsz:its.toArray.size=ns.length:=by simp [hl]
  refine ⟨.int _,H,I.kept (h':=h') (t':=tk) fun b o e=>?_,⟨t,rfl⟩, q _ (at0_mem (by omega)) fun x hx=>?_⟩
  ·refine hk b o ?_ (Heap.get?_push_of_some _ e)
   simp only [Zn,List.not_mem_nil,or_false]
   exact Nat.ne_of_lt (Heap.lt_size e)
  ·obtain ⟨i,hi, rfl⟩:=List.getElem_of_mem hx
   have:=hb.2 i (by omega)
   have e:at0 ns i=ns[i]:=by unfold at0;simp [List.getD,hi]
   rw [←e];exact this
theorem call_maxL (hc:X.calm=true):CallR X (.builtin "max") (fun xs H Q=>∃ (p:Addr) (ns:List Int),xs=[.ref p]∧SqL X.K H p (ns.map V.int)∧0<ns.length∧∀ m:Int,m∈ns→(∀ x∈ns,x≤m)→Q (.int m) H):=by
 intro pins s σ H xs us Q I r h
 obtain ⟨p,ns,rfl,hq,h0, q⟩:=h
 obtain ⟨u,rfl, rx⟩:=vals1 r
 cases rx
 obtain ⟨its,rv,pl, hz⟩:=I.list hq
 have hl:=rv.length
 rw [Zq] at hl
 have hp:=plain_ne pl
 have hv:∀ (i:Nat) (v:Value),its.toArray[i]?=some v→∃ t,v=Value.int (at0 ns i) t:=fun i v hv=>by
  have hi:its[i]?=some v:=by simpa using hv
  have hi2:i<ns.length:=by rw [hl];exact (Zj.mp hi).1
  obtain ⟨u',hu, ru⟩:=rv.get (at_get hi2)
  rw [hi] at hu
  cases hu
  exact ru
 have hb:=argBest_gt (at0 ns) (its.toArray.size-1)
 refine call_max_walk (wpAny_pyIter_list pl.isList ?_)
 refine ⟨s.heap.objs.size,[s.heap.objs.size,p],[s.heap.objs.size],its.toArray.size,_,_,_,rfl,Walks.list (show X.A.in1.handled=none from I.ok.hd hc) _ p (Nat.ne_of_lt hp) its.toArray,listIter_st pl,fun b hb=>?_,by simp;omega,CmpOf.ints_gt (at0 ns) hv, fun v h' tk hP hk=>?_⟩
 ·have:=Heap.lt_size (Heap.get?_push_size s.heap (o:={ cls:=.type "list_iterator",data:=.fields #[.ref p,.int 0 0] }) rfl)
  simp only [Zn,List.not_mem_nil,or_false] at hb
  rcases hb with rfl | rfl
  ·exact this
  ·exact Nat.lt_trans hp this
 ·obtain ⟨t,rfl⟩:=hv _ _ hP
  have hsz:its.toArray.size=ns.length:=by simp [hl]
  refine ⟨.int _,H,I.kept (h':=h') (t':=tk) fun b o e=>?_,⟨t,rfl⟩, q _ (at0_mem (by omega)) fun x hx=>?_⟩
  ·refine hk b o ?_ (Heap.get?_push_of_some _ e)
   simp only [Zn,List.not_mem_nil,or_false]
   exact Nat.ne_of_lt (Heap.lt_size e)
  ·obtain ⟨i,hi, rfl⟩:=List.getElem_of_mem hx
   have:=hb.2 i (by omega)
   have e:at0 ns i=ns[i]:=by unfold at0;simp [List.getD,hi]
   rw [←e];exact this
end
end L2
namespace L2
open PySem PySem.Spec PyProof.Rows
section
variable {X:Cx}
end
end L2
namespace L2
open PySem PySem.Spec PyProof.Rows
section
variable {κ:Type} [DecidableEq κ]
def valV (kvs:List (κ×V)) (k:κ):Option V:=(kvs.find? fun kv=>decide (kv.1=k)).map (·.2)
def putK (kvs:List (κ×V)) (k:κ) (v:V):List (κ×V) :=
 if (kvs.any fun kv=>decide (kv.1=k))=true then kvs.map (fun kv=>if kv.1=k then (kv.1,v) else kv) else kvs++[(k,v)]
theorem valV_pos {p:κ×V} {r:List (κ×V)} {k:κ} (e:p.1=k):valV (p::r) k=some p.2:=by simp [valV,List.find?_cons,e]
theorem valV_neg {p:κ×V} {r:List (κ×V)} {k:κ} (e:¬p.1=k):valV (p::r) k=valV r k:=by simp [valV,List.find?_cons,e]
theorem valV_any (k:κ):∀ kvs:List (κ×V),(kvs.any fun kv=>decide (kv.1=k))=(valV kvs k).isSome
 | []=>rfl
 | p::r=>by
  rw [List.any_cons]
  by_cases e:p.1=k
  ·simp only [valV_pos e,decide_eq_true e,Bool.true_or,Option.isSome_some]
  ·rw [valV_neg e,decide_eq_false e,Bool.false_or];exact valV_any k r
theorem valV_map (k j:κ) (y:V):∀ kvs:List (κ×V),valV (kvs.map fun kv=>if kv.1=k then (kv.1,y) else kv) j=(valV kvs j).map fun x=>if j=k then y else x
 | []=>rfl
 | p::r=>by
  have ih:=valV_map k j y r
  rw [List.map_cons]
  by_cases h:p.1=k
  ·rw [if_pos h]
   by_cases e:p.1=j
   ·rw [valV_pos (p:=(p.1,y)) e,valV_pos e,Option.map_some,if_pos (e.symm.trans h)]
   ·rw [valV_neg (p:=(p.1,y)) e,valV_neg e,ih]
  ·rw [if_neg h]
   by_cases e:p.1=j
   ·rw [valV_pos (p:=p) e,valV_pos e,Option.map_some,if_neg (fun z=>h (e.trans z))]
   ·rw [valV_neg (p:=p) e,valV_neg e,ih]
theorem valV_snoc (k j:κ) (y:V):∀ kvs:List (κ×V),valV kvs k=none→valV (kvs++[(k,y)]) j=if j=k then some y else valV kvs j
 | [],_=>by
  by_cases e:k=j
  ·rw [if_pos e.symm];exact valV_pos (p:=(k,y)) e
  ·rw [if_neg (fun z=>e z.symm)];exact valV_neg (p:=(k,y)) e
 | p::r,hn=>by
  rw [List.cons_append]
  have hk:¬p.1=k:=fun z=>by rw [valV_pos z] at hn;cases hn
  rw [valV_neg hk] at hn
  have ih:=valV_snoc k j y r hn
  by_cases e:p.1=j
  ·rw [valV_pos e,valV_pos e,if_neg (fun z=>hk (e.trans z))]
  ·rw [valV_neg e,valV_neg e,ih]
theorem valV_put (kvs:List (κ×V)) (k j:κ) (y:V):valV (putK kvs k y) j=if j=k then some y else valV kvs j:=by
 unfold putK
 by_cases a:(kvs.any fun kv=>decide (kv.1=k))=true
 ·rw [if_pos a,valV_map]
  rw [valV_any] at a
  by_cases e:j=k
  ·obtain ⟨x,hx⟩:=Option.isSome_iff_exists.mp a
   rw [if_pos e,e,hx,Option.map_some,if_pos rfl]
  ·rw [if_neg e]
   cases valV kvs j with
   | none=>rfl
   | some x=>rw [Option.map_some,if_neg e]
 ·rw [if_neg a]
  refine valV_snoc k j y kvs ?_
  rw [valV_any] at a
  cases q:valV kvs k with
  | none=>rfl
  | some x=>rw [q] at a;exact (a rfl).elim
theorem length_putK (kvs:List (κ×V)) (k:κ) (v:V):(putK kvs k v).length≤kvs.length+1:=by
 unfold putK
 split
 ·rw [Zq];omega
 ·rw [Zm,Yq,List.length_nil];omega
theorem RelO.isSome_eq {o:Option V} {u:Option Value} (r:RelO o u):o.isSome=u.isSome:=by
 cases o with
 | none=>cases u with
  | none=>rfl
  | some _=>exact (show False from r).elim
 | some _=>cases u with
  | none=>exact (show False from r).elim
  | some _=>rfl
theorem RelO.getD {o:Option V} {u:Option Value} {d:V} {d':Value} (r:RelO o u) (rd:RelV d d'):RelV (o.getD d) (u.getD d'):=by
 cases o with
 | none=>cases u with
  | none=>exact rd
  | some _=>exact (show False from r).elim
 | some _=>cases u with
  | none=>exact (show False from r).elim
  | some _=>exact r
theorem KV.val {kvs:List (κ×V)} {vs:List (κ×Value)} (r:KV kvs vs) (k:κ):RelO (valV kvs k) (valueAt vs k):=by
 unfold KV at r
 induction r with
 | nil=>exact True.intro
 | @cons p q ps qs h t ih =>
  obtain ⟨h1,h2⟩:=h
  by_cases e:p.1=k
  ·have e':q.1=k:=h1.symm.trans e
   have b:valueAt (q::qs) k=some q.2:=by simp [valueAt,List.find?_cons,e']
   rw [valV_pos e,b];exact h2
  ·have e':¬q.1=k:=fun z=>e (h1.trans z)
   have b:valueAt (q::qs) k=valueAt qs k:=by simp [valueAt,List.find?_cons,e']
   rw [valV_neg e,b];exact ih
theorem KV.any {kvs:List (κ×V)} {vs:List (κ×Value)} (r:KV kvs vs) (k:κ):(kvs.any fun kv=>decide (kv.1=k))=vs.any fun kv=>decide (kv.1=k):=by
 unfold KV at r
 induction r with
 | nil=>rfl
 | cons h t ih=>rw [List.any_cons,List.any_cons,ih,h.1]
theorem KV.repl {kvs:List (κ×V)} {vs:List (κ×Value)} (r:KV kvs vs) (k:κ) {y:V} {u:Value} (ry:RelV y u) :
  KV (kvs.map fun kv=>if kv.1=k then (kv.1,y) else kv) (vs.map fun kv=>if kv.1=k then (kv.1,u) else kv):=by
 unfold KV at r ⊢
 induction r with
 | nil=>exact .nil
 | @cons p q ps qs h t ih =>
  rw [List.map_cons,List.map_cons]
  refine .cons ?_ ih
  obtain ⟨h1,h2⟩:=h
  by_cases e:p.1=k
  ·rw [if_pos e,if_pos (h1.symm.trans e)];exact ⟨h1,ry⟩
  ·rw [if_neg e,if_neg (fun z=>e (h1.trans z))];exact ⟨h1,h2⟩
theorem KV.put {kvs:List (κ×V)} {vs:List (κ×Value)} (r:KV kvs vs) (k:κ) {y:V} {u:Value} (ry:RelV y u):KV (putK kvs k y) (stored vs k u):=by
 unfold putK stored
 rw [r.any k]
 by_cases e:(vs.any fun kv=>decide (kv.1=k))=true
 ·rw [if_pos e,if_pos e];exact r.repl k ry
 ·rw [if_neg e,if_neg e];exact Paired.snoc r ⟨rfl,ry⟩
theorem KV.length {kvs:List (κ×V)} {vs:List (κ×Value)} (r:KV kvs vs):kvs.length=vs.length:=Paired.length r
end
theorem kV_is {P:Program} {w:World} {k:Key} {u:Value} (r:RelV (kV k) u):(mixKind P w).is k u=true:=by
 cases k with
 | inl i=>obtain ⟨t,e⟩:=(show ∃ t,u=Value.int i t from r);subst e;exact mixKind_int P w i t
 | inr x=>obtain ⟨t,e⟩:=(show ∃ t,u=Value.str x t from r);subst e;exact mixKind_str P w x t
theorem items_are {P:Program} {w:World}:∀ {ks:List Key} {us:List Value},Vals (ks.map kV) us→ItemsAre (mixKind P w) ks us
 | [],_,r=>by rw [List.map_nil] at r;cases r;exact .nil
 | k::ks,_,r=>by
  rw [List.map_cons] at r
  cases r with
  | cons h t=>exact .cons (kV_is h) (items_are t)
abbrev KT (H:Hp):List (List Key×V)→List (List Key×Addr×Value)→Prop:=Paired fun p q=>p.1=q.1∧H q.2.1=some (.tup (p.1.map kV))∧RelV p.2 q.2.2
theorem KT.val {H:Hp} {kvs:List (List Key×V)} {xs:List (List Key×Addr×Value)} (r:KT H kvs xs) (k:List Key):RelO (valV kvs k) ((atKey xs k).map (·.2)):=by
 induction r with
 | nil=>exact True.intro
 | @cons p q ps qs h t ih =>
  obtain ⟨h1,_, h2⟩:=h
  by_cases e:p.1=k
  ·have e':q.1=k:=h1.symm.trans e
   have b:atKey (q::qs) k=some q.2:=by simp [atKey,List.find?_cons,e']
   rw [valV_pos e,b];exact h2
  ·have e':¬q.1=k:=fun z=>e (h1.trans z)
   have b:atKey (q::qs) k=atKey qs k:=by simp [atKey,List.find?_cons,e']
   rw [valV_neg e,b];exact ih
theorem KT.repl {H:Hp} {kvs:List (List Key×V)} {xs:List (List Key×Addr×Value)} (r:KT H kvs xs) (k:List Key) {y:V} {u:Value} (ry:RelV y u) :
  KT H (kvs.map fun kv=>if kv.1=k then (kv.1,y) else kv) (xs.map (putAt k u)):=by
 induction r with
 | nil=>exact .nil
 | @cons p q ps qs h t ih =>
  rw [List.map_cons,List.map_cons]
  refine .cons ?_ ih
  obtain ⟨h1,h2, h3⟩:=h
  unfold putAt
  by_cases e:p.1=k
  ·rw [if_pos e,if_pos (h1.symm.trans e)];exact ⟨h1,h2, ry⟩
  ·rw [if_neg e,if_neg (fun z=>e (h1.trans z))];exact ⟨h1,h2, h3⟩
theorem KT.put {H:Hp} {kvs:List (List Key×V)} {xs:List (List Key×Addr×Value)} (r:KT H kvs xs) (k:List Key) {b:Addr} {y:V} {u:Value} (hb:H b=some (.tup (k.map kV))) (ry:RelV y u) :
  KT H (putK kvs k y) (storedH xs k b u):=by
 have e:(kvs.any fun kv=>decide (kv.1=k))=(atKey xs k).isSome:=by
  rw [valV_any,(r.val k).isSome_eq,Option.isSome_map]
 unfold putK storedH
 rw [e]
 by_cases q:(atKey xs k).isSome=true
 ·rw [if_pos q,if_pos q];exact r.repl k ry
 ·rw [if_neg q,if_neg q];exact Paired.snoc r ⟨rfl,hb, ry⟩
theorem KT.keeps {H H':Hp} {kvs:List (List Key×V)} {xs:List (List Key×Addr×Value)} (r:KT H kvs xs) (ht:∀ b ys,H b=some (.tup ys)→H' b=some (.tup ys)):KT H' kvs xs :=
 Paired.mapP r fun _ _ z=>⟨z.1,ht _ _ z.2.1, z.2.2⟩
section
variable {P:Program} {w:World} {H:Hp} {h:Heap} {a:Addr}
theorem rd_of {u:HO} (ok:HOk P w H h) (e:Rd H a u):ObjOk P w H h a u:=e.ok ok
theorem dk_rd {kvs:List (Key×V)} (ok:HOk P w H h) (e:Rd H a (.dK kvs)):kvs.length≤sizeLine∧(a==sysModules)=false∧∃ vs,KV kvs vs∧h.DictOf (mixKind P w) a vs :=
 show ObjOk P w H h a (.dK kvs) from rd_of ok e
theorem dk_of {kvs:List (Key×V)} (ok:HOk P w H h) (e:H a=some (.dK kvs)):kvs.length≤sizeLine∧(a==sysModules)=false∧∃ vs,KV kvs vs∧h.DictOf (mixKind P w) a vs:=dk_rd ok (.inl e)
theorem key_of {ks:List Key} (ok:HOk P w H h) (e:H a=some (.tup (ks.map kV))):(tupleKind (mixKind P w)).is h ks a:=by
 obtain ⟨_,its,r,o,h1,h2,n, h3⟩:=(show ObjOk P w H h a (.tup (ks.map kV)) from ok a _ e)
 exact ⟨o,its.toArray,n,h1,h2,h3, by simpa using items_are r⟩
theorem dt_rd {kvs:List (List Key×V)} (ok:HOk P w H h) (e:Rd H a (.dT kvs)):kvs.length≤sizeLine∧(a==sysModules)=false ∧
  ∃ xs,KT H kvs xs∧h.DictOfH (tupleKind (mixKind P w)) a xs:=by
 obtain ⟨z,y,xs,r,o,es,ep,h1,h2,h3,h4, h5⟩:=(show ObjOk P w H h a (.dT kvs) from rd_of ok e)
 refine ⟨z,y,xs,r,o,es,ep,h1,h2,h3,h4,fun x hx=>?_, h5⟩
 have all:∀ {l:List (List Key×V)} {m:List (List Key×Addr×Value)},KT H l m→∀ x∈m,(tupleKind (mixKind P w)).is h x.1 x.2.1:=by
  intro l m q
  induction q with
  | nil=>intro x hx;exact nomatch hx
  | @cons p q ps qs hq t ih =>
   intro x hx
   rcases Zn.mp hx with e | hx
   ·subst e
    exact key_of ok (by rw [←hq.1];exact hq.2.1)
   ·exact ih x hx
 exact all r x hx
theorem dt_of {kvs:List (List Key×V)} (ok:HOk P w H h) (e:H a=some (.dT kvs)):kvs.length≤sizeLine∧(a==sysModules)=false ∧
  ∃ xs,KT H kvs xs∧h.DictOfH (tupleKind (mixKind P w)) a xs:=dt_rd ok (.inl e)
end
def DGet (H:Hp) (a:Addr) (y:V) (r:Option V):Prop :=
 (∃ kvs k,Rd H a (.dK kvs)∧y=kV k∧r=valV kvs k)∨∃ kvs k b,Rd H a (.dT kvs)∧y=.ref b∧H b=some (.tup (k.map kV))∧r=valV kvs k
def DPut (H:Hp) (a:Addr) (y v:V) (H':Hp):Prop :=
 (∃ kvs k,H a=some (.dK kvs)∧y=kV k∧kvs.length<sizeLine∧H'=upd H a (.dK (putK kvs k v))) ∨
 ∃ kvs k b,H a=some (.dT kvs)∧y=.ref b∧H b=some (.tup (k.map kV))∧kvs.length<sizeLine∧H'=upd H a (.dT (putK kvs k v))
theorem DGet.t {H:Hp} {a b:Addr} {kvs:List (List Key×V)} {k:List Key} (e:H a=some (.dT kvs)) (eb:H b=some (.tup (k.map kV))):DGet H a (.ref b) (valV kvs k):=.inr ⟨kvs,k,b,.inl e,rfl,eb, rfl⟩
theorem DPut.t {H:Hp} {a b:Addr} {kvs:List (List Key×V)} {k:List Key} {v:V} (e:H a=some (.dT kvs)) (eb:H b=some (.tup (k.map kV))) (hl:kvs.length<sizeLine) :
  DPut H a (.ref b) v (upd H a (.dT (putK kvs k v))):=.inr ⟨kvs,k,b,e,rfl,eb,hl, rfl⟩
section
variable {X:Cx} {pins:List (Addr×Obj)} {σ:St} {H:Hp} {s:Shared} {a:Addr} {y v:V} {u r:Value} {o:Option V} {A:Around} {E:Value→Shared→Prop}
theorem Inv.big (I:Inv X pins σ H s):sysModules<s.heap.objs.size:=by
 have h:mainGlobals<s.heap.objs.size:=(I.mod.glob.keeps I.bk).lt
 exact Nat.lt_trans (by decide) h
theorem d_write {h':Heap} {t':Nat} {ob:HO} (I:Inv X pins σ H s) (mu:Mut (H a)) (hs:Heap.SameBut a s.heap h') (he:∃ q,h'.get? a=some q) (new:ObjOk X.prog X.w (upd H a ob) h' a ob) :
  Inv X pins σ (upd H a ob) { s with heap:=h',toks:=t' } :=
 I.write (x:=a) (e:=a) mu (.inl rfl) (fun b q hb z=>(hs.2 b hb).trans z) he new
theorem dk_new {P:Program} {w:World} {H':Hp} {h':Heap} {kvs:List (Key×V)} {vs:List (Key×Value)} (z:kvs.length≤sizeLine) (hd:(a==sysModules)=false) (rel:KV kvs vs) (dd:h'.DictOf (mixKind P w) a vs) :
  ObjOk P w H' h' a (.dK kvs):=⟨z,hd,vs,rel, dd⟩
theorem d_setItem {H':Hp} {Q:Unit→Shared→Prop} (hu:A.units+1<cLine) (I:Inv X pins σ H s) (g:DPut H a y v H') (ry:RelV y u) (rv:RelV v r) (h:∀ s',Inv X pins σ H' s'→Q () s') :
  wpAny (model X.prog X.w) A (setItem (.ref a) u r) Q E s:=by
 rcases g with ⟨kvs,k,e,ey,l, eH⟩ | ⟨kvs,k,b,e,ey,eb,l, eH⟩
 ·subst ey eH
  obtain ⟨z,hd,vs,rel, dd⟩:=dk_of I.hok e
  have hz:vs.length≤sizeLine:=by rw [←rel.length];exact z
  have hl:(putK kvs k v).length≤sizeLine:=by have:=length_putK kvs k v;omega
  refine wpAny_setItem_pairs (hsz:=hz) (kV_is ry) dd fun h' dd' hs=>h _ ?_
  have he:∃ q,h'.get? a=some q:=let ⟨q,_,_,hq,_⟩:=dd';⟨q,hq⟩
  exact d_write I (by rw [e];exact True.intro) hs he (dk_new hl hd (rel.put k rv) dd')
 ·subst ey eH
  cases (show u=Value.ref b from ry)
  obtain ⟨z,hd,xs,rel, dd⟩:=dt_of I.hok e
  have hz:xs.length≤sizeLine:=by rw [←Paired.length rel];exact z
  have hl:(putK kvs k v).length≤sizeLine:=by have:=length_putK kvs k v;omega
  refine wpAny_setItem_heap (hsz:=hz) (tupleKind_room_in1 hu) (key_of I.hok eb) dd fun h' dd' hs=>h _ ?_
  obtain ⟨q,es,ep,hq,h2,h3,h4,_, h5⟩:=dd'
  refine d_write I (by rw [e];exact True.intro) hs ⟨q,hq⟩ ⟨hl,hd,_,(rel.put k eb rv).keeps fun c ys ec=>?_,q,es,ep,hq,h2,h3,h4, h5⟩
  rw [upd_ne (ne_of ec e (fun z=>nomatch z))]
  exact ec
end
section
variable {X:Cx} {pins:List (Addr×Obj)} {σ:St} {H:Hp} {s:Shared} {a:Addr} {kvs:List (Key×V)} {k:Key} {u:Value} {A:Around} {E:Value→Shared→Prop}
end
def sDPut (td ty tv:TE):TS:=fun D σ H=>tv σ H fun v H1=>td σ H1 fun x H2=>ty σ H2 fun y H3=>∃ a H4,x=.ref a∧DPut H3 a y v H4∧D.nx σ H4
section
variable {X:Cx} {o i e value:Expr} {pos pos' tpos:Pos} {td ty tv:TE}
theorem ps_dput (hu:X.A.units+1<cLine) (ho:PE X o td) (hi:PE X i ty) (hv:PE X value tv) (hs:swapsWith value (some (.Subscript o i pos')) pos.line X.env=pure false) :
  PS X (.Assign [.Subscript o i pos'] value pos) (sDPut td ty tv):=by
 intro pins s σ H D I h
 refine wpAny_Assign_Subscript (thn (hv pins s σ H _ I h) fun r s1 ⟨v,H1,I1,rv,q1⟩=>thn (ho pins s1 σ H1 _ I1 q1) fun u s2 ⟨x,H2,I2,rx,q2⟩=>thn (hi pins s2 σ H2 _ I2 q2) fun iv s3 ⟨y,H3,I3,ry,a,H4,ex,g,q3⟩=>?_) hs
 subst ex
 obtain rfl:u=Value.ref a:=rx
 exact d_setItem hu I3 g ry rv fun s4 I4=>⟨σ,H4,I4, q3⟩
end
theorem dt_empty {P:Program} {w:World} {H:Hp} (h:Heap) (hb:sysModules<h.objs.size):ObjOk P w H (h.push { cls:=.type "dict",data:=.dict #[] }) h.objs.size (.dT []) :=
 ⟨Nat.zero_le _,beq_eq_false_iff_ne.mpr (Ne.symm (Nat.ne_of_lt hb)),[],.nil,_,#[],0,Heap.get?_push_size _ rfl,⟨rfl,rfl, rfl⟩,rfl,rfl, List.nodup_nil⟩
def tDNewT:TE:=fun _ H Q=>∀ p,H p=none→Q (.ref p) (upd H p (.dT []))
section
variable {X:Cx} {pos:Pos}
theorem pe_dnewT:PE X (.Dict [] [] pos) tDNewT:=fun pins s σ H Q I h =>
 wpAny_Dict_empty ⟨.ref s.heap.objs.size,_,I.laid (a:=s.heap.objs.size) (o:=.dT []) (t':=s.toks) (fun _ _ q=>Heap.get?_push_of_some _ q) (Nat.le_refl _) (dt_empty s.heap I.big),rfl, h _ (I.hok.fresh (Nat.le_refl _))⟩
end
end L2
namespace L2
open PySem PySem.Spec PyProof.Rows
theorem pick_back (its:List Value):∀ k,k≤its.length→((List.range k).map fun j:Nat=>(((its.length:Int)-1)+-1*(j:Int)).toNat).filterMap (its.toArray[·]?)=its.reverse.take k
 | 0,_=>by simp
 | k+1,h=>by
  have e:(((its.length:Int)-1)+-1*(k:Int)).toNat=its.length-1-k:=by omega
  have hk:its.length-1-k<its.length:=by omega
  rw [List.range_succ,Zt,List.filterMap_append,pick_back its k (by omega),List.take_add_one,Yh (by omega)]
  congr 1
  simp only [List.map_cons,List.map_nil,e]
  rw [Zz hk]
  simp [hk]
theorem slicePick_rev (its:List Value):slicePick its.toArray none none (some (-1))=its.reverse.toArray:=by
 have hb:sliceBounds none none (some (-1)) its.toArray.size=((its.length:Int)-1,-1,-1):=by
  simp only [sliceBounds,Option.getD_some,List.size_toArray,show ¬((-1:Int)>0) by decide,if_false]
 have hs:sliceRange ((its.length:Int)-1) (-1) (-1)=(List.range its.length).map fun j:Nat=>(((its.length:Int)-1)+-1*(j:Int)).toNat:=by
  unfold sliceRange
  simp only [show ¬((-1:Int)>0) by decide,if_false]
  have e:(if (its.length:Int)-1 > -1 then ((its.length:Int)-1 - -1 - -1-1) / - -1 else 0)=(its.length:Int):=by
   split
   ·have:((its.length:Int)-1 - -1 - -1-1)=(its.length:Int):=by omega
    rw [this,show (- -1:Int)=1 by decide,Int.ediv_one]
   ·omega
  rw [e,Int.toNat_natCast]
 unfold slicePick
 rw [hb]
 show ((sliceRange ((its.length:Int)-1) (-1) (-1)).filterMap (its.toArray[·]?)).toArray=_
 rw [hs,pick_back its _ (Nat.le_refl _),List.take_of_length_le (by simp)]
theorem slicePick_rev1 (its:List Value):slicePick its.toArray none (some 0) (some (-1))=(its.drop 1).reverse.toArray:=by
 have hb:sliceBounds none (some 0) (some (-1)) its.toArray.size=((its.length:Int)-1,max (-1) (min 0 ((its.length:Int)-1)),-1):=by
  simp only [sliceBounds,Option.getD_some,List.size_toArray,show ¬((-1:Int)>0) by decide,if_false,show ¬((0:Int)<0) by decide]
 have hs:sliceRange ((its.length:Int)-1) (max (-1) (min 0 ((its.length:Int)-1))) (-1)=(List.range (its.length-1)).map fun j:Nat=>(((its.length:Int)-1)+-1*(j:Int)).toNat:=by
  unfold sliceRange
  simp only [show ¬((-1:Int)>0) by decide,if_false]
  have e:(if (its.length:Int)-1>max (-1) (min 0 ((its.length:Int)-1)) then ((its.length:Int)-1-max (-1) (min 0 ((its.length:Int)-1)) - -1-1) / - -1 else 0)=((its.length-1:Nat):Int):=by
   rw [show (- -1:Int)=1 by decide]
   split
   ·rw [Int.ediv_one];omega
   ·omega
  rw [e,Int.toNat_natCast]
 unfold slicePick
 rw [hb]
 show ((sliceRange ((its.length:Int)-1) (max (-1) (min 0 ((its.length:Int)-1))) (-1)).filterMap (its.toArray[·]?)).toArray=_
 rw [hs,pick_back its _ (by omega),List.reverse_drop]
section
variable {X:Cx} {e ste:Expr} {te:TE} {lo hi:Option Expr} {tl th tk:TO} {pos p2:Pos}
def rSlB (K:PySem.W.Frag):V→Option Int→Option Int→Option Int→Hp→VK→Prop:=fun x lo hi st H Q=>∃ a xs k,x=.ref a∧SqL K H a xs∧lo=none∧st=some (-1)∧((hi=none∧k=0)∨(hi=some 0∧k=1))∧∀ p,H p=none→Q (.ref p) (upd H p (.lst (xs.drop k).reverse))
def tSlB (K:PySem.W.Frag) (te:TE) (tl th tk:TO):TE:=fun σ H Q=>te σ H fun x H1=>tl σ H1 fun l H2=>th σ H2 fun u H3=>tk σ H3 fun k H4=>rSlB K x l u k H4 Q
theorem pe_sliceR (he:PE X e te) (hl:PO X lo tl) (hu:PO X hi th) (hk:PO X (some ste) tk):PE X (.Subscript e (.Slice lo hi (some ste) p2) pos) (tSlB X.K te tl th tk):=by
 intro pins s σ H Q I h
 refine Subscript_ (thn (he pins s σ H _ I h) fun v s1 ⟨x,H1,I1,r1,q1⟩=>?_)
 refine wpAny_Slice (thn (hl pins s1 σ H1 _ I1 q1) fun vl s2 ⟨l,H2,I2,pl,q2⟩=>thn (hu pins s2 σ H2 _ I2 q2) fun vu s3 ⟨u,H3,I3,pu,q3⟩=>thn (hk pins s3 σ H3 _ I3 q3) fun vk s4 ⟨k,H4,I4,pk,q4⟩=>?_)
 have I5:Inv X pins σ H4 { s4 with heap:=s4.heap.push { cls:=.type "slice",data:=.fields #[vl,vu,vk] } }:=I4.kept (t':=s4.toks) fun b ob q=>Heap.get?_push_of_some _ q
 obtain ⟨a,xs,n,rfl,hx,rfl,rfl,hh, q⟩:=q4
 cases r1
 obtain ⟨its,r,ht, hz⟩:=I5.list hx
 have hlen:=r.length
 show wpAny (model X.prog X.w) X.A (subscriptTail e (.Slice lo hi (some ste) p2) (.ref a) (.ref s4.heap.objs.size)) (EP X pins σ Q) X.xe { s4 with heap:=s4.heap.push { cls:=.type "slice",data:=.fields #[vl,vu,vk] } }
 refine tail_any (ops:=[.ref a,.ref s4.heap.objs.size]) ht.isList.typeIs slot_list_getitem.lookup (wpAny_getItem_list_slice ht.isList (Heap.IsSliceOf.new ..) pl pu pk (by simp) ?_ (by rw [List.size_toArray]<;>omega)) (by with_unfolding_all rfl)
 have eq:slicePick its.toArray none u (some (-1))=((its.drop n).reverse).toArray:=by
  rcases hh with ⟨rfl,rfl⟩ | ⟨rfl,rfl⟩
  ·rw [slicePick_rev,List.drop_zero]
  ·exact slicePick_rev1 its
 rw [eq]
 refine ⟨.ref _,_,I5.laid (o:=.lst (xs.drop n).reverse) (fun b ob q=>Heap.get?_push_of_some _ q) (Nat.le_refl _) ?_,rfl, q _ (I5.hok.fresh (Nat.le_refl _))⟩
 exact ⟨by rw [Yp,Yd];omega,_,0,(r.drop n).reverse, Heap.get?_push_size _ rfl⟩
end
end L2
namespace L2
open PySem PyProof.Rows
end L2
namespace L2
open PySem PySem.Spec PyProof.Rows
section
variable {P:Program} {w:World} {H H':Hp} {h h':Heap} {a:Addr} {o:HO}
theorem ObjOk.here (x:ObjOk P w H h a o):∃ u,h.get? a=some u:=by
 cases o with
 | lst xs=>exact let ⟨_,_,_,_,e⟩:=x;⟨_,e⟩
 | tup xs=>exact let ⟨_,_,_,_,e,_⟩:=x;⟨_,e⟩
 | dK kvs=>exact let ⟨_,_,_,_,_,_,_,e,_⟩:=x;⟨_,e⟩
 | dT kvs=>exact let ⟨_,_,_,_,_,_,_,e,_⟩:=x;⟨_,e⟩
 | set S n=>exact let ⟨_,_,_,_,e,_⟩:=x;⟨_,e⟩
 | ins C dx fs=>exact let ⟨_,_,_,e,_⟩:=x;⟨_,e⟩
 | own y=>exact x
 | xd fs=>obtain ⟨_,h1, _⟩:=x;obtain ⟨_,_,_,e, _⟩:=h1;exact ⟨_,e⟩
 | rng lo hi=>exact let ⟨_,_,_,e⟩:=x;⟨_,e⟩
 | frz ob u=>exact ⟨_,x.1⟩
 | tbl ps=>exact ⟨_,(show h.get? a=some _ from x)⟩
 | met f y=>exact ⟨_,(show h.get? a=some _ from x)⟩
 | ext φ=>exact x.2.1
theorem HOk.gone (x:HOk P w H h) (e:h.get? a=none):H a=none:=by
 cases q:H a with
 | none=>rfl
 | some o =>
  obtain ⟨u,z⟩:=(x a o q).here
  rw [e] at z
  cases z
theorem HOk.hid {fs:List Addr} (x:HOk P w H h) (n:∀ b∈fs,H b=none):HOk P w H (PySem.W.hideAll h fs):=fun a o e=>by
 refine (x a o e).stay (fun b u hb q=>PySem.W.hideAll_get fs q fun m=>?_) (fun _ q=>q) fun _ _ q=>q
 have z:=n b m
 rcases hb with rfl | hb
 ·rw [z] at e;cases e
 ·rw [z] at hb;cases hb
end
def CXr (P:Program) (w:World) (C:Addr):CXT:=fun outer H s E e s' =>
 ∃ (x:Addr) (a0:Value) (B:Heap) (H':Hp),e=.ref x∧s'.os=s.os∧AllBare s'.gens∧Un (frs outer) [] H H' s.heap s'.heap ∧
  (∀ b o,s.heap.get? b=some o→H b=none→b∉frs outer→B.get? b=some o)∧(∀ b o,s.heap.get? b=some o→b∉frs outer→∃ u,B.get? b=some u)∧HOk P w H' B∧Heap.FlyingW B outer x (.ref C) a0 s'.heap∧E e none H'
theorem exc_at {K:PySem.W.Frag} {h:Heap} {C:Addr} {bmB:List Value} {newId:String} (X:K.In h) (q:PySem.W.excIn K C bmB newId=true) :
  ∃ bm N nm qn bs hdct sn sub ab col dd k0 k1 k2 k3 k5 mN,h.get? C=some (excClassObj nm qn C N bs bm hdct sn sub ab col dd k0 k1 k2 k3 k5 newId)∧h.Ns N mN∧mN "__init__" = none∧OwnTail h bmB bm:=by
 unfold PySem.W.excIn at q
 split at q
 ·rename_i dd cd sl ho
  split at q
  ·rename_i C' bm k0 k1 k2 k3 n k5 hm hs
   simp only [Xv,beq_iff_eq,Bool.not_eq_true'] at q
   obtain ⟨⟨⟨⟨⟨e1,e2⟩,e3⟩,e4⟩,e5⟩,e6⟩:=q
   subst e1
   subst e2
   cases cd with
   | mk nm bs mro ns qn hd sn sub ab col del =>
    cases sl with
    | mk l =>
     change mro=_ at hm
     change l=_ at hs
     change del=false at e3
     cases hm
     cases hs
     cases e3
     refine ⟨bm,ns,nm,qn,bs,hd,sn,sub,ab,col,dd,k0,k1,k2,k3,k5,h.nsMap ns,?_,?_,?_, PySem.W.tail_of_in X e4⟩
     ·exact X _ _ ho
     ·exact Heap.Ns.of_isNs (PySem.W.isNs_of_in X e5)
     ·exact PySem.W.nsMap_none_of_in X e5 e6
  ·cases q
 ·cases q
def tRaise (E:XK):TS:=fun _ _ H=>∀ x:Addr,E (.ref x) none H
section
variable {P:Program} {w:World} {K:PySem.W.Frag} {mg:Str→Option Value} {base:Heap} {N:List Str} {qual:Str} {scope:Scope} {f C:Addr} {cd:Value} {A:Around} {outer:List Env} {s₀:Shared} {H₀:Hp} {E:XK}
 {x:Str} {Bs newId initId:String} {bm:List Value} {np cpos pos p:Pos} {msg:Str} {j:Nat}
theorem ps_raise (O:PySem.W.excIn K C bm newId=true) (FB:ExcBaseFacts Bs newId initId bm) (hm:mg x=some (.ref C)) (hg:scope.names.lookup x=some .globalImplicit:=by rfl) (hd:(x==("__debug__" : Str))=false:=by decide) :
  PS (cxOf (CXr P w C) P w K mg base N qual scope f cd A outer s₀ H₀ E) (.Raise (some (.Call (.Name x np) [.Constant (.str msg) j p] [] cpos)) none pos) (tRaise E):=by
 intro pins s σ H D I h
 obtain ⟨bm',N',nm,qn,bs,hdct,sn,sub,ab,col,dd,k0,k1,k2,k3,k5,mN,hC,hN,hni, T⟩:=exc_at I.ok.mod.kin O
 refine wpAny_Raise_call_subT (nm:=nm) (q:=qn) (C:=C) (N:=N') (bs:=bs) (bm:=bm') (hdct:=hdct) (sn:=sn) (sub:=sub) (ab:=ab) (col:=col) (dd:=dd)
  (k0:=k0) (k1:=k1) (k2:=k2) (k3:=k3) (k5:=k5) FB (T.hasType FB.hasBase) (I.ok.hd rfl) rfl hni (ld_glob I hg hm ⟨rfl,?_⟩ hd)
 refine Calls.evalArgs_plain (thn ((pa_cons pe_str pa_nil:PA _ [.Constant (.str msg) j p] _) cpos pins s σ H (fun vs H1=>vs.length=1∧H1=H) I ⟨rfl,rfl⟩) ?_)
 rintro us s2 ⟨vs,H2,I2,r,hl, rfl⟩
 refine ⟨rfl,?_,I2.bk C _ hC,hN.keeps I2.bk,T.keeps I2.bk, fun h' e hx=>?_⟩
 ·show us.length≤sizeLine
  rw [←r.length,hl];decide
 ·have hst:s2.heap.FunFrames base (envOfC qual scope s₀.heap.objs.size f cd::outer):=I2.stack
  have hin:∀ env∈envOfC qual scope s₀.heap.objs.size f cd::outer,∀ b,env.frame=some b→b∈frs (envOfC qual scope s₀.heap.objs.size f cd::outer):=fun env he b hb=>List.mem_filterMap.mpr ⟨env,he, hb⟩
  have hfree:∀ b∈frs (envOfC qual scope s₀.heap.objs.size f cd::outer),H2 b=none:=I2.stkFree
  have hub:Un (frs outer) [] H₀ H2 s₀.heap s2.heap:=I2.base
  have old:∀ b o,s₀.heap.get? b=some o→b∉frs outer→b∉frs (envOfC qual scope s₀.heap.objs.size f cd::outer):=fun b o hb hn hm=>by
   obtain ⟨env,he, hf⟩:=List.mem_filterMap.mp hm
   rcases Zn.mp he with rfl | he
   ·have z:s₀.heap.objs.size=b:=Option.some.inj hf
    exact Nat.lt_irrefl _ (z▸Heap.lt_size hb)
   ·exact hn (List.mem_filterMap.mpr ⟨env,he, hf⟩)
  have sub:∀ b,b∈frs outer→b∈frs (envOfC qual scope s₀.heap.objs.size f cd::outer):=fun b hb=>by
   obtain ⟨env,he, hf⟩:=List.mem_filterMap.mp hb
   exact List.mem_filterMap.mpr ⟨env,Zw _ he, hf⟩
  refine wpAny_leaves_madeW (base:=PySem.W.hideAll s2.heap (frs (envOfC qual scope s₀.heap.objs.size f cd::outer))) (h:=s2.heap) (L:=s₀.heap.objs.size) I2.ok.frames rfl
   (fun b o q=>PySem.W.of_hideAll _ q) (PySem.W.funFrames_hide hst hin) hx fun h2 t f1 f2 f3 f4=>?_
  have kp:∀ b o,s2.heap.get? b=some o→b∉frs (envOfC qual scope s₀.heap.objs.size f cd::outer)→h2.get? b=some o:=fun b o q n=>f1.1 b o (PySem.W.hideAll_get _ q n)
  have sl:∀ b o,s2.heap.get? b=some o→b∈frs (envOfC qual scope s₀.heap.objs.size f cd::outer)→∃ z,h2.get? b=some { o with slots:=z }:=fun b o q m=>by
   obtain ⟨_,o',ho', hd'⟩:=hst.mem m
   rw [q] at ho'
   cases ho'
   exact f4 b o (hx.keeps b o q) hd'
  refine ⟨e,.ref t,_,H2,rfl,I2.os,I2.bare,⟨?_,?_,hub.free,?_,hub.tups,hub.frzs, hub.tbls⟩,?_,?_,I2.hok.hid hfree,f1, h e⟩
  ·exact fun b o q n hb hx=>kp b o (hub.keep b o q n hb hx) (old b o q hb)
  ·intro b o q n hb hx
   obtain ⟨z,e1⟩:=hub.slot b o q n hb hx
   obtain ⟨z',e2⟩:=sl b _ e1 (sub b hb)
   exact ⟨z',e2⟩
  ·intro b o q hx
   obtain ⟨o',e1⟩:=hub.there b o q hx
   by_cases hm:b∈frs (envOfC qual scope s₀.heap.objs.size f cd::outer)
   ·obtain ⟨z,e2⟩:=sl b _ e1 hm
    exact ⟨_,e2⟩
   ·exact ⟨_,kp b _ e1 hm⟩
  ·exact fun b o q n hb=>PySem.W.hideAll_get _ (hub.keep b o q n hb (by simp)) (old b o q hb)
  ·intro b o q hb
   obtain ⟨u,z⟩:=hub.there b o q (by simp)
   exact ⟨u,PySem.W.hideAll_get _ z (old b o q hb)⟩
end
end L2
namespace L2
open PySem PySem.Spec PyProof.Rows
def excO (C x:Addr):HO:=.ext fun h=>∃ o,h.get? x=some o∧o.cls=.ref C
theorem excO_ok {P:Program} {w:World} {H:Hp} {h:Heap} {C x:Addr} {o:Obj} (e:h.get? x=some o) (c:o.cls=.ref C):ObjOk P w H h x (excO C x) :=
 ⟨⟨o,e, c⟩,⟨o,e⟩, fun _ _ ⟨u,e1,c1⟩ k=>⟨u,k u e1, c1⟩⟩
abbrev Cx.at' (X:Cx) (A:Around) (calm:Bool) (pn:List (Addr×Obj)) (xe:Value→Shared→Prop):Cx:={ X with A:=A,calm:=calm,pn:=pn,xe:=xe }
abbrev tried (X:Cx) (pn:List (Addr×Obj)) (xe:Value→Shared→Prop):Cx:=X.at' X.A X.calm pn xe
abbrev caught (X:Cx) (pn:List (Addr×Obj)) (xe:Value→Shared→Prop) (e:Addr):Cx:=X.at' (X.A.mark (some (.ref e))) false pn xe
section
variable {X:Cx} {pins pins' pn:List (Addr×Obj)} {σ:St} {H H':Hp} {s s':Shared} {A:Around} {calm:Bool} {xe:Value→Shared→Prop}
theorem Inv.swap (I:Inv X pins σ H s) (hp:∀ p∈pn++pins',p∈X.pn++pins) (hA:A.frames=X.A.frames) (hc:calm=true→A.handled=none):Inv (X.at' A calm pn xe) pins' σ H s :=
 let o:=I.ok
 ⟨⟨o.mod,o.kind,o.glob,o.blt,o.above,o.inj,o.has,o.cab,hc,hA.trans o.frames,o.stk,o.exf,o.bs,o.bsz,o.noex,o.exfs,o.funs, o.frf⟩,I.os,I.bare,I.base,I.loc,I.cell,I.free,I.freeC,fun p q=>I.pin p (hp p q),I.hok, I.len⟩
theorem Inv.unset {m:Str→Option Value} {h':Heap} {i:Nat} {x:Str} {u:Option Value} (I:Inv X pins σ H s) (nd:X.N.Nodup) (hi:X.N[i]?=some x) (hn:s.heap.Ns X.env.locals m)
  (hl:∀ (i:Nat) (x:Str) (v:V),X.N[i]?=some x→σ[i]?=some (some v)→Vis X.env.scope x→∃ u,RelV v u∧Look X.env s.heap m x u)
  (hn':h'.Ns X.env.locals fun y=>if y=x then u else m y) (hs:Heap.SameBut X.env.locals s.heap h'):Inv X pins (σ.set i none) H { s with heap:=h' }:=by
 have cne:=I.cne
 have old:∀ b o,X.s₀.heap.get? b=some o→b≠X.env.locals:=fun b o e=>Nat.ne_of_lt (Yt (Heap.lt_size e) I.ok.above)
 refine ⟨I.ok,I.os,I.bare,⟨fun b o e n hb hx=>?_,fun b o e n hb hx=>?_,I.base.free,fun b o e hx=>?_,I.base.tups,I.base.frzs, I.base.tbls⟩,⟨_,hn', fun k y v e1 e2 e3=>?_⟩,fun y c e=>?_,I.free,I.freeC,fun p hp=>?_,?_, by simpa using I.len⟩
 ·exact (hs.2 b (old b o e)).trans (I.base.keep b o e n hb hx)
 ·obtain ⟨sl,q⟩:=I.base.slot b o e n hb hx
  exact ⟨sl,(hs.2 b (old b o e)).trans q⟩
 ·obtain ⟨o',q⟩:=I.base.there b o e hx
  exact ⟨o',(hs.2 b (old b o e)).trans q⟩
 ·by_cases hk:k=i
  ·subst hk
   by_cases hlt:k<σ.length
   ·rw [List.getElem?_set_self hlt] at e2;cases e2
   ·rw [Zr (by simpa using hlt)] at e2;cases e2
  ·rw [List.getElem?_set_ne (Ne.symm hk)] at e2
   obtain ⟨u',r', q⟩:=hl k y v e1 e2 e3
   refine ⟨u',r', ?_⟩
   have hy:y≠x:=fun z=>hk (nodup_ix nd e1 (z▸hi))
   rcases q with ⟨kd,e⟩ | ⟨kd,c,e, z⟩
   ·exact .inl ⟨kd,by simp [hy,e]⟩
   ·exact .inr ⟨kd,c,e, z.sameBut hs (cne y c e)⟩
 ·obtain ⟨w',z⟩:=I.cell y c e
  exact ⟨w',z.sameBut hs (cne y c e)⟩
 ·obtain ⟨e,n,ne,nf, d⟩:=I.pin p hp
  exact ⟨(hs.2 p.1 ne).trans e,n,ne,nf, d⟩
 ·intro b ob e
  refine (I.hok b ob e).stay (fun c w' hc q=>(hs.2 c ?_).trans q) (fun _ q=>q) fun _ _ q=>q
  rintro rfl
  rcases hc with rfl | hc
  ·rw [I.free] at e;cases e
  ·rw [I.free] at hc;cases hc
theorem unbind_ok {M:Model} {A:Around} {E:Value→Shared→Prop} {i:Nat} {x:Str} {pos:Pos} {Q:Unit→Shared→Prop} (I:Inv X pins σ H s) (nd:X.N.Nodup) (hi:X.N[i]?=some x) (hk:X.env.scope.names.lookup x=some .local)
  (h:∀ s',Inv X pins (σ.set i none) H s'→Q () s'):wpAny M A (do bindName X.env x .none;unbindBehindTheSuite X.env x pos) Q E s:=by
 have hcls:(X.env.scope.kind==.class||(X.env.scope.kind==.module&&X.env.locals != X.env.globals))=false:=by rw [I.ok.kind];rfl
 refine wpAny_bind (wpAny_bindName (store_ok (v:=.non) I nd hi (.inl hk) rfl (fun s2 I2=>?_) (.inr hk)))
 have hiσ:i<σ.length:=by rw [I.len];exact (Zj.mp hi).1
 obtain ⟨m,hn, hl⟩:=I2.loc
 obtain ⟨u,_, q⟩:=hl i x .non hi (List.getElem?_set_self hiσ) (.inl hk)
 have hv:m x=some u:=by
  rcases q with ⟨_,e⟩ | ⟨kd,_⟩
  ·exact e
  ·have kd:X.env.scope.names.lookup x=some .cell∨X.env.scope.names.lookup x=some .free:=kd
   rw [hk] at kd
   rcases kd with kd | kd<;>cases kd
 unfold unbindBehindTheSuite
 refine wpAny_onRaise (wpAny_unbindName_local hk hn hv hcls fun h' w hn' hs=>h _ ?_)
 have z:=I2.unset nd hi hn hl hn' hs
 rwa [List.set_set] at z
end
theorem Inv.track {X:Cx} {pins:List (Addr×Obj)} {σ:St} {H:Hp} {s:Shared} {x:Addr} {o:HO} (I:Inv X pins σ H s) (hx:H x=none) (n0:X.s₀.heap.get? x=none) (nl:x≠X.env.locals)
  (nc:∀ y c,X.env.cells.lookup y=some c→c≠x) (np:∀ p∈X.pn++pins,p.1≠x) (ok:ObjOk X.prog X.w (upd H x o) s.heap x o):Inv X pins σ (upd H x o) s:=by
 have ne:∀ {b:Addr} {u:HO},H b=some u→b≠x:=fun {b u} e z=>by rw [z,hx] at e;cases e
 refine ⟨I.ok,I.os,I.bare,⟨I.base.keep,I.base.slot,fun b u e n hb=>?_,I.base.there,fun b xs e=>?_,fun b u v e=>?_, fun b ps e=>?_⟩,I.loc,I.cell,?_,fun y c e=>?_,fun p hp=>?_,fun b u e=>?_, I.len⟩
 ·rw [upd_ne (fun z=>by rw [z,n0] at e;cases e)];exact I.base.free b u e n hb
 ·have z:=I.base.tups b xs e
  rw [upd_ne (ne z)];exact z
 ·have z:=I.base.frzs b u v e
  rw [upd_ne (ne z)];exact z
 ·obtain ⟨more,z⟩:=I.base.tbls b ps e
  exact ⟨more,by rw [upd_ne (ne z)];exact z⟩
 ·rw [upd_ne (Ne.symm nl)];exact I.free
 ·rw [upd_ne (nc y c e)];exact I.freeC y c e
 ·obtain ⟨e,n, r⟩:=I.pin p hp
  exact ⟨e,by rw [upd_ne (np p hp)];exact n, r⟩
 ·by_cases hb:b=x
  ·subst hb;rw [upd_same] at e;cases e;exact ok
  ·rw [upd_ne hb] at e
   exact (I.hok b u e).stay (fun _ _ _ q=>q) (fun c q=>by rw [upd_ne (ne q)];exact q) fun c xs q=>by rw [upd_ne (ne q)];exact q
section
variable {X:Cx} {C Cb:Addr} {E:XK} {body suite:List Stmt} {b₀:Stmt} {y n:Str} {i:Nat} {np hpos pos:Pos} {tb ts:TS}
end
end L2
namespace L2
open PySem PySem.Spec PyProof.Rows PySem.W
def isExc (C x:Addr) (h:Heap):Prop:=∃ o,h.get? x=some o∧o.cls=.ref C
structure ExcK (K:Frag) (C:Addr):Prop where
 ga:findIn K (.ref C) "__getattribute__" = some (some (.builtin "BaseException.__getattribute__"))
 gt:findIn K (.ref C) "__getattr__" = some none
 cl:findIn K (.ref C) "__class__" = some (some (.builtin "object.__class__"))
 sb:subIn K (.ref C) (.type "BaseException")=some true
 so:subIn K (.ref C) (.type "object")=some true
 ic:isClsIn K C=true
section
variable {prog:Program} {w:World} {A:Around} {E:Value→Shared→Prop} {h:Heap} {g:Array GenState} {d:Drawn} {t:Nat} {os:OsState} {a C:Addr} {K:Frag}
theorem excTy {M:Model} (e:isExc C a h):Looks M h (typeOf (.ref a)) (.ref C):=by
 obtain ⟨o,h1, h2⟩:=e
 exact h2▸(Looks.ld h1).andThen .now
theorem exc_clsGet {R:Result→Shared→Prop} (X:K.In h) (F1:ExcK K C) (e:isExc C a h) (hq:R (.ok (.ret (.ref C))) ⟨h,g,d,t, os⟩) :
  codeAny (model prog w) A (.call (.builtin "getset_descriptor.__get__") ⟨[.builtin "object.__class__",.ref a,.ref C],[]⟩) R ⟨h,g,d,t, os⟩:=by
 have L0:=excTy (M:=model prog w) e
 have L1:Looks (model prog w) h (isSubtype (.ref C) (.type (".".intercalate ("object.__class__".cutAt '.').dropLast))) true:=by
  rw [F.owner_object_class];exact looks_subIn X F1.so
 have hT:(⟨h,g,d,t, os⟩:Shared).TypeIs (.builtin "object.__class__") "getset_descriptor":=F.typeOf_object_class
 refine codeAny_call_builtin F.slot_gs_get.plain F.entry_gs_get (F.slot_gs_get.check _ _ _ _ _ _ _ _ hT (F.args_gs_get _ _ _) ?_)
 repeat (any_goals (first | assumption | (with_reducible refine L0.at ?_) | (with_reducible refine L1.at ?_) | wp_step))
 refine ⟨Code.quiet_builtin _ (by decide +kernel),codeAny_builtin F.entry_object_class ?_⟩
 repeat (any_goals (first | assumption | (with_reducible refine L0.at ?_) | wp_step))
theorem exc_clsEntry {tk:Tok} {Q:Fin→Shared→Prop} (X:K.In h) (F1:ExcK K C) (e:isExc C a h) (hq:Q (.done (.ret (.ref C))) ⟨h,g,d,t, os⟩) :
  wpAny (model prog w) A (Builtin.«object.__getattribute__» ⟨[.ref a,.str "__class__" tk],[]⟩) Q E ⟨h,g,d,t, os⟩:=by
 have L0:=excTy (M:=model prog w) e
 have L1:=looks_findIn (M:=model prog w) X F1.cl
 have hT:(⟨h,g,d,t, os⟩:Shared).TypeIs (.builtin "object.__class__") "getset_descriptor":=F.typeOf_object_class
 have f5:=F.typeOf_object_class
 have f6:=F.slot_gs_get.lookup
 have f7:=F.slot_gs_set.lookup
 repeat (any_goals (first | assumption | (with_reducible refine L0.at ?_) | (with_reducible refine L1.at ?_) | wp_step))
 refine exc_clsGet X F1 e ?_
 repeat (any_goals (first | assumption | wp_step))
theorem exc_checkGa {M:Model} {nameV:Value} {Q:Unit→Shared→Prop} (X:K.In h) (F1:ExcK K C) (e:isExc C a h) (hq:Q () ⟨h,g,d,t, os⟩) :
  wpAny M A (checkBuiltinCall "BaseException.__getattribute__" ⟨[.ref a,nameV],[]⟩) Q E ⟨h,g,d,t, os⟩:=by
 have hk:builtinKind "BaseException.__getattribute__" = some .slot:=by decide +kernel
 have hsplit:splitId "BaseException.__getattribute__" = some ("BaseException","__getattribute__"):=by decide +kernel
 have ha:=F.args_bexc_ga (.ref a) nameV
 have L0:=excTy (M:=M) e
 have L1:=looks_subIn (M:=M) X F1.sb
 simp only [checkBuiltinCall,hk,hsplit]
 unfold isInstance
 repeat (first | (with_reducible refine L0.at ?_) | (with_reducible refine L1.at ?_) | wp_step)
 all_goals exact hq
theorem exc_clsBy {tk:Tok} {Q:Value→Shared→Prop} (X:K.In h) (F1:ExcK K C) (e:isExc C a h) (hq:Q (.ref C) ⟨h,g,d,t, os⟩) :
  wpAny (model prog w) A (getAttrBy (.ref a) (.str "__class__" tk) false) Q E ⟨h,g,d,t, os⟩:=by
 have L0:=excTy (M:=model prog w) e
 have L1:=looks_findIn (M:=model prog w) X F1.ga
 have L2:=looks_findIn (M:=model prog w) X F1.gt
 have f3:=(show Slot "ValueError" "__getattribute__" "BaseException.__getattribute__" from PySem.F.excAttr_ValueError.ga).bind (.ref a)
 have hx2:(Value.builtin "BaseException.__getattribute__"==Value.builtin "object.__getattribute__")=false:=by decide +kernel
 have hx1:(onTheHeap (Value.ref C)&&Value.builtin "BaseException.__getattribute__"==Value.builtin "object.__getattribute__")=false:=by rw [hx2];rfl
 repeat (any_goals (first | assumption | (with_reducible refine L0.at ?_) | (with_reducible refine L1.at ?_) | (with_reducible refine L2.at ?_) | wp_step))
 refine codeAny_call_builtin (PySem.F.excAttr_ValueError.ga).plain F.entry_bexc_ga (exc_checkGa X F1 e (exc_clsEntry X F1 e ?_))
 repeat (any_goals (first | assumption | wp_step))
theorem exc_clsAttr {Q:Option Value→Shared→Prop} (X:K.In h) (F1:ExcK K C) (e:isExc C a h) (hq:Q (some (.ref C)) ⟨h,g,d,t+1, os⟩) :
  wpAny (model prog w) A (getAttr? (.ref a) "__class__") Q E ⟨h,g,d,t, os⟩:=by
 unfold getAttr? getAttrBy?
 repeat (any_goals (first | assumption | with_reducible apply exc_clsBy X F1 e | wp_step))
end
theorem kitx_exc {K:Frag} {x C:Addr} (F1:ExcK K C):KitX K (.ref x) (.ref C) (isExc C x) where
 ty:=fun _ _ _ p=>excTy p
 it:=fun _ _ X _=>by
  have z:(clsIn K C).isSome=true:=F1.ic
  unfold clsIn at z
  split at z
  ·rename_i ho
   intro A' Q' E' s' k q
   unfold isType loadHead
   exact wpAny_bind (wpAny_loadPart (k _ _ (X _ _ ho)) (wpAny_pure q))
  ·cases z
 ne:=fun h tp dd its n sl X htp=>by
  refine Bool.eq_false_iff.mpr fun q=>?_
  have e:C=tp:=Value.ref.inj (beq_iff_eq.mp q)
  have z:(clsIn K C).isSome=true:=F1.ic
  rw [e] at z
  unfold clsIn at z
  split at z
  ·rename_i ho
   have y:=(X _ _ ho).symm.trans htp
   cases y
  ·cases z
 ca:=fun {_ _ _ _ _ s} X p k=>by
  obtain ⟨h,g,d,t, os⟩:=s
  exact exc_clsAttr X F1 p k
structure ClsU (K:Frag) (C D:Addr):Prop where
 ic:isClsIn K D=true
 ty:typeIn K (.ref D)=some (.type "type")
 sb:subIn K (.ref C) (.ref D)=some true
 ex:subIn K (.ref D) (.type "BaseException")=some true
structure ClsN (K:Frag) (C D:Addr):Prop where
 ic:isClsIn K D=true
 ty:typeIn K (.ref D)=some (.type "type")
 sb:subIn K (.ref C) (.ref D)=some false
 ne:(Value.ref C==Value.ref D)=false
theorem kit_ref {K:Frag} {C D:Addr} {b:Bool} (ic:isClsIn K D=true) (ty:typeIn K (.ref D)=some (.type "type")) (sb:subIn K (.ref C) (.ref D)=some b):kitCls K (.ref C) (.ref D)=some b:=by
 have e:((clsIn K D).isSome&&typeIn K (.ref D)==some (.type "type"))=true:=by rw [show (clsIn K D).isSome=true from ic,ty];decide
 unfold kitCls
 dsimp only
 rw [if_pos e,sb]
theorem ClsU.exm {K:Frag} {C D:Addr} (h:ClsU K C D):exmOne K (.ref C) (.ref D)=some true:=by
 unfold exmOne
 rw [h.ex,if_pos (by decide)]
 exact kit_ref h.ic h.ty h.sb
theorem ClsN.one {K:Frag} {C D:Addr} (h:ClsN K C D):kitOne K (.ref C) (.ref D)=some false:=by
 unfold kitOne
 rw [h.ne,if_neg (by decide)]
 exact kit_ref h.ic h.ty h.sb
theorem kitAny_none {K:Frag} {C:Addr}:∀ {cs:List Addr},(∀ D∈cs,ClsN K C D)→kitAny K (.ref C) (cs.map Value.ref)=some false
 | [],_=>rfl
 | D::cs,h=>by
  rw [List.map_cons]
  unfold kitAny
  rw [(h D Zd).one]
  exact kitAny_none fun E hE=>h E (Zw _ hE)
theorem kit_self {K:Frag} {C:Addr}:kitOne K (.ref C) (.ref C)=some true:=by
 unfold kitOne
 rw [if_pos (by simp)]
theorem kit_ve {K:Frag} {C:Addr} (sb:subIn K (.ref C) (.type "ValueError")=some true):kitOne K (.ref C) (.type "ValueError")=some true:=by
 have e:kitMeta "ValueError" = true:=by decide +kernel
 unfold kitOne kitCls
 dsimp only
 rw [if_neg (by intro q;cases beq_iff_eq.mp q),if_pos e,sb]
section
variable {X:Cx}
def RelC (c:V) (u:Value):Prop:=(∃ D,c=.ref D∧u=.ref D)∨∃ n,c=.ty n∧u=.type n
theorem RelC.is {c:V} {u v:Value} (h:RelC c u) (r:RelV c v):v=u:=by
 rcases h with ⟨D,rfl, rfl⟩ | ⟨n,rfl, rfl⟩<;>exact r
theorem call_isiX:CallR X (.builtin "isinstance") (fun xs H Q=>∃ x C c u b,xs=[.ref x,c]∧RelC c u∧H x=some (excO C x)∧ExcK X.K C∧kitOne X.K (.ref C) u=some b∧Q (.bl b) H):=by
 intro pins s σ H xs us Q I r h
 obtain ⟨x,C,c,u,b,rfl,rc,hx,F1,e, q⟩:=h
 obtain ⟨u1,v,rfl,r1, r2⟩:=vals2 r
 cases (show u1=Value.ref x from r1)
 cases rc.is r2
 have p:isExc C x s.heap:=(show ObjOk X.prog X.w H s.heap x (excO C x) from I.hok x _ hx).1
 exact kia_one (kitx_exc F1) I.kIn p e (by intro z;cases z) fun tk=>⟨.bl b,H,I.tok tk,rfl, q⟩
theorem vals_refsX:∀ {cs:List Addr} {us:List Value},Vals (cs.map V.ref) us→us=cs.map Value.ref
 | [],_,.nil=>rfl
 | c::cs,_,.cons r t=>by rw [vals_refsX t,show _=Value.ref c from r];rfl
theorem call_isiXs:CallR X (.builtin "isinstance") (fun xs H Q=>∃ (x C p:Addr) (cs:List Addr) (b:Bool),xs=[.ref x,.ref p]∧H x=some (excO C x)∧H p=some (.tup (cs.map V.ref))∧ExcK X.K C∧kitAny X.K (.ref C) (cs.map Value.ref)=some b∧Q (.bl b) H):=by
 intro pins s σ H xs us Q I r h
 obtain ⟨x,C,p,cs,b,rfl,hx,hp,F1,e, q⟩:=h
 obtain ⟨u1,v,rfl,r1, r2⟩:=vals2 r
 cases (show u1=Value.ref x from r1)
 cases (show v=Value.ref p from r2)
 have px:isExc C x s.heap:=(show ObjOk X.prog X.w H s.heap x (excO C x) from I.hok x _ hx).1
 obtain ⟨_,its,r',o,ho,hc,n, hd⟩:=(show ObjOk X.prog X.w H s.heap p (.tup (cs.map V.ref)) from I.hok p _ hp)
 cases vals_refsX r'
 obtain ⟨c,dd,dt, sl⟩:=o
 cases (show c=.type "tuple" from hc)
 cases (show dt=.seq (cs.map Value.ref).toArray n from hd)
 exact kia_tup (kitx_exc F1) I.kIn px ho e (by intro z;cases z) fun tk=>⟨.bl b,H,I.tok tk,rfl, q⟩
end
end L2
namespace L2
open PySem PySem.Spec PyProof.Rows
section
variable {P:Program} {w:World} {K:PySem.W.Frag} {mg:Str→Option Value} {base:Heap} {N:List Str} {qual:Str} {scope:Scope} {f C:Addr} {cd:Value} {A:Around} {outer:List Env} {s₀:Shared} {H₀:Hp} {E:XK}
end
end L2
namespace L2
open PySem PySem.Spec PyProof.Rows
section
variable {M:Model} {A:Around} {Ex:Value→Shared→Prop} {s:Shared}
end
section
variable {P:Program} {w:World} {K:PySem.W.Frag} {mg:Str→Option Value} {base:Heap} {N:List Str} {qual:Str} {scope:Scope} {f C:Addr} {cd:Value} {A:Around} {outer:List Env} {s₀:Shared} {H₀:Hp} {E:XK}
end
section
variable {X:Cx} {C:Addr} {E:XK} {N:List Str} {scope:Scope} {cl:List (Str×Addr)} {L:Addr} {fp:List Addr} {s:Shared} {H:Hp}
end
end L2
namespace L2
open PySem PySem.Spec PyProof.Rows
section
variable {prog:Program} {w:World} {A:Around} {E:Value→Shared→Prop} {R:Result→Shared→Prop} {s:Shared}
end
section
variable {X:Cx} {C0:Addr} {E0:XK}
end
end L2
namespace L2
open PySem PySem.Spec PyProof.Rows
def PassesS (CX:CXT) (X:Cx) (σ:St) (E:XK):Prop:=∀ (pins:List (Addr×Obj)) (H:Hp) (s:Shared) (e:Value) (s':Shared),Inv X pins σ H s→CX X.stack H s E e s'→X.xe e s'
def PSsAt (X:Cx) (σ:St) (st:List Stmt) (t:TS):Prop:=∀ (pins:List (Addr×Obj)) (s:Shared) (H:Hp) (D:Ends),Inv X pins σ H s→t D σ H→wpAny (model X.prog X.w) X.A (execs st X.env) (SP X pins D) X.xe s
section
variable {X:Cx} {CX:CXT} {k:Nat} {f:Addr} {fd:FuncData} {ps:List Str} {sp:Sp} {E:XK} {x y:Str} {p pos pos' spos:Pos} {e:Expr} {es:List Expr} {t:TA} {σ:St} {i:Nat}
theorem pss_call (F:FnOk X.prog X.w X.K X.mg X.base CX k f fd ps sp) (hr:Room k X.A) (hg:Gl X x) (hm:X.mg x=some (.ref f)) (hk:PySem.W.keepIn X.K (.ref f)=true) (hb:Binds X.K fd ps []) (hx:PassesS CX X σ E) (ha:PA X (e::es) t)
  (hN:X.N.Nodup) (hi:X.N[i]?=some y) (hl:X.env.scope.names.lookup y=some .local) (hdb:(x==("__debug__" : Str))=false:=by decide) (he:starEach (e::es) X.env=(false,eval e X.env)::starEach es X.env:=by rfl) (hpl:(backTo pos (starEach es X.env)).any (·.1)=false:=by rfl)
  (hs:swapsWith (.Call (.Name x p) (e::es) [] pos) (some (.Name y pos')) spos.line X.env=pure false:=by rfl) :
  PSsAt X σ [.Assign [.Name y pos'] (.Call (.Name x p) (e::es) [] pos) spos] (tAsg (tCall sp [] E t) (gName i)):=by
 intro pins s H D I h
 have key:wpAny (model X.prog X.w) X.A (eval (.Call (.Name x p) (e::es) [] pos) X.env) (EP X pins σ fun v H1=>gName i v σ H1 D.nx) X.xe s:=by
  refine wpAny_Call_Name_kw (ld_glob I hg hm ?_ hdb)
  refine PySem.W.callWith_K (h₀:=X.base) I.ok.mod.kin hk (thn (ha pos pins s σ H _ I h) fun us s1 ⟨vs,H1,I1,r,q⟩=>⟨I1.kIn,?_⟩) he hpl
  have hl:(us++[]).length=ps.length:=by rw [List.append_nil,←r.length];have:=F.len _ _ _ _ q;rwa [List.append_nil] at this
  refine wpAny_call (codeAny_mono (F.run X.A X.stack s1 H1 ⟨us,[]⟩ (us++[]) (vs++[]) _ E hr I1.env0 (hb s1 us I1.kIn hl) (r.append .nil) q) fun r s' hq=>?_)
  cases r with
  | error e=>exact hx pins H1 s1 e s' I1 hq
  | ok fl =>
   cases fl with
   | ret u=>exact I1.after hq
   | next=>exact False.elim hq
   | brk=>exact False.elim hq
   | cont=>exact False.elim hq
 refine wpAny_execs_cons (thn (wpAny_Assign_Name (thn key fun v s1 ⟨z,H1,I1,r1,q1⟩=>store_ok I1 hN hi (.inl hl) r1 (fun s2 I2=>(show SP X pins D .next s2 from ⟨_,H1,I2, q1⟩)) (.inr hl)) hs) fun f s1 q=>?_)
 cases f with
 | next=>exact wpAny_execs_nil q
 | ret v=>exact q
 | brk=>exact q
 | cont=>exact q
end
def tTryS (i:Nat) (C:Addr) (E:XK) (tb ts:TS):TS:=fun D σ H=>tb D σ H∧∀ (x:Addr) (H':Hp),E (.ref x) none H'→H' x=none →
 ts { nx:=fun σ2 H2=>D.nx (σ2.set i none) H2,rt:=D.rt,bk:=fun σ2 H2=>D.bk (σ2.set i none) H2,ct:=fun σ2 H2=>D.ct (σ2.set i none) H2 } (σ.set i (some (.ref x))) (upd H' x (excO C x))
section
variable {X:Cx} {C Cb:Addr} {E:XK} {body suite:List Stmt} {b₀:Stmt} {y n:Str} {i:Nat} {np hpos pos:Pos} {tb ts:TS}
theorem ps_tryAt (hx0:X.ex=[]) (hst:X.stack=X.env::X.outer) (hf:X.env.frame=some X.env.locals) (hcalm:X.calm=true) (hm:X.mg y=some (.ref Cb)) (hg:Gl X y) (hex:PySem.W.exmOne X.K (.ref C) (.ref Cb)=some true)
  (nd:X.N.Nodup) (hi:X.N[i]?=some n) (hl:X.env.scope.names.lookup n=some .local) (hb:∀ pn xe σ,PassesS (CXr X.prog X.w C) (tried X pn xe) σ E→PSsAt (tried X pn xe) σ body tb)
  (hs:∀ pn xe e,PSs (caught X pn xe e) (b₀::suite) ts) (hd:(y==("__debug__" : Str))=false:=by decide) :
  PS X (.Try body [.ExceptHandler (some (.Name y np)) (some n) (b₀::suite) hpos] [] [] pos) (tTryS i C E tb ts):=by
 intro pins s σ H D I ⟨h1,h2⟩
 refine wpAny_Try_except ?_
 refine wpAny_mono (hb (X.pn++pins) _ σ ?pass [] s H D (I.swap (by simp) rfl I.ok.hd) h1) ?fin fun e s' he=>he
 case fin =>
  intro f s' hf
  cases f with
  | next =>
   obtain ⟨σ',H',J, q⟩:=hf
   exact wpAny_pure ⟨σ',H',J.swap (A:=X.A) (calm:=X.calm) (pn:=X.pn) (xe:=X.xe) (pins':=pins) (by simp) rfl I.ok.hd, q⟩
  | brk =>
   obtain ⟨σ',H',J, q⟩:=hf
   exact ⟨σ',H',J.swap (A:=X.A) (calm:=X.calm) (pn:=X.pn) (xe:=X.xe) (pins':=pins) (by simp) rfl I.ok.hd, q⟩
  | cont =>
   obtain ⟨σ',H',J, q⟩:=hf
   exact ⟨σ',H',J.swap (A:=X.A) (calm:=X.calm) (pn:=X.pn) (xe:=X.xe) (pins':=pins) (by simp) rfl I.ok.hd, q⟩
  | ret u =>
   obtain ⟨v,σ',H',J,r, q⟩:=hf
   exact ⟨v,σ',H',J.swap (A:=X.A) (calm:=X.calm) (pn:=X.pn) (xe:=X.xe) (pins':=pins) (by simp) rfl I.ok.hd,r, q⟩
 case pass =>
  intro pins' H1 s1 e s' I1 hc
  obtain ⟨x,a0,B,H',rfl,hos,bare,un,kB,tB,okB,fly, hE⟩:=hc
  have J1:Inv X pins σ H1 s1:=I1.swap (A:=X.A) (calm:=X.calm) (pn:=X.pn) (xe:=X.xe) (pins':=pins) (fun p q=>List.mem_append_left _ q) rfl I.ok.hd
  have fly:Heap.FlyingW B X.stack x (.ref C) a0 s'.heap:=fly
  have un:Un (frs X.stack) [] H1 H' s1.heap s'.heap:=un
  have kB:∀ b o,s1.heap.get? b=some o→H1 b=none→b∉frs X.stack→B.get? b=some o:=kB
  have tB:∀ b o,s1.heap.get? b=some o→b∉frs X.stack→∃ u,B.get? b=some u:=tB
  have hfree:∀ b∈frs X.stack,H1 b=none:=J1.stkFree
  have xfree:H' x=none:=okB.gone fly.2.1
  have next:∀ h5,Heap.FlyingW B X.stack x (.ref C) a0 h5→s'.heap.UpToSlots h5→Inv X pins σ H' { s' with heap:=h5 }:=fun h5 f5 up=>by
   refine J1.call' (ch:=[]) hos ⟨fun b o q n hb _=>f5.1 b o (kB b o q n hb),fun b o q n hb hx=>?_,un.free,fun b o q hx=>?_,un.tups,un.frzs, un.tbls⟩ (okB.kept f5.1) bare (fun b z=>absurd z (by simp))
   ·obtain ⟨sl,e1⟩:=un.slot b o q n hb hx
    obtain ⟨_,o',e2, nf⟩:=J1.stack.mem hb
    rw [q] at e2
    cases e2
    obtain ⟨sl',e3⟩:=up b _ e1 nf
    exact ⟨sl',e3⟩
   ·cases e4:H1 b with
    | some ho =>
     obtain ⟨u,z⟩:=tB b o q fun hb=>by rw [hfree b hb] at e4;cases e4
     exact ⟨u,f5.1 b u z⟩
    | none =>
     by_cases hb:b∈frs X.stack
     ·obtain ⟨sl,e1⟩:=un.slot b o q e4 hb hx
      obtain ⟨_,o',e2, nf⟩:=J1.stack.mem hb
      rw [q] at e2
      cases e2
      obtain ⟨sl',e3⟩:=up b _ e1 nf
      exact ⟨_,e3⟩
     ·exact ⟨_,f5.1 b o (kB b o q e4 hb)⟩
  have hfr:X.A.frames=some (X.env::X.outer):=by rw [←hst];exact I.ok.frames
  rw [hst] at fly next
  refine wpAny_looks_onW hfr hf fly fun h4 held4 up4=>?_
  refine wpAny_landsW held4 fun h5 fly5 up5=>?_
  have J5:=next h5 fly5 (up4.trans up5)
  refine wpAny_handleBy_cons (codeAny_handlers_test ?_) (by intro q;cases q)
  have C5:∀ xe,Inv (caught X (X.pn++pins) xe x) [] σ H' { s' with heap:=h5 }:=fun xe=>J5.swap (by simp) rfl (fun z=>by cases z)
  refine ld_glob (C5 fun _ _=>True) hg hm ?_ hd
  obtain ⟨ob,hob, hcl⟩:=fly5.there
  have LT:PySem.W.Looks (model X.prog X.w) h5 (typeOf (.ref x)) (.ref C):=hcl▸(PySem.W.Looks.ld hob).andThen .now
  refine PySem.W.exm_one J5.kIn LT hex _ _ _ _ (fun _ _ q=>q) ?_
  refine codeAny_handlers_suite_as ?_
  refine lands_againW fly5 fun h6 fly6 up6=>?_
  have J6:=next h6 fly6 ((up4.trans up5).trans up6)
  obtain ⟨oe,vs,hoe,hcl6,hda, _⟩:=fly6.first
  have nfr:x∉frs X.stack:=fun m=>by
   obtain ⟨_,o,e1, nf⟩:=J6.stack.mem m
   have e1:h6.get? x=some o:=e1
   rw [hoe] at e1
   cases e1
   exact nf vs hda
  have nl:x≠X.env.locals:=fun z=>nfr (by rw [hst];exact List.mem_filterMap.mpr ⟨X.env,Zd .., z▸hf⟩)
  have nB:∀ b o,B.get? b=some o→b≠x:=fun b o e z=>by rw [z,fly6.2.1] at e;cases e
  have K6:=J6.track (x:=x) (o:=excO C x) xfree ?n0 nl ?nc ?np (excO_ok hoe hcl6)
  case n0 =>
   cases e:X.s₀.heap.get? x with
   | none=>rfl
   | some o =>
    obtain ⟨o1,e1⟩:=J1.base.there x o e (by rw [hx0];simp)
    obtain ⟨u,e2⟩:=tB x o1 e1 nfr
    exact absurd rfl (nB x u e2)
  case nc =>
   intro yy c e z
   obtain ⟨v,o,e1, e2⟩:=J6.cell yy c e
   have e1:h6.get? c=some o:=e1
   rw [z,hoe] at e1
   cases e1
   rw [hda] at e2
   cases e2
  case np =>
   intro p hp
   obtain ⟨e1,e2,e3,e4, _⟩:=J1.pin p hp
   refine nB p.1 p.2 (kB p.1 p.2 e1 e2 fun m=>?_)
   rw [hst] at m
   obtain ⟨env,he, hf'⟩:=List.mem_filterMap.mp m
   rcases Zn.mp he with rfl | he
   ·rw [hf] at hf';exact e3 (Option.some.inj hf').symm
   ·exact e4 (List.mem_filterMap.mpr ⟨env,he, hf'⟩)
  have K7:∀ xe,Inv (caught X (X.pn++pins) xe x) [] σ (upd H' x (excO C x)) { s' with heap:=h6 }:=fun xe=>K6.swap (by simp) rfl (fun z=>by cases z)
  refine store_ok (X:=caught X (X.pn++pins) (fun _ _=>True) x) (v:=.ref x) (K7 _) nd hi (.inl hl) rfl (fun s7 I7=>?_) (.inr hl)
  refine thn (hs (X.pn++pins) _ x [] s7 _ _ _ (I7.swap (A:=X.A.mark (some (.ref x))) (calm:=false) (pn:=X.pn++pins) (pins':=[]) (fun p q=>q) rfl (fun z=>by cases z)) (h2 x H' hE xfree)) ?_
  intro f s8 hsp
  dsimp only
  have back:∀ {σ8 H8},Inv (caught X (X.pn++pins) (fun _ _=>True) x) [] σ8 H8 s8→Inv X pins σ8 H8 s8:=fun J=>J.swap (A:=X.A) (calm:=X.calm) (pn:=X.pn) (xe:=X.xe) (pins':=pins) (by simp) rfl I.ok.hd
  cases f with
  | next =>
   obtain ⟨σ8,H8,J8, q⟩:=hsp
   exact unbind_ok (back (J8.swap (A:=X.A.mark (some (.ref x))) (calm:=false) (pn:=X.pn++pins) (pins':=[]) (fun p q=>q) rfl (fun z=>by cases z))) nd hi hl fun s9 I9=>⟨_,_,I9, q⟩
  | brk =>
   obtain ⟨σ8,H8,J8, q⟩:=hsp
   exact unbind_ok (back (J8.swap (A:=X.A.mark (some (.ref x))) (calm:=false) (pn:=X.pn++pins) (pins':=[]) (fun p q=>q) rfl (fun z=>by cases z))) nd hi hl fun s9 I9=>⟨_,_,I9, q⟩
  | cont =>
   obtain ⟨σ8,H8,J8, q⟩:=hsp
   exact unbind_ok (back (J8.swap (A:=X.A.mark (some (.ref x))) (calm:=false) (pn:=X.pn++pins) (pins':=[]) (fun p q=>q) rfl (fun z=>by cases z))) nd hi hl fun s9 I9=>⟨_,_,I9, q⟩
  | ret u =>
   obtain ⟨v,σ8,H8,J8,r, q⟩:=hsp
   exact unbind_ok (back (J8.swap (A:=X.A.mark (some (.ref x))) (calm:=false) (pn:=X.pn++pins) (pins':=[]) (fun p q=>q) rfl (fun z=>by cases z))) nd hi hl fun s9 I9=>⟨v,_,_,I9,r, q⟩
end
end L2
namespace TX
open PySem
def sT (l:List Nat):Str:=⟨l.toArray⟩
theorem sT_list (l:List Nat):(sT l).cps.toList=l:=by simp [sT]
theorem sT_len (l:List Nat):(sT l).length=l.length:=by simp [sT,Str.length]
theorem sT_app (a b:List Nat):sT a++sT b=sT (a++b):=by
 apply PySem.Str.ext'
 show (sT a).cps++(sT b).cps=(sT (a++b)).cps
 simp [sT]
end TX
namespace L2
open PySem PySem.Spec PyProof.Rows TX
section
variable {X:Cx}
abbrev vx (l:List Nat):V:=.str (sT l)
abbrev vxs (ws:List (List Nat)):List V:=ws.map vx
theorem vals_strs:∀ {ws:List (List Nat)} {us:List Value},Vals (vxs ws) us→∃ l:List (Str×Tok),us=strValues l∧l.map (·.1)=ws.map sT
 | [],_,.nil=>⟨[],rfl, rfl⟩
 | w::ws,_,.cons r t=>by
  obtain ⟨l,rfl, e⟩:=vals_strs t
  obtain ⟨k,rfl⟩:=(show ∃ t,_=Value.str (sT w) t from r)
  exact ⟨(sT w,k)::l,rfl, by rw [List.map_cons,e];rfl⟩
end
end L2
namespace TX
open PySem PySem.Builtin PySem.Builtin.Str L2
end TX
namespace L2
open PySem PySem.Spec PyProof.Rows TX
section
variable {X:Cx}
end
end L2
namespace L2
open PySem PySem.Spec PyProof.Rows
theorem kpe_bm {X:Cx} {K:PySem.W.Frag} {o e:Expr} {es:List Expr} {to:TE} {t:TA} {name:Str} {apos cpos:Pos} {T id:String} {r:V→List V→Hp→VK→Prop} (hK:X.K=K) (pa:PlainAttrs T) (slot:Slot T name id) (hty:typeOf (.builtin id)=pure (.type "method_descriptor")) (hm:MtR X id r) (ho:PE X o to) (ha:PA X (e::es) t)
  (hbase:attributeBase o name X.env (eval o X.env)=eval o X.env:=by rfl)
  (hfew:((backTo cpos (starEach (e::es) X.env)).all (fun x=>!x.1)&&(backToKw cpos (keywordEach [] X.env)).all (fun x=>x.1.isSome)
   && decide ((e::es).length+([]:List Keyword).length+(if ([]:List Keyword).isEmpty then 0 else 1)<30))=true:=by rfl)
  (hline:(apos.endLine==cpos.line)=true:=by rfl) (hs:starEach (e::es) X.env=(false,eval e X.env)::starEach es X.env:=by rfl) (hplain:(backTo cpos (starEach es X.env)).any (·.1)=false:=by rfl) :
  PE X (.Call (.Attribute o name apos) (e::es) [] cpos) (tBM K T r to t):=by
 subst hK
 exact pe_bm pa slot hty hm ho ha hbase hfew hline hs hplain
section
variable {X:Cx} {pins:List (Addr×Obj)} {σ:St} {H:Hp} {s:Shared} {h':Heap}
theorem Inv.turnedCh {t':Nat} {ch:List Addr} (I:Inv X pins σ H s) (k:∀ b u,b∉ch→s.heap.get? b=some u→h'.get? b=some u) (hf:∀ b∈ch,FpOk X pins H b):Inv X pins σ H { s with heap:=h',toks:=t' }:=by
 have nit:∀ b u,H b=some u→b∉ch:=fun b u e z=>by rw [(hf b z).1] at e;cases e
 refine I.step (g':=s.gens) (d':=s.drawn) (ch:=ch) (fun b hb=>?_) (fun b o _ _ hc e _=>k b o hc e) (fun b o _ _ hc e _=>⟨o.slots,k b o hc e⟩) (fun b u hc e n=>n) (fun b u hc e=>⟨u,k b u hc e⟩)
  (fun b xs e=>e) (fun b ob u e=>e) (fun b ps e=>⟨#[],by rw [e];simp⟩) (fun m hm=>?_) (fun b u e=>?_) I.bare
 ·exact ⟨(hf b hb).2.2.2.1,(hf b hb).2.1,(hf b hb).2.2.2.2.1, (hf b hb).2.2.2.2.2⟩
 ·obtain ⟨ob,es,ep,ho, r⟩:=hm
  exact ⟨ob,es,ep,k _ ob (fun z=>(hf _ z).2.1 rfl) ho, r⟩
 ·refine (I.hok b u e).stay (fun c v hc q=>k c v ?_ q) (fun c q=>q) fun c xs q=>q
  rcases hc with z | z
  ·rw [z];exact nit b u e
  ·exact nit c _ z
end
def Itz (a b:Addr):It :=
 ⟨fun i H=>∃ xs ys x y,H a=some (.lst xs)∧H b=some (.lst ys)∧xs[i]?=some x∧ys[i]?=some y,fun i H v H'=>∃ T x y,v=.ref T∧H T=none∧H'=upd H T (.tup [x,y])∧(∀ xs,H a=some (.lst xs)→xs[i]?=some x)∧∀ ys,H b=some (.lst ys)→ys[i]?=some y,fun i H=>∃ xs ys,H a=some (.lst xs)∧H b=some (.lst ys)∧(xs.length≤i∨ys.length≤i)⟩
theorem turn_zip {P:Program} {w:World} {K:PySem.W.Frag} {elts:List Expr} {k:Nat} {pos:Pos} (a b z TI TO i1 i2:Addr) (d:[z,TI,TO,i1,i2].Nodup) :
  Turn P w K (.Tuple elts k pos) (Itz a b) [z,TI,TO,i1,i2] z (fun i h=>IsZip h z TI TO .none∧IsPair h TI (.ref i1) (.ref i2)∧(∃ u v,IsPair h TO u v)∧h.IsListIter i1 a i∧h.IsListIter i2 b i):=by
 simp only [List.nodup_cons,Zn,List.not_mem_nil,or_false,not_or] at d
 obtain ⟨⟨d1,d2,d3, d4⟩,⟨d5,d6, d7⟩,⟨d8,d9⟩,d10, _⟩:=d
 have apart:∀ {H:Hp} {l l':Addr} {xs ys:List V},H l=some (.lst xs)→H l'=some (.lst ys)→(∀ c∈[z,TI,TO,i1,i2],H c=none)→ZipApart z TI TO i1 i2 l l':=fun {H l l' xs ys} h h' hn =>
  ⟨Ne.symm d1,Ne.symm d2,Ne.symm d3,Ne.symm d4,d5,d6,d7,d8,d9,d10,ne_of_none h (hn z (by simp)),ne_of_none h (hn TO (by simp)),ne_of_none h (hn i1 (by simp)),ne_of_none h (hn i2 (by simp)),
   ne_of_none h' (hn z (by simp)),ne_of_none h' (hn TO (by simp)),ne_of_none h' (hn i1 (by simp)), ne_of_none h' (hn i2 (by simp))⟩
 refine ⟨by simp,?_,?_,?_,?_, ?_⟩
 ·rintro i h ⟨hz,hTI,⟨u,v, hTO⟩,⟨o1,h1,c1, e1⟩, ⟨o2,h2,c2, e2⟩⟩ b' hb
  simp only [Zn,List.not_mem_nil,or_false] at hb
  rcases hb with rfl | rfl | rfl | rfl | rfl
  ·exact ⟨_,hz, fun v q=>by have q':Data.fields _=Data.cell v:=q;cases q'⟩
  ·exact ⟨_,hTI, fun v q=>by have q':Data.seq _ _=Data.cell v:=q;cases q'⟩
  ·exact ⟨_,hTO, fun v q=>by have q':Data.seq _ _=Data.cell v:=q;cases q'⟩
  ·exact ⟨_,h1, fun v q=>by rw [e1] at q;cases q⟩
  ·exact ⟨_,h2, fun v q=>by rw [e2] at q;cases q⟩
 ·rintro i h h' ⟨hz,hTI,⟨u,v, hTO⟩,h1, h2⟩ kk
  exact ⟨kk z (by simp) _ hz,kk TI (by simp) _ hTI,⟨u,v, kk TO (by simp) _ hTO⟩,h1.at fun o e=>kk i1 (by simp) o e, h2.at fun o e=>kk i2 (by simp) o e⟩
 ·intro X hP hw hK hc i pins s σ H E I hf st hg
  subst hP hw hK
  obtain ⟨hz,hTI,⟨u,v, hTO⟩,h1, h2⟩:=st
  obtain ⟨xs,ys,x,y,ha,hb,hx, hy⟩:=hg
  have D:=apart ha hb fun c hc=>(hf c hc).1
  obtain ⟨_,its,n,rv,hl, e⟩:=I.lstM ha
  obtain ⟨_,its2,n2,rv2,hl2, e2⟩:=I.lstM hb
  obtain ⟨u1,hu1, ru1⟩:=rv.get hx
  obtain ⟨u2,hu2, ru2⟩:=rv2.get hy
  have hux:its.toArray[i]?=some u1:=by simpa using hu1
  have huy:its2.toArray[i]?=some u2:=by simpa using hu2
  refine wpAny_pyNext_zip_item D hz hTI hTO h1 h2 ⟨_,e,rfl,n, rfl⟩ ⟨_,e2,rfl,n2, rfl⟩ hux huy fun h' a1 a2 a3 a4 a5 a6 hk=>?_
  refine ⟨_,rfl, ?_⟩
  have kk:∀ c o,c∉[z,TO,i1,i2]→s.heap.get? c=some o→h'.get? c=some o:=fun c o hc q=>hk c o (fun x=>hc (by simp [x])) (fun x=>hc (by simp [x])) (fun x=>hc (by simp [x])) (fun x=>hc (by simp [x])) q
  have th:∀ c o,s.heap.get? c=some o→∃ o',h'.get? c=some o':=fun c o q=>by
   by_cases c1:c=z
   ·subst c1;exact ⟨_,a1⟩
   ·by_cases c2:c=TO
    ·subst c2;exact ⟨_,a2⟩
    ·by_cases c3:c=i1
     ·subst c3;obtain ⟨o',q1, _⟩:=a3;exact ⟨_,q1⟩
     ·by_cases c4:c=i2
      ·subst c4;obtain ⟨o',q1, _⟩:=a4;exact ⟨_,q1⟩
      ·exact ⟨o,hk c o c1 c2 c3 c4 q⟩
  have sub:∀ c∈[z,TO,i1,i2],c∈[z,TI,TO,i1,i2]:=fun c hc=>by simp at hc ⊢;rcases hc with rfl | rfl | rfl | rfl<;>simp
  have I1:Inv X pins σ (upd H s.heap.objs.size (.tup [x,y])) { s with heap:=h',toks:=s.toks } :=
   I.turnedNew (ch:=[z,TO,i1,i2]) kk th (Nat.le_refl _) (fun c hc=>hf c (sub c hc)) ⟨by show 2≤sizeLine;decide,[u1,u2],.cons ru1 (.cons ru2 .nil), ⟨_,a5,rfl,_, rfl⟩⟩
  have fz:=hf z (by simp)
  have neT:∀ c∈[z,TI,TO,i1,i2],c≠s.heap.objs.size:=fun c hc=>by
   simp only [Zn,List.not_mem_nil,or_false] at hc
   rcases hc with rfl | rfl | rfl | rfl | rfl
   ·exact Nat.ne_of_lt (Heap.lt_size hz)
   ·exact Nat.ne_of_lt (Heap.lt_size hTI)
   ·exact Nat.ne_of_lt (Heap.lt_size hTO)
   ·obtain ⟨_,q, _⟩:=h1;exact Nat.ne_of_lt (Heap.lt_size q)
   ·obtain ⟨_,q, _⟩:=h2;exact Nat.ne_of_lt (Heap.lt_size q)
  refine wpAny_letOwnedTupleGo_zip a1 fun h2' hz2 hs2=>?_
  have I2:Inv X pins σ (upd H s.heap.objs.size (.tup [x,y])) { s with heap:=h2',toks:=s.toks } :=
   Inv.turned (s:={ s with heap:=h',toks:=s.toks }) (h':=h2') (t':=s.toks) (it:=z) I1 (fun c o hc q=>(hs2.2 c hc).trans q) (by rw [upd_ne (neT z (by simp))];exact fz.1) fz.2.1 fz.2.2.2.1 fz.2.2.2.2.1 fz.2.2.2.2.2
  refine ⟨.ref s.heap.objs.size,_,I2,rfl,⟨s.heap.objs.size,x,y,rfl,I.fresh,rfl,fun zs hzs=>by rw [ha] at hzs;cases hzs;exact hx, fun zs hzs=>by rw [hb] at hzs;cases hzs;exact hy⟩,
   ⟨hz2,(hs2.2 TI (Ne.symm d1)).trans (hk TI _ (Ne.symm d1) d5 d6 d7 hTI),⟨_,_, (hs2.2 TO (Ne.symm d2)).trans a2⟩,a3.at fun o q=>(hs2.2 i1 (Ne.symm d3)).trans q, a4.at fun o q=>(hs2.2 i2 (Ne.symm d4)).trans q⟩, fun c hc=>?_⟩
  rw [upd_ne (neT c hc)]
  exact (hf c hc).1
 ·intro X hP hw hK hc i pins s σ H E I hf st hg
  subst hP hw hK
  obtain ⟨hz,hTI,⟨u,v, hTO⟩,h1, h2⟩:=st
  obtain ⟨xs,ys,ha,hb, hx⟩:=hg
  have D:=apart ha hb fun c hc=>(hf c hc).1
  obtain ⟨_,its,n,rv,hl, e⟩:=I.lstM ha
  obtain ⟨_,its2,n2,rv2,hl2, e2⟩:=I.lstM hb
  have sub:∀ c∈[z,TO,i1,i2],c∈[z,TI,TO,i1,i2]:=fun c hc=>by simp at hc ⊢;rcases hc with rfl | rfl | rfl | rfl<;>simp
  refine wpAny_pyNext_zip_end (I.ok.hd hc) D hz hTI hTO h1 h2 ⟨_,e,rfl,n, rfl⟩ ⟨_,e2,rfl,n2, rfl⟩ ?_ fun h' hk=>⟨rfl,?_⟩
  ·rcases hx with q | q
   ·left;simp;omega
   ·right;simp;omega
  ·exact I.turnedCh (t':=s.toks) (ch:=[z,TO,i1,i2]) (fun c o hc q=>hk c o (fun x=>hc (by simp [x])) (fun x=>hc (by simp [x])) (fun x=>hc (by simp [x])) (fun x=>hc (by simp [x])) q) fun c hc=>hf c (sub c hc)
 ·intro A i s Q E st h
  exact wpAny_pyIter_zip st.1 h
section
variable {X:Cx}
def iZip (ta:TA):TI:=fun σ H R=>ta σ H fun vs H1=>∃ a b xs ys,vs=[.ref a,.ref b]∧H1 a=some (.lst xs)∧H1 b=some (.lst ys)∧R (Itz a b) H1
theorem pi_zip {a b:Expr} {ta:TA} {p pos:Pos} {elts:List Expr} {k:Nat} {tpos:Pos} (hg:Gl X "zip") (hm:X.mg "zip" = none) (ha:PA X [a,b] ta) (hs:starEach [a,b] X.env=[(false,eval a X.env),(false,eval b X.env)]:=by rfl) (hs2:starEach [b] X.env=[(false,eval b X.env)]:=by rfl) :
  PI X (.Tuple elts k tpos) (.Call (.Name "zip" p) [a,b] [] pos) (iZip ta):=by
 intro pins s σ H R I h
 refine Call_ (ld_blt I hg hm boot_zip (PyProof.Rows.callWith_type1 (thn (ha pos pins s σ H _ I h) fun us s1 ⟨vs,H1,I1,r1,q1⟩=>?_) (by rw [hs,hs2]) (by rw [hs2];rfl)))
 obtain ⟨l,l2,xs,ys,e,hx,hy, q⟩:=q1
 subst e
 cases r1 with
 | cons r rr =>
  cases rr with
  | cons r' rr =>
   cases rr
   cases r
   cases r'
   obtain ⟨_,its,n,rv,hl, e⟩:=I1.lstM hx
   obtain ⟨_,its2,n2,rv2,hl2, e2⟩:=I1.lstM hy
   refine call_zip_2 ⟨_,e,rfl,n, rfl⟩ ⟨_,e2,rfl,n2, rfl⟩ fun h' z1 z2 z3 z4 z5 hsz hk=>?_
   refine wpAny_pyIter_zip z1 ?_
   have I2:Inv X pins σ H1 { s1 with heap:=h' }:=I1.kept (t':=s1.toks) hk
   refine ⟨s1.heap.objs.size+4,[s1.heap.objs.size+4,s1.heap.objs.size+2,s1.heap.objs.size+3,s1.heap.objs.size,s1.heap.objs.size+1],_,_,H1,rfl,I2,turn_zip l l2 _ _ _ _ _ (by simp),⟨z1,z2,⟨_,_, z3⟩,z4, z5⟩,fun c hc=>?_, q⟩
   have hc':s1.heap.objs.size≤c:=by
    simp only [Zn,List.not_mem_nil,or_false] at hc
    rcases hc with rfl | rfl | rfl | rfl | rfl<;>omega
   exact I1.fpOk hc' (I1.hok.fresh hc')
end
end L2
namespace L2
open PySem PySem.Spec PyProof.Rows
end L2
namespace L2
open PySem PyProof.Rows
end L2
namespace SO
open PySem PyProof PyProof.Rows
structure Kept (k:SortKind) (z:Array Keyed) (t:SortSt):Prop where
 kd:kindOf t=k
 pm:(arrOf t).Perm z
 nf:failedOf t=none
 np:pendingOf t=#[]
def rk (ρ:Keyed→Int) (xs:Array Keyed) (i:Nat):Int:=(xs[i]?.map ρ).getD 0
def Up (ρ:Keyed→Int) (xs:Array Keyed) (m:Nat):Prop:=∀ i j,i≤j→j<m→rk ρ xs i≤rk ρ xs j
def Dn (ρ:Keyed→Int) (xs:Array Keyed) (m:Nat):Prop:=∀ i j,i≤j→j<m→rk ρ xs j≤rk ρ xs i
theorem rk_eq {ρ:Keyed→Int} {xs ys:Array Keyed} {i j:Nat} (e:xs[i]?=ys[j]?):rk ρ xs i=rk ρ ys j:=by
 simp only [rk,e]
theorem rk_bubble {ρ:Keyed→Int} {xs:Array Keyed} {a d:Nat} (ha:a<xs.size) (hd:d≤a) (i:Nat) :
  rk ρ (bubble xs a d) i=if i=a-d then rk ρ xs a else if a-d<i∧i≤a then rk ρ xs (i-1) else rk ρ xs i:=by
 have e:=getElem?_bubble ha d hd i
 split
 ·next q=>rw [if_pos q] at e;exact rk_eq e
 ·next q =>
  rw [if_neg q] at e
  split
  ·next q2=>rw [if_pos q2] at e;exact rk_eq e
  ·next q2=>rw [if_neg q2] at e;exact rk_eq e
theorem rk_mirror {ρ:Keyed→Int} {xs:Array Keyed} {a b:Nat} (hb:b≤xs.size) (i:Nat) :
  rk ρ (mirror xs a b ((b-a) / 2)) i=if a≤i∧i<b then rk ρ xs (a+b-1-i) else rk ρ xs i:=by
 have e:=getElem?_mirror_all (i:=a) hb i
 split
 ·next q=>rw [if_pos q] at e;exact rk_eq e
 ·next q=>rw [if_neg q] at e;exact rk_eq e
theorem rk_level {ρ:Keyed→Int} {xs:Array Keyed} {a b:Nat} (hb:b≤xs.size)
  (h:∀ i,a≤i→i<b→rk ρ xs i=rk ρ xs (b-1)) (i:Nat):rk ρ (mirror xs a b ((b-a) / 2)) i=rk ρ xs i:=by
 rw [rk_mirror hb]
 by_cases q:a≤i∧i<b
 ·rw [if_pos q]
  have h1:=h (a+b-1-i) (by omega) (by omega)
  have h2:=h i q.1 q.2
  omega
 ·rw [if_neg q]
def Tells (M:Model) (A:Around) (E:Value→Shared→Prop) (s:Shared) (k:SortKind) (z:Array Keyed) (ρ:Keyed→Int):Prop :=
 ∀ (p q:Keyed) (t:SortSt) (Q:Option Bool→SortSt→Prop),p∈z.toList→q∈z.toList→kindOf t=k →
  Q (some (decide (ρ p<ρ q))) t→wpS M A E s (lt' p q) Q t
section
variable {M:Model} {A:Around} {E:Value→Shared→Prop} {s:Shared} {k:SortKind} {z:Array Keyed} {ρ:Keyed→Int}
theorem Kept.len {t:SortSt} (h:Kept k z t):(arrOf t).size=z.size:=h.pm.size_eq
theorem Kept.put {t:SortSt} (h:Kept k z t) {xs:Array Keyed} (q:xs.Perm (arrOf t)):Kept k z (setArr t xs) :=
 ⟨h.kd,q.trans h.pm,h.nf, h.np⟩
theorem Kept.nth {t:SortSt} (h:Kept k z t) {i:Nat} (hi:i<z.size) :
  ∃ p,(arrOf t)[i]?=some p∧p∈z.toList∧rk ρ (arrOf t) i=ρ p:=by
 have hi':i<(arrOf t).size:=by rw [h.len];exact hi
 have e:(arrOf t)[i]?=some (arrOf t)[i]:=getElem?_pos _ i hi'
 refine ⟨_,e,(Array.perm_iff_toList_perm.mp h.pm).mem_iff.mp (by simp), ?_⟩
 simp [rk,e]
theorem less (T:Tells M A E s k z ρ) {t:SortSt} (h:Kept k z t) {i j:Nat} (hi:i<z.size) (hj:j<z.size) {Q:Option Bool→SortSt→Prop}
  (q:Q (some (decide (rk ρ (arrOf t) i<rk ρ (arrOf t) j))) t):wpS M A E s (ltAt' i j) Q t:=by
 obtain ⟨a,ea,ma, ra⟩:=h.nth (ρ:=ρ) hi
 obtain ⟨b,eb,mb, rb⟩:=h.nth (ρ:=ρ) hj
 rw [ra,rb] at q
 rw [ltAt'_eq]
 refine wpS_bind (wpS_get ?_)
 have e1:elem' (arrOf t) i=pure a:=by rw [elem'_eq,ea]
 have e2:elem' (arrOf t) j=pure b:=by rw [elem'_eq,eb]
 show wpS M A E s (elem' (arrOf t) i >>= fun u=>elem' (arrOf t) j >>= fun v=>lt' u v) Q t
 rw [e1,e2]
 exact wpS_bind (wpS_pure (wpS_bind (wpS_pure (T a b t Q ma mb h.kd q))))
def Slot (ρ:Keyed→Int) (xs:Array Keyed) (m l r:Nat):Prop :=
 l≤r∧r≤m∧(∀ i,i<l→rk ρ xs i≤rk ρ xs m)∧(∀ i,r≤i→i<m→rk ρ xs m<rk ρ xs i)
theorem Up.slotted {xs:Array Keyed} {m l:Nat} (hm:m<xs.size) (hu:Up ρ xs m) (h:Slot ρ xs m l l):Up ρ (bubble xs m (m-l)) (m+1):=by
 obtain ⟨_,h2,h3, h4⟩:=h
 intro i j hij hj
 have el:m-(m-l)=l:=by omega
 rw [rk_bubble hm (by omega),rk_bubble hm (by omega),el]
 by_cases c1:i<l
 ·rw [if_neg (by omega),if_neg (by omega)]
  by_cases c2:j=l
  ·rw [if_pos c2];exact h3 i c1
  ·rw [if_neg c2]
   by_cases c3:l<j∧j≤m
   ·rw [if_pos c3];exact hu _ _ (by omega) (by omega)
   ·rw [if_neg c3];exact hu _ _ hij (by omega)
 ·by_cases c2:j=l
  ·have:i=l:=by omega
   rw [if_pos c2,if_pos this];exact Int.le_refl _
  ·rw [if_neg c2,if_pos (show l<j∧j≤m by omega)]
   by_cases c3:i=l
   ·rw [if_pos c3];exact Int.le_of_lt (h4 _ (by omega) (by omega))
   ·rw [if_neg c3,if_pos (by omega)];exact hu _ _ (by omega) (by omega)
theorem inserted (T:Tells M A E s k z ρ) {t:SortSt} {n d:Nat} (hn:n≤z.size) (hd:d≤n) (hK:Kept k z t) (hu:Up ρ (arrOf t) d)
  {Q:Bool→SortSt→Prop} (q:∀ t',Kept k z t'→Up ρ (arrOf t') n→Q true t'):wpS M A E s (binarySort' 0 n d) Q t:=by
 rw [binarySort'_eq]
 simp only [Nat.zero_add]
 refine wpS_bind (wpS_mono (wpS_forRange (Q:=fun c t'=>c=(none,())∧Kept k z t'∧Up ρ (arrOf t') n)
  (fun m c t'=>c=(none,())∧Kept k z t'∧Up ρ (arrOf t') (min m n)) ?_ ?_ ?_) fun c t' h=>by obtain ⟨rfl,a, b⟩:=h;exact wpS_pure (q t' a b))
 ·rintro m c t' h1 h2 ⟨rfl,hK', hu'⟩
  rw [Nat.min_eq_left (by omega)] at hu'
  have hm:m<z.size:=by omega
  have hm':m<(arrOf t').size:=by rw [hK'.len];exact hm
  refine wpS_bind (wpS_mono (wpS_forRange (Q:=fun c t2=>t2=t'∧∃ l,c=(none,l,l)∧Slot ρ (arrOf t') m l l)
   (fun x c t2=>t2=t'∧∃ l r,c=(none,l,r)∧r-l≤m-x∧Slot ρ (arrOf t') m l r) ?_ ?_ ?_) ?_)
  ·rintro x c t2 _ hx ⟨rfl,l,r,rfl,hs, hS⟩
   dsimp only
   obtain ⟨s1,s2,s3, s4⟩:=hS
   by_cases hlr:l≥r
   ·rw [if_pos hlr]
    exact wpS_pure ⟨rfl,l,by rw [show r=l by omega],Nat.le_refl _,by omega,s3, fun i a b=>s4 i (by omega) b⟩
   ·rw [if_neg hlr]
    refine wpS_bind (less T hK' hm (show (l+r) / 2<z.size by omega) ?_)
    by_cases hc:rk ρ (arrOf t2) m<rk ρ (arrOf t2) ((l+r) / 2)
    ·rw [decide_eq_true hc]
     simp only [if_true]
     refine wpS_pure ⟨rfl,l,(l+r) / 2,rfl,by omega,by omega,by omega,s3, fun i a b=>?_⟩
     exact Int.lt_of_lt_of_le hc (hu' _ _ a b)
    ·rw [decide_eq_false hc]
     simp only [Bool.false_eq_true,if_false]
     refine wpS_pure ⟨rfl,(l+r) / 2+1,r,rfl,by omega,by omega,by omega,fun i a=>?_, s4⟩
     have:=hu' i ((l+r) / 2) (by omega) (by omega)
     omega
  ·rintro c t2 ⟨rfl,l,r,rfl,hs, hS⟩
   have e:r=l:=by have:=hS.1;omega
   subst e
   exact ⟨rfl,_,rfl, hS⟩
  ·exact ⟨rfl,0,m,rfl,by omega,by omega,by omega,fun i a=>by omega, fun i a b=>by omega⟩
  ·rintro c t2 ⟨rfl,l,rfl, hS⟩
   dsimp only
   rw [moveDown'_eq]
   refine wpS_bind (wpS_modify (wpS_pure ⟨rfl,hK'.put (bubble_perm _ _ _), ?_⟩))
   rw [Nat.min_eq_left (by omega)]
   exact hu'.slotted hm' hS
 ·rintro c t' ⟨e,hK', hu'⟩
  refine ⟨e,hK', ?_⟩
  rwa [show min (max (max d 1) n) n=n by omega] at hu'
 ·refine ⟨rfl,hK, fun i j hij hj=>?_⟩
  by_cases hd0:d=0
  ·rw [show i=j by omega];exact Int.le_refl _
  ·exact hu i j hij (by omega)
end
end SO
namespace SO
open PySem PyProof PyProof.Rows
section
variable {prog:Program} {w:World} {A:Around} {E:Value→Shared→Prop} {s:Shared} {k:SortKind} {z:Array Keyed} {ρ:Keyed→Int}
theorem Up.one (xs:Array Keyed) {m:Nat} (h:m≤1):Up ρ xs m:=fun i j a b=>by
 rw [show i=j by omega];exact Int.le_refl _
theorem Up.more {xs:Array Keyed} {m:Nat} (hu:Up ρ xs m) (h:¬rk ρ xs m<rk ρ xs (m-1)):Up ρ xs (m+1):=by
 intro i j a b
 by_cases c:j<m
 ·exact hu i j a c
 ·rw [show j=m by omega]
  by_cases c2:i=m
  ·rw [c2];exact Int.le_refl _
  ·have:=hu i (m-1) (by omega) (by omega);omega
theorem Dn.more {xs:Array Keyed} {m:Nat} (hu:Dn ρ xs m) (h:rk ρ xs m≤rk ρ xs (m-1)):Dn ρ xs (m+1):=by
 intro i j a b
 by_cases c:j<m
 ·exact hu i j a c
 ·rw [show j=m by omega]
  by_cases c2:i=m
  ·rw [c2];exact Int.le_refl _
  ·have:=hu i (m-1) (by omega) (by omega);omega
theorem Dn.same {xs ys:Array Keyed} {m:Nat} (hu:Dn ρ xs m) (h:∀ i,rk ρ ys i=rk ρ xs i):Dn ρ ys m:=fun i j a b=>by
 rw [h,h];exact hu i j a b
theorem Dn.turned {xs:Array Keyed} {m:Nat} (hm:m≤xs.size) (hu:Dn ρ xs m):Up ρ (mirror xs 0 m ((m-0) / 2)) m:=fun i j a b=>by
 rw [rk_mirror hm,rk_mirror hm,if_pos (by omega),if_pos (by omega)]
 exact hu _ _ (by omega) (by omega)
theorem rising (T:Tells (model prog w) A E s k z ρ) {t:SortSt} {a n:Nat} (hn:n≤z.size) (h1:1≤a) (h2:a≤n) (hK:Kept k z t) (hu:Up ρ (arrOf t) a)
  {Q:AscSt→SortSt→Prop}
  (q:∀ m,a≤m→m≤n→Up ρ (arrOf t) m→(m=n∨rk ρ (arrOf t) m<rk ρ (arrOf t) (m-1))→Q (none,m) t) :
  wpS (model prog w) A E s (ascLoop a n) Q t:=by
 unfold ascLoop
 refine wpS_forRange (fun x c t'=>c=(none,x)∧t'=t∧Up ρ (arrOf t) x) ?_ ?_ ⟨rfl,rfl, hu⟩
 ·rintro x c t' g1 g2 ⟨rfl,rfl, hx⟩
  dsimp only
  refine wpS_bind (less T hK (show x<z.size by omega) (show x-1<z.size by omega) ?_)
  by_cases c:rk ρ (arrOf t') x<rk ρ (arrOf t') (x-1)
  ·rw [decide_eq_true c];simp only [if_true]
   exact wpS_pure (q x g1 (by omega) hx (Or.inr c))
  ·rw [decide_eq_false c];simp only [Bool.false_eq_true,if_false]
   exact wpS_pure ⟨rfl,rfl, hx.more c⟩
 ·rintro c t' ⟨rfl,rfl, hx⟩
  have e:max a n=n:=by omega
  rw [e] at hx ⊢
  exact q n h2 (Nat.le_refl _) hx (Or.inl rfl)
def Flat (ρ:Keyed→Int) (xs:Array Keyed) (m e:Nat):Prop:=e+1≤m∧∀ i,m-(e+1)≤i→i<m→rk ρ xs i=rk ρ xs (m-1)
theorem Flat.nought (xs:Array Keyed) {m:Nat} (h:1≤m):Flat ρ xs m 0:=⟨h,fun i a b=>by rw [show i=m-1 by omega]⟩
theorem Flat.more {xs:Array Keyed} {m e:Nat} (h:Flat ρ xs m e) (g:rk ρ xs m=rk ρ xs (m-1)):Flat ρ xs (m+1) (e+1) :=
 ⟨by have:=h.1;omega,fun i a b=>by
  rw [show m+1-1=m by omega]
  by_cases c:i=m
  ·rw [c]
  ·rw [g];exact h.2 i (by omega) (by omega)⟩
theorem back (T:Tells (model prog w) A E s k z ρ) {t:SortSt} {m n:Nat} (hn:n≤z.size) (h1:1≤m) (h2:m≤n) (hK:Kept k z t) (hd:Dn ρ (arrOf t) m)
  {Q:Option Nat→SortSt→Prop} (q:∀ m' t',1≤m'→m'≤n→Kept k z t'→Up ρ (arrOf t') m'→Q (some m') t') :
  wpS (model prog w) A E s (tail3 m n) Q t:=by
 unfold tail3
 have hs:m≤(arrOf t).size:=by rw [hK.len];omega
 refine wpS_bind (wpS_reverse ?_)
 have hK':=hK.put (mirror_perm (arrOf t) 0 m ((m-0) / 2))
 refine wpS_bind (rising T hn h1 h2 hK' (hd.turned hs) fun m' g1 g2 g3 _=>?_)
 exact wpS_pure (q m' _ (by omega) g2 hK' g3)
theorem falling (T:Tells (model prog w) A E s k z ρ) {t:SortSt} {m n:Nat} (hn:n≤z.size) (h1:1≤m) (h2:m≤n) (hK:Kept k z t) (hd:Dn ρ (arrOf t) m)
  {Q:DescSt→SortSt→Prop}
  (q:∀ m' e t',1≤m'→m'≤n→Kept k z t'→Dn ρ (arrOf t') m'→Flat ρ (arrOf t') m' e→Q (none,m',e) t') :
  wpS (model prog w) A E s (descLoop m n) Q t:=by
 unfold descLoop
 refine wpS_forRange (fun x c t'=>∃ e,c=(none,x,e)∧Kept k z t'∧Dn ρ (arrOf t') x∧Flat ρ (arrOf t') x e) ?_ ?_ ⟨0,rfl,hK,hd, Flat.nought _ h1⟩
 ·rintro x c t' g1 g2 ⟨e,rfl,hK',hx, hF⟩
  dsimp only
  have hs:x≤(arrOf t').size:=by rw [hK'.len];omega
  refine wpS_bind (less T hK' (show x<z.size by omega) (show x-1<z.size by omega) ?_)
  by_cases c:rk ρ (arrOf t') x<rk ρ (arrOf t') (x-1)
  ·rw [decide_eq_true c];simp only [if_true]
   have hm:=hx.more (Int.le_of_lt c)
   by_cases c2:e>0
   ·rw [if_pos c2]
    refine wpS_bind (wpS_reverse (wpS_pure ⟨0,rfl,hK'.put (mirror_perm _ _ _ _),hm.same (rk_level hs hF.2), Flat.nought _ (by omega)⟩))
   ·rw [if_neg c2]
    exact wpS_pure ⟨0,rfl,hK',hm, Flat.nought _ (by omega)⟩
  ·rw [decide_eq_false c];simp only [Bool.false_eq_true,if_false]
   refine wpS_bind (less T hK' (show x-1<z.size by omega) (show x<z.size by omega) ?_)
   by_cases c2:rk ρ (arrOf t') (x-1)<rk ρ (arrOf t') x
   ·rw [decide_eq_true c2];simp only [if_true]
    exact wpS_pure (q x e t' (by omega) (by omega) hK' hx hF)
   ·rw [decide_eq_false c2];simp only [Bool.false_eq_true,if_false]
    have e2:rk ρ (arrOf t') x=rk ρ (arrOf t') (x-1):=by omega
    exact wpS_pure ⟨e+1,rfl,hK',hx.more (by omega), hF.more e2⟩
 ·rintro c t' ⟨e,rfl,hK',hx, hF⟩
  have e2:max m n=n:=by omega
  rw [e2] at hx hF ⊢
  exact q n e t' (by omega) (Nat.le_refl _) hK' hx hF
theorem fallen (T:Tells (model prog w) A E s k z ρ) {t:SortSt} {m n:Nat} (hn:n≤z.size) (h2:m+1≤n) (hK:Kept k z t) (hd:Dn ρ (arrOf t) (m+1))
  {Q:Option Nat→SortSt→Prop} (q:∀ m' t',1≤m'→m'≤n→Kept k z t'→Up ρ (arrOf t') m'→Q (some m') t') :
  wpS (model prog w) A E s (descPart m n) Q t:=by
 unfold descPart
 refine wpS_bind (wpS_lift (wpAny_rule ⟨rfl,?_⟩))
 refine wpS_bind (falling T hn (by omega) h2 hK hd fun m' e t' g1 g2 g3 g4 g5=>?_)
 dsimp only
 have hs:m'≤(arrOf t').size:=by rw [g3.len];omega
 by_cases c:e>0
 ·rw [if_pos c]
  exact wpS_bind (wpS_reverse (back T hn g1 g2 (g3.put (mirror_perm _ _ _ _)) (g4.same (rk_level hs g5.2)) q))
 ·rw [if_neg c]
  exact back T hn g1 g2 g3 g4 q
theorem run (T:Tells (model prog w) A E s k z ρ) {t:SortSt} {n:Nat} (hn:n≤z.size) (h1:1≤n) (hK:Kept k z t)
  {Q:Option Nat→SortSt→Prop} (q:∀ m' t',1≤m'→m'≤n→Kept k z t'→Up ρ (arrOf t') m'→Q (some m') t') :
  wpS (model prog w) A E s (countRun' 0 n) Q t:=by
 rw [countRun0_eq]
 refine wpS_bind (rising T hn (Nat.le_refl 1) h1 hK (Up.one _ (Nat.le_refl 1)) fun m g1 g2 g3 g4=>?_)
 dsimp only
 by_cases c:m=n
 ·rw [if_pos (by simpa using c)]
  exact wpS_pure (q m t g1 g2 hK g3)
 rw [if_neg (by simpa using c)]
 have lt:=g4.resolve_left c
 have hs:m≤(arrOf t).size:=by rw [hK.len];omega
 by_cases c2:m>1
 ·rw [if_pos c2]
  refine wpS_bind (less T hK (show 0<z.size by omega) (show m-1<z.size by omega) ?_)
  by_cases c3:rk ρ (arrOf t) 0<rk ρ (arrOf t) (m-1)
  ·rw [decide_eq_true c3];simp only [if_true]
   exact wpS_pure (q m t g1 g2 hK g3)
  ·rw [decide_eq_false c3];simp only [Bool.false_eq_true,if_false]
   have lev:∀ i,0≤i→i<m→rk ρ (arrOf t) i=rk ρ (arrOf t) (m-1):=fun i _ b=>by
    have a1:=g3 0 i (by omega) b
    have a2:=g3 i (m-1) (by omega) (by omega)
    omega
   have hd:Dn ρ (arrOf t) m:=fun i j a b=>by
    rw [lev i (by omega) (by omega),lev j (by omega) b];exact Int.le_refl _
   exact wpS_bind (wpS_reverse (fallen T hn (by omega) (hK.put (mirror_perm _ _ _ _)) ((hd.more (Int.le_of_lt lt)).same (rk_level hs lev)) q))
 ·rw [if_neg c2]
  have e:m=1:=by omega
  have hd:Dn ρ (arrOf t) m:=fun i j a b=>by rw [show i=j by omega];exact Int.le_refl _
  exact fallen T hn (by omega) hK (hd.more (Int.le_of_lt lt)) q
end
end SO
namespace SO
open PySem PyProof PyProof.Rows
section
variable {prog:Program} {w:World} {A:Around} {E:Value→Shared→Prop} {s:Shared} {k:SortKind} {z:Array Keyed} {ρ:Keyed→Int}
def Ended (ρ:Keyed→Int) (z:Array Keyed) (t:SortSt):Prop :=
 (arrOf t).Perm z∧Up ρ (arrOf t) z.size∧failedOf t=none∧(pendingOf t).size≤1
theorem Kept.ended {t:SortSt} (h:Kept k z t) (hu:Up ρ (arrOf t) z.size) (x:Nat×Nat×Nat):Ended ρ z (setPending t ((pendingOf t).push x)):=by
 refine ⟨h.pm,hu,h.nf, ?_⟩
 show ((pendingOf t).push x).size≤1
 rw [h.np];exact Nat.le_refl 1
theorem ordered (T:Tells (model prog w) A E s k z ρ) {t:SortSt} (h2:2≤z.size) (h64:z.size<64) (hK:Kept k z t)
  {Q:Unit→SortSt→Prop} (q:∀ t',(arrOf t').Perm z→failedOf t'=none→Up ρ (arrOf t') z.size→Q () t') :
  wpS (model prog w) A E s sortRuns' Q t:=by
 have least:minRun' z.size z.size 0=z.size:=by
  cases e:z.size with
  | zero=>omega
  | succ f=>rw [e] at h64;rw [minRun'_succ,if_pos h64]
 rw [sortRuns'_eq]
 refine wpS_bind (wpS_get ?_)
 dsimp only
 simp only [hK.len,least]
 refine wpS_bind (wpS_mono (wpS_forRange (Q:=fun c t'=>c=(none,z.size)∧Ended ρ z t')
  (fun x c t'=>(x=0∧c=(none,0)∧Kept k z t')∨(0<x∧c=(none,z.size)∧Ended ρ z t')) ?_ ?_ ?_) ?_)
 ·rintro x c t' _ hx (⟨rfl,rfl, hK'⟩ | ⟨g,rfl, hE⟩)
  ·dsimp only
   rw [if_neg (by omega)]
   simp only [Nat.sub_zero,Nat.min_self,Nat.zero_add]
   refine wpS_bind (run T (Nat.le_refl _) (by omega) hK' fun m t2 g1 g2 g3 g4=>?_)
   dsimp only
   by_cases c:m<z.size
   ·rw [if_pos c]
    refine wpS_bind (wpS_lift (wpAny_rule ⟨rfl,?_⟩))
    refine wpS_bind (inserted T (Nat.le_refl _) g2 g3 g4 fun t3 g5 g6=>?_)
    simp only [Bool.not_true,Bool.false_eq_true,if_false]
    refine wpS_bind (wpS_get ?_)
    have e:(pendingOf t3).back?=none:=by rw [g5.np];rfl
    rw [e]
    exact wpS_bind (wpS_modify (wpS_pure (Or.inr ⟨by omega,rfl, g5.ended g6 _⟩)))
   ·rw [if_neg c]
    have e1:m=z.size:=by omega
    subst e1
    refine wpS_bind (wpS_get ?_)
    have e:(pendingOf t2).back?=none:=by rw [g3.np];rfl
    rw [e]
    exact wpS_bind (wpS_modify (wpS_pure (Or.inr ⟨by omega,rfl, g3.ended g4 _⟩)))
  ·dsimp only
   rw [if_pos (Nat.le_refl _)]
   exact wpS_pure ⟨rfl,hE⟩
 ·rintro c t' (⟨g,_, _⟩ | ⟨_,e, hE⟩)
  ·omega
  ·exact ⟨e,hE⟩
 ·exact Or.inl ⟨rfl,rfl, hK⟩
 ·rintro c t' ⟨rfl,hE⟩
  dsimp only
  refine wpS_bind (wpS_mono (wpS_forRange (Q:=fun c t2=>c=(none,())∧t2=t') (fun _ c t2=>c=(none,())∧t2=t') ?_ (fun _ _ h=>h) ⟨rfl,rfl⟩) ?_)
  ·rintro x c t2 _ _ ⟨rfl,rfl⟩
   refine wpS_bind (wpS_get ?_)
   rw [if_pos hE.2.2.2]
   exact wpS_pure ⟨rfl,rfl⟩
  ·rintro c t2 ⟨rfl,rfl⟩
   exact wpS_pure (q _ hE.1 hE.2.2.1 hE.2.1)
def amid (h:Heap) (a:Addr) (vs:List Value):Heap :=
 ((h.update a (Obj.mapSeq fun _=>#[])).push (seqObj "tuple" vs.toArray 0)).push (seqObj "list" #[] 0)
abbrev zipped (vs:List Value):Array Keyed:=vs.toArray.zip vs.toArray
theorem zipped_size (vs:List Value):(zipped vs).size=vs.length:=by simp [zipped]
theorem sort_list {a:Addr} {vs:List Value} {n:Nat} {P:Fin→Shared→Prop} (ho:s.heap.get? a=some (seqObj "list" vs.toArray n)) (h64:vs.length<64)
  (hk:2≤vs.length→∀ {Q:SortKind→Shared→Prop},Q k { s with heap:=amid s.heap a vs }→wpAny (model prog w) A (keyKind' vs.toArray) Q E { s with heap:=amid s.heap a vs })
  (T:Tells (model prog w) A (fun _ _=>False) { s with heap:=amid s.heap a vs } k (zipped vs) ρ)
  (h:∀ xs:Array Keyed,xs.Perm (zipped vs)→Up ρ xs vs.length→P (.done (.ret .none)) { s with heap:=sortedHeap s.heap a vs (xs.map (·.2)) }) :
  wpAny (model prog w) A (Builtin.«list.sort» ⟨[.ref a],[]⟩) P E s:=by
 have ha:a<s.heap.objs.size:=Heap.lt_size ho
 obtain ⟨n1,ho1⟩:∃ n1,(s.heap.update a (Obj.mapSeq fun _=>#[])).get? a=some (seqObj "list" #[] n1):=⟨_,get?_update_seq ho (fun _=>#[])⟩
 have ho2:(amid s.heap a vs).get? a=some (seqObj "list" #[] n1):=Heap.get?_push_of_some _ (Heap.get?_push_of_some _ ho1)
 have room:∀ xs:Array Keyed,xs.Perm (zipped vs)→(xs.map (·.2)).size≤sizeLine+1:=fun xs p=>by
  rw [Array.size_map,p.size_eq,zipped_size,sizeLine_eq];omega
 rw [list_sort_plain]
 refine wpAny_bind (listItems_at ho rfl ?_)
 refine wpAny_bind (listUpdate_at ho rfl ?_)
 refine wpAny_bind (seqEpoch_at ho1 rfl ?_)
 refine wpAny_bind (wpAny_newTuple ?_)
 refine wpAny_bind (wpAny_newList ?_)
 refine wpAny_holding ?_
 show wpAny (model prog w) A _ P E { s with heap:=amid s.heap a vs }
 dsimp only
 have last:∀ t:SortSt,(arrOf t).Perm (zipped vs)→failedOf t=none→Up ρ (arrOf t) vs.length →
   wpAny (model prog w) A (do
    let out:=(arrOf t).map (·.2)
    let touched:=(←seqEpoch a) != n1
    Builtin.List.listUpdate (.ref a) fun _=>out
    if let some e:=failedOf t then rule "list.sort.comparison-raised";throw e
    if touched then rule "list.sort.modified";raiseError "ValueError" "list modified during sort"
    ret .none) P E { s with heap:=amid s.heap a vs }:=by
  intro t p f u
  refine wpAny_bind (seqEpoch_at ho2 rfl ?_)
  refine wpAny_bind (listUpdate_at ho2 rfl ?_ (hsz2:=room _ p))
  rw [f]
  simp only [bne_self_eq_false,Bool.false_eq_true,if_false]
  exact wpAny_pure (h _ p u)
 by_cases c:vs.length<2
 ·have c':vs.toArray.size<2:=by simpa using c
  rw [if_pos c',if_pos c']
  refine wpAny_bind (wpAny_pure ?_)
  rw [StateT.run_pure]
  refine wpAny_bind (wpAny_pure ?_)
  exact last (SortSt.mk' general' (zipped vs) #[] 7 none) (Array.Perm.refl _) rfl (Up.one _ (by omega))
 ·have c':¬vs.toArray.size<2:=by simpa using c
  rw [if_neg c',if_neg c']
  refine wpAny_bind (hk (by omega) ?_)
  refine wpAny_bind (wpAny_mono (ordered (Q:=fun _ t=>(arrOf t).Perm (zipped vs)∧failedOf t=none∧Up ρ (arrOf t) (zipped vs).size) T
   (t:=SortSt.mk' k (zipped vs) #[] 7 none) (by rw [zipped_size];omega) (by rw [zipped_size];exact h64) ⟨rfl,Array.Perm.refl _,rfl, rfl⟩
   fun t' a1 a2 a3=>⟨a1,a2, a3⟩) ?_ fun _ _ e=>e.elim)
  rintro ⟨⟨⟩,t⟩ s' ⟨rfl,p,f, u⟩
  rw [zipped_size] at u
  exact last t p f u
end
end SO
namespace SO
def lx:List Int→List Int→Bool
 | [],[]=>false
 | [],_::_=>true
 | _::_,[]=>false
 | a::x,b::y=>if a=b then lx x y else decide (a<b)
theorem lx_self:∀ x:List Int,lx x x=false
 | []=>rfl
 | a::x=>by unfold lx;rw [if_pos rfl];exact lx_self x
theorem lx_trans:∀ x y u:List Int,lx x y=true→lx y u=true→lx x u=true
 | [],[],_,h,_=>by simp [lx] at h
 | [],_::_,[],_,h=>by simp [lx] at h
 | [],_::_,_::_,_,_=>rfl
 | _::_,[],_,h,_=>by simp [lx] at h
 | _::_,_::_,[],_,h=>by simp [lx] at h
 | a::x,b::y,c::u,h1,h2=>by
  unfold lx at h1 h2 ⊢
  by_cases e1:a=b
  ·rw [if_pos e1] at h1
   by_cases e2:b=c
   ·rw [if_pos e2] at h2;rw [if_pos (e1.trans e2)];exact lx_trans x y u h1 h2
   ·rw [if_neg e2] at h2;rw [if_neg (by omega)];rw [e1];exact h2
  ·rw [if_neg e1] at h1
   have l1:=of_decide_eq_true h1
   by_cases e2:b=c
   ·rw [if_neg (by omega)];exact decide_eq_true (by omega)
   ·rw [if_neg e2] at h2
    have l2:=of_decide_eq_true h2
    rw [if_neg (by omega)];exact decide_eq_true (by omega)
theorem lx_total:∀ x y:List Int,lx x y=false→lx y x=false→x=y
 | [],[],_,_=>rfl
 | [],_::_,h,_=>by simp [lx] at h
 | _::_,[],_,h=>by simp [lx] at h
 | a::x,b::y,h1,h2=>by
  unfold lx at h1 h2
  by_cases e:a=b
  ·rw [if_pos e] at h1;rw [if_pos e.symm] at h2;rw [e,lx_total x y h1 h2]
  ·rw [if_neg e] at h1;rw [if_neg (fun g=>e g.symm)] at h2
   have l1:=of_decide_eq_false h1;have l2:=of_decide_eq_false h2;omega
def place (L:List (List Int)) (x:List Int):Nat:=L.countP fun y=>lx y x
theorem place_le (L:List (List Int)) {x y:List Int} (h:lx x y=true):place L x≤place L y :=
 List.countP_mono_left fun u _ g=>lx_trans u x y g h
theorem place_lt:∀ (L:List (List Int)) {x y:List Int},x∈L→lx x y=true→place L x<place L y
 | [],_,_,m,_=>by cases m
 | u::L,x,y,m,h=>by
  unfold place
  rw [List.countP_cons,List.countP_cons]
  have a:=place_le L h
  unfold place at a
  by_cases e:u=x
  ·subst e
   rw [lx_self,h];simp;omega
  ·have b:=place_lt L (x:=x) (y:=y) (by cases m with | head=>exact absurd rfl e | tail _ g=>exact g) h
   unfold place at b
   by_cases g:lx u x=true
   ·rw [g,lx_trans _ _ _ g h];simp;omega
   ·have g':lx u x=false:=by simpa using g
    rw [g'];simp;omega
theorem place_iff (L:List (List Int)) {x y:List Int} (hx:x∈L) (hy:y∈L):decide ((place L x:Int)<place L y)=lx x y:=by
 cases h:lx x y with
 | true=>exact decide_eq_true (by have:=place_lt L hx h;omega)
 | false =>
  refine decide_eq_false ?_
  cases g:lx y x with
  | true=>have:=place_lt L hy g;omega
  | false=>rw [lx_total x y h g];omega
end SO
namespace SO
open PySem PyProof PyProof.Rows
section
variable {prog:Program} {w:World} {A:Around} {E:Value→Shared→Prop} {s:Shared}
theorem one_int (b:Bool) {x y:Int} {t u:Tok} {Q:Bool→Shared→Prop} (h:Q (decide (x<y)) s):wpAny (model prog w) A (oneLt' b (.int x t) (.int y u)) Q E s:=by
 cases b with
 | true=>exact oneLt_int h
 | false=>exact PySem.W.kat_one _ _ (wpAny_lt_int h)
theorem lex_ints {b fin:Bool} {Q:Bool→Shared→Prop}:∀ {xs ys:List Value} {ns ms:List Int} (i:Nat),IntsAre xs ns→IntsAre ys ms →
  fin=decide (ns.length<ms.length)→Q (lx ns ms) s→PySem.W.KatLex prog w A b fin Q (xs.zip ys) i s
 | _,_,_,_,i,.nil,.nil,e,q=>by subst e;exact PySem.W.kat_nil q
 | _,_,_,_,i,.nil,.cons _ _ _,e,q=>by
  subst e;refine PySem.W.kat_nil ?_
  rw [decide_eq_true (by simp)];exact q
 | _,_,_,_,i,.cons _ _ _,.nil,e,q=>by
  subst e;refine PySem.W.kat_nil ?_
  rw [decide_eq_false (by simp)];exact q
 | _,_,_,_,i,.cons (vs:=xs) (ns:=ns) n t hx,.cons (vs:=ys) (ns:=ms) m u hy,e,q=>by
  rw [List.zip_cons_cons]
  refine PySem.W.kat_cons (wpAny_eqBool_int ?_)
  unfold lx at q
  by_cases c:n=m
  ·rw [if_pos c] at q
   rw [show (n==m)=true by simpa using c]
   refine PySem.W.kat_yes (lex_ints (i+1) hx hy ?_ q)
   rw [e];simp
  ·rw [if_neg c] at q
   rw [show (n==m)=false by simpa using c]
   exact PySem.W.kat_no (one_int _ q)
def Tups (h:Heap) (vs:List Value) (kf:Value→List Int):Prop :=
 ∀ v∈vs,∃ a o xs n,v=.ref a∧h.get? a=some o∧o.cls=.type "tuple"∧o.data=.seq xs n∧IntsAre xs.toList (kf v)
def rank (vs:List Value) (kf:Value→List Int) (p:Keyed):Int:=place (vs.map kf) (kf p.1)
theorem of_zipped {vs:List Value} {p:Keyed} (h:p∈(zipped vs).toList):p.1∈vs:=by
 have:p∈vs.zip vs:=by simpa [zipped] using h
 exact (List.of_mem_zip (a:=p.1) (b:=p.2) this).1
theorem ints_len {xs:List Value} {ns:List Int} (h:IntsAre xs ns):xs.length=ns.length:=by
 induction h with
 | nil=>rfl
 | cons _ _ _ ih=>simp [ih]
theorem tells_tups {vs:List Value} {kf:Value→List Int} {b:Bool} (h:Tups s.heap vs kf):Tells (model prog w) A E s (tuples' b) (zipped vs) (rank vs kf):=by
 intro p q t Q hp hq hk hQ
 have mp:=of_zipped hp
 have mq:=of_zipped hq
 obtain ⟨a,o,xs,n,e1,g1,_,d1, i1⟩:=h _ mp
 obtain ⟨a',o',xs',n',e2,g2,_,d2, i2⟩:=h _ mq
 have r:decide (rank vs kf p<rank vs kf q)=lx (kf p.1) (kf q.1):=place_iff _ (Yf mp) (Yf mq)
 rw [r] at hQ
 rw [lt'_eq]
 refine wpS_bind (wpS_get ?_)
 rw [hk,e1,e2]
 refine wpS_bind (wpS_lift (wpAny_attempt (PySem.W.kat_lt g1 d1 g2 d2 (lex_ints 0 i1 i2 ?_ ⟨rfl,?_⟩))))
 ·have l1:=ints_len i1
  have l2:=ints_len i2
  simp only [Array.length_toList] at l1 l2
  rw [l1,l2]
 ·exact wpS_pure hQ
end
end SO
namespace SO
open PySem PyProof PyProof.Rows
open AutoSeq1 (wpAny_loadPart')
theorem ints_at:∀ {xs:List Value} {ns:List Int},IntsAre xs ns→∀ i,i<xs.length→∃ n t,xs[i]?=some (.int n t)∧ns[i]?=some n
 | _,_,.nil,i,h=>by simp at h
 | _,_,.cons n t _,0,_=>⟨n,t,rfl, rfl⟩
 | _,_,.cons _ _ r,i+1,h=>by
  obtain ⟨n,t,e1, e2⟩:=ints_at r i (by simpa using h)
  exact ⟨n,t,by simpa using e1, by simpa using e2⟩
theorem slotLt:PySem.Slot "list" "__lt__" "list.__lt__":=PySem.F.slot_list_lt
section
variable {prog:Program} {w:World} {A:Around} {E:Value→Shared→Prop} {s:Shared}
end
end SO
namespace SO
open PySem PyProof PyProof.Rows
theorem zip_self:∀ vs:List Value,vs.zip vs=vs.map fun v=>(v,v)
 | []=>rfl
 | v::vs=>by rw [List.zip_cons_cons,zip_self vs];rfl
theorem zipped_list (vs:List Value):(zipped vs).toList=vs.map fun v=>(v,v):=by
 rw [←zip_self];simp [zipped]
theorem twice {vs:List Value} {q:Keyed} (h:q∈(zipped vs).toList):q.2=q.1:=by
 rw [zipped_list] at h
 obtain ⟨v,_, rfl⟩:=Zh.mp h
 rfl
theorem came_out {vs:List Value} {kf:Value→List Int} {xs:Array Keyed} (p:xs.Perm (zipped vs)) (u:Up (rank vs kf) xs vs.length) :
  (xs.map (·.2)).toList.Perm vs∧(xs.map (·.2)).toList.Pairwise fun a b=>lx (kf b) (kf a)=false:=by
 have pl:=Array.perm_iff_toList_perm.mp p
 constructor
 ·have e:=pl.map (·.2)
  rw [zipped_list,Yg] at e
  have e2:vs.map ((fun q:Keyed=>q.2)∘fun v=>(v,v))=vs:=by
   have:((fun q:Keyed=>q.2)∘fun v:Value=>(v,v))=id:=rfl
   rw [this,List.map_id]
  rw [e2] at e
  rw [Array.toList_map]
  exact e
 ·rw [Array.toList_map,List.pairwise_map,List.pairwise_iff_getElem]
  intro i j hi hj hij
  have z:xs.size=vs.length:=by rw [p.size_eq,zipped_size]
  have hi':i<xs.size:=by simpa using hi
  have hj':j<xs.size:=by simpa using hj
  have r:=u i j (by omega) (by omega)
  have mi:xs[i]∈(zipped vs).toList:=pl.mem_iff.mp (by simp)
  have mj:xs[j]∈(zipped vs).toList:=pl.mem_iff.mp (by simp)
  have ri:rk (rank vs kf) xs i=rank vs kf xs[i]:=by simp [rk,hi']
  have rj:rk (rank vs kf) xs j=rank vs kf xs[j]:=by simp [rk,hj']
  rw [ri,rj] at r
  have t:=place_iff (vs.map kf) (x:=kf xs[j].1) (y:=kf xs[i].1) (Yf (of_zipped mj)) (Yf (of_zipped mi))
  rw [decide_eq_false (by unfold rank at r;omega)] at t
  simp only [Array.getElem_toList]
  rw [twice mi,twice mj]
  exact t.symm
section
variable {prog:Program} {w:World} {A:Around} {E:Value→Shared→Prop} {s:Shared}
theorem Tups.mono {h h':Heap} {vs:List Value} {kf:Value→List Int} (H:Tups h vs kf) (g:∀ b o,h.get? b=some o→h'.get? b=some o):Tups h' vs kf:=fun v m=>by
 obtain ⟨a,o,xs,n,e,g1, r⟩:=H v m
 exact ⟨a,o,xs,n,e,g _ _ g1, r⟩
end
end SO
namespace L2
open PySem PySem.Spec PyProof.Rows
section
variable {X:Cx}
theorem vals_refs:∀ {ps:List Addr} {us:List Value},Vals (ps.map V.ref) us→us=ps.map Value.ref
 | [],us,r=>by rw [List.map_nil] at r;cases r;rfl
 | p::ps,us,r=>by
  rw [List.map_cons] at r
  cases r with
  | cons a b =>
   rw [vals_refs b]
   cases a
   rfl
theorem refs_vals:∀ (ps:List Addr),Vals (ps.map V.ref) (ps.map Value.ref)
 | []=>.nil
 | _::ps=>.cons rfl (refs_vals ps)
end
end L2
namespace SO
open PySem PyProof PyProof.Rows
section
variable {prog:Program} {w:World} {A:Around} {E:Value→Shared→Prop} {s:Shared}
theorem firsts {h:Heap} {kf:Value→List Int}:∀ {vs:List Value},Tups h vs kf→(∀ v∈vs,kf v≠[]) →
  ∃ fs:List Value,PySem.W.KatTups h vs fs∧fs.length=vs.length∧∀ f∈fs,∃ n t,f=.int n t
 | [],_,_=>⟨[],PySem.W.KatTups.nil,rfl, fun _ m=>by cases m⟩
 | v::vs,H,ne=>by
  obtain ⟨fs,k,l, g⟩:=firsts (vs:=vs) (fun u m=>H u (.tail _ m)) fun u m=>ne u (.tail _ m)
  obtain ⟨a,o,xs,n,e,g1,c,d, i⟩:=H v (.head _)
  have hz:0<xs.toList.length:=by
   rw [ints_len i]
   exact List.length_pos_iff.mpr (ne v (.head _))
  obtain ⟨n0,t0,e0, _⟩:=ints_at i 0 hz
  subst e
  refine ⟨.int n0 t0::fs,PySem.W.KatTups.cons g1 c d (by simpa using e0) k,by simp [l], fun f m=>?_⟩
  cases m with
  | head=>exact ⟨n0,t0, rfl⟩
  | tail _ m=>exact g f m
end
end SO
namespace L2
open PySem PySem.Spec PyProof.Rows
section
variable {X:Cx}
end
end L2
namespace ST
open PySem PySem.SetTable
abbrev Bl (m:Nat):SetTable:={ mask:=m,place:=#[],dummies:=#[],finger:=0,led:=true,moves:=0,plain:=true }
def ad (m:Nat) (p:Probe):Probe:=(Bl m).advance p
def nth (m:Nat) (p:Probe):Nat→Probe
 | 0=>p
 | n+1=>ad m (nth m p n)
theorem nth_add (m:Nat) (p:Probe) (a:Nat):∀ b,nth m p (a+b)=nth m (nth m p a) b
 | 0=>rfl
 | b+1=>by rw [←Nat.add_assoc];show ad m _=ad m _;rw [nth_add m p a b]
theorem nth_succ (m:Nat) (p:Probe) (n:Nat):nth m (ad m p) n=nth m p (n+1):=by
 rw [Nat.add_comm n 1,nth_add];rfl
def st (m:Nat) (h:Int):Probe:=(Bl m).probeStart h
def lp (m:Nat) (h:Int):Nat→Nat×Nat
 | 0=>(bits h%(m+1),bits h)
 | k+1=>leap m (lp m h k).1 (lp m h k).2
structure At (m:Nat) (h:Int) (k:Nat) (p:Probe):Prop where
 i:p.i=(lp m h k).1
 pe:p.perturb=(lp m h k).2
 j:p.j=p.i
 mo:p.more=runEnd m p.i-p.i
 du:p.dummy=none
theorem st_at (m:Nat) (h:Int):At m h 0 (st m h):=⟨rfl,rfl,rfl,rfl, rfl⟩
theorem ad_more {m:Nat} {p:Probe} (h:0<p.more):ad m p={ p with j:=p.j+1,more:=p.more-1 }:=if_pos h
theorem ad_leap {m:Nat} {p:Probe} (h:p.more=0):ad m p={ p with j:=(leap m p.i p.perturb).1,more:=runEnd m (leap m p.i p.perturb).1-(leap m p.i p.perturb).1,i:=(leap m p.i p.perturb).1,perturb:=(leap m p.i p.perturb).2 }:=if_neg (by omega)
theorem run_on {m:Nat} {p:Probe}:∀ k,k≤p.more→nth m p k={ p with j:=p.j+k,more:=p.more-k }
 | 0,_=>rfl
 | k+1,h=>by
  have ih:=run_on (m:=m) (p:=p) k (by omega)
  show ad m (nth m p k)=_
  have hm:0<p.more-k:=by omega
  rw [ih,ad_more hm]
  show ({ p with j:=p.j+k+1,more:=p.more-k-1 }:Probe)=_
  rw [show p.more-k-1=p.more-(k+1) from rfl];rfl
theorem next_at {m:Nat} {h:Int} {k:Nat} {p:Probe} (a:At m h k p):At m h (k+1) (nth m p (p.more+1)):=by
 have e:nth m p (p.more+1)=ad m (nth m p p.more):=rfl
 rw [e,run_on p.more (Nat.le_refl _),ad_leap (by show p.more-p.more=0;omega)]
 refine ⟨?_,?_,rfl,rfl, a.du⟩
 ·show (leap m p.i p.perturb).1=(leap m (lp m h k).1 (lp m h k).2).1
  rw [a.i,a.pe]
 ·show (leap m p.i p.perturb).2=(leap m (lp m h k).1 (lp m h k).2).2
  rw [a.i,a.pe]
theorem more_le {m:Nat} {h:Int} {k:Nat} {p:Probe} (a:At m h k p):p.more≤9:=by
 rw [a.mo];unfold runEnd;split<;>omega
theorem at_k (m:Nat) (h:Int):∀ k,∃ n,n≤10*k∧At m h k (nth m (st m h) n)
 | 0=>⟨0,Nat.le_refl _, st_at m h⟩
 | k+1=>by
  obtain ⟨n,hn, a⟩:=at_k m h k
  refine ⟨n+((nth m (st m h) n).more+1),?_, ?_⟩
  ·have:=more_le a;omega
  ·rw [nth_add];exact next_at a
theorem bits_lt (h:Int):bits h<2 ^ 64:=by
 unfold bits
 have h0:0≤h%(2 ^ 64:Int):=Xz _ (by decide)
 have h1:h%(2 ^ 64:Int)<2 ^ 64:=Xj _ (by decide)
 omega
theorem pert (m:Nat) (h:Int):∀ k,(lp m h k).2=bits h / 32 ^ k
 | 0=>by show bits h=_;simp
 | k+1=>by
  show (lp m h k).2 / 32=_
  rw [pert m h k,Nat.div_div_eq_div_mul,Nat.pow_succ]
theorem pert0 (m:Nat) (h:Int) {k:Nat} (hk:13≤k):(lp m h k).2=0:=by
 rw [pert]
 refine Nat.div_eq_of_lt (Yt (bits_lt h) ?_)
 exact Yr (by decide:2 ^ 64≤32 ^ 13) (Nat.pow_le_pow_right (by decide) hk)
def cyc (m:Nat):Nat→Nat→Nat
 | i,0=>i
 | i,k+1=>(cyc m i k*5+1)%(m+1)
theorem lp_cyc (m:Nat) (h:Int):∀ k,(lp m h (13+k)).1=cyc m (lp m h 13).1 k
 | 0=>rfl
 | k+1=>by
  show ((lp m h (13+k)).1*5+1+(lp m h (13+k)).2 / 32)%(m+1)=(cyc m (lp m h 13).1 k*5+1)%(m+1)
  rw [pert0 m h (by omega),lp_cyc m h k]
theorem lp_lt (m:Nat) (h:Int):∀ k,(lp m h k).1<m+1
 | 0=>Nat.mod_lt _ (Nat.succ_pos m)
 | k+1=>Nat.mod_lt _ (Nat.succ_pos m)
def Ful (m:Nat):Prop:=∀ i,i<m+1→∀ j,j<m+1→∃ k,k<m+1∧cyc m i k=j
theorem ful7:Ful 7:=by unfold Ful;decide +kernel
theorem ful31:Ful 31:=by unfold Ful;decide +kernel
theorem comes {m:Nat} (f:Ful m) (h:Int) {j:Nat} (hj:j<m+1):∃ n,n≤10*m+130∧(nth m (st m h) n).j=j:=by
 obtain ⟨k,hk, e⟩:=f (lp m h 13).1 (lp_lt m h 13) j hj
 obtain ⟨n,hn, a⟩:=at_k m h (13+k)
 refine ⟨n,by omega, ?_⟩
 rw [a.j,a.i,lp_cyc,e]
theorem nth_du (m:Nat) (h:Int):∀ n,(nth m (st m h) n).dummy=none
 | 0=>rfl
 | n+1=>by
  have ih:=nth_du m h n
  show (ad m (nth m (st m h) n)).dummy=none
  by_cases hm:0<(nth m (st m h) n).more
  ·rw [ad_more hm];exact ih
  ·rw [ad_leap (by omega)];exact ih
theorem in_table (m:Nat) (h:Int):∀ n,(nth m (st m h) n).j+(nth m (st m h) n).more<m+1
 | 0=>by
  show bits h%(m+1)+(runEnd m (bits h%(m+1))-bits h%(m+1))<m+1
  have:bits h%(m+1)<m+1:=Nat.mod_lt (bits h) (Nat.succ_pos m)
  unfold runEnd;split<;>omega
 | n+1=>by
  have ih:=in_table m h n
  show (ad m (nth m (st m h) n)).j+(ad m (nth m (st m h) n)).more<m+1
  by_cases hm:0<(nth m (st m h) n).more
  ·rw [ad_more hm];show _+1+(_-1)<_;omega
  ·rw [ad_leap (by omega)]
   have:(leap m (nth m (st m h) n).i (nth m (st m h) n).perturb).1<m+1:=Nat.mod_lt _ (Nat.succ_pos m)
   show (leap m (nth m (st m h) n).i (nth m (st m h) n).perturb).1+(runEnd m (leap m (nth m (st m h) n).i (nth m (st m h) n).perturb).1-(leap m (nth m (st m h) n).i (nth m (st m h) n).perturb).1)<_
   generalize (leap m (nth m (st m h) n).i (nth m (st m h) n).perturb).1=x at this ⊢
   unfold runEnd;split<;>omega
theorem below_go {xs:Array Nat} {j:Nat} (up:∀ a b (h1:a<xs.size) (h2:b<xs.size),a<b→xs[a]<xs[b]):∀ (fuel lo hi:Nat),hi-lo≤fuel→lo≤hi→hi≤xs.size→(∀ i (h:i<xs.size),i<lo→xs[i]<j)→(∀ i (h:i<xs.size),hi≤i→j≤xs[i]) →
  below.go xs j fuel lo hi≤xs.size∧(∀ i (h:i<xs.size),i<below.go xs j fuel lo hi→xs[i]<j)∧(∀ i (h:i<xs.size),below.go xs j fuel lo hi≤i→j≤xs[i])
 | 0,lo,hi,hf,hl,hh,h1,h2=>by
  have:lo=hi:=by omega
  subst this
  exact ⟨hh,h1, h2⟩
 | fuel+1,lo,hi,hf,hl,hh,h1,h2=>by
  unfold below.go
  by_cases hlt:lo<hi
  ·rw [if_pos hlt]
   have hm:(lo+hi) / 2<xs.size:=by omega
   have e:xs.getD ((lo+hi) / 2) j=xs[(lo+hi) / 2]:=by simp [Array.getD,hm]
   show _≤_∧_
   dsimp only
   by_cases hc:xs.getD ((lo+hi) / 2) j<j
   ·rw [if_pos hc]
    refine below_go up fuel _ hi (by omega) (by omega) hh (fun i h hi'=>?_) h2
    by_cases q:i=(lo+hi) / 2
    ·subst q;rw [←e];exact hc
    ·have:=up i ((lo+hi) / 2) h hm (by omega)
     rw [e] at hc;omega
   ·rw [if_neg hc]
    refine below_go up fuel lo _ (by omega) (by omega) (by omega) h1 (fun i h hi'=>?_)
    by_cases q:i=(lo+hi) / 2
    ·subst q;rw [←e];omega
    ·have:=up ((lo+hi) / 2) i hm h (by omega)
     rw [e] at hc;omega
  ·rw [if_neg hlt]
   have:lo=hi:=by omega
   subst this
   exact ⟨hh,h1, h2⟩
theorem up_of {l:List Nat} (r:l.Pairwise (· < ·)):∀ a b (h1:a<l.toArray.size) (h2:b<l.toArray.size),a<b→l.toArray[a]<l.toArray[b]:=fun a b h1 h2 h=>by
 simp only [List.getElem_toArray]
 exact List.pairwise_iff_getElem.mp r a b (by simpa using h1) (by simpa using h2) h
theorem below_is {l:List Nat} (r:l.Pairwise (· < ·)) (j:Nat):below l.toArray j≤l.length∧(∀ i (h:i<l.length),i<below l.toArray j→l[i]<j)∧(∀ i (h:i<l.length),below l.toArray j≤i→j≤l[i]):=by
 have:=below_go (xs:=l.toArray) (j:=j) (up_of r) l.toArray.size 0 l.toArray.size (by omega) (Nat.zero_le _) (Nat.le_refl _) (fun i h hi=>by omega) (fun i h hi=>by omega)
 simpa [below] using this
theorem below_at {l:List Nat} (r:l.Pairwise (· < ·)) {i j:Nat} (h:l[i]?=some j):below l.toArray j=i:=by
 obtain ⟨h1,h2, h3⟩:=below_is r j
 obtain ⟨hi,e⟩:=Zj.mp h
 by_cases q:i<below l.toArray j
 ·have:=h2 i hi q;omega
 ·by_cases q2:below l.toArray j<i
  ·have a:=h3 (below l.toArray j) (by omega) (Nat.le_refl _)
   have b:=List.pairwise_iff_getElem.mp r (below l.toArray j) i (by omega) hi q2
   omega
  ·omega
structure Pl (t:SetTable) (l:List Nat):Prop where
 pl:t.place=l.toArray
 up:l.Pairwise (· < ·)
 du:t.dummies=#[]
theorem Pl.live {t:SetTable} {l:List Nat} (p:Pl t l) {i j:Nat} (h:l[i]?=some j):t.slot j=.live i:=by
 unfold slot
 rw [p.pl,below_at p.up h]
 have e:l.toArray[i]?=some j:=by simpa using h
 simp [h]
theorem Pl.empty {t:SetTable} {l:List Nat} (p:Pl t l) {j:Nat} (h:j∉l):t.slot j=.empty:=by
 unfold slot
 rw [p.pl,p.du]
 have e:¬(l.toArray[below l.toArray j]?==some j)=true:=by
  intro z
  rw [beq_iff_eq] at z
  refine h (Zg (i:=below l.toArray j) ?_)
  simpa using z
 have e2:has #[] j=false:=by unfold has;simp
 dsimp only
 rw [if_neg e,e2];rfl
theorem keep_du (m:Nat) (p:Probe):(ad m p).dummy=p.dummy:=by
 by_cases h:0<p.more
 ·rw [ad_more h]
 ·rw [ad_leap (by omega)]
theorem go_run {t:SetTable} {l:List Nat} (P:Pl t l) {hA:Nat→Int} {h:Int}:∀ (d fuel:Nat) (p:Probe),d<fuel→(∀ e,e<d→∃ i,l[i]?=some (nth t.mask p e).j∧hA i≠h) →
  ((nth t.mask p d).j∉l→probe.go t hA h fuel p=some (.empty (nth t.mask p d).j p.dummy))∧(∀ i,l[i]?=some (nth t.mask p d).j→hA i=h→probe.go t hA h fuel p=some (.candidate (nth t.mask p d).j i (nth t.mask p (d+1))))
 | 0,0,_,hf,_=>absurd hf (by omega)
 | 0,fuel+1,p,hf,hb=>by
  refine ⟨fun hn=>?_,fun i hi he=>?_⟩
  ·unfold probe.go
   rw [show p.j=(nth t.mask p 0).j from rfl,P.empty hn]
  ·unfold probe.go
   rw [show p.j=(nth t.mask p 0).j from rfl,P.live hi]
   simp only [he,beq_self_eq_true,if_true]
   rfl
 | d+1,0,_,hf,_=>absurd hf (by omega)
 | d+1,fuel+1,p,hf,hb=>by
  obtain ⟨i,hi, hne⟩:=hb 0 (by omega)
  have ih:=go_run P (hA:=hA) (h:=h) d fuel (ad t.mask p) (by omega) fun e he=>by
   obtain ⟨i',a, b⟩:=hb (e+1) (by omega)
   exact ⟨i',by rw [nth_succ];exact a, b⟩
  rw [nth_succ,nth_succ,keep_du] at ih
  have go1:probe.go t hA h (fuel+1) p=probe.go t hA h fuel (ad t.mask p):=by
   rw [probe.go]
   rw [show p.j=(nth t.mask p 0).j from rfl,P.live hi]
   have:(hA i==h)=false:=by rw [beq_eq_false_iff_ne];exact hne
   simp only [this]
   rfl
  rw [go1]
  exact ih
theorem least {P:Nat→Prop}:∀ {n:Nat},P n→∃ N,N≤n∧P N∧∀ e,e<N→¬P e
 | 0,h=>⟨0,Nat.le_refl _,h, fun e he=>absurd he (by omega)⟩
 | n+1,h=>by
  by_cases q:∃ e,e≤n∧P e
  ·obtain ⟨e,he, pe⟩:=q
   obtain ⟨N,h1,h2, h3⟩:=least (P:=fun k=>P k) (n:=e) pe
   exact ⟨N,by omega,h2, h3⟩
  ·exact ⟨n+1,Nat.le_refl _,h, fun e he pe=>q ⟨e,by omega, pe⟩⟩
termination_by n=>n
theorem sub_len {α:Type} [DecidableEq α]:∀ {a b:List α},a.Nodup→(∀ x∈a,x∈b)→a.length≤b.length
 | [],_,_,_=>Nat.zero_le _
 | x::a,b,nd,h=>by
  have hx:=h x Zd
  obtain ⟨n1,n2⟩:=List.nodup_cons.mp nd
  have:=sub_len (a:=a) (b:=b.erase x) n2 fun y hy=>(List.mem_erase_of_ne (show y≠x from fun z=>n1 (by rw [←z];exact hy))).mpr (h y (Zw _ hy))
  rw [List.length_erase_of_mem hx] at this
  have:=List.length_pos_of_mem hx
  simp only [Yq];omega
theorem some_free {l:List Nat} {m:Nat} (hl:l.length<m+1):∃ j,j<m+1∧j∉l:=by
 apply Classical.byContradiction
 intro z
 have:=sub_len (a:=List.range (m+1)) (b:=l) List.nodup_range fun x hx=>Classical.byContradiction fun q=>z ⟨x,Zs.mp hx, q⟩
 rw [Yj] at this
 omega
theorem ful_of {m:Nat} (h:m=7∨m=31):Ful m:=by
 rcases h with rfl | rfl
 ·exact ful7
 ·exact ful31
structure Tab (t:SetTable) (l:List Nat) (hs:List Int):Prop where
 p:Pl t l
 ma:t.mask=7∨t.mask=31
 ln:l.length=hs.length
 lt:∀ j∈l,j<t.mask+1
 way:∀ (i:Nat) h j,hs[i]?=some h→l[i]?=some j→∃ n,(nth t.mask (st t.mask h) n).j=j∧∀ e,e<n→(nth t.mask (st t.mask h) e).j∈l
theorem Tab.first {t:SetTable} {l:List Nat} {hs:List Int} (T:Tab t l hs) (hl:hs.length<t.mask+1) (h:Int) :
  ∃ N,N≤10*t.mask+130∧(nth t.mask (st t.mask h) N).j∉l∧∀ e,e<N→(nth t.mask (st t.mask h) e).j∈l:=by
 obtain ⟨j,h1, h2⟩:=some_free (l:=l) (by rw [T.ln];exact hl)
 obtain ⟨n,hn, e⟩:=comes (ful_of T.ma) h h1
 obtain ⟨N,a,b, c⟩:=least (P:=fun k=>(nth t.mask (st t.mask h) k).j∉l) (n:=n) (by rw [e];exact h2)
 exact ⟨N,by omega,b, fun e he=>Classical.byContradiction fun z=>c e he z⟩
theorem Tab.before {t:SetTable} {l:List Nat} {hs:List Int} (T:Tab t l hs) {h:Int} {N:Nat} (hN:(nth t.mask (st t.mask h) N).j∉l) {i:Nat} (hi:hs[i]?=some h):∃ n,n<N∧l[i]?=some (nth t.mask (st t.mask h) n).j:=by
 have hl:i<l.length:=by rw [T.ln];exact (Zj.mp hi).1
 obtain ⟨n,e, a⟩:=T.way i h l[i] hi (Zz hl)
 refine ⟨n,?_, by rw [e];exact Zz hl⟩
 apply Classical.byContradiction
 intro z
 by_cases q:n=N
 ·subst q;rw [e] at hN;exact hN (Zp hl)
 ·exact hN (a N (by omega))
def insL {α:Type} (l:List α) (p:Nat) (x:α):List α:=l.take p++x::l.drop p
theorem ins_arr {α:Type} (l:List α) (p:Nat) (x:α):insertAt l.toArray p x=(insL l p x).toArray:=by
 unfold insertAt insL
 have e:(l.drop p).take (l.length-p)=l.drop p:=List.take_of_length_le (by rw [Yd];omega)
 simp [e]
theorem insL_mem {α:Type} {l:List α} {p:Nat} {x y:α}:y∈insL l p x↔y=x∨y∈l:=by
 unfold insL
 rw [Zf,Zn]
 have h:y∈l↔y∈l.take p∨y∈l.drop p:=by rw [←Zf,List.take_append_drop]
 rw [h]
 constructor
 ·rintro (h | h | h)
  ·exact .inr (.inl h)
  ·exact .inl h
  ·exact .inr (.inr h)
 ·rintro (h | h | h)
  ·exact .inr (.inl h)
  ·exact .inl h
  ·exact .inr (.inr h)
theorem insL_len {α:Type} (l:List α) (p:Nat) (x:α):(insL l p x).length=l.length+1:=by
 unfold insL
 simp only [Zm,Yq,Yw,Yd];omega
theorem insL_perm {α:Type} (l:List α) (p:Nat) (x:α):(insL l p x).Perm (x::l):=by
 have:=List.perm_middle (a:=x) (l₁:=l.take p) (l₂:=l.drop p)
 rw [List.take_append_drop] at this
 exact this
theorem insL_get {α:Type} {l:List α} {p:Nat} (hp:p≤l.length) (x:α) (i:Nat):(insL l p x)[i]?=if i<p then l[i]? else if i=p then some x else l[i-1]?:=by
 unfold insL
 have lt:(l.take p).length=p:=by rw [Yw];omega
 by_cases h:i<p
 ·rw [if_pos h,Zx (by omega),List.getElem?_take_of_lt h]
 ·rw [if_neg h,Zy (by omega),lt]
  by_cases q:i=p
  ·rw [if_pos q,q,Nat.sub_self];rfl
  ·rw [if_neg q]
   obtain ⟨k,rfl⟩:∃ k,i=p+k+1:=⟨i-p-1,by omega⟩
   rw [show p+k+1-p=k+1 by omega,List.getElem?_cons_succ,List.getElem?_drop]
   rfl
theorem insL_map {α β:Type} (f:α→β) (l:List α) (p:Nat) (x:α):(insL l p x).map f=insL (l.map f) p (f x):=by
 unfold insL
 rw [Zt,List.map_cons,List.map_take,List.map_drop]
theorem Tab.put {t:SetTable} {l:List Nat} {hs:List Int} (T:Tab t l hs) {h:Int} {j n:Nat} (hj:j∉l) (hn:(nth t.mask (st t.mask h) n).j=j) (ha:∀ e,e<n→(nth t.mask (st t.mask h) e).j∈l) :
  ∃ p,p≤hs.length∧(t.put j).2=p∧(t.put j).1={ t with place:=(insL l p j).toArray,dummies:=#[] }∧Tab (t.put j).1 (insL l p j) (insL hs p h):=by
 obtain ⟨b1,b2, b3⟩:=below_is T.p.up j
 have hp:below t.place j=below l.toArray j:=by rw [T.p.pl]
 have e0:has t.dummies j=false:=by rw [T.p.du];unfold has;simp
 have e1:(t.put j).1={ t with place:=(insL l (below l.toArray j) j).toArray,dummies:=#[] }:=by
  unfold SetTable.put
  dsimp only
  rw [e0,hp,T.p.pl,ins_arr,T.p.du];rfl
 refine ⟨below l.toArray j,by rw [←T.ln];exact b1,hp,e1, ?_⟩
 have hm:(t.put j).1.mask=t.mask:=by rw [e1]
 have jlt:j<t.mask+1:=by have:=in_table t.mask h n;rw [hn] at this;omega
 refine ⟨⟨by rw [e1],?_, by rw [e1]⟩,by rw [hm];exact T.ma,by rw [insL_len,insL_len,T.ln],fun x hx=>?_, fun i h' j' h1 h2=>?_⟩
 ·unfold insL
  rw [List.pairwise_append]
  refine ⟨T.p.up.sublist (List.take_sublist _ _),?_, fun a ha b hb=>?_⟩
  ·rw [List.pairwise_cons]
   refine ⟨fun b hb=>?_,T.p.up.sublist (List.drop_sublist _ _)⟩
   obtain ⟨k,hk, rfl⟩:=Yy.mp hb
   rw [List.getElem_drop]
   rw [Yd] at hk
   have:=b3 (below l.toArray j+k) (by omega) (by omega)
   have ne:l[below l.toArray j+k]'(by omega)≠j:=fun z=>hj (z▸Zp _)
   omega
  ·obtain ⟨k,hk, rfl⟩:=Yy.mp ha
   rw [List.getElem_take]
   rw [Yw] at hk
   have q1:=b2 k (by omega) (by omega)
   rcases Zn.mp hb with rfl | hb
   ·exact q1
   ·obtain ⟨k2,hk2, rfl⟩:=Yy.mp hb
    rw [List.getElem_drop]
    rw [Yd] at hk2
    have:=b3 (below l.toArray j+k2) (by omega) (by omega)
    omega
 ·rw [hm]
  rcases insL_mem.mp hx with rfl | hx
  ·exact jlt
  ·exact T.lt x hx
 ·rw [hm]
  rw [insL_get b1] at h2
  rw [insL_get (by rw [←T.ln];exact b1)] at h1
  by_cases q1:i<below l.toArray j
  ·rw [if_pos q1] at h1 h2
   obtain ⟨n',a, b⟩:=T.way i h' j' h1 h2
   exact ⟨n',a, fun e he=>insL_mem.mpr (.inr (b e he))⟩
  ·rw [if_neg q1] at h1 h2
   by_cases q2:i=below l.toArray j
   ·rw [if_pos q2] at h1 h2
    cases h1;cases h2
    exact ⟨n,hn, fun e he=>insL_mem.mpr (.inr (ha e he))⟩
   ·rw [if_neg q2] at h1 h2
    obtain ⟨n',a, b⟩:=T.way (i-1) h' j' h1 h2
    exact ⟨n',a, fun e he=>insL_mem.mpr (.inr (b e he))⟩
abbrev Ow:=Array (Option Nat)
def og (O:Ow) (j:Nat):Option Nat:=O.getD j none
theorem og_none {O:Ow} {j:Nat} (h:j<O.size):(O.getD j (some 0)).isNone=true↔og O j=none:=by
 unfold og;simp [Array.getD,h]
theorem free_is {m:Nat} (f:Ful m) {O:Ow} (hz:O.size=m+1) {h:Int} (hf:∃ j,j<m+1∧og O j=none):∀ (fuel k n:Nat),fuel+k=m+15→At m h k (nth m (st m h) n)→(∀ e,e<n→og O (nth m (st m h) e).j≠none)→(∀ r,r<k→og O (lp m h r).1≠none) →
  ∃ n',layClean.free m O fuel (lp m h k).1 (lp m h k).2=some (nth m (st m h) n').j∧og O (nth m (st m h) n').j=none∧∀ e,e<n'→og O (nth m (st m h) e).j≠none
 | 0,k,n,hk,_,_,hB=>by
  exfalso
  obtain ⟨j,h1, h2⟩:=hf
  obtain ⟨q,hq, e⟩:=f (lp m h 13).1 (lp_lt m h 13) j h1
  refine hB (13+q) (by omega) ?_
  rw [lp_cyc,e];exact h2
 | fuel+1,k,n,hk,hA,hP,hB=>by
  unfold layClean.free
  have hi:(nth m (st m h) n).i=(lp m h k).1:=hA.i
  have hjl:=in_table m h n
  have hmo:=hA.mo
  rw [hA.j,hi] at hjl
  rw [hi] at hmo
  have run:∀ q,q≤(nth m (st m h) n).more→(nth m (st m h) (n+q)).j=(lp m h k).1+q:=fun q hq=>by
   rw [nth_add,run_on q hq]
   show (nth m (st m h) n).j+q=_
   rw [hA.j,hi]
  have rl:(lp m h k).1≤runEnd m (lp m h k).1:=by unfold runEnd;split<;>omega
  cases e:(List.range (runEnd m (lp m h k).1+1-(lp m h k).1)).find? fun q=>(O.getD ((lp m h k).1+q) (some 0)).isNone with
  | some q =>
   have h1:=List.find?_some e
   have h2:=Zs.mp (List.mem_of_find?_eq_some e)
   have hq:q≤(nth m (st m h) n).more:=by rw [hmo];omega
   refine ⟨n+q,by rw [run q hq],?_, fun e' he=>?_⟩
   ·rw [run q hq]
    exact (og_none (by omega)).mp h1
   ·by_cases c:e' < n
    ·exact hP e' c
    ·obtain ⟨d,rfl⟩:∃ d,e'=n+d:=⟨e' - n,by omega⟩
     rw [run d (by omega)]
     intro z
     obtain ⟨as,bs,e3, e4⟩:=(List.find?_eq_some_iff_append.mp e).2
     have hd:d∈as:=by
      have e5:as=List.range q:=by
       have l1:(List.range (runEnd m (lp m h k).1+1-(lp m h k).1))[as.length]?=some q:=by rw [e3];simp
       have l2:=(Zj.mp l1)
       obtain ⟨l3,l4⟩:=l2
       rw [List.getElem_range] at l4
       have:=congrArg (List.take as.length) e3
       rw [List.take_append_of_le_length (Nat.le_refl _),Yv,List.take_range,l4] at this
       rw [←this,Nat.min_eq_left (by omega)]
      rw [e5];exact Zs.mpr (by omega)
     have:=e4 d hd
     rw [(og_none (by omega)).mpr z] at this
     simp at this
  | none =>
   have h1:=List.find?_eq_none.mp e
   have occ:∀ q,q≤(nth m (st m h) n).more→og O ((lp m h k).1+q)≠none:=fun q hq z=>by
    have:=h1 q (Zs.mpr (by omega))
    rw [(og_none (by omega)).mpr z] at this
    exact this rfl
   have hA':=next_at hA
   rw [←nth_add] at hA'
   refine free_is f hz hf fuel (k+1) _ (by omega) hA' (fun e' he=>?_) (fun r hr=>?_)
   ·by_cases c:e' < n
    ·exact hP e' c
    ·obtain ⟨d,rfl⟩:∃ d,e'=n+d:=⟨e' - n,by omega⟩
     rw [run d (by omega)]
     exact occ d (by omega)
   ·by_cases c:r<k
    ·exact hB r c
    ·have:r=k:=by omega
     subst this
     exact occ 0 (Nat.zero_le _)
structure Ld (m:Nat) (hs:List Int) (O:Ow) (k:Nat):Prop where
 sz:O.size=m+1
 un:∀ j q,og O j=some q→q<k∧∀ j',og O j'=some q→j'=j
 al:∀ q,q<k→∃ j h,og O j=some q∧j<m+1∧hs[q]?=some h∧∃ n,(nth m (st m h) n).j=j∧∀ e,e<n→og O (nth m (st m h) e).j≠none
theorem og_set {O:Ow} {j:Nat} (h:j<O.size) (v:Option Nat) (i:Nat):og (O.setIfInBounds j v) i=if i=j then v else og O i:=by
 unfold og
 by_cases c:i=j
 ·subst c;simp [Array.getD,h]
 ·rw [if_neg c]
  simp only [Array.getD,Array.size_setIfInBounds]
  by_cases hi:i<O.size
  ·simp [hi,Array.getElem_setIfInBounds,Ne.symm c]
  ·simp [hi]
theorem Ld.put {m:Nat} {hs:List Int} {O:Ow} {k:Nat} (L:Ld m hs O k) {h:Int} (hk:hs[k]?=some h) {n:Nat} (h0:og O (nth m (st m h) n).j=none) (ha:∀ e,e<n→og O (nth m (st m h) e).j≠none):Ld m hs (O.setIfInBounds (nth m (st m h) n).j (some k)) (k+1):=by
 have hj:(nth m (st m h) n).j<O.size:=by rw [L.sz];have:=in_table m h n;omega
 have mono:∀ {i},og O i≠none→og (O.setIfInBounds (nth m (st m h) n).j (some k)) i≠none:=fun {i} hi=>by
  rw [og_set hj];split
  ·simp
  ·exact hi
 refine ⟨by rw [Array.size_setIfInBounds];exact L.sz,fun j q e=>?_, fun q hq=>?_⟩
 ·rw [og_set hj] at e
  by_cases c:j=(nth m (st m h) n).j
  ·rw [if_pos c] at e
   cases e
   refine ⟨by omega,fun j' e'=>?_⟩
   rw [og_set hj] at e'
   by_cases c':j'=(nth m (st m h) n).j
   ·rw [c,c']
   ·rw [if_neg c'] at e'
    have:=(L.un j' k e').1;omega
  ·rw [if_neg c] at e
   obtain ⟨a,b⟩:=L.un j q e
   refine ⟨by omega,fun j' e'=>?_⟩
   rw [og_set hj] at e'
   by_cases c':j'=(nth m (st m h) n).j
   ·rw [if_pos c'] at e';cases e';omega
   ·rw [if_neg c'] at e';exact b j' e'
 ·by_cases c:q<k
  ·obtain ⟨j,h',a,b,d,n',e1, e2⟩:=L.al q c
   refine ⟨j,h',?_,b,d,n',e1, fun e he=>mono (e2 e he)⟩
   rw [og_set hj,if_neg (fun z=>by rw [z,h0] at a;cases a)];exact a
  ·have:q=k:=by omega
   subst this
   refine ⟨_,h,by rw [og_set hj,if_pos rfl],by rw [←L.sz];exact hj,hk,n,rfl, fun e he=>mono (ha e he)⟩
def us (m:Nat) (O:Ow):List Nat:=(List.range (m+1)).filter fun j=>(og O j).isSome
theorem us_mem {m:Nat} {O:Ow} {j:Nat} (hz:O.size=m+1):j∈us m O↔og O j≠none:=by
 unfold us
 rw [Yz,Zs]
 constructor
 ·rintro ⟨_,h⟩ z;rw [z] at h;cases h
 ·intro h
  refine ⟨?_,by cases e:og O j with | none=>exact absurd e h | some x=>rfl⟩
  apply Classical.byContradiction
  intro c
  apply h
  unfold og
  simp [Array.getD,hz,c]
def od (m:Nat) (O:Ow):List Nat:=(us m O).map fun j=>(og O j).getD 0
theorem od_perm {m:Nat} {hs:List Int} {O:Ow} {k:Nat} (L:Ld m hs O k):(od m O).Perm (List.range k):=by
 have nd:(us m O).Nodup:=List.nodup_range.filter _
 refine (List.perm_ext_iff_of_nodup ?_ List.nodup_range).mpr fun q=>?_
 ·unfold od
  refine List.nodup_iff_pairwise_ne.mpr (List.pairwise_map.mpr ((List.nodup_iff_pairwise_ne.mp nd).imp_of_mem fun {a b} ha hb hab z=>?_))
  have h1:=(us_mem L.sz).mp ha
  have h2:=(us_mem L.sz).mp hb
  cases e1:og O a with
  | none=>exact h1 e1
  | some x =>
   cases e2:og O b with
   | none=>exact h2 e2
   | some y =>
    rw [e1,e2] at z
    have z:x=y:=z
    subst z
    exact hab ((L.un b x e2).2 a e1)
 ·unfold od
  rw [Zh,Zs]
  constructor
  ·rintro ⟨j,hj, e⟩
   have h1:=(us_mem L.sz).mp hj
   cases e1:og O j with
   | none=>exact absurd e1 h1
   | some x=>rw [e1] at e;have e:x=q:=e;subst e;exact (L.un j x e1).1
  ·intro hq
   obtain ⟨j,h,a, _⟩:=L.al q hq
   exact ⟨j,(us_mem L.sz).mpr (by rw [a];simp), by rw [a];rfl⟩
theorem us_len {m:Nat} {hs:List Int} {O:Ow} {k:Nat} (L:Ld m hs O k):(us m O).length=k:=by
 have:=(od_perm L).length_eq
 rw [od,Zq,Yj] at this
 exact this
theorem Ld.step {m:Nat} (f:Ful m) {hs:List Int} {O:Ow} {k:Nat} (L:Ld m hs O k) (hk:k<m+1) {h:Int} (hh:hs[k]?=some h):∃ j,layClean.free m O (turns m) (bits h%(m+1)) (bits h)=some j∧Ld m hs (O.setIfInBounds j (some k)) (k+1):=by
 obtain ⟨j,h1, h2⟩:=some_free (l:=us m O) (m:=m) (by rw [us_len L];exact hk)
 have hf:∃ j,j<m+1∧og O j=none:=⟨j,h1, Classical.byContradiction fun z=>h2 ((us_mem L.sz).mpr z)⟩
 obtain ⟨n,a,b, c⟩:=free_is f L.sz (h:=h) hf (m+15) 0 0 rfl (st_at m h) (fun e he=>absurd he (by omega)) (fun r hr=>absurd hr (by omega))
 exact ⟨_,a, L.put hh b c⟩
def stp (m:Nat) (acc:Option (Ow×Nat)) (h:Int):Option (Ow×Nat):=do
 let (owner,k) ←acc
 let j ←layClean.free m owner (turns m) (bits h%(m+1)) (bits h)
 pure (owner.setIfInBounds j (some k),k+1)
theorem lay_fold {m:Nat} (f:Ful m) {hs:List Int} (hl:hs.length<m+1):∀ (k:Nat) (O:Ow),k≤hs.length→Ld m hs O k→∃ O',(hs.drop k).foldl (stp m) (some (O,k))=some (O',hs.length)∧Ld m hs O' hs.length:=by
 intro k
 induction hd:hs.length-k generalizing k with
 | zero =>
  intro O hk L
  have:k=hs.length:=by omega
  subst this
  exact ⟨O,by rw [List.drop_length];rfl, L⟩
 | succ d ih =>
  intro O hk L
  have hlt:k<hs.length:=by omega
  obtain ⟨j,e, L'⟩:=L.step f (by omega) (Zz hlt)
  obtain ⟨O',a, b⟩:=ih (k+1) (by omega) _ (by omega) L'
  refine ⟨O',?_, b⟩
  rw [List.drop_eq_getElem_cons hlt,List.foldl_cons]
  have:stp m (some (O,k)) hs[k]=some (O.setIfInBounds j (some k),k+1):=by
   unfold stp
   simp [e]
  rw [this];exact a
theorem laid_is {m:Nat} (hm:m=7∨m=31) {hs:List Int} (hl:hs.length<m+1) (finger moves:Nat) (led plain:Bool):∃ (l order:List Nat),laid m finger moves led plain hs.toArray=some ({ mask:=m,place:=l.toArray,dummies:=#[],finger,led,moves,plain },order.toArray)∧order.Perm (List.range hs.length) ∧
  Tab { mask:=m,place:=l.toArray,dummies:=#[],finger,led,moves,plain } l (order.filterMap (hs[·]?)):=by
 have L0:Ld m hs (Array.replicate (m+1) none) 0:=⟨by simp,fun j q e=>by unfold og at e;simp [Array.getD] at e, fun q hq=>absurd hq (by omega)⟩
 obtain ⟨O,e, L⟩:=lay_fold (ful_of hm) hl 0 _ (Nat.zero_le _) L0
 rw [List.drop_zero] at e
 have e1:layClean m hs.toArray=some O:=by
  unfold layClean
  rw [List.foldl_toArray]
  have:hs.foldl (stp m) (some (Array.replicate (m+1) none,0))=some (O,hs.length):=e
  exact congrArg (fun z=>z.map (·.1)) this
 have hp:=od_perm L
 have live:((List.range (m+1)).filterMap fun j=>(O.getD j none).map (j,·))=(us m O).map fun j=>(j,(og O j).getD 0):=by
  unfold us
  generalize List.range (m+1)=xs
  induction xs with
  | nil=>rfl
  | cons x xs ih =>
   rw [List.filterMap_cons,List.filter_cons]
   unfold og at ih ⊢
   cases c:O.getD x none with
   | none=>simp only [Option.map_none,Option.isSome_none];exact ih
   | some y=>simp only [Option.map_some,Option.isSome_some,if_true,List.map_cons,c,Option.getD_some];rw [ih]
 have e2:laid m finger moves led plain hs.toArray=some ({ mask:=m,place:=(us m O).toArray,dummies:=#[],finger,led,moves,plain },(od m O).toArray):=by
  unfold laid
  rw [e1]
  show some _=some _
  rw [live,Yg,Yg]
  have:((us m O).map ((fun x=>x.1)∘fun j=>(j,(og O j).getD 0)))=us m O:=by
   rw [show ((fun x:Nat×Nat=>x.1)∘fun j=>(j,(og O j).getD 0))=id from rfl,List.map_id]
  rw [this];rfl
 have flt:∀ q∈od m O,q<hs.length:=fun q hq=>Zs.mp (hp.mem_iff.mp hq)
 have fm:∀ (xs:List Nat),(∀ q∈xs,q<hs.length)→(xs.filterMap (hs[·]?)).length=xs.length∧∀ i:Nat,(xs.filterMap (hs[·]?))[i]?=(xs[i]?).bind (hs[·]?):=by
  intro xs
  induction xs with
  | nil=>intro _;exact ⟨rfl,fun i=>by simp⟩
  | cons x xs ih =>
   intro h
   obtain ⟨a,b⟩:=ih fun q hq=>h q (Zw _ hq)
   have hx:=h x Zd
   rw [List.filterMap_cons,Zz hx]
   refine ⟨by simp [a],fun i=>?_⟩
   cases i with
   | zero=>simp [hx]
   | succ i=>simp [b i]
 obtain ⟨f1,f2⟩:=fm _ flt
 refine ⟨us m O,od m O,e2,hp, ⟨⟨rfl,?_, rfl⟩,hm,?_,fun j hj=>?_, fun i h j h1 h2=>?_⟩⟩
 ·exact List.pairwise_lt_range.filter _
 ·rw [f1,od,Zq]
 ·exact Zs.mp (Yz.mp hj).1
 ·rw [f2] at h1
  have hd:(od m O)[i]?=some ((og O j).getD 0):=by unfold od;rw [Zk,h2];rfl
  rw [hd] at h1
  have hju:=(us_mem L.sz).mp (Zg h2)
  cases c:og O j with
  | none=>exact absurd c hju
  | some q =>
   rw [c] at h1
   have h1:hs[q]?=some h:=h1
   obtain ⟨j',h',a,_,d,n,p1, p2⟩:=L.al q (L.un j q c).1
   rw [h1] at d
   cases d
   have:j'=j:=(L.un j q c).2 j' a
   subst this
   exact ⟨n,p1, fun e he=>(us_mem L.sz).mpr (p2 e he)⟩
end ST
set_option maxRecDepth 100000
namespace ST
open PySem PySem.SetTable
variable {prog:Program} {w:World} {A:Around} {E:Value→Shared→Prop} {s:Shared}
abbrev IK (prog:Program) (w:World):=intKind prog w
theorem items_int {ks:List Int} {vs:List Value} (h:ItemsAre (IK prog w) ks vs):∀ v∈vs,∃ k t,v=.int k t:=by
 induction h with
 | nil=>intro v hv;simp at hv
 | cons h1 _ ih =>
  intro v hv
  rcases Zn.mp hv with rfl | hv
  ·obtain ⟨t,rfl⟩:=Value.isInt_shape h1;exact ⟨_,t, rfl⟩
  ·exact ih v hv
theorem by_value {ks:List Int} {b:Addr} {Q:Bool→Shared→Prop} (hk:IsTupleKey (IK prog w) s.heap ks b) (h:Q true s):wpAny (model prog w) A (hashByValue 8 (.ref b)) Q E s:=by
 have hT:=hk.typeIs
 obtain ⟨o,items,n,ho,_,hd, hi⟩:=hk
 unfold hashByValue
 refine wpAny_bind (wpAny_specialOf hT F.slot_tuple_hash.lookup ?_)
 dsimp only
 refine wpAny_bind (wpAny_seqItems ho hd ?_)
 refine wpAny_bind ?_
 show wpAny _ _ (forIn items _ _) _ _ s
 rw [←Array.forIn_toList]
 refine wpAny_forIn_list _ (fun rest r s'=>r.1=none∧s'=s∧∀ v∈rest,∃ k t,v=.int k t) _ ?_ ?_ _ _ ⟨rfl,rfl, items_int hi⟩
 ·rintro v rest r s' ⟨hr,rfl, hall⟩
  obtain ⟨k,t, rfl⟩:=hall v Zd
  refine wpAny_bind (wpAny_pure ?_)
  exact wpAny_pure ⟨rfl,rfl, fun u hu'=>hall u (Zw _ hu')⟩
 ·rintro ⟨r1,r2⟩ s' ⟨hr,rfl, _⟩
  simp only at hr
  subst hr
  exact wpAny_pure h
theorem no_class {ks:List Int} {b:Addr} {Q:Bool→Shared→Prop} (hk:IsTupleKey (IK prog w) s.heap ks b) (h:Q false s):wpAny (model prog w) A (ofAClassStatement 8 (.ref b)) Q E s:=by
 have hT:=hk.typeIs
 obtain ⟨o,items,n,ho,_,hd, hi⟩:=hk
 unfold ofAClassStatement
 refine wpAny_bind (wpAny_typeOf hT ?_)
 refine wpAny_bind (wpAny_pure ?_)
 simp only [Bool.not_true,Bool.false_eq_true,if_false]
 refine wpAny_bind (wpAny_seqItems ho hd ?_)
 refine wpAny_bind ?_
 show wpAny _ _ (forIn items _ _) _ _ s
 rw [←Array.forIn_toList]
 refine wpAny_forIn_list _ (fun rest r s'=>r.1=none∧s'=s∧∀ v∈rest,∃ k t,v=.int k t) _ ?_ ?_ _ _ ⟨rfl,rfl, items_int hi⟩
 ·rintro v rest r s' ⟨hr,rfl, hall⟩
  obtain ⟨k,t, rfl⟩:=hall v Zd
  refine wpAny_bind (wpAny_pure ?_)
  exact wpAny_pure ⟨rfl,rfl, fun u hu'=>hall u (Zw _ hu')⟩
 ·rintro ⟨r1,r2⟩ s' ⟨hr,rfl, _⟩
  simp only at hr
  subst hr
  exact wpAny_pure h
theorem unseen {ks:List Int} {b:Addr} {Q:Bool→Shared→Prop} (hk:IsTupleKey (IK prog w) s.heap ks b) {st:List Value} (hst:∀ v∈st,∃ x c,v=.ref c∧IsTupleKey (IK prog w) s.heap x c) (h:Q false s):wpAny (model prog w) A (searchCouldBeSeen (.ref b) st) Q E s:=by
 unfold searchCouldBeSeen
 refine wpAny_bind ?_
 refine wpAny_forIn_list _ (fun rest r s'=>r.1=none∧s'=s∧∀ v∈rest,∃ x c,v=.ref c∧IsTupleKey (IK prog w) s.heap x c) _ ?_ ?_ _ _ ⟨rfl,rfl, hst⟩
 ·rintro v rest r s' ⟨hr,rfl, hall⟩
  obtain ⟨x,c,rfl, hx⟩:=hall v Zd
  have hrest:=fun u hu'=>hall u (Zw _ hu')
  dsimp only
  by_cases q:(b==c||carriedByValue (.ref b)&&carriedByValue (.ref c))=true
  ·rw [if_pos q];exact wpAny_pure ⟨rfl,rfl, hrest⟩
  ·rw [if_neg q]
   refine wpAny_bind ((tupleKind (IK prog w)).quiet hk ?_)
   simp only [Bool.not_true,Bool.false_eq_true,if_false]
   refine wpAny_bind ((tupleKind (IK prog w)).quiet hx ?_)
   simp only [Bool.not_true,Bool.false_eq_true,if_false]
   refine wpAny_bind (no_class hk ?_)
   simp only [Bool.false_eq_true,if_false]
   refine wpAny_bind (no_class hx ?_)
   simp only [Bool.false_eq_true,if_false]
   exact wpAny_pure ⟨rfl,rfl, hrest⟩
 ·rintro ⟨r1,r2⟩ s' ⟨hr,rfl, _⟩
  simp only at hr
  subst hr
  exact wpAny_pure h
end ST
set_option maxRecDepth 100000
namespace ST
open PySem PySem.SetTable
variable {prog:Program} {w:World} {A:Around} {E:Value→Shared→Prop} {s:Shared}
abbrev hk (prog:Program) (w:World) (k:List Int):Int:=tupleKeyHash (IK prog w) k
def ent (prog:Program) (w:World) (x:List Int×Addr):Int×Value:=(hk prog w x.1,.ref x.2)
abbrev Xs:=List (List Int×Addr)
theorem ent_at {xs:Xs} {i:Nat} {x:List Int×Addr} (h:xs[i]?=some x):(xs.map (ent prog w)).toArray[i]?=some (hk prog w x.1,.ref x.2):=by
 rw [List.getElem?_toArray,Zk,h];rfl
theorem mask_odd {m:Nat} (h:m=7∨m=31):(m%2==0)=false:=by rcases h with rfl | rfl<;>rfl
theorem Tab.fits {t:SetTable} {l:List Nat} {hs:List Int} (T:Tab t l hs) (few:hs.length<t.mask+1) {n:Nat} (hn:n=hs.length):t.fits n=true:=by
 unfold SetTable.fits SetTable.fill
 rw [T.p.pl,T.p.du]
 simp [T.ln,hn];omega
theorem search_is {a b:Addr} {k:List Int} {xs:Xs} {o:Obj} {ep:Nat} {t:SetTable} {l:List Nat} {Q:SetFound→Shared→Prop} (room:A.units<cLine) (ho:s.heap.get? a=some o) (hd:o.data=.set (xs.map (ent prog w)).toArray ep t)
  (T:Tab t l (xs.map fun x=>hk prog w x.1)) (few:xs.length<t.mask+1) (hks:∀ x∈xs,IsTupleKey (IK prog w) s.heap x.1 x.2) (hb:IsTupleKey (IK prog w) s.heap k b) {N:Nat} (hN:(nth t.mask (st t.mask (hk prog w k)) N).j∉l) (hB:∀ e,e<N→(nth t.mask (st t.mask (hk prog w k)) e).j∈l) (hNl:N≤10*t.mask+130)
  (q:∀ f,((∃ x∈xs,x.1=k)→f=.there none)→((¬∃ x∈xs,x.1=k)→f=.free (nth t.mask (st t.mask (hk prog w k)) N).j false)→Q f s) :
  ∀ (fuel n d:Nat) (stand:Option Probe),n+d=N→d<fuel→stand.getD (t.probeStart (hk prog w k))=nth t.mask (st t.mask (hk prog w k)) n→(∀ e,e<n→∀ (i:Nat) x,l[i]?=some (nth t.mask (st t.mask (hk prog w k)) e).j→xs[i]?=some x→x.1≠k) →
   wpAny (model prog w) A (setSearchFrom a (.ref b) (hk prog w k) true fuel stand) Q E s:=by
 have hfit:=T.fits (by rw [Zq];exact few) (n:=(xs.map (ent prog w)).toArray.size) (by simp)
 intro fuel
 induction fuel with
 | zero=>intro n d stand _ hf;omega
 | succ fuel ih =>
  intro n d stand hnd hf hst hno
  unfold setSearchFrom
  refine wpAny_bind (wpAny_setState_of ho hd hfit ?_)
  dsimp only
  have gw:t.gaveWay=false:=mask_odd T.ma
  rw [gw]
  simp only [Bool.false_eq_true,if_false]
  rw [hst]
  obtain ⟨m1,hm1,hP, hlt⟩:=least (P:=fun e=>(nth t.mask (st t.mask (hk prog w k)) (n+e)).j∉l∨∃ i:Nat,∃ x,l[i]?=some (nth t.mask (st t.mask (hk prog w k)) (n+e)).j∧xs[i]?=some x∧hk prog w x.1=hk prog w k) (n:=d) (.inl (by rw [hnd];exact hN))
  have at_l:∀ {i:Nat} {j:Nat},l[i]?=some j→∃ x,xs[i]?=some x:=fun {i j} h=>by
   have hi:i<l.length:=(Zj.mp h).1
   rw [T.ln,Zq] at hi
   exact ⟨_,Zz hi⟩
  have pr:∀ hA:Nat→Int,(∀ i,hA i=(((xs.map (ent prog w)).toArray[i]?).map (·.1)).getD 0) →
    ((nth t.mask (st t.mask (hk prog w k)) (n+m1)).j∉l→t.probe hA (hk prog w k) (nth t.mask (st t.mask (hk prog w k)) n)=some (.empty (nth t.mask (st t.mask (hk prog w k)) (n+m1)).j none)) ∧
    (∀ (i:Nat) x,l[i]?=some (nth t.mask (st t.mask (hk prog w k)) (n+m1)).j→xs[i]?=some x→hk prog w x.1=hk prog w k→t.probe hA (hk prog w k) (nth t.mask (st t.mask (hk prog w k)) n)=some (.candidate (nth t.mask (st t.mask (hk prog w k)) (n+m1)).j i (nth t.mask (st t.mask (hk prog w k)) (n+m1+1)))):=fun hA hh=>by
   have hAx:∀ {i:Nat} {x},xs[i]?=some x→hA i=hk prog w x.1:=fun {i x} h=>by rw [hh,ent_at h];rfl
   have g:=go_run T.p (hA:=hA) (h:=hk prog w k) m1 (10*turns t.mask) (nth t.mask (st t.mask (hk prog w k)) n) (by unfold turns;omega) fun e he=>by
    have hne:=hlt e he
    have hin:(nth t.mask (st t.mask (hk prog w k)) (n+e)).j∈l:=Classical.byContradiction fun z=>hne (.inl z)
    obtain ⟨i,hi, e1⟩:=Yy.mp hin
    have e2:l[i]?=some (nth t.mask (st t.mask (hk prog w k)) (n+e)).j:=by rw [Zz hi,e1]
    obtain ⟨x,hx⟩:=at_l e2
    exact ⟨i,by rw [←nth_add];exact e2, fun z=>hne (.inr ⟨i,x,e2,hx, by rw [←hAx hx];exact z⟩)⟩
   rw [←nth_add,←nth_add,nth_du] at g
   exact ⟨g.1,fun i x h1 h2 h3=>g.2 i h1 (by rw [hAx h2];exact h3)⟩
  by_cases hin:(nth t.mask (st t.mask (hk prog w k)) (n+m1)).j∈l
  ·obtain ⟨i,x,h1,h2, h3⟩:=hP.resolve_left (fun z=>z hin)
   rw [(pr _ ?hh).2 i x h1 h2 h3]
   case hh=>intro i;rfl
   dsimp only
   have hmem:=Zg h2
   have fin:wpAny (model prog w) A (do
     let some (_,y):=(xs.map (ent prog w)).toArray[i]? | unsupported "internal:set-entry"
     let equal ←holding [y] (eqBool y (.ref b))
     let (es',_,t') ←setState a
     if true&&equal then return .there none
     let some same:=t'.sameMemory t.moves t.mask | unsupported "set.changed-during-lookup:is-the-new-block-at-the-old-address"
     let still ←match (if same then t'.slot (nth t.mask (st t.mask (hk prog w k)) (n+m1)).j else .empty) with
      | .live i'=>match es'[i']? with
       | some (_,y')=>do pure (if ←isSame y' y then some i' else none)
       | none=>pure none
      | _=>pure none
     match still with
     | none=>rule "set.search.anew";setSearchFrom a (.ref b) (hk prog w k) true fuel none
     | some i'=>if equal then return .there (some i') else setSearchFrom a (.ref b) (hk prog w k) true fuel (some (nth t.mask (st t.mask (hk prog w k)) (n+m1+1)))) Q E s:=by
    rw [ent_at h2]
    dsimp only
    refine wpAny_bind (wpAny_holding ((tupleKind (IK prog w)).eqBool room (hks x hmem) hb ?_))
    refine wpAny_bind (wpAny_setState_of ho hd hfit ?_)
    dsimp only
    by_cases hq:x.1=k
    ·rw [decide_eq_true hq]
     simp only [Bool.and_self,if_true]
     exact wpAny_pure (q _ (fun _=>rfl) fun z=>absurd ⟨x,hmem, hq⟩ z)
    ·rw [decide_eq_false hq]
     simp only [Bool.and_false,Bool.false_eq_true,if_false]
     have sm:t.sameMemory t.moves t.mask=some true:=by unfold sameMemory;simp
     rw [sm]
     dsimp only
     simp only [if_true]
     rw [T.p.live h1]
     dsimp only
     rw [ent_at h2]
     dsimp only
     refine wpAny_bind (wpAny_isSame_ref_self (wpAny_bind (wpAny_pure ?_)))
     simp only [if_true]
     have lt1:n+m1<N:=by
      apply Classical.byContradiction
      intro z
      have:n+m1=N:=by omega
      rw [this] at hin;exact hN hin
     refine ih (n+m1+1) (N-(n+m1+1)) _ ?_ ?_ rfl fun e he i' x' g1 g2=>?_
     ·omega
     ·omega
     ·by_cases c:e<n
      ·exact hno e c i' x' g1 g2
      ·obtain ⟨d',rfl⟩:∃ d',e=n+d':=⟨e-n,by omega⟩
       by_cases c2:d' < m1
       ·intro z
        exact hlt d' c2 (.inr ⟨i',x',g1,g2, by rw [z]⟩)
       ·have:d'=m1:=by omega
        subst this
        have ei:i'=i:=by
         have h5:=below_at T.p.up g1
         have h6:=below_at T.p.up h1
         rw [←h5,←h6]
        subst ei
        rw [h2] at g2;cases g2
        exact hq
   cases hled:t.led with
   | true=>simp only [Bool.not_true,Bool.false_eq_true,if_false];exact fin
   | false =>
    simp only [Bool.not_false,if_true]
    refine wpAny_bind (unseen hb (fun v hv=>?_) ?_)
    ·simp only [Zh,Array.mem_toList_iff,Array.mem_filter,List.mem_toArray] at hv
     obtain ⟨⟨h',v'⟩,⟨⟨x',hx', ex⟩,_⟩, rfl⟩:=hv
     unfold ent at ex
     cases ex
     exact ⟨x'.1,x'.2,rfl, hks x' hx'⟩
    ·simp only [Bool.false_eq_true,if_false]
     exact fin
  ·rw [(pr _ ?hh).1 hin]
   case hh=>intro i;rfl
   dsimp only
   have en:n+m1=N:=by
    apply Classical.byContradiction
    intro z
    exact hin (hB _ (by omega))
   refine wpAny_pure (q _ (fun ⟨x,hx,ex⟩=>?_) fun _=>by rw [en])
   exfalso
   obtain ⟨i,hi, e1⟩:=Yy.mp hx
   have h2:xs[i]?=some x:=by rw [Zz hi,e1]
   obtain ⟨n',hn', e3⟩:=T.before hN (i:=i) (by rw [Zk,h2,←ex];rfl)
   by_cases c:n' < n
   ·exact hno n' c i x e3 h2 ex
   ·obtain ⟨d',rfl⟩:∃ d',n'=n+d':=⟨n' - n,by omega⟩
    exact hlt d' (by omega) (.inr ⟨i,x,e3,h2, by rw [ex]⟩)
end ST
set_option maxRecDepth 100000
namespace ST
open PySem PySem.SetTable
variable {prog:Program} {w:World} {A:Around} {E:Value→Shared→Prop} {s:Shared}
def SetIs (prog:Program) (w:World) (led:Bool) (h:Heap) (a:Addr) (xs:Xs):Prop :=
 ∃ o ep t l,h.get? a=some o∧o.ExactSet∧o.data=.set (xs.map (ent prog w)).toArray ep t∧Tab t l (xs.map fun x=>hk prog w x.1)∧xs.length*5<t.mask*3∧t.plain=true∧t.led=led∧(∀ x∈xs,IsTupleKey (IK prog w) h x.1 x.2)∧(xs.map (·.1)).Nodup
theorem key_keep {h h':Heap} {a b:Addr} {k:List Int} {o:Obj} {es ep t} (ho:h.get? a=some o) (hd:o.data=.set es ep t) (hs:Heap.SameBut a h h') (x:IsTupleKey (IK prog w) h k b):IsTupleKey (IK prog w) h' k b:=by
 obtain ⟨o',items,n,ho',hc,hd', hi⟩:=x
 have hne:b≠a:=by
  rintro rfl
  obtain rfl:o'=o:=Option.some.inj (ho'.symm.trans ho)
  rw [hd] at hd';exact nomatch hd'
 exact ⟨o',items,n,(hs.2 b hne).trans ho',hc,hd', hi⟩
theorem put_at {h:Heap} {a:Addr} {o:Obj} {es:Array (Int×Value)} {ep:Nat} {t:SetTable} (ho:h.get? a=some o) (hd:o.data=.set es ep t) (es':Array (Int×Value)) (t':SetTable) :
  (h.update a (Obj.putSet es' t')).get? a=some { o with data:=.set es' (ep+1) t' }:=by
 have:=Heap.get?_update_self (Obj.putSet es' t') ho (by rw [putSet_of es' t' hd];rfl)
 rw [putSet_of es' t' hd] at this;exact this
theorem pick_perm {α:Type} {xs:List α} {order:List Nat} (hp:order.Perm (List.range xs.length)):(order.filterMap (xs[·]?)).Perm xs:=by
 have:=hp.filterMap (xs[·]?)
 rw [List.filterMap_getElem?_range_length] at this
 exact this
theorem pick_map {α β:Type} (f:α→β) (xs:List α) (order:List Nat):order.filterMap ((xs.map f)[·]?)=(order.filterMap (xs[·]?)).map f:=by
 rw [List.map_filterMap]
 congr 1
 funext i
 rw [Zk]
theorem add_is {a b:Addr} {k:List Int} {xs:Xs} {led:Bool} {Q:Bool→Shared→Prop} (room:A.units<cLine) (hS:SetIs prog w led s.heap a xs) (hb:IsTupleKey (IK prog w) s.heap k b) (hn:xs.length+1≤18)
  (q:∀ (r:Bool) h' xs',Heap.SameBut a s.heap h'→SetIs prog w led h' a xs'→((∃ x∈xs,x.1=k)→xs'=xs)→((¬∃ x∈xs,x.1=k)→xs'.Perm ((k,b)::xs))→Q r { s with heap:=h' }) :
  wpAny (model prog w) A (setAddHashed a (.ref b) (hk prog w k)) Q E s:=by
 obtain ⟨o,ep,t,l,ho,hex,hd,T,few,pln,hled,hks, nd⟩:=hS
 have fw:xs.length<t.mask+1:=by rcases T.ma with e | e<;>rw [e] at few ⊢<;>omega
 have hfit:=T.fits (by rw [Zq];exact fw) (n:=(xs.map (ent prog w)).toArray.size) (by simp)
 obtain ⟨N,hNl,hN, hB⟩:=T.first (by rw [Zq];exact fw) (hk prog w k)
 unfold setAddHashed setAddHashedIn
 refine wpAny_holding (wpAny_bind (wpAny_setState_of ho hd hfit ?_))
 dsimp only
 have bs:byScan (.ref b) (xs.map (ent prog w)).toArray=false:=rfl
 rw [bs]
 simp only [Bool.false_eq_true,if_false]
 unfold setSearch
 refine wpAny_bind (search_is room ho hd T fw hks hb hN hB hNl (fun f h1 h2=>?_) 100000 0 N none (by omega) (by rcases T.ma with e | e<;>rw [e] at hNl<;>omega) rfl fun e he=>absurd he (by omega))
 by_cases hx:∃ x∈xs,x.1=k
 ·rw [h1 hx]
  refine wpAny_pure ?_
  have e:s={ s with heap:=s.heap }:=by cases s;rfl
  rw [e]
  exact q _ _ xs (Heap.SameBut.refl a s.heap) ⟨o,ep,t,l,ho,hex,hd,T,few,pln,hled,hks, nd⟩ (fun _=>rfl) fun z=>absurd hx z
 ·rw [h2 hx]
  dsimp only
  refine wpAny_bind (wpAny_setState_of ho hd hfit ?_)
  dsimp only
  obtain ⟨p,hp,e2,e1, T'⟩:=T.put (h:=hk prog w k) hN rfl hB
  rw [e2]
  have tpl:(t.put (nth t.mask (st t.mask (hk prog w k)) N).j).1.plain=true:=by rw [e1];exact pln
  rw [tpl]
  simp only [if_true]
  refine wpAny_bind (by_value hb ?_)
  simp only [if_true]
  have eI:insertAt (xs.map (ent prog w)).toArray p (hk prog w k,Value.ref b)=((insL xs p (k,b)).map (ent prog w)).toArray:=by
   rw [ins_arr,insL_map];rfl
  rw [eI]
  have tl:(t.put (nth t.mask (st t.mask (hk prog w k)) N).j).1.led=led:=by rw [e1];exact hled
  have tm:(t.put (nth t.mask (st t.mask (hk prog w k)) N).j).1.mask=t.mask:=by rw [e1]
  generalize (t.put (nth t.mask (st t.mask (hk prog w k)) N).j).1=t1 at T' tpl tl tm ⊢
  have eH:(insL xs p (k,b)).map (fun x=>hk prog w x.1)=insL (xs.map fun x=>hk prog w x.1) p (hk prog w k):=insL_map _ _ _ _
  rw [←eH] at T'
  have ln1:(insL xs p (k,b)).length=xs.length+1:=insL_len _ _ _
  have szl:((insL xs p (k,b)).map (ent prog w)).toArray.size=xs.length+1:=by simp [ln1]
  have sz:((insL xs p (k,b)).map (ent prog w)).toArray.size≤sizeLine:=by rw [szl];exact Yr hn (by decide)
  refine wpAny_bind (wpAny_storeSet_of ho hd ?_ sz)
  have ho1:=put_at ho hd ((insL xs p (k,b)).map (ent prog w)).toArray t1
  have hsb1:=Heap.SameBut.update s.heap a (Obj.putSet ((insL xs p (k,b)).map (ent prog w)).toArray t1)
  generalize s.heap.update a (Obj.putSet ((insL xs p (k,b)).map (ent prog w)).toArray t1)=h1' at ho1 hsb1 ⊢
  have pm:=insL_perm xs p (k,b)
  have hks1:∀ x∈insL xs p (k,b),IsTupleKey (IK prog w) h1' x.1 x.2:=fun x hx=>by
   refine key_keep ho hd hsb1 ?_
   rcases insL_mem.mp hx with rfl | hx
   ·exact hb
   ·exact hks x hx
  have nd1:((insL xs p (k,b)).map (·.1)).Nodup:=by
   refine (pm.map (·.1)).nodup_iff.mpr (List.nodup_cons.mpr ⟨fun z=>?_,nd⟩)
   obtain ⟨x,h3, h4⟩:=Zh.mp z
   exact hx ⟨x,h3, h4⟩
  have ex1:({ o with data:=.set ((insL xs p (k,b)).map (ent prog w)).toArray (ep+1) t1 }:Obj).ExactSet:=hex
  have ft1:t1.fill=xs.length+1:=by unfold SetTable.fill;rw [T'.p.pl,T'.p.du];simp [T'.ln,ln1]
  by_cases full:t1.tooFull=true
  ·rw [full]
   simp only [Bool.not_false,Bool.and_self,if_true]
   have m7:t.mask=7∧xs.length+1=5:=by
    unfold SetTable.tooFull at full
    rw [ft1,tm,decide_eq_true_iff] at full
    rcases T.ma with e | e<;>rw [e] at few full<;>omega
   rw [show (xs.map (ent prog w)).toArray.size+1=5 by simp;omega]
   unfold setRelay
   have fw1:(insL xs p (k,b)).length<t1.mask+1:=by rw [ln1,tm];omega
   have hfit1:=T'.fits (by rw [Zq];exact fw1) (n:=((insL xs p (k,b)).map (ent prog w)).toArray.size) (by simp)
   refine wpAny_bind (wpAny_bind (wpAny_setState_of ho1 rfl hfit1 ?_))
   dsimp only
   have sA:sizeAbove (grown 5)=32:=by decide
   rw [sA]
   rw [if_neg (show ¬(32>sizeLine) by decide)]
   obtain ⟨l2,order,eL,op, T2⟩:=laid_is (.inr rfl:31=7∨31=31) (hs:=(insL xs p (k,b)).map fun x=>hk prog w x.1) (by rw [Zq,ln1];omega) t1.finger (t1.movedTo 31) t1.led t1.plain
   have eR:t1.relaid (((insL xs p (k,b)).map (ent prog w)).toArray.map (·.1)) (grown 5)=some ({ mask:=31,place:=l2.toArray,dummies:=#[],finger:=t1.finger,led:=t1.led,moves:=t1.movedTo 31,plain:=t1.plain },order.toArray):=by
    unfold SetTable.relaid
    rw [sA,←eL]
    congr 1
    simp [ent]
   rw [eR]
   rw [Zq,ln1] at op
   have op':order.Perm (List.range (insL xs p (k,b)).length):=by rw [ln1];exact op
   rw [pick_map] at T2
   have ps:=pick_perm op'
   have eF:order.toArray.filterMap (((insL xs p (k,b)).map (ent prog w)).toArray[·]?)=((order.filterMap ((insL xs p (k,b))[·]?)).map (ent prog w)).toArray:=by
    rw [List.filterMap_toArray,←pick_map]
    simp
   have szo:((order.filterMap ((insL xs p (k,b))[·]?)).map (ent prog w)).toArray.size=xs.length+1:=by simp [ps.length_eq,ln1]
   refine wpAny_bind (wpAny_of_eq (a:=(((order.filterMap ((insL xs p (k,b))[·]?)).map (ent prog w)).toArray,({ mask:=31,place:=l2.toArray,dummies:=#[],finger:=t1.finger,led:=t1.led,moves:=t1.movedTo 31,plain:=t1.plain }:SetTable))) ?_ ?_)
   ·show (if ((order.toArray.filterMap (((insL xs p (k,b)).map (ent prog w)).toArray[·]?)).size != ((insL xs p (k,b)).map (ent prog w)).toArray.size)=true then _ else _)=_
    rw [eF,szo,szl]
    simp
   ·dsimp only
    have sz2:((order.filterMap ((insL xs p (k,b))[·]?)).map (ent prog w)).toArray.size≤sizeLine:=by rw [szo,←szl];exact sz
    refine wpAny_storeSet_of ho1 rfl ?_ sz2
    have ho2:=put_at ho1 rfl ((order.filterMap ((insL xs p (k,b))[·]?)).map (ent prog w)).toArray { mask:=31,place:=l2.toArray,dummies:=#[],finger:=t1.finger,led:=t1.led,moves:=t1.movedTo 31,plain:=t1.plain }
    have hsb2:=Heap.SameBut.update h1' a (Obj.putSet ((order.filterMap ((insL xs p (k,b))[·]?)).map (ent prog w)).toArray { mask:=31,place:=l2.toArray,dummies:=#[],finger:=t1.finger,led:=t1.led,moves:=t1.movedTo 31,plain:=t1.plain })
    refine wpAny_pure (q true _ (order.filterMap ((insL xs p (k,b))[·]?)) (hsb1.trans hsb2) ⟨_,_,_,l2,ho2,hex,rfl,T2,?_,tpl,tl,fun x hx=>key_keep ho1 rfl hsb2 (hks1 x (ps.mem_iff.mp hx)), (ps.map (·.1)).nodup_iff.mpr nd1⟩ (fun z=>absurd z hx) fun _=>ps.trans pm)
    show (order.filterMap ((insL xs p (k,b))[·]?)).length*5<31*3
    rw [ps.length_eq,ln1];omega
  ·rw [Bool.not_eq_true] at full
   rw [full]
   simp only [Bool.not_false,Bool.and_false,Bool.false_eq_true,if_false]
   refine wpAny_pure (q true _ (insL xs p (k,b)) hsb1 ⟨_,_,t1,_,ho1,hex,rfl,T',?_,tpl,tl,hks1, nd1⟩ (fun z=>absurd z hx) fun _=>pm)
   unfold SetTable.tooFull at full
   rw [ft1,decide_eq_false_iff_not] at full
   rw [ln1];omega
end ST
set_option maxRecDepth 100000
namespace ST
open PySem PySem.SetTable
section
variable {prog:Program} {w:World} {A:Around} {E:Value→Shared→Prop} {s:Shared}
abbrev byT (w:World):Bool:=w.params.followText "set-order"
abbrev newS (w:World):Obj:={ cls:=.type "set",dict:=none,data:=.set #[] 0 (.fresh 0 0 (!byT w)) }
theorem set_new (a:Value) {Q:Value→Shared→Prop} (h:Q (.ref s.heap.objs.size) { s with heap:=s.heap.push (newS w) }) :
  codeAny (model prog w) A (.call (.builtin "set.__new__") ⟨[.type "set",a],[]⟩) (wants Q E) s:=by
 refine codeAny_of_tree ?_
 show wpAny _ A.in1 (checkBuiltinCall "set.__new__" ⟨[.type "set",a],[]⟩ >>= fun _=>again (.builtin "set.__new__" ⟨[.type "set",a],[]⟩)) _ _ s
 refine wpAny_bind (wpAny_of_eq (F.newCall_set_1 a) (wpAny_pure ⟨plainId_quiet F.plain_set_new _,codeAny_builtin F.entry_set_new ?_⟩))
 rw [Around.under_plainId F.plain_set_new _]
 unfold Builtin.«set.__new__» Builtin.Frozenset.newClass
 have hs:=sub_set_self
 obtain ⟨hp,g,d,tk, os⟩:=s
 dsimp only
 wp_walk
 refine wpAny_askSetting (wpAny_pure ?_)
 dsimp only
 simp only [newObj]
 exact wpAny_bind (wpAny_alloc (wpAny_pure (wpAny_pure h)))
end
structure Acc (vs:Xs) (i:Nat) (xs:Xs):Prop where
 sub:∀ x∈xs,x∈vs
 al:∀ x∈vs.take i,∃ y∈xs,y.1=x.1
theorem SetIs.moved {prog:Program} {w:World} {led:Bool} {h h':Heap} {a:Addr} {xs:Xs} (S:SetIs prog w led h a xs) (k:∀ b o,(b=a∨∃ x∈xs,b=x.2)→h.get? b=some o→h'.get? b=some o):SetIs prog w led h' a xs:=by
 obtain ⟨o,ep,t,l,ho,hex,hd,T,few,pln,hled,hks, nd⟩:=S
 refine ⟨o,ep,t,l,k a o (.inl rfl) ho,hex,hd,T,few,pln,hled,fun x hx=>?_, nd⟩
 obtain ⟨o',its,n,h1, h2⟩:=hks x hx
 exact ⟨o',its,n,k _ _ (.inr ⟨x,hx, rfl⟩) h1, h2⟩
theorem SetIs.len {prog:Program} {w:World} {led:Bool} {h:Heap} {a:Addr} {xs:Xs} (S:SetIs prog w led h a xs) {dom:List (List Int)} (hd:∀ x∈xs,x.1∈dom):xs.length≤dom.length:=by
 obtain ⟨o,ep,t,l,ho,hex,hd',T,few,pln,hled,hks, nd⟩:=S
 have:=sub_len nd (b:=dom) fun k hk=>by
  obtain ⟨x,hx, rfl⟩:=Zh.mp hk
  exact hd x hx
 rw [Zq] at this
 exact this
section
variable {prog:Program} {w:World} {A:Around} {R:Result→Shared→Prop} {I:Addr} {fp wr:List Addr} {G:Array GenState→Array GenState→Prop} {n:Nat} {P:Nat→Value→Prop} {St:Nat→Shared→Prop}
theorem upd_loop (W:WalksS prog w A.in1 I fp wr G n P St) (S:Addr) (hSf:S∉fp) (led:Bool) (vs:Xs) (hP:∀ i v,P i v→∃ x,vs[i]?=some x∧v=.ref x.2) (room:A.in1.units<cLine) (hvw:∀ x∈vs,x.2∉wr) (dom:List (List Int)) (hdom:dom.length≤17) (hvd:∀ x∈vs,x.1∈dom) :
  ∀ (k i:Nat) (s:Shared) (xs:Xs),n-i=k→i≤n→St i s→SetIs prog w led s.heap S xs→(∀ x∈vs,IsTupleKey (IK prog w) s.heap x.1 x.2)→Acc vs i xs →
   (∀ s' xs',Moved (S::wr) G s s'→SetIs prog w led s'.heap S xs'→Acc vs n xs'→R (.ok (.ret .none)) s') →
   codeAny (model prog w) A (.builtin "set.update.loop" ⟨[.ref S,.ref I],[]⟩) R s:=by
 have hSw:S∉wr:=fun h=>hSf (W.sub _ h)
 have hsub:∀ b∈wr,b∈S::wr:=fun b hb=>Zw _ hb
 have mv:∀ {s s':Shared} {xs:Xs},(∀ x∈xs,x∈vs)→Moved wr G s s'→SetIs prog w led s.heap S xs→SetIs prog w led s'.heap S xs:=fun {s s' xs} hx hm hS=>hS.moved fun b o hb e=>hm.heap b o (by
  rcases hb with rfl | ⟨x,h1, rfl⟩
  ·exact hSw
  ·exact hvw x (hx x h1)) e
 intro k
 induction k with
 | zero =>
  intro i s xs hk hi hst hS hv ha hR
  have hin:i=n:=by omega
  subst hin
  refine codeAny_builtin PyProof.Rows.F.entry_set_update_loop ?_
  rw [Around.under_plainId PyProof.Rows.F.plain_set_update_loop _]
  show wpAny _ A.in1 (pyNext (.ref I) >>= _) _ _ s
  refine wpAny_bind (W.done s _ _ hst fun s' hm=>?_)
  exact wpAny_pure (hR s' xs (hm.mono hsub) (mv ha.sub hm hS) ha)
 | succ k ih =>
  intro i s xs hk hi hst hS hv ha hR
  have hlt:i<n:=by omega
  refine codeAny_builtin PyProof.Rows.F.entry_set_update_loop ?_
  rw [Around.under_plainId PyProof.Rows.F.plain_set_update_loop _]
  show wpAny _ A.in1 (pyNext (.ref I) >>= _) _ _ s
  refine wpAny_bind (W.item i s _ _ hlt hst fun v s' hPv hst' hm=>?_)
  obtain ⟨x,hx, rfl⟩:=hP i v hPv
  have hxm:=Zg hx
  have hS':=mv ha.sub hm hS
  have hv':∀ y∈vs,IsTupleKey (IK prog w) s'.heap y.1 y.2:=fun y hy=>by
   obtain ⟨o',its,n',h1, h2⟩:=hv y hy
   exact ⟨o',its,n',hm.heap _ _ (hvw y hy) h1, h2⟩
  show wpAny _ A.in1 (holding [Value.ref x.2] (setAdd S (.ref x.2)) >>= _) _ _ s'
  refine wpAny_bind (wpAny_holding ?_)
  unfold setAdd
  refine wpAny_holding (wpAny_bind ((tupleKind (IK prog w)).pyHash room (hv' x hxm) ?_))
  have ln:=hS'.len (dom:=dom) fun y hy=>hvd y (ha.sub y hy)
  refine add_is (s:={ s' with toks:=s'.toks+(x.1.length+1) }) room hS' (hv' x hxm) (by omega) fun r h' xs' hsb hS2 h1 h2=>?_
  have hks':∀ y∈vs,IsTupleKey (IK prog w) h' y.1 y.2:=fun y hy=>by
   obtain ⟨o,ep,t,l,ho,_,hd, _⟩:=hS'
   exact key_keep ho hd hsb (hv' y hy)
  have acc:Acc vs (i+1) xs':=by
   by_cases c:∃ y∈xs,y.1=x.1
   ·rw [h1 c]
    refine ⟨ha.sub,fun z hz=>?_⟩
    rw [List.take_add_one,hx] at hz
    rcases Zf.mp hz with hz | hz
    ·exact ha.al z hz
    ·rw [show z=x by simpa using hz];exact c
   ·have pm:=h2 c
    refine ⟨fun z hz=>?_,fun z hz=>?_⟩
    ·rcases Zn.mp (pm.mem_iff.mp hz) with rfl | hz
     ·exact hxm
     ·exact ha.sub z hz
    ·rw [List.take_add_one,hx] at hz
     rcases Zf.mp hz with hz | hz
     ·obtain ⟨y,q1, q2⟩:=ha.al z hz
      exact ⟨y,pm.mem_iff.mpr (Zw _ q1), q2⟩
     ·rw [show z=x by simpa using hz]
      exact ⟨x,pm.mem_iff.mpr (by cases x;exact Zd), rfl⟩
  refine wpAny_pure ⟨plainId_quiet PyProof.Rows.F.plain_set_update_loop _,ih (i+1) _ xs' (by omega) hlt (W.frame _ s' _ _ hst' (Nat.le_add_right _ _) fun b hb o e=>?_) hS2 hks' acc fun s'' xs'' hm''=>hR s'' xs'' (Moved.trans W.gtrans ((hm.mono hsub).then_heap (Nat.le_add_right _ _) fun b o hb e=>?_) hm'')⟩
  ·rw [hsb.2 b (fun z:b=S=>hSf (by rw [←z];exact hb))];exact e
  ·rw [hsb.2 b (fun z:b=S=>hb (by rw [z];exact Zd))];exact e
end
end ST
set_option maxRecDepth 100000
namespace ST
open PySem PySem.SetTable
section
variable {prog:Program} {w:World} {A:Around} {E:Value→Shared→Prop} {s:Shared}
theorem fresh_is {h:Heap} {a:Addr} (e:h.get? a=some (newS w)):SetIs prog w (!byT w) h a []:=by
 refine ⟨newS w,0,.fresh 0 0 (!byT w),[],e,⟨rfl,rfl, rfl⟩,rfl,⟨⟨rfl,List.Pairwise.nil, rfl⟩,.inl rfl,rfl,fun j hj=>by simp at hj, fun i h j h1=>by simp at h1⟩,by show 0*5<7*3;decide,rfl,rfl,fun x hx=>by simp at hx, List.nodup_nil⟩
set_option maxHeartbeats 3200000 in
theorem call_setT {l:Addr} {items:Array Value} {vs:Xs} {Q:Value→Shared→Prop} (hh:A.handled=none) (hl:s.heap.IsList l items) (hi:items.toList=vs.map fun x=>.ref x.2) (hv:∀ x∈vs,IsTupleKey (IK prog w) s.heap x.1 x.2) (room:A.in1.in1.in1.units<cLine) (dom:List (List Int)) (hdom:dom.length≤17) (hvd:∀ x∈vs,x.1∈dom)
  (h:∀ (h':Heap) (tk:Nat) (xs:Xs),SetIs prog w (!byT w) h' s.heap.objs.size xs→Acc vs vs.length xs→(∀ b o,b<s.heap.objs.size→s.heap.get? b=some o→h'.get? b=some o)→Q (.ref s.heap.objs.size) { s with heap:=h',toks:=tk }) :
  wpAny (model prog w) A (call (.type "set") [.ref l]) Q E s:=by
 obtain ⟨c,tl, z1⟩:=F.called_set.mro
 have z2:=F.called_set.made
 have z3:=F.called_set.sub
 refine wpAny_call (codeAny_of_tree ?_)
 show wpAny _ _ (callAny (.type "set") _) _ _ _
 refine wpAny_pure ⟨Code.quiet_builtin _ (by decide +kernel),codeAny_builtin F.entry_type_call ?_⟩
 rw [Around.under_plain (weight_type_call_type "set" [.ref l] []) rfl]
 have z4:=F.called_set.notType
 have z5:=F.called_set.canCreate
 have z6:=F.typeCall_set_1 (.ref l)
 repeat any_goals first | assumption | wp_step
 refine codeAny_mono (set_new (.ref l) (E:=E) (Q:=fun u s1=>u=.ref s.heap.objs.size∧s1={ s with heap:=s.heap.push (newS w) }) ⟨rfl,rfl⟩) fun r s1 hr=>?_
 cases r with
 | error e=>exact hr
 | ok fl =>
  cases fl with
  | ret u =>
   obtain ⟨rfl,rfl⟩:=hr
   have hS:(s.heap.push (newS w)).get? s.heap.objs.size=some (newS w):=Heap.get?_push_size _ rfl
   have hT:Shared.TypeIs { s with heap:=s.heap.push (newS w) } (.ref s.heap.objs.size) "set":=⟨_,hS, rfl⟩
   have z7:=F.called_set.init.lookup
   have z8:=F.called_set.init.bind (.ref s.heap.objs.size)
   repeat any_goals first | assumption | wp_step
   refine codeAny_mono (codeAny_call_builtin (R:=wants (fun r s2=>r=.none∧∃ h' tk xs,s2={ s with heap:=h',toks:=tk }∧SetIs prog w (!byT w) h' s.heap.objs.size xs∧Acc vs vs.length xs∧(∀ b o,b<s.heap.objs.size→s.heap.get? b=some o→h'.get? b=some o)) E) F.called_set.init.plain F.entry_set_init (check_set_init_1 hT ?_)) fun r2 s2 hr2=>?_
   ·obtain ⟨ol,g1,g2,nl, g3⟩:=hl
    obtain ⟨ocls,odict,odata, oslots⟩:=ol
    simp only at g2 g3
    subst g2;subst g3
    have g4:(s.heap.push (newS w)).get? l=some { cls:=.type "list",dict:=odict,data:=.seq items nl,slots:=oslots }:=Heap.get?_push_of_some _ g1
    have z9:=F.sub_list_set
    have z10:=F.sub_list_frozenset
    have z11:(Value.type "list"==Value.type "dict")=false:=by decide
    have g5:(s.heap.push (newS w)).IsList l items:=⟨_,g4,rfl,nl, rfl⟩
    unfold Builtin.«set.__init__» noKeywords Builtin.Frozenset.updateFrom
    generalize hPI:pyIter=PI
    wp_walk
    subst hPI
    refine wpAny_pyIter_list g5 (wpAny_bind (wpAny_runValue ?_))
    have lt:l<s.heap.objs.size:=Heap.lt_size g1
    have h3:A.in1.in1.in1.handled=none:=by simp [hh]
    have n1:l≠(s.heap.push (newS w)).objs.size:=by rw [Heap.size_push];exact Nat.ne_of_lt (YQ lt)
    have n2:s.heap.objs.size∉[(s.heap.push (newS w)).objs.size,l]:=by
     rw [Heap.size_push]
     intro z
     rcases Zn.mp z with z | z
     ·exact absurd z (Nat.ne_of_lt (Nat.lt_succ_self _))
     ·exact absurd (Zb.mp z) (Nat.ne_of_gt lt)
    have old:∀ x∈vs,x.2<s.heap.objs.size:=fun x hx=>by obtain ⟨o,its,n,e, _⟩:=hv x hx;exact Heap.lt_size e
    have hn:items.size=vs.length:=by rw [←Array.length_toList,hi,Zq]
    have W:=(Walks.list h3 (s.heap.push (newS w)).objs.size l n1 items).toS (prog:=prog) (w:=w)
    refine upd_loop W s.heap.objs.size n2 (!byT w) vs (fun i v e=>?_) room (fun x hx z=>?_) dom hdom hvd (items.size-0) 0 _ [] (by omega) (Nat.zero_le _) ⟨⟨_,Heap.get?_push_size _ rfl,rfl, rfl⟩,g5.push _⟩ (fresh_is (Heap.get?_push_of_some _ hS)) (fun x hx=>?_) ⟨fun x hx=>by simp at hx,fun x hx=>by simp at hx⟩ fun s' xs hm hS' ha=>?_
    ·have e:items[i]?=some v:=e
     rw [←Array.getElem?_toList,hi,Zk] at e
     cases q:vs[i]? with
     | none=>rw [q] at e;cases e
     | some x=>rw [q] at e;exact ⟨x,rfl, (Option.some.inj e).symm⟩
    ·have:=old x hx
     rw [Zb.mp z,Heap.size_push] at this
     exact absurd this (Nat.not_lt.mpr (Nat.le_succ _))
    ·obtain ⟨o,its,n,e, r⟩:=hv x hx
     exact ⟨o,its,n,Heap.get?_push_of_some _ (Heap.get?_push_of_some _ e), r⟩
    ·obtain ⟨h',g',d',tk', os'⟩:=s'
     have eg:g'=s.gens:=hm.gens
     have ed:d'=s.drawn:=hm.drawn
     have eo:os'=s.os:=hm.os
     subst eg;subst ed;subst eo
     show wpAny _ _ _ _ _ _
     refine wpAny_pure ?_
     show wpAny _ _ (ret Value.none) _ _ _
     refine wpAny_pure ⟨rfl,h',tk',xs,rfl,hS',by rw [←hn];exact ha, fun b o hb e=>?_⟩
     refine hm.heap b o (fun z=>?_) (Heap.get?_push_of_some _ (Heap.get?_push_of_some _ e))
     rcases Zn.mp z with z | z
     ·exact absurd z (Nat.ne_of_lt hb)
     ·rw [Zb.mp z,Heap.size_push] at hb
      exact absurd hb (Nat.not_lt.mpr (Nat.le_succ _))
   ·cases r2 with
    | error e=>exact hr2
    | ok fl2 =>
     cases fl2 with
     | ret r =>
      obtain ⟨rfl,h',tk,xs,rfl,hS',ha, hk'⟩:=hr2
      repeat any_goals first | assumption | wp_step
      exact h _ _ xs hS' ha hk'
     | _=>exact hr2.elim
  | _=>exact hr.elim
end
end ST
set_option maxRecDepth 100000
namespace ST
open PySem PySem.SetTable
theorem e_iter:entryFor table "set.__iter__" = some Builtin.«frozenset.__iter__»:=entryFor_alias (id':="frozenset.__iter__") (by kernel_rfl) rfl (by decide +kernel) (by kernel_rfl)
theorem e_next:entryFor table "set_iterator.__next__" = some Builtin.«set_iterator.__next__»:=entryFor_of_tree (by kernel_rfl)
theorem s_next:Slot "set_iterator" "__next__" "set_iterator.__next__" :=
 .of (owner:="set_iterator") (n:="__next__") (by rw [typeLookup_type,builtinLookup_eq_fast];kernel_rfl) (by decide +kernel) (by decide +kernel) (by decide +kernel) (by first | exact .inl (by decide +kernel) | exact .inr (by decide +kernel)) (by rw [isSubtype_type];kernel_rfl)
theorem s_iter:Slot "set_iterator" "__iter__" "set_iterator.__iter__" :=
 .of (owner:="set_iterator") (n:="__iter__") (by rw [typeLookup_type,builtinLookup_eq_fast];kernel_rfl) (by decide +kernel) (by decide +kernel) (by decide +kernel) (by first | exact .inl (by decide +kernel) | exact .inr (by decide +kernel)) (by rw [isSubtype_type];kernel_rfl)
theorem ow_it:Manifest.owners.lookup (String.ofList ['r','o','t','a','r','e','t','i','_','t','e','s'].reverse)=some Manifest.sig_set_iterator:=by kernel_rfl
theorem a_next (a:Value):argsOk "set_iterator.__next__" ⟨[a],[]⟩:=by
 unfold argsOk
 rw [signature?_of (id:="set_iterator.__next__") (n:=['_','_','t','x','e','n','_','_']) (o:=['r','o','t','a','r','e','t','i','_','t','e','s']) (by kernel_rfl) ow_it]
 kernel_rfl
theorem a_iter (a:Value):argsOk "set_iterator.__iter__" ⟨[a],[]⟩:=by
 unfold argsOk
 rw [signature?_of (id:="set_iterator.__iter__") (n:=['_','_','r','e','t','i','_','_']) (o:=['r','o','t','a','r','e','t','i','_','t','e','s']) (by kernel_rfl) ow_it]
 kernel_rfl
end ST
set_option maxRecDepth 100000
namespace ST
open PySem PySem.SetTable
theorem e_iiter:entryFor table "set_iterator.__iter__" = some Builtin.«dict_keyiterator.__iter__»:=entryFor_alias (id':="dict_keyiterator.__iter__") (by kernel_rfl) rfl (by decide +kernel) (by kernel_rfl)
theorem pick_go {α:Type} (next:Nat→Nat):∀ (fuel k:Nat) (left:List α) (out:Array α),left.length=fuel→((pickOrder.go next fuel k left out).toList).Perm (out.toList++left)
 | 0,k,left,out,h=>by
  rw [List.eq_nil_of_length_eq_zero h,List.append_nil]
  exact List.Perm.refl _
 | fuel+1,k,left,out,h=>by
  unfold pickOrder.go
  have hl:next k%left.length<left.length:=Nat.mod_lt _ (by omega)
  rw [Zz hl]
  dsimp only
  refine (pick_go next fuel (k+1) _ _ (by rw [List.length_eraseIdx_of_lt hl];omega)).trans ?_
  rw [Array.toList_push,Yb]
  refine List.Perm.append_left _ ?_
  rw [List.eraseIdx_eq_take_drop_succ]
  have:=(List.perm_middle (a:=left[next k%left.length]) (l₁:=left.take (next k%left.length)) (l₂:=left.drop (next k%left.length+1))).symm
  rw [←List.drop_eq_getElem_cons hl,List.take_append_drop] at this
  exact this
theorem pick_is {α:Type} (next:Nat→Nat) (xs:Array α):((pickOrder next xs).toList).Perm xs.toList:=by
 have:=pick_go next xs.size 0 xs.toList #[] (by simp)
 simpa [pickOrder] using this
def ordA (w:World) (S ep:Nat) (es:Array (Int×Value)):Array (Int×Value):=if byT w then pickOrder (w.params.setOrder S ep) es else es
theorem ord_perm (w:World) (S ep:Nat) (es:Array (Int×Value)):(ordA w S ep es).toList.Perm es.toList:=by
 unfold ordA;split
 ·exact pick_is _ _
 ·exact List.Perm.refl _
theorem ord_size (w:World) (S ep:Nat) (es:Array (Int×Value)):(ordA w S ep es).size=es.size:=by
 have:=(ord_perm w S ep es).length_eq
 simpa using this
structure Src (w:World) (S:Addr) (es:Array (Int×Value)) (ep:Nat) (t:SetTable) (l:List Nat):Prop where
 p:Pl t l
 ln:l.length=es.size
 fit:t.fits es.size=true
 pln:t.plain=true
 led:t.led=!byT w
def AtS (S:Addr) (es:Array (Int×Value)) (ep:Nat) (t:SetTable) (h:Heap):Prop:=∃ o,h.get? S=some o∧o.ExactSet∧o.data=.set es ep t
abbrev itO (slot i S n ep:Nat):Obj:={ cls:=.type "set_iterator",data:=.fields #[.int slot 0,.int i 0,.ref S,.int n 0,.int ep 0] }
theorem AtS.typeIs {s:Shared} {S:Addr} {es:Array (Int×Value)} {ep:Nat} {t:SetTable} (h:AtS S es ep t s.heap):s.TypeIs (.ref S) "set":=let ⟨o,ho,hx,_⟩:=h;⟨o,ho, hx.1⟩
section
variable {prog:Program} {w:World} {A:Around} {E:Value→Shared→Prop} {s:Shared} {S:Addr} {es:Array (Int×Value)} {ep:Nat} {t:SetTable} {l:List Nat}
theorem no_draw (R:Src w S es ep t l) (h:AtS S es ep t s.heap) {Q:Bool→Shared→Prop} (q:Q false s):wpAny (model prog w) A (setDrawn S) Q E s:=by
 obtain ⟨o,ho,hx, hd⟩:=h
 unfold setDrawn setsByText
 refine wpAny_bind (wpAny_setState_of ho hd R.fit ?_)
 dsimp only
 refine wpAny_bind (wpAny_bind (wpAny_askSetting (wpAny_pure ?_)))
 refine wpAny_pure ?_
 have e:(!t.plain&&decide (es.size>1))=false:=by rw [R.pln];rfl
 have:=q
 show Q (!_&&(!t.plain&&decide (es.size>1))) s
 rw [e,Bool.and_false];exact q
theorem iter_is (R:Src w S es ep t l) (h:AtS S es ep t s.heap) {Q:Value→Shared→Prop} (q:Q (.ref s.heap.objs.size) { s with heap:=s.heap.push (itO 0 0 S es.size ep) }):wpAny (model prog w) A (pyIter (.ref S)) Q E s:=by
 have hT:=h.typeIs
 have h0:=h
 obtain ⟨o,ho,hx, hd⟩:=h
 refine wpAny_pyIter_slot hT F.slot_set_iter (wpAny_call_entry F.slot_set_iter hT e_iter ?_ (F.args_set_iter_1 _))
 unfold Builtin.«frozenset.__iter__»
 refine wpAny_bind ?_
 unfold Builtin.Frozenset.slot0
 refine wpAny_bind (m:=slotArgs _ _ _) (wpAny_pure ?_)
 show wpAny _ _ (pure S) _ _ s
 refine wpAny_pure ?_
 unfold Builtin.Frozenset.sizeOf
 refine wpAny_bind (wpAny_bind (wpAny_setEntries_of ho hd R.fit (wpAny_pure ?_)))
 refine wpAny_bind (no_draw R h0 ?_)
 simp only [Bool.false_eq_true,if_false]
 refine wpAny_bind (wpAny_pure ?_)
 unfold setEpoch
 refine wpAny_bind (wpAny_bind (wpAny_setState_of ho hd R.fit (wpAny_pure ?_)))
 refine wpAny_bind (wpAny_newObj_type (wpAny_pure ⟨_,rfl,"set_iterator",_,⟨_,Heap.get?_push_size _ rfl, rfl⟩,s_next.lookup, ?_⟩))
 exact q
theorem below_next (p:l.Pairwise (· < ·)) {i:Nat} (hi:i<l.length):below l.toArray (l[i]+1)=i+1:=by
 obtain ⟨b1,b2, b3⟩:=below_is p (l[i]+1)
 have h1:i<below l.toArray (l[i]+1):=by
  apply Classical.byContradiction
  intro z
  have:=b3 i hi (by omega)
  omega
 apply Classical.byContradiction
 intro z
 have h2:i+1<below l.toArray (l[i]+1):=by omega
 have h3:=b2 (i+1) (by omega) h2
 have:=List.pairwise_iff_getElem.mp p i (i+1) hi (by omega) (by omega)
 omega
theorem below_zero (p:l.Pairwise (· < ·)):below l.toArray 0=0:=by
 obtain ⟨b1,b2, b3⟩:=below_is p 0
 apply Classical.byContradiction
 intro z
 have:=b2 0 (by omega) (by omega)
 omega
def Stt (w:World) (I S:Addr) (es:Array (Int×Value)) (ep:Nat) (t:SetTable) (l:List Nat) (i:Nat) (h:Heap):Prop:=(∃ slot,h.get? I=some (itO slot i S es.size ep)∧(byT w=false→below l.toArray slot=i))∧AtS S es ep t h
theorem next_of (R:Src w S es ep t l) (h:AtS S es ep t s.heap) {slot i:Nat} (hs:byT w=false→below l.toArray slot=i) {Q:Option (Value×Nat)→Shared→Prop}
  (q1:∀ x,(ordA w S ep es)[i]?=some x→∀ slot',(byT w=false→i<l.length→below l.toArray slot'=i+1)→Q (some (x.2,slot')) s) (q2:(ordA w S ep es)[i]?=none→Q none s):wpAny (model prog w) A (setNext S slot i ep) Q E s:=by
 obtain ⟨o,ho,hx, hd⟩:=h
 unfold setNext setsByText
 refine wpAny_bind (wpAny_setState_of ho hd R.fit ?_)
 dsimp only
 refine wpAny_bind (wpAny_bind (wpAny_askSetting (wpAny_pure ?_)))
 show wpAny _ _ (if byT w=true then _ else _) _ _ s
 cases hb:byT w with
 | true =>
  have ho':ordA w S ep es=pickOrder (w.params.setOrder S ep) es:=by unfold ordA;rw [hb];rfl
  rw [ho'] at q1 q2
  simp only [if_true]
  refine wpAny_ite_split (fun z=>absurd z (by simp)) (fun _=>?_)
  unfold setWalk setsByText
  refine wpAny_bind (wpAny_bind (wpAny_setState_of ho hd R.fit ?_))
  dsimp only
  refine wpAny_bind (wpAny_bind (wpAny_askSetting (wpAny_pure ?_)))
  show wpAny _ _ (if byT w=true then _ else _) _ _ s
  rw [hb]
  simp only [if_true]
  refine wpAny_bind (wpAny_askSetting ?_)
  refine wpAny_pure (wpAny_pure ?_)
  cases c:(pickOrder (w.params.setOrder S ep) es)[i]? with
  | none=>show Q (Option.map (fun e=>(e.2,slot)) (pickOrder (w.params.setOrder S ep) es)[i]?) s;rw [c];exact q2 c
  | some x=>show Q (Option.map (fun e=>(e.2,slot)) (pickOrder (w.params.setOrder S ep) es)[i]?) s;rw [c];exact q1 x c slot fun z=>absurd (hb.symm.trans z) (by decide)
 | false =>
  have ho':ordA w S ep es=es:=by unfold ordA;rw [hb];rfl
  rw [ho'] at q1 q2
  simp only [Bool.false_eq_true,if_false]
  refine wpAny_ite_split (fun z=>absurd z ?_) (fun _=>?_)
  ·show ¬((!t.plain&&decide (es.size>1))=true)
   rw [R.pln];simp
  refine wpAny_bind (wpAny_of_eq (a:=()) ?_ ?_)
  ·show (if (!t.led&&!es.isEmpty)=true then _ else _)=_
   rw [R.led,hb];rfl
  refine wpAny_pure ?_
  have eb:below t.place slot=i:=by rw [R.p.pl];exact hs hb
  rw [eb]
  cases c:es[i]? with
  | none=>exact q2 c
  | some x =>
   have hi:i<l.length:=by rw [R.ln];exact (Array.getElem?_eq_some_iff.mp c).1
   have ep':t.place[i]?=some l[i]:=by rw [R.p.pl];simp [hi]
   rw [ep']
   exact q1 x c _ fun _ _=>below_next R.p.up hi
theorem it_set {h:Heap} {I:Addr} {a b:Value} {xs:Array Value} (h0:h.get? I=some { cls:=.type "set_iterator",data:=.fields xs }) (k:Nat) (v:Value):(h.update I (Obj.mapFields (·.setIfInBounds k v))).get? I=some { cls:=.type "set_iterator",data:=.fields (xs.setIfInBounds k v) }:=by
 rw [Heap.get?_update_self _ h0 (Obj.isFreed_of_fields (Obj.data_mapFields rfl _))]
 rfl
theorem it_type {I:Addr} {slot i n:Nat} (h:s.heap.get? I=some (itO slot i S n ep)):s.TypeIs (.ref I) "set_iterator":=⟨_,h, rfl⟩
theorem item_is (R:Src w S es ep t l) {I:Addr} (hI:S≠I) {i:Nat} (h:Stt w I S es ep t l i s.heap) {x:Int×Value} (hx:(ordA w S ep es)[i]?=some x) {Q:Option Value→Shared→Prop}
  (q:∀ h',Stt w I S es ep t l (i+1) h'→Heap.SameBut I s.heap h'→Q (some x.2) { s with heap:=h' }):wpAny (model prog w) A (pyNext (.ref I)) Q E s:=by
 obtain ⟨⟨slot,hg, hs⟩,hA⟩:=h
 have hT:=it_type hg
 have h0:=hA
 obtain ⟨o,ho,hex, hd⟩:=hA
 unfold pyNext
 refine wpAny_bind (wpAny_attempt (wpAny_callSpecial?_slot (name:=Str.ofString "__next__") hT s_next (wpAny_call_entry s_next hT e_next ?_ (a_next _))))
 unfold Builtin.«set_iterator.__next__»
 refine wpAny_bind (m:=slotArgs _ _ _) (wpAny_pure ?_)
 refine wpAny_bind (wpAny_fieldsOf hg rfl ?_)
 dsimp only
 refine wpAny_bind (wpAny_setEntries_of ho hd R.fit ?_)
 refine wpAny_ite_split (fun z=>absurd z (by simp)) (fun _=>?_)
 simp only [Int.toNat_natCast]
 refine wpAny_bind (next_of R h0 hs (fun y hy slot' hs'=>?_) fun z=>absurd (z.symm.trans hx) (by simp))
 rw [hx] at hy
 cases hy
 dsimp only
 refine wpAny_bind (wpAny_setField hg rfl (by simp) ?_)
 have g1:=it_set (a:=.none) (b:=.none) hg 0 (rawInt (slot':Int))
 have sb1:=Heap.SameBut.update s.heap I (Obj.mapFields (·.setIfInBounds 0 (rawInt (slot':Int))))
 generalize s.heap.update I (Obj.mapFields (·.setIfInBounds 0 (rawInt (slot':Int))))=h1 at g1 sb1 ⊢
 refine wpAny_bind (wpAny_setField (s:={ s with heap:=h1 }) g1 rfl (by simp) ?_)
 have g2:=it_set (a:=.none) (b:=.none) g1 1 (rawInt ((i:Int)+1))
 have sb2:=Heap.SameBut.update h1 I (Obj.mapFields (·.setIfInBounds 1 (rawInt ((i:Int)+1))))
 show wpAny _ _ (ret x.2) _ _ { s with heap:=h1.update I (Obj.mapFields (·.setIfInBounds 1 (rawInt ((i:Int)+1)))) }
 generalize h1.update I (Obj.mapFields (·.setIfInBounds 1 (rawInt ((i:Int)+1))))=h2 at g2 sb2 ⊢
 have lti:i<es.size:=by rw [←ord_size w S ep es];exact (Array.getElem?_eq_some_iff.mp hx).1
 refine wpAny_pure ⟨_,rfl, wpAny_pure (q h2 ⟨⟨slot',g2, fun z=>hs' z (by rw [R.ln];exact lti)⟩,?_⟩ (sb1.trans sb2))⟩
 exact ⟨o,(sb2.2 S hI).trans ((sb1.2 S hI).trans ho),hex, hd⟩
theorem end_is (R:Src w S es ep t l) {I:Addr} (hI:S≠I) (hh:A.handled=none) {i:Nat} (h:Stt w I S es ep t l i s.heap) (hx:(ordA w S ep es)[i]?=none) {Q:Option Value→Shared→Prop}
  (q:∀ h',Heap.ExtBut I s.heap h'→Q none { s with heap:=h' }):wpAny (model prog w) A (pyNext (.ref I)) Q E s:=by
 obtain ⟨⟨slot,hg, hs⟩,hA⟩:=h
 have hT:=it_type hg
 have h0:=hA
 obtain ⟨o,ho,hex, hd⟩:=hA
 unfold pyNext
 refine wpAny_bind (wpAny_attempt (wpAny_callSpecial?_slot (name:=Str.ofString "__next__") hT s_next (wpAny_call_entry s_next hT e_next ?_ (a_next _))))
 unfold Builtin.«set_iterator.__next__»
 refine wpAny_bind (m:=slotArgs _ _ _) (wpAny_pure ?_)
 refine wpAny_bind (wpAny_fieldsOf hg rfl ?_)
 dsimp only
 refine wpAny_bind (wpAny_setEntries_of ho hd R.fit ?_)
 refine wpAny_ite_split (fun z=>absurd z (by simp)) (fun _=>?_)
 simp only [Int.toNat_natCast]
 refine wpAny_bind (next_of R h0 hs (fun y hy=>absurd (hy.symm.trans hx) (by simp)) fun _=>?_)
 dsimp only
 refine wpAny_bind (wpAny_setField hg rfl (by simp) ?_)
 refine wpAny_bind ?_
 simp only [newExc,newTuple]
 refine wpAny_bind (wpAny_newObj_type ?_ (by size_fits))
 refine wpAny_bind (m:=firstArgMember _ _) (wpAny_of_eq (a:=Value.none) (by first | rfl | (simp only [firstArgMember];rfl)) ?_)
 refine wpAny_newObj_type ?_ (by size_fits)
 simp only [raiseNew]
 refine wpAny_bind (wpAny_handled ?_)
 rw [show A.in1.handled=none from hh]
 refine wpAny_bind (wpAny_pure (wpAny_throw ?_))
 refine wpAny_bind (wpAny_isInstance (T:="StopIteration") (b:=true) ⟨_,Heap.get?_push_size _ rfl, rfl⟩ isSubtype_stop ?_)
 exact wpAny_pure (q _ (((Heap.SameBut.update ..).extBut.push _).push _))
theorem self_is {I:Addr} {i:Nat} (h:Stt w I S es ep t l i s.heap) {Q:Value→Shared→Prop} (q:Q (.ref I) s):wpAny (model prog w) A (pyIter (.ref I)) Q E s:=by
 obtain ⟨⟨slot,hg, hs⟩,hA⟩:=h
 have hT:=it_type hg
 refine wpAny_pyIter_slot hT s_iter (wpAny_call_entry s_iter hT e_iiter ?_ (a_iter _))
 exact wpAny_pure ⟨_,rfl,"set_iterator",_,hT,s_next.lookup, q⟩
theorem walk_is (R:Src w S es ep t l) (hh:A.handled=none) (I:Addr) (hI:S≠I):Walks prog w A I [I,S] [I] es.size (fun i v=>∃ x,(ordA w S ep es)[i]?=some x∧v=x.2) (fun i h=>Stt w I S es ep t l i h) where
 sub:=fun b hb=>by simp at hb;simp [hb]
 frame:=fun _ _ _ st hk=>⟨let ⟨slot,a,b⟩:=st.1;⟨slot,hk I (by simp) _ a, b⟩,let ⟨o,a,b⟩:=st.2;⟨o,hk S (by simp) _ a, b⟩⟩
 item:=fun i s Q E hi st hQ=>by
  have hl:i<(ordA w S ep es).size:=by rw [ord_size];exact hi
  have hx:(ordA w S ep es)[i]?=some (ordA w S ep es)[i]:=Array.getElem?_eq_getElem hl
  exact item_is R hI st hx fun h' st' sb=>hQ _ h' s.toks ⟨_,hx, rfl⟩ st' fun b o hb e=>sb.extBut b o (fun z=>hb (by simp [z])) e
 done:=fun s Q E st hQ=>end_is R hI hh st (by rw [Array.getElem?_eq_none_iff,ord_size];exact Nat.le_refl _) fun h' he=>hQ h' s.toks fun b o hb e=>he b o (fun z=>hb (by simp [z])) e
 self:=fun _ _ _ _ st hQ=>self_is st hQ
theorem hint_is (hT:s.TypeIs (.ref S) "set") {Q:Bool→Shared→Prop} (h:Q false s):wpAny (model prog w) A (Builtin.List.listLengthHint (.ref S)) Q E s:=by
 unfold Builtin.List.listLengthHint
 refine wpAny_bind (wpAny_specialOf hT F.slot_set_len.lookup ?_)
 generalize hid:("set.__len__" : String)=id0
 wp_delta
 rw [show splitId id0=some ("set","__len__") from by subst hid;decide +kernel]
 subst hid
 refine wpAny_bind (wpAny_isInstance (T:="set") (b:=true) hT (by rw [isSubtype_type];kernel_rfl) ?_)
 refine wpAny_ite_split (fun hab=>absurd hab (by decide)) (fun _=>?_)
 refine wpAny_ite_split (fun _=>?_) (fun hab=>absurd (by decide +kernel) hab)
 refine wpAny_bind (wpAny_typeOf hT ?_)
 exact wpAny_pure h
theorem src_is (R:Src w S es ep t l):PySem.W.KdlSrc prog w "set" S S es.size (fun i v=>∃ x,(ordA w S ep es)[i]?=some x∧v=x.2) (AtS S es ep t) where
 type:=fun _ h=>h.typeIs
 there:=fun _ h=>let ⟨_,ho,_⟩:=h;⟨Heap.lt_size ho,Heap.lt_size ho⟩
 keep:=fun _ _ h hk=>let ⟨o,a,b⟩:=h;⟨o,hk S (.inl rfl) o a, b⟩
 notList:=by decide
 notTuple:=by decide
 hint:=fun _ _ _ _ h hq=>hint_is h.typeIs hq
 iter:=fun A s hh h=>⟨_,_,(fun _ _ hq=>iter_is R h hq),walk_is R hh _ (let ⟨_,ho,_⟩:=h;Nat.ne_of_lt (Heap.lt_size ho)), ⟨⟨0,Heap.get?_push_size _ rfl, fun _=>below_zero R.p.up⟩,let ⟨o,a,b⟩:=h;⟨o,Heap.get?_push_of_some _ a, b⟩⟩⟩
end
end ST
set_option maxRecDepth 100000
namespace L2
open PySem PySem.Spec PyProof.Rows
def SetF (P:Program) (w:World) (S:Addr) (xs:ST.Xs) (h:Heap):Prop:=∃ o ep t l,h.get? S=some o∧o.ExactSet∧o.data=.set (xs.map (ST.ent P w)).toArray ep t∧ST.Tab t l (xs.map fun x=>ST.hk P w x.1)∧xs.length<t.mask+1∧t.plain=true∧t.led=!ST.byT w
def SetO (P:Program) (w:World) (S:Addr) (xs:ST.Xs):HO:=.ext (SetF P w S xs)
theorem seto_ok {P:Program} {w:World} {H:Hp} {h:Heap} {S:Addr} {xs:ST.Xs} (f:SetF P w S xs h):ObjOk P w H h S (SetO P w S xs):=by
 refine ⟨f,let ⟨o,_,_,_,e,_⟩:=f;⟨o,e⟩, fun h1 h2 f1 k=>?_⟩
 obtain ⟨o,ep,t,l,e, r⟩:=f1
 exact ⟨o,ep,t,l,k o e, r⟩
theorem setF_of {P:Program} {w:World} {S:Addr} {xs:ST.Xs} {h:Heap} (x:ST.SetIs P w (!ST.byT w) h S xs):SetF P w S xs h∧(xs.map (·.1)).Nodup:=by
 obtain ⟨o,ep,t,l,ho,hex,hd,T,few,pln,hled,hks, nd⟩:=x
 refine ⟨⟨o,ep,t,l,ho,hex,hd,T,?_,pln, hled⟩,nd⟩
 rcases T.ma with e | e<;>rw [e] at few ⊢<;>omega
theorem items_of {P:Program} {w:World}:∀ {ks:List Int} {us:List Value},Vals (ks.map V.int) us→ItemsAre (intKind P w) ks us
 | [],_,.nil=>.nil
 | k::ks,_,.cons r t=>by
  obtain ⟨u,rfl⟩:=r
  exact .cons (by simp [intKind,Value.isInt]) (items_of t)
theorem perm_map_ex {α β:Type} {f:α→β} {l m:List β} (h:l.Perm m):∀ {ys:List α},m=ys.map f→∃ zs:List α,l=zs.map f∧zs.Perm ys:=by
 induction h with
 | nil=>intro ys e;exact ⟨ys,e, List.Perm.refl _⟩
 | cons x _ ih =>
  intro ys e
  cases ys with
  | nil=>cases e
  | cons y ys =>
   injection e with e1 e2
   obtain ⟨zs,a, b⟩:=ih e2
   exact ⟨y::zs,by rw [e1,a];rfl, b.cons y⟩
 | swap x y l =>
  intro ys e
  match ys,e with
  | y1::y2::ys,e =>
   injection e with e1 e
   injection e with e2 e3
   exact ⟨y2::y1::ys,by rw [e1,e2,e3];rfl, List.Perm.swap _ _ _⟩
 | trans _ _ ih1 ih2 =>
  intro ys e
  obtain ⟨z2,a2, b2⟩:=ih2 e
  obtain ⟨z1,a1, b1⟩:=ih1 a2
  exact ⟨z1,a1, b1.trans b2⟩
theorem one_of {α β:Type} {f:α→β}:∀ {ys:List α},(ys.map f).Nodup→∀ {x y:α},x∈ys→y∈ys→f x=f y→x=y
 | z::ys,nd,x,y,hx,hy,e=>by
  rw [List.map_cons,List.nodup_cons] at nd
  rcases Zn.mp hx with hx1 | hx1
  ·rcases Zn.mp hy with hy1 | hy1
   ·rw [hx1,hy1]
   ·exact absurd (by rw [←hx1,e];exact Yf hy1) nd.1
  ·rcases Zn.mp hy with hy1 | hy1
   ·exact absurd (by rw [←hy1,←e];exact Yf hx1) nd.1
   ·exact one_of nd.2 hx1 hy1 e
section
variable {X:Cx}
theorem key_ofS {pins:List (Addr×Obj)} {σ:St} {H:Hp} {s:Shared} (I:Inv X pins σ H s) {a:Addr} {ks:List Int} (h:SqT X.K H a (ks.map V.int)):IsTupleKey (intKind X.prog X.w) s.heap ks a:=by
 obtain ⟨its,r,⟨o,g1,c1,n, d1⟩, _⟩:=I.tuple h
 exact ⟨o,its.toArray,n,g1,c1,d1, by simpa using items_of r⟩
theorem call_setP (hc:X.calm=true) (hu:X.A.units+8<cLine):CallR X (.type "set") (fun xs H Q=>∃ (p:Addr) (vs:ST.Xs) (dom:List (List Int)),xs=[.ref p]∧SqL X.K H p (vs.map fun x=>V.ref x.2)∧(∀ x∈vs,SqT X.K H x.2 (x.1.map V.int))∧dom.length≤17∧(∀ x∈vs,x.1∈dom) ∧
  ∀ (D:Addr) (ys:ST.Xs),H D=none→ST.Acc vs vs.length ys→(ys.map (·.1)).Nodup→Q (.ref D) (upd H D (SetO X.prog X.w D ys))):=by
 intro pins s σ H xs us Q I r h
 obtain ⟨p,vs,dom,rfl,hq,hk,hd,hv, q⟩:=h
 obtain ⟨u,rfl, rx⟩:=vals1 r
 cases rx
 obtain ⟨its,r',pl, hz⟩:=I.list hq
 have ei:its=vs.map fun x=>Value.ref x.2:=by
  have:(vs.map fun x=>V.ref x.2)=(vs.map (·.2)).map V.ref:=by rw [Yg];rfl
  rw [this] at r'
  rw [vals_refs r',Yg];rfl
 refine ST.call_setT (vs:=vs) (I.ok.hd hc) pl.isList (by simpa using ei) (fun x hx=>key_ofS I (hk x hx)) (by show X.A.units+1+1+1<cLine;omega) dom hd hv fun h' tk ys hS ha hkp=>?_
 obtain ⟨f,nd⟩:=setF_of hS
 exact ⟨.ref s.heap.objs.size,_,I.laid (t':=tk) (fun b o e=>hkp b o (Heap.lt_size e) e) (Nat.le_refl _) (seto_ok f),rfl, q _ ys I.fresh ha nd⟩
theorem call_sortedS (hc:X.calm=true) (hu:X.A.units+8<cLine):CallR X (.builtin "sorted") (fun xs H Q=>∃ (S:Addr) (ys:ST.Xs),xs=[.ref S]∧H S=some (SetO X.prog X.w S ys)∧(∀ x∈ys,x.1≠[]∧SqT X.K H x.2 (x.1.map V.int))∧ys.length<64∧(ys.map (·.2)).Nodup ∧
  ∀ (l:Addr) (zs:ST.Xs),H l=none→zs.Perm ys→(zs.Pairwise fun a b=>SO.lx b.1 a.1=false)→Q (.ref l) (upd H l (.lst (zs.map fun x=>V.ref x.2)))):=by
 intro pins s σ H xs us Q I r h
 obtain ⟨S,ys,rfl,hS,hk,h64,nd, q⟩:=h
 obtain ⟨u,rfl, rx⟩:=vals1 r
 cases rx
 obtain ⟨f,_, _⟩:=I.hok S _ hS
 obtain ⟨o,ep,t,l,ho,hex,hd,T,fw,pln, hled⟩:=f
 have sz:((ys.map (ST.ent X.prog X.w)).toArray).size=ys.length:=by simp
 have R:ST.Src X.w S (ys.map (ST.ent X.prog X.w)).toArray ep t l:=⟨T.p,by rw [T.ln];simp,T.fits (by rw [Zq];exact fw) (by simp),pln, hled⟩
 refine Calls.call_function_entry kind_sorted plain_sorted entry_sorted (args_sorted1 _) ?_
 unfold Builtin.«sorted»
 refine wpAny_bind (m:=checkCount "sorted" 1 1 _) (wpAny_pure ?_)
 refine wpAny_bind (PySem.W.kdu_collect (ST.src_is R) (I.ok.hd hc) ⟨o,ho,hex, hd⟩ (by rw [sz];exact Yr (by omega:ys.length≤64) (by decide)) fun h' tk acc hkp it=>?_)
 obtain ⟨zs,ez, pz⟩:∃ zs:ST.Xs,acc.toList=zs.map (fun x=>Value.ref x.2)∧zs.Perm ys:=by
  have po:=ST.ord_perm X.w S ep (ys.map (ST.ent X.prog X.w)).toArray
  rw [show (ys.map (ST.ent X.prog X.w)).toArray.toList=ys.map (ST.ent X.prog X.w) from by simp] at po
  obtain ⟨zs,e1, e2⟩:∃ zs:ST.Xs,(ST.ordA X.w S ep (ys.map (ST.ent X.prog X.w)).toArray).toList=zs.map (ST.ent X.prog X.w)∧zs.Perm ys:=by
   exact perm_map_ex po rfl
  refine ⟨zs,Yn fun i=>?_, e2⟩
  have el:zs.length=ys.length:=e2.length_eq
  by_cases c:i<ys.length
  ·have ci:i<acc.size:=by rw [it.1,sz];exact c
   obtain ⟨x,h1, h2⟩:=it.2 i acc[i] (Array.getElem?_eq_getElem ci)
   rw [Array.getElem?_toList,Array.getElem?_eq_getElem ci,h2]
   rw [←Array.getElem?_toList,e1,Zk,Zz (by omega:i<zs.length)] at h1
   rw [Zk,Zz (by omega:i<zs.length)]
   have h1:=Option.some.inj h1
   rw [←h1];rfl
  ·rw [Array.getElem?_toList,Array.getElem?_eq_none (by rw [it.1,sz];omega),Zr (by rw [Zq];omega)]
 have hl':acc.toList.length<64:=by rw [ez,Zq,pz.length_eq];exact h64
 have hz':acc.toList.length≤sizeLine:=Yr (by omega:acc.toList.length≤64) (by decide)
 refine wpAny_bind (wpAny_newList ?_ hz')
 have I1:Inv X pins σ H { s with heap:=h',toks:=tk }:=I.kept hkp
 have ho2:(h'.push (seqObj "list" acc.toList.toArray 0)).get? h'.objs.size=some (seqObj "list" acc.toList.toArray 0):=Heap.get?_push_size _ rfl
 let kf:Value→List Int:=fun v=>match v with
  | .ref a=>((ys.find? fun x=>x.2==a).map (·.1)).getD []
  | _=>[]
 have kfx:∀ x∈ys,kf (.ref x.2)=x.1:=fun x hx=>by
  show ((ys.find? fun y=>y.2==x.2).map (·.1)).getD []=x.1
  cases e:ys.find? fun y=>y.2==x.2 with
  | none=>exact absurd (List.find?_eq_none.mp e x hx) (by simp)
  | some y =>
   have h1:=List.find?_some e
   have h2:=List.mem_of_find?_eq_some e
   have:y=x:=one_of nd h2 hx (by simpa using h1)
   rw [this];rfl
 have tup1:∀ v∈acc.toList,∃ x∈ys,v=.ref x.2:=fun v hv=>by
  rw [ez] at hv
  obtain ⟨x,hx, rfl⟩:=Zh.mp hv
  exact ⟨x,pz.mem_iff.mp hx, rfl⟩
 have tups:SO.Tups h' acc.toList kf:=fun v hv=>by
  obtain ⟨x,hx, rfl⟩:=tup1 v hv
  obtain ⟨its,r2,⟨o',g1,c1,n, d1⟩, _⟩:=I1.tuple (hk x hx).2
  exact ⟨x.2,o',its.toArray,n,rfl,g1,c1,d1, by rw [kfx x hx];exact (show IntsAre its x.1 from intsAre_of r2)⟩
 have tups2:SO.Tups (SO.amid (h'.push (seqObj "list" acc.toList.toArray 0)) h'.objs.size acc.toList) acc.toList kf:=tups.mono fun b o eb=>by
  have hlt:=Heap.lt_size eb
  unfold SO.amid
  refine Heap.get?_push_of_some _ (Heap.get?_push_of_some _ ?_)
  rw [Heap.get?_update_other _ _ (Ne.symm (Nat.ne_of_lt hlt))]
  exact Heap.get?_push_of_some _ eb
 refine wpAny_bind (wpAny_holding (wpAny_call_entry slot_list_sort ⟨_,ho2, rfl⟩ entry_list_sort
  (SO.sort_list (s:={ s with heap:=h'.push (seqObj "list" acc.toList.toArray 0),toks:=tk }) (k:=tuples' true) (ρ:=SO.rank acc.toList kf) ho2 hl' (fun h2 {Q'} q'=>?_) (SO.tells_tups tups2) fun out p u=>⟨_,rfl, ?_⟩) (args_list_sort _)))
 ·obtain ⟨fs,k,lf, g⟩:=SO.firsts tups2 fun v hv=>by
   obtain ⟨x,hx, rfl⟩:=tup1 v hv
   rw [kfx x hx];exact (hk x hx).1
  refine PySem.W.kat_kind (T:=Value.type "int") k (by omega) (fun v m=>?_) (by decide) q'
  obtain ⟨n,t', rfl⟩:=g v m
  exact .now
 ·obtain ⟨c1,c2⟩:=SO.came_out p u
  obtain ⟨qs,e1, e2⟩:=perm_map_ex (f:=fun x:List Int×Addr=>Value.ref x.2) (ys:=zs) c1 ez
  obtain ⟨e,he⟩:=sortedHeap_at (out:=out.map (·.2)) ho2
  have pq:=e2.trans pz
  refine wpAny_pure ⟨_,rfl,.ref h'.objs.size,_,I1.laid (t':=tk) (fun b o eb=>?_) (Nat.le_refl _) (show ObjOk X.prog X.w _ _ _ (.lst (qs.map fun x=>V.ref x.2)) from ⟨?_,(out.map (·.2)).toList,e,?_, he⟩),rfl, q _ qs I1.fresh pq ?_⟩
  ·have hlt:=Heap.lt_size eb
   show (sortedHeap _ _ _ _).get? b=_
   rw [sortedHeap_old (Nat.ne_of_lt hlt) (by rw [Heap.size_push];exact YQ hlt)]
   exact Heap.get?_push_of_some _ eb
  ·rw [Zq,pq.length_eq]
   exact Yr (by omega:ys.length≤64) (by decide)
  ·rw [e1]
   have a1:(qs.map fun x=>V.ref x.2)=(qs.map (·.2)).map V.ref:=by rw [Yg];rfl
   have a2:(qs.map fun x=>Value.ref x.2)=(qs.map (·.2)).map Value.ref:=by rw [Yg];rfl
   rw [a1,a2];exact refs_vals _
  ·rw [e1,List.pairwise_map] at c2
   refine c2.imp_of_mem fun {a b} ha hb hab=>?_
   rw [kfx a (pq.mem_iff.mp ha),kfx b (pq.mem_iff.mp hb)] at hab
   exact hab
end
end L2
set_option maxRecDepth 100000
namespace SO
open PySem PyProof PyProof.Rows
open AutoSeq1 (wpAny_loadPart')
def lxL:List (List Int)→List (List Int)→Bool
 | [],[]=>false
 | [],_::_=>true
 | _::_,[]=>false
 | a::r,b::r'=>if a=b then lxL r r' else lx a b
inductive Refs (prog:Program) (w:World) (h:Heap):List (List Int)→List Value→Prop
 | nil:Refs prog w h [] []
 | cons {k:List Int} {a:Addr} {ks:List (List Int)} {vs:List Value}:IsTupleKey (intKind prog w) h k a→Refs prog w h ks vs→Refs prog w h (k::ks) (.ref a::vs)
theorem Refs.len {prog:Program} {w:World} {h:Heap}:∀ {ks:List (List Int)} {vs:List Value},Refs prog w h ks vs→vs.length=ks.length
 | _,_,.nil=>rfl
 | _,_,.cons _ t=>by simp [t.len]
theorem Refs.at {prog:Program} {w:World} {h:Heap}:∀ {ks:List (List Int)} {vs:List Value},Refs prog w h ks vs→∀ i,i<vs.length→∃ k a,ks[i]?=some k∧vs[i]?=some (.ref a)∧IsTupleKey (intKind prog w) h k a
 | _,_,.nil,i,hi=>by simp at hi
 | _,_,.cons h1 _,0,_=>⟨_,_,rfl,rfl, h1⟩
 | _,_,.cons _ t,i+1,hi=>by
  obtain ⟨k,a,e1,e2, e3⟩:=t.at i (by simpa using hi)
  exact ⟨k,a,by simpa using e1,by simpa using e2, e3⟩
theorem ints_of_items {prog:Program} {w:World} {ks:List Int} {vs:List Value} (h:ItemsAre (intKind prog w) ks vs):IntsAre vs ks:=by
 induction h with
 | nil=>exact .nil
 | cons h1 _ ih=>obtain ⟨t,rfl⟩:=Value.isInt_shape h1;exact .cons _ t ih
theorem lexLt_lx:∀ a b:List Int,HT.lexLt a b=lx a b
 | [],[]=>by simp [HT.lexLt,lx]
 | [],_::_=>by simp [HT.lexLt,lx]
 | _::_,[]=>by simp [HT.lexLt,lx]
 | x::a,y::b=>by
  have:=lexLt_lx a b
  by_cases h:x=y
  ·subst h;simp [HT.lexLt,lx,this]
  ·simp [HT.lexLt,lx,h]
section
variable {prog:Program} {w:World} {A:Around} {R:Result→Shared→Prop} {s:Shared}
theorem lt_loopL (l b:Addr) (xs ys:Array Value) (n n2:Nat) {d1 d2:Option Addr} {l1 l2:Array (Option Value)} (ns ms:List (List Int)) (hu:A.in1.units+8<cLine) (gl:s.heap.get? l=some { cls:=.type "list",dict:=d1,data:=.seq xs n,slots:=l1 }) (gb:s.heap.get? b=some { cls:=.type "list",dict:=d2,data:=.seq ys n2,slots:=l2 }) (hx:Refs prog w s.heap ns xs.toList) (hy:Refs prog w s.heap ms ys.toList) (k:Nat) :
  ∀ i:Nat,xs.size-i=k→i≤xs.size→i≤ys.size→R (.ok (.ret (.bool (lxL (ns.drop i) (ms.drop i))))) s→codeAny (model prog w) A (.builtin "list.__eq__.loop" ⟨[.ref l,.ref b,rawInt i,rawInt 0],[]⟩) R s:=by
 have lx1:=hx.len
 have ly1:=hy.len
 simp only [Array.length_toList] at lx1 ly1
 induction k with
 | zero =>
  intro i hk q1 q2 h
  refine codeAny_builtin MeetsSeq3.entry_eq_loop ?_
  rw [Around.under_plainId MeetsSeq3.plain_eq_loop _]
  obtain ⟨hp,g,d,tk, os⟩:=s
  wp_walk using wpAny_loadPart' gl,wpAny_loadPart' gb
  have e1:xs[((i:Nat):Int).toNat]?=none:=by simp;omega
  rw [e1]
  dsimp only
  wp_walk using wpAny_loadPart' gl,wpAny_loadPart' gb
  show R (.ok (.ret (.bool (decide (xs.size<ys.size))))) _
  have e2:ns.drop i=[]:=by simp;omega
  rw [e2] at h
  cases e3:ms.drop i with
  | nil =>
   rw [e3] at h
   have:ms.length≤i:=by simpa using e3
   rw [decide_eq_false (by omega)];exact h
  | cons u r =>
   rw [e3] at h
   have:¬ms.length≤i:=fun g=>by rw [List.drop_eq_nil_of_le g] at e3;cases e3
   rw [decide_eq_true (by omega)];exact h
 | succ k ih =>
  intro i hk q1 q2 h
  refine codeAny_builtin MeetsSeq3.entry_eq_loop ?_
  rw [Around.under_plainId MeetsSeq3.plain_eq_loop _]
  obtain ⟨a,c,na,ea, ka⟩:=hx.at i (by simp;omega)
  have da:ns.drop i=a::ns.drop (i+1):=by
   obtain ⟨g1,g2⟩:=Zj.mp na
   rw [List.drop_eq_getElem_cons g1,g2]
  have e1:xs[((i:Nat):Int).toNat]?=some (.ref c):=by simpa using ea
  have hc:((i:Int)+1)=((i+1:Nat):Int):=by push_cast;rfl
  by_cases cs:i<ys.size
  ·obtain ⟨a',c',nb,eb, kb⟩:=hy.at i (by simpa using cs)
   have e2:ys[((i:Nat):Int).toNat]?=some (.ref c'):=by simpa using eb
   have db:ms.drop i=a'::ms.drop (i+1):=by
    obtain ⟨g1,g2⟩:=Zj.mp nb
    rw [List.drop_eq_getElem_cons g1,g2]
   rw [da,db] at h
   unfold lxL at h
   obtain ⟨hp,g,d,tk, os⟩:=s
   wp_walk using wpAny_loadPart' gl,wpAny_loadPart' gb
   rw [e1,e2]
   dsimp only
   refine wpAny_bind ((tupleKind (intKind prog w)).eqBool (show A.in1.units<cLine by omega) ka kb ?_)
   by_cases cc:a=a'
   ·rw [if_pos cc] at h
    rw [decide_eq_true cc]
    wp_walk
    rw [hc]
    exact ⟨plainId_quiet MeetsSeq3.plain_eq_loop _,ih (i+1) (by omega) (by omega) (by omega) h⟩
   ·rw [if_neg cc] at h
    rw [decide_eq_false cc]
    wp_walk using wpAny_loadPart' gl,wpAny_loadPart' gb
    rw [e1,e2]
    dsimp only
    obtain ⟨o1,i1,m1,g1,c1,f1, t1⟩:=ka
    obtain ⟨o2,i2,m2,g2,c2,f2, t2⟩:=kb
    refine wpAny_bind ?_
    show wpAny _ A.in1 (compareOp .Lt (.ref c) (.ref c')) _ _ _
    refine HT.lt_tupInts ⟨o1,g1,c1,m1, f1⟩ ⟨o2,g2,c2,m2, f2⟩ (ints_of_items t1) (ints_of_items t2) (by omega) ?_
    rw [lexLt_lx]
    exact wpAny_pure h
  ·obtain ⟨hp,g,d,tk, os⟩:=s
   have e2:ys[((i:Nat):Int).toNat]?=none:=by simp;omega
   wp_walk using wpAny_loadPart' gl,wpAny_loadPart' gb
   rw [e1,e2]
   dsimp only
   wp_walk using wpAny_loadPart' gl,wpAny_loadPart' gb
   show R (.ok (.ret (.bool (decide (xs.size<ys.size))))) _
   rw [da,List.drop_eq_nil_of_le (by omega:ms.length≤i)] at h
   rw [decide_eq_false (by omega)];exact h
theorem list_ltL {E:Value→Shared→Prop} {Q:Value→Shared→Prop} {l b:Addr} {xs ys:Array Value} {ns ms:List (List Int)} (hu:A.units+12<cLine) (gl:s.heap.IsList l xs) (gb:s.heap.IsList b ys) (hx:Refs prog w s.heap ns xs.toList) (hy:Refs prog w s.heap ms ys.toList) (h:Q (.bool (lxL ns ms)) s) :
  wpAny (model prog w) A (compareOp .Lt (.ref l) (.ref b)) Q E s:=by
 show wpAny _ _ (richCompare .Lt (.ref l) (.ref b)) Q E s
 obtain ⟨⟨c1,d1,b1, l1⟩,g1,k1,n1, j1⟩:=gl
 obtain ⟨⟨c2,d2,b2, l2⟩,g2,k2,n2, j2⟩:=gb
 simp only at k1 j1 k2 j2
 subst k1 j1 k2 j2
 have hT:s.TypeIs (.ref l) "list":=⟨_,g1, rfl⟩
 have hT2:s.TypeIs (.ref b) "list":=⟨_,g2, rfl⟩
 refine wpAny_richCompare_same_room (op:=.Lt) (T:="list") hT hT2 slotLt (wpAny_call (codeAny_call_builtin slotLt.plain PySem.F.entry_list_lt (slotLt.check _ _ _ _ _ _ _ _ hT (PySem.F.args_list_lt_2 _ _) ?_))) (by omega)
 have f3:=AutoSeq1.sub_list_list
 obtain ⟨hp,g,d,tk, os⟩:=s
 wp_walk using wpAny_loadPart' g1,wpAny_loadPart' g2
 refine ⟨plainId_quiet MeetsSeq3.plain_eq_loop _,lt_loopL l b xs ys n1 n2 ns ms (by show A.units+1+8<cLine;omega) g1 g2 hx hy _ 0 rfl (Nat.zero_le _) (Nat.zero_le _) ⟨(fun z=>by cases z),h⟩⟩
end
end SO
namespace L2
open PySem PySem.Spec PyProof.Rows
section
variable {X:Cx}
theorem refs_of {pins:List (Addr×Obj)} {σ:St} {H:Hp} {s:Shared} (I:Inv X pins σ H s):∀ {xs:ST.Xs} {us:List Value},(∀ x∈xs,SqT X.K H x.2 (x.1.map V.int))→Vals (xs.map fun x=>V.ref x.2) us→SO.Refs X.prog X.w s.heap (xs.map (·.1)) us
 | [],_,_,.nil=>.nil
 | x::xs,_,h,.cons r t=>by
  cases r
  exact .cons (key_ofS I (h x Zd)) (refs_of I (fun y hy=>h y (Zw _ hy)) t)
theorem op_ltL (hu:X.A.units+12<cLine):OpR X (compareOp .Lt) (fun x y H Q=>∃ (a b:Addr) (xs ys:ST.Xs),x=.ref a∧y=.ref b∧SqL X.K H a (xs.map fun x=>V.ref x.2)∧SqL X.K H b (ys.map fun x=>V.ref x.2)∧(∀ x∈xs,SqT X.K H x.2 (x.1.map V.int))∧(∀ x∈ys,SqT X.K H x.2 (x.1.map V.int))∧Q (.bl (SO.lxL (xs.map (·.1)) (ys.map (·.1)))) H):=by
 intro pins s σ H x y v u Q I rx ry h
 obtain ⟨a,b,xs,ys,rfl,rfl,ha,hb,hx,hy, q⟩:=h
 cases rx
 cases ry
 obtain ⟨i1,r1,p1, _⟩:=I.list ha
 obtain ⟨i2,r2,p2, _⟩:=I.list hb
 exact SO.list_ltL hu p1.isList p2.isList (by simpa using refs_of I hx r1) (by simpa using refs_of I hy r2) ⟨.bl _,H,I,rfl, q⟩
end
end L2
namespace L2
open PySem PySem.Spec PyProof.Rows
section
variable {X:Cx}
theorem reads_all {pins:List (Addr×Obj)} {σ:St} {H:Hp} {s:Shared} (I:Inv X pins σ H s):∀ {xs:List V} {ds:List PyData} {us:List Value},Bds X.K H xs ds→Vals xs us→us.length=ds.length∧∀ (i:Nat) u d,us[i]?=some u→ds[i]?=some d→∃ as,Reads s.heap u d as
 | _,_,_,.nil,.nil=>⟨rfl,fun i u d h=>by simp at h⟩
 | _,_,_,.cons b bs,.cons r t=>by
  obtain ⟨h1,h2⟩:=reads_all I bs t
  refine ⟨by simp [h1],fun i u d e1 e2=>?_⟩
  cases i with
  | zero =>
   simp only [List.getElem?_cons_zero,Option.some.injEq] at e1 e2
   subst e1;subst e2
   exact b.reads I r
  | succ i =>
   simp only [List.getElem?_cons_succ] at e1 e2
   exact h2 i u d e1 e2
open Classical in
noncomputable def tstD (h:Heap) (dx:PyData) (u:Value):Bool:=if ∃ d as,d.canLay0=true∧Reads h u d as∧PyData.eqv d dx=true then true else false
theorem tst_is {h:Heap} {dx d:PyData} {u:Value} {as:List Addr} (r:Reads h u d as) (c:d.canLay0=true):tstD h dx u=PyData.eqv d dx:=by
 unfold tstD
 cases e:PyData.eqv d dx with
 | true=>rw [if_pos ⟨d,as,c,r, e⟩]
 | false =>
  rw [if_neg]
  rintro ⟨d',as',c',r', e'⟩
  have:=SeqAt.Reads.unique d' d u as' as c' r' r
  subst this
  rw [e] at e';cases e'
theorem any_tst {h:Heap} {dx:PyData}:∀ {us:List Value} {ds:List PyData},us.length=ds.length→(∀ (i:Nat) u d,us[i]?=some u→ds[i]?=some d→∃ as,Reads h u d as)→(∀ d∈ds,d.canLay0=true)→us.any (tstD h dx)=ds.any fun d=>PyData.eqv d dx
 | [],[],_,_,_=>rfl
 | u::us,d::ds,hl,hr,hc=>by
  obtain ⟨as,r⟩:=hr 0 u d rfl rfl
  rw [List.any_cons,List.any_cons,tst_is r (hc d Zd),any_tst (by simpa using hl) (fun i u' d' e1 e2=>hr (i+1) u' d' (by simpa using e1) (by simpa using e2)) fun d' hd=>hc d' (Zw _ hd)]
def smD (d:PyData):Prop:=d.canLay0=true∧d.depth≤8
theorem eq_tst {pins:List (Addr×Obj)} {σ:St} {H:Hp} {s:Shared} (I:Inv X pins σ H s) {A:Around} (hu:A.units+8<cLine) {x:V} {v:Value} {dx:PyData} (bx:Bd X.K H x dx) (rx:RelV x v) (cx:smD dx) {us:List Value} {ds:List PyData} (hl:us.length=ds.length) (hr:∀ (i:Nat) u d,us[i]?=some u→ds[i]?=some d→∃ as,Reads s.heap u d as) (hc:∀ d∈ds,smD d):∀ u∈us,SeqAt.EqAt A s u v (tstD s.heap dx u):=fun u hm=>by
 obtain ⟨i,hi, rfl⟩:=Yy.mp hm
 have h2:ds[i]?=some (ds[i]'(by omega)):=Zz (by omega)
 obtain ⟨as,r⟩:=hr i _ _ (Zz hi) h2
 obtain ⟨bs,r2⟩:=bx.reads I rx
 have c:=hc _ (Zg h2)
 rw [tst_is r c.1]
 refine SeqAt.eqAt_reads _ dx A s _ v as bs r r2 c.1 cx.1 ?_
 have:=Nat.min_le_right (ds[i]'(by omega)).depth dx.depth
 have:=cx.2
 omega
def rInD (K:PySem.W.Frag) (neg:Bool):R2:=fun x y H Q=>∃ p xs dx ds,y=.ref p∧SqL K H p xs∧Bd K H x dx∧Bds K H xs ds∧smD dx∧(∀ d∈ds,smD d)∧Q (.bl (if neg then !(ds.any fun d=>PyData.eqv d dx) else ds.any fun d=>PyData.eqv d dx)) H
theorem op_inD (hu:X.A.units+64<cLine):OpR X (compareOp .In) (rInD X.K false):=by
 intro pins s σ H x y v u Q I rx ry h
 obtain ⟨p,xs,dx,ds,rfl,hq,bx,bs,cx,cs, q⟩:=h
 cases ry
 obtain ⟨its,r,pl, hz⟩:=I.list hq
 obtain ⟨hl,hr⟩:=reads_all I bs r
 refine SeqAt.in_listAt (tstD s.heap dx) pl.isList (fun w hw=>eq_tst I (by show X.A.units+1+8<cLine;omega) bx rx cx hl hr cs w (by simpa using hw)) ⟨.bl _,H,I,rfl, ?_⟩
 rw [show its.toArray.any (tstD s.heap dx)=its.any (tstD s.heap dx) by simp,any_tst hl hr fun d hd=>(cs d hd).1]
 exact q
theorem op_notInD (hu:X.A.units+64<cLine):OpR X (compareOp .NotIn) (rInD X.K true):=by
 intro pins s σ H x y v u Q I rx ry h
 obtain ⟨p,xs,dx,ds,rfl,hq,bx,bs,cx,cs, q⟩:=h
 cases ry
 obtain ⟨its,r,pl, hz⟩:=I.list hq
 obtain ⟨hl,hr⟩:=reads_all I bs r
 refine SeqAt.notIn_listAt (tstD s.heap dx) pl.isList (fun w hw=>eq_tst I (by show X.A.units+1+8<cLine;omega) bx rx cx hl hr cs w (by simpa using hw)) ⟨.bl _,H,I,rfl, ?_⟩
 rw [show its.toArray.any (tstD s.heap dx)=its.any (tstD s.heap dx) by simp,any_tst hl hr fun d hd=>(cs d hd).1]
 exact q
def rIndexD (K:PySem.W.Frag):V→List V→Hp→VK→Prop:=fun x vs H Q=>∃ (l:Addr) (xs:List V) (v:V) (dx:PyData) (ds:List PyData) (j:Nat),x=.ref l∧vs=[v]∧H l=some (.lst xs)∧Bd K H v dx∧Bds K H xs ds∧smD dx∧(∀ d∈ds,smD d)∧(∃ d,ds[j]?=some d∧PyData.eqv d dx=true)∧(∀ m d,m<j→ds[m]?=some d→PyData.eqv d dx=false)∧Q (vn j) H
theorem mt_indexD (hu:X.A.units+64<cLine):MtM X "list.index" (rIndexD X.K):=by
 intro pins s σ H x vs v us Q I rx rv h
 obtain ⟨l,xs,k,dx,ds,j,rfl,rfl,hH,bx,bs,cx,cs,⟨dj,ej, hj⟩,hm, q⟩:=h
 cases rx
 obtain ⟨u,rfl, ru⟩:=rv.one
 obtain ⟨z,its,n,r,hl', e⟩:=I.lstM hH
 obtain ⟨hl,hr⟩:=reads_all I bs r
 have item:∀ (m:Nat) (hm:m<its.toArray.size) (d:PyData),ds[m]?=some d→tstD s.heap dx its.toArray[m]=PyData.eqv d dx:=fun m hm' d hd=>by
  obtain ⟨as,r'⟩:=hr m its.toArray[m] d (by simp at hm' ⊢) hd
  exact tst_is r' (cs d (Zg hd)).1
 have hj':j<ds.length:=(Zj.mp ej).1
 have hsm:((j:Nat):Int)<2 ^ 63-1:=by
  have h1:=line63
  have:=r.length
  omega
 refine call_meets F.slot_list_index ⟨_,e, rfl⟩ F.entry_list_index (F.args_list_index_2 _ _) (SeqAt.list_indexAt l its.toArray n none #[] u (tstD s.heap dx) j (by rw [List.size_toArray];omega) hsm ?_ ?_) ⟨e,fun y hy=>?_, ?_⟩
 ·rw [item j _ dj ej];exact hj
 ·intro m hm' hlt
  rw [item m hm' ds[m] (Zz (by omega))]
  exact hm m _ hlt (Zz (by omega))
 ·exact eq_tst I (by show X.A.units+1+8<cLine;omega) bx ru cx hl hr cs y (by simpa using hy)
 ·exact ⟨vn j,H,I.tok _,⟨_,rfl⟩, q⟩
end
end L2
namespace L2
open PySem PySem.Spec PyProof.Rows
theorem slicePick_one (its:List Value):slicePick its.toArray none none (some 1)=its.toArray:=by
 have h:=slicePick_cut its none none
 have e:slicePick its.toArray none none (some 1)=slicePick its.toArray none none none:=by
  unfold slicePick
  rw [show sliceBounds none none (some 1) its.toArray.size=sliceBounds none none none its.toArray.size from rfl]
 rw [e,h]
 simp [HT.sIx]
section
variable {X:Cx} {e ste:Expr} {te:TE} {lo hi:Option Expr} {tl th tk:TO} {pos p2:Pos}
def rSlP (K:PySem.W.Frag):V→Option Int→Option Int→Option Int→Hp→VK→Prop:=fun x lo hi st H Q=>∃ a xs k,x=.ref a∧SqL K H a xs∧lo=none∧hi=none∧st=some k∧(k=1∨k = -1)∧∀ p,H p=none→Q (.ref p) (upd H p (.lst (if k=1 then xs else xs.reverse)))
def tSlP (K:PySem.W.Frag) (te:TE) (tl th tk:TO):TE:=fun σ H Q=>te σ H fun x H1=>tl σ H1 fun l H2=>th σ H2 fun u H3=>tk σ H3 fun k H4=>rSlP K x l u k H4 Q
theorem pe_sliceP (he:PE X e te) (hl:PO X lo tl) (hu:PO X hi th) (hk:PO X (some ste) tk):PE X (.Subscript e (.Slice lo hi (some ste) p2) pos) (tSlP X.K te tl th tk):=by
 intro pins s σ H Q I h
 refine Subscript_ (thn (he pins s σ H _ I h) fun v s1 ⟨x,H1,I1,r1,q1⟩=>?_)
 refine wpAny_Slice (thn (hl pins s1 σ H1 _ I1 q1) fun vl s2 ⟨l,H2,I2,pl,q2⟩=>thn (hu pins s2 σ H2 _ I2 q2) fun vu s3 ⟨u,H3,I3,pu,q3⟩=>thn (hk pins s3 σ H3 _ I3 q3) fun vk s4 ⟨k,H4,I4,pk,q4⟩=>?_)
 have I5:Inv X pins σ H4 { s4 with heap:=s4.heap.push { cls:=.type "slice",data:=.fields #[vl,vu,vk] } }:=I4.kept (t':=s4.toks) fun b ob q=>Heap.get?_push_of_some _ q
 obtain ⟨a,xs,n,rfl,hx,rfl,rfl,rfl,hh, q⟩:=q4
 cases r1
 obtain ⟨its,r,ht, hz⟩:=I5.list hx
 have hlen:=r.length
 show wpAny (model X.prog X.w) X.A (subscriptTail e (.Slice lo hi (some ste) p2) (.ref a) (.ref s4.heap.objs.size)) (EP X pins σ Q) X.xe { s4 with heap:=s4.heap.push { cls:=.type "slice",data:=.fields #[vl,vu,vk] } }
 refine tail_any (ops:=[.ref a,.ref s4.heap.objs.size]) ht.isList.typeIs slot_list_getitem.lookup (wpAny_getItem_list_slice ht.isList (Heap.IsSliceOf.new ..) pl pu pk (by rcases hh with rfl | rfl<;>simp) ?_ (by rw [List.size_toArray]<;>omega)) (by with_unfolding_all rfl)
 rcases hh with rfl | rfl
 ·rw [slicePick_one]
  refine ⟨.ref _,_,I5.laid (o:=.lst xs) (fun b ob q=>Heap.get?_push_of_some _ q) (Nat.le_refl _) ?_,rfl, q _ (I5.hok.fresh (Nat.le_refl _))⟩
  exact ⟨hz,_,0,r, Heap.get?_push_size _ rfl⟩
 ·rw [slicePick_rev]
  refine ⟨.ref _,_,I5.laid (o:=.lst xs.reverse) (fun b ob q=>Heap.get?_push_of_some _ q) (Nat.le_refl _) ?_,rfl, q _ (I5.hok.fresh (Nat.le_refl _))⟩
  exact ⟨by rw [Yp];exact hz,_,0,r.reverse, Heap.get?_push_size _ rfl⟩
end
end L2
namespace GR
abbrev Pt:=Int×Int
abbrev Sts:=List (Pt×Pt)
def dx (k:Nat):Int:=[1,0,-1,0].getD k 0
def dy (k:Nat):Int:=[0,1,0,-1].getD k 0
def dr (p:Pt) (k:Nat):Pt:=(p.1+dx k,p.2+dy k)
def Adj (S:Sts) (p q:Pt):Prop:=(p,q)∈S∨(q,p)∈S
instance (S:Sts) (p q:Pt):Decidable (Adj S p q):=inferInstanceAs (Decidable (_∨_))
def nb (S:Sts) (p:Pt):List Pt:=((List.range 4).map (dr p)).filter fun q=>decide (Adj S p q)
def Unit (S:Sts):Prop:=∀ p q,(p,q)∈S→q=dr p 0∨q=dr p 1
theorem Adj.symm {S:Sts} {p q:Pt} (h:Adj S p q):Adj S q p:=h.elim .inr .inl
theorem dr_inj {p:Pt}:∀ {i j:Nat},i<4→j<4→dr p i=dr p j→i=j:=by
 intro i j hi hj h
 have h1:p.1+dx i=p.1+dx j:=congrArg Prod.fst h
 have h2:p.2+dy i=p.2+dy j:=congrArg Prod.snd h
 have h1:dx i=dx j:=by omega
 have h2:dy i=dy j:=by omega
 have key:∀ i,i<4→∀ j,j<4→dx i=dx j→dy i=dy j→i=j:=by decide
 exact key i hi j hj h1 h2
theorem adj_dr {S:Sts} (u:Unit S) {p q:Pt} (h:Adj S p q):∃ k,k<4∧q=dr p k:=by
 rcases h with h | h
 ·rcases u p q h with h | h
  ·exact ⟨0,by decide, h⟩
  ·exact ⟨1,by decide, h⟩
 ·rcases u q p h with h | h
  ·refine ⟨2,by decide, ?_⟩
   rw [h]
   show q=(q.1+1+-1,q.2+0+0)
   rw [show q.1+1+-1=q.1 by omega,show q.2+0+0=q.2 by omega]
  ·refine ⟨3,by decide, ?_⟩
   rw [h]
   show q=(q.1+0+0,q.2+1+-1)
   rw [show q.1+0+0=q.1 by omega,show q.2+1+-1=q.2 by omega]
theorem adj_ne {S:Sts} (u:Unit S) {p:Pt} (h:Adj S p p):False:=by
 have key:∀ k,k<4→¬(dx k=0∧dy k=0):=by decide
 obtain ⟨k,hk, e⟩:=adj_dr u h
 have h1:p.1=p.1+dx k:=congrArg Prod.fst e
 have h2:p.2=p.2+dy k:=congrArg Prod.snd e
 exact key k hk ⟨by omega,by omega⟩
theorem mem_nb {S:Sts} (u:Unit S) {p q:Pt}:q∈nb S p↔Adj S p q:=by
 unfold nb
 rw [Yz,decide_eq_true_iff,Zh]
 constructor
 ·exact fun h=>h.2
 ·intro h
  obtain ⟨k,hk, e⟩:=adj_dr u h
  exact ⟨⟨k,Zs.mpr hk, e.symm⟩,h⟩
theorem nodup_map {α β:Type} {f:α→β}:∀ {l:List α},l.Nodup→(∀ x∈l,∀ y∈l,f x=f y→x=y)→(l.map f).Nodup
 | [],_,_=>List.nodup_nil
 | a::l,nd,h=>by
  obtain ⟨n1,n2⟩:=List.nodup_cons.mp nd
  rw [List.map_cons,List.nodup_cons]
  refine ⟨fun z=>?_,nodup_map n2 fun x hx y hy=>h x (Zw _ hx) y (Zw _ hy)⟩
  obtain ⟨x,hx, e⟩:=Zh.mp z
  have:=h x (Zw _ hx) a Zd e
  exact n1 (this▸hx)
theorem nb_nodup (S:Sts) (p:Pt):(nb S p).Nodup:=by
 exact List.Pairwise.filter _ (nodup_map List.nodup_range fun i hi j hj e=>dr_inj (Zs.mp hi) (Zs.mp hj) e)
theorem nb_len (S:Sts) (p:Pt):(nb S p).length≤4:=by
 unfold nb
 refine Yr (List.length_filter_le _ _) ?_
 rw [Zq,Yj];exact Nat.le_refl _
theorem of_two {S:Sts} {p a b c:Pt} (h2:(nb S p).length=2) (ha:a∈nb S p) (hb:b∈nb S p) (hc:c∈nb S p) (hab:a≠b):c=a∨c=b:=by
 match e:nb S p,h2 with
 | [x,y],_ =>
  rw [e] at ha hb hc
  simp only [Zn,List.not_mem_nil,or_false] at ha hb hc
  rcases ha with rfl | rfl<;>rcases hb with rfl | rfl<;>rcases hc with rfl | rfl<;>first | exact absurd rfl hab | exact .inl rfl | exact .inr rfl
structure Pls (S:Sts) (Pl:List Pt):Prop where
 u:Unit S
 nd:Pl.Nodup
 on:∀ p∈Pl,∃ q,Adj S p q
 al:∀ p q,Adj S p q→p∉Pl→(nb S p).length=2
structure Tr (S:Sts) (Pl:List Pt) (r:List Pt):Prop where
 len:2≤r.length
 fst:∀ a,r[0]?=some a→a∈Pl
 adj:∀ (i:Nat) a b,r[i]?=some a→r[i+1]?=some b→Adj S a b
 trn:∀ (i:Nat) a b,r[i]?=some a→r[i+2]?=some b→a≠b
 mid:∀ (i:Nat) a,0<i→i+1<r.length→r[i]?=some a→a∉Pl
theorem get_of {α:Type} {l:List α} {i:Nat} (h:i<l.length):l[i]?=some l[i]:=Zz h
theorem Tr.two {S:Sts} {Pl:List Pt} {r:List Pt} (P:Pls S Pl) (t:Tr S Pl r) {i:Nat} {a:Pt} (h0:0<i) (h:r[i]?=some a) (hp:a∉Pl):(nb S a).length=2:=by
 obtain ⟨k,rfl⟩:∃ k,i=k+1:=⟨i-1,by omega⟩
 have hi:=(Zj.mp h).1
 exact P.al a _ (t.adj k _ a (get_of (by omega)) h).symm hp
theorem Tr.once {S:Sts} {Pl:List Pt} {r:List Pt} (P:Pls S Pl) (t:Tr S Pl r):∀ (j i:Nat) (a:Pt),0<i→i<j→r[i]?=some a→r[j]?=some a→a∉Pl→False:=by
 intro j
 induction j using Nat.strongRecOn with
 | ind j ih =>
  intro i a h0 hij ha hb hp
  have hj:=(Zj.mp hb).1
  have h2:=t.two P h0 ha hp
  obtain ⟨k,rfl⟩:∃ k,i=k+1:=⟨i-1,by omega⟩
  obtain ⟨m,rfl⟩:∃ m,j=m+1:=⟨j-1,by omega⟩
  have hk:=get_of (l:=r) (i:=k) (by omega)
  have hk2:=get_of (l:=r) (i:=k+2) (by omega)
  have hm:=get_of (l:=r) (i:=m) (by omega)
  have n1:=(mem_nb P.u).mpr (t.adj k _ a hk ha).symm
  have n2:=(mem_nb P.u).mpr (t.adj (k+1) a _ ha hk2)
  have n3:=(mem_nb P.u).mpr (t.adj m _ a hm hb).symm
  have hmm:r[m]∉Pl:=t.mid m _ (by omega) (by omega) hm
  rcases of_two h2 n1 n2 n3 (t.trn k _ _ hk hk2) with e | e
  ·by_cases c:k=0
   ·subst c
    exact hmm (t.fst _ (by rw [e];exact hk))
   ·exact ih m (by omega) k r[m] (by omega) (by omega) (by rw [e];exact hk) hm hmm
  ·by_cases c:k+2<m
   ·exact ih m (by omega) (k+2) r[m] (by omega) c (by rw [e];exact hk2) hm hmm
   ·by_cases c2:k+2=m
    ·subst c2
     exact t.trn (k+1) a a ha hb rfl
    ·have:m=k+1:=by omega
     subst this
     exact adj_ne P.u (t.adj (k+1) a a ha hb)
theorem sub_len {α:Type} [DecidableEq α]:∀ {a b:List α},a.Nodup→(∀ x∈a,x∈b)→a.length≤b.length
 | [],_,_,_=>Nat.zero_le _
 | x::a,b,nd,h=>by
  have hx:=h x Zd
  obtain ⟨n1,n2⟩:=List.nodup_cons.mp nd
  have:=sub_len (a:=a) (b:=b.erase x) n2 fun y hy=>(List.mem_erase_of_ne (show y≠x from fun z=>n1 (by rw [←z];exact hy))).mpr (h y (Zw _ hy))
  rw [List.length_erase_of_mem hx] at this
  have:=List.length_pos_of_mem hx
  simp only [Yq];omega
theorem Tr.short {S:Sts} {Pl:List Pt} {r:List Pt} (P:Pls S Pl) (t:Tr S Pl r) (hl:∀ a,r.getLast?=some a→a∉Pl) {Ps:List Pt} (hP:∀ p q,Adj S p q→p∈Ps):r.length≤Ps.length+1:=by
 have hlen:=t.len
 have np:∀ (i:Nat) a,0<i→r[i]?=some a→a∉Pl:=fun i a h0 h=>by
  by_cases c:i+1<r.length
  ·exact t.mid i a h0 c h
  ·have hi:=(Zj.mp h).1
   exact hl a (by rw [List.getLast?_eq_getElem?,show r.length-1=i by omega];exact h)
 have nd:(r.drop 1).Nodup:=by
  rw [List.nodup_iff_pairwise_ne,List.pairwise_iff_getElem]
  intro i j hi hj hij e
  rw [Yd] at hi hj
  rw [List.getElem_drop,List.getElem_drop] at e
  have h1:=get_of (l:=r) (i:=1+i) (by omega)
  have h2:=get_of (l:=r) (i:=1+j) (by omega)
  exact t.once P (1+j) (1+i) r[1+i] (by omega) (by omega) h1 (by rw [e];exact h2) (np _ _ (by omega) h1)
 have:=sub_len nd (b:=Ps) fun x hx=>by
  obtain ⟨i,hi, rfl⟩:=Yy.mp hx
  rw [Yd] at hi
  rw [List.getElem_drop]
  have h1:=get_of (l:=r) (i:=1+i) (by omega)
  have h0:=get_of (l:=r) (i:=i) (by omega)
  exact hP _ _ (t.adj i _ _ h0 (by rw [Nat.add_comm];exact h1)).symm
 rw [Yd] at this
 omega
theorem Tr.start {S:Sts} {Pl:List Pt} {p q:Pt} (hp:p∈Pl) (h:Adj S p q):Tr S Pl [p,q] where
 len:=Nat.le_refl _
 fst:=fun a e=>by simp at e;exact e▸hp
 adj:=fun i a b e1 e2=>by
  match i with
  | 0=>simp at e1 e2;rw [←e1,←e2];exact h
  | i+1=>simp at e2
 trn:=fun i a b e1 e2=>by simp at e2
 mid:=fun i a h0 hl e=>by simp at hl;omega
theorem Tr.on {S:Sts} {Pl:List Pt} {r:List Pt} (t:Tr S Pl r) {a b c:Pt} (ha:r[r.length-2]?=some a) (hb:r[r.length-1]?=some b) (hbp:b∉Pl) (hc:Adj S b c) (hac:c≠a):Tr S Pl (r++[c]) where
 len:=by have:=t.len;simp;omega
 fst:=fun x e=>t.fst x (by rw [Zx (by have:=t.len;omega)] at e;exact e)
 adj:=fun i x y e1 e2=>by
  have hl:=t.len
  by_cases q:i+1<r.length
  ·rw [Zx (by omega)] at e1 e2
   exact t.adj i x y e1 e2
  ·have hi:=(Zj.mp e2).1
   simp at hi
   have:i=r.length-1:=by omega
   subst this
   rw [Zx (by omega),hb] at e1
   rw [show r.length-1+1=r.length by omega,Zy (Nat.le_refl _)] at e2
   simp at e1 e2
   rw [←e1,←e2];exact hc
 trn:=fun i x y e1 e2=>by
  have hl:=t.len
  by_cases q:i+2<r.length
  ·rw [Zx (by omega)] at e1 e2
   exact t.trn i x y e1 e2
  ·have hi:=(Zj.mp e2).1
   simp at hi
   have:i=r.length-2:=by omega
   subst this
   rw [Zx (by omega),ha] at e1
   rw [show r.length-2+2=r.length by omega,Zy (Nat.le_refl _)] at e2
   simp at e1 e2
   rw [←e1,←e2];exact fun z=>hac z.symm
 mid:=fun i x h0 hl' e=>by
  simp at hl'
  rw [Zx hl'] at e
  by_cases q:i+1<r.length
  ·exact t.mid i x h0 q e
  ·have:i=r.length-1:=by omega
   subst this
   rw [hb] at e
   rw [←Option.some.inj e];exact hbp
theorem next_one {S:Sts} {Pl:List Pt} {r:List Pt} (P:Pls S Pl) (t:Tr S Pl r) {a b:Pt} (ha:r[r.length-2]?=some a) (hb:r[r.length-1]?=some b) (hbp:b∉Pl):∃ c,(nb S b).filter (fun x=>decide (x≠a))=[c]∧Adj S b c∧c≠a:=by
 have hl:=t.len
 have h2:=t.two P (by omega) hb hbp
 have han:=(mem_nb P.u).mpr (t.adj (r.length-2) a b ha (by rw [show r.length-2+1=r.length-1 by omega];exact hb)).symm
 have nd:=nb_nodup S b
 have mm:∀ c,c∈nb S b→Adj S b c:=fun c hc=>(mem_nb P.u).mp hc
 match e:nb S b,h2 with
 | [x,y],_ =>
  rw [e] at han nd mm
  simp only [Zn,List.not_mem_nil,or_false] at han
  have hxy:x≠y:=by simp at nd;exact nd
  rcases han with rfl | rfl
  ·exact ⟨y,by simp [Ne.symm hxy],mm y (by simp), Ne.symm hxy⟩
  ·exact ⟨x,by simp [hxy],mm x (by simp), hxy⟩
structure En (S:Sts) (Pl:List Pt) (r:List Pt):Prop where
 t:Tr S Pl r
 lst:∀ a,r[r.length-1]?=some a→a∈Pl
theorem En.rev {S:Sts} {Pl:List Pt} {r:List Pt} (e:En S Pl r):En S Pl r.reverse:=by
 have hl:=e.t.len
 have g:∀ (i:Nat),i<r.length→r.reverse[i]?=r[r.length-1-i]?:=fun i hi=>Yh hi
 have lt:∀ {i:Nat} {a:Pt},r.reverse[i]?=some a→i<r.length:=fun h=>by simpa using (Zj.mp h).1
 refine ⟨⟨by simpa using hl,fun a h=>?_,fun i a b h1 h2=>?_,fun i a b h1 h2=>?_, fun i a h0 hlt h=>?_⟩,fun a h=>?_⟩
 ·rw [g 0 (by omega)] at h;exact e.lst a h
 ·have:=lt h2
  rw [g i (by omega)] at h1
  rw [g (i+1) (by omega)] at h2
  exact (e.t.adj (r.length-1-(i+1)) b a h2 (by rw [show r.length-1-(i+1)+1=r.length-1-i by omega];exact h1)).symm
 ·have:=lt h2
  rw [g i (by omega)] at h1
  rw [g (i+2) (by omega)] at h2
  exact fun z=>e.t.trn (r.length-1-(i+2)) b a h2 (by rw [show r.length-1-(i+2)+2=r.length-1-i by omega];exact h1) z.symm
 ·rw [Yp] at hlt
  rw [g i (by omega)] at h
  exact e.t.mid (r.length-1-i) a (by omega) (by omega) h
 ·rw [Yp,g (r.length-1) (by omega),show r.length-1-(r.length-1)=0 by omega] at h
  exact e.t.fst a h
theorem En.one {S:Sts} {Pl:List Pt} {r r':List Pt} (P:Pls S Pl) (e:En S Pl r) (e':En S Pl r') (h0:r[0]?=r'[0]?) (h1:r[1]?=r'[1]?):r=r':=by
 have hl:=e.t.len
 have hl':=e'.t.len
 have same:∀ i:Nat,i<r.length→i<r'.length→r[i]?=r'[i]?:=by
  intro i
  induction i using Nat.strongRecOn with
  | ind i ih =>
   intro hi hi'
   match i with
   | 0=>exact h0
   | 1=>exact h1
   | i+2 =>
    have ea:=ih i (by omega) (by omega) (by omega)
    have eb:=ih (i+1) (by omega) (by omega) (by omega)
    have ga:=get_of (l:=r) (i:=i) (by omega)
    have gb:=get_of (l:=r) (i:=i+1) (by omega)
    have gc:=get_of (l:=r) (i:=i+2) hi
    have gc':=get_of (l:=r') (i:=i+2) hi'
    have n1:=(mem_nb P.u).mpr (e.t.adj i _ _ ga gb).symm
    have n2:=(mem_nb P.u).mpr (e.t.adj (i+1) _ _ gb gc)
    have n3:=(mem_nb P.u).mpr (e'.t.adj (i+1) _ _ (by rw [←eb];exact gb) gc')
    have h2:=e.t.two P (by omega) gb (e.t.mid (i+1) _ (by omega) (by omega) gb)
    rw [gc,gc']
    rcases of_two h2 n1 n2 n3 (e.t.trn i _ _ ga gc) with z | z
    ·exact absurd z.symm (e'.t.trn i _ _ (by rw [←ea];exact ga) gc')
    ·rw [z]
 have len:r.length=r'.length:=by
  rcases Nat.lt_trichotomy r.length r'.length with c | c | c
  ·exfalso
   have g1:=get_of (l:=r) (i:=r.length-1) (by omega)
   have g2:=same (r.length-1) (by omega) (by omega)
   exact e'.t.mid (r.length-1) _ (by omega) (by omega) (by rw [←g2];exact g1) (e.lst _ g1)
  ·exact c
  ·exfalso
   have g1:=get_of (l:=r') (i:=r'.length-1) (by omega)
   have g2:=same (r'.length-1) (by omega) (by omega)
   exact e.t.mid (r'.length-1) _ (by omega) (by omega) (by rw [g2];exact g1) (e'.lst _ g1)
 refine Yn fun i=>?_
 by_cases c:i<r.length
 ·exact same i c (by omega)
 ·rw [Zr (by omega),Zr (by omega)]
theorem En.odd {S:Sts} {Pl:List Pt} {r:List Pt} (P:Pls S Pl) (e:En S Pl r):r≠r.reverse:=fun z=>by
 have hl:=e.t.len
 have g:∀ (i:Nat),i<r.length→r[i]?=r[r.length-1-i]?:=fun i hi=>by
  have:r.reverse[i]?=r[r.length-1-i]?:=Yh hi
  rw [←z] at this;exact this
 rcases Nat.mod_two_eq_zero_or_one r.length with c | c
 ·have g1:=g (r.length / 2-1) (by omega)
  rw [show r.length-1-(r.length / 2-1)=r.length / 2-1+1 by omega] at g1
  have g2:=get_of (l:=r) (i:=r.length / 2-1) (by omega)
  exact adj_ne P.u (e.t.adj (r.length / 2-1) _ _ g2 (by rw [←g1];exact g2))
 ·have g1:=g (r.length / 2-1) (by omega)
  rw [show r.length-1-(r.length / 2-1)=r.length / 2-1+2 by omega] at g1
  have g2:=get_of (l:=r) (i:=r.length / 2-1) (by omega)
  exact e.t.trn (r.length / 2-1) _ _ g2 (by rw [←g1];exact g2) rfl
def hd2 (r:List Pt):Option Pt×Option Pt:=(r[0]?,r[1]?)
structure Lt (lt:List Pt→List Pt→Bool):Prop where
 tri:∀ a b,a≠b→lt b a=!lt a b
def can (lt:List Pt→List Pt→Bool) (r:List Pt):List Pt:=if lt r r.reverse then r else r.reverse
section
variable {S:Sts} {Pl:List Pt} {lt:List Pt→List Pt→Bool}
theorem can_or (lt:List Pt→List Pt→Bool) (r:List Pt):can lt r=r∨can lt r=r.reverse:=by unfold can;split<;>simp
theorem can_rev (L:Lt lt) (P:Pls S Pl) {r:List Pt} (e:En S Pl r):can lt r.reverse=can lt r:=by
 have h:=L.tri r r.reverse (e.odd P)
 unfold can
 rw [List.reverse_reverse,h]
 cases lt r r.reverse<;>rfl
theorem can_eq {r r':List Pt} (h:can lt r=can lt r'):r=r'∨r=r'.reverse:=by
 rcases can_or lt r with a | a<;>rcases can_or lt r' with b | b<;>rw [a,b] at h
 ·exact .inl h
 ·exact .inr h
 ·exact .inr (by rw [←h,List.reverse_reverse])
 ·exact .inl (List.reverse_inj.mp h)
structure Fd (S:Sts) (Pl:List Pt) (lt:List Pt→List Pt→Bool) (D F:List (List Pt)):Prop where
 en:∀ r∈F,En S Pl r
 pm:(F.map (can lt)).Perm (D.filter fun r=>lt r r.reverse)
theorem Fd.skip {D F:List (List Pt)} (f:Fd S Pl lt D F) {r:List Pt} (h:lt r r.reverse=false):Fd S Pl lt (D++[r]) F :=
 ⟨f.en,by rw [List.filter_append,List.filter_cons,if_neg (by rw [h];exact Bool.false_ne_true),List.filter_nil,List.append_nil];exact f.pm⟩
theorem Fd.put {D F F':List (List Pt)} (L:Lt lt) (P:Pls S Pl) (f:Fd S Pl lt D F) {r r':List Pt} (e:En S Pl r) (h:lt r r.reverse=true) (hr:r'=r∨r'=r.reverse) (hF:F'.Perm (r'::F)):Fd S Pl lt (D++[r]) F':=by
 have cr:can lt r'=r:=by
  have:can lt r=r:=by unfold can;rw [if_pos h]
  rcases hr with rfl | rfl
  ·exact this
  ·rw [can_rev L P e];exact this
 refine ⟨fun x hx=>?_,?_⟩
 ·rcases Zn.mp (hF.mem_iff.mp hx) with rfl | hx
  ·rcases hr with rfl | rfl
   ·exact e
   ·exact e.rev
  ·exact f.en x hx
 ·rw [List.filter_append,List.filter_cons,if_pos h,List.filter_nil]
  refine (hF.map _).trans ?_
  rw [List.map_cons,cr]
  exact (List.Perm.cons _ f.pm).trans (List.perm_append_comm (l₁:=[r]))
structure Dn (S:Sts) (Pl:List Pt) (D:List (List Pt)):Prop where
 en:∀ r∈D,En S Pl r
 hd:D.map hd2=(Pl.flatMap fun p=>(nb S p).map fun o=>(some p,some o))
theorem nodup_flat {α β:Type} {f:α→List β}:∀ {l:List α},l.Nodup→(∀ x∈l,(f x).Nodup)→(∀ x∈l,∀ y∈l,∀ z,z∈f x→z∈f y→x=y)→(l.flatMap f).Nodup
 | [],_,_,_=>List.nodup_nil
 | a::l,nd,h1,h2=>by
  obtain ⟨n1,n2⟩:=List.nodup_cons.mp nd
  rw [List.flatMap_cons,List.nodup_append]
  refine ⟨h1 a Zd,nodup_flat n2 (fun x hx=>h1 x (Zw _ hx)) fun x hx y hy=>h2 x (Zw _ hx) y (Zw _ hy), fun z hz w hw e=>?_⟩
  subst e
  obtain ⟨y,hy, hz'⟩:=Yk.mp hw
  have:=h2 a Zd y (Zw _ hy) z hz hz'
  exact n1 (this▸hy)
theorem nodup_of_map {α β:Type} {f:α→β}:∀ {l:List α},(l.map f).Nodup→l.Nodup
 | [],_=>List.nodup_nil
 | a::l,h=>by
  rw [List.map_cons,List.nodup_cons] at h
  exact List.nodup_cons.mpr ⟨fun z=>h.1 (Yf z),nodup_of_map h.2⟩
theorem Dn.nd {D:List (List Pt)} (P:Pls S Pl) (d:Dn S Pl D):D.Nodup:=by
 refine nodup_of_map (f:=hd2) ?_
 rw [d.hd]
 refine nodup_flat P.nd (fun p _=>nodup_map (nb_nodup S p) fun x _ y _ e=>by injection e with _ e;exact Option.some.inj e) fun x _ y _ z hx hy=>?_
 obtain ⟨o,_, rfl⟩:=Zh.mp hx
 obtain ⟨o',_, e⟩:=Zh.mp hy
 injection e with e _
 exact (Option.some.inj e).symm
theorem Dn.at {D:List (List Pt)} (d:Dn S Pl D) {p o:Pt} (hp:p∈Pl) (ho:o∈nb S p):∃ r∈D,r[0]?=some p∧r[1]?=some o:=by
 have:(some p,some o)∈D.map hd2:=by
  rw [d.hd];exact Yk.mpr ⟨p,hp, Zh.mpr ⟨o,ho, rfl⟩⟩
 obtain ⟨r,hr, e⟩:=Zh.mp this
 unfold hd2 at e
 injection e with e1 e2
 exact ⟨r,hr,e1, e2⟩
def wy (F:List (List Pt)) (e:Nat):List Pt:=if e%2=0 then F.getD (e / 2) [] else (F.getD (e / 2) []).reverse
structure Rows (S:Sts) (Pl:List Pt) (F:List (List Pt)):Prop where
 en:∀ r∈F,En S Pl r
 ex:∀ p o,p∈Pl→o∈nb S p→∃ e,e<2*F.length∧(wy F e)[0]?=some p∧(wy F e)[1]?=some o
 un:∀ e e',e<2*F.length→e' < 2*F.length→(wy F e)[0]?=(wy F e')[0]?→(wy F e)[1]?=(wy F e')[1]?→e=e'
theorem wy_in {F:List (List Pt)} {e:Nat} (he:e<2*F.length):∃ r∈F,F[e / 2]?=some r∧(wy F e=r∨wy F e=r.reverse):=by
 have h:e / 2<F.length:=by omega
 refine ⟨F[e / 2],Zp h,get_of h, ?_⟩
 unfold wy
 rw [Zv,get_of h]
 split
 ·exact .inl rfl
 ·exact .inr rfl
theorem wy_en {F:List (List Pt)} (h:∀ r∈F,En S Pl r) {e:Nat} (he:e<2*F.length):En S Pl (wy F e):=by
 obtain ⟨r,hr,_, c | c⟩:=wy_in he
 ·rw [c];exact h r hr
 ·rw [c];exact (h r hr).rev
theorem Fd.rows {D F:List (List Pt)} (L:Lt lt) (P:Pls S Pl) (f:Fd S Pl lt D F) (d:Dn S Pl D):Rows S Pl F:=by
 have nd:(F.map (can lt)).Nodup:=f.pm.nodup_iff.mpr (List.Pairwise.filter _ (d.nd P))
 refine ⟨f.en,fun p o hp ho=>?_, fun e e' he he' h0 h1=>?_⟩
 ·obtain ⟨t,ht,t0, t1⟩:=d.at hp ho
  have et:=d.en t ht
  have hc:can lt t∈D.filter fun r=>lt r r.reverse:=by
   unfold can
   by_cases c:lt t t.reverse=true
   ·rw [if_pos c];exact Yz.mpr ⟨ht,c⟩
   ·rw [if_neg c]
    have er:=et.rev
    have hl:=er.t.len
    have g0:=get_of (l:=t.reverse) (i:=0) (by omega)
    have g1:=get_of (l:=t.reverse) (i:=1) (by omega)
    obtain ⟨r,hr,r0, r1⟩:=d.at (er.t.fst _ g0) ((mem_nb P.u).mpr (er.t.adj 0 _ _ g0 g1))
    have:r=t.reverse:=(d.en r hr).one P er (by rw [r0,g0]) (by rw [r1,g1])
    subst this
    refine Yz.mpr ⟨hr,?_⟩
    rw [List.reverse_reverse,L.tri _ _ (et.odd P)]
    simpa using c
  obtain ⟨r,hr, e⟩:=Zh.mp (f.pm.mem_iff.mpr hc)
  obtain ⟨k,hk, rfl⟩:=Yy.mp hr
  rcases can_eq e with z | z
  ·refine ⟨2*k,by omega, ?_⟩
   have:wy F (2*k)=t:=by
    unfold wy
    rw [if_pos (by omega),show 2*k / 2=k by omega,Zv,get_of hk]
    exact z
   rw [this];exact ⟨t0,t1⟩
  ·refine ⟨2*k+1,by omega, ?_⟩
   have:wy F (2*k+1)=t:=by
    unfold wy
    rw [if_neg (by omega),show (2*k+1) / 2=k by omega,Zv,get_of hk]
    show F[k].reverse=t
    rw [z,List.reverse_reverse]
   rw [this];exact ⟨t0,t1⟩
 ·have e1:=wy_en f.en he
  have e2:=wy_en f.en he'
  have same:=e1.one P e2 h0 h1
  obtain ⟨r,hr,g, c⟩:=wy_in he
  obtain ⟨r',hr',g', c'⟩:=wy_in he'
  have cc:can lt r=can lt r':=by
   have a:can lt (wy F e)=can lt r:=by rcases c with c | c<;>rw [c];exact can_rev L P (f.en r hr)
   have b:can lt (wy F e')=can lt r':=by rcases c' with c' | c'<;>rw [c'];exact can_rev L P (f.en r' hr')
   rw [←a,←b,same]
  have half:e / 2=e' / 2:=by
   obtain ⟨h1,h2⟩:=Zj.mp g
   obtain ⟨h1',h2'⟩:=Zj.mp g'
   have:=List.nodup_iff_pairwise_ne.mp nd
   rw [List.pairwise_iff_getElem] at this
   rcases Nat.lt_trichotomy (e / 2) (e' / 2) with q | q | q
   ·exact absurd (by rw [List.getElem_map,List.getElem_map,h2,h2'];exact cc) (this _ _ (by simpa using h1) (by simpa using h1') q)
   ·exact q
   ·exact absurd (by rw [List.getElem_map,List.getElem_map,h2,h2'];exact cc.symm) (this _ _ (by simpa using h1') (by simpa using h1) q)
  by_cases par:e%2=e' % 2
  ·omega
  ·exfalso
   unfold wy at same
   rw [half] at same
   have gd:F.getD (e' / 2) []=r':=by rw [Zv,g'];rfl
   rw [gd] at same
   rcases Nat.mod_two_eq_zero_or_one e with a | a<;>rcases Nat.mod_two_eq_zero_or_one e' with b | b
   ·omega
   ·rw [if_pos a,if_neg (by omega)] at same;exact (f.en r' hr').odd P same
   ·rw [if_neg (by omega),if_pos b] at same;exact (f.en r' hr').odd P same.symm
   ·omega
def og (S:Sts) (F:List (List Pt)) (p:Pt):List Nat:=(nb S p).flatMap fun o=>(List.range (2*F.length)).filter fun e=>decide ((wy F e).take 2=[p,o])
theorem take2 {r:List Pt} {p o:Pt} (h:2≤r.length):r.take 2=[p,o]↔r[0]?=some p∧r[1]?=some o:=by
 match r,h with
 | a::b::r,_=>simp
theorem og_mem {F:List (List Pt)} (P:Pls S Pl) (R:Rows S Pl F) {p:Pt} {e:Nat}:e∈og S F p↔e<2*F.length∧(wy F e)[0]?=some p:=by
 unfold og
 rw [Yk]
 constructor
 ·rintro ⟨o,_, h⟩
  obtain ⟨h1,h2⟩:=Yz.mp h
  have he:=Zs.mp h1
  exact ⟨he,((take2 (wy_en R.en he).t.len).mp (of_decide_eq_true h2)).1⟩
 ·rintro ⟨he,h0⟩
  have t:=(wy_en R.en he).t
  have hl:=t.len
  have g1:=get_of (l:=wy F e) (i:=1) (by omega)
  exact ⟨_,(mem_nb P.u).mpr (t.adj 0 _ _ h0 g1), Yz.mpr ⟨Zs.mpr he,decide_eq_true ((take2 hl).mpr ⟨h0,g1⟩)⟩⟩
theorem og_nd {F:List (List Pt)} (R:Rows S Pl F) (p:Pt):(og S F p).Nodup:=by
 unfold og
 refine nodup_flat (nb_nodup S p) (fun o _=>List.Pairwise.filter _ List.nodup_range) fun x _ y _ z hx hy=>?_
 obtain ⟨_,h1⟩:=Yz.mp hx
 obtain ⟨_,h2⟩:=Yz.mp hy
 have:=(of_decide_eq_true h1).symm.trans (of_decide_eq_true h2)
 simpa using this
theorem one_len {l:List Nat} (nd:l.Nodup) (h:∀ x∈l,∀ y∈l,x=y):l.length≤1:=by
 match l with
 | []=>exact Nat.zero_le _
 | [a]=>exact Nat.le_refl _
 | a::b::l =>
  have:=h a (by simp) b (by simp)
  simp [this] at nd
theorem og_len {F:List (List Pt)} (R:Rows S Pl F) (p:Pt):(og S F p).length≤4:=by
 have key:∀ l:List Pt,(l.flatMap fun o=>(List.range (2*F.length)).filter fun e=>decide ((wy F e).take 2=[p,o])).length≤l.length:=by
  intro l
  induction l with
  | nil=>exact Nat.le_refl _
  | cons o l ih =>
   rw [List.flatMap_cons,Zm,Yq]
   have:=one_len (l:=(List.range (2*F.length)).filter fun e=>decide ((wy F e).take 2=[p,o])) (List.Pairwise.filter _ List.nodup_range) fun x hx y hy=>by
    obtain ⟨x1,x2⟩:=Yz.mp hx
    obtain ⟨y1,y2⟩:=Yz.mp hy
    have hx':=Zs.mp x1
    have hy':=Zs.mp y1
    obtain ⟨a,b⟩:=(take2 (wy_en R.en hx').t.len).mp (of_decide_eq_true x2)
    obtain ⟨c,d⟩:=(take2 (wy_en R.en hy').t.len).mp (of_decide_eq_true y2)
    exact R.un x y hx' hy' (by rw [a,c]) (by rw [b,d])
   omega
 exact Yr (key _) (nb_len S p)
theorem og_ne {F:List (List Pt)} (P:Pls S Pl) (R:Rows S Pl F) {p:Pt} (hp:p∈Pl):og S F p≠[]:=by
 obtain ⟨q,hq⟩:=P.on p hp
 obtain ⟨e,he,h0, _⟩:=R.ex p q hp ((mem_nb P.u).mpr hq)
 exact List.ne_nil_of_mem ((og_mem P R).mpr ⟨he,h0⟩)
def Whl (S:Sts):Prop:=∀ C:Pt→Prop,(∃ p q,Adj S p q∧C p)→(∀ p q,C p→Adj S p q→C q)→∀ p q,Adj S p q→C p
theorem whole {F:List (List Pt)} (P:Pls S Pl) (R:Rows S Pl F) (W:Whl S) (M:Pt→Prop) (hM:∀ e a b,e<2*F.length→(wy F e)[0]?=some a→(wy F e)[(wy F e).length-1]?=some b→M a→M b) {p0:Pt} (h0:p0∈Pl) (m0:M p0):∀ p∈Pl,M p:=by
 let C:Pt→Prop:=fun p=>(p∈Pl∧M p)∨∃ e i a,e<2*F.length∧0<i∧i+1<(wy F e).length∧(wy F e)[i]?=some p∧(wy F e)[0]?=some a∧M a
 obtain ⟨q0,hq0⟩:=P.on p0 h0
 have cl:∀ p q,C p→Adj S p q→C q:=by
  rintro p q (⟨hp,mp⟩ | ⟨e,i,a,he,hi,hl,hpi,ha, ma⟩) hq
  ·obtain ⟨e,he,w0, w1⟩:=R.ex p q hp ((mem_nb P.u).mpr hq)
   have en:=wy_en R.en he
   by_cases c:(wy F e).length=2
   ·have g:(wy F e)[(wy F e).length-1]?=some q:=by rw [c];exact w1
    exact .inl ⟨en.lst q g,hM e p q he w0 g mp⟩
   ·have:=en.t.len
    exact .inr ⟨e,1,p,he,by decide,by omega,w1,w0, mp⟩
  ·have en:=wy_en R.en he
   have hp:p∉Pl:=en.t.mid i p hi hl hpi
   have h2:=en.t.two P hi hpi hp
   obtain ⟨k,rfl⟩:∃ k,i=k+1:=⟨i-1,by omega⟩
   have gk:=get_of (l:=wy F e) (i:=k) (by omega)
   have gn:=get_of (l:=wy F e) (i:=k+2) (by omega)
   have n1:=(mem_nb P.u).mpr (en.t.adj k _ p gk hpi).symm
   have n2:=(mem_nb P.u).mpr (en.t.adj (k+1) p _ hpi gn)
   rcases of_two h2 n1 n2 ((mem_nb P.u).mpr hq) (en.t.trn k _ _ gk gn) with z | z
   ·by_cases c:k=0
    ·subst c
     rw [gk] at ha
     have:q=a:=z.trans (Option.some.inj ha)
     subst this
     exact .inl ⟨en.t.fst q (by rw [gk,←z]),ma⟩
    ·exact .inr ⟨e,k,a,he,by omega,by omega,by rw [gk,z],ha, ma⟩
   ·by_cases c:k+2+1<(wy F e).length
    ·exact .inr ⟨e,k+2,a,he,by omega,c,by rw [gn,z],ha, ma⟩
    ·have g:(wy F e)[(wy F e).length-1]?=some q:=by rw [show (wy F e).length-1=k+2 by omega,gn,z]
     exact .inl ⟨en.lst q g,hM e a q he ha g ma⟩
 intro p hp
 obtain ⟨q,hq⟩:=P.on p hp
 rcases W C ⟨p0,q0,hq0, .inl ⟨h0,m0⟩⟩ cl p q hq with h | ⟨e,i,a,he,hi,hl,hpi, _⟩
 ·exact h.2
 ·exact absurd hp ((wy_en R.en he).t.mid i p hi hl hpi)
end
end GR
namespace GR
def ins (S:Sts) (C:List Pt):Nat:=S.countP fun s=>decide (s.1∈C∧s.2∈C)
theorem cnt_lt {α:Type} {p q:α→Bool}:∀ {l:List α},(∀ t∈l,p t=true→q t=true)→∀ {t:α},t∈l→p t=false→q t=true→l.countP p<l.countP q
 | u::l,h,t,ht,h1,h2=>by
  have mono:l.countP p≤l.countP q:=List.countP_mono_left fun x hx=>h x (Zw _ hx)
  rw [List.countP_cons,List.countP_cons]
  rcases Zn.mp ht with rfl | ht
  ·rw [h1,h2];simp;omega
  ·have ih:=cnt_lt (fun x hx=>h x (Zw _ hx)) ht h1 h2
   have:=h u Zd
   cases pu:p u<;>cases qu:q u
   ·simp;omega
   ·simp;omega
   ·rw [pu,qu] at this;exact absurd (this rfl) (by decide)
   ·simp;omega
structure Th (S:Sts) (p q:Pt) (C:List Pt):Prop where
 pm:p∈C
 qm:q∈C
 cnt:C.length≤1+ins S C
 con:∀ E:Pt→Prop,(∀ a b,(a,b)∈S→a∈C→b∈C→(E a↔E b))→∀ c∈C,(E c↔E p)
theorem Th.start {S:Sts} {p q:Pt} (h:(p,q)∈S):Th S p q [p,q]:=by
 refine ⟨by simp,by simp,?_, fun E hE c hc=>?_⟩
 ·have:0<ins S [p,q]:=List.countP_pos_iff.mpr ⟨(p,q),h, decide_eq_true ⟨by simp,by simp⟩⟩
  simp;omega
 ·have:=hE p q h (by simp) (by simp)
  simp only [Zn,List.not_mem_nil,or_false] at hc
  rcases hc with rfl | rfl
  ·exact Iff.rfl
  ·exact this.symm
theorem Th.add {S:Sts} {p q a b:Pt} {C:List Pt} (t:Th S p q C) (hs:(a,b)∈S∨(b,a)∈S) (ha:a∈C) (hb:b∉C):Th S p q (C++[b]):=by
 have sub:∀ x∈C,x∈C++[b]:=fun x hx=>List.mem_append_left _ hx
 have bn:b∈C++[b]:=by simp
 refine ⟨sub _ t.pm,sub _ t.qm,?_, fun E hE c hc=>?_⟩
 ·have lt:ins S C<ins S (C++[b]):=by
   unfold ins
   rcases hs with hs | hs
   ·exact cnt_lt (fun t _ h=>by have h:=of_decide_eq_true h;exact decide_eq_true ⟨sub _ h.1,sub _ h.2⟩) hs (decide_eq_false fun z=>hb z.2) (decide_eq_true ⟨sub _ ha,bn⟩)
   ·exact cnt_lt (fun t _ h=>by have h:=of_decide_eq_true h;exact decide_eq_true ⟨sub _ h.1,sub _ h.2⟩) hs (decide_eq_false fun z=>hb z.1) (decide_eq_true ⟨bn,sub _ ha⟩)
  have:=t.cnt
  simp;omega
 ·have old:=t.con E fun x y h hx hy=>hE x y h (sub _ hx) (sub _ hy)
  rcases Zf.mp hc with hc | hc
  ·exact old c hc
  ·rw [Zb.mp hc]
   have:E a↔E b:=by
    rcases hs with hs | hs
    ·exact hE a b hs (sub _ ha) bn
    ·exact (hE b a hs bn (sub _ ha)).symm
   exact this.symm.trans (old a ha)
def Cl (S:Sts) (C:List Pt):Prop:=∀ s∈S,(s.1∈C↔s.2∈C)
structure Tn (S:Sts) (p q:Pt) (C0:List Pt) (i:Nat) (C:List Pt):Prop where
 th:Th S p q C
 le:C0.length≤C.length
 eq:C.length=C0.length→C=C0∧∀ s∈S.take i,(s.1∈C0↔s.2∈C0)
 cl:Cl S C0→C=C0
theorem Tn.start {S:Sts} {p q:Pt} {C0:List Pt} (t:Th S p q C0):Tn S p q C0 0 C0:=⟨t,Nat.le_refl _,fun _=>⟨rfl,fun s hs=>by simp at hs⟩, fun _=>rfl⟩
theorem Tn.next {S:Sts} {p q:Pt} {C0 C C':List Pt} {i:Nat} {s:Pt×Pt} (t:Tn S p q C0 i C) (hs:S[i]?=some s) (h:(C'=C∧(s.1∈C↔s.2∈C))∨(C'=C++[s.2]∧s.1∈C∧s.2∉C)∨(C'=C++[s.1]∧s.2∈C∧s.1∉C)):Tn S p q C0 (i+1) C':=by
 have hm:=Zg hs
 rcases h with ⟨rfl,hi⟩ | ⟨rfl,h1, h2⟩ | ⟨rfl,h1, h2⟩
 ·refine ⟨t.th,t.le,fun e=>?_, t.cl⟩
  obtain ⟨e1,e2⟩:=t.eq e
  refine ⟨e1,fun x hx=>?_⟩
  rw [List.take_add_one,hs] at hx
  rcases Zf.mp hx with hx | hx
  ·exact e2 x hx
  ·rw [show x=s by simpa using hx,←e1];exact hi
 ·refine ⟨t.th.add (.inl hm) h1 h2,by have:=t.le;simp;omega,fun e=>?_, fun c=>?_⟩
  ·have:=t.le;simp at e;omega
  ·have:=t.cl c;subst this;exact absurd ((c s hm).mp h1) h2
 ·refine ⟨t.th.add (.inr hm) h1 h2,by have:=t.le;simp;omega,fun e=>?_, fun c=>?_⟩
  ·have:=t.le;simp at e;omega
  ·have:=t.cl c;subst this;exact absurd ((c s hm).mpr h1) h2
structure Tu (S:Sts) (p q:Pt) (n:Nat) (C:List Pt):Prop where
 th:Th S p q C
 go:Cl S C∨2+n≤C.length
theorem Tu.next {S:Sts} {p q:Pt} {n:Nat} {C0 C:List Pt} (u:Tu S p q n C0) (t:Tn S p q C0 S.length C):Tu S p q (n+1) C:=by
 refine ⟨t.th,?_⟩
 by_cases e:C.length=C0.length
 ·obtain ⟨e1,e2⟩:=t.eq e
  rw [Yv] at e2
  exact .inl (by rw [e1];exact e2)
 ·rcases u.go with h | h
  ·exact absurd (congrArg List.length (t.cl h)) e
  ·have:=t.le
   exact .inr (by omega)
theorem Tu.cl {S:Sts} {p q:Pt} {C:List Pt} (u:Tu S p q S.length C):Cl S C:=by
 rcases u.go with h | h
 ·exact h
 ·have:=u.th.cnt
  have:ins S C≤S.length:=List.countP_le_length
  omega
theorem Tu.whl {S S':Sts} {p q:Pt} {C:List Pt} (u:Tu S p q S.length C) (h:∀ s,s∈S'↔s∈S∧s.1∈C):Whl S':=by
 intro D ⟨x,y,hxy, dx⟩ cl x' y' hxy'
 have c:=u.cl
 have inC:∀ a b,Adj S' a b→a∈C:=by
  rintro a b (z | z)
  ·exact ((h _).mp z).2
  ·obtain ⟨z1,z2⟩:=(h _).mp z
   exact (c _ z1).mp z2
 have con:=u.th.con D fun a b hab ha hb=>by
  have:Adj S' a b:=.inl ((h _).mpr ⟨hab,ha⟩)
  exact ⟨fun d=>cl a b d this,fun d=>cl b a d this.symm⟩
 exact (con x' (inC _ _ hxy')).mpr ((con x (inC _ _ hxy)).mp dx)
end GR
namespace AW
abbrev Ts:=List (Int×Int)
abbrev Os:=List (List Int)
def plc (ts:Ts) (e:Nat):Int:=((ts[e / 2]?).map fun t=>if e%2=0 then t.1 else t.2).getD (-1)
def InW (m:Int) (ts:Ts):Prop:=∀ t∈ts,(0≤t.1∧t.1<m)∧0≤t.2∧t.2<m
def all2 (ts:Ts):List Int:=(List.range (2*ts.length)).map fun n:Nat=>(n:Int)
def endsAt (ts:Ts) (p:Int):List Int:=(all2 ts).filter fun e=>plc ts e.toNat==p
inductive Rch (ts:Ts):Int→Prop
 | zero:Rch ts 0
 | fwd {t:Int×Int}:t∈ts→Rch ts t.1→Rch ts t.2
 | bwd {t:Int×Int}:t∈ts→Rch ts t.2→Rch ts t.1
def Whole (m:Int) (ts:Ts):Prop:=∀ p:Int,0≤p→p<m→Rch ts p
def Fit (ts:Ts) (os:Os):Prop:=∀ (i:Nat) (o:List Int),os[i]?=some o→o.length≤4∧o.Perm (endsAt ts i)
def Sized (m:Int) (ts:Ts):Prop:=(1≤m∧m≤200)∧1≤ts.length∧ts.length≤400
def IsMap (m:Int) (ts:Ts) (os:Os):Prop:=Sized m ts∧InW m ts∧(os.length:Int)=m∧Fit ts os∧Whole m ts
end AW
namespace GR
def ixP (Pl:List Pt) (p:Pt):Int:=(Pl.idxOf p:Nat)
def ends2 (Pl:List Pt) (r:List Pt):Int×Int:=(ixP Pl (r.getD 0 (0,0)),ixP Pl (r.getD (r.length-1) (0,0)))
def tsO (Pl:List Pt) (F:List (List Pt)):AW.Ts:=F.map (ends2 Pl)
section
variable {S:Sts} {Pl:List Pt} {F:List (List Pt)}
theorem wy_even {k:Nat} (h:k<F.length):wy F (2*k)=F[k]:=by
 unfold wy
 rw [if_pos (by omega),show 2*k / 2=k by omega,Zv,get_of h];rfl
theorem wy_odd {k:Nat} (h:k<F.length):wy F (2*k+1)=F[k].reverse:=by
 unfold wy
 rw [if_neg (by omega),show (2*k+1) / 2=k by omega,Zv,get_of h];rfl
theorem getD_some {r:List Pt} {i:Nat} {p:Pt} (h:r[i]?=some p):r.getD i (0,0)=p:=by rw [Zv,h];rfl
theorem plc_is (R:Rows S Pl F) {e:Nat} {p:Pt} (he:e<2*F.length) (h:(wy F e)[0]?=some p):AW.plc (tsO Pl F) e=ixP Pl p:=by
 have hk:e / 2<F.length:=by omega
 unfold AW.plc tsO
 rw [Zk,get_of hk]
 show (if e%2=0 then ixP Pl (F[e / 2].getD 0 (0,0)) else ixP Pl (F[e / 2].getD (F[e / 2].length-1) (0,0)))=_
 have hl:=(R.en _ (Zp hk)).t.len
 by_cases c:e%2=0
 ·rw [if_pos c]
  have:wy F e=F[e / 2]:=by
   have:=wy_even hk
   rw [show 2*(e / 2)=e by omega] at this;exact this
  rw [this] at h
  rw [getD_some h]
 ·rw [if_neg c]
  have:wy F e=F[e / 2].reverse:=by
   have:=wy_odd hk
   rw [show 2*(e / 2)+1=e by omega] at this;exact this
  rw [this,Yh (by omega)] at h
  rw [getD_some (by rw [←Nat.sub_zero (F[e / 2].length-1)];exact h)]
theorem ix_lt {p:Pt} (h:p∈Pl):0≤ixP Pl p∧ixP Pl p<Pl.length:=by
 have:=List.idxOf_lt_length_of_mem h
 unfold ixP;omega
theorem ix_inj {p q:Pt} (hp:p∈Pl) (hq:q∈Pl) (h:ixP Pl p=ixP Pl q):p=q:=by
 have h:Pl.idxOf p=Pl.idxOf q:=by unfold ixP at h;omega
 have h1:=List.idxOf_lt_length_of_mem hp
 have a:=List.getElem_idxOf h1
 have h2:=List.idxOf_lt_length_of_mem hq
 have b:=List.getElem_idxOf h2
 rw [←a,←b]
 simp only [h]
theorem ix_at (nd:Pl.Nodup) {i:Nat} {p:Pt} (h:Pl[i]?=some p):ixP Pl p=i:=by
 obtain ⟨hi,e⟩:=Zj.mp h
 have hm:p∈Pl:=e▸Zp hi
 have h1:=List.idxOf_lt_length_of_mem hm
 have a:=List.getElem_idxOf h1
 have:=List.nodup_iff_pairwise_ne.mp nd
 rw [List.pairwise_iff_getElem] at this
 unfold ixP
 rcases Nat.lt_trichotomy (Pl.idxOf p) i with c | c | c
 ·exact absurd (a.trans e.symm) (this _ _ h1 hi c)
 ·omega
 ·exact absurd (e.trans a.symm) (this _ _ hi h1 c)
theorem wy_first (R:Rows S Pl F) {e:Nat} (he:e<2*F.length):∃ p,(wy F e)[0]?=some p∧p∈Pl:=by
 have en:=wy_en R.en he
 have hl:=en.t.len
 have g:=get_of (l:=wy F e) (i:=0) (by omega)
 exact ⟨_,g, en.t.fst _ g⟩
theorem few (P:Pls S Pl) (R:Rows S Pl F):2*F.length≤4*Pl.length:=by
 have nd:((List.range (2*F.length)).map fun e=>hd2 (wy F e)).Nodup:=nodup_map List.nodup_range fun x hx y hy e=>by
  unfold hd2 at e
  injection e with e1 e2
  exact R.un x y (Zs.mp hx) (Zs.mp hy) e1 e2
 have:=sub_len nd (b:=Pl.flatMap fun p=>(nb S p).map fun o=>(some p,some o)) fun z hz=>by
  obtain ⟨e,he, rfl⟩:=Zh.mp hz
  have he:=Zs.mp he
  have en:=wy_en R.en he
  have hl:=en.t.len
  have g0:=get_of (l:=wy F e) (i:=0) (by omega)
  have g1:=get_of (l:=wy F e) (i:=1) (by omega)
  refine Yk.mpr ⟨_,en.t.fst _ g0, Zh.mpr ⟨_,(mem_nb P.u).mpr (en.t.adj 0 _ _ g0 g1), ?_⟩⟩
  unfold hd2
  rw [g0,g1]
 rw [Zq,Yj] at this
 refine Yr this ?_
 have key:∀ l:List Pt,(l.flatMap fun p=>(nb S p).map fun o=>(some p,some o)).length≤4*l.length:=by
  intro l
  induction l with
  | nil=>exact Nat.le_refl _
  | cons p l ih =>
   rw [List.flatMap_cons,Zm,Zq,Yq]
   have:=nb_len S p
   omega
 exact key Pl
theorem is_map (P:Pls S Pl) (R:Rows S Pl F) (W:Whl S) (hne:Pl≠[]) (l10:Pl.length≤10) {os:AW.Os} (ol:os.length=Pl.length) (ho:∀ (i:Nat) p o,Pl[i]?=some p→os[i]?=some o→o.Perm ((og S F p).map fun e:Nat=>(e:Int))):AW.IsMap Pl.length (tsO Pl F) os:=by
 have fw:=few P R
 have tl:(tsO Pl F).length=F.length:=Zq _
 obtain ⟨p0,Pl', rfl⟩:∃ p0 Pl',Pl=p0::Pl':=by
  cases Pl with
  | nil=>exact absurd rfl hne
  | cons a l=>exact ⟨a,l, rfl⟩
 have hp0:p0∈p0::Pl':=Zd
 have f1:1≤F.length:=by
  obtain ⟨q,hq⟩:=P.on p0 hp0
  obtain ⟨e,he, _⟩:=R.ex p0 q hp0 ((mem_nb P.u).mpr hq)
  omega
 have lastP:∀ r∈F,r.getD 0 (0,0)∈p0::Pl'∧r.getD (r.length-1) (0,0)∈p0::Pl':=fun r hr=>by
  have en:=R.en r hr
  have hl:=en.t.len
  have g0:=get_of (l:=r) (i:=0) (by omega)
  have g1:=get_of (l:=r) (i:=r.length-1) (by omega)
  rw [getD_some g0,getD_some g1]
  exact ⟨en.t.fst _ g0,en.lst _ g1⟩
 refine ⟨⟨⟨by simp;omega,by simp at l10 ⊢;omega⟩,by omega, by omega⟩,fun t ht=>?_,by rw [ol],fun i o hi=>?_, ?_⟩
 ·obtain ⟨r,hr, rfl⟩:=Zh.mp ht
  obtain ⟨a,b⟩:=lastP r hr
  exact ⟨ix_lt a,ix_lt b⟩
 ·have hi':i<(p0::Pl').length:=by rw [←ol];exact (Zj.mp hi).1
  have gp:=get_of hi'
  have pm:=ho i _ o gp hi
  refine ⟨by rw [pm.length_eq,Zq];exact og_len R _,pm.trans ?_⟩
  have hm:=Zg gp
  refine (List.perm_ext_iff_of_nodup ?_ ?_).mpr fun z=>?_
  ·exact nodup_map (og_nd R _) fun x _ y _ e=>Int.ofNat.inj e
  ·refine List.Pairwise.filter _ (nodup_map List.nodup_range fun x _ y _ e=>Int.ofNat.inj e)
  ·unfold AW.endsAt AW.all2
   rw [Yz,Zh,Zh,tl]
   constructor
   ·rintro ⟨e,he, rfl⟩
    obtain ⟨h1,h2⟩:=(og_mem P R).mp he
    refine ⟨⟨e,Zs.mpr h1, rfl⟩,?_⟩
    rw [Int.toNat_natCast,plc_is R h1 h2,ix_at P.nd gp]
    exact beq_self_eq_true _
   ·rintro ⟨⟨e,he, rfl⟩,h2⟩
    have he:=Zs.mp he
    rw [Int.toNat_natCast,beq_iff_eq] at h2
    obtain ⟨p,w0, wp⟩:=wy_first R he
    rw [plc_is R he w0,←ix_at P.nd gp] at h2
    have:=ix_inj wp hm h2
    subst this
    exact ⟨e,(og_mem P R).mpr ⟨he,w0⟩, rfl⟩
 ·intro z h0 h1
  obtain ⟨i,rfl⟩:=Xk h0
  have hi:i<(p0::Pl').length:=by omega
  have gp:=get_of hi
  rw [←ix_at P.nd gp]
  have hz0:ixP (p0::Pl') p0=0:=ix_at (i:=0) P.nd rfl
  refine whole P R W (fun p=>AW.Rch (tsO (p0::Pl') F) (ixP (p0::Pl') p)) (fun e a b he ha hb ma=>?_) hp0 (by show AW.Rch _ _;rw [hz0];exact .zero) _ (Zg gp)
  have hk:e / 2<F.length:=by omega
  have hl:=(R.en _ (Zp hk)).t.len
  have ht:ends2 (p0::Pl') F[e / 2]∈tsO (p0::Pl') F:=Yf (Zp hk)
  by_cases c:e%2=0
  ·have ew:wy F e=F[e / 2]:=by
    have:=wy_even hk
    rw [show 2*(e / 2)=e by omega] at this;exact this
   rw [ew] at ha hb
   have:=AW.Rch.fwd ht (by show AW.Rch _ (ixP _ _);rw [getD_some ha];exact ma)
   have e2:(ends2 (p0::Pl') F[e / 2]).2=ixP (p0::Pl') b:=by show ixP _ _=_;rw [getD_some hb]
   rw [e2] at this;exact this
  ·have ew:wy F e=F[e / 2].reverse:=by
    have:=wy_odd hk
    rw [show 2*(e / 2)+1=e by omega] at this;exact this
   rw [ew,Yh (by omega)] at ha
   rw [ew,Yp,Yh (by omega),show F[e / 2].length-1-(F[e / 2].length-1)=0 by omega] at hb
   have:=AW.Rch.bwd ht (by show AW.Rch _ (ixP _ _);rw [getD_some (by rw [←Nat.sub_zero (F[e / 2].length-1)];exact ha)];exact ma)
   have e2:(ends2 (p0::Pl') F[e / 2]).1=ixP (p0::Pl') b:=by show ixP _ _=_;rw [getD_some hb]
   rw [e2] at this;exact this
end
end GR
namespace AW
end AW
namespace TX
open PySem PySem.NumText
end TX
namespace TX
open PySem
end TX
namespace TX
open PySem PySem.NumText
end TX
namespace TX
end TX
namespace TX
open PySem PySem.NumText
end TX
namespace AW
theorem ins_perm {α:Type} (l:List α) (i:Nat) (x:α):(L2.insAt l i x).Perm (x::l):=by
 unfold L2.insAt
 have:=(List.perm_middle (a:=x) (l₁:=l.take i) (l₂:=l.drop i))
 rwa [List.take_append_drop] at this
end AW
namespace TX
end TX
namespace K76
open PySem L2
def top (i:Nat):Stmt:=PySem.Challenge.pw_fewbends_k76_pictures.main.body.getD i (.Pass ⟨0,0,0, 0⟩)
abbrev s_picture:Stmt:=top 14
theorem sc_picture:FnScope ["drawing","points","line","left","low","wide","high","signs","number","spot"] ["drawing"] (defScope s_picture):=⟨rfl,rfl,rfl,by decide +kernel,rfl,by decide +kernel, by decide +kernel⟩
abbrev s_cell_of:Stmt:=top 15
theorem sc_cell_of:FnScope ["point","left","top"] ["point","left","top"] (defScope s_cell_of):=⟨rfl,rfl,rfl,by decide +kernel,rfl,by decide +kernel, by decide +kernel⟩
abbrev s_put_line:Stmt:=top 16
theorem sc_put_line:FnScope ["signs","cells","cell","onward","sign","row","place"] ["signs","cells"] (defScope s_put_line):=⟨rfl,rfl,rfl,by decide +kernel,rfl,by decide +kernel, by decide +kernel⟩
abbrev s_show_row:Stmt:=top 17
theorem sc_show_row:FnScope ["signs","row","wide"] ["signs","row","wide"] (defScope s_show_row):=⟨rfl,rfl,rfl,by decide +kernel,rfl,by decide +kernel, by decide +kernel⟩
abbrev s_l_at:Stmt:=top 19
theorem sc_l_at:FnScope ["_law_script","_law_k"] ["_law_script","_law_k"] (defScope s_l_at):=⟨rfl,rfl,rfl,by decide +kernel,rfl,by decide +kernel, by decide +kernel⟩
abbrev s_l_mix:Stmt:=top 20
theorem sc_l_mix:FnScope ["_law_cell","_law_place","_law_turn","_law_part"] ["_law_cell","_law_place"] (defScope s_l_mix):=⟨rfl,rfl,rfl,by decide +kernel,rfl,by decide +kernel, by decide +kernel⟩
abbrev s_l_steps:Stmt:=top 21
theorem sc_l_steps:FnScope ["_law_size","_law_bits","_law_found","_law_left","_law_y","_law_x","_law_other"] ["_law_size","_law_bits"] (defScope s_l_steps):=⟨rfl,rfl,rfl,by decide +kernel,rfl,by decide +kernel, by decide +kernel⟩
abbrev s_l_together:Stmt:=top 22
theorem sc_l_together:FnScope ["_law_steps_here","_law_first","_law_there","_law_turn","_law_one","_law_other"] ["_law_steps_here","_law_first"] (defScope s_l_together):=⟨rfl,rfl,rfl,by decide +kernel,rfl,by decide +kernel, by decide +kernel⟩
abbrev s_l_beside:Stmt:=top 23
theorem sc_l_beside:FnScope ["_law_steps_here","_law_point","_law_found","_law_k","_law_other"] ["_law_steps_here","_law_point"] (defScope s_l_beside):=⟨rfl,rfl,rfl,by decide +kernel,rfl,by decide +kernel, by decide +kernel⟩
abbrev s_l_places:Stmt:=top 24
theorem sc_l_places:FnScope ["_law_steps_here","_law_number","_law_points","_law_some","_law_k","_law_point","_law_found"] ["_law_steps_here","_law_number"] (defScope s_l_places):=⟨rfl,rfl,rfl,by decide +kernel,rfl,by decide +kernel, by decide +kernel⟩
abbrev s_l_gone:Stmt:=top 25
theorem sc_l_gone:FnScope ["_law_steps_here","_law_places_here","_law_one","_law_other","_law_row"] ["_law_steps_here","_law_places_here","_law_one","_law_other"] (defScope s_l_gone):=⟨rfl,rfl,rfl,by decide +kernel,rfl,by decide +kernel, by decide +kernel⟩
abbrev s_l_ways:Stmt:=top 26
theorem sc_l_ways:FnScope ["_law_steps_here","_law_places_here","_law_number","_law_found","_law_place","_law_other","_law_row"] ["_law_steps_here","_law_places_here","_law_number"] (defScope s_l_ways):=⟨rfl,rfl,rfl,by decide +kernel,rfl,by decide +kernel, by decide +kernel⟩
abbrev s_l_chart:Stmt:=top 27
theorem sc_l_chart:FnScope ["_law_steps_here","_law_places_here","_law_rows_here","_law_number","_law_orders","_law_place","_law_order","_law_other","_law_k","_law_row","_law_at_here"] ["_law_steps_here","_law_places_here","_law_rows_here","_law_number"] (defScope s_l_chart):=⟨rfl,rfl,rfl,by decide +kernel,rfl,by decide +kernel, by decide +kernel⟩
abbrev s_l_rising:Stmt:=top 28
theorem sc_l_rising:FnScope ["_law_many","_law_number","_law_far","_law_found","_law_k"] ["_law_many","_law_number","_law_far"] (defScope s_l_rising):=⟨rfl,rfl,rfl,by decide +kernel,rfl,by decide +kernel, by decide +kernel⟩
abbrev s_l_line:Stmt:=top 29
theorem sc_l_line:FnScope ["_law_row","_law_xs","_law_ys","_law_points","_law_found","_law_k"] ["_law_row","_law_xs","_law_ys"] (defScope s_l_line):=⟨rfl,rfl,rfl,by decide +kernel,rfl,by decide +kernel, by decide +kernel⟩
abbrev s_l_built:Stmt:=top 30
theorem sc_l_built:FnScope ["_law_script","_law_start","_law_far","_law_head","_law_sizes","_law_size","_law_bits","_law_more","_law_steps_here","_law_places_here","_law_rows_here","_law_chart_here","_law_xs","_law_ys"] ["_law_script","_law_start","_law_far"] (defScope s_l_built):=⟨rfl,rfl,rfl,by decide +kernel,rfl,by decide +kernel, by decide +kernel⟩
abbrev s_l_heading:Stmt:=top 31
theorem sc_l_heading:FnScope ["_law_here","_law_there"] ["_law_here","_law_there"] (defScope s_l_heading):=⟨rfl,rfl,rfl,by decide +kernel,rfl,by decide +kernel, by decide +kernel⟩
abbrev s_l_between:Stmt:=top 32
theorem sc_l_between:FnScope ["_law_points","_law_xs","_law_ys"] ["_law_points"] (defScope s_l_between):=⟨rfl,rfl,rfl,by decide +kernel,rfl,by decide +kernel, by decide +kernel⟩
abbrev s_l_rows:Stmt:=top 33
theorem sc_l_rows:FnScope ["_law_drawing","_law_spots","_law_lines","_law_points","_law_line_here","_law_left","_law_right","_law_low","_law_top","_law_sheet","_law_k","_law_way","_law_far","_law_j","_law_row","_law_place","_law_x","_law_y","_law_number"] ["_law_drawing"] (defScope s_l_rows):=⟨rfl,rfl,rfl,by decide +kernel,rfl,by decide +kernel, by decide +kernel⟩
abbrev s_l_put_off:Stmt:=top 34
theorem sc_l_put_off:FnScope ["_law_drawing","_law_number","_law_way","_law_points","_law_line_here","_law_last","_law_least","_law_far","_law_rows_here","_law_row","_law_point","_law_other"] ["_law_drawing","_law_number"] (defScope s_l_put_off):=⟨rfl,rfl,rfl,by decide +kernel,rfl,by decide +kernel, by decide +kernel⟩
abbrev s_l_kind:Stmt:=top 35
theorem sc_l_kind:FnScope ["_law_kept","_law_some"] ["_law_kept"] (defScope s_l_kind):=⟨rfl,rfl,rfl,by decide +kernel,rfl,by decide +kernel, by decide +kernel⟩
abbrev s_l_good:Stmt:=top 36
theorem sc_l_good:FnScope ["_law_drawing","_law_handed","_law_points","_law_line_here","_law_left","_law_right","_law_low","_law_top","_law_kept","_law_found","e","_law_due"] ["_law_drawing"] (defScope s_l_good):=⟨rfl,rfl,rfl,by decide +kernel,rfl,by decide +kernel, by decide +kernel⟩
abbrev s_law:Stmt:=top 37
theorem sc_law:FnScope ["_law_script","_law_drawings","_law_start","_law_number","_law_drawing"] ["_law_script"] (defScope s_law):=⟨rfl,rfl,rfl,by decide +kernel,rfl,by decide +kernel, by decide +kernel⟩
set_option genInjectivity false in
structure Adr where
 q_MOST_REACH:Tok
 c_BendError:Addr
 c_NoMap:Addr
 c_NotFlat:Addr
 c_NoLand:Addr
 c_NoNet:Addr
 c_NoShape:Addr
 c_NoLaid:Addr
 c_NoText:Addr
 c_NoPicture:Addr
 c_NoRow:Addr
 c_NoThing:Addr
 a_picture:Addr
 d_picture:FuncData
 a_cell_of:Addr
 d_cell_of:FuncData
 a_put_line:Addr
 d_put_line:FuncData
 a_show_row:Addr
 d_show_row:FuncData
 a_l_at:Addr
 d_l_at:FuncData
 a_l_mix:Addr
 d_l_mix:FuncData
 a_l_steps:Addr
 d_l_steps:FuncData
 a_l_together:Addr
 d_l_together:FuncData
 a_l_beside:Addr
 d_l_beside:FuncData
 a_l_places:Addr
 d_l_places:FuncData
 a_l_gone:Addr
 d_l_gone:FuncData
 a_l_ways:Addr
 d_l_ways:FuncData
 a_l_chart:Addr
 d_l_chart:FuncData
 a_l_rising:Addr
 d_l_rising:FuncData
 a_l_line:Addr
 d_l_line:FuncData
 a_l_built:Addr
 d_l_built:FuncData
 a_l_heading:Addr
 d_l_heading:FuncData
 a_l_between:Addr
 d_l_between:FuncData
 a_l_rows:Addr
 d_l_rows:FuncData
 a_l_put_off:Addr
 d_l_put_off:FuncData
 a_l_kind:Addr
 d_l_kind:FuncData
 a_l_good:Addr
 d_l_good:FuncData
 a_law:Addr
 d_law:FuncData
structure Txt (K:PySem.W.Frag) (mg:Str→Option Value) (t:Adr):Prop where
 F_picture:Fun K "picture" "picture" s_picture t.a_picture t.d_picture
 m_picture:mg "picture" = some (.ref t.a_picture)
 k_picture:PySem.W.keepIn K (.ref t.a_picture)=true
 b_picture:Binds K t.d_picture ["drawing"] []
 F_cell_of:Fun K "cell_of" "cell_of" s_cell_of t.a_cell_of t.d_cell_of
 m_cell_of:mg "cell_of" = some (.ref t.a_cell_of)
 k_cell_of:PySem.W.keepIn K (.ref t.a_cell_of)=true
 b_cell_of:Binds K t.d_cell_of ["point","left","top"] []
 F_put_line:Fun K "put_line" "put_line" s_put_line t.a_put_line t.d_put_line
 m_put_line:mg "put_line" = some (.ref t.a_put_line)
 k_put_line:PySem.W.keepIn K (.ref t.a_put_line)=true
 b_put_line:Binds K t.d_put_line ["signs","cells"] []
 F_show_row:Fun K "show_row" "show_row" s_show_row t.a_show_row t.d_show_row
 m_show_row:mg "show_row" = some (.ref t.a_show_row)
 k_show_row:PySem.W.keepIn K (.ref t.a_show_row)=true
 b_show_row:Binds K t.d_show_row ["signs","row","wide"] []
 F_l_at:Fun K "_law_at" "_law_at" s_l_at t.a_l_at t.d_l_at
 m_l_at:mg "_law_at" = some (.ref t.a_l_at)
 k_l_at:PySem.W.keepIn K (.ref t.a_l_at)=true
 b_l_at:Binds K t.d_l_at ["_law_script","_law_k"] []
 F_l_mix:Fun K "_law_mix" "_law_mix" s_l_mix t.a_l_mix t.d_l_mix
 m_l_mix:mg "_law_mix" = some (.ref t.a_l_mix)
 k_l_mix:PySem.W.keepIn K (.ref t.a_l_mix)=true
 b_l_mix:Binds K t.d_l_mix ["_law_cell","_law_place"] []
 F_l_steps:Fun K "_law_steps" "_law_steps" s_l_steps t.a_l_steps t.d_l_steps
 m_l_steps:mg "_law_steps" = some (.ref t.a_l_steps)
 k_l_steps:PySem.W.keepIn K (.ref t.a_l_steps)=true
 b_l_steps:Binds K t.d_l_steps ["_law_size","_law_bits"] []
 F_l_together:Fun K "_law_together" "_law_together" s_l_together t.a_l_together t.d_l_together
 m_l_together:mg "_law_together" = some (.ref t.a_l_together)
 k_l_together:PySem.W.keepIn K (.ref t.a_l_together)=true
 b_l_together:Binds K t.d_l_together ["_law_steps_here","_law_first"] []
 F_l_beside:Fun K "_law_beside" "_law_beside" s_l_beside t.a_l_beside t.d_l_beside
 m_l_beside:mg "_law_beside" = some (.ref t.a_l_beside)
 k_l_beside:PySem.W.keepIn K (.ref t.a_l_beside)=true
 b_l_beside:Binds K t.d_l_beside ["_law_steps_here","_law_point"] []
 F_l_places:Fun K "_law_places" "_law_places" s_l_places t.a_l_places t.d_l_places
 m_l_places:mg "_law_places" = some (.ref t.a_l_places)
 k_l_places:PySem.W.keepIn K (.ref t.a_l_places)=true
 b_l_places:Binds K t.d_l_places ["_law_steps_here","_law_number"] []
 F_l_gone:Fun K "_law_gone" "_law_gone" s_l_gone t.a_l_gone t.d_l_gone
 m_l_gone:mg "_law_gone" = some (.ref t.a_l_gone)
 k_l_gone:PySem.W.keepIn K (.ref t.a_l_gone)=true
 b_l_gone:Binds K t.d_l_gone ["_law_steps_here","_law_places_here","_law_one","_law_other"] []
 F_l_ways:Fun K "_law_ways" "_law_ways" s_l_ways t.a_l_ways t.d_l_ways
 m_l_ways:mg "_law_ways" = some (.ref t.a_l_ways)
 k_l_ways:PySem.W.keepIn K (.ref t.a_l_ways)=true
 b_l_ways:Binds K t.d_l_ways ["_law_steps_here","_law_places_here","_law_number"] []
 F_l_chart:Fun K "_law_chart" "_law_chart" s_l_chart t.a_l_chart t.d_l_chart
 m_l_chart:mg "_law_chart" = some (.ref t.a_l_chart)
 k_l_chart:PySem.W.keepIn K (.ref t.a_l_chart)=true
 b_l_chart:Binds K t.d_l_chart ["_law_steps_here","_law_places_here","_law_rows_here","_law_number"] []
 F_l_rising:Fun K "_law_rising" "_law_rising" s_l_rising t.a_l_rising t.d_l_rising
 m_l_rising:mg "_law_rising" = some (.ref t.a_l_rising)
 k_l_rising:PySem.W.keepIn K (.ref t.a_l_rising)=true
 b_l_rising:Binds K t.d_l_rising ["_law_many","_law_number","_law_far"] []
 F_l_line:Fun K "_law_line" "_law_line" s_l_line t.a_l_line t.d_l_line
 m_l_line:mg "_law_line" = some (.ref t.a_l_line)
 k_l_line:PySem.W.keepIn K (.ref t.a_l_line)=true
 b_l_line:Binds K t.d_l_line ["_law_row","_law_xs","_law_ys"] []
 F_l_built:Fun K "_law_built" "_law_built" s_l_built t.a_l_built t.d_l_built
 m_l_built:mg "_law_built" = some (.ref t.a_l_built)
 k_l_built:PySem.W.keepIn K (.ref t.a_l_built)=true
 b_l_built:Binds K t.d_l_built ["_law_script","_law_start","_law_far"] []
 F_l_heading:Fun K "_law_heading" "_law_heading" s_l_heading t.a_l_heading t.d_l_heading
 m_l_heading:mg "_law_heading" = some (.ref t.a_l_heading)
 k_l_heading:PySem.W.keepIn K (.ref t.a_l_heading)=true
 b_l_heading:Binds K t.d_l_heading ["_law_here","_law_there"] []
 F_l_between:Fun K "_law_between" "_law_between" s_l_between t.a_l_between t.d_l_between
 m_l_between:mg "_law_between" = some (.ref t.a_l_between)
 k_l_between:PySem.W.keepIn K (.ref t.a_l_between)=true
 b_l_between:Binds K t.d_l_between ["_law_points"] []
 F_l_rows:Fun K "_law_rows" "_law_rows" s_l_rows t.a_l_rows t.d_l_rows
 m_l_rows:mg "_law_rows" = some (.ref t.a_l_rows)
 k_l_rows:PySem.W.keepIn K (.ref t.a_l_rows)=true
 b_l_rows:Binds K t.d_l_rows ["_law_drawing"] []
 F_l_put_off:Fun K "_law_put_off" "_law_put_off" s_l_put_off t.a_l_put_off t.d_l_put_off
 m_l_put_off:mg "_law_put_off" = some (.ref t.a_l_put_off)
 k_l_put_off:PySem.W.keepIn K (.ref t.a_l_put_off)=true
 b_l_put_off:Binds K t.d_l_put_off ["_law_drawing","_law_number"] []
 F_l_kind:Fun K "_law_kind" "_law_kind" s_l_kind t.a_l_kind t.d_l_kind
 m_l_kind:mg "_law_kind" = some (.ref t.a_l_kind)
 k_l_kind:PySem.W.keepIn K (.ref t.a_l_kind)=true
 b_l_kind:Binds K t.d_l_kind ["_law_kept"] []
 F_l_good:Fun K "_law_good" "_law_good" s_l_good t.a_l_good t.d_l_good
 m_l_good:mg "_law_good" = some (.ref t.a_l_good)
 k_l_good:PySem.W.keepIn K (.ref t.a_l_good)=true
 b_l_good:Binds K t.d_l_good ["_law_drawing"] []
 F_law:Fun K "law" "law" s_law t.a_law t.d_law
 m_law:mg "law" = some (.ref t.a_law)
 k_law:PySem.W.keepIn K (.ref t.a_law)=true
 b_law:Binds K t.d_law ["_law_script"] []
 z_abs:mg "abs" = none
 z_enumerate:mg "enumerate" = none
 z_int:mg "int" = none
 z_isinstance:mg "isinstance" = none
 z_len:mg "len" = none
 z_list:mg "list" = none
 z_max:mg "max" = none
 z_min:mg "min" = none
 z_range:mg "range" = none
 z_set:mg "set" = none
 z_sorted:mg "sorted" = none
 z_str:mg "str" = none
 z_zip:mg "zip" = none
 g_MOST_REACH:mg "MOST_REACH" = some (.int 60 t.q_MOST_REACH)
 m_BendError:mg "BendError" = some (.ref t.c_BendError)
 m_NoMap:mg "NoMap" = some (.ref t.c_NoMap)
 m_NotFlat:mg "NotFlat" = some (.ref t.c_NotFlat)
 m_NoLand:mg "NoLand" = some (.ref t.c_NoLand)
 m_NoNet:mg "NoNet" = some (.ref t.c_NoNet)
 m_NoShape:mg "NoShape" = some (.ref t.c_NoShape)
 m_NoLaid:mg "NoLaid" = some (.ref t.c_NoLaid)
 m_NoText:mg "NoText" = some (.ref t.c_NoText)
 m_NoPicture:mg "NoPicture" = some (.ref t.c_NoPicture)
 m_NoRow:mg "NoRow" = some (.ref t.c_NoRow)
 m_NoThing:mg "NoThing" = some (.ref t.c_NoThing)
 x_in:PySem.W.excIn K t.c_NoPicture [.type "ValueError",.type "Exception",.type "BaseException",.type "object"] "ValueError.__new__" = true
 x_up:L2.ClsU K t.c_NoPicture t.c_BendError
 x_ve:PySem.W.subIn K (.ref t.c_NoPicture) (.type "ValueError")=some true
 x_NoMap:L2.ClsN K t.c_NoPicture t.c_NoMap
 x_NotFlat:L2.ClsN K t.c_NoPicture t.c_NotFlat
 x_NoLand:L2.ClsN K t.c_NoPicture t.c_NoLand
 x_NoNet:L2.ClsN K t.c_NoPicture t.c_NoNet
 x_NoShape:L2.ClsN K t.c_NoPicture t.c_NoShape
 x_NoLaid:L2.ClsN K t.c_NoPicture t.c_NoLaid
 x_NoText:L2.ClsN K t.c_NoPicture t.c_NoText
 x_NoRow:L2.ClsN K t.c_NoPicture t.c_NoRow
 x_NoThing:L2.ClsN K t.c_NoPicture t.c_NoThing
 x_K:L2.ExcK K t.c_NoPicture
 z_ValueError:mg "ValueError" = none
end K76
abbrev K76.lawK:Nat:=60
namespace L2
open PySem PyProof.Rows
def TsI (H:Hp) (a:Addr) (ts:AW.Ts):Prop:=∃ tr:List Addr,H a=some (.lst (tr.map V.ref))∧tr.length=ts.length∧∀ (i:Nat) t,ts[i]?=some t→∃ r,tr[i]?=some r∧H r=some (.tup [.int t.1,.int t.2])
def OsI (H:Hp) (a:Addr) (os:AW.Os):Prop:=∃ tr:List Addr,H a=some (.lst (tr.map V.ref))∧tr.length=os.length∧∀ (i:Nat) l,os[i]?=some l→∃ r,tr[i]?=some r∧H r=some (.lst (l.map V.int))
def WebI (H:Hp) (w:Addr) (m:Int) (ts:AW.Ts) (os:AW.Os):Prop:=∃ tA oA:Addr,H w=some (.tup [.int m,.ref tA,.ref oA])∧TsI H tA ts∧OsI H oA os
theorem TsI.same {H H':Hp} {a:Addr} {ts:AW.Ts} (h:TsI H a ts) (g:Same H H'):TsI H' a ts:=by
 obtain ⟨tr,h1,h2, h3⟩:=h
 exact ⟨tr,g _ _ h1,h2, fun i t e=>let ⟨r,q1,q2⟩:=h3 i t e;⟨r,q1, g _ _ q2⟩⟩
theorem OsI.same {H H':Hp} {a:Addr} {os:AW.Os} (h:OsI H a os) (g:Same H H'):OsI H' a os:=by
 obtain ⟨tr,h1,h2, h3⟩:=h
 exact ⟨tr,g _ _ h1,h2, fun i t e=>let ⟨r,q1,q2⟩:=h3 i t e;⟨r,q1, g _ _ q2⟩⟩
theorem WebI.same {H H':Hp} {w:Addr} {m:Int} {ts:AW.Ts} {os:AW.Os} (h:WebI H w m ts os) (g:Same H H'):WebI H' w m ts os:=by
 obtain ⟨tA,oA,h1,h2, h3⟩:=h
 exact ⟨tA,oA,g _ _ h1,h2.same g, h3.same g⟩
theorem TsI.nth {H:Hp} {a:Addr} {ts:AW.Ts} {tr:List Addr} (h1:tr.length=ts.length) (h2:∀ (i:Nat) t,ts[i]?=some t→∃ r,tr[i]?=some r∧H r=some (.tup [.int t.1,.int t.2])) {i:Nat} {x:V} (hx:(tr.map V.ref)[i]?=some x) :
  ∃ t r,ts[i]?=some t∧x=.ref r∧H r=some (.tup [.int t.1,.int t.2]):=by
 rw [Zk] at hx
 cases e:ts[i]? with
 | none =>
  have:tr[i]?=none:=Zr (by rw [h1];exact List.getElem?_eq_none_iff.mp e)
  rw [this] at hx;cases hx
 | some t =>
  obtain ⟨r,q1, q2⟩:=h2 i t e
  rw [q1] at hx
  cases hx
  exact ⟨t,r,rfl,rfl, q2⟩
structure NewL (H H':Hp) (r:Addr) (rr:List Addr) (ls:List (List V)):Prop where
 at_:H' r=some (.lst (rr.map V.ref))
 len:rr.length=ls.length
 row:∀ (i:Nat) l,ls[i]?=some l→∃ x,rr[i]?=some x∧H' x=some (.lst l)
 nd:rr.Nodup
 nin:r∉rr
 new:H r=none
 news:∀ x∈rr,H x=none
theorem NewL.keep {H H' H2:Hp} {r:Addr} {rr:List Addr} {ls:List (List V)} (n:NewL H H' r rr ls) (g:Same H' H2):NewL H H2 r rr ls :=
 ⟨g _ _ n.at_,n.len,fun i l h=>let ⟨x,h1,h2⟩:=n.row i l h;⟨x,h1, g _ _ h2⟩,n.nd,n.nin,n.new, n.news⟩
theorem Same.fresh {H H':Hp} (g:Same H H') {x:Addr} (hx:H x=none) (o:HO):Same H (upd H' x o):=fun b u h=>by rw [upd_ne (ne_of_none h hx)];exact g _ _ h
theorem NewL.set {H0 H:Hp} {o x:Addr} {rr:List Addr} {ls:List (List V)} (n:NewL H0 H o rr ls) {p:Nat} {l:List V} (hx:rr[p]?=some x):NewL H0 (upd H x (.lst l)) o rr (ls.set p l) where
 at_:=by rw [upd_ne (show o≠x from fun z=>n.nin (z▸Zg hx))];exact n.at_
 len:=by rw [List.length_set];exact n.len
 row:=fun i m h=>by
  by_cases e:p=i
  ·subst e
   have hp:p<ls.length:=n.len▸(Zj.mp hx).1
   rw [List.getElem?_set_self hp] at h
   cases h
   exact ⟨x,hx, upd_same⟩
  ·rw [List.getElem?_set_ne e] at h
   obtain ⟨y,h1, h2⟩:=n.row i m h
   refine ⟨y,h1, ?_⟩
   have ne:y≠x:=by
    rintro rfl
    obtain ⟨a1,b1⟩:=Zj.mp h1
    obtain ⟨a2,b2⟩:=Zj.mp hx
    exact e ((List.getElem_inj n.nd).mp (b2.trans b1.symm))
   rw [upd_ne ne];exact h2
 nd:=n.nd
 nin:=n.nin
 new:=n.new
 news:=n.news
theorem comp_news {J:It} {js:List (Option Nat)} {σ:St} {H1:Hp} {R:Hp→Prop} {D:Addr} {g:TG} {te:TE} (n:Nat) (fs:Nat→List V) (hD:H1 D=none) (hn:n≤100000)
  (go:∀ i H',i<n→Same H1 H'→J.go i H') (stop:∀ H',Same H1 H'→J.stop n H')
  (hs:∀ i H' x H'' (k:V→Hp→Prop),i<n→Same H1 H'→J.yld i H' x H''→(∀ a H4,H' a=none→Same H' H4→H4 a=some (.lst (fs i))→k (.ref a) H4)→g x (inner js σ) H'' fun σ2 H2=>Fills (inner js σ) σ2∧te σ2 H2 k)
  (hd:∀ (rr:List Addr) H',NewL H1 H' D rr ((List.range n).map fs)→Same H1 H'→R H') :
  ∃ W:Nat→Nat→List V→Hp→Prop,(∃ m,W 0 m [] (upd H1 D (.lst []))) ∧
   ∀ i m ys H,W i m ys H→(J.stop i H∧R H)∨(J.go i H∧∃ N:List V→Hp→Prop,(∀ ys' H',N ys' H'→∃ m',m' < m∧W (i+1) m' ys' H')∧∀ x H',J.yld i H x H'→g x (inner js σ) H' fun σ2 H2=>Fills (inner js σ) σ2∧tTrue σ2 H2 fun b H3 =>
    if b=true then te σ2 H3 fun y H4=>H4 D=some (.lst ys)∧ys.length<sizeLine∧N (ys++[y]) (upd H4 D (.lst (ys++[y]))) else N ys H3):=by
 refine comp_map n (fun i ys H'=>∃ rr:List Addr,ys=rr.map V.ref∧NewL H1 H' D rr ((List.range i).map fs)∧Same H1 H') ⟨[],rfl,⟨upd_same,rfl,fun i l h=>by simp at h,List.nodup_nil,by simp,hD, by simp⟩, same_new hD _⟩ ?_ ?_
 ·rintro i ys H' hi ⟨rr,rfl,w, g1⟩
  have hl:rr.length=i:=by rw [w.len];simp
  refine ⟨go i H' hi g1,fun x H'' hy=>hs i H' x H'' _ hi g1 hy fun a H4 ha g4 e4=>⟨g4 _ _ w.at_,?_,rr++[a],?_,?_, ?_⟩⟩
  ·rw [Zq,hl];exact Yt hi (Yr hn (by decide))
  ·rw [Zt];rfl
  ·have aD:a≠D:=fun z=>by rw [z,w.at_] at ha;cases ha
   have ain:a∉rr:=fun z=>by
    obtain ⟨j,hj, e⟩:=Yy.mp z
    have hj':j<((List.range i).map fs).length:=w.len▸hj
    obtain ⟨y,h1, h2⟩:=w.row j _ (Zz hj')
    rw [Zz hj,e] at h1
    cases h1
    rw [ha] at h2;cases h2
   refine ⟨by rw [Zt];exact upd_same,by simp [hl],fun j l h=>?_,?_,?_,hD, ?_⟩
   ·by_cases hj:j<i
    ·have e:((List.range (i+1)).map fs)[j]?=((List.range i).map fs)[j]?:=by simp [hj,YQ hj]
     rw [e] at h
     obtain ⟨y,h1, h2⟩:=w.row j l h
     have yD:y≠D:=fun z=>w.nin (z▸Zg h1)
     exact ⟨y,by rw [Zx (by omega)];exact h1, by rw [upd_ne yD];exact g4 _ _ h2⟩
    ·have hj2:j=i:=by
      have:=(Zj.mp h).1
      simp at this;omega
     subst hj2
     have e:l=fs j:=by simpa using h.symm
     subst e
     exact ⟨a,by rw [←hl,Yx], by rw [upd_ne aD];exact e4⟩
   ·rw [List.nodup_append]
    refine ⟨w.nd,by simp, fun b hb c hc z=>?_⟩
    have e:c=a:=by simpa using hc
    subst e
    subst z
    exact ain hb
   ·intro z
    rcases Zf.mp z with z | z
    ·exact w.nin z
    ·exact aD (Zb.mp z).symm
   ·intro y hy
    rcases Zf.mp hy with z | z
    ·exact w.news y z
    ·rw [Zb.mp z];exact g1.free ha
  ·exact (g1.trans g4).fresh hD _
 ·rintro ys H' ⟨rr,rfl,w, g1⟩
  exact ⟨stop H' g1,hd rr H' w g1⟩
theorem NewL.item {H0 H:Hp} {o:Addr} {rr:List Addr} {n:Nat} {f:Nat→List V} (w:NewL H0 H o rr ((List.range n).map f)) {p:Nat} (hp:p<n) :
  ∃ x,rr[p]?=some x∧H x=some (.lst (f p))∧H0 x=none∧atI (rr.map V.ref) (p:Int)=some (.ref x):=by
 obtain ⟨x,h1, h2⟩:=w.row p (f p) (by simp [hp])
 exact ⟨x,h1,h2,w.news x (Zg h1), atI_nat (by rw [Zk,h1];rfl)⟩
theorem set_range {n p:Nat} {f:Nat→List V} {v:List V}:((List.range n).map f).set p v=(List.range n).map fun i=>if i=p then v else f i:=by
 refine Yn fun i=>?_
 rw [List.getElem?_set]
 by_cases e:p=i
 ·subst e
  by_cases h:p<n<;>simp [h]
 ·rw [if_neg e]
  by_cases h:i<n
  ·simp [h,Ne.symm e]
  ·simp [h]
theorem NewL.put {H0 H:Hp} {o x:Addr} {rr:List Addr} {n p:Nat} {f:Nat→List V} (w:NewL H0 H o rr ((List.range n).map f)) (hx:rr[p]?=some x) (l:List V) :
  NewL H0 (upd H x (.lst l)) o rr ((List.range n).map fun i=>if i=p then l else f i):=by
 rw [←set_range];exact w.set hx
theorem NewL.notIn {H0 H:Hp} {o x:Addr} {rr:List Addr} {ls:List (List V)} (n:NewL H0 H o rr ls) (hx:H x=none):x∉rr:=fun z=>by
 obtain ⟨i,hi, e⟩:=Yy.mp z
 obtain ⟨y,a, b⟩:=n.row i _ (Zz (n.len▸hi))
 rw [Zz hi,e] at a
 cases a
 rw [hx] at b;cases b
theorem viaN {tt r:TS} {D:Ends} {σ:St} {H:Hp} (I:St→Hp→Prop) (ht:∀ N:St→Hp→Prop,(∀ σ' H',I σ' H'→N σ' H')→tt { D with nx:=N } σ H) (hr:∀ σ' H',I σ' H'→r D σ' H'):tSeq tt r D σ H:=ht _ hr
end L2
namespace AW
end AW
namespace L2
open PySem PySem.Spec PyProof.Rows TX
theorem comp_objs {J:It} {js:List (Option Nat)} {σ:St} {H1:Hp} {R:Hp→Prop} {D:Addr} {g:TG} {te:TE} (n:Nat) (Pe:Nat→HO→Prop) (hD:H1 D=none) (hn:n≤100000)
  (go:∀ i H',i<n→Same H1 H'→J.go i H') (stop:∀ H',Same H1 H'→J.stop n H')
  (hs:∀ i H' x H'' (k:V→Hp→Prop),i<n→Same H1 H'→J.yld i H' x H''→(∀ a o H4,Pe i o→H' a=none→Same H' H4→H4 a=some o→k (.ref a) H4)→g x (inner js σ) H'' fun σ2 H2=>Fills (inner js σ) σ2∧te σ2 H2 k)
  (hd:∀ (rr:List Addr) H',rr.length=n→(∀ (i:Nat) a,rr[i]?=some a→∃ o,Pe i o∧H' a=some o)→Same H1 H'→H' D=some (.lst (rr.map V.ref))→R H') :
  ∃ W:Nat→Nat→List V→Hp→Prop,(∃ m,W 0 m [] (upd H1 D (.lst []))) ∧
   ∀ i m ys H,W i m ys H→(J.stop i H∧R H)∨(J.go i H∧∃ N:List V→Hp→Prop,(∀ ys' H',N ys' H'→∃ m',m' < m∧W (i+1) m' ys' H')∧∀ x H',J.yld i H x H'→g x (inner js σ) H' fun σ2 H2=>Fills (inner js σ) σ2∧tTrue σ2 H2 fun b H3 =>
    if b=true then te σ2 H3 fun y H4=>H4 D=some (.lst ys)∧ys.length<sizeLine∧N (ys++[y]) (upd H4 D (.lst (ys++[y]))) else N ys H3):=by
 refine comp_map n (fun i ys H'=>∃ rr:List Addr,ys=rr.map V.ref∧rr.length=i∧(∀ (j:Nat) a,rr[j]?=some a→∃ o,Pe j o∧H' a=some o)∧D∉rr∧Same H1 H'∧H' D=some (.lst (rr.map V.ref))) ⟨[],rfl,rfl,fun j a h=>by simp at h,by simp,same_new hD _, upd_same⟩ ?_ ?_
 ·rintro i ys H' hi ⟨rr,rfl,hl,hp,nD,g1, eD⟩
  refine ⟨go i H' hi g1,fun x H'' hy=>hs i H' x H'' _ hi g1 hy fun a o H4 hP ha g4 e4=>⟨g4 _ _ eD,?_,rr++[a],?_,?_,?_,?_,?_, ?_⟩⟩
  ·rw [Zq,hl];exact Yt hi (Yr hn (by decide))
  ·rw [Zt];rfl
  ·simp [hl]
  ·have aD:a≠D:=fun z=>by rw [z,eD] at ha;cases ha
   intro j b hb
   by_cases hj:j<i
   ·rw [Zx (by omega)] at hb
    obtain ⟨o',h1, h2⟩:=hp j b hb
    exact ⟨o',h1, by rw [upd_ne (show b≠D from fun z=>nD (z▸Zg hb))];exact g4 _ _ h2⟩
   ·have hj2:j=i:=by
     have:=(Zj.mp hb).1
     simp at this;omega
    subst hj2
    rw [←hl,Yx] at hb
    cases hb
    exact ⟨o,hP, by rw [upd_ne aD];exact e4⟩
  ·intro z
   rcases Zf.mp z with z | z
   ·exact nD z
   ·have:=Zb.mp z
    rw [←this,eD] at ha;cases ha
  ·exact (g1.trans g4).fresh hD _
  ·rw [Zt];exact upd_same
 ·rintro ys H' ⟨rr,rfl,hl,hp,nD,g1, eD⟩
  exact ⟨stop H' g1,hd rr H' hl hp g1 eD⟩
theorem passF {P:Program} {w:World} {C:Addr} {X:Cx}:Passes (CXr P w C) X (fun _ _ _=>False):=fun _ _ _ _ _ _ _ h=>by
 obtain ⟨_,_,_,_,_,_,_,_,_,_,_,_, hE⟩:=h
 exact hE.elim
theorem cut_fromV (xs:List V) (k:Nat):cutV xs (some (k:Int)) none=xs.drop k:=by
 unfold cutV
 rw [HT.sIx_none,HT.sIx_nat]
 by_cases h:k≤xs.length
 ·rw [Nat.min_eq_left h,List.take_of_length_le (by rw [Yd];omega)]
 ·rw [Nat.min_eq_right (by omega),List.drop_of_length_le (Nat.le_refl _),List.drop_of_length_le (by omega),List.take_nil]
theorem cut_toV (xs:List V) (k:Nat):cutV xs none (some (k:Int))=xs.take k:=by
 unfold cutV
 rw [HT.sIx_none,HT.sIx_nat,List.drop_zero,Nat.sub_zero]
 by_cases h:k≤xs.length
 ·rw [Nat.min_eq_left h]
 ·rw [Nat.min_eq_right (by omega),List.take_of_length_le (Nat.le_refl _),List.take_of_length_le (by omega)]
section
variable {X:Cx} {a b:Expr} {rest:List Expr} {pos:Pos} {ta tb:TE}
end
end L2
namespace L2
open PySem PySem.Spec PyProof.Rows
section
variable {X:Cx}
def CDivW (_ j:Int):Prop:=0<j∧j.natAbs.log2<9000
theorem op_fdivW:OpR X (binaryOp .FloorDiv) (rI CDivW fun i j=>.int (i / j)):=opI fun i j _ _ _ _ _ hc q=>by
 have h1:(0:Int)<j:=hc.1
 exact floordiv_int (by omega) (by rw [Int.fdiv_eq_ediv_of_nonneg i (by omega)];exact q) (.inl (PyProof.noPylong_of_log2 hc.2))
def rIndexV:V→List V→Hp→VK→Prop:=fun x vs H Q=>∃ (l:Addr) (xs:List V) (v:V) (j:Nat),x=.ref l∧vs=[v]∧H l=some (.lst xs)∧flatV v=true∧xs.all flatV=true∧(∃ y,xs[j]?=some y∧eqV y v=true)∧(∀ m y,m<j→xs[m]?=some y→eqV y v=false)∧Q (vn j) H
theorem mt_indexV:MtM X "list.index" rIndexV:=by
 intro pins s σ H x vs v us Q I rx rv h
 obtain ⟨l,xs,k,j,rfl,rfl,hH,fk,fl,⟨yj,ey, hy⟩,hm, q⟩:=h
 cases rx
 obtain ⟨u,rfl, ru⟩:=rv.one
 obtain ⟨z,its,n,r,hl, e⟩:=I.lstM hH
 have item:∀ (m:Nat) (hm:m<its.toArray.size) (y:V),xs[m]?=some y→eqU k its.toArray[m]=eqV y k:=fun m hm' y hx=>by
  obtain ⟨u',hu', ru'⟩:=r.get hx
  have e1:its.toArray[m]=u':=by
   have:its[m]?=some its.toArray[m]:=by simp at hm' ⊢
   rw [this] at hu';exact Option.some.inj hu'
  rw [e1,eqU_of ru' (List.all_eq_true.mp fl y (Zg hx))]
 have hj:j<xs.length:=(Zj.mp ey).1
 have hsm:((j:Nat):Int)<2 ^ 63-1:=by
  have h1:=line63
  omega
 refine call_meets F.slot_list_index ⟨_,e, rfl⟩ F.entry_list_index (F.args_list_index_2 _ _) (SeqAt.list_indexAt l its.toArray n none #[] u (eqU k) j (by rw [List.size_toArray];omega) hsm ?_ ?_) ⟨e,fun y hy=>?_, ?_⟩
 ·rw [item j _ yj ey];exact hy
 ·intro m hm' hlt
  rw [item m hm' xs[m] (Zz (by omega))]
  exact hm m _ hlt (Zz (by omega))
 ·exact mem_eqAt (x:=k) ru fk r fl y (by simpa using hy)
 ·exact ⟨vn j,H,I.tok _,⟨_,rfl⟩, q⟩
def rCountV:V→List V→Hp→VK→Prop:=fun x vs H Q=>∃ (l:Addr) (xs:List V) (v:V),x=.ref l∧vs=[v]∧H l=some (.lst xs)∧flatV v=true∧xs.all flatV=true∧Q (vn (xs.countP fun y=>eqV y v)) H
theorem countP_vals {k:V}:∀ {xs:List V} {us:List Value},Vals xs us→xs.all flatV=true→us.countP (eqU k)=xs.countP fun y=>eqV y k
 | _,_,.nil,_=>rfl
 | y::xs,u::us,.cons r t,f=>by
  rw [List.all_cons,Xv] at f
  rw [List.countP_cons,List.countP_cons,countP_vals t f.2,eqU_of r f.1]
theorem mt_countV:MtM X "list.count" rCountV:=by
 intro pins s σ H x vs v us Q I rx rv h
 obtain ⟨l,xs,k,rfl,rfl,hH,fk,fl, q⟩:=h
 cases rx
 obtain ⟨u,rfl, ru⟩:=rv.one
 obtain ⟨z,its,n,r,hl, e⟩:=I.lstM hH
 refine call_meets PySem.F.slot_list_count ⟨_,e, rfl⟩ PySem.F.entry_list_count (PySem.F.args_list_count_2 _ _) (SeqAt.list_countAt l its.toArray n none #[] u (eqU k)) ⟨e,fun y hy=>mem_eqAt (x:=k) ru fk r fl y (by simpa using hy), ?_⟩
 rw [show its.toArray.toList=its from rfl,countP_vals r fl]
 exact ⟨vn (xs.countP fun y=>eqV y k),H,I.tok _,⟨_,rfl⟩, q⟩
end
theorem comp_fil {J:It} {js:List (Option Nat)} {σ:St} {H1:Hp} {R:Hp→Prop} {D:Addr} {g:TG} {tc:TT} {te:TE} (n:Nat) (fs:Nat→V) (p:Nat→Bool) (hD:H1 D=none) (hn:n≤100000)
  (go:∀ i H',i<n→Same H1 H'→J.go i H') (stop:∀ H',Same H1 H'→J.stop n H')
  (hs:∀ i H' x H'' (kt:V→Hp→Prop) (kf:Hp→Prop),i<n→Same H1 H'→J.yld i H' x H''→(p i=true→∀ H4,Same H' H4→kt (fs i) H4)→(p i=false→∀ H4,Same H' H4→kf H4) →
   g x (inner js σ) H'' fun σ2 H2=>Fills (inner js σ) σ2∧tc σ2 H2 fun b H3=>if b=true then te σ2 H3 kt else kf H3)
  (hd:∀ H',Same H1 H'→H' D=some (.lst (((List.range n).filter p).map fs))→R H') :
  ∃ W:Nat→Nat→List V→Hp→Prop,(∃ m,W 0 m [] (upd H1 D (.lst []))) ∧
   ∀ i m ys H,W i m ys H→(J.stop i H∧R H)∨(J.go i H∧∃ N:List V→Hp→Prop,(∀ ys' H',N ys' H'→∃ m',m' < m∧W (i+1) m' ys' H')∧∀ x H',J.yld i H x H'→g x (inner js σ) H' fun σ2 H2=>Fills (inner js σ) σ2∧tc σ2 H2 fun b H3 =>
    if b=true then te σ2 H3 fun y H4=>H4 D=some (.lst ys)∧ys.length<sizeLine∧N (ys++[y]) (upd H4 D (.lst (ys++[y]))) else N ys H3):=by
 refine comp_by n (fun i ys H'=>ys=((List.range i).filter p).map fs∧Same H1 H'∧H' D=some (.lst ys)) ⟨rfl,same_new hD _, upd_same⟩ ?_ ?_
 ·rintro i ys H' hi ⟨rfl,g1, eD⟩
  have en:((List.range (i+1)).filter p).map fs=((List.range i).filter p).map fs++(if p i=true then [fs i] else []):=by
   rw [List.range_succ,List.filter_append,Zt]
   congr 1
   by_cases h:p i=true
   ·simp [h]
   ·simp [h]
  refine ⟨go i H' hi g1,fun x H'' hy=>hs i H' x H'' _ _ hi g1 hy (fun hp H4 g4=>⟨g4 _ _ eD,?_,?_,(g1.trans g4).fresh hD _, upd_same⟩) (fun hp H4 g4=>⟨?_,g1.trans g4, g4 _ _ eD⟩)⟩
  ·rw [Zq]
   refine Ys (List.length_filter_le _ _) ?_
   rw [Yj]
   exact Yt hi (Yr hn (by decide))
  ·rw [en,if_pos hp]
  ·rw [en,if_neg (by rw [hp];exact Bool.false_ne_true),List.append_nil]
 ·rintro ys H' ⟨rfl,g1, eD⟩
  exact ⟨stop H' g1,hd H' g1 eD⟩
end L2
namespace L2
open PySem PySem.Spec PyProof.Rows GR
def dP (p:Pt):PyData:=.tuple [.int p.1,.int p.2]
def dS (s:Pt×Pt):PyData:=.tuple [dP s.1,dP s.2]
abbrev PtA (H:Hp) (a:Addr) (p:Pt):Prop:=H a=some (.tup [.int p.1,.int p.2])
def StA (H:Hp) (a:Addr) (s:Pt×Pt):Prop:=∃ x y,H a=some (.tup [.ref x,.ref y])∧PtA H x s.1∧PtA H y s.2
def SsI (H:Hp) (a:Addr) (S:Sts):Prop:=∃ tr:List Addr,H a=some (.lst (tr.map V.ref))∧tr.length=S.length∧∀ (i:Nat) s,S[i]?=some s→∃ r,tr[i]?=some r∧StA H r s
theorem StA.same {H H':Hp} {a:Addr} {s:Pt×Pt} (h:StA H a s) (g:Same H H'):StA H' a s:=let ⟨x,y,h1,h2,h3⟩:=h;⟨x,y,g _ _ h1,g _ _ h2, g _ _ h3⟩
theorem SsI.same {H H':Hp} {a:Addr} {S:Sts} (h:SsI H a S) (g:Same H H'):SsI H' a S:=let ⟨tr,h1,h2,h3⟩:=h;⟨tr,g _ _ h1,h2, fun i s e=>let ⟨r,q1,q2⟩:=h3 i s e;⟨r,q1, q2.same g⟩⟩
theorem bd_pt {K:PySem.W.Frag} {H:Hp} {a:Addr} {p:Pt} (h:PtA H a p):Bd K H (.ref a) (dP p):=.tup (SqT.of h) (.cons (.int _) (.cons (.int _) .nil))
theorem bd_st {K:PySem.W.Frag} {H:Hp} {a:Addr} {s:Pt×Pt} (h:StA H a s):Bd K H (.ref a) (dS s):=let ⟨_,_,h1,h2,h3⟩:=h;.tup (SqT.of h1) (.cons (bd_pt h2) (.cons (bd_pt h3) .nil))
theorem bds_by {K:PySem.W.Frag} {H:Hp} {α:Type} {d:α→PyData}:∀ (tr:List Addr) (S:List α),tr.length=S.length→(∀ (i:Nat) s,S[i]?=some s→∃ r,tr[i]?=some r∧Bd K H (.ref r) (d s))→Bds K H (tr.map V.ref) (S.map d)
 | [],[],_,_=>.nil
 | a::tr,s::S,hl,h=>by
  obtain ⟨r,h1, h2⟩:=h 0 s rfl
  cases h1
  exact .cons h2 (bds_by tr S (by simpa using hl) fun i t e=>h (i+1) t (by simpa using e))
theorem sm_pt (p:Pt):smD (dP p):=⟨rfl,by simp [dP,PyData.depth,PyData.depthAll]⟩
theorem sm_st (s:Pt×Pt):smD (dS s):=⟨rfl,by simp [dS,dP,PyData.depth,PyData.depthAll]⟩
theorem eqv_pt (p q:Pt):PyData.eqv (dP p) (dP q)=decide (p=q):=by
 unfold dP
 simp only [PyData.eqv,PyData.eqvAll]
 rw [Xw]
 simp [Prod.ext_iff]
theorem eqv_st (s t:Pt×Pt):PyData.eqv (dS s) (dS t)=decide (s=t):=by
 unfold dS
 rw [Xw]
 simp only [PyData.eqv,PyData.eqvAll,eqv_pt]
 simp [Prod.ext_iff]
theorem any_pt (ps:List Pt) (p:Pt):((ps.map dP).any fun d=>PyData.eqv d (dP p))=decide (p∈ps):=by
 rw [Xw,List.any_eq_true,decide_eq_true_iff]
 constructor
 ·rintro ⟨d,hd, e⟩
  obtain ⟨q,hq, rfl⟩:=Zh.mp hd
  rw [eqv_pt] at e
  exact of_decide_eq_true e▸hq
 ·intro h
  exact ⟨_,Yf h, by rw [eqv_pt];exact decide_eq_true rfl⟩
theorem any_st (S:Sts) (s:Pt×Pt):((S.map dS).any fun d=>PyData.eqv d (dS s))=decide (s∈S):=by
 rw [Xw,List.any_eq_true,decide_eq_true_iff]
 constructor
 ·rintro ⟨d,hd, e⟩
  obtain ⟨q,hq, rfl⟩:=Zh.mp hd
  rw [eqv_st] at e
  exact of_decide_eq_true e▸hq
 ·intro h
  exact ⟨_,Yf h, by rw [eqv_st];exact decide_eq_true rfl⟩
theorem SsI.bds {K:PySem.W.Frag} {H:Hp} {S:Sts} {tr:List Addr} (h2:tr.length=S.length) (h3:∀ (i:Nat) s,S[i]?=some s→∃ r,tr[i]?=some r∧StA H r s):Bds K H (tr.map V.ref) (S.map dS):=bds_by tr S h2 fun i s e=>let ⟨r,q1,q2⟩:=h3 i s e;⟨r,q1, bd_st q2⟩
theorem TsI.bds {K:PySem.W.Frag} {H:Hp} {S:List Pt} {tr:List Addr} (h2:tr.length=S.length) (h3:∀ (i:Nat) s,S[i]?=some s→∃ r,tr[i]?=some r∧H r=some (.tup [.int s.1,.int s.2])):Bds K H (tr.map V.ref) (S.map dP):=bds_by tr S h2 fun i s e=>let ⟨r,q1,q2⟩:=h3 i s e;⟨r,q1, bd_pt q2⟩
theorem SsI.nth {H:Hp} {S:Sts} {tr:List Addr} (h1:tr.length=S.length) (h2:∀ (i:Nat) s,S[i]?=some s→∃ r,tr[i]?=some r∧StA H r s) {i:Nat} {x:V} (hx:(tr.map V.ref)[i]?=some x):∃ s r,S[i]?=some s∧x=.ref r∧StA H r s:=by
 rw [Zk] at hx
 cases e:S[i]? with
 | none =>
  rw [Zr (by rw [h1];exact List.getElem?_eq_none_iff.mp e)] at hx;cases hx
 | some s =>
  obtain ⟨r,q1, q2⟩:=h2 i s e
  rw [q1] at hx
  exact ⟨s,r,rfl,(Option.some.inj hx).symm, q2⟩
theorem pts_push {H:Hp} {D r:Addr} {ps:List Pt} {tr:List Addr} {p:Pt} (h1:H D=some (.lst (tr.map V.ref))) (h2:tr.length=ps.length) (h3:∀ (i:Nat) s,ps[i]?=some s→∃ r,tr[i]?=some r∧PtA H r s) (hr:PtA H r p):TsI (upd H D (.lst (tr.map V.ref++[.ref r]))) D (ps++[p]):=by
 have ne:∀ {b:Addr} {l:List V},H b=some (.tup l)→b≠D:=fun hb z=>by rw [z,h1] at hb;cases hb
 refine ⟨tr++[r],by rw [Zt];exact upd_same,by simp [h2], fun i s e=>?_⟩
 by_cases q:i<ps.length
 ·rw [Zx q] at e
  obtain ⟨x,e1, e2⟩:=h3 i s e
  exact ⟨x,by rw [Zx (by omega)];exact e1, by rw [upd_ne (ne e2)];exact e2⟩
 ·have hi:=(Zj.mp e).1
  simp at hi
  have:i=ps.length:=by omega
  subst this
  rw [Zy (Nat.le_refl _),Nat.sub_self] at e
  cases e
  exact ⟨r,by rw [Zy (by omega),h2,Nat.sub_self];rfl, by rw [upd_ne (ne hr)];exact hr⟩
theorem kop_inD {X:Cx} {K:PySem.W.Frag} (hK:X.K=K) (hu:X.A.units+64<cLine):OpR X (compareOp .In) (rInD K false):=by subst hK;exact op_inD hu
theorem kmt_indexD {X:Cx} {K:PySem.W.Frag} (hK:X.K=K) (hu:X.A.units+64<cLine):MtM X "list.index" (rIndexD K):=by subst hK;exact mt_indexD hu
theorem at_dx {i:Nat} (h:i<4):atI [V.int 1,V.int 0,V.int (-1),V.int 0] (0+(i:Int))=some (.int (dx i)):=by
 match i,h with
 | 0,_=>rfl
 | 1,_=>rfl
 | 2,_=>rfl
 | 3,_=>rfl
theorem at_dy {i:Nat} (h:i<4):atI [V.int 0,V.int 1,V.int 0,V.int (-1)] (0+(i:Int))=some (.int (dy i)):=by
 match i,h with
 | 0,_=>rfl
 | 1,_=>rfl
 | 2,_=>rfl
 | 3,_=>rfl
end L2
namespace K76
open PySem L2 PyProof.Rows TX GR
variable {P:Program} {w:World} {K:PySem.W.Frag} {mg:Str→Option Value} {base:Heap} {t:Adr}
def spBeside:Sp:=fun vs H Q _=>∃ (sa pa:Addr) (S:Sts) (p:Pt),vs=[.ref sa,.ref pa]∧SsI H sa S∧PtA H pa p∧∀ (D:Addr) (H':Hp),Same H H'→H D=none→TsI H' D (nb S p)→Q (.ref D) H'
theorem ok_beside (T:Txt K mg t):FnOk P w K mg base CX0 1 t.a_l_beside t.d_l_beside ["_law_steps_here","_law_point"] spBeside:=by
 refine T.F_l_beside.ok sc_l_beside (fun vs H Q E h=>?_) (fun cdv A outer s H vs Q E hr h=>?_)
 ·obtain ⟨sa,pa,S,p,rfl,_⟩:=h;rfl
 obtain ⟨sa,pa,S,p,rfl,hS,hp,q⟩:=h
 have nd:=sc_l_beside.nd
 refine (xWP _ (pss_cons (ps_set (i:=2) nd rfl (Or.inl rfl) (pe_lst pa_nil))
  (pss_cons (ps_for PassesOwn.never rfl (pi_range1 rfl T.z_range (pa_cons pe_int pa_nil)) (pg_name (i:=3) nd rfl (Or.inl rfl)) (pss_cons (ps_set (i:=4) nd rfl (Or.inl rfl) (pe_tup (pa_cons (pe_op op_add (pe_ix ix_tup (pv 1) pe_int (fun _ _=>rfl)) (pe_ix ix_list (pe_lst (pa_cons pe_int (pa_cons pe_int (pa_cons (pe_un un_neg pe_int) (pa_cons pe_int pa_nil))))) (pv 3) (fun _ _=>rfl))) (pa_cons (pe_op op_add (pe_ix ix_tup (pv 1) pe_int (fun _ _=>rfl)) (pe_ix ix_list (pe_lst (pa_cons pe_int (pa_cons pe_int (pa_cons pe_int (pa_cons (pe_un un_neg pe_int) pa_nil))))) (pv 3) (fun _ _=>rfl))) pa_nil))))
  (pss_one (ps_if (PW.pt (pw_or (pt_cmpR (op_inD hr.units) (pe_tup (pa_cons (pv 1) (pa_cons (pv 4) pa_nil))) (pv 0) rfl) (pw_or1 (pt_cmpR (op_inD hr.units) (pe_tup (pa_cons (pv 4) (pa_cons (pv 1) pa_nil))) (pv 0) rfl)))) (pss_one (ps_expr (pe_bm PySem.F.plainAttrs_list PySem.F.slot_list_append PySem.F.type_list_append mt_append (pv 2) (pa_cons (pv 4) pa_nil)))) pss_nil))))
  (pss_one (ps_ret (pv 2))))) ?_)
 refine ⟨(by show 0≤sizeLine;decide),fun D hD=>?_⟩
 have b1:=same_new hD (.lst [])
 let Pv1:Nat→L2.St→L2.Hp→Prop:=fun i σ H'=>(∃ v3 v4,σ=[some (.ref sa),some (.ref pa),some (.ref D),v3,v4])∧Same H H'∧TsI H' D (((List.range i).map (dr p)).filter fun q=>decide (Adj S p q))
 refine (xWPPP 4 rfl (by decide) (by decide) (for_range (lo:=0) (n:=4) Pv1 (xPP (xWW _ _ rfl) b1 (xWPP ([]) upd_same rfl (fun i s e=>by simp at e))) ?_ ?_))
 ·rintro i σ H1 hi ⟨⟨v3,v4, rfl⟩,g1, ⟨tr,f1,f2, f3⟩⟩
  have i4:i<4:=hi
  have hS1:=hS.same g1
  have hp1:=g1 _ _ hp
  refine (xWPWWWWPP _ rfl pa _ _ _ rfl rfl (xPPWPP (SqT.of hp1) rfl _ rfl (by show 4≤sizeLine;decide) (fun l1 hl1=>?_)))
  have k1:=same_new hl1 (.lst [V.int 1,V.int 0,V.int (-1),V.int 0])
  refine (xWPWWWWPP _ rfl l1 _ _ _ rfl rfl (xPPWWPPWP (SqL.of upd_same) (at_dx i4) _ _ rfl rfl _ rfl (xWWWWPPPP pa _ _ _ rfl rfl (SqT.of (k1 _ _ hp1)) rfl (xWPP _ rfl (by show 4≤sizeLine;decide) (fun l2 hl2=>?_)))))
  have k2:=same_new hl2 (.lst [V.int 0,V.int 1,V.int 0,V.int (-1)])
  refine (xWPWWWWPP _ rfl l2 _ _ _ rfl rfl (xPPWWPPP (SqL.of upd_same) (at_dy i4) _ _ rfl rfl (by show 2≤sizeLine;decide) (fun oa hoa=>?_)))
  have k3:=same_new hoa (.tup [.int (dr p i).1,.int (dr p i).2])
  have k13:=k1.trans (k2.trans k3)
  show gName 4 (V.ref oa) _ (upd _ oa (.tup [.int (dr p i).1,.int (dr p i).2])) _
  have ho:PtA (upd (upd (upd H1 l1 (.lst [V.int 1,V.int 0,V.int (-1),V.int 0])) l2 (.lst [V.int 0,V.int 1,V.int 0,V.int (-1)])) oa (.tup [.int (dr p i).1,.int (dr p i).2])) oa (dr p i):=upd_same
  generalize upd (upd (upd H1 l1 (.lst [V.int 1,V.int 0,V.int (-1),V.int 0])) l2 (.lst [V.int 0,V.int 1,V.int 0,V.int (-1)])) oa (.tup [.int (dr p i).1,.int (dr p i).2])=H2 at k13 ho ⊢
  have hp2:=k13 _ _ hp1
  have look:∀ {a b:Addr} {x y:Pt} {H3:Hp} (ta:Addr),Same H2 H3→PtA H3 a x→PtA H3 b y→H3 ta=none→∃ xs dx ds,SqL K (upd H3 ta (.tup [.ref a,.ref b])) sa xs∧Bd K (upd H3 ta (.tup [.ref a,.ref b])) (.ref ta) dx∧Bds K (upd H3 ta (.tup [.ref a,.ref b])) xs ds∧smD dx∧(∀ d∈ds,smD d)∧(ds.any fun d=>PyData.eqv d dx)=decide ((x,y)∈S):=fun {a b x y H3} ta g ha hb hta=>by
   have k:=same_new hta (.tup [.ref a,.ref b])
   obtain ⟨sr,s1,s2,s3⟩:=(hS1.same (k13.trans (g.trans k)))
   exact (xWWWPPPPP _ (dS (x,y)) (S.map dS) (SqL.of s1) (bd_st (xWWPP a b upd_same (k _ _ ha) (k _ _ hb))) (SsI.bds s2 s3) (sm_st _) (fun d hd=>by obtain ⟨z,_,rfl⟩:=Zh.mp hd;exact sm_st z) (any_st S (x,y)))
  have yes:∀ {H3:Hp},Same H2 H3→Adj S p (dr p i)→TsI (upd H3 D (.lst (tr.map V.ref++[.ref oa]))) D (((List.range (i+1)).map (dr p)).filter fun q=>decide (Adj S p q)):=fun {H3} g h=>by
   rw [List.range_succ,Zt,List.filter_append,List.map_cons,List.map_nil,List.filter_cons,if_pos (decide_eq_true h),List.filter_nil]
   exact pts_push (g _ _ (k13 _ _ f1)) f2 (fun j s e=>let ⟨r,e1,e2⟩:=f3 j s e;(xWP r e1 (g _ _ (k13 _ _ e2)))) (g _ _ ho)
  have no:∀ {H3:Hp},Same H2 H3→¬Adj S p (dr p i)→TsI H3 D (((List.range (i+1)).map (dr p)).filter fun q=>decide (Adj S p q)):=fun {H3} g h=>by
   rw [List.range_succ,Zt,List.filter_append,List.map_cons,List.map_nil,List.filter_cons,if_neg (by rw [decide_eq_true_iff];exact h),List.filter_nil,List.append_nil]
   exact (xWPP tr (g _ _ (k13 _ _ f1)) f2 (fun j s e=>let ⟨r,e1,e2⟩:=f3 j s e;(xWP r e1 (g _ _ (k13 _ _ e2)))))
  have sz:(tr.map V.ref).length<sizeLine:=by
   rw [Zq,f2]
   refine Ys (List.length_filter_le _ _) ?_
   rw [Zq,Yj]
   exact Yt i4 (by decide)
  refine (xWPWPP _ rfl _ rfl (by show 2≤sizeLine;decide) (fun t1 ht1=>?_))
  have m1:=same_new ht1 (.tup [.ref pa,.ref oa])
  obtain ⟨xs1,dx1,ds1,a1,a2,a3,a4,a5,a6⟩:=look t1 (Same.refl H2) hp2 ho ht1
  refine (xWPWWWWPP _ rfl sa xs1 dx1 ds1 rfl a1 (xPPPPWP a2 a3 a4 a5 _ rfl ?_))
  show if (ds1.any fun d=>PyData.eqv d dx1)=true then _ else _
  rw [a6]
  refine ite2 (fun c=>?_) (fun c=>?_)
  ·have hA:Adj S p (dr p i):=.inl (of_decide_eq_true c)
   refine iteT (xWPPWP _ rfl (.inl ⟨rfl,_, SqL.of (m1 _ _ (k13 _ _ f1))⟩) _ rfl (xWWWPPPPP D _ _ rfl rfl (m1 _ _ (k13 _ _ f1)) sz (xWW _ _ rfl) ⟨((g1.trans k13).trans m1).fresh hD _, yes m1 hA⟩))
  ·refine (xWPWPP _ rfl _ rfl (by show 2≤sizeLine;decide) (fun t2 ht2=>?_))
   have m2:=same_new ht2 (.tup [.ref oa,.ref pa])
   have m12:=m1.trans m2
   obtain ⟨xs2,dx2,ds2,c1,c2,c3,c4,c5,c6⟩:=look t2 m1 (m1 _ _ ho) (m1 _ _ hp2) ht2
   refine (xWPWWWWPP _ rfl sa xs2 dx2 ds2 rfl c1 (xPPPPWP c2 c3 c4 c5 _ rfl ?_))
   show if (ds2.any fun d=>PyData.eqv d dx2)=true then _ else _
   rw [c6]
   refine ite2 (fun e=>?_) (fun e=>?_)
   ·have hA:Adj S p (dr p i):=.inr (of_decide_eq_true e)
    exact (xWPPWP _ rfl (.inl ⟨rfl,_, SqL.of (m12 _ _ (k13 _ _ f1))⟩) _ rfl (xWWWPPPPP D _ _ rfl rfl (m12 _ _ (k13 _ _ f1)) sz (xWW _ _ rfl) ⟨((g1.trans k13).trans m12).fresh hD _, yes m12 hA⟩))
   ·have hA:¬Adj S p (dr p i):=fun z=>z.elim (fun z=>c (decide_eq_true z)) fun z=>e (decide_eq_true z)
    exact (xPP (xWW _ _ rfl) ((g1.trans k13).trans m12) (no m12 hA))
 ·rintro σ H1 ⟨⟨v3,v4, rfl⟩,g1, f⟩
  exact (xWP _ rfl (q D _ g1 hD f))
end K76
namespace L2
open PySem PySem.Spec PyProof.Rows GR
theorem sts_push {H:Hp} {D r:Addr} {S:Sts} {p:Pt×Pt} {xs:List V} (h:SsI H D S) (hD:H D=some (.lst xs)) (hr:StA H r p):SsI (upd H D (.lst (xs++[.ref r]))) D (S++[p]):=by
 obtain ⟨tr,h1,h2, h3⟩:=h
 rw [hD] at h1
 cases h1
 have ne:∀ {b:Addr} {l:List V},H b=some (.tup l)→b≠D:=fun hb z=>by rw [z,hD] at hb;cases hb
 have kp:∀ {a:Addr} {s:Pt×Pt},StA H a s→StA (upd H D (.lst (tr.map V.ref++[.ref r]))) a s:=fun ⟨x,y,q1,q2,q3⟩=>⟨x,y,by rw [upd_ne (ne q1)];exact q1,by rw [PtA,upd_ne (ne q2)];exact q2, by rw [PtA,upd_ne (ne q3)];exact q3⟩
 refine ⟨tr++[r],by rw [Zt];exact upd_same,by simp [h2], fun i s e=>?_⟩
 by_cases q:i<S.length
 ·rw [Zx q] at e
  obtain ⟨x,e1, e2⟩:=h3 i s e
  exact ⟨x,by rw [Zx (by omega)];exact e1, kp e2⟩
 ·have hi:=(Zj.mp e).1
  simp at hi
  have:i=S.length:=by omega
  subst this
  rw [Zy (Nat.le_refl _),Nat.sub_self] at e
  cases e
  exact ⟨r,by rw [Zy (by omega),h2,Nat.sub_self];rfl, kp hr⟩
theorem SsI.other {H:Hp} {a D:Addr} {S:Sts} {xs:List V} (h:SsI H a S) (hD:H D=some (.lst xs)) (ne:a≠D) (u:HO):SsI (upd H D u) a S:=by
 obtain ⟨tr,h1,h2, h3⟩:=h
 have n2:∀ {b:Addr} {l:List V},H b=some (.tup l)→b≠D:=fun hb z=>by rw [z,hD] at hb;cases hb
 exact ⟨tr,by rw [upd_ne ne];exact h1,h2, fun i s e=>let ⟨r,q,x,y,q1,q2,q3⟩:=h3 i s e;⟨r,q,x,y,by rw [upd_ne (n2 q1)];exact q1,by rw [PtA,upd_ne (n2 q2)];exact q2, by rw [PtA,upd_ne (n2 q3)];exact q3⟩⟩
theorem SsI.lst {H:Hp} {a:Addr} {S:Sts} (h:SsI H a S):∃ xs:List V,H a=some (.lst xs)∧xs.length=S.length:=let ⟨tr,h1,h2,_⟩:=h;⟨_,h1, by rw [Zq,h2]⟩
end L2
namespace GR
def Ins (a b:Nat) (p:Pt):Prop:=(0≤p.1∧p.1<a)∧0≤p.2∧p.2<b
def Okst (a b:Nat) (s:Pt×Pt):Prop:=(s.2=dr s.1 0∨s.2=dr s.1 1)∧Ins a b s.1∧Ins a b s.2
end GR
namespace K76
open PySem L2 PyProof.Rows TX GR
variable {P:Program} {w:World} {K:PySem.W.Frag} {mg:Str→Option Value} {base:Heap} {t:Adr}
def spSteps:Sp:=fun vs H Q _=>∃ (za:Addr) (a b:Nat) (bits:Int),vs=[.ref za,.int bits]∧H za=some (.tup [vn a,vn b])∧0<a∧0<b∧a≤5∧b≤5∧(1<a∨1<b)∧∀ (D:Addr) (S:Sts) (H':Hp),Same H H'→SsI H' D S→S≠[]→S.length≤60→(∀ s∈S,Okst a b s)→Q (.ref D) H'
theorem ok_steps (T:Txt K mg t):FnOk P w K mg base CX0 1 t.a_l_steps t.d_l_steps ["_law_size","_law_bits"] spSteps:=by
 refine T.F_l_steps.ok sc_l_steps (fun vs H Q E h=>?_) (fun cdv A outer s H vs Q E hr h=>?_)
 ·obtain ⟨za,a,b,bits,rfl,_⟩:=h;rfl
 obtain ⟨za,a,b,bits,rfl,hz,ha,hb,ha5,hb5,hab,q⟩:=h
 have nd:=sc_l_steps.nd
 refine (xWP _ (pss_cons (ps_set (i:=2) nd rfl (Or.inl rfl) (pe_lst pa_nil))
  (pss_cons (ps_set (i:=3) nd rfl (Or.inl rfl) (pe_lst pa_nil))
  (pss_cons (ps_for PassesOwn.never rfl (pi_range1 rfl T.z_range (pa_cons (pe_ix ix_tup (pv 0) pe_int (fun _ _=>rfl)) pa_nil)) (pg_name (i:=4) nd rfl (Or.inl rfl)) (pss_one (ps_for PassesOwn.never rfl (pi_range1 rfl T.z_range (pa_cons (pe_ix ix_tup (pv 0) pe_int (fun _ _=>rfl)) pa_nil)) (pg_name (i:=5) nd rfl (Or.inl rfl)) (pss_one (ps_for PassesOwn.never rfl (pi_list (pe_lst (pa_cons (pe_tup (pa_cons (pe_op op_add (pv 5) pe_int) (pa_cons (pv 4) pa_nil))) (pa_cons (pe_tup (pa_cons (pv 5) (pa_cons (pe_op op_add (pv 4) pe_int) pa_nil))) pa_nil)))) (pg_name (i:=6) nd rfl (Or.inl rfl)) (pss_one (ps_if (PW.pt (pw_and (pt_cmpR op_lt (pe_ix ix_tup (pv 6) pe_int (fun _ _=>rfl)) (pe_ix ix_tup (pv 0) pe_int (fun _ _=>rfl)) (nomark _)) (pw_and1 (pt_cmpR op_lt (pe_ix ix_tup (pv 6) pe_int (fun _ _=>rfl)) (pe_ix ix_tup (pv 0) pe_int (fun _ _=>rfl)) (nomark _))))) (pss_cons (ps_expr (pe_bm PySem.F.plainAttrs_list PySem.F.slot_list_append PySem.F.type_list_append mt_append (pv 3) (pa_cons (pe_tup (pa_cons (pe_tup (pa_cons (pv 5) (pa_cons (pv 4) pa_nil))) (pa_cons (pv 6) pa_nil))) pa_nil)))
  (pss_cons (ps_if (pt_cmpR op_eq (pe_op op_mod (pv 1) pe_int) pe_int (nomark _)) (pss_one (ps_expr (pe_bm PySem.F.plainAttrs_list PySem.F.slot_list_append PySem.F.type_list_append mt_append (pv 2) (pa_cons (pe_tup (pa_cons (pe_tup (pa_cons (pv 5) (pa_cons (pv 4) pa_nil))) (pa_cons (pv 6) pa_nil))) pa_nil)))) pss_nil)
  (pss_one (ps_set (i:=1) nd rfl (Or.inl rfl) (pe_op op_fdiv (pv 1) pe_int))))) pss_nil)))))))
  (pss_cons (ps_if (pt_cmpR (op_eqD hr.units) (pv 2) (pe_lst pa_nil) (nomark _)) (pss_one (ps_ret (pe_slice sl_list (pv 3) po_none (po_some pe_int)))) pss_nil)
  (pss_one (ps_ret (pv 2))))))) ?_)
 refine ⟨(by show 0≤sizeLine;decide),fun fa hfa=>?_⟩
 have b1:=same_new hfa (.lst [])
 refine ⟨(by show 0≤sizeLine;decide),fun la hla=>?_⟩
 have b2:=same_new hla (.lst [])
 have nfl:fa≠la:=fun z=>by rw [z] at hla;rw [←z,upd_same] at hla;cases hla
 have hla0:H la=none:=b1.free hla
 let Inv:Nat→(Sts→Prop)→Hp→Prop:=fun n E H'=>Same H H'∧∃ F L,SsI H' fa F∧SsI H' la L∧F.length≤n∧L.length≤n∧(∀ s∈F,Okst a b s)∧(∀ s∈L,Okst a b s)∧E L
 have zS:∀ {H':Hp},Same H H'→SqT K H' za [vn a,vn b]:=fun g=>SqT.of (g _ _ hz)
 dsimp only [gName]
 refine viaN (fun σ' H'=>(∃ v1 v4 v5 v6,σ'=[some (.ref za),some (.int v1),some (.ref fa),some (.ref la),v4,v5,v6])∧Inv 50 (fun L=>L≠[]) H') (fun N n1=>?_) ?_
 ·refine (xWPWWWWPP _ rfl za _ 1 (vn b) rfl rfl (xPPWPPP (zS (b1.trans b2)) rfl (b:Int) rfl (by omega) (by omega) (for_range (lo:=0) (n:=((b:Int)-0).toNat) (fun i σ H'=>(∃ v1 v4 v5 v6,σ=[some (.ref za),some (.int v1),some (.ref fa),some (.ref la),v4,v5,v6])∧Inv (10*i) (fun L=>1≤i→L≠[]) H') (xPPWWPPPP (xWWWW _ _ _ _ rfl) (b1.trans b2) ([]) ([]) (xWPP ([]) (b2 _ _ upd_same) rfl (fun i s e=>by simp at e)) (xWPP ([]) upd_same rfl (fun i s e=>by simp at e)) (Nat.zero_le _) (Nat.zero_le _) (xPP (fun s hs=>by simp at hs) (fun s hs=>by simp at hs) (fun z=>by omega))) ?_ ?_)))
  ·rintro i σ H1 hi ⟨⟨v1,v4,v5,v6, rfl⟩,g1,F,L,hF,hL,lF,lL,oF,oL, eL⟩
   have hib:i<b:=by omega
   refine (xWPWWWWPP _ rfl za _ 0 (vn a) rfl rfl (xPPWPPP (zS g1) rfl (a:Int) rfl (by omega) (by omega) (for_range (lo:=0) (n:=((a:Int)-0).toNat) (fun j σ H'=>(∃ v1 v5 v6,σ=[some (.ref za),some (.int v1),some (.ref fa),some (.ref la),some (.int (0+(i:Int))),v5,v6])∧Inv (10*i+2*j) (fun L=>1≤i∨1≤j→L≠[]) H') (xPPWWPPPP (xWWW _ _ _ rfl) g1 F L hF hL (by omega) (by omega) (xPP oF oL (fun z=>eL (by omega)))) ?_ ?_)))
   ·rintro j σ H2 hj ⟨⟨v1,v5,v6, rfl⟩,g2,F,L,hF,hL,lF,lL,oF,oL, eL⟩
    have hja:j<a:=by omega
    refine (xWPWWPPWP _ rfl _ _ rfl rfl _ rfl ⟨(by show 2≤sizeLine;decide), fun t1 ht1=>?_⟩)
    have k1:=same_new ht1 (.tup [.int (dr ((j:Int),(i:Int)) 0).1,.int (dr ((j:Int),(i:Int)) 0).2])
    have e1:HO.tup [V.int (0+(j:Int)+1),V.int (0+(i:Int))]=.tup [.int (dr ((j:Int),(i:Int)) 0).1,.int (dr ((j:Int),(i:Int)) 0).2]:=by
     show _=HO.tup [V.int ((j:Int)+1),V.int ((i:Int)+0)]
     rw [Int.zero_add,Int.zero_add,Int.add_zero]
    have e2:HO.tup [V.int (0+(j:Int)),V.int (0+(i:Int)+1)]=.tup [.int (dr ((j:Int),(i:Int)) 1).1,.int (dr ((j:Int),(i:Int)) 1).2]:=by
     show _=HO.tup [V.int ((j:Int)+0),V.int ((i:Int)+1)]
     rw [Int.zero_add,Int.zero_add,Int.add_zero]
    have e3:HO.tup [V.int (0+(j:Int)),V.int (0+(i:Int))]=.tup [.int (j:Int),.int (i:Int)]:=by rw [Int.zero_add,Int.zero_add]
    rw [e1]
    refine (xWPWPWWPP _ rfl _ rfl _ _ rfl rfl ⟨(by show 2≤sizeLine;decide), fun t2 ht2=>?_⟩)
    rw [e2]
    have k2:=same_new ht2 (.tup [.int (dr ((j:Int),(i:Int)) 1).1,.int (dr ((j:Int),(i:Int)) 1).2])
    refine ⟨(by show 2≤sizeLine;decide),fun l hl=>?_⟩
    have k3:=same_new hl (.lst [.ref t1,.ref t2])
    have k13:=k1.trans (k2.trans k3)
    have p1:=k3 _ _ (k2 _ _ (upd_same (H:=H2) (a:=t1) (o:=.tup [.int (dr ((j:Int),(i:Int)) 0).1,.int (dr ((j:Int),(i:Int)) 0).2])))
    have p2:=k3 _ _ (upd_same (H:=upd H2 t1 (.tup [.int (dr ((j:Int),(i:Int)) 0).1,.int (dr ((j:Int),(i:Int)) 0).2])) (a:=t2) (o:=.tup [.int (dr ((j:Int),(i:Int)) 1).1,.int (dr ((j:Int),(i:Int)) 1).2]))
    have p3:upd (upd (upd H2 t1 (.tup [.int (dr ((j:Int),(i:Int)) 0).1,.int (dr ((j:Int),(i:Int)) 0).2])) t2 (.tup [.int (dr ((j:Int),(i:Int)) 1).1,.int (dr ((j:Int),(i:Int)) 1).2])) l (.lst [.ref t1,.ref t2]) l=some (.lst [.ref t1,.ref t2]):=upd_same
    have hF3:=hF.same k13
    have hL3:=hL.same k13
    obtain ⟨fx,fx1,_⟩:=hF3.lst
    obtain ⟨lx,lx1,_⟩:=hL3.lst
    have nlf:l≠fa:=fun z=>by
     obtain ⟨ys,h1,_⟩:=(hF.same (k1.trans k2)).lst
     rw [z,h1] at hl;cases hl
    have nll:l≠la:=fun z=>by
     obtain ⟨ys,h1,_⟩:=(hL.same (k1.trans k2)).lst
     rw [z,h1] at hl;cases hl
    have g3:=g2.trans k13
    generalize upd (upd (upd H2 t1 (.tup [.int (dr ((j:Int),(i:Int)) 0).1,.int (dr ((j:Int),(i:Int)) 0).2])) t2 (.tup [.int (dr ((j:Int),(i:Int)) 1).1,.int (dr ((j:Int),(i:Int)) 1).2])) l (.lst [.ref t1,.ref t2])=H3 at p1 p2 p3 hF3 hL3 fx1 lx1 g3 k13 ⊢
    clear k1 k2 k3 ht1 ht2 hl e1 e2 k13
    refine (xWPP l rfl ⟨_,SqL.of p3⟩ (for_list (xs:=[.ref t1,.ref t2]) (fun k σ H'=>(∃ v1 v6,σ=[some (.ref za),some (.int v1),some (.ref fa),some (.ref la),some (.int (0+(i:Int))),some (.int (0+(j:Int))),v6])∧(H' l=some (.lst [.ref t1,.ref t2])∧PtA H' t1 (dr ((j:Int),(i:Int)) 0)∧PtA H' t2 (dr ((j:Int),(i:Int)) 1))∧Inv (10*i+2*j+k) (fun L=>(1≤i∨1≤j)∨(1≤k∧1<a)∨(2≤k∧1<b)→L≠[]) H') (xPPPWWPPP (xWW _ _ rfl) (xPP p3 p1 p2) g3 F L hF3 hL3 (by omega) (xPPP (by omega) oF oL (fun z=>eL (by omega)))) (fun _ _ _ _ ⟨_,e,_⟩=>SqL.of e.1) ?_ ?_))
    ·rintro k x σ H4 hx ⟨⟨v1,v6, rfl⟩,⟨r1,r2, r3⟩,g4,F,L,hF,hL,lF,lL,oF,oL, eL⟩
     have hk2:k<2:=by simpa using (Zj.mp hx).1
     obtain ⟨o,ho, rfl⟩:∃ o,PtA H4 o (dr ((j:Int),(i:Int)) k)∧x=.ref o:=by
      match k,hk2 with
      | 0,_=>cases hx;exact (xWP t1 r2 rfl)
      | 1,_=>cases hx;exact (xWP t2 r3 rfl)
     obtain ⟨fx,fx1,fx2⟩:=hF.lst
     obtain ⟨lx,lx1,lx2⟩:=hL.lst
     have bp:∀ (c d:Prop),c=d→c→d:=fun c d h=>h▸id
     refine (xWPWWWWPP _ rfl o _ 0 _ rfl rfl (xPPWP (SqT.of ho) rfl _ rfl (xWWWWPPPP za _ 0 (vn a) rfl rfl (zS g4) rfl (xWWPPWP _ _ rfl rfl _ rfl (ite2 (fun c1=>?_) (fun c1=>iteF ?_))))))
     ·have c1:(dr ((j:Int),(i:Int)) k).1<(a:Int):=of_decide_eq_true c1
      refine (xWPWWWWPP _ rfl o _ 1 _ rfl rfl (xPPWP (SqT.of ho) rfl _ rfl (xWWWWPPPP za _ 1 (vn b) rfl rfl (zS g4) rfl (xWWPPWP _ _ rfl rfl _ rfl (ite2 (fun c2=>?_) (fun c2=>?_))))))
      ·have c2:(dr ((j:Int),(i:Int)) k).2<(b:Int):=of_decide_eq_true c2
       have okS:Okst a b (((j:Int),(i:Int)),dr ((j:Int),(i:Int)) k):=by
        refine (xPPPP ?_ (xPP ⟨by show 0≤(j:Int);omega,by show (j:Int)<a;omega⟩ (by show 0≤(i:Int);omega) (by show (i:Int)<b;omega)) ⟨?_,c1⟩ ?_ c2)
        ·match k,hk2 with
         | 0,_=>exact .inl rfl
         | 1,_=>exact .inr rfl
        ·match k,hk2 with
         | 0,_=>show 0≤(j:Int)+1;omega
         | 1,_=>show 0≤(j:Int)+0;omega
        ·match k,hk2 with
         | 0,_=>show 0≤(i:Int)+0;omega
         | 1,_=>show 0≤(i:Int)+1;omega
       refine (xWPPWPWPP _ rfl (.inl ⟨rfl,_, SqL.of lx1⟩) _ rfl _ rfl (by show 2≤sizeLine;decide) (fun u1 hu1=>?_))
       rw [e3]
       have m1:=same_new hu1 (.tup [.int (j:Int),.int (i:Int)])
       refine (xWPP _ rfl (by show 2≤sizeLine;decide) (fun u2 hu2=>?_))
       have m2:=same_new hu2 (.tup [.ref u1,.ref o])
       have m12:=m1.trans m2
       have hu1':=m2 _ _ (upd_same (H:=H4) (a:=u1) (o:=.tup [.int (j:Int),.int (i:Int)]))
       have st1:StA (upd (upd H4 u1 (.tup [.int (j:Int),.int (i:Int)])) u2 (.tup [.ref u1,.ref o])) u2 (((j:Int),(i:Int)),dr ((j:Int),(i:Int)) k):=(xWWPP u1 o upd_same hu1' (m12 _ _ ho))
       generalize upd (upd H4 u1 (.tup [.int (j:Int),.int (i:Int)])) u2 (.tup [.ref u1,.ref o])=H5 at m12 st1 ⊢
       refine (xWWWPPPP la _ _ rfl rfl (m12 _ _ lx1) (by rw [lx2];exact Ys (by omega:L.length≤60) (by decide)) ?_)
       have hL5:=sts_push (hL.same m12) (m12 _ _ lx1) st1
       have hF5:=(hF.same m12).other (m12 _ _ lx1) nfl (.lst (lx++[.ref u2]))
       have kp:∀ {c:Addr} {u:HO},c≠la→H5 c=some u→upd H5 la (.lst (lx++[.ref u2])) c=some u:=fun hc e=>by rw [upd_ne hc];exact e
       have tn:∀ {c:Addr} {xs:List V},H5 c=some (.tup xs)→c≠la:=fun e z=>by rw [z,m12 _ _ lx1] at e;cases e
       have g5:=(g4.trans m12).fresh hla0 (.lst (lx++[.ref u2]))
       have q1:=kp nll (m12 _ _ r1)
       have q2:=kp (tn (m12 _ _ r2)) (m12 _ _ r2)
       have q3:=kp (tn (m12 _ _ r3)) (m12 _ _ r3)
       have q4:=kp (tn (m12 _ _ ho)) (m12 _ _ ho)
       have fx5:=kp nfl (m12 _ _ fx1)
       generalize upd H5 la (.lst (lx++[.ref u2]))=H6 at hL5 hF5 g5 q1 q2 q3 q4 fx5 ⊢
       have lL':(L++[(((j:Int),(i:Int)),dr ((j:Int),(i:Int)) k)]).length≤10*i+2*j+(k+1):=by simp;omega
       have oL':∀ s∈L++[(((j:Int),(i:Int)),dr ((j:Int),(i:Int)) k)],Okst a b s:=fun s hs=>by
        rcases Zf.mp hs with hs | hs
        ·exact oL s hs
        ·rw [Zb.mp hs];exact okS
       dsimp only
       refine viaN (fun σ' H'=>(∃ v1,σ'=[some (.ref za),some (.int v1),some (.ref fa),some (.ref la),some (.int (0+(i:Int))),some (.int (0+(j:Int))),some (.ref o)])∧(H' l=some (.lst [.ref t1,.ref t2])∧PtA H' t1 (dr ((j:Int),(i:Int)) 0)∧PtA H' t2 (dr ((j:Int),(i:Int)) 1))∧Inv (10*i+2*j+(k+1)) (fun L=>(1≤i∨1≤j)∨(1≤k+1∧1<a)∨(2≤k+1∧1<b)→L≠[]) H') (fun N n2=>?_) ?_
       ·refine (xWPWWPPPP _ rfl _ _ rfl rfl (by show (0:Int)<2;decide) rfl (xWP _ rfl (ite2 (fun _=>?_) (fun _=>?_))))
        ·refine (xWPPWPWPP _ rfl (.inl ⟨rfl,_, SqL.of fx5⟩) _ rfl _ rfl (by show 2≤sizeLine;decide) (fun w1 hw1=>?_))
         rw [e3]
         have s1:=same_new hw1 (.tup [.int (j:Int),.int (i:Int)])
         refine (xWPP _ rfl (by show 2≤sizeLine;decide) (fun w2 hw2=>?_))
         have s2:=same_new hw2 (.tup [.ref w1,.ref o])
         have s12:=s1.trans s2
         have hw1':=s2 _ _ (upd_same (H:=H6) (a:=w1) (o:=.tup [.int (j:Int),.int (i:Int)]))
         have st2:StA (upd (upd H6 w1 (.tup [.int (j:Int),.int (i:Int)])) w2 (.tup [.ref w1,.ref o])) w2 (((j:Int),(i:Int)),dr ((j:Int),(i:Int)) k):=(xWWPP w1 o upd_same hw1' (s12 _ _ q4))
         generalize upd (upd H6 w1 (.tup [.int (j:Int),.int (i:Int)])) w2 (.tup [.ref w1,.ref o])=H7 at s12 st2 ⊢
         have tn2:∀ {c:Addr} {xs:List V},H7 c=some (.tup xs)→c≠fa:=fun e z=>by rw [z,s12 _ _ fx5] at e;cases e
         obtain ⟨ly,ly1,_⟩:=hL5.lst
         refine (xWWWPPPP fa _ _ rfl rfl (s12 _ _ fx5) (by rw [fx2];exact Ys (by omega:F.length≤60) (by decide)) (n2 _ _ (xPPPWWPPP ⟨_,rfl⟩ (xPP (by rw [upd_ne nlf];exact s12 _ _ q1) (by rw [PtA,upd_ne (tn2 (s12 _ _ q2))];exact s12 _ _ q2) (by rw [PtA,upd_ne (tn2 (s12 _ _ q3))];exact s12 _ _ q3)) ((g5.trans s12).fresh hfa _) (F++[_]) _ (sts_push (hF5.same s12) (s12 _ _ fx5) st2) ((hL5.same s12).other (s12 _ _ fx5) nfl.symm _) (by simp;omega) (xPPP lL' (fun s hs=>?_) oL' (fun _=>by simp)))))
         rcases Zf.mp hs with hs | hs
         ·exact oF s hs
         ·rw [Zb.mp hs];exact okS
        ·exact n2 _ _ (xPPPWWPPP ⟨_,rfl⟩ (xPP q1 q2 q3) g5 F _ hF5 hL5 (by omega) (xPPP lL' oF oL' (fun _=>by simp)))
       ·rintro σ' H' ⟨⟨v1,rfl⟩,r', hI⟩
        exact (xWPWWPPPP _ rfl _ _ rfl rfl ⟨by decide,by decide⟩ (xWW _ _ rfl) ⟨r', hI⟩)
      ·have c2:¬(dr ((j:Int),(i:Int)) k).2<(b:Int):=fun z=>c2 (decide_eq_true z)
       refine (xPPPWWPPP (xWW _ _ rfl) (xPP r1 r2 r3) g4 F L hF hL (by omega) (xPPP (by omega) oF oL (fun z=>eL ?_)))
       match k,hk2 with
       | 0,_ =>
        have:¬((i:Int)+0<b):=c2
        omega
       | 1,_ =>
        have:¬((i:Int)+1<b):=c2
        omega
     ·have c1:¬(dr ((j:Int),(i:Int)) k).1<(a:Int):=fun z=>c1 (decide_eq_true z)
      refine (xPPPWWPPP (xWW _ _ rfl) (xPP r1 r2 r3) g4 F L hF hL (by omega) (xPPP (by omega) oF oL (fun z=>eL ?_)))
      match k,hk2 with
      | 0,_ =>
       have:¬((j:Int)+1<a):=c1
       omega
      | 1,_ =>
       have:¬((j:Int)+0<a):=c1
       omega
    ·rintro σ H4 ⟨⟨v1,v6, rfl⟩,_,g4,F,L,hF,hL,lF,lL,oF,oL, eL⟩
     exact (xPPWWPPPP (xWWW _ _ _ rfl) g4 F L hF hL (by simp at lF;omega) (by simp at lL;omega) (xPP oF oL (fun z=>eL (by simp;omega))))
   ·rintro σ H2 ⟨⟨v1,v5,v6, rfl⟩,g2,F,L,hF,hL,lF,lL,oF,oL, eL⟩
    exact (xPPWWPPPP (xWWWW _ _ _ _ rfl) g2 F L hF hL (by omega) (by omega) (xPP oF oL (fun z=>eL (by omega))))
  ·rintro σ H1 ⟨⟨v1,v4,v5,v6, rfl⟩,g1,F,L,hF,hL,lF,lL,oF,oL, eL⟩
   exact n1 _ _ (xPPWWPPPP (xWWWW _ _ _ _ rfl) g1 F L hF hL (by omega) (by omega) (xPP oF oL (eL (by omega))))
 rintro σ' H1 ⟨⟨v1,v4,v5,v6, rfl⟩,g1,F,L,hF,hL,lF,lL,oF,oL, eL⟩
 have nilq:PyData.eqv (.list (F.map dS)) (.list [])=decide (F=[]):=by
  cases F with
  | nil=>rfl
  | cons x F=>rfl
 have shp:SeqAt.shaped (.list (F.map dS))=true:=by
  have this:PyData.canLayAll0 (F.map dS)=true∧PyData.depthAll (F.map dS)≤4:=lay_all 4 fun d hd=>by
   obtain ⟨n,_,rfl⟩:=Zh.mp hd
   exact ⟨rfl,by simp [dS,dP,PyData.depth,PyData.depthAll]⟩
  unfold SeqAt.shaped
  rw [Xv]
  refine ⟨this.1,decide_eq_true ?_⟩
  show PyData.depthAll (F.map dS)+1≤64
  have:=this.2
  omega
 obtain ⟨fr,f1,f2,f3⟩:=hF
 refine (xWPP _ rfl (by show 0≤sizeLine;decide) (fun ea hea=>?_))
 have k1:=same_new hea (.lst [])
 refine (xWWPPPPWP (.list (F.map dS)) (.list []) (.lst (SqL.of (k1 _ _ f1)) (SsI.bds f2 fun i s e=>let ⟨r,e1,e2⟩:=f3 i s e;(xWP r e1 (e2.same k1)))) (.lst (SqL.of upd_same) .nil) shp rfl _ rfl ?_)
 rw [nilq,Bool.xor_false]
 refine ite2 (fun c=>?_) (fun c=>?_)
 ·obtain ⟨lr,l1,l2,l3⟩:=hL.same k1
  refine (xWPWPWWPP _ rfl _ rfl la _ rfl (SqL.of l1) (fun D hD=>?_))
  have k2:=same_new hD (.lst (cutV (lr.map V.ref) none (some 1)))
  refine q D (L.take 1) _ (g1.trans (k1.trans k2)) (xWPP (lr.take 1) ?_ (by rw [Yw,Yw,l2]) (fun i s e=>?_)) ?_ ?_ ?_
  ·rw [show (some (1:Int))=some ((1:Nat):Int) from rfl,cut_toV,←List.map_take];exact upd_same
  ·have hi:i<1:=by have:=(Zj.mp e).1;rw [Yw] at this;omega
   rw [List.getElem?_take_of_lt hi] at e
   obtain ⟨r,e1,e2⟩:=l3 i s e
   exact (xWP r (by rw [List.getElem?_take_of_lt hi];exact e1) (e2.same k2))
  ·intro z
   cases L with
   | nil=>exact eL rfl
   | cons x L=>cases z
  ·rw [Yw];omega
  ·exact fun s hs=>oL s (List.mem_of_mem_take hs)
 ·exact (xWP _ rfl (q fa F _ (g1.trans k1) (SsI.same (xWPP fr f1 f2 f3) k1) (fun z=>c (decide_eq_true z)) (by omega) oF))
def spTog:Sp:=fun vs H Q _=>∃ (sa fa:Addr) (S:Sts) (p q:Pt),vs=[.ref sa,.ref fa]∧SsI H sa S∧StA H fa (p,q)∧(p,q)∈S∧S.length≤60∧∀ (D:Addr) (S':Sts) (H':Hp),Same H H'→SsI H' D S'→(∀ s∈S',s∈S)→(p,q)∈S'→Whl S'→S'.length≤60→Q (.ref D) H'
theorem ok_tog (T:Txt K mg t):FnOk P w K mg base CX0 1 t.a_l_together t.d_l_together ["_law_steps_here","_law_first"] spTog:=by
 refine T.F_l_together.ok sc_l_together (fun vs H Q E h=>?_) (fun cdv A outer s H vs Q E hr h=>?_)
 ·obtain ⟨sa,fa,S,p,q,rfl,_⟩:=h;rfl
 obtain ⟨sa,fa,S,p,q,rfl,hS,⟨xa,ya,f1,f2,f3⟩,hpq,l60,qq⟩:=h
 have nd:=sc_l_together.nd
 have hu64:=hr.units
 have nd_l_step_l_there:(["_law_step","_law_there"]:List Str).Nodup:=by decide
 refine (xWP _ (pss_cons (ps_set (i:=2) nd rfl (Or.inr rfl) (pe_callTy call_list_of rfl T.z_list boot_list (pa_cons (pv 1) pa_nil)))
  (pss_cons (ps_for PassesOwn.never rfl (pi_range1 rfl T.z_range (pa_cons (pe_callB call_len_seq rfl T.z_len PySem.boot_len (pa_cons (pv 0) pa_nil)) pa_nil)) (pg_name (i:=3) nd rfl (Or.inl rfl)) (pss_one (ps_for PassesOwn.never rfl (pi_list (pv 0)) (pg_tup rfl (pgs_cons (pg_name (i:=4) nd rfl (Or.inl rfl)) (pgs_cons (pg_name (i:=5) nd rfl (Or.inl rfl)) pgs_nil))) (pss_cons (ps_if (PW.pt (pw_and (pt_cmpR (op_inD hr.units) (pv 4) (pv 2) rfl) (pw_and1 (pt_cmpR (op_notInD hr.units) (pv 5) (pv 2) rfl)))) (pss_one (ps_expr (pe_bm PySem.F.plainAttrs_list PySem.F.slot_list_append PySem.F.type_list_append mt_append (pv 2) (pa_cons (pv 5) pa_nil)))) pss_nil)
  (pss_one (ps_if (PW.pt (pw_and (pt_cmpR (op_inD hr.units) (pv 5) (pv 2) rfl) (pw_and1 (pt_cmpR (op_notInD hr.units) (pv 4) (pv 2) rfl)))) (pss_one (ps_expr (pe_bm PySem.F.plainAttrs_list PySem.F.slot_list_append PySem.F.type_list_append mt_append (pv 2) (pa_cons (pv 4) pa_nil)))) pss_nil))))))
  (pss_one (ps_ret (pe_comp (N':=["_law_step","_law_there"]) (js:=[none,some 2]) rfl (pi_list (pv 0)) (fun _ _ _ _ _=>(pg_name (i:=0) nd_l_step_l_there rfl (Or.inl rfl))) (fun _ _ _ _ _=>(pf_one (pt_cmpR (kop_inD (K:=K) rfl hu64) (pe_ix (kix_tup (K:=K) rfl) (pv 0) pe_int (fun _ _=>rfl)) (pv 1) rfl))) (fun _ _ _ _ _=>(pv 0))))))) ?_)
 refine (xWPWWPP _ rfl fa _ rfl (.inr (SqT.of f1)) (fun D hD=>?_))
 have b1:=same_new hD (.lst [.ref xa,.ref ya])
 obtain ⟨sr,s1,s2,s3⟩:=hS
 have sl:((sr.map V.ref).length:Int)=(S.length:Int):=by rw [Zq,s2]
 have inT:∀ {H':Hp} {C:List Pt} {x:Addr} {a:Pt},TsI H' D C→PtA H' x a→∃ xs dx ds,SqL K H' D xs∧Bd K H' (.ref x) dx∧Bds K H' xs ds∧smD dx∧(∀ d∈ds,smD d)∧(ds.any fun d=>PyData.eqv d dx)=decide (a∈C):=fun {H' C x a} ⟨tr,t1,t2,t3⟩ hx =>
  (xWWWPPPPP _ (dP a) (C.map dP) (SqL.of t1) (bd_pt hx) (TsI.bds t2 t3) (sm_pt _) (fun d hd=>by obtain ⟨z,_,rfl⟩:=Zh.mp hd;exact sm_pt z) (any_pt C a))
 refine (xWPWWPPWP _ rfl sa _ rfl (.inl (SqL.of (b1 _ _ s1))) (S.length:Int) (by rw [sl]) (xPP (by omega) (by omega) ?_))
 let Pv1:Nat→L2.St→L2.Hp→Prop:=fun n σ H'=>(∃ v3 v4 v5,σ=[some (.ref sa),some (.ref fa),some (.ref D),v3,v4,v5])∧Same H H'∧∃ C,TsI H' D C∧C.length≤2+120*n∧Tu S p q n C
 refine for_range (lo:=0) (n:=((S.length:Int)-0).toNat) Pv1 (xPPWPP (xWWW _ _ _ rfl) b1 ([p,q]) (xWPP ([xa,ya]) upd_same rfl (fun i z e=>?_)) (Nat.le_refl _) ⟨.start hpq, .inr (Nat.le_refl _)⟩) ?_ ?_
 ·match i with
  | 0=>cases e;exact (xWP xa rfl (b1 _ _ f2))
  | 1=>cases e;exact (xWP ya rfl (b1 _ _ f3))
  | i+2=>simp at e
 ·rintro n σ H1 hn ⟨⟨v3,v4,v5, rfl⟩,g1,C0,hC0,lC0, hU⟩
  let Pv2:Nat→L2.St→L2.Hp→Prop:=fun i σ H'=>(∃ v4 v5,σ=[some (.ref sa),some (.ref fa),some (.ref D),some (.int (0+(n:Int))),v4,v5])∧Same H H'∧∃ C,TsI H' D C∧C.length≤2+120*n+2*i∧Tn S p q C0 i C
  refine (xWPWPP _ rfl sa rfl ⟨_,SqL.of (g1 _ _ s1)⟩ (for_list (xs:=sr.map V.ref) Pv2 (xPPWPP (xWW _ _ rfl) g1 C0 hC0 (by omega) (.start hU.th)) (fun _ _ _ _ ⟨_,g,_⟩=>SqL.of (g _ _ s1)) ?_ ?_))
  ·rintro i x σ H2 hx ⟨⟨v4,v5, rfl⟩,g2,C,hC,lC, hT⟩
   obtain ⟨st,ra,e1,rfl,⟨xa',ya',e2,e3,e4⟩⟩:=SsI.nth s2 s3 hx
   have hi:i<S.length:=(Zj.mp e1).1
   have e3':=g2 _ _ e3
   have e4':=g2 _ _ e4
   have szC:∀ {xs:List V} {C:List Pt} {H':Hp},TsI H' D C→H' D=some (.lst xs)→C.length≤9000→xs.length<sizeLine:=fun {xs C H'} ⟨tr,t1,t2,_⟩ h hl=>by
    rw [t1] at h;cases h
    rw [Zq,t2];exact Ys hl (by decide)
   refine (xWWPPPWWP ra _ rfl (SqT.of (g2 _ _ e2)) rfl _ _ rfl (xWWPP _ _ rfl rfl ?_))
   refine viaN (fun σ' H'=>σ'=[some (.ref sa),some (.ref fa),some (.ref D),some (.int (0+(n:Int))),some (.ref xa'),some (.ref ya')]∧Same H H'∧PtA H' xa' st.1∧PtA H' ya' st.2∧∃ C',TsI H' D C'∧C'.length≤C.length+1∧((C'=C∧¬(st.1∈C∧st.2∉C))∨(C'=C++[st.2]∧st.1∈C∧st.2∉C))) (fun N n1=>?_) ?_
   ·obtain ⟨xs,dx,ds,a1,a2,a3,a4,a5,a6⟩:=inT hC e3'
    refine (xWPWP _ rfl _ rfl (xWWWWPPPP D xs dx ds rfl a1 a2 a3 (xPPWP a4 a5 _ rfl ?_)))
    show if (ds.any fun d=>PyData.eqv d dx)=true then _ else _
    rw [a6]
    refine ite2 (fun c1=>?_) (fun c1=>iteF ?_)
    ·obtain ⟨xs,dx,ds,a1,a2,a3,a4,a5,a6⟩:=inT hC e4'
     refine (xWPWP _ rfl _ rfl (xWWWWPPPP D xs dx ds rfl a1 a2 a3 (xPPWP a4 a5 _ rfl ?_)))
     show if (!(ds.any fun d=>PyData.eqv d dx))=true then _ else _
     rw [a6]
     refine ite2 (fun c2=>?_) (fun c2=>?_)
     ·have h1:=of_decide_eq_true c1
      have h2:st.2∉C:=fun z=>by rw [decide_eq_true z] at c2;cases c2
      obtain ⟨tr,t1,t2,t3⟩:=id hC
      have tn:∀ {c:Addr} {xs:List V},H2 c=some (.tup xs)→c≠D:=fun e z=>by rw [z,t1] at e;cases e
      exact (xWPPWP _ rfl (.inl ⟨rfl,_, SqL.of t1⟩) _ rfl (xWWWPPPP D _ _ rfl rfl t1 (szC hC t1 (by omega)) (n1 _ _ (xPPPPWPP rfl (g2.fresh hD _) (by rw [PtA,upd_ne (tn e3')];exact e3') (by rw [PtA,upd_ne (tn e4')];exact e4') _ (pts_push t1 t2 t3 e4') (by simp) (.inr (xPP rfl h1 h2))))))
     ·have h2:st.2∈C:=by
       cases hd:decide (st.2∈C) with
       | true=>exact of_decide_eq_true hd
       | false=>rw [hd] at c2;exact absurd rfl c2
      exact n1 _ _ (xPPPPWPP rfl g2 e3' e4' C hC (Nat.le_succ _) (.inl ⟨rfl,fun z=>z.2 h2⟩))
    ·exact n1 _ _ (xPPPPWPP rfl g2 e3' e4' C hC (Nat.le_succ _) (.inl ⟨rfl,fun z=>c1 (decide_eq_true z.1)⟩))
   rintro σ' H3 ⟨rfl,g3,e5,e6,C',hC',lC', hh⟩
   have fin:∀ {C'':List Pt},(C''=C'∧¬(st.2∈C'∧st.1∉C'))∨(C''=C'++[st.1]∧st.2∈C'∧st.1∉C')→Tn S p q C0 (i+1) C'':=fun {C''} h=>by
    refine hT.next e1 ?_
    rcases hh with ⟨rfl,n1⟩ | ⟨rfl,m1, m2⟩
    ·rcases h with ⟨rfl,n2⟩ | ⟨rfl,m3, m4⟩
     ·exact .inl ⟨rfl,fun z=>Classical.byContradiction fun y=>n1 ⟨z,y⟩, fun z=>Classical.byContradiction fun y=>n2 ⟨z,y⟩⟩
     ·exact .inr (.inr (xPP rfl m3 m4))
    ·rcases h with ⟨rfl,_⟩ | ⟨_,_, m4⟩
     ·exact .inr (.inl (xPP rfl m1 m2))
     ·exact absurd (List.mem_append_left _ m1) m4
   obtain ⟨xs,dx,ds,a1,a2,a3,a4,a5,a6⟩:=inT hC' e6
   refine (xWPWP _ rfl _ rfl (xWWWWPPPP D xs dx ds rfl a1 a2 a3 (xPPWP a4 a5 _ rfl ?_)))
   show if (ds.any fun d=>PyData.eqv d dx)=true then _ else _
   rw [a6]
   refine ite2 (fun c1=>?_) (fun c1=>iteF ?_)
   ·obtain ⟨xs,dx,ds,a1,a2,a3,a4,a5,a6⟩:=inT hC' e5
    refine (xWPWP _ rfl _ rfl (xWWWWPPPP D xs dx ds rfl a1 a2 a3 (xPPWP a4 a5 _ rfl ?_)))
    show if (!(ds.any fun d=>PyData.eqv d dx))=true then _ else _
    rw [a6]
    refine ite2 (fun c2=>?_) (fun c2=>?_)
    ·have h1:=of_decide_eq_true c1
     have h2:st.1∉C':=fun z=>by rw [decide_eq_true z] at c2;cases c2
     obtain ⟨tr,t1,t2,t3⟩:=id hC'
     exact (xWPPWP _ rfl (.inl ⟨rfl,_, SqL.of t1⟩) _ rfl (xWWWPPPPP D _ _ rfl rfl t1 (szC hC' t1 (by omega)) (xWW _ _ rfl) (xPWPP (g3.fresh hD _) _ (pts_push t1 t2 t3 e5) (by simp;omega) (fin (.inr (xPP rfl h1 h2))))))
    ·have h2:st.1∈C':=by
      cases hd:decide (st.1∈C') with
      | true=>exact of_decide_eq_true hd
      | false=>rw [hd] at c2;exact absurd rfl c2
     exact (xPPWPP (xWW _ _ rfl) g3 C' hC' (by omega) (fin (.inl ⟨rfl,fun z=>z.2 h2⟩)))
   ·exact (xPPWPP (xWW _ _ rfl) g3 C' hC' (by omega) (fin (.inl ⟨rfl,fun z=>c1 (decide_eq_true z.1)⟩)))
  ·rintro σ H2 ⟨⟨v4,v5, rfl⟩,g2,C,hC,lC, hT⟩
   rw [Zq,s2] at lC hT
   exact (xPPWPP (xWWW _ _ _ rfl) g2 C hC (by omega) (hU.next hT))
 ·rintro σ H1 ⟨⟨v3,v4,v5, rfl⟩,g1,C,hC,lC, hU⟩
  rw [show ((S.length:Int)-0).toNat=S.length by omega] at hU
  let pr:Nat→Bool:=fun i=>((S[i]?).map fun s=>decide (s.1∈C)).getD false
  refine (xWPWPP _ rfl sa rfl ⟨_,SqL.of (g1 _ _ s1)⟩ (fun R hR=>?_))
  refine comp_fil S.length (fun i=>.ref (sr.getD i 0)) pr hR (by omega) (fun i H2 hi g=>(xWWP _ (.ref (sr[i]'(by omega))) (SqL.of (g _ _ (g1 _ _ s1))) (by rw [Zk,Zz (by omega)];rfl))) (fun H2 g=>(xWP _ (SqL.of (g _ _ (g1 _ _ s1))) (by rw [Zq,s2];exact Nat.le_refl _))) ?_ ?_
  ·rintro i H2 x H3 kt kf hi g ⟨rfl,hx⟩ ht hf
   have hx:=hx _ (SqL.of (g _ _ (g1 _ _ s1)))
   obtain ⟨st,ra,e1,rfl,⟨xa',ya',e2,e3,e4⟩⟩:=SsI.nth s2 s3 hx
   have gg:=g1.trans g
   obtain ⟨xs,dx,ds,a1,a2,a3,a4,a5,a6⟩:=inT (hC.same g) (gg _ _ e3)
   have er:V.ref ra=.ref (sr.getD i 0):=by
    rw [Zk] at hx
    cases hs:sr[i]? with
    | none=>rw [hs] at hx;cases hx
    | some r=>rw [hs] at hx;cases hx;rw [Zv,hs];rfl
   have ep:pr i=decide (st.1∈C):=by show ((S[i]?).map _).getD false=_;rw [e1];rfl
   refine (xPWPWWWWP ((Fills.refl _).set _ rfl) _ rfl ra _ 0 (.ref xa') rfl (xPPPWP rfl (SqT.of (gg _ _ e2)) rfl _ rfl (xWWWWPPPP D xs dx ds rfl a1 a2 a3 (xPPWP a4 a5 _ rfl ?_))))
   show if (ds.any fun d=>PyData.eqv d dx)=true then _ else _
   rw [a6]
   refine ite2 (fun c=>(xWP _ rfl ?_)) (fun c=>?_)
   ·rw [er];exact ht (by rw [ep];exact c) _ (Same.refl _)
   ·exact hf (by rw [ep];simpa using c) _ (Same.refl _)
  intro H2 g2 eR
  have mem:∀ s,s∈(((List.range S.length).filter pr).filterMap (S[·]?))↔s∈S∧s.1∈C:=fun s=>by
   rw [List.mem_filterMap]
   constructor
   ·rintro ⟨i,hi, e⟩
    have:=(Yz.mp hi).2
    have hp:((S[i]?).map fun s=>decide (s.1∈C)).getD false=true:=this
    rw [e] at hp
    exact ⟨Zg e,of_decide_eq_true hp⟩
   ·rintro ⟨h1,h2⟩
    obtain ⟨i,hi,rfl⟩:=Yy.mp h1
    refine (xWP i (Yz.mpr ⟨Zs.mpr hi,?_⟩) (Zz hi))
    show ((S[i]?).map fun s=>decide (s.1∈C)).getD false=true
    rw [Zz hi];exact decide_eq_true h2
  have g02:=g1.trans g2
  have lt:∀ i∈(List.range S.length).filter pr,i<S.length:=fun i hi=>Zs.mp (Yz.mp hi).1
  have key:∀ l:List Nat,(∀ i∈l,i<S.length)→(l.map fun i=>sr.getD i 0).length=(l.filterMap (S[·]?)).length∧∀ (j:Nat) s,(l.filterMap (S[·]?))[j]?=some s→∃ r,(l.map fun i=>sr.getD i 0)[j]?=some r∧StA H2 r s:=by
   intro l
   induction l with
   | nil=>intro _;exact ⟨rfl,fun j s e=>by simp at e⟩
   | cons i l ih =>
    intro h
    obtain ⟨i1,i2⟩:=ih fun x hx=>h x (Zw _ hx)
    have hi:=h i Zd
    rw [List.filterMap_cons,Zz hi]
    refine ⟨by rw [Zq] at i1 ⊢;simp [i1],fun j s e=>?_⟩
    cases j with
    | zero =>
     simp at e
     obtain ⟨r,r1,r2⟩:=s3 i s (by rw [Zz hi,e])
     exact (xWP r (by simp [Zv,r1]) (r2.same g02))
    | succ j=>simpa using i2 j s (by simpa using e)
  obtain ⟨k1,k2⟩:=key _ lt
  refine qq R (((List.range S.length).filter pr).filterMap (S[·]?)) _ g02 (xWPP (((List.range S.length).filter pr).map fun i=>sr.getD i 0) ?_ k1 k2) (fun s hs=>((mem s).mp hs).1) ((mem _).mpr ⟨hpq,hU.th.pm⟩) (hU.whl mem) ?_
  ·rw [eR,Yg];rfl
  ·rw [←k1,Zq]
   refine Yr (List.length_filter_le _ _) ?_
   rw [Yj];exact l60
end K76
namespace L2
open PySem PySem.Spec PyProof.Rows GR
theorem at_end {xs:List V} {k:Nat} {v:V} (h0:0<k) (hk:k≤xs.length) (h:xs[xs.length-k]?=some v):atI xs (-(k:Int))=some v:=by
 have e:ixN xs.length (-(k:Int))=some (xs.length-k):=by
  unfold ixN
  rw [if_neg (by omega),if_pos (by omega)]
  congr 1
  omega
 unfold atI
 rw [e];exact h
theorem kop_neD {X:Cx} {K:PySem.W.Frag} (hK:X.K=K) (hu:X.A.units+64<cLine):OpR X (compareOp .NotEq) (rEqD K true):=by subst hK;exact op_neD hu
theorem one_only {l:List Nat} {i:Nat} (nd:l.Nodup) (h:∀ j,j∈l↔j=i):l=[i]:=by
 match l with
 | []=>exact absurd ((h i).mpr rfl) (by simp)
 | [a]=>rw [(h a).mp (by simp)]
 | a::b::l =>
  have h1:=(h a).mp (by simp)
  have h2:=(h b).mp (by simp)
  subst h1;subst h2
  simp at nd
theorem sh_pt (p:Pt):SeqAt.shaped (dP p)=true:=by
 unfold SeqAt.shaped
 rw [(sm_pt p).1,Bool.true_and]
 exact decide_eq_true (Yr (sm_pt p).2 (by decide))
theorem TsI.at {H:Hp} {a:Addr} {ps:List Pt} (h:TsI H a ps):∃ tr:List Addr,H a=some (.lst (tr.map V.ref))∧tr.length=ps.length∧∀ (i:Nat) p,ps[i]?=some p→∃ r,(tr.map V.ref)[i]?=some (.ref r)∧PtA H r p:=by
 obtain ⟨tr,h1,h2, h3⟩:=h
 exact ⟨tr,h1,h2, fun i p e=>let ⟨r,q1,q2⟩:=h3 i p e;⟨r,by rw [Zk,q1];rfl, q2⟩⟩
end L2
namespace K76
open PySem L2 PyProof.Rows TX GR
variable {P:Program} {w:World} {K:PySem.W.Frag} {mg:Str→Option Value} {base:Heap} {t:Adr}
def spGone:Sp:=fun vs H Q _=>∃ (sa pl oa ob:Addr) (S:Sts) (Pl Ps:List Pt) (p o:Pt),vs=[.ref sa,.ref pl,.ref oa,.ref ob]∧SsI H sa S∧TsI H pl Pl∧PtA H oa p∧PtA H ob o∧Pls S Pl∧p∈Pl∧Adj S p o∧(∀ a b,Adj S a b→a∈Ps)∧Ps.length≤30∧∀ (D:Addr) (r:List Pt) (H':Hp),Same H H'→H D=none→TsI H' D r→En S Pl r→r[0]?=some p→r[1]?=some o→r.length≤32→Q (.ref D) H'
theorem ok_gone (T:Txt K mg t):FnOk P w K mg base CX0 2 t.a_l_gone t.d_l_gone ["_law_steps_here","_law_places_here","_law_one","_law_other"] spGone:=by
 have G_l_beside:=ok_beside (P:=P) (w:=w) (base:=base) T
 refine T.F_l_gone.ok sc_l_gone (fun vs H Q E h=>?_) (fun cdv A outer s H vs Q E hr h=>?_)
 ·obtain ⟨sa,pl,oa,ob,S,Pl,Ps,p,o,rfl,_⟩:=h;rfl
 obtain ⟨sa,pl,oa,ob,S,Pl,Ps,p,o,rfl,hS,hPl,hoa,hob,hP,hpp,hpo,hPs,l30,q⟩:=h
 have nd:=sc_l_gone.nd
 have nd_l_there_l_row:(["_law_there","_law_row"]:List Str).Nodup:=by decide
 refine (xWP _ (pss_cons (ps_set (i:=4) nd rfl (Or.inr rfl) (pe_lst (pa_cons (pv 2) (pa_cons (pv 3) pa_nil))))
  (pss_cons (ps_while PassesOwn.never (pt_cmpR (op_notInD hr.units) (pe_ix ix_list (pv 4) (pe_un un_neg pe_int) (fun _ _=>rfl)) (pv 1) rfl) (pss_one (ps_expr (pe_bm PySem.F.plainAttrs_list PySem.F.slot_list_append PySem.F.type_list_append mt_append (pv 4) (pa_cons (pe_ix ix_list (pe_comp (N':=["_law_there","_law_row"]) (js:=[none,some 4]) rfl (pi_list (pe_call G_l_beside (hr.mono (by decide)) rfl T.m_l_beside T.k_l_beside T.b_l_beside .nil pass0 (pa_cons (pv 0) (pa_cons (pe_ix ix_list (pv 4) (pe_un un_neg pe_int) (fun _ _=>rfl)) pa_nil)))) (fun _ _ _ _ _=>(pg_name (i:=0) nd_l_there_l_row rfl (Or.inl rfl))) (fun _ _ _ _ _=>(pf_one (pt_cmpR (kop_neD (K:=K) rfl hr.units) (pv 0) (pe_ix (kix_list (K:=K) rfl) (pv 1) (pe_un un_neg pe_int) (fun _ _=>rfl)) (nomark _)))) (fun _ _ _ _ _=>(pv 0))) pe_int (fun _ _=>rfl)) pa_nil)))))
  (pss_one (ps_ret (pv 4))))) ?_)
 refine (xWPWPP _ rfl _ rfl (by show 2≤sizeLine;decide) (fun D hD=>?_))
 have b1:=same_new hD (.lst [.ref oa,.ref ob])
 obtain ⟨pr,p1,p2,p3⟩:=id hPl
 refine ⟨fun m σ H'=>σ=[some (.ref sa),some (.ref pl),some (.ref oa),some (.ref ob),some (.ref D)]∧Same H H'∧∃ r,TsI H' D r∧Tr S Pl r∧r[0]?=some p∧r[1]?=some o∧m+r.length=40∧r.length≤32,(xWPPWPPPP 38 rfl b1 ([p,o]) (xWPP ([oa,ob]) upd_same rfl (fun i z e=>?_)) (.start hpp hpo) rfl rfl ⟨rfl, (show 2≤32 by decide)⟩), ?_⟩
 ·match i with
  | 0=>cases e;exact (xWP oa rfl (b1 _ _ hoa))
  | 1=>cases e;exact (xWP ob rfl (b1 _ _ hob))
  | i+2=>simp at e
 rintro m σ H1 ⟨rfl,g1,r,hr',ht,r0,r1,hm, l32⟩
 have len:=ht.len
 obtain ⟨tr,t1,t2,t3⟩:=hr'.at
 have ga:=GR.get_of (l:=r) (i:=r.length-2) (by omega)
 have gb:=GR.get_of (l:=r) (i:=r.length-1) (by omega)
 obtain ⟨aa,ea1,ea2⟩:=t3 _ _ ga
 obtain ⟨ba,eb1,eb2⟩:=t3 _ _ gb
 have lm:(tr.map V.ref).length=r.length:=by rw [Zq,t2]
 have atb:atI (tr.map V.ref) (-1)=some (.ref ba):=at_end (k:=1) (by decide) (by omega) (by rw [lm];exact eb1)
 have ata:atI (tr.map V.ref) (-2)=some (.ref aa):=at_end (k:=2) (by decide) (by omega) (by rw [lm];exact ea1)
 refine (xWPWP _ rfl _ rfl (xWWWWPPPP D _ _ _ rfl rfl (SqL.of t1) atb (xWPWWWWPP _ rfl pl _ (dP _) (Pl.map dP) rfl (SqL.of (g1 _ _ p1)) (xPPPPWP (bd_pt eb2) (TsI.bds p2 (fun i z e=>let ⟨x,e1,e2⟩:=p3 i z e;(xWP x e1 (g1 _ _ e2)))) (sm_pt _) (fun d hd=>by obtain ⟨z,_,rfl⟩:=Zh.mp hd;exact sm_pt z) _ rfl ?_))))
 show if (!((Pl.map dP).any fun d=>PyData.eqv d (dP r[r.length-1])))=true then _ else _
 rw [any_pt]
 refine ite2 (fun c=>?_) (fun c=>?_)
 ·have hb:r[r.length-1]∉Pl:=fun z=>by rw [decide_eq_true z] at c;cases c
  obtain ⟨c,hc,hbc,hca⟩:=next_one hP ht ga gb hb
  have short:=ht.short hP (fun a e=>by rw [List.getLast?_eq_getElem?,gb] at e;cases e;exact hb) hPs
  refine ⟨fun σ' H'=>σ'=[some (.ref sa),some (.ref pl),some (.ref oa),some (.ref ob),some (.ref D)]∧Same H H'∧∃ r',TsI H' D r'∧Tr S Pl r'∧r'[0]?=some p∧r'[1]?=some o∧r'.length=r.length+1,?_, ?_⟩
  ·rintro σ' H' ⟨rfl,g,r',a1,a2,a3,a4, a5⟩
   exact (xWPPPWPPP (m-1) (by omega) rfl g r' a1 a2 a3 (xPP a4 (by omega) (by omega)))
  refine (xWPPWPWP _ rfl (.inl ⟨rfl,_, SqL.of t1⟩) _ rfl _ rfl (xWPWWWWPP _ rfl D _ _ _ rfl rfl (xPPWWWWPP (SqL.of t1) atb sa ba S _ rfl (hS.same g1) ⟨eb2, fun B H2 g2 hB hT=>?_⟩)))
  obtain ⟨nr,n1,n2,n3⟩:=hT
  obtain ⟨nr',m1',m2',m3'⟩:=TsI.at (xWPP nr n1 n2 n3)
  have nl:nr.length≤4:=by rw [n2];exact nb_len _ _
  let pd:Nat→Bool:=fun i=>((nb S r[r.length-1])[i]?.map fun x=>decide (x≠r[r.length-2])).getD false
  refine (xWPP B rfl ⟨_,SqL.of n1⟩ (fun R hR=>?_))
  refine comp_fil nr.length (fun i=>.ref (nr.getD i 0)) pd hR (by omega) (fun i H3 hi g=>(xWWP _ (.ref nr[i]) (SqL.of (g _ _ n1)) (by rw [Zk,Zz hi];rfl))) (fun H3 g=>(xWP _ (SqL.of (g _ _ n1)) (by rw [Zq];exact Nat.le_refl _))) ?_ ?_
  ·rintro i H3 x H4 kt kf hi g ⟨rfl,hx⟩ hkt hkf
   have hx:=hx _ (SqL.of (g _ _ n1))
   have hin:i<(nb S r[r.length-1]).length:=by rw [←n2];exact hi
   obtain ⟨xa,x1,x2⟩:=n3 i _ (GR.get_of hin)
   rw [Zk,x1] at hx
   cases hx
   have er:V.ref xa=.ref (nr.getD i 0):=by rw [Zv,x1];rfl
   have ep:pd i=decide ((nb S r[r.length-1])[i]≠r[r.length-2]):=by show (Option.map _ _).getD false=_;rw [GR.get_of hin];rfl
   have gg:=g2.trans g
   refine (xPWPWPWP ((Fills.refl _).set _ rfl) _ rfl _ rfl _ rfl (xWWWWPPPP D _ _ _ rfl rfl (SqL.of (gg _ _ t1)) ata (xWWPPPPWP (dP (nb S r[r.length-1])[i]) (dP r[r.length-2]) (bd_pt (g _ _ x2)) (bd_pt (gg _ _ ea2)) (sh_pt _) (sh_pt _) _ rfl ?_)))
   rw [eqv_pt,Bool.xor_true]
   refine ite2 (fun cc=>(xWP _ rfl ?_)) (fun cc=>?_)
   ·rw [er]
    refine hkt ?_ _ (Same.refl _)
    rw [ep]
    refine decide_eq_true fun z=>?_
    rw [decide_eq_true z] at cc;cases cc
   ·refine hkf ?_ _ (Same.refl _)
    rw [ep]
    refine decide_eq_false fun z=>cc ?_
    rw [decide_eq_false z];rfl
  intro H3 g3 eR
  obtain ⟨i0,hi0, ei0⟩:∃ i0,∃ h:i0<(nb S r[r.length-1]).length,(nb S r[r.length-1])[i0]=c:=by
   have:c∈nb S r[r.length-1]:=(mem_nb hP.u).mpr hbc
   obtain ⟨i,h,e⟩:=Yy.mp this
   exact ⟨i,h, e⟩
  have only:(List.range nr.length).filter pd=[i0]:=by
   refine one_only (List.Pairwise.filter _ List.nodup_range) fun j=>?_
   rw [Yz,Zs,n2]
   constructor
   ·rintro ⟨hj,hpd⟩
    have hpd:((nb S r[r.length-1])[j]?.map fun x=>decide (x≠r[r.length-2])).getD false=true:=hpd
    rw [GR.get_of hj] at hpd
    have hne:=of_decide_eq_true hpd
    have:(nb S r[r.length-1])[j]∈(nb S r[r.length-1]).filter fun x=>decide (x≠r[r.length-2]):=Yz.mpr ⟨Zp hj,decide_eq_true hne⟩
    rw [hc] at this
    have ej:=Zb.mp this
    have nd2:=nb_nodup S r[r.length-1]
    rw [List.nodup_iff_pairwise_ne,List.pairwise_iff_getElem] at nd2
    rcases Nat.lt_trichotomy j i0 with z | z | z
    ·exact absurd (ej.trans ei0.symm) (nd2 j i0 hj hi0 z)
    ·exact z
    ·exact absurd (ei0.trans ej.symm) (nd2 i0 j hi0 hj z)
   ·rintro rfl
    refine ⟨hi0,?_⟩
    show ((nb S r[r.length-1])[j]?.map fun x=>decide (x≠r[r.length-2])).getD false=true
    rw [GR.get_of hi0,ei0]
    exact decide_eq_true hca
  rw [only] at eR
  obtain ⟨ca,c1,c2⟩:=n3 i0 c (by rw [GR.get_of hi0,ei0])
  have eg:nr.getD i0 0=ca:=by rw [Zv,c1];rfl
  have g23:=g2.trans g3
  obtain ⟨tr2,u1,u2,u3⟩:=hr'.same g23
  have u1':=g23 _ _ t1
  rw [u1] at u1'
  refine (xWWWWPPPP R _ 0 (.ref ca) rfl rfl (SqL.of eR) (by rw [←eg];rfl) (xWWWPPPPP D _ _ rfl rfl u1 (by rw [Zq,u2];exact Ys l32 (by decide)) rfl (xPWPPPP ((g1.trans g23).fresh hD _) (r++[c]) (pts_push u1 u2 u3 (g3 _ _ c2)) (ht.on ga gb hb hbc hca) (by rw [Zx (by omega)];exact r0) (by rw [Zx (by omega)];exact r1) (by simp))))
 ·have hb:r[r.length-1]∈Pl:=by
   cases hd:decide (r[r.length-1]∈Pl) with
   | true=>exact of_decide_eq_true hd
   | false=>rw [hd] at c;exact absurd rfl c
  exact (xWP _ rfl (q D r _ g1 hD hr' ⟨ht,fun a e=>by rw [gb] at e;cases e;exact hb⟩ r0 r1 l32))
end K76
namespace L2
open PySem PySem.Spec PyProof.Rows GR
def key (p:Pt):List Int:=[p.1,p.2]
theorem key_inj {p q:Pt} (h:key p=key q):p=q:=by
 unfold key at h
 injection h with h1 h2
 injection h2 with h2 _
 exact Prod.ext h1 h2
theorem lift_r {α:Type} (R:Nat→α→Prop):∀ n:Nat,(∀ i,i<n→∃ x,R i x)→∃ xs:List α,xs.length=n∧∀ (i:Nat) x,xs[i]?=some x→R i x
 | 0,_=>⟨[],rfl, fun i x e=>by simp at e⟩
 | n+1,h=>by
  obtain ⟨xs,h1, h2⟩:=lift_r R n fun i hi=>h i (by omega)
  obtain ⟨x,hx⟩:=h n (by omega)
  refine ⟨xs++[x],by simp [h1], fun i y e=>?_⟩
  by_cases c:i<xs.length
  ·rw [Zx c] at e;exact h2 i y e
  ·have hi:=(Zj.mp e).1
   simp at hi
   have:i=xs.length:=by omega
   subst this
   rw [Zy (Nat.le_refl _),Nat.sub_self] at e
   cases e
   rw [h1];exact hx
theorem SsI.two {H:Hp} {S:Sts} {sr:List Addr} (h2:sr.length=S.length) (h3:∀ (i:Nat) s,S[i]?=some s→∃ r,sr[i]?=some r∧StA H r s):∃ xs ys:List Addr,xs.length=S.length∧ys.length=S.length∧∀ (i:Nat) s,S[i]?=some s→∃ r x y,sr[i]?=some r∧xs[i]?=some x∧ys[i]?=some y∧H r=some (.tup [.ref x,.ref y])∧PtA H x s.1∧PtA H y s.2:=by
 obtain ⟨zs,z1, z2⟩:=lift_r (fun i (z:Addr×Addr)=>∀ s,S[i]?=some s→∃ r,sr[i]?=some r∧H r=some (.tup [.ref z.1,.ref z.2])∧PtA H z.1 s.1∧PtA H z.2 s.2) S.length fun i hi=>by
  obtain ⟨r,q1,x,y,q2,q3, q4⟩:=h3 i _ (GR.get_of hi)
  exact ⟨(x,y),fun s e=>by rw [GR.get_of hi] at e;cases e;exact ⟨r,q1,q2,q3, q4⟩⟩
 refine ⟨zs.map (·.1),zs.map (·.2),by rw [Zq,z1],by rw [Zq,z1], fun i s e=>?_⟩
 have hi:i<zs.length:=by rw [z1];exact (Zj.mp e).1
 obtain ⟨r,a,b,c, d⟩:=z2 i _ (GR.get_of hi) s e
 exact ⟨r,_,_,a,by rw [Zk,GR.get_of hi];rfl,by rw [Zk,GR.get_of hi];rfl,b,c, d⟩
theorem TsI.insert {H:Hp} {D r:Addr} {ps:List Pt} {tr:List Addr} {p:Pt} (h1:H D=some (.lst (tr.map V.ref))) (h2:tr.length=ps.length) (h3:∀ (i:Nat) s,ps[i]?=some s→∃ r,tr[i]?=some r∧PtA H r s) (hr:PtA H r p) {k:Nat} (hk:k≤ps.length):TsI (upd H D (.lst (insAt (tr.map V.ref) k (.ref r)))) D (insAt ps k p):=by
 have ne:∀ {b:Addr} {l:List V},H b=some (.tup l)→b≠D:=fun hb z=>by rw [z,h1] at hb;cases hb
 have ge:∀ {α:Type} {l:List α} {x:α} (i:Nat),k≤l.length→(insAt l k x)[i]?=if i<k then l[i]? else if i=k then some x else l[i-1]?:=fun {α l x} i hl=>ST.insL_get hl x i
 have em:insAt (tr.map V.ref) k (V.ref r)=(insAt tr k r).map V.ref:=by unfold insAt;simp [List.map_take,List.map_drop]
 refine ⟨insAt tr k r,by rw [em];exact upd_same,?_, fun i s e=>?_⟩
 ·have l1:=ST.insL_len tr k r
  have l2:=ST.insL_len ps k p
  show (ST.insL tr k r).length=(ST.insL ps k p).length
  omega
 ·rw [ge i hk] at e
  rw [ge i (by omega)]
  by_cases c1:i<k
  ·rw [if_pos c1] at e ⊢
   obtain ⟨x,e1, e2⟩:=h3 i s e
   exact ⟨x,e1, by rw [upd_ne (ne e2)];exact e2⟩
  ·rw [if_neg c1] at e ⊢
   by_cases c2:i=k
   ·rw [if_pos c2] at e ⊢
    cases e
    exact ⟨r,rfl, by rw [upd_ne (ne hr)];exact hr⟩
   ·rw [if_neg c2] at e ⊢
    obtain ⟨x,e1, e2⟩:=h3 (i-1) s e
    exact ⟨x,e1, by rw [upd_ne (ne e2)];exact e2⟩
end L2
namespace K76
open PySem L2 PyProof.Rows TX GR
variable {P:Program} {w:World} {K:PySem.W.Frag} {mg:Str→Option Value} {base:Heap} {t:Adr}
def spPlaces:Sp:=fun vs H Q _=>∃ (sa:Addr) (n:Int) (S:Sts) (dom:List Pt),vs=[.ref sa,.int n]∧SsI H sa S∧Unit S∧S≠[]∧S.length≤60∧(∀ s∈S,s.1∈dom∧s.2∈dom)∧dom.length≤10∧∀ (D:Addr) (Pl:List Pt) (H':Hp),Same H H'→TsI H' D Pl→Pls S Pl→Pl≠[]→Pl.length≤10→(∀ p∈Pl,p∈dom)→Q (.ref D) H'
theorem ok_places (T:Txt K mg t):FnOk P w K mg base CX0 2 t.a_l_places t.d_l_places ["_law_steps_here","_law_number"] spPlaces:=by
 have G_l_beside:=ok_beside (P:=P) (w:=w) (base:=base) T
 refine T.F_l_places.ok sc_l_places (fun vs H Q E h=>?_) (fun cdv A outer s H vs Q E hr h=>?_)
 ·obtain ⟨sa,n,S,dom,rfl,_⟩:=h;rfl
 obtain ⟨sa,n,S,dom,rfl,hS,hU,hne,l60,hdm,d10,q⟩:=h
 have nd:=sc_l_places.nd
 have hu8:(A.deeper (envOfC (Str.ofString "_law_places") (defScope s_l_places) s.heap.objs.size t.a_l_places cdv)).units+8<cLine:=by have:=hr.units;omega
 have nd_l_one_l_other:(["_law_one","_law_other"]:List Str).Nodup:=by decide
 refine (xWP _ (pss_cons (ps_set (i:=2) nd rfl (Or.inl rfl) (pe_callB (call_sortedS rfl hu8) rfl T.z_sorted boot_sorted (pa_cons (pe_callTy (call_setP rfl hu8) rfl T.z_set boot_set (pa_cons (pe_op op_cat (pe_comp (N':=["_law_one","_law_other"]) (js:=[none,none]) rfl (pi_list (pv 0)) (fun _ _ _ _ _=>(kpg_tup (K:=K) (n:=2) rfl rfl (pgs_cons (pg_name (i:=0) nd_l_one_l_other rfl (Or.inl rfl)) (pgs_cons (pg_name (i:=1) nd_l_one_l_other rfl (Or.inl rfl)) pgs_nil)))) (fun _ _ _ _ _=>pf_nil) (fun _ _ _ _ _=>(pv 0))) (pe_comp (N':=["_law_one","_law_other"]) (js:=[none,none]) rfl (pi_list (pv 0)) (fun _ _ _ _ _=>(kpg_tup (K:=K) (n:=2) rfl rfl (pgs_cons (pg_name (i:=0) nd_l_one_l_other rfl (Or.inl rfl)) (pgs_cons (pg_name (i:=1) nd_l_one_l_other rfl (Or.inl rfl)) pgs_nil)))) (fun _ _ _ _ _=>pf_nil) (fun _ _ _ _ _=>(pv 1)))) pa_nil)) pa_nil)))
  (pss_cons (ps_set (i:=3) nd rfl (Or.inl rfl) (pe_lst pa_nil))
  (pss_cons (ps_for PassesOwn.never rfl (pi_enum rfl T.z_enumerate (pa_cons (pv 2) pa_nil)) (pg_tup rfl (pgs_cons (pg_name (i:=4) nd rfl (Or.inl rfl)) (pgs_cons (pg_name (i:=5) nd rfl (Or.inl rfl)) pgs_nil))) (pss_one (ps_if (PW.pt (pw_or (pt_cmpR op_ne (pe_callB call_len_seq rfl T.z_len PySem.boot_len (pa_cons (pe_call G_l_beside (hr.mono (by decide)) rfl T.m_l_beside T.k_l_beside T.b_l_beside .nil pass0 (pa_cons (pv 0) (pa_cons (pv 5) pa_nil))) pa_nil)) pe_int (nomark _)) (pw_or1 (pt_cmpR op_eq (pe_op op_mod (pe_op op_fdiv (pv 1) (pe_op op_shl pe_int (pv 4))) pe_int) pe_int (nomark _))))) (pss_one (ps_expr (pe_bm PySem.F.plainAttrs_list PySem.F.slot_list_append PySem.F.type_list_append mt_append (pv 3) (pa_cons (pv 5) pa_nil)))) pss_nil)))
  (pss_cons (ps_set (i:=6) nd rfl (Or.inl rfl) (pe_lst pa_nil))
  (pss_cons (ps_for PassesOwn.never rfl (pi_enum rfl T.z_enumerate (pa_cons (pe_op op_cat (pv 3) (pe_slice sl_list (pv 2) po_none (po_some (pe_callTy call_int1 rfl T.z_int boot_int (pa_cons (pe_cmpR (op_eqD hr.units) (pv 3) (pe_lst pa_nil) (nomark _)) pa_nil))))) pa_nil)) (pg_tup rfl (pgs_cons (pg_name (i:=4) nd rfl (Or.inl rfl)) (pgs_cons (pg_name (i:=5) nd rfl (Or.inl rfl)) pgs_nil))) (pss_one (ps_expr (pe_bm PySem.F.plainAttrs_list PySem.F.slot_list_insert PySem.F.type_list_insert mt_insert (pv 6) (pa_cons (pe_op op_mod (pe_op op_fdiv (pv 1) (pe_op op_add pe_int (pe_op op_mul pe_int (pv 4)))) (pe_op op_add (pe_callB call_len_seq rfl T.z_len PySem.boot_len (pa_cons (pv 6) pa_nil)) pe_int)) (pa_cons (pv 5) pa_nil))))))
  (pss_one (ps_ret (pv 6)))))))) ?_)
 obtain ⟨sr,s1,s2,s3⟩:=id hS
 obtain ⟨xs,ys,x1,y1,xy⟩:=SsI.two s2 s3
 refine (xWPWPP _ rfl sa rfl ⟨_,SqL.of s1⟩ (fun D1 hD1=>?_))
 refine comp_pure S.length (fun i=>.ref (xs.getD i 0)) hD1 (by omega) (fun i H' hi g=>(xWWP _ (.ref (sr[i]'(by omega))) (SqL.of (g _ _ s1)) (by rw [Zk,Zz (by omega)];rfl))) (fun H' g=>(xWP _ (SqL.of (g _ _ s1)) (by rw [Zq,s2];exact Nat.le_refl _))) ?_ ?_
 ·rintro i H' x H'' k hi g ⟨rfl,hx⟩ hk
  have hx:=hx _ (SqL.of (g _ _ s1))
  obtain ⟨r,a,b,e1,e2,e3,e4,e5,e6⟩:=xy i _ (GR.get_of hi)
  rw [Zk,e1] at hx
  cases hx
  refine (xWWPPPWWP r _ rfl (SqT.of (g _ _ e4)) rfl _ _ rfl (xWWPPPWP _ _ rfl rfl (((Fills.refl _).set _ rfl).set _ rfl) _ rfl ?_))
  have:=hk _ (Same.refl _)
  rw [Zv,e2] at this
  exact this
 intro H1 g1 eD1
 refine (xWPWPP _ rfl sa rfl ⟨_,SqL.of (g1 _ _ s1)⟩ (fun D2 hD2=>?_))
 refine comp_pure S.length (fun i=>.ref (ys.getD i 0)) hD2 (by omega) (fun i H' hi g=>(xWWP _ (.ref (sr[i]'(by omega))) (SqL.of (g _ _ (g1 _ _ s1))) (by rw [Zk,Zz (by omega)];rfl))) (fun H' g=>(xWP _ (SqL.of (g _ _ (g1 _ _ s1))) (by rw [Zq,s2];exact Nat.le_refl _))) ?_ ?_
 ·rintro i H' x H'' k hi g ⟨rfl,hx⟩ hk
  have hx:=hx _ (SqL.of (g _ _ (g1 _ _ s1)))
  obtain ⟨r,a,b,e1,e2,e3,e4,e5,e6⟩:=xy i _ (GR.get_of hi)
  rw [Zk,e1] at hx
  cases hx
  refine (xWWPPPWWP r _ rfl (SqT.of (g _ _ (g1 _ _ e4))) rfl _ _ rfl (xWWPPPWP _ _ rfl rfl (((Fills.refl _).set _ rfl).set _ rfl) _ rfl ?_))
  have:=hk _ (Same.refl _)
  rw [Zv,e3] at this
  exact this
 intro H2 g2 eD2
 have tx:∀ {zs:List Addr},zs.length=S.length→(List.range S.length).map (fun i=>V.ref (zs.getD i 0))=zs.map V.ref:=fun {zs} hz=>by
  refine List.ext_getElem (by simp [hz]) fun i h1 h2=>?_
  simp only [Zq,Yj] at h1
  simp [Zv,Zz (show i<zs.length by omega)]
 rw [tx x1] at eD1
 rw [tx y1] at eD2
 have g12:=g1.trans g2
 refine (xWWWWPPPP D1 D2 _ _ rfl rfl (g2 _ _ eD1) eD2 ⟨by rw [Zq,Zq,x1,y1];exact Yr (by omega:_≤120) (by decide), fun D3 hD3=>?_⟩)
 have g3:=same_new hD3 (.lst (xs.map V.ref++ys.map V.ref))
 have g13:=g12.trans g3
 let PP:List Pt:=S.map (·.1)++S.map (·.2)
 let vs:ST.Xs:=(PP.map key).zip (xs++ys)
 have lPP:(PP.map key).length=(xs++ys).length:=by simp [PP,x1,y1]
 have vm:vs.map (fun x=>V.ref x.2)=xs.map V.ref++ys.map V.ref:=by
  have:vs.map (·.2)=xs++ys:=List.map_snd_zip (by omega)
  rw [←Zt,←this,Yg];rfl
 have vk:vs.map (·.1)=PP.map key:=List.map_fst_zip (by omega)
 have mp:∀ p,p∈PP↔∃ q,Adj S p q:=fun p=>by
  show p∈S.map (·.1)++S.map (·.2)↔_
  rw [Zf,Zh,Zh]
  constructor
  ·rintro (⟨s,hs, rfl⟩ | ⟨s,hs, rfl⟩)
   ·exact ⟨s.2,.inl hs⟩
   ·exact ⟨s.1,.inr hs⟩
  ·rintro ⟨q,h | h⟩
   ·exact .inl (xWP _ h rfl)
   ·exact .inr (xWP _ h rfl)
 have pdm:∀ p∈PP,p∈dom:=fun p hp=>by
  obtain ⟨q,h | h⟩:=(mp p).mp hp
  ·exact (hdm _ h).1
  ·exact (hdm _ h).2
 have vat:∀ x∈vs,∃ p∈PP,x.1=key p∧PtA H x.2 p:=fun x hx=>by
  obtain ⟨i,hi,rfl⟩:=Yy.mp hx
  rw [List.getElem_zip]
  have hi':i<PP.length:=by have:=hi;rw [List.length_zip] at this;simp at this ⊢;omega
  refine (xWPP (PP[i]) (Zp hi') (by rw [List.getElem_map]) ?_)
  show PtA H ((xs++ys)[i]'(by rw [←lPP,Zq];exact hi')) PP[i]
  by_cases c:i<S.length
  ·obtain ⟨r,a,b,e1,e2,e3,e4,e5,e6⟩:=xy i _ (GR.get_of c)
   have z1:(xs++ys)[i]'(by simp;omega)=a:=by
    rw [List.getElem_append_left (by omega)]
    exact Option.some.inj ((GR.get_of (by omega)).symm.trans e2)
   have z2:PP[i]=S[i].1:=by
    show (S.map (·.1)++S.map (·.2))[i]=_
    rw [List.getElem_append_left (by rw [Zq];exact c),List.getElem_map]
   rw [z1,z2];exact e5
  ·have c':i-S.length<S.length:=by have:=hi';simp [PP] at this;omega
   obtain ⟨r,a,b,e1,e2,e3,e4,e5,e6⟩:=xy (i-S.length) _ (GR.get_of c')
   have z1:(xs++ys)[i]'(by simp;omega)=b:=by
    rw [List.getElem_append_right (by omega)]
    have:ys[i-xs.length]?=some b:=by rw [x1];exact e3
    exact Option.some.inj ((GR.get_of (by omega)).symm.trans this)
   have z2:PP[i]=S[i-S.length].2:=by
    show (S.map (·.1)++S.map (·.2))[i]=_
    rw [List.getElem_append_right (by rw [Zq];omega),List.getElem_map]
    simp
   rw [z1,z2];exact e6
 refine (xWWWPPPPP D3 vs (dom.map key) rfl (by rw [vm];exact SqL.of upd_same) (fun x hx=>?_) (by rw [Zq];omega) (fun x hx=>?_) (fun S0 zs hS0 hacc hnd=>?_))
 ·obtain ⟨p,_,e1,e2⟩:=vat x hx
  rw [e1];exact SqT.of (g13 _ _ e2)
 ·obtain ⟨p,hp,e1,_⟩:=vat x hx
  rw [e1];exact Yf (pdm p hp)
 have g4:=same_new hS0 (SetO P w S0 zs)
 have g14:=g13.trans g4
 have zat:∀ x∈zs,∃ p∈PP,x.1=key p∧PtA H x.2 p:=fun x hx=>vat x (hacc.sub x hx)
 have zl:zs.length≤10:=by
  have:=GR.sub_len hnd (b:=dom.map key) fun k hk=>by
   obtain ⟨x,hx,rfl⟩:=Zh.mp hk
   obtain ⟨p,hp,e1,_⟩:=zat x hx
   rw [e1];exact Yf (pdm p hp)
  rw [Zq,Zq] at this
  omega
 have nd2:(zs.map (·.2)).Nodup:=by
  refine GR.nodup_map (GR.nodup_of_map hnd) fun x hx y hy e=>?_
  obtain ⟨p,_,a1,a2⟩:=zat x hx
  obtain ⟨p',_,b1,b2⟩:=zat y hy
  rw [e,PtA,b2] at a2
  have:p'=p:=by injection a2 with a2;injection a2 with a2;injection a2 with h1 h2;injection h1 with h1;injection h2 with h2 _;injection h2 with h2;exact Prod.ext h1 h2
  exact Prod.ext (by rw [a1,b1,this]) e
 refine (xWWPPPPP S0 zs rfl upd_same (fun x hx=>?_) (by omega) nd2 (fun l ws hl hperm _=>?_))
 ·obtain ⟨p,_,e1,e2⟩:=zat x hx
  rw [e1];exact ⟨by simp [key],SqT.of (g14 _ _ e2)⟩
 have g5:=same_new hl (.lst (ws.map fun x=>V.ref x.2))
 have g15:Same H (upd (upd (upd H2 D3 (.lst (xs.map V.ref++ys.map V.ref))) S0 (SetO P w S0 zs)) l (.lst (ws.map fun x=>V.ref x.2))):=g14.trans g5
 obtain ⟨pts,pt1,pt2⟩:=lift_r (fun i p=>∀ x,ws[i]?=some x→x.1=key p∧PtA H x.2 p) ws.length fun i hi=>by
  obtain ⟨p,_,e1,e2⟩:=zat _ (hperm.mem_iff.mp (Zp hi))
  exact ⟨p,fun x e=>by rw [GR.get_of hi] at e;cases e;exact ⟨e1,e2⟩⟩
 have wk:ws.map (·.1)=pts.map key:=by
  refine List.ext_getElem (by simp [pt1]) fun i h1 h2=>?_
  simp only [Zq] at h1 h2
  rw [List.getElem_map,List.getElem_map]
  exact (pt2 i _ (GR.get_of (by omega)) _ (GR.get_of h1)).1
 have pnd:pts.Nodup:=by
  refine GR.nodup_of_map (f:=key) ?_
  rw [←wk]
  exact (hperm.map (·.1)).nodup_iff.mpr hnd
 have pmem:∀ p,p∈pts↔p∈PP:=fun p=>by
  constructor
  ·intro hp
   have:key p∈ws.map (·.1):=by rw [wk];exact Yf hp
   obtain ⟨x,hx,e⟩:=Zh.mp this
   obtain ⟨p',hp',e1,_⟩:=zat x (hperm.mem_iff.mp hx)
   rw [←key_inj (e1.symm.trans e)];exact hp'
  ·intro hp
   have:key p∈vs.map (·.1):=by rw [vk];exact Yf hp
   obtain ⟨x,hx,e⟩:=Zh.mp this
   obtain ⟨y,hy,e2⟩:=hacc.al x (by rw [Yv];exact hx)
   have:key p∈pts.map key:=by
    rw [←wk,←e,←e2];exact Yf (hperm.mem_iff.mpr hy)
   obtain ⟨p',hp',e3⟩:=Zh.mp this
   rw [←key_inj e3];exact hp'
 have pl10:pts.length≤10:=by rw [pt1,hperm.length_eq];exact zl
 have hpts:TsI (upd (upd (upd H2 D3 (.lst (xs.map V.ref++ys.map V.ref))) S0 (SetO P w S0 zs)) l (.lst (ws.map fun x=>V.ref x.2))) l pts:=by
  refine (xWPP (ws.map (·.2)) (by rw [Yg];exact upd_same) (by rw [Zq,pt1]) (fun i p e=>?_))
  have hi:i<ws.length:=by rw [←pt1];exact (Zj.mp e).1
  exact (xWP (ws[i].2) (by rw [Zk,GR.get_of hi];rfl) (g15 _ _ (pt2 i p e _ (GR.get_of hi)).2))
 have pne:pts≠[]:=fun z=>by
  obtain ⟨s,hs⟩:=List.exists_mem_of_ne_nil S hne
  have:=(pmem s.1).mpr ((mp _).mpr ⟨s.2,.inl hs⟩)
  rw [z] at this;cases this
 show gName 2 (V.ref l) _ (upd (upd (upd H2 D3 (.lst (xs.map V.ref++ys.map V.ref))) S0 (SetO P w S0 zs)) l (.lst (ws.map fun x=>V.ref x.2))) _
 generalize upd (upd (upd H2 D3 (.lst (xs.map V.ref++ys.map V.ref))) S0 (SetO P w S0 zs)) l (.lst (ws.map fun x=>V.ref x.2))=H5 at g15 hpts ⊢
 clear hS0 hl g5 g4 g14 hD3 eD1 eD2 hD1 hD2 g3 g13
 obtain ⟨pr,p1,p2,p3⟩:=id hpts
 refine ⟨(by show 0≤sizeLine;decide),fun sm hsm=>?_⟩
 have k1:=same_new hsm (.lst [])
 have hsm0:H sm=none:=g15.free hsm
 dsimp only [gName]
 refine viaN (fun σ' H'=>(∃ v4 v5,σ'=[some (.ref sa),some (.int n),some (.ref l),some (.ref sm),v4,v5,none])∧Same H5 H'∧∃ F,TsI H' sm F∧F.Nodup∧F.length≤10∧(∀ p∈F,p∈pts)∧∀ p∈pts,(nb S p).length≠2→p∈F) (fun N n1=>?_) ?_
 ·let Pv1:Nat→L2.St→L2.Hp→Prop:=fun i σ H'=>(∃ v4 v5,σ=[some (.ref sa),some (.int n),some (.ref l),some (.ref sm),v4,v5,none])∧Same H5 H'∧∃ F,TsI H' sm F∧F.Nodup∧F.length≤i∧(∀ p∈F,p∈pts.take i)∧∀ p∈pts.take i,(nb S p).length≠2→p∈F
  refine (xWPWPP _ rfl l rfl ⟨_,SqL.of (k1 _ _ p1)⟩ (for_enum (K:=K) (a:=l) (xs:=pr.map V.ref) Pv1 (xPPWPPPP (xWW _ _ rfl) k1 ([]) (xWPP ([]) upd_same rfl (fun i z e=>by simp at e)) List.nodup_nil (Nat.le_refl _) (fun p hp=>by simp at hp) (fun p hp=>by simp at hp)) (fun _ _ _ _ ⟨_,g,_⟩=>SqL.of (g _ _ p1)) ?_ ?_))
  ·rintro i x σ H6 Tp hx ⟨⟨v4,v5, rfl⟩,g6,F,hF,nF,lF,sF, aF⟩ hTp
   obtain ⟨pt,ra,e1,rfl,e2⟩:=TsI.nth (a:=l) p2 p3 hx
   have hi:i<pts.length:=(Zj.mp e1).1
   have m1:=same_new hTp (.tup [vn i,.ref ra])
   have g7:=g6.trans m1
   have tk:pts.take (i+1)=pts.take i++[pt]:=by rw [List.take_add_one,e1];rfl
   have hnew:pt∉F:=fun z=>by
    have:=sF pt z
    obtain ⟨j,hj,ej⟩:=Yy.mp this
    rw [Yw] at hj
    rw [List.getElem_take] at ej
    have:=List.nodup_iff_pairwise_ne.mp pnd
    rw [List.pairwise_iff_getElem] at this
    exact this j i (by omega) hi (by omega) (ej.trans (Zj.mp e1).2.symm)
   obtain ⟨fr,f1,f2,f3⟩:=id hF
   have put:∀ {H':Hp},Same H6 H'→PtA H' ra pt→TsI (upd H' sm (.lst (fr.map V.ref++[.ref ra]))) sm (F++[pt])∧(F++[pt]).Nodup∧(F++[pt]).length≤i+1∧(∀ p∈F++[pt],p∈pts.take (i+1))∧∀ p∈pts.take (i+1),(nb S p).length≠2→p∈F++[pt]:=fun {H'} g hpt=>by
    refine (xPPPP (pts_push (g _ _ f1) f2 (fun j z e=>let ⟨r,a,b⟩:=f3 j z e;(xWP r a (g _ _ b))) hpt) ?_ (by simp;omega) (fun p hp=>?_) (fun p hp h2=>?_))
    ·rw [List.nodup_append]
     refine (xPP nF (by simp) (fun a ha b hb z=>?_))
     rw [Zb.mp hb] at z
     exact hnew (z▸ha)
    ·rw [tk]
     rcases Zf.mp hp with hp | hp
     ·exact List.mem_append_left _ (sF p hp)
     ·exact List.mem_append_right _ hp
    ·rw [tk] at hp
     rcases Zf.mp hp with hp | hp
     ·exact List.mem_append_left _ (aF p hp h2)
     ·exact List.mem_append_right _ hp
   have szF:(fr.map V.ref).length<sizeLine:=by rw [Zq,f2];exact Ys (by omega:F.length≤10) (by decide)
   refine (xWWPPPWWP Tp _ rfl (SqT.of upd_same) rfl _ _ rfl (xWWPP _ _ rfl rfl ?_))
   refine (xWPWP _ rfl _ rfl (xWWWWPPP sa ra S pt rfl (hS.same (g15.trans g7)) (g7 _ _ e2) (fun B H8 g8 hB hnb=>?_)))
   obtain ⟨br,b1,b2,_⟩:=hnb
   have g68:=m1.trans g8
   refine (xWWPPPWP B _ rfl (.inl (SqL.of b1)) rfl _ rfl (ite2 (fun c=>iteT ?_) (fun c=>?_)))
   ·obtain ⟨a1,a2,a3,a4,a5⟩:=put g68 (g68 _ _ (g6 _ _ e2))
    exact (xWPPWP _ rfl (.inl ⟨rfl,_, SqL.of (g68 _ _ f1)⟩) _ rfl (xWWWPPPPP sm _ _ rfl rfl (g68 _ _ f1) szF (xWW _ _ rfl) (xPWPPPP ((g6.trans g68).fresh hsm _) _ a1 a2 a3 a4 a5)))
   ·have two:(nb S pt).length=2:=by
     apply Classical.byContradiction
     intro z
     apply c
     have:¬(V.int (((br.map V.ref).length:Nat):Int)=V.int 2):=fun y=>z (by
      have y:=V.int.inj y
      rw [Zq,b2] at y
      omega)
     rw [decide_eq_false this];rfl
    have pw:(1:Int)*2 ^ (i:Int).toNat=((2 ^ i:Nat):Int):=by simp
    have pl:2 ^ i≤2 ^ 10:=Nat.pow_le_pow_right (by decide) (by omega)
    have pp:0<2 ^ i:=Nat.pow_pos (by decide)
    refine (xWPWPWWPP _ rfl _ rfl _ _ rfl rfl (xPWWPPP (xPP (by omega) (by omega) (by decide)) _ _ rfl rfl ?_ (xWWPPPPWP _ _ rfl rfl (by show (0:Int)<2;decide) rfl _ rfl (ite2 (fun _=>?_) (fun _=>?_)))))
    ·show 0<(1:Int)*2 ^ (i:Int).toNat∧(1:Int)*2 ^ (i:Int).toNat<1073741824
     rw [pw]
     exact ⟨by omega,by omega⟩
    ·obtain ⟨a1,a2,a3,a4,a5⟩:=put g68 (g68 _ _ (g6 _ _ e2))
     exact (xWPPWP _ rfl (.inl ⟨rfl,_, SqL.of (g68 _ _ f1)⟩) _ rfl (xWWWPPPPP sm _ _ rfl rfl (g68 _ _ f1) szF (xWW _ _ rfl) (xPWPPPP ((g6.trans g68).fresh hsm _) _ a1 a2 a3 a4 a5)))
    ·refine (xPPWPPPP (xWW _ _ rfl) (g6.trans g68) F (hF.same g68) nF (by omega) (fun p hp=>?_) (fun p hp h2=>?_))
     ·rw [tk];exact List.mem_append_left _ (sF p hp)
     ·rw [tk] at hp
      rcases Zf.mp hp with hp | hp
      ·exact aF p hp h2
      ·rw [Zb.mp hp] at h2;exact absurd two h2
  ·rintro σ H6 ⟨h,g6,F,hF,nF,lF,sF, aF⟩
   rw [Zq,p2,Yv] at sF aF
   rw [Zq,p2] at lF
   exact n1 _ _ (xPPWPPPP h g6 F hF nF (by omega) sF aF)
 rintro σ' H6 ⟨⟨v4,v5, rfl⟩,g6,F,hF,nF,lF,sF, aF⟩
 refine ⟨(by show 0≤sizeLine;decide),fun fd hfd=>?_⟩
 have k2:=same_new hfd (.lst [])
 have hfd0:H fd=none:=(g15.trans g6).free hfd
 obtain ⟨fr,f1,f2,f3⟩:=hF.same k2
 have shp:SeqAt.shaped (.list (F.map dP))=true:=by
  have this:PyData.canLayAll0 (F.map dP)=true∧PyData.depthAll (F.map dP)≤4:=lay_all 4 fun d hd=>by
   obtain ⟨z,_,rfl⟩:=Zh.mp hd
   exact ⟨rfl,by simp [dP,PyData.depth,PyData.depthAll]⟩
  unfold SeqAt.shaped
  rw [Xv]
  refine ⟨this.1,decide_eq_true ?_⟩
  show PyData.depthAll (F.map dP)+1≤64
  have:=this.2
  omega
 have nilq:PyData.eqv (.list (F.map dP)) (.list [])=decide (F=[]):=by
  cases F with
  | nil=>rfl
  | cons x F=>rfl
 dsimp only [gName]
 refine (xWPWPWPP _ rfl _ rfl _ rfl (by show 0≤sizeLine;decide) (fun ea hea=>?_))
 have k3:=same_new hea (.lst [])
 refine (xWWPPPP (.list (F.map dP)) (.list []) (.lst (SqL.of (k3 _ _ f1)) (TsI.bds f2 fun i z e=>let ⟨r,a,b⟩:=f3 i z e;(xWP r a (k3 _ _ b)))) (.lst (SqL.of upd_same) .nil) shp rfl ?_)
 rw [nilq,Bool.xor_false]
 obtain ⟨j,hj,hj1, hjF⟩:∃ j:Nat,(if decide (F=[])=true then (1:Int) else 0)=(j:Int)∧j≤1∧(F=[]↔j=1):=by
  by_cases c:F=[]
  ·exact (xWPP 1 (by rw [if_pos (decide_eq_true c)];rfl) (Nat.le_refl _) (by simp [c]))
  ·exact (xWPP 0 (by rw [if_neg (by rw [decide_eq_true_iff];exact c)];rfl) (by decide) (by simp [c]))
 refine .inr (xWP _ rfl ?_)
 have g7:=g6.trans (k2.trans k3)
 refine (xWPWWPP _ rfl l _ rfl (SqL.of (g7 _ _ p1)) (fun cu hcu=>?_))
 have k4:=same_new hcu (.lst ((pr.take j).map V.ref))
 have ec:cutV (pr.map V.ref) none (some (if decide (F=[])=true then (1:Int) else 0))=(pr.take j).map V.ref:=by rw [hj,cut_toV,List.map_take]
 rw [ec]
 refine (xWWWWPPPP sm cu _ _ rfl rfl (k4 _ _ (k3 _ _ f1)) upd_same ⟨by rw [Zq,Zq,f2,Yw];exact Yr (by omega:_≤20) (by decide), fun ga hga=>?_⟩)
 have k5:=same_new hga (.lst (fr.map V.ref++(pr.take j).map V.ref))
 have g8:=g7.trans (k4.trans k5)
 have hG:TsI (upd (upd (upd (upd H6 fd (.lst [])) ea (.lst [])) cu (.lst ((pr.take j).map V.ref))) ga (.lst (fr.map V.ref++(pr.take j).map V.ref))) ga (F++pts.take j):=by
  refine (xWPP (fr++pr.take j) (by rw [Zt];exact upd_same) (by rw [Zm,Zm,f2,Yw,Yw,p2]) (fun i z e=>?_))
  by_cases c:i<F.length
  ·rw [Zx c] at e
   obtain ⟨r,a,b⟩:=f3 i z e
   exact (xWP r (by rw [Zx (by omega)];exact a) (k5 _ _ (k4 _ _ (k3 _ _ b))))
  ·rw [Zy (by omega)] at e
   have hi:=(Zj.mp e).1
   rw [Yw] at hi
   rw [List.getElem?_take_of_lt (by omega)] at e
   obtain ⟨r,a,b⟩:=p3 _ z e
   exact (xWP r (by rw [Zy (by omega),f2,List.getElem?_take_of_lt (by omega)];exact a) (g8 _ _ b))
 have hfdE:upd (upd (upd (upd H6 fd (.lst [])) ea (.lst [])) cu (.lst ((pr.take j).map V.ref))) ga (.lst (fr.map V.ref++(pr.take j).map V.ref)) fd=some (.lst []):=k5 _ _ (k4 _ _ (k3 _ _ upd_same))
 have nga:fd≠ga:=fun z=>by
  have:upd (upd (upd H6 fd (.lst [])) ea (.lst [])) cu (.lst ((pr.take j).map V.ref)) fd=some (.lst []):=k4 _ _ (k3 _ _ upd_same)
  have h0:=hga
  rw [←z,this] at h0;cases h0
 generalize upd (upd (upd (upd H6 fd (.lst [])) ea (.lst [])) cu (.lst ((pr.take j).map V.ref))) ga (.lst (fr.map V.ref++(pr.take j).map V.ref))=H9 at g8 hG hfdE ⊢
 have gnd:(F++pts.take j).Nodup:=by
  by_cases c:F=[]
  ·rw [c,List.nil_append];exact pnd.sublist (List.take_sublist _ _)
  ·have:j=0:=by have:=mt hjF.mpr c;omega
   rw [this,List.take_zero,List.append_nil];exact nF
 have gsub:∀ p∈F++pts.take j,p∈pts:=fun p hp=>by
  rcases Zf.mp hp with hp | hp
  ·exact sF p hp
  ·exact List.mem_of_mem_take hp
 have gne:F++pts.take j≠[]:=fun z=>by
  obtain ⟨z1,z2⟩:=List.append_eq_nil_iff.mp z
  rw [hjF.mp z1] at z2
  cases pts with
  | nil=>exact pne rfl
  | cons x pts=>cases z2
 have gl:(F++pts.take j).length≤10:=Yr (GR.sub_len gnd gsub) pl10
 obtain ⟨gr,q1,q2,q3⟩:=id hG
 have hfin:∀ {Pl:List Pt},Pl.Perm (F++pts.take j)→Pls S Pl:=fun {Pl} pm=>by
  refine ⟨hU,pm.nodup_iff.mpr gnd,fun p hp=>(mp p).mp ((pmem p).mp (gsub p (pm.mem_iff.mp hp))), fun p x hpx hp=>?_⟩
  apply Classical.byContradiction
  intro h2
  exact hp (pm.mem_iff.mpr (List.mem_append_left _ (aF p ((pmem p).mpr ((mp p).mpr ⟨x,hpx⟩)) h2)))
 have g9:Same H H9:=g15.trans g8
 let Pv2:Nat→L2.St→L2.Hp→Prop:=fun i σ H'=>(∃ v4 v5,σ=[some (.ref sa),some (.int n),some (.ref l),some (.ref sm),v4,v5,some (.ref fd)])∧Same H H'∧H' ga=some (.lst (gr.map V.ref))∧(∀ (j':Nat) z,(F++pts.take j)[j']?=some z→∃ r,gr[j']?=some r∧PtA H' r z)∧∃ Pl,TsI H' fd Pl∧Pl.Perm ((F++pts.take j).take i)
 refine (xWPP ga rfl ⟨_,SqL.of q1⟩ (for_enum (K:=K) (a:=ga) (xs:=gr.map V.ref) Pv2 (xPPPPWP (xWW _ _ rfl) g9 q1 q3 ([]) (xWPP ([]) hfdE rfl (fun i z e=>by simp at e)) (by rw [List.take_zero])) (fun _ _ _ _ ⟨_,_,e,_⟩=>SqL.of e) ?_ ?_))
 ·rintro i x σ H1' Tp hx ⟨⟨v4',v5', rfl⟩,gA,eg,eq3,Pl,hPl, pm⟩ hTp
  obtain ⟨pt,ra,e1,rfl,e2⟩:=TsI.nth (a:=ga) q2 eq3 hx
  have hi:i<(F++pts.take j).length:=(Zj.mp e1).1
  have m1:=same_new hTp (.tup [vn i,.ref ra])
  obtain ⟨fr',t1,t2,t3⟩:=hPl.same m1
  have ll:Pl.length≤10:=by rw [pm.length_eq,Yw];omega
  have hra:=m1 _ _ e2
  have eg':=m1 _ _ eg
  have eq3':∀ (j':Nat) z,(F++pts.take j)[j']?=some z→∃ r,gr[j']?=some r∧PtA (upd H1' Tp (.tup [vn i,.ref ra])) r z:=fun j' z e=>let ⟨r,a,b⟩:=eq3 j' z e;(xWP r a (m1 _ _ b))
  have gA':=gA.trans m1
  refine (xWWPPPWWP Tp _ rfl (SqT.of upd_same) rfl _ _ rfl (xWWPP _ _ rfl rfl ?_))
  generalize upd H1' Tp (.tup [vn i,.ref ra])=H2' at t1 t3 hra eg' eq3' gA' ⊢
  obtain ⟨k,hk⟩:=Xk (Xz (n / (1024+37*(i:Int))) (show ((((fr'.map V.ref).length:Nat):Int)+1)≠0 by omega))
  have hk2:=Xj (n / (1024+37*(i:Int))) (show (0:Int)<(((fr'.map V.ref).length:Nat):Int)+1 by omega)
  have kl:k≤fr'.length:=by rw [hk,Zq] at hk2;omega
  have tn:∀ {b:Addr} {xs:List V},H2' b=some (.tup xs)→b≠fd:=fun hb z=>by rw [z,t1] at hb;cases hb
  refine (xWPPWPWP _ rfl (.inl ⟨rfl,_, SqL.of t1⟩) _ rfl _ rfl (xWWPPPWWP _ _ rfl rfl (.inl ⟨by decide,by decide⟩) _ _ rfl (xPWWPPPWP rfl _ _ rfl rfl ⟨by omega,by omega⟩ _ rfl (xWWPPWWPP fd _ rfl (.inl (SqL.of t1)) _ _ rfl rfl (xWWPPPWP _ _ rfl rfl ?_ _ rfl (xWWWWPPPP fd _ k (.ref ra) rfl ?_ t1 (by rw [Zq];exact kl) (xPPPPPWP (by rw [Zq,t2];exact Ys ll (by decide)) (xWW _ _ rfl) (gA'.fresh hfd0 _) (by rw [upd_ne (Ne.symm nga)];exact eg') (fun j' z e=>?_) (insAt Pl k pt) (TsI.insert t1 t2 t3 hra (by omega)) ?_)))))))
  ·show (0:Int)<(((fr'.map V.ref).length:Nat):Int)+1
   omega
  ·exact congrArg (fun z=>[V.int z,V.ref ra]) hk
  ·obtain ⟨r,a,b⟩:=eq3' j' z e
   exact (xWP r a (by rw [PtA,upd_ne (tn b)];exact b))
  ·rw [List.take_add_one,e1]
   refine (AW.ins_perm Pl k pt).trans ?_
   exact (List.Perm.cons pt pm).trans (List.perm_append_comm (l₁:=[pt]))
 ·rintro σ H1' ⟨⟨v4',v5', rfl⟩,gA,_,_,Pl,hPl, pm⟩
  rw [Zq,q2,Yv] at pm
  exact (xWP _ rfl (q fd Pl _ gA hPl (hfin pm) (fun z=>gne (by rw [z] at pm;exact (List.nil_perm.mp pm))) (by rw [pm.length_eq];exact gl) fun p hp=>pdm p ((pmem p).mp (gsub p (pm.mem_iff.mp hp)))))
end K76
namespace K76
open PySem L2 PyProof.Rows TX
variable {P:Program} {w:World} {K:PySem.W.Frag} {mg:Str→Option Value} {base:Heap} {t:Adr}
def spAt (K:PySem.W.Frag):Sp:=fun vs H Q _=>∃ (a:Addr) (ns:List Int) (k:Int),vs=[.ref a,.int k]∧SqL K H a (ns.map V.int)∧0≤k∧∀ c:Int,Q (.int c) H
theorem at_int {ns:List Int} {k:Int} (h0:0≤k) (h:k<(ns.length:Int)):∃ v:Int,atI (ns.map V.int) k=some (.int v):=by
 have hk:k.toNat<ns.length:=by omega
 have ek:k=((k.toNat:Nat):Int):=by omega
 have q:atI (ns.map V.int) ((k.toNat:Nat):Int)=some (.int ns[k.toNat]):=atI_nat (by rw [Zk,Zz hk]<;>rfl)
 rw [←ek] at q
 exact ⟨_,q⟩
theorem ok_at (T:Txt K mg t):FnOk P w K mg base CX0 1 t.a_l_at t.d_l_at ["_law_script","_law_k"] (spAt K):=by
 refine T.F_l_at.ok sc_l_at (fun vs H Q E h=>?_) (fun cdv A outer s H vs Q E hr h=>?_)
 ·obtain ⟨a,ns,k,rfl,_⟩:=h;rfl
 obtain ⟨a,ns,k,rfl,hS,h0,q⟩:=h
 refine (xWP _ (pss_cons (ps_if (pt_cmpR op_lt (pv 1) (pe_callB call_len_seq rfl T.z_len PySem.boot_len (pa_cons (pv 0) pa_nil)) (nomark _)) (pss_one (ps_ret (pe_ix ix_list (pv 0) (pv 1) (fun _ _=>rfl)))) pss_nil)
  (pss_one (ps_ret (pe_op op_add (pe_op op_mul pe_int (pv 1)) pe_int)))) ?_)
 refine (xWPWPWWPP _ rfl _ rfl a _ rfl (.inl hS) (xWWPPWP _ _ rfl rfl _ rfl ?_))
 refine ite2 (fun c=>?_) (fun c=>?_)
 ·have c':k<(((ns.map V.int).length:Nat):Int):=of_decide_eq_true c
  rw [Zq] at c'
  obtain ⟨v,hv⟩:=at_int h0 c'
  exact (xWPWP _ rfl _ rfl (xWWWWPPPP a _ _ _ rfl rfl hS hv (q v)))
 ·exact (xWPWWPPP _ rfl _ _ rfl rfl (.inl ⟨by decide,by decide⟩) (xWWPP _ _ rfl rfl (q _)))
def spMix:Sp:=fun vs H Q _=>∃ c k:Int,vs=[.int c,.int k]∧0≤k∧k≤1000∧∀ m:Int,0≤m→m<2147483648→Q (.int m) H
theorem ok_mix (T:Txt K mg t):FnOk P w K mg base CX0 1 t.a_l_mix t.d_l_mix ["_law_cell","_law_place"] spMix:=by
 refine T.F_l_mix.ok sc_l_mix (fun vs H Q E h=>?_) (fun cdv A outer s H vs Q E hr h=>?_)
 ·obtain ⟨a,k,rfl,_⟩:=h;rfl
 obtain ⟨c,k,rfl,h0,h1,q⟩:=h
 have nd:=sc_l_mix.nd
 refine (xWP _ (pss_cons (ps_if (pt_cmpR op_ge (pv 0) (pe_op op_pow pe_int pe_int) (nomark _)) (pss_cons (ps_set (i:=0) nd rfl (Or.inl rfl) (pe_op op_sub (pe_op op_fdivW (pv 0) (pe_op op_pow pe_int pe_int)) pe_int))
  (pss_cons (ps_for PassesOwn.never rfl (pi_range1 rfl T.z_range (pa_cons (pe_op op_mod (pv 1) pe_int) pa_nil)) (pg_name (i:=2) nd rfl (Or.inl rfl)) (pss_one (ps_set (i:=0) nd rfl (Or.inl rfl) (pe_op op_fdivW (pv 0) pe_int))))
  (pss_one (ps_ret (pe_op op_mod (pv 0) pe_int))))) pss_nil)
  (pss_cons (ps_set (i:=3) nd rfl (Or.inl rfl) (pe_op op_mod (pe_op op_mul (pe_op op_add (pe_op op_add (pe_op op_mod (pv 0) pe_int) (pv 1)) pe_int) (pe_op op_add (pe_op op_mul (pe_op op_mul pe_int (pv 1)) (pv 1)) pe_int)) pe_int))
  (pss_cons (ps_set (i:=3) nd rfl (Or.inl rfl) (pe_op op_mod (pe_op op_mul (pv 3) (pv 3)) pe_int))
  (pss_one (ps_ret (pe_op op_mod (pe_op op_mul (pv 3) (pe_op op_add (pv 3) pe_int)) pe_int)))))) ?_)
 have p12:CPow 10 12:=(xPP (by decide) (by decide) (by decide))
 refine (xWPWWPPP _ rfl _ _ rfl rfl p12 (xWWPPWP _ _ rfl rfl _ rfl ?_))
 refine ite2 (fun _=>?_) (fun _=>?_)
 ·refine (xWPWWPPP _ rfl _ _ rfl rfl p12 (xWWPPPWWP _ _ rfl rfl ⟨by decide,by decide⟩ _ _ rfl ⟨rfl, ?_⟩))
  refine (xWPWWPPP _ rfl _ _ rfl rfl (by show (0:Int)<61;decide) (xWPPP (k%61) rfl (by omega) (by omega) (for_range (lo:=0) (n:=(k%61).toNat) (fun _ σ H'=>H'=H∧∃ (c':Int) (o:Option V),σ=[some (.int c'),some (.int k),o,none]) ⟨rfl, (xWW _ none rfl)⟩ ?_ ?_)))
  ·rintro i σ H' hi ⟨rfl,c',o, rfl⟩
   exact (xWPWWPPPP _ rfl _ _ rfl rfl ⟨by decide,by decide⟩ rfl (xWW _ _ rfl))
  ·rintro σ H' ⟨rfl,c',o, rfl⟩
   exact (xWPWWPPP _ rfl _ _ rfl rfl (by show (0:Int)<2147483648;decide) (q _ (Xz _ (by decide)) (Xj _ (by decide))))
 ·refine (xWPWWPPP _ rfl _ _ rfl rfl (by show (0:Int)<2147483629;decide) (xWPWWPP _ rfl _ _ rfl rfl (xWWPPWP _ _ rfl rfl _ rfl (xWWPPPWP _ _ rfl rfl (.inl ⟨by decide,by decide⟩) _ rfl (xWWPPPWWP _ _ rfl rfl (.inl ⟨by omega,by omega⟩) _ _ rfl (xPWWPPP rfl _ _ rfl rfl ?_ (xWWPPP _ _ rfl rfl (by show (0:Int)<2147483647;decide) ?_)))))))
  ·have:=Xz c (show (2147483629:Int)≠0 by decide)
   have:=Xj c (show (0:Int)<2147483629 by decide)
   exact .inl ⟨by omega,by omega⟩
  have b1:∀ x:Int,0≤x%2147483647∧x%2147483647<2147483647:=fun x=>⟨Xz _ (by decide),Xj _ (by decide)⟩
  have b2:∀ x:Int,0≤x%2147483587∧x%2147483587<2147483587:=fun x=>⟨Xz _ (by decide),Xj _ (by decide)⟩
  have r1:=b1 ((c%2147483629+k+1)*(8*k*k+48271))
  generalize ((c%2147483629+k+1)*(8*k*k+48271)%2147483647:Int)=n1 at r1 ⊢
  refine (xWPWPWWPP _ rfl _ rfl _ _ rfl rfl (xPWWPPP (.inl ⟨by omega,by omega⟩) _ _ rfl rfl (by show (0:Int)<2147483587;decide) ?_))
  have r2:=b2 (n1*n1)
  generalize n1*n1%2147483587=n2 at r2 ⊢
  refine (xWPWPWWPP _ rfl _ rfl _ _ rfl rfl (xWWPPPWWP _ _ rfl rfl (.inl ⟨by omega,by omega⟩) _ _ rfl (xPP rfl (by show (0:Int)<2147483579;decide) (q _ (Xz _ (by decide)) ?_))))
  exact Int.lt_trans (Xj _ (by decide)) (by decide)
end K76
namespace L2
open PySem PySem.Spec PyProof.Rows GR
theorem lx_tri:∀ a b:List Int,a≠b→SO.lx b a=!SO.lx a b
 | [],[],h=>absurd rfl h
 | [],_::_,_=>rfl
 | _::_,[],_=>rfl
 | x::a,y::b,h=>by
  unfold SO.lx
  by_cases e:x=y
  ·subst e
   rw [if_pos rfl,if_pos rfl]
   exact lx_tri a b fun z=>h (by rw [z])
  ·rw [if_neg e,if_neg (Ne.symm e)]
   rcases Int.lt_trichotomy x y with c | c | c
   ·rw [decide_eq_false (by omega),decide_eq_true c];rfl
   ·exact absurd c e
   ·rw [decide_eq_true c,decide_eq_false (by omega)];rfl
theorem lxL_tri:∀ a b:List (List Int),a≠b→SO.lxL b a=!SO.lxL a b
 | [],[],h=>absurd rfl h
 | [],_::_,_=>rfl
 | _::_,[],_=>rfl
 | x::a,y::b,h=>by
  unfold SO.lxL
  by_cases e:x=y
  ·subst e
   rw [if_pos rfl,if_pos rfl]
   exact lxL_tri a b fun z=>h (by rw [z])
  ·rw [if_neg e,if_neg (Ne.symm e)]
   exact lx_tri x y e
def ltP (a b:List Pt):Bool:=SO.lxL (a.map key) (b.map key)
theorem map_key_inj:∀ {a b:List Pt},a.map key=b.map key→a=b
 | [],[],_=>rfl
 | [],_::_,h=>by cases h
 | _::_,[],h=>by cases h
 | x::a,y::b,h=>by
  injection h with h1 h2
  rw [key_inj h1,map_key_inj h2]
theorem ltP_lt:GR.Lt ltP:=⟨fun a b h=>lxL_tri _ _ fun z=>h (map_key_inj z)⟩
def LsI (H:Hp) (a:Addr) (F:List (List Pt)):Prop:=∃ rr:List Addr,H a=some (.lst (rr.map V.ref))∧rr.length=F.length∧a∉rr∧∀ (i:Nat) r,F[i]?=some r→∃ x,rr[i]?=some x∧TsI H x r
theorem LsI.same {H H':Hp} {a:Addr} {F:List (List Pt)} (h:LsI H a F) (g:Same H H'):LsI H' a F:=by
 obtain ⟨rr,h1,h2,h3, h4⟩:=h
 exact ⟨rr,g _ _ h1,h2,h3, fun i r e=>let ⟨x,q1,q2⟩:=h4 i r e;⟨x,q1, q2.same g⟩⟩
theorem TsI.other' {H:Hp} {a o:Addr} {ts:List Pt} (h:TsI H a ts) {xs:List V} (ho:H o=some (.lst xs)) (ne:a≠o) (u:HO):TsI (upd H o u) a ts:=by
 obtain ⟨tr,h1,h2, h3⟩:=h
 exact ⟨tr,by rw [upd_ne ne];exact h1,h2, fun i t e=>let ⟨r,q1,q2⟩:=h3 i t e;⟨r,q1, by rw [upd_ne (show r≠o from fun z=>by rw [z,ho] at q2;cases q2)];exact q2⟩⟩
theorem LsI.insert {H:Hp} {D x:Addr} {F:List (List Pt)} {rr:List Addr} {r:List Pt} (h1:H D=some (.lst (rr.map V.ref))) (h2:rr.length=F.length) (h3:D∉rr) (h4:∀ (i:Nat) r,F[i]?=some r→∃ x,rr[i]?=some x∧TsI H x r) (hr:TsI H x r) (xD:x≠D) {k:Nat} (hk:k≤F.length):LsI (upd H D (.lst (insAt (rr.map V.ref) k (.ref x)))) D (insAt F k r):=by
 have ge:∀ {α:Type} {l:List α} {x:α} (i:Nat),k≤l.length→(insAt l k x)[i]?=if i<k then l[i]? else if i=k then some x else l[i-1]?:=fun {α l x} i hl=>ST.insL_get hl x i
 have em:insAt (rr.map V.ref) k (V.ref x)=(insAt rr k x).map V.ref:=by unfold insAt;simp [List.map_take,List.map_drop]
 refine ⟨insAt rr k x,by rw [em];exact upd_same,?_,fun z=>?_, fun i s e=>?_⟩
 ·have l1:=ST.insL_len rr k x
  have l2:=ST.insL_len F k r
  show (ST.insL rr k x).length=(ST.insL F k r).length
  omega
 ·rcases ST.insL_mem.mp z with z | z
  ·exact xD z.symm
  ·exact h3 z
 ·rw [ge i hk] at e
  rw [ge i (by omega)]
  have kp:∀ {y:Addr} {s:List Pt} {i:Nat},rr[i]?=some y→TsI H y s→TsI (upd H D (.lst (insAt (rr.map V.ref) k (.ref x)))) y s:=fun hy ht=>ht.other' h1 (fun z=>h3 (z▸Zg hy)) _
  by_cases c1:i<k
  ·rw [if_pos c1] at e ⊢
   obtain ⟨y,e1, e2⟩:=h4 i s e
   exact ⟨y,e1, kp e1 e2⟩
  ·rw [if_neg c1] at e ⊢
   by_cases c2:i=k
   ·rw [if_pos c2] at e ⊢
    cases e
    exact ⟨x,rfl, hr.other' h1 xD _⟩
   ·rw [if_neg c2] at e ⊢
    obtain ⟨y,e1, e2⟩:=h4 (i-1) s e
    exact ⟨y,e1, kp e1 e2⟩
theorem TsI.xs {K:PySem.W.Frag} {H:Hp} {a:Addr} {r:List Pt} (h:TsI H a r):∃ xs:ST.Xs,H a=some (.lst (xs.map fun x=>V.ref x.2))∧xs.map (·.1)=r.map key∧(∀ x∈xs,SqT K H x.2 (x.1.map V.int))∧xs.length=r.length∧∀ (i:Nat) p,r[i]?=some p→∃ x,xs[i]?=some x∧PtA H x.2 p:=by
 obtain ⟨tr,h1,h2, h3⟩:=h
 have l2:(r.map key).length=tr.length:=by rw [Zq,h2]
 have m2:((r.map key).zip tr).map (·.2)=tr:=List.map_snd_zip (by omega)
 have at_:∀ (i:Nat) p,r[i]?=some p→∃ x,((r.map key).zip tr)[i]?=some x∧x.1=key p∧PtA H x.2 p:=fun i p e=>by
  obtain ⟨x,q1, q2⟩:=h3 i p e
  exact ⟨(key p,x),by rw [List.getElem?_zip_eq_some];exact ⟨by rw [Zk,e];rfl,q1⟩,rfl, q2⟩
 refine ⟨(r.map key).zip tr,?_,List.map_fst_zip (by omega),fun x hx=>?_,by rw [List.length_zip,Zq];omega, fun i p e=>let ⟨x,q1,_,q3⟩:=at_ i p e;⟨x,q1, q3⟩⟩
 ·rw [h1]
  congr 2
  rw [show ((r.map key).zip tr).map (fun x=>V.ref x.2)=(((r.map key).zip tr).map (·.2)).map V.ref by rw [Yg];rfl,m2]
 ·obtain ⟨i,hi, rfl⟩:=Yy.mp hx
  have hi':i<r.length:=by rw [List.length_zip,Zq] at hi;omega
  obtain ⟨x,q1,q2, q3⟩:=at_ i _ (GR.get_of hi')
  rw [GR.get_of hi] at q1
  cases q1
  rw [q2];exact SqT.of q3
end L2
namespace K76
open PySem L2 PyProof.Rows TX GR
variable {P:Program} {w:World} {K:PySem.W.Frag} {mg:Str→Option Value} {base:Heap} {t:Adr}
def spWays:Sp:=fun vs H Q _=>∃ (sa pl:Addr) (n:Int) (S:Sts) (Pl Ps:List Pt),vs=[.ref sa,.ref pl,.int n]∧SsI H sa S∧TsI H pl Pl∧Pls S Pl∧Pl.length≤10∧(∀ a b,Adj S a b→a∈Ps)∧Ps.length≤30∧∀ (D:Addr) (F:List (List Pt)) (H':Hp),Same H H'→LsI H' D F→Rows S Pl F→F.length≤40→(∀ r∈F,r.length≤32)→Q (.ref D) H'
theorem ok_ways (T:Txt K mg t):FnOk P w K mg base CX0 3 t.a_l_ways t.d_l_ways ["_law_steps_here","_law_places_here","_law_number"] spWays:=by
 have G_l_beside:=ok_beside (P:=P) (w:=w) (base:=base) T
 have G_l_gone:=ok_gone (P:=P) (w:=w) (base:=base) T
 have G_l_mix:=ok_mix (P:=P) (w:=w) (base:=base) T
 refine T.F_l_ways.ok sc_l_ways (fun vs H Q E h=>?_) (fun cdv A outer s H vs Q E hr h=>?_)
 ·obtain ⟨sa,pl,n,S,Pl,Ps,rfl,_⟩:=h;rfl
 obtain ⟨sa,pl,n,S,Pl,Ps,rfl,hS,hPl,hP,l10,hPs,l30,q⟩:=h
 have nd:=sc_l_ways.nd
 have hu12:(A.deeper (envOfC (Str.ofString "_law_ways") (defScope s_l_ways) s.heap.objs.size t.a_l_ways cdv)).units+12<cLine:=by have:=hr.units;omega
 refine (xWP _ (pss_cons (ps_set (i:=3) nd rfl (Or.inl rfl) (pe_lst pa_nil))
  (pss_cons (ps_for PassesOwn.never rfl (pi_list (pv 1)) (pg_name (i:=4) nd rfl (Or.inl rfl)) (pss_one (ps_for PassesOwn.never rfl (pi_list (pe_call G_l_beside (hr.mono (by decide)) rfl T.m_l_beside T.k_l_beside T.b_l_beside .nil pass0 (pa_cons (pv 0) (pa_cons (pv 4) pa_nil)))) (pg_name (i:=5) nd rfl (Or.inl rfl)) (pss_cons (ps_set (i:=6) nd rfl (Or.inl rfl) (pe_call G_l_gone (hr.mono (by decide)) rfl T.m_l_gone T.k_l_gone T.b_l_gone .nil pass0 (pa_cons (pv 0) (pa_cons (pv 1) (pa_cons (pv 4) (pa_cons (pv 5) pa_nil))))))
  (pss_one (ps_if (pt_cmpR (op_ltL hu12) (pv 6) (pe_sliceR (pv 6) po_none po_none (po_some (pe_un un_neg pe_int))) (nomark _)) (pss_cons (ps_expr (pe_bm PySem.F.plainAttrs_list PySem.F.slot_list_insert PySem.F.type_list_insert mt_insert (pv 3) (pa_cons (pe_op op_mod (pv 2) (pe_op op_add (pe_callB call_len_seq rfl T.z_len PySem.boot_len (pa_cons (pv 3) pa_nil)) pe_int)) (pa_cons (pe_sliceP (pv 6) po_none po_none (po_some (pe_ix ix_list (pe_lst (pa_cons pe_int (pa_cons (pe_un un_neg pe_int) pa_nil))) (pe_op op_mod (pe_op op_fdiv (pv 2) pe_int) pe_int) (fun _ _=>rfl)))) pa_nil))))
  (pss_one (ps_set (i:=2) nd rfl (Or.inl rfl) (pe_call G_l_mix (hr.mono (by decide)) rfl T.m_l_mix T.k_l_mix T.b_l_mix .nil pass0 (pa_cons (pv 2) (pa_cons (pe_callB call_len_seq rfl T.z_len PySem.boot_len (pa_cons (pv 3) pa_nil)) pa_nil)))))) pss_nil))))))
  (pss_one (ps_ret (pv 3))))) ?_)
 refine ⟨(by show 0≤sizeLine;decide),fun D hD=>?_⟩
 have b1:=same_new hD (.lst [])
 obtain ⟨pr,p1,p2,p3⟩:=id hPl
 let pf:Pt→List (Option Pt×Option Pt):=fun p=>(nb S p).map fun o=>(some p,some o)
 let Pv1:Nat→L2.St→L2.Hp→Prop:=fun i σ H'=>(∃ v2 v4 v5 v6,σ=[some (.ref sa),some (.ref pl),some (.int v2),some (.ref D),v4,v5,v6])∧Same H H'∧∃ F Dl,LsI H' D F∧Fd S Pl ltP Dl F∧(∀ r∈Dl,En S Pl r)∧Dl.map hd2=(Pl.take i).flatMap pf∧F.length≤4*i∧∀ r∈F,r.length≤32
 refine (xWPWPP _ rfl pl rfl ⟨_,SqL.of (b1 _ _ p1)⟩ (for_list (xs:=pr.map V.ref) Pv1 (xPPWWPPPP (xWWWW _ _ _ _ rfl) b1 ([]) ([]) (xWPPP ([]) upd_same rfl (by simp) (fun i r e=>by simp at e)) ⟨fun r h=>by simp at h,List.Perm.refl _⟩ (fun r h=>by simp at h) rfl ⟨Nat.le_refl _, fun r h=>by simp at h⟩) (fun _ _ _ _ ⟨_,g,_⟩=>SqL.of (g _ _ p1)) ?_ ?_))
 ·rintro i x σ H1 hx ⟨⟨v2,v4,v5,v6, rfl⟩,g1,F0,Dl0,hF0,hf0,he0,hd0,lF0, lr0⟩
  obtain ⟨p,pa,e1,rfl,e2⟩:=TsI.nth (a:=pl) p2 p3 hx
  have hi:i<Pl.length:=(Zj.mp e1).1
  have hpm:=Zg e1
  refine (xWPWP _ rfl _ rfl (xWWWWPPP sa pa S p rfl (hS.same g1) (g1 _ _ e2) (fun B H2 g2 hB hnb=>?_)))
  obtain ⟨br,b1',b2',b3'⟩:=hnb
  have g12:=g1.trans g2
  have nBD:B≠D:=fun z=>by
   obtain ⟨rr,h1,_⟩:=hF0
   rw [z,h1] at hB;cases hB
  have nl:=nb_len S p
  let Pv2:Nat→L2.St→L2.Hp→Prop:=fun j σ H'=>(∃ v2 v5 v6,σ=[some (.ref sa),some (.ref pl),some (.int v2),some (.ref D),some (.ref pa),v5,v6])∧Same H H'∧H' B=some (.lst (br.map V.ref))∧(∀ (k:Nat) z,(nb S p)[k]?=some z→∃ r,br[k]?=some r∧PtA H' r z)∧∃ F Dl,LsI H' D F∧Fd S Pl ltP Dl F∧(∀ r∈Dl,En S Pl r)∧Dl.map hd2=(Pl.take i).flatMap pf++((nb S p).take j).map (fun o=>(some p,some o))∧F.length≤4*i+j∧∀ r∈F,r.length≤32
  refine (xWPP B rfl ⟨_,SqL.of b1'⟩ (for_list (xs:=br.map V.ref) Pv2 (xPPPPWWPP (xWWW _ _ _ rfl) g12 b1' b3' F0 Dl0 (hF0.same g2) hf0 (xPPP he0 (by rw [List.take_zero];simpa using hd0) (by omega) lr0)) (fun _ _ _ _ ⟨_,_,e,_⟩=>SqL.of e) ?_ ?_))
  ·rintro j x σ H3 hx ⟨⟨v2,v5,v6, rfl⟩,g3,hB3,hB3',F,Dl,hF,hf,he,hd,lF, lr⟩
   obtain ⟨o,oa,f1,rfl,f2⟩:=TsI.nth (a:=B) b2' hB3' hx
   have hj:j<(nb S p).length:=(Zj.mp f1).1
   have hAdj:=(mem_nb hP.u).mp (Zg f1)
   refine (xWPWPWPWP _ rfl _ rfl _ rfl _ rfl (xWWWWWWWW sa pl pa oa S Pl Ps p (xWPPPPPPP o rfl (hS.same g3) (hPl.same g3) (g3 _ _ e2) f2 hP hpm (xPPP hAdj hPs l30 (fun R r H4 g4 hR hr4 hEn r0 r1 l32=>?_)))))
   have hF4:=hF.same g4
   have nRD:R≠D:=fun z=>by
    obtain ⟨rr,h1,_⟩:=hF
    rw [z,h1] at hR;cases hR
   have hdN:(Dl++[r]).map hd2=(Pl.take i).flatMap pf++((nb S p).take (j+1)).map (fun o=>(some p,some o)):=by
    rw [Zt,hd,List.take_add_one,f1,Zt,Yb]
    show _++(_++[(r[0]?,r[1]?)])=_
    rw [r0,r1];rfl
   have heN:∀ r'∈Dl++[r],En S Pl r':=fun r' h=>by
    rcases Zf.mp h with h | h
    ·exact he r' h
    ·rw [Zb.mp h];exact hEn
   have b4:∀ (k:Nat) z,(nb S p)[k]?=some z→∃ r,br[k]?=some r∧PtA H4 r z:=fun k z e=>let ⟨r,a,b⟩:=hB3' k z e;(xWP r a (g4 _ _ b))
   obtain ⟨xs,x1,x2,x3,x4,x5⟩:=TsI.xs (K:=K) hr4
   refine (xWPWPWPWP _ rfl _ rfl _ rfl _ rfl (xWWWPPPPP R _ 0 rfl (SqL.of x1) rfl rfl (.inl ⟨rfl,rfl⟩) (fun B2 hB2=>?_)))
   have k1:=same_new hB2 (.lst ((xs.map fun x=>V.ref x.2).drop 0).reverse)
   have er:((xs.map fun x=>V.ref x.2).drop 0).reverse=xs.reverse.map fun x=>V.ref x.2:=by rw [List.drop_zero,List.map_reverse]
   rw [er] at k1
   rw [er]
   refine (xWWWWPPPP R B2 xs xs.reverse rfl rfl (SqL.of (k1 _ _ x1)) (SqL.of upd_same) (xPPWP (fun x hx=>k1.tup (x3 x hx)) (fun x hx=>k1.tup (x3 x (List.mem_reverse.mp hx))) _ rfl ?_))
   have el:SO.lxL (xs.map (·.1)) (xs.reverse.map (·.1))=ltP r r.reverse:=by
    unfold ltP
    rw [List.map_reverse,x2,List.map_reverse]
   rw [el]
   refine ite2 (fun c=>?_) (fun c=>?_)
   ·obtain ⟨k,hk⟩:∃ k:Nat,v2 / 64%2=(k:Int)∧k<2:=(xWP ((v2 / 64%2).toNat) (by omega) (by omega))
    obtain ⟨rr,h1,h2,h3,h4⟩:=hF4.same k1
    obtain ⟨m,hm⟩:=Xk (Xz v2 (show ((((rr.map V.ref).length:Nat):Int)+1)≠0 by omega))
    have hm2:=Xj v2 (show (0:Int)<(((rr.map V.ref).length:Nat):Int)+1 by omega)
    have ml:m≤rr.length:=by rw [hm,Zq] at hm2;omega
    refine (xWPPWPWP _ rfl (.inl ⟨rfl,_, SqL.of h1⟩) _ rfl _ rfl (xWWPPWWPP D _ rfl (.inl (SqL.of h1)) _ _ rfl rfl (xWWPPPWP _ _ rfl rfl ?_ _ rfl (xWPP _ rfl (by show 2≤sizeLine;decide) (fun l2 hl2=>?_)))))
    ·show (0:Int)<(((rr.map V.ref).length:Nat):Int)+1
     omega
    have k2:=same_new hl2 (.lst [V.int 1,V.int (-1)])
    obtain ⟨sg,hsg, hsg2⟩:∃ sg:Int,atI [V.int 1,V.int (-1)] (v2 / 64%2)=some (.int sg)∧(sg=1∨sg = -1):=by
     rw [hk.1]
     match k,hk.2 with
     | 0,_=>exact (xWP 1 rfl (.inl rfl))
     | 1,_=>exact (xWP (-1) rfl (.inr rfl))
    have k12:=k1.trans k2
    refine (xWPWWPPP _ rfl _ _ rfl rfl ⟨by decide,by decide⟩ (xWWPPP _ _ rfl rfl (by show (0:Int)<2;decide) (xWWWWPPPP l2 _ _ _ rfl rfl (SqL.of upd_same) hsg (xWPWWWPPP sg rfl R _ sg rfl (SqL.of (k12 _ _ x1)) rfl (xPPP rfl rfl hsg2 (fun N3 hN3=>?_))))))
    have k3:=same_new hN3 (.lst (if sg=1 then xs.map (fun x=>V.ref x.2) else (xs.map fun x=>V.ref x.2).reverse))
    have k13:=k12.trans k3
    let r':List Pt:=if sg=1 then r else r.reverse
    have hr':r'=r∨r'=r.reverse:=by show (if sg=1 then r else r.reverse)=r∨(if sg=1 then r else r.reverse)=r.reverse;split<;>simp
    have hN:TsI (upd (upd (upd H4 B2 (.lst (xs.reverse.map fun x=>V.ref x.2))) l2 (.lst [V.int 1,V.int (-1)])) N3 (.lst (if sg=1 then xs.map (fun x=>V.ref x.2) else (xs.map fun x=>V.ref x.2).reverse))) N3 r':=by
     rcases hsg2 with e | e
     ·subst e
      refine (xWPP (xs.map (·.2)) (by rw [upd_same,Yg];rfl) (by rw [Zq,x4];rfl) (fun i' z e=>?_))
      obtain ⟨x,q1,q2⟩:=x5 i' z e
      exact (xWP x.2 (by rw [Zk,q1];rfl) (k13 _ _ q2))
     ·subst e
      refine (xWPP ((xs.map (·.2)).reverse) (by rw [upd_same,List.map_reverse,Yg];rfl) (by rw [Yp,Zq,x4];show r.length=r.reverse.length;rw [Yp]) (fun i' z e=>?_))
      have e:r.reverse[i']?=some z:=e
      have hi':i' < r.length:=by simpa using (Zj.mp e).1
      rw [Yh hi'] at e
      obtain ⟨x,q1,q2⟩:=x5 _ z e
      refine (xWP x.2 ?_ (k13 _ _ q2))
      rw [Yh (by rw [Zq,x4];exact hi'),Zq,x4,Zk,q1];rfl
    have h1':=(k2.trans k3) _ _ h1
    have nND:N3≠D:=fun z=>by
     have:=k2 _ _ h1
     rw [←z,hN3] at this;cases this
    have hB5:=k13 _ _ (g4 _ _ hB3)
    refine (xWWWWPPPP D _ m (.ref N3) rfl ?_ h1' (by rw [Zq];exact ml) ⟨by rw [Zq,h2];exact Ys (by omega:F.length≤100) (by decide), ?_⟩)
    ·exact congrArg (fun z=>[V.int z,V.ref N3]) hm
    have ins:=LsI.insert h1' h2 h3 (fun i' r'' e=>let ⟨x,a,b⟩:=h4 i' r'' e;(xWP x a (b.same (k2.trans k3)))) hN nND (k:=m) (by omega)
    have gN:=((g3.trans g4).trans k13).fresh hD (.lst (insAt (rr.map V.ref) m (.ref N3)))
    have tn:∀ {b:Addr} {ys:List V},upd (upd (upd H4 B2 (.lst (xs.reverse.map fun x=>V.ref x.2))) l2 (.lst [V.int 1,V.int (-1)])) N3 (.lst (if sg=1 then xs.map (fun x=>V.ref x.2) else (xs.map fun x=>V.ref x.2).reverse)) b=some (.tup ys)→b≠D:=fun hb z=>by rw [z,h1'] at hb;cases hb
    have hB6:=(upd_ne (o:=.lst (insAt (rr.map V.ref) m (.ref N3))) nBD).trans hB5
    have b6:∀ (k:Nat) z,(nb S p)[k]?=some z→∃ r,br[k]?=some r∧PtA (upd (upd (upd (upd H4 B2 (.lst (xs.reverse.map fun x=>V.ref x.2))) l2 (.lst [V.int 1,V.int (-1)])) N3 (.lst (if sg=1 then xs.map (fun x=>V.ref x.2) else (xs.map fun x=>V.ref x.2).reverse))) D (.lst (insAt (rr.map V.ref) m (.ref N3)))) r z:=fun k z e=>let ⟨r,a,b⟩:=b4 k z e;(xWP r a (by rw [PtA,upd_ne (tn (k13 _ _ b))];exact k13 _ _ b))
    have hFN:=hf.put ltP_lt hP hEn c hr' (AW.ins_perm F m r')
    generalize upd (upd (upd (upd H4 B2 (.lst (xs.reverse.map fun x=>V.ref x.2))) l2 (.lst [V.int 1,V.int (-1)])) N3 (.lst (if sg=1 then xs.map (fun x=>V.ref x.2) else (xs.map fun x=>V.ref x.2).reverse))) D (.lst (insAt (rr.map V.ref) m (.ref N3)))=H9 at ins gN hB6 b6 ⊢
    obtain ⟨rr',i1,i2,i3,i4⟩:=id ins
    have il:(insAt F m r').length=F.length+1:=(AW.ins_perm F m r').length_eq
    refine (xWPWPWWPP _ rfl _ rfl D _ rfl (.inl (SqL.of i1)) (xWWPPP v2 _ rfl (by omega) ?_ (fun v2' _ _=>(xPPPPWWPP (xWWW _ _ _ rfl) gN hB6 b6 _ _ ins hFN (xPPP heN hdN (by rw [il];omega) (fun r'' h=>?_))))))
    ·rw [Zq,i2,il];omega
    ·rcases Zn.mp ((AW.ins_perm F m r').mem_iff.mp h) with rfl | h
     ·rcases hr' with z | z<;>rw [z]
      ·exact l32
      ·rw [Yp];exact l32
     ·exact lr r'' h
   ·refine (xPPPPWWPP (xWWW _ _ _ rfl) ((g3.trans g4).trans k1) (k1 _ _ (g4 _ _ hB3)) (fun k z e=>let ⟨r,a,b⟩:=b4 k z e;(xWP r a (k1 _ _ b))) F (Dl++[r]) (hF4.same k1) (hf.skip (by simpa using c)) (xPPP heN hdN (by omega) lr))
  ·rintro σ H3 ⟨⟨v2,v5,v6, rfl⟩,g3,_,_,F,Dl,hF,hf,he,hd,lF, lr⟩
   rw [Zq,b2'] at lF hd
   refine (xPPWWPPPP (xWWWW _ _ _ _ rfl) g3 F Dl hF hf he ?_ ⟨by omega, lr⟩)
   rw [hd,Yv,List.take_add_one,e1,List.flatMap_append]
   show _=_++List.flatMap pf [p]
   simp [pf]
 ·rintro σ H1 ⟨⟨v2,v4,v5,v6, rfl⟩,g1,F,Dl,hF,hf,he,hd,lF, lr⟩
  rw [Zq,p2] at lF hd
  rw [Yv] at hd
  exact (xWP _ rfl (q D F _ g1 hF (hf.rows ltP_lt hP ⟨he,hd⟩) (by omega) lr))
end K76
namespace L2
open PySem PySem.Spec PyProof.Rows GR
theorem eqv_pts:∀ a b:List Pt,PyData.eqvAll (a.map dP) (b.map dP)=decide (a=b)
 | [],[]=>rfl
 | [],_::_=>rfl
 | _::_,[]=>rfl
 | x::a,y::b=>by
  show (PyData.eqv (dP x) (dP y)&&PyData.eqvAll (a.map dP) (b.map dP))=_
  rw [eqv_pt,eqv_pts a b,Xw]
  simp
theorem eqv_ptl (a b:List Pt):PyData.eqv (.list (a.map dP)) (.list (b.map dP))=decide (a=b):=eqv_pts a b
theorem sh_ptl (a:List Pt):SeqAt.shaped (.list (a.map dP))=true:=by
 have this:PyData.canLayAll0 (a.map dP)=true∧PyData.depthAll (a.map dP)≤4:=lay_all 4 fun d hd=>by
  obtain ⟨z,_, rfl⟩:=Zh.mp hd
  exact ⟨rfl,by simp [dP,PyData.depth,PyData.depthAll]⟩
 unfold SeqAt.shaped
 rw [Xv]
 refine ⟨this.1,decide_eq_true ?_⟩
 show PyData.depthAll (a.map dP)+1≤64
 have:=this.2
 omega
theorem TsI.bd {K:PySem.W.Frag} {H:Hp} {a:Addr} {r:List Pt} (h:TsI H a r):Bd K H (.ref a) (.list (r.map dP)):=let ⟨_,h1,h2,h3⟩:=h;.lst (SqL.of h1) (TsI.bds h2 h3)
theorem TsI.cut {H:Hp} {a D:Addr} {r:List Pt} {xs:List V} (h:TsI H a r) (ha:H a=some (.lst xs)) (hD:H D=none) (k:Nat):TsI (upd H D (.lst (cutV xs none (some (k:Int))))) D (r.take k):=by
 obtain ⟨tr,h1,h2, h3⟩:=h
 rw [ha] at h1
 cases h1
 have g:=same_new hD (.lst (cutV (tr.map V.ref) none (some (k:Int))))
 refine ⟨tr.take k,by rw [upd_same,cut_toV,List.map_take],by rw [Yw,Yw,h2], fun i p e=>?_⟩
 have hi:i<k:=by have:=(Zj.mp e).1;rw [Yw] at this;omega
 rw [List.getElem?_take_of_lt hi] at e
 obtain ⟨x,q1, q2⟩:=h3 i p e
 exact ⟨x,by rw [List.getElem?_take_of_lt hi];exact q1, g _ _ q2⟩
theorem TsI.back {H:Hp} {a D:Addr} {r:List Pt} {xs:List V} (h:TsI H a r) (ha:H a=some (.lst xs)) (hD:H D=none):TsI (upd H D (.lst (xs.drop 0).reverse)) D r.reverse:=by
 obtain ⟨tr,h1,h2, h3⟩:=h
 rw [ha] at h1
 cases h1
 have g:=same_new hD (.lst ((tr.map V.ref).drop 0).reverse)
 refine ⟨tr.reverse,by rw [upd_same,List.drop_zero,List.map_reverse],by rw [Yp,Yp,h2], fun i p e=>?_⟩
 have hi:i<r.length:=by simpa using (Zj.mp e).1
 rw [Yh hi] at e
 obtain ⟨x,q1, q2⟩:=h3 _ p e
 exact ⟨x,by rw [Yh (by omega),h2];exact q1, g _ _ q2⟩
def OsN (H:Hp) (a:Addr) (os:AW.Os):Prop:=∃ tr:List Addr,H a=some (.lst (tr.map V.ref))∧tr.length=os.length∧a∉tr∧∀ (i:Nat) l,os[i]?=some l→∃ r,tr[i]?=some r∧H r=some (.lst (l.map V.int))
theorem OsN.same {H H':Hp} {a:Addr} {os:AW.Os} (h:OsN H a os) (g:Same H H'):OsN H' a os:=let ⟨tr,h1,h2,h3,h4⟩:=h;⟨tr,g _ _ h1,h2,h3, fun i l e=>let ⟨r,a,b⟩:=h4 i l e;⟨r,a, g _ _ b⟩⟩
theorem OsN.push {H:Hp} {a x:Addr} {os:AW.Os} {xs:List V} (h:OsN H a os) (ha:H a=some (.lst xs)) {l:List Int} (hx:H x=some (.lst (l.map V.int))) (xa:x≠a):OsN (upd H a (.lst (xs++[.ref x]))) a (os++[l]):=by
 obtain ⟨tr,h1,h2,h3, h4⟩:=h
 rw [ha] at h1
 cases h1
 refine ⟨tr++[x],by rw [Zt];exact upd_same,by simp [h2],fun z=>?_, fun i l' e=>?_⟩
 ·rcases Zf.mp z with z | z
  ·exact h3 z
  ·exact xa (Zb.mp z).symm
 ·by_cases c:i<os.length
  ·rw [Zx c] at e
   obtain ⟨r,q1, q2⟩:=h4 i l' e
   exact ⟨r,by rw [Zx (by omega)];exact q1, by rw [upd_ne (show r≠a from fun z=>h3 (z▸Zg q1))];exact q2⟩
  ·have hi:=(Zj.mp e).1
   simp at hi
   have:i=os.length:=by omega
   subst this
   rw [Zy (Nat.le_refl _),Nat.sub_self] at e
   cases e
   exact ⟨x,by rw [Zy (by omega),h2,Nat.sub_self];rfl, by rw [upd_ne xa];exact hx⟩
end L2
namespace K76
open PySem L2 PyProof.Rows TX GR
variable {P:Program} {w:World} {K:PySem.W.Frag} {mg:Str→Option Value} {base:Heap} {t:Adr}
def upTo (F:List (List Pt)) (p o:Pt) (m:Nat):List Nat:=(List.range m).filter fun e=>decide ((wy F e).take 2=[p,o])
theorem upTo_two (F:List (List Pt)) (p o:Pt) {k:Nat} (hk:k<F.length):upTo F p o (2*(k+1))=upTo F p o (2*k)++(if F[k].take 2=[p,o] then [2*k] else [])++(if F[k].reverse.take 2=[p,o] then [2*k+1] else []):=by
 unfold upTo
 rw [show 2*(k+1)=2*k+1+1 by omega,List.range_succ,List.range_succ,List.filter_append,List.filter_append]
 congr 1
 ·congr 1
  rw [List.filter_cons,wy_even hk,List.filter_nil]
  by_cases c:F[k].take 2=[p,o]
  ·rw [if_pos (decide_eq_true c),if_pos c]
  ·rw [if_neg (by rw [decide_eq_true_iff];exact c),if_neg c]
 ·rw [List.filter_cons,wy_odd hk,List.filter_nil]
  by_cases c:F[k].reverse.take 2=[p,o]
  ·rw [if_pos (decide_eq_true c),if_pos c]
  ·rw [if_neg (by rw [decide_eq_true_iff];exact c),if_neg c]
def vnI (l:List Nat):List V:=(l.map fun e:Nat=>(e:Int)).map V.int
def spChart:Sp:=fun vs H Q _=>∃ (sa pl ra:Addr) (n:Int) (S:Sts) (Pl:List Pt) (F:List (List Pt)),vs=[.ref sa,.ref pl,.ref ra,.int n]∧SsI H sa S∧TsI H pl Pl∧LsI H ra F∧Pls S Pl∧Rows S Pl F∧Pl.length≤10∧∀ (r:Addr) (os:AW.Os) (H':Hp),Same H H'→WebI H' r (Pl.length:Int) (tsO Pl F) os→os.length=Pl.length→(∀ (i:Nat) p o,Pl[i]?=some p→os[i]?=some o→o.Perm ((og S F p).map fun e:Nat=>(e:Int)))→Q (.ref r) H'
theorem ok_chart (T:Txt K mg t):FnOk P w K mg base CX0 2 t.a_l_chart t.d_l_chart ["_law_steps_here","_law_places_here","_law_rows_here","_law_number"] spChart:=by
 have G_l_beside:=ok_beside (P:=P) (w:=w) (base:=base) T
 refine T.F_l_chart.ok sc_l_chart (fun vs H Q E h=>?_) (fun cdv A outer s H vs Q E hr h=>?_)
 ·obtain ⟨sa,pl,ra,n,S,Pl,F,rfl,_⟩:=h;rfl
 obtain ⟨sa,pl,ra,n,S,Pl,F,rfl,hS,hPl,hF,hP,hR,l10,q⟩:=h
 have nd:=sc_l_chart.nd
 have hu64:=hr.units
 have nd_l_row_l_places_here:(["_law_row","_law_places_here"]:List Str).Nodup:=by decide
 refine (xWP _ (pss_cons (ps_set (i:=4) nd rfl (Or.inl rfl) (pe_lst pa_nil))
  (pss_cons (ps_for PassesOwn.never rfl (pi_list (pv 1)) (pg_name (i:=5) nd rfl (Or.inl rfl)) (pss_cons (ps_set (i:=6) nd rfl (Or.inl rfl) (pe_lst pa_nil))
  (pss_cons (ps_for PassesOwn.never rfl (pi_list (pe_call G_l_beside (hr.mono (by decide)) rfl T.m_l_beside T.k_l_beside T.b_l_beside .nil pass0 (pa_cons (pv 0) (pa_cons (pv 5) pa_nil)))) (pg_name (i:=7) nd rfl (Or.inl rfl)) (pss_one (ps_for PassesOwn.never rfl (pi_enum rfl T.z_enumerate (pa_cons (pv 2) pa_nil)) (pg_tup rfl (pgs_cons (pg_name (i:=8) nd rfl (Or.inl rfl)) (pgs_cons (pg_name (i:=9) nd rfl (Or.inl rfl)) pgs_nil))) (pss_cons (ps_if (pt_cmpR (op_eqD hr.units) (pe_slice sl_list (pv 9) po_none (po_some pe_int)) (pe_lst (pa_cons (pv 5) (pa_cons (pv 7) pa_nil))) (nomark _)) (pss_one (ps_expr (pe_bm PySem.F.plainAttrs_list PySem.F.slot_list_append PySem.F.type_list_append mt_append (pv 6) (pa_cons (pe_op op_mul pe_int (pv 8)) pa_nil)))) pss_nil)
  (pss_one (ps_if (pt_cmpR (op_eqD hr.units) (pe_slice sl_list (pe_sliceR (pv 9) po_none po_none (po_some (pe_un un_neg pe_int))) po_none (po_some pe_int)) (pe_lst (pa_cons (pv 5) (pa_cons (pv 7) pa_nil))) (nomark _)) (pss_one (ps_expr (pe_bm PySem.F.plainAttrs_list PySem.F.slot_list_append PySem.F.type_list_append mt_append (pv 6) (pa_cons (pe_op op_add (pe_op op_mul pe_int (pv 8)) pe_int) pa_nil)))) pss_nil))))))
  (pss_cons (ps_set (i:=10) nd rfl (Or.inl rfl) (pe_op op_mod (pv 3) (pe_callB call_len_seq rfl T.z_len PySem.boot_len (pa_cons (pv 6) pa_nil))))
  (pss_cons (ps_set (i:=3) nd rfl (Or.inl rfl) (pe_op op_fdiv (pv 3) pe_int))
  (pss_one (ps_expr (pe_bm PySem.F.plainAttrs_list PySem.F.slot_list_append PySem.F.type_list_append mt_append (pv 4) (pa_cons (pe_op op_cat (pe_slice sl_list (pv 6) (po_some (pv 10)) po_none) (pe_slice sl_list (pv 6) po_none (po_some (pv 10)))) pa_nil)))))))))
  (pss_one (ps_ret (pe_tup (pa_cons (pe_callB call_len_seq rfl T.z_len PySem.boot_len (pa_cons (pv 1) pa_nil)) (pa_cons (pe_comp (N':=["_law_row","_law_places_here"]) (js:=[none,some 1]) rfl (pi_list (pv 2)) (fun _ _ _ _ _=>(pg_name (i:=0) nd_l_row_l_places_here rfl (Or.inl rfl))) (fun _ _ _ _ _=>pf_nil) (fun _ _ _ _ _=>(pe_tup (pa_cons (kpe_bm (K:=K) rfl PySem.F.plainAttrs_list PySem.F.slot_list_index PySem.F.type_list_index (kmt_indexD (K:=K) rfl hu64) (pv 1) (pa_cons (pe_ix (kix_list (K:=K) rfl) (pv 0) pe_int (fun _ _=>rfl)) pa_nil)) (pa_cons (kpe_bm (K:=K) rfl PySem.F.plainAttrs_list PySem.F.slot_list_index PySem.F.type_list_index (kmt_indexD (K:=K) rfl hu64) (pv 1) (pa_cons (pe_ix (kix_list (K:=K) rfl) (pv 0) (pe_un un_neg pe_int) (fun _ _=>rfl)) pa_nil)) pa_nil))))) (pa_cons (pv 4) pa_nil)))))))) ?_)
 have fw:=few hP hR
 have fl:F.length≤20:=by omega
 refine ⟨(by show 0≤sizeLine;decide),fun Or hOr=>?_⟩
 have b1:=same_new hOr (.lst [])
 obtain ⟨pr,p1,p2,p3⟩:=id hPl
 obtain ⟨rr,r1,r2,r3,r4⟩:=id hF
 dsimp only [gName]
 refine viaN (fun σ' H'=>(∃ v3 v5 v6 v7 v8 v9 v10,σ'=[some (.ref sa),some (.ref pl),some (.ref ra),some (.int v3),some (.ref Or),v5,v6,v7,v8,v9,v10])∧Same H H'∧∃ os,OsN H' Or os∧os.length=Pl.length∧∀ (i:Nat) p o,Pl[i]?=some p→os[i]?=some o→o.Perm ((og S F p).map fun e:Nat=>(e:Int))) (fun N n1=>?_) ?_
 ·refine (xWPWPP _ rfl pl rfl ⟨_,SqL.of (b1 _ _ p1)⟩ (for_list (xs:=pr.map V.ref) (fun i σ H'=>(∃ v3 v5 v6 v7 v8 v9 v10,σ=[some (.ref sa),some (.ref pl),some (.ref ra),some (.int v3),some (.ref Or),v5,v6,v7,v8,v9,v10])∧Same H H'∧∃ os,OsN H' Or os∧os.length=i∧∀ (j:Nat) p o,Pl[j]?=some p→os[j]?=some o→o.Perm ((og S F p).map fun e:Nat=>(e:Int))) (xPPWPP (xWWWWWWW _ _ _ _ _ _ _ rfl) b1 ([]) (xWPPP ([]) upd_same rfl (by simp) (fun i l e=>by simp at e)) rfl (fun j p o _ e=>by simp at e)) (fun _ _ _ _ ⟨_,g,_⟩=>SqL.of (g _ _ p1)) ?_ ?_))
  ·rintro i x σ H1 hx ⟨⟨v3,v5,v6,v7,v8,v9,v10, rfl⟩,g1,os,hO,lO, oO⟩
   obtain ⟨p,pa,e1,rfl,e2⟩:=TsI.nth (a:=pl) p2 p3 hx
   have hi:i<Pl.length:=(Zj.mp e1).1
   have hpm:=Zg e1
   refine ⟨(by show 0≤sizeLine;decide),fun oa hoa=>?_⟩
   have k1:=same_new hoa (.lst [])
   have g2:=g1.trans k1
   dsimp only [gName]
   refine viaN (fun σ' H'=>(∃ v7 v8 v9 v10,σ'=[some (.ref sa),some (.ref pl),some (.ref ra),some (.int v3),some (.ref Or),some (.ref pa),some (.ref oa),v7,v8,v9,v10])∧Same H1 H'∧H' oa=some (.lst (vnI (og S F p)))) (fun N n2=>?_) ?_
   ·refine (xWPWP _ rfl _ rfl (xWWWWPPP sa pa S p rfl (hS.same g2) (g2 _ _ e2) (fun B H2 g3 hB hnb=>?_)))
    obtain ⟨br,c1,c2,c3⟩:=hnb
    have oa2:=g3 _ _ (upd_same (H:=H1) (a:=oa) (o:=.lst []))
    have nBo:B≠oa:=fun z=>by rw [z,upd_same] at hB;cases hB
    have g23:=k1.trans g3
    refine (xWPP B rfl ⟨_,SqL.of c1⟩ (for_list (xs:=br.map V.ref) (fun j σ H'=>(∃ v7 v8 v9 v10,σ=[some (.ref sa),some (.ref pl),some (.ref ra),some (.int v3),some (.ref Or),some (.ref pa),some (.ref oa),v7,v8,v9,v10])∧Same H1 H'∧H' B=some (.lst (br.map V.ref))∧(∀ (k:Nat) z,(nb S p)[k]?=some z→∃ r,br[k]?=some r∧PtA H' r z)∧H' oa=some (.lst (vnI (((nb S p).take j).flatMap fun o=>upTo F p o (2*F.length))))) (xPPPP (xWWWW _ _ _ _ rfl) g23 c1 c3 (by rw [List.take_zero];exact oa2)) (fun _ _ _ _ ⟨_,_,e,_⟩=>SqL.of e) ?_ ?_))
    ·rintro j x σ H3 hx ⟨⟨v7,v8,v9,v10, rfl⟩,g4,hB3,hB3', ho3⟩
     obtain ⟨o,ob,f1,rfl,f2⟩:=TsI.nth (a:=B) c2 hB3' hx
     have hj:j<(nb S p).length:=(Zj.mp f1).1
     have nl:=nb_len S p
     have tk:(nb S p).take (j+1)=(nb S p).take j++[o]:=by rw [List.take_add_one,f1];rfl
     refine (xWPWPP _ rfl ra rfl ⟨_,SqL.of (g4 _ _ (g1 _ _ r1))⟩ (for_enum (K:=K) (a:=ra) (xs:=rr.map V.ref) (fun k σ H'=>(∃ v8 v9 v10,σ=[some (.ref sa),some (.ref pl),some (.ref ra),some (.int v3),some (.ref Or),some (.ref pa),some (.ref oa),some (.ref ob),v8,v9,v10])∧Same H1 H'∧H' B=some (.lst (br.map V.ref))∧(∀ (k:Nat) z,(nb S p)[k]?=some z→∃ r,br[k]?=some r∧PtA H' r z)∧PtA H' ob o∧H' oa=some (.lst (vnI ((((nb S p).take j).flatMap fun o=>upTo F p o (2*F.length))++upTo F p o (2*k))))) (xPPPPP (xWWW _ _ _ rfl) g4 hB3 hB3' f2 (by rw [show upTo F p o (2*0)=[] from rfl,List.append_nil];exact ho3)) (fun _ _ _ _ ⟨_,g,_⟩=>SqL.of (g _ _ (g1 _ _ r1))) ?_ ?_))
     ·rintro k x σ H4 Tp hx ⟨⟨v8,v9,v10, rfl⟩,g5,hB4,hB4',f4, ho4⟩ hTp
      obtain ⟨r,xa,q1,rfl, q2⟩:∃ r xa,F[k]?=some r∧x=.ref xa∧TsI H xa r:=by
       rw [Zk] at hx
       have hk:k<rr.length:=by
        cases e:rr[k]? with
        | none=>rw [e] at hx;cases hx
        | some z=>exact (Zj.mp e).1
       obtain ⟨xa,a,b⟩:=r4 k _ (GR.get_of (by omega))
       rw [a] at hx
       exact (xWWPP _ xa (GR.get_of (by omega)) ((Option.some.inj hx).symm) b)
      have hk:k<F.length:=(Zj.mp q1).1
      have er:F[k]=r:=Option.some.inj ((GR.get_of hk).symm.trans q1)
      have m1:=same_new hTp (.tup [vn k,.ref xa])
      refine (xWWPPPWWP Tp _ rfl (SqT.of upd_same) rfl _ _ rfl (xWWPP _ _ rfl rfl ?_))
      have g6:=g5.trans m1
      have hB5:=m1 _ _ hB4
      have hB5':∀ (k':Nat) z,(nb S p)[k']?=some z→∃ r,br[k']?=some r∧PtA (upd H4 Tp (.tup [vn k,.ref xa])) r z:=fun k' z e=>let ⟨r,a,b⟩:=hB4' k' z e;(xWP r a (m1 _ _ b))
      have f5:=m1 _ _ f4
      have ho5:=m1 _ _ ho4
      generalize upd H4 Tp (.tup [vn k,.ref xa])=H5 at g6 hB5 hB5' f5 ho5 ⊢
      have base_len:(((nb S p).take j).flatMap fun o=>upTo F p o (2*F.length)).length≤160:=by
       have key:∀ l:List Pt,(l.flatMap fun o=>upTo F p o (2*F.length)).length≤40*l.length:=by
        intro l
        induction l with
        | nil=>exact Nat.le_refl _
        | cons a l ih =>
         rw [List.flatMap_cons,Zm,Yq]
         have:(upTo F p a (2*F.length)).length≤2*F.length:=by
          unfold upTo
          refine Yr (List.length_filter_le _ _) ?_
          rw [Yj];exact Nat.le_refl _
         omega
       refine Yr (key _) ?_
       rw [Yw];omega
      have up_len:(upTo F p o (2*k)).length≤2*k:=by
       unfold upTo
       refine Yr (List.length_filter_le _ _) ?_
       rw [Yj];exact Nat.le_refl _
      generalize hbase:(((nb S p).take j).flatMap fun o=>upTo F p o (2*F.length))=bs at base_len ho5 ⊢
      have szl:∀ l:List Nat,l.length≤500→(vnI l).length<sizeLine:=fun l hl=>by unfold vnI;rw [Zq,Zq];exact Ys hl (by decide)
      let Good:Hp→List Nat→Prop:=fun H' l=>Same H1 H'∧H' B=some (.lst (br.map V.ref))∧(∀ (k':Nat) z,(nb S p)[k']?=some z→∃ r,br[k']?=some r∧PtA H' r z)∧PtA H' ob o∧H' oa=some (.lst (vnI l))
      have push:∀ {H6:Hp} {l:List Nat} (e:Nat),Good H6 l→Good (upd H6 oa (.lst (vnI l++[.int (e:Int)]))) (l++[e]):=fun {H6 l} e ⟨a1,a2,a3,a4,a5⟩=>by
       have tn:∀ {b:Addr} {ys:List V},H6 b=some (.tup ys)→b≠oa:=fun hb z=>by rw [z,a5] at hb;cases hb
       refine (xPPPP (a1.fresh hoa _) (by rw [upd_ne nBo];exact a2) (fun k' z ee=>let ⟨r,a,b⟩:=a3 k' z ee;(xWP r a (by rw [PtA,upd_ne (tn b)];exact b))) (by rw [PtA,upd_ne (tn a4)];exact a4) ?_)
       rw [upd_same];unfold vnI;rw [Zt,Zt];rfl
      have keep:∀ {H6 H7:Hp} {l:List Nat},Same H6 H7→Good H6 l→Good H7 l:=fun g ⟨a1,a2,a3,a4,a5⟩=>(xPPPP (a1.trans g) (g _ _ a2) (fun k' z ee=>let ⟨r,a,b⟩:=a3 k' z ee;(xWP r a (g _ _ b))) (g _ _ a4) (g _ _ a5))
      have G5:Good H5 (bs++upTo F p o (2*k)):=(xPPPP g6 hB5 hB5' f5 ho5)
      have rowAt:∀ {H6:Hp} {l:List Nat},Good H6 l→TsI H6 xa r:=fun ⟨a1,_⟩=>(q2.same g1).same a1
      refine viaN (fun σ' H'=>σ'=[some (.ref sa),some (.ref pl),some (.ref ra),some (.int v3),some (.ref Or),some (.ref pa),some (.ref oa),some (.ref ob),some (vn k),some (.ref xa),v10]∧Good H' (bs++upTo F p o (2*k)++if r.take 2=[p,o] then [2*k] else [])) (fun N n3=>?_) ?_
      ·obtain ⟨xs,xe⟩:∃ xs,H5 xa=some (.lst xs):=let ⟨tr,h,_⟩:=rowAt G5;⟨_,h⟩
       refine (xWPWPWWPP _ rfl _ rfl xa xs rfl (SqL.of xe) (fun t1 ht1=>?_))
       have s1:=same_new ht1 (.lst (cutV xs none (some 2)))
       have c1':=TsI.cut (rowAt G5) xe ht1 2
       refine (xWPWPP _ rfl _ rfl (by show 2≤sizeLine;decide) (fun t2 ht2=>?_))
       have s2:=same_new ht2 (.lst [.ref pa,.ref ob])
       have s12:=s1.trans s2
       have c2':TsI (upd (upd H5 t1 (.lst (cutV xs none (some 2)))) t2 (.lst [.ref pa,.ref ob])) t2 [p,o]:=(xWPP ([pa,ob]) upd_same rfl (fun i z e=>by
        match i with
        | 0=>cases e;exact (xWP pa rfl (s12 _ _ (g6 _ _ (g1 _ _ e2))))
        | 1=>cases e;exact (xWP ob rfl (s12 _ _ f5))
        | i+2=>simp at e))
       refine (xWWPPPPWP _ _ ((c1'.same s2).bd) c2'.bd (sh_ptl _) (sh_ptl _) _ rfl ?_)
       rw [eqv_ptl,Bool.xor_false]
       refine ite2 (fun c=>?_) (fun c=>?_)
       ·have c:=of_decide_eq_true c
        have G6:=keep s12 G5
        refine (xWPPWPWWP _ rfl (.inl ⟨rfl,_, SqL.of G6.2.2.2.2⟩) _ rfl _ _ rfl (xPPWWWPPP rfl (.inl ⟨by decide,by decide⟩) oa _ _ rfl rfl G6.2.2.2.2 ⟨szl _ (by rw [Zm];omega), n3 _ _ ⟨rfl,?_⟩⟩))
        have:=push (2*k) G6
        rw [if_pos c]
        exact this
       ·have c:¬r.take 2=[p,o]:=fun z=>c (decide_eq_true z)
        refine n3 _ _ ⟨rfl,?_⟩
        rw [if_neg c,List.append_nil]
        exact keep s12 G5
      rintro σ' H6 ⟨rfl,G6⟩
      generalize hb2:bs++upTo F p o (2*k)++(if r.take 2=[p,o] then [2*k] else [])=bs2 at G6
      have l2:bs2.length≤400:=by
       rw [←hb2,Zm,Zm]
       have:(if r.take 2=[p,o] then [2*k] else []).length≤1:=by split<;>simp
       omega
      have fin:∀ {l:List Nat} {H':Hp},Good H' l→l=bs2++(if r.reverse.take 2=[p,o] then [2*k+1] else [])→Same H1 H'∧H' B=some (.lst (br.map V.ref))∧(∀ (k':Nat) z,(nb S p)[k']?=some z→∃ r,br[k']?=some r∧PtA H' r z)∧PtA H' ob o∧H' oa=some (.lst (vnI (bs++upTo F p o (2*(k+1))))):=fun {l H'} G e=>by
       have:bs++upTo F p o (2*(k+1))=l:=by
        rw [upTo_two F p o hk,er,e,←hb2]
        simp only [Yb]
       rw [this];exact G
      obtain ⟨xs,xe⟩:∃ xs,H6 xa=some (.lst xs):=let ⟨tr,h,_⟩:=rowAt G6;⟨_,h⟩
      refine (xWPWPWP _ rfl _ rfl _ rfl (xWWWPPPPP xa xs 0 rfl (SqL.of xe) rfl rfl (.inl ⟨rfl,rfl⟩) (fun t0 ht0=>?_)))
      have s0:=same_new ht0 (.lst (xs.drop 0).reverse)
      have c0':=TsI.back (rowAt G6) xe ht0
      refine (xWPWWPP _ rfl t0 _ rfl (SqL.of upd_same) (fun t1 ht1=>?_))
      have s1:=same_new ht1 (.lst (cutV (xs.drop 0).reverse none (some 2)))
      have c1':=TsI.cut c0' upd_same ht1 2
      refine (xWPWPP _ rfl _ rfl (by show 2≤sizeLine;decide) (fun t2 ht2=>?_))
      have s2:=same_new ht2 (.lst [.ref pa,.ref ob])
      have s12:=s0.trans (s1.trans s2)
      have c2':TsI (upd (upd (upd H6 t0 (.lst (xs.drop 0).reverse)) t1 (.lst (cutV (xs.drop 0).reverse none (some 2)))) t2 (.lst [.ref pa,.ref ob])) t2 [p,o]:=(xWPP ([pa,ob]) upd_same rfl (fun i z e=>by
       match i with
       | 0=>cases e;exact (xWP pa rfl (s12 _ _ (G6.1 _ _ (g1 _ _ e2))))
       | 1=>cases e;exact (xWP ob rfl (s12 _ _ G6.2.2.2.1))
       | i+2=>simp at e))
      refine (xWWPPPPWP _ _ ((c1'.same s2).bd) c2'.bd (sh_ptl _) (sh_ptl _) _ rfl ?_)
      rw [eqv_ptl,Bool.xor_false]
      have G7:=keep s12 G6
      refine ite2 (fun c=>?_) (fun c=>?_)
      ·have c:=of_decide_eq_true c
       refine (xWPPWPWWP _ rfl (.inl ⟨rfl,_, SqL.of G7.2.2.2.2⟩) _ rfl _ _ rfl (xPPWWPP rfl (.inl ⟨by decide,by decide⟩) _ _ rfl rfl (xWWWPPPPP oa _ _ rfl rfl G7.2.2.2.2 (szl _ (by omega)) (xWWW _ _ _ rfl) (fin (push (2*k+1) G7) (by rw [if_pos c])))))
      ·have c:¬r.reverse.take 2=[p,o]:=fun z=>c (decide_eq_true z)
       exact ⟨(xWWW _ _ _ rfl),fin G7 (by rw [if_neg c,List.append_nil])⟩
     ·rintro σ H4 ⟨⟨v8,v9,v10, rfl⟩,g5,hB4,hB4',_, ho4⟩
      rw [Zq,r2] at ho4
      refine (xPPPP (xWWWW _ _ _ _ rfl) g5 hB4 hB4' ?_)
      rw [tk,List.flatMap_append]
      simpa using ho4
    ·rintro σ H3 ⟨⟨v7,v8,v9,v10, rfl⟩,g4,_,_, ho3⟩
     rw [Zq,c2,Yv] at ho3
     exact n2 _ _ (xPP (xWWWW _ _ _ _ rfl) g4 ho3)
   rintro σ' H2 ⟨⟨v7,v8,v9,v10, rfl⟩,g4, ho⟩
   have ogl:=og_len hR p
   have ogp:0<(og S F p).length:=List.length_pos_iff.mpr (og_ne hP hR hpm)
   have vl:(vnI (og S F p)).length=(og S F p).length:=by unfold vnI;rw [Zq,Zq]
   have ps:(0:Int)<(((vnI (og S F p)).length:Nat):Int):=by rw [vl];omega
   obtain ⟨m,hm⟩:=Xk (Xz v3 (show (((vnI (og S F p)).length:Nat):Int)≠0 by omega))
   have hm2:=Xj v3 ps
   refine (xWPWPWWPP _ rfl _ rfl oa _ rfl (.inl (SqL.of ho)) (xWWPPP _ _ rfl rfl ps ?_))
   show gName 10 (V.int (v3%(((vnI (og S F p)).length:Nat):Int))) _ _ _
   rw [hm]
   refine (xWPWWPPP _ rfl _ _ rfl rfl ⟨by decide,by decide⟩ ?_)
   have hO2:=hO.same g4
   obtain ⟨ox,o1,o2,o3,o4⟩:=id hO2
   refine (xWPPWPWP _ rfl (.inl ⟨rfl,_, SqL.of o1⟩) _ rfl _ rfl (xWPWWPP _ rfl oa _ rfl (SqL.of ho) (fun t1 ht1=>?_)))
   have s1:=same_new ht1 (.lst (cutV (vnI (og S F p)) (some (m:Int)) none))
   refine (xWPWPWP _ rfl _ rfl _ rfl (xWWPP oa _ rfl (SqL.of (s1 _ _ ho)) (fun t2 ht2=>?_)))
   have s2:=same_new ht2 (.lst (cutV (vnI (og S F p)) none (some (m:Int))))
   rw [cut_fromV,cut_toV] at *
   refine (xWWWWPPPP t1 t2 _ _ rfl rfl (s2 _ _ upd_same) upd_same ⟨by rw [Yd,Yw,vl];exact Yr (by omega:_≤8) (by decide), fun t3 ht3=>?_⟩)
   have s3:=same_new ht3 (.lst ((vnI (og S F p)).drop m++(vnI (og S F p)).take m))
   have s13:=s1.trans (s2.trans s3)
   have el:(vnI (og S F p)).drop m++(vnI (og S F p)).take m=(((og S F p).drop m++(og S F p).take m).map fun e:Nat=>(e:Int)).map V.int:=by
    unfold vnI
    rw [←List.map_drop,←List.map_drop,←List.map_take,←List.map_take,←Zt,←Zt]
   have nt3:t3≠Or:=fun z=>by
    have:=(s1.trans s2) _ _ o1
    rw [←z,ht3] at this;cases this
   refine (xWWWPPPPP Or _ _ rfl rfl (s13 _ _ o1) (by rw [Zq,o2,lO];exact Ys (by omega:i≤10) (by decide)) (xWWWWWWW _ _ _ _ _ _ _ rfl) (xPWPP (((g1.trans g4).trans s13).fresh hOr _) (os++[_]) ((hO2.same s13).push (s13 _ _ o1) (by rw [upd_same,el]) nt3) (by simp [lO]) (fun j p' o' hp' ho'=>?_)))
   by_cases c:j<os.length
   ·rw [Zx c] at ho'
    exact oO j p' o' hp' ho'
   ·have hj:=(Zj.mp ho').1
    simp at hj
    have ej:j=os.length:=by omega
    subst ej
    rw [Zy (Nat.le_refl _),Nat.sub_self] at ho'
    cases ho'
    rw [lO,e1] at hp'
    cases hp'
    refine List.Perm.map _ ?_
    have:=List.perm_append_comm (l₁:=(og S F p).drop m) (l₂:=(og S F p).take m)
    rw [List.take_append_drop] at this
    exact this
  ·rintro σ H1 ⟨h,g1,os,hO,lO, oO⟩
   rw [Zq,p2] at lO
   exact n1 _ _ (xPPWPP h g1 os hO lO oO)
 rintro σ' H1 ⟨⟨v3,v5,v6,v7,v8,v9,v10, rfl⟩,g1,os,hO,lO, oO⟩
 have pl1:=g1 _ _ p1
 have lpl:(((pr.map V.ref).length:Nat):Int)=(Pl.length:Int):=by rw [Zq,p2]
 refine (xWPWWPP _ rfl pl _ rfl (.inl (SqL.of pl1)) ?_)
 rw [lpl]
 refine (xWPWPP _ rfl ra rfl ⟨_,SqL.of (g1 _ _ r1)⟩ (fun D hD=>?_))
 have idx:∀ {H':Hp} {xa:Addr} {p:Pt},Same H1 H'→PtA H' xa p→p∈Pl→∃ (xs:List V) (dx:PyData) (ds:List PyData) (j:Nat),H' pl=some (.lst xs)∧Bd K H' (.ref xa) dx∧Bds K H' xs ds∧smD dx∧(∀ d∈ds,smD d)∧(∃ d,ds[j]?=some d∧PyData.eqv d dx=true)∧(∀ m d,m<j→ds[m]?=some d→PyData.eqv d dx=false)∧(vn j)=.int (ixP Pl p):=fun {H' xa p} g hx hp=>by
  have hj:=List.idxOf_lt_length_of_mem hp
  have ej:=List.getElem_idxOf hj
  refine (xWWWWPPPP _ (dP p) (Pl.map dP) (Pl.idxOf p) (g _ _ pl1) (bd_pt hx) (TsI.bds p2 (fun i z e=>let ⟨x,a,b⟩:=p3 i z e;(xWP x a (g _ _ (g1 _ _ b))))) (sm_pt _) (xPPP (fun d hd=>by obtain ⟨z,_,rfl⟩:=Zh.mp hd;exact sm_pt z) (xWP (dP p) (by rw [Zk,GR.get_of hj,ej];rfl) (by rw [eqv_pt];exact decide_eq_true rfl)) (fun m d hm e=>?_) rfl))
  rw [Zk,GR.get_of (by omega:m<Pl.length)] at e
  cases e
  rw [eqv_pt]
  refine decide_eq_false fun z=>?_
  have:=List.nodup_iff_pairwise_ne.mp hP.nd
  rw [List.pairwise_iff_getElem] at this
  exact this m (Pl.idxOf p) (by omega) hj hm (z.trans ej.symm)
 refine comp_objs F.length (fun i o=>o=.tup [.int (ends2 Pl (F.getD i [])).1,.int (ends2 Pl (F.getD i [])).2]) hD (by omega) (fun i H' hi g=>(xWWP _ (.ref (rr[i]'(by omega))) (SqL.of (g _ _ (g1 _ _ r1))) (by rw [Zk,Zz (by omega)];rfl))) (fun H' g=>(xWP _ (SqL.of (g _ _ (g1 _ _ r1))) (by rw [Zq,r2];exact Nat.le_refl _))) ?_ ?_
 ·rintro i H' x H'' k hi g ⟨rfl,hx⟩ hk
  have hx:=hx _ (SqL.of (g _ _ (g1 _ _ r1)))
  obtain ⟨xa,a1,a2⟩:=r4 i _ (GR.get_of hi)
  rw [Zk,a1] at hx
  cases hx
  have gd:F.getD i []=F[i]:=by rw [Zv,GR.get_of hi];rfl
  have en:=hR.en _ (Zp hi)
  have hl:=en.t.len
  have gg:=g1.trans g
  obtain ⟨tr,t1,t2,t3⟩:=(a2.same gg).at
  have gf:=GR.get_of (l:=F[i]) (i:=0) (by omega)
  have gl:=GR.get_of (l:=F[i]) (i:=F[i].length-1) (by omega)
  obtain ⟨fa,fa1,fa2⟩:=t3 _ _ gf
  obtain ⟨la,la1,la2⟩:=t3 _ _ gl
  have lm:(tr.map V.ref).length=F[i].length:=by rw [Zq,t2]
  have at0':atI (tr.map V.ref) 0=some (.ref fa):=atI_nat (j:=0) fa1
  have at1':atI (tr.map V.ref) (-1)=some (.ref la):=at_end (k:=1) (by decide) (by omega) (by rw [lm];exact la1)
  obtain ⟨xs,dx,ds,j,i1,i2,i3,i4,i5,i6,i7,i8⟩:=idx g fa2 (en.t.fst _ gf)
  obtain ⟨xs',dx',ds',j',i1',i2',i3',i4',i5',i6',i7',i8'⟩:=idx g la2 (en.lst _ gl)
  refine (xPWPPWP ((Fills.refl _).set _ rfl) _ rfl (.inl ⟨rfl,_, SqL.of i1⟩) _ rfl (xWWWWPPPP xa _ _ _ rfl rfl (SqL.of t1) at0' (xWWWWWWPP pl xs _ dx ds j rfl rfl (xPPPPPPP i1 i2 i3 i4 i5 i6 i7 ?_))))
  refine (xWPPWPWP _ rfl (.inl ⟨rfl,_, SqL.of i1⟩) _ rfl _ rfl (xWWWWPPPP xa _ _ _ rfl rfl (SqL.of t1) at1' (xWWWWWWPP pl xs' _ dx' ds' j' rfl rfl (xPPPPPPP i1' i2' i3' i4' i5' i6' i7' ?_))))
  refine ⟨(by show 2≤sizeLine;decide),fun a ha=>hk a _ _ ?_ ha (same_new ha _) upd_same⟩
  rw [i8,i8',gd]
  show HO.tup [V.int (ixP Pl F[i][0]),V.int (ixP Pl F[i][F[i].length-1])]=HO.tup [V.int (ixP Pl (F[i].getD 0 (0,0))),V.int (ixP Pl (F[i].getD (F[i].length-1) (0,0)))]
  rw [getD_some gf,getD_some gl]
 intro tr H2 l2 p2' g2 e2'
 refine (xWPP _ rfl (by show 3≤sizeLine;decide) (fun wa hwa=>?_))
 have g3:=same_new hwa (.tup [.int (Pl.length:Int),.ref D,.ref Or])
 have g23:=g2.trans g3
 obtain ⟨ox,o1,o2,o3,o4⟩:=hO.same g23
 refine q wa os _ (g1.trans g23) (xWWPPWPP D Or upd_same (xWPP tr (g3 _ _ e2') (by rw [l2];exact (Zq _).symm) (fun i z e=>?_)) ox o1 o2 o4) lO oO
 unfold tsO at e
 rw [Zk] at e
 cases ef:F[i]? with
 | none=>rw [ef] at e;cases e
 | some r =>
  rw [ef] at e
  cases e
  have hi:i<tr.length:=by rw [l2];exact (Zj.mp ef).1
  obtain ⟨o,rfl,h⟩:=p2' i _ (GR.get_of hi)
  refine (xWP _ (GR.get_of hi) ?_)
  have:=g3 _ _ h
  rw [Zv,ef] at this
  exact this
end K76
namespace L2
open PySem PySem.Spec PyProof.Rows GR
inductive PtR (H:Hp):List Addr→List Pt→Prop
 | nil:PtR H [] []
 | cons {a:Addr} {p:Pt} {tr:List Addr} {ps:List Pt}:PtA H a p→PtR H tr ps→PtR H (a::tr) (p::ps)
theorem PtR.same {H H':Hp} (g:Same H H'):∀ {tr:List Addr} {ps:List Pt},PtR H tr ps→PtR H' tr ps
 | _,_,.nil=>.nil
 | _,_,.cons h r=>.cons (g _ _ h) (PtR.same g r)
theorem PtR.other {H:Hp} {o:Addr} {xs:List V} (e:H o=some (.lst xs)) (u:HO):∀ {tr:List Addr} {ps:List Pt},PtR H tr ps→PtR (upd H o u) tr ps
 | _,_,.nil=>.nil
 | _,_,.cons h r=>.cons (by show upd H o u _=_;rw [upd_ne (fun z=>by rw [PtA,z,e] at h;cases h)];exact h) (PtR.other e u r)
theorem PtR.app {H:Hp} {tr':List Addr} {ps':List Pt} (h':PtR H tr' ps'):∀ {tr:List Addr} {ps:List Pt},PtR H tr ps→PtR H (tr++tr') (ps++ps')
 | _,_,.nil=>h'
 | _,_,.cons h r=>.cons h (PtR.app h' r)
theorem PtR.len {H:Hp}:∀ {tr:List Addr} {ps:List Pt},PtR H tr ps→tr.length=ps.length
 | _,_,.nil=>rfl
 | _,_,.cons _ r=>by rw [Yq,Yq,PtR.len r]
theorem PtR.nth {H:Hp}:∀ {tr:List Addr} {ps:List Pt},PtR H tr ps→∀ (i:Nat) p,ps[i]?=some p→∃ r,tr[i]?=some r∧H r=some (.tup [.int p.1,.int p.2])
 | _,_,.nil,i,p,e=>by simp at e
 | _,_,.cons h r,0,p,e=>by cases e;exact ⟨_,rfl, h⟩
 | _,_,.cons h r,i+1,p,e=>PtR.nth r i p (by simpa using e)
theorem PtR.ts {H:Hp} {D:Addr} {tr:List Addr} {ps:List Pt} (h:PtR H tr ps) (e:H D=some (.lst (tr.map V.ref))):TsI H D ps:=⟨tr,e,h.len, h.nth⟩
theorem TsI.pr {H:Hp} {D:Addr} {ps:List Pt} (h:TsI H D ps):∃ tr,H D=some (.lst (tr.map V.ref))∧PtR H tr ps:=by
 obtain ⟨tr,h1,h2, h3⟩:=h
 refine ⟨tr,h1, ?_⟩
 clear h1
 induction tr generalizing ps with
 | nil =>
  match ps,h2 with
  | [],_=>exact .nil
 | cons a tr ih =>
  match ps,h2 with
  | p::ps,h2 =>
   obtain ⟨r,r1, r2⟩:=h3 0 p rfl
   cases r1
   exact .cons r2 (ih (by simpa using h2) fun i q e=>h3 (i+1) q (by simpa using e))
def Stp (p q:Pt):Prop:=(p.1=q.1∧p.2≠q.2)∨(p.2=q.2∧p.1≠q.1)
def Rct (l:List Pt):Prop:=∀ (i:Nat) (p q:Pt),l[i]?=some p→l[i+1]?=some q→Stp p q
end L2
namespace GR
def g0 (r:List Pt) (m:Nat):Pt:=r.getD m (0,0)
theorem g0_get {r:List Pt} {m:Nat} {p:Pt} (h:r[m]?=some p):g0 r m=p:=by unfold g0;rw [Zv,h];rfl
def Un (p q:Pt):Prop:=(q.1=p.1∧(q.2=p.2+1∨q.2=p.2-1))∨(q.2=p.2∧(q.1=p.1+1∨q.1=p.1-1))
structure Pth (r:List Pt):Prop where
 len:2≤r.length
 adj:∀ m,m+1<r.length→Un (g0 r m) (g0 r (m+1))
 trn:∀ m,m+2<r.length→g0 r m≠g0 r (m+2)
theorem un_of {S:Sts} (hu:Unit S) {p q:Pt} (h:Adj S p q):Un p q:=by
 rcases h with h | h
 ·rcases hu p q h with rfl | rfl
  ·exact .inr ⟨by simp [dr,dy],.inl (by simp [dr,dx])⟩
  ·exact .inl ⟨by simp [dr,dx],.inl (by simp [dr,dy])⟩
 ·rcases hu q p h with rfl | rfl
  ·exact .inr ⟨by simp [dr,dy],.inr (by simp [dr,dx])⟩
  ·exact .inl ⟨by simp [dr,dx],.inr (by simp [dr,dy])⟩
theorem Tr.pth {S:Sts} {Pl:List Pt} {r:List Pt} (hu:Unit S) (t:Tr S Pl r):Pth r:=by
 refine ⟨t.len,fun m hm=>?_, fun m hm=>?_⟩
 ·rw [g0_get (get_of (by omega:m<r.length)),g0_get (get_of hm)]
  exact un_of hu (t.adj m _ _ (get_of (by omega)) (get_of hm))
 ·rw [g0_get (get_of (by omega:m<r.length)),g0_get (get_of hm)]
  exact t.trn m _ _ (get_of (by omega)) (get_of hm)
def St (r:List Pt) (j k:Nat):Prop:=∃ s:Int,(s=1∨s = -1)∧((∀ m:Nat,j≤m→m≤k→(g0 r m).1=(g0 r j).1∧(g0 r m).2=(g0 r j).2+s*((m:Int)-j))∨(∀ m:Nat,j≤m→m≤k→(g0 r m).2=(g0 r j).2∧(g0 r m).1=(g0 r j).1+s*((m:Int)-j)))
theorem St.one {r:List Pt} (p:Pth r) {j:Nat} (h:j+1<r.length):St r j (j+1):=by
 rcases p.adj j h with ⟨h1,h2 | h2⟩ | ⟨h1,h2 | h2⟩
 ·exact ⟨1,.inl rfl, .inl fun m m1 m2=>by
   by_cases e:m=j
   ·subst e;exact ⟨rfl,by omega⟩
   ·have:m=j+1:=by omega
    subst this;exact ⟨h1,by omega⟩⟩
 ·exact ⟨-1,.inr rfl, .inl fun m m1 m2=>by
   by_cases e:m=j
   ·subst e;exact ⟨rfl,by omega⟩
   ·have:m=j+1:=by omega
    subst this;exact ⟨h1,by omega⟩⟩
 ·exact ⟨1,.inl rfl, .inr fun m m1 m2=>by
   by_cases e:m=j
   ·subst e;exact ⟨rfl,by omega⟩
   ·have:m=j+1:=by omega
    subst this;exact ⟨h1,by omega⟩⟩
 ·exact ⟨-1,.inr rfl, .inr fun m m1 m2=>by
   by_cases e:m=j
   ·subst e;exact ⟨rfl,by omega⟩
   ·have:m=j+1:=by omega
    subst this;exact ⟨h1,by omega⟩⟩
theorem ne_pt {p q:Pt} (h:p≠q) (h1:p.1=q.1) (h2:p.2=q.2):False:=h (Prod.ext h1 h2)
theorem St.on {r:List Pt} (p:Pth r) {j k:Nat} (hjk:j<k) (h:k+1<r.length) (s:St r j k) (nb:(g0 r (k-1)).1=(g0 r (k+1)).1∨(g0 r (k-1)).2=(g0 r (k+1)).2):St r j (k+1):=by
 have a:=p.adj k h
 obtain ⟨k',rfl⟩:∃ k',k=k'+1:=⟨k-1,by omega⟩
 have t:=fun h1 h2=>ne_pt (p.trn k' (by omega)) h1 h2
 rw [show k'+1-1=k' by omega] at nb
 rw [show k'+2=k'+1+1 by omega] at t
 obtain ⟨s,hs, h1 | h1⟩:=s
 ·have e0:=h1 k' (by omega) (by omega)
  have e1:=h1 (k'+1) (by omega) (Nat.le_refl _)
  refine ⟨s,hs, .inl fun m m1 m2=>?_⟩
  by_cases e:m≤k'+1
  ·exact h1 m m1 e
  ·have:m=k'+1+1:=by omega
   subst this
   rcases hs with rfl | rfl<;>rcases a with ⟨a1,a2 | a2⟩ | ⟨a1,a2 | a2⟩
   all_goals first | exact ⟨by omega,by omega⟩ | exact absurd (t (by omega) (by omega)) id | (exfalso;omega)
 ·have e0:=h1 k' (by omega) (by omega)
  have e1:=h1 (k'+1) (by omega) (Nat.le_refl _)
  refine ⟨s,hs, .inr fun m m1 m2=>?_⟩
  by_cases e:m≤k'+1
  ·exact h1 m m1 e
  ·have:m=k'+1+1:=by omega
   subst this
   rcases hs with rfl | rfl<;>rcases a with ⟨a1,a2 | a2⟩ | ⟨a1,a2 | a2⟩
   all_goals first | exact ⟨by omega,by omega⟩ | exact absurd (t (by omega) (by omega)) id | (exfalso;omega)
structure Kpt (r:List Pt) (ix:List Nat):Prop where
 lt:∀ i∈ix,i<r.length
 st:∀ (i a b:Nat),ix[i]?=some a→ix[i+1]?=some b→a<b∧St r a b
theorem Kpt.snoc {r:List Pt} {ix:List Nat} {j k:Nat} (h:Kpt r (ix++[j])) (hk:k<r.length) (jk:j<k) (s:St r j k):Kpt r (ix++[j]++[k]):=by
 refine ⟨fun i hi=>?_,fun i a b e1 e2=>?_⟩
 ·rcases Zf.mp hi with z | z
  ·exact h.lt i z
  ·rw [Zb.mp z];exact hk
 ·have hi:i+1<(ix++[j]++[k]).length:=(Zj.mp e2).1
  simp at hi
  by_cases hl:i<ix.length
  ·rw [Zx (by simp;omega)] at e1 e2
   exact h.st i a b e1 e2
  ·have:i=ix.length:=by omega
   subst this
   rw [Zx (by simp),Yx] at e1
   rw [show ix.length+1=(ix++[j]).length by simp,Yx] at e2
   cases e1;cases e2
   exact ⟨jk,s⟩
def On (p a b:Pt):Prop:=(a.1=b.1∧p.1=a.1∧((a.2≤p.2∧p.2≤b.2)∨(b.2≤p.2∧p.2≤a.2)))∨(a.2=b.2∧p.2=a.2∧((a.1≤p.1∧p.1≤b.1)∨(b.1≤p.1∧p.1≤a.1)))
def Apt (ll:List (List Pt)):Prop:=∀ (i j:Nat) (l l':List Pt),ll[i]?=some l→ll[j]?=some l'→i≠j→∀ m k:Nat,0<m→m+1<l.length→k+1<l'.length→¬On (g0 l m) (g0 l' k) (g0 l' (k+1))
theorem En.in {S:Sts} {Pl:List Pt} {r:List Pt} (e:En S Pl r) {i:Nat} {a:Pt} (h:r[i]?=some a) (ha:a∉Pl):0<i∧i+1<r.length:=by
 have hi:=(Zj.mp h).1
 refine ⟨Nat.pos_of_ne_zero fun z=>ha (e.t.fst a (z▸h)),?_⟩
 apply Classical.byContradiction
 intro c
 have:i=r.length-1:=by omega
 exact ha (e.lst a (this▸h))
theorem En.same {S:Sts} {Pl:List Pt} {r r':List Pt} (P:Pls S Pl) (e:En S Pl r) (e':En S Pl r'):∀ (i j:Nat) (a b:Pt),r[i]?=some a→r'[j]?=some a→r[i+1]?=some b→r'[j+1]?=some b→r=r'
 | 0,j,a,b,h1,h2,h3,h4=>by
  have ha:=e.t.fst a h1
  have j0:j=0:=by
   apply Classical.byContradiction
   intro c
   have hj:=(Zj.mp h4).1
   exact e'.t.mid j a (by omega) hj h2 ha
  subst j0
  exact e.one P e' (h1.trans h2.symm) (h3.trans h4.symm)
 | i+1,j,a,b,h1,h2,h3,h4=>by
  have hi:=(Zj.mp h3).1
  have ha:=e.t.mid (i+1) a (by omega) (by omega) h1
  obtain ⟨j1,_⟩:=e'.in h2 ha
  obtain ⟨j',rfl⟩:∃ j',j=j'+1:=⟨j-1,by omega⟩
  have hj:=(Zj.mp h4).1
  have p1:=get_of (l:=r) (i:=i) (by omega)
  have p2:=get_of (l:=r') (i:=j') (by omega)
  have n2:=e.t.two P (by omega) h1 ha
  have m1:=(mem_nb P.u).mpr (e.t.adj i _ a p1 h1).symm
  have m2:=(mem_nb P.u).mpr (e.t.adj (i+1) a b h1 h3)
  have m3:=(mem_nb P.u).mpr (e'.t.adj j' _ a p2 h2).symm
  have d1:=e.t.trn i _ b p1 h3
  have d2:=e'.t.trn j' _ b p2 h4
  rcases of_two n2 m1 m2 m3 d1 with z | z
  ·exact En.same P e e' i j' _ a p1 (z▸p2) h1 h2
  ·exact absurd z d2
theorem En.meet {S:Sts} {Pl:List Pt} {r r':List Pt} (P:Pls S Pl) (e:En S Pl r) (e':En S Pl r') {a:Pt} (h:a∈r) (h':a∈r') (ha:a∉Pl):r=r'∨r.reverse=r':=by
 obtain ⟨i,hi, z⟩:=Yy.mp h
 obtain ⟨j,hj, z'⟩:=Yy.mp h'
 have h1:r[i]?=some a:=z▸get_of hi
 have h2:r'[j]?=some a:=z'▸get_of hj
 obtain ⟨i0,i1⟩:=e.in h1 ha
 obtain ⟨j0,j1⟩:=e'.in h2 ha
 have n2:=e.t.two P i0 h1 ha
 have p0:=get_of (l:=r) (i:=i-1) (by omega)
 have p1:=get_of (l:=r) (i:=i+1) i1
 have q1:=get_of (l:=r') (i:=j+1) j1
 have h1':r[i-1+1]?=some a:=by rw [show i-1+1=i by omega];exact h1
 have m1:=(mem_nb P.u).mpr (e.t.adj (i-1) _ a p0 h1').symm
 have m2:=(mem_nb P.u).mpr (e.t.adj i a _ h1 p1)
 have m3:=(mem_nb P.u).mpr (e'.t.adj j a _ h2 q1)
 have d1:=e.t.trn (i-1) _ _ p0 (by rw [show i-1+2=i+1 by omega];exact p1)
 rcases of_two n2 m1 m2 m3 d1 with z | z
 ·right
  refine En.same P e.rev e' (r.length-1-i) j a _ ?_ h2 ?_ q1
  ·rw [Yh (by omega),show r.length-1-(r.length-1-i)=i by omega];exact h1
  ·rw [Yh (by omega),show r.length-1-(r.length-1-i+1)=i-1 by omega,z];exact p0
 ·left
  exact En.same P e e' i j a _ h1 h2 p1 (z▸q1)
theorem Rows.apart {S:Sts} {Pl:List Pt} {F:List (List Pt)} (P:Pls S Pl) (R:Rows S Pl F) {i j:Nat} {r r':List Pt} (hi:F[i]?=some r) (hj:F[j]?=some r') (ij:i≠j) {a:Pt} (h:a∈r) (h':a∈r') (ha:a∉Pl):False:=by
 have li:=(Zj.mp hi).1
 have lj:=(Zj.mp hj).1
 have w0:∀ k x,F[k]?=some x→wy F (2*k)=x:=fun k x hk=>by
  unfold wy;rw [show 2*k / 2=k by omega,show 2*k%2=0 by omega];simp [Zv,hk]
 have w1:∀ k x,F[k]?=some x→wy F (2*k+1)=x.reverse:=fun k x hk=>by
  unfold wy;rw [show (2*k+1) / 2=k by omega,show (2*k+1)%2=1 by omega];simp [Zv,hk]
 rcases (R.en r (Zg hi)).meet P (R.en r' (Zg hj)) h h' ha with z | z
 ·have:=R.un (2*i) (2*j) (by omega) (by omega) (by rw [w0 i r hi,w0 j r' hj,z]) (by rw [w0 i r hi,w0 j r' hj,z])
  omega
 ·have:=R.un (2*i+1) (2*j) (by omega) (by omega) (by rw [w1 i r hi,w0 j r' hj,z]) (by rw [w1 i r hi,w0 j r' hj,z])
  omega
end GR
namespace K76
open PySem L2 PyProof.Rows TX GR
variable {P:Program} {w:World} {K:PySem.W.Frag} {mg:Str→Option Value} {base:Heap} {t:Adr}
def Inc (xs:List Int):Prop:=∀ j:Nat,j+1<xs.length→at0 xs j<at0 xs (j+1)
theorem at0_end {xs:List Int} {i:Nat} (h:xs.length=i+1):at0 xs i=xs[xs.length-1]'(by omega):=by
 unfold at0;rw [Zv,Zz (by omega)]
 simp [h]
theorem Inc.snoc {xs:List Int} {i:Nat} (h:Inc xs) (hl:xs.length=i+1) {x:Int} (h1:at0 xs i<x):Inc (xs++[x]):=fun j hj=>by
 rw [Zm,ZQ] at hj
 have ap:∀ k,k<xs.length→at0 (xs++[x]) k=at0 xs k:=fun k hk=>by unfold at0;rw [Zv,Zx hk,←Zv]
 by_cases e:j=i
 ·subst e
  have lx:at0 (xs++[x]) (j+1)=x:=by unfold at0;rw [←hl,Zv,Yx];rfl
  rw [lx,ap j (by omega)];exact h1
 ·rw [ap j (by omega),ap (j+1) (by omega)];exact h j (by omega)
theorem Inc.lt {xs:List Int} (h:Inc xs):∀ (d i:Nat),i+d+1<xs.length→at0 xs i<at0 xs (i+d+1)
 | 0,i,hi=>h i hi
 | d+1,i,hi=>Int.lt_trans (Inc.lt h d i (by omega)) (by have:=h (i+d+1) (by omega);rw [show i+(d+1)+1=i+d+1+1 by omega];exact this)
theorem Inc.ne {xs:List Int} (h:Inc xs) {a b:Nat} (ha:a<xs.length) (hb:b<xs.length) (hab:a≠b):at0 xs a≠at0 xs b:=by
 rcases Nat.lt_or_gt_of_ne hab with z | z
 ·have:=h.lt (b-a-1) a (by omega)
  rw [show a+(b-a-1)+1=b by omega] at this
  omega
 ·have:=h.lt (a-b-1) b (by omega)
  rw [show b+(a-b-1)+1=a by omega] at this
  omega
theorem rise0 {a b far:Int} (h1:0≤a) (h2:a<41) (h3:0≤b) (h4:b<far) (hf:0<far) : -(20*far)≤(a-20)*far+b∧(a-20)*far+b≤21*far+3*(((0:Nat):Int)*far):=by
 have l : -20*far≤(a-20)*far:=Int.mul_le_mul_of_nonneg_right (by omega) (by omega)
 have u:(a-20)*far≤20*far:=Int.mul_le_mul_of_nonneg_right (by omega) (by omega)
 exact ⟨by omega,by simp;omega⟩
theorem rise1 {x v far m:Int} (hf:0<far) (hv:1≤v∧v≤3) (h0:0≤m) (h7:m<7):x<x+v*far-m*(far / 10)∧x+v*far-m*(far / 10)≤x+3*far:=by
 have q0:0≤far / 10:=Int.ediv_nonneg (by omega) (by decide)
 have q1:far / 10*10≤far:=Int.ediv_mul_le far (by decide)
 have m1:m*(far / 10)≤6*(far / 10):=Int.mul_le_mul_of_nonneg_right (by omega) q0
 have m0:0≤m*(far / 10):=Int.mul_nonneg h0 q0
 have v1:1*far≤v*far:=Int.mul_le_mul_of_nonneg_right hv.1 (by omega)
 have v3:v*far≤3*far:=Int.mul_le_mul_of_nonneg_right hv.2 (by omega)
 exact ⟨by omega,by omega⟩
def spRising:Sp:=fun vs H Q _=>∃ (m:Nat) (n far:Int),vs=[vn m,.int n,.int far]∧1≤m∧m≤5∧0<far∧∀ (D:Addr) (xs:List Int) (H':Hp),Same H H'→H' D=some (.lst (xs.map V.int))→xs.length=m→Inc xs→(∀ x∈xs,-(20*far)≤x∧x≤33*far)→Q (.ref D) H'
theorem ok_rising (T:Txt K mg t):FnOk P w K mg base CX0 1 t.a_l_rising t.d_l_rising ["_law_many","_law_number","_law_far"] spRising:=by
 refine T.F_l_rising.ok sc_l_rising (fun vs H Q E h=>?_) (fun cdv A outer s H vs Q E hr h=>?_)
 ·obtain ⟨m,n,far,rfl,_⟩:=h;rfl
 obtain ⟨m,n,far,rfl,m1,m5,hf,q⟩:=h
 have nd:=sc_l_rising.nd
 refine (xWP _ (pss_cons (ps_set (i:=3) nd rfl (Or.inl rfl) (pe_lst (pa_cons (pe_op op_add (pe_op op_mul (pe_op op_sub (pe_op op_mod (pe_op op_fdiv (pv 1) pe_int) pe_int) pe_int) (pv 2)) (pe_op op_mod (pv 1) (pv 2))) pa_nil)))
  (pss_cons (ps_for PassesOwn.never rfl (pi_range1 rfl T.z_range (pa_cons (pe_op op_sub (pv 0) pe_int) pa_nil)) (pg_name (i:=4) nd rfl (Or.inl rfl)) (pss_one (ps_expr (pe_bm PySem.F.plainAttrs_list PySem.F.slot_list_append PySem.F.type_list_append mt_append (pv 3) (pa_cons (pe_op op_sub (pe_op op_add (pe_ix ix_list (pv 3) (pe_un un_neg pe_int) (fun _ _=>rfl)) (pe_op op_mul (pe_ix ix_list (pe_lst (pa_cons pe_int (pa_cons pe_int (pa_cons pe_int (pa_cons pe_int pa_nil))))) (pe_op op_mod (pe_op op_fdiv (pv 1) (pe_op op_shl pe_int (pe_op op_mul pe_int (pv 4)))) pe_int) (fun _ _=>rfl)) (pv 2))) (pe_op op_mul (pe_op op_mod (pv 1) pe_int) (pe_op op_fdiv (pv 2) pe_int))) pa_nil)))))
  (pss_one (ps_ret (pv 3))))) ?_)
 refine (xWPWWPPP _ rfl _ _ rfl rfl ⟨by decide,by decide⟩ (xWWPPPWWP _ _ rfl rfl (by show (0:Int)<41;decide) _ _ rfl (xPWPWWPPP rfl _ rfl _ _ rfl rfl (.inl ?_) (xWPWPWWPP _ rfl _ rfl _ _ rfl rfl (xPWWPPP hf _ _ rfl rfl (by show 1≤sizeLine;decide) (fun D hD=>?_))))))
 ·have h1:0≤n / 4096%41:=Xz _ (by decide)
  have h2:n / 4096%41<41:=Xj _ (by decide)
  exact ⟨by omega,by omega⟩
 have b1:=same_new hD (.lst [.int ((n / 4096%41-20)*far+n%far)])
 refine (xWPWWPPWP _ rfl _ _ rfl rfl ((m:Int)-1) rfl (xPP (by omega) (by omega) ?_))
 let Pv1:Nat→L2.St→L2.Hp→Prop:=fun i σ H'=>(∃ v4,σ=[some (vn m),some (.int n),some (.int far),some (.ref D),v4])∧Same H H'∧∃ xs:List Int,H' D=some (.lst (xs.map V.int))∧xs.length=i+1∧Inc xs∧∀ x∈xs,-(20*far)≤x∧x≤21*far+3*((i:Int)*far)
 refine for_range (lo:=0) (n:=((m:Int)-1).toNat) Pv1 (xPPWPPP ⟨_,rfl⟩ b1 ([(n / 4096%41-20)*far+n%far]) upd_same rfl (fun j hj=>by simp at hj) (fun x hx=>?_)) ?_ ?_
 ·rw [Zb.mp hx]
  exact rise0 (Xz _ (by decide)) (Xj _ (by decide)) (Xz _ (by omega)) (Xj _ hf) hf
 ·rintro i σ H1 hi ⟨⟨v4,rfl⟩,g1,xs,hx,lx,inc, bx⟩
  have i4:i<4:=by omega
  have hl:(xs.map V.int)[(xs.map V.int).length-1]?=some (.int (xs[xs.length-1]'(by omega))):=by rw [Zq,Zk,GR.get_of (by omega)];rfl
  refine (xWPPWPWP _ rfl (.inl ⟨rfl,_, SqL.of hx⟩) _ rfl _ rfl (xWWWWPPPP D _ _ _ rfl rfl (SqL.of hx) (at_end (k:=1) (by decide) (by rw [Zq];omega) hl) ⟨(by show 4≤sizeLine;decide), fun l hl'=>?_⟩))
  have k1:=same_new hl' (.lst [V.int 1,V.int 1,V.int 2,V.int 3])
  have pw:(1:Int)*2 ^ (2*(0+(i:Int))).toNat=((2 ^ (2*i):Nat):Int):=by
   rw [show (2*(0+(i:Int))).toNat=2*i by omega];simp
  have pl:2 ^ (2*i)≤2 ^ 8:=Nat.pow_le_pow_right (by decide) (by omega)
  have pp:0<2 ^ (2*i):=Nat.pow_pos (by decide)
  obtain ⟨v,hv, hv2⟩:∃ v:Int,atI [V.int 1,V.int 1,V.int 2,V.int 3] (n / ((1:Int)*2 ^ (2*(0+(i:Int))).toNat)%4)=some (.int v)∧1≤v∧v≤3:=by
   have h1:0≤n / ((1:Int)*2 ^ (2*(0+(i:Int))).toNat)%4:=Xz _ (by decide)
   have h2:n / ((1:Int)*2 ^ (2*(0+(i:Int))).toNat)%4<4:=Xj _ (by decide)
   obtain ⟨k,hk⟩:=Xk h1
   rw [hk] at h2 ⊢
   match k,h2 with
   | 0,_=>exact (xWPP 1 rfl (by decide) (by decide))
   | 1,_=>exact (xWPP 1 rfl (by decide) (by decide))
   | 2,_=>exact (xWPP 2 rfl (by decide) (by decide))
   | 3,_=>exact (xWPP 3 rfl (by decide) (by decide))
   | k+4,h=>exact absurd h (by omega)
  refine (xWPWPWWPP _ rfl _ rfl _ _ rfl rfl (xPWWPPP (.inl ⟨by decide,by decide⟩) _ _ rfl rfl (xPP (by omega) (by omega) (by decide)) (xWWPPPWWP _ _ rfl rfl ?_ _ _ rfl (xPPWWWWPP rfl (by show (0:Int)<4;decide) l _ _ _ rfl rfl (xPPWPWWPP (SqL.of upd_same) hv _ rfl _ _ rfl rfl (xPWWPPWP (.inl ⟨by omega,by omega⟩) _ _ rfl rfl _ rfl (xWWPPPWP _ _ rfl rfl (by show (0:Int)<7;decide) _ rfl (xWWPPPWWP _ _ rfl rfl ⟨by decide,by decide⟩ _ _ rfl (xPPWWPP rfl (.inl ?_) _ _ rfl rfl (xWWWPPPPP D _ _ rfl rfl (k1 _ _ hx) (by rw [Zq,lx];exact Ys (by omega:i+1≤10) (by decide)) ⟨_,rfl⟩ (xPWPPP ((g1.trans k1).fresh hD _) (xs++[_]) (by rw [Zt];exact upd_same) (by simp [lx]) ?_ ?_)))))))))))
  ·show 0<(1:Int)*2 ^ (2*(0+(i:Int))).toNat∧(1:Int)*2 ^ (2*(0+(i:Int))).toNat<1073741824
   rw [pw]
   exact ⟨by omega,by omega⟩
  ·have h1:0≤n%7:=Xz _ (by decide)
   have h2:n%7<7:=Xj _ (by decide)
   exact ⟨by omega,by omega⟩
  ·exact inc.snoc lx (by rw [at0_end lx];exact (rise1 hf hv2 (Xz n (show (7:Int)≠0 by decide)) (Xj n (show (0:Int)<7 by decide))).1)
  ·intro x hx'
   have hb:=bx _ (Zp (show xs.length-1<xs.length by omega))
   have h1:=rise1 (x:=xs[xs.length-1]'(by omega)) hf hv2 (Xz n (show (7:Int)≠0 by decide)) (Xj n (show (0:Int)<7 by decide))
   have e:(((i+1:Nat):Int))*far=(i:Int)*far+far:=by rw [show ((i+1:Nat):Int)=(i:Int)+1 by omega,Int.add_mul,Int.one_mul]
   rw [e]
   rcases Zf.mp hx' with z | z
   ·have:=bx x z
    exact ⟨this.1,by omega⟩
   ·rw [Zb.mp z]
    exact ⟨by omega,by omega⟩
 ·rintro σ H1 ⟨⟨v4,rfl⟩,g1,xs,hx,lx,inc, bx⟩
  refine (xWP _ rfl (q D xs _ g1 hx (by omega) inc fun x hx'=>?_))
  have:=bx x hx'
  have h4:(((((m:Int)-1).toNat:Nat)):Int)*far≤4*far:=Int.mul_le_mul_of_nonneg_right (by omega) (by omega)
  exact ⟨by omega,by omega⟩
def Cols (xs ys:List Int) (p:Pt):Prop:=(0≤p.1∧p.1<(xs.length:Int))∧0≤p.2∧p.2<(ys.length:Int)
def ptOf (xs ys:List Int) (p:Pt):Pt:=(at0 xs p.1.toNat,at0 ys p.2.toNat)
theorem at_col {xs:List Int} {k:Int} (h0:0≤k) (h1:k<(xs.length:Int)):atI (xs.map V.int) k=some (.int (at0 xs k.toNat)):=atI_get0 (j:=k.toNat) (by omega) (by omega)
theorem cut_one {xs:List V} {v:V} (h:xs[0]?=some v):cutV xs none (some 1)=[v]:=by
 rw [show (some (1:Int))=some ((1:Nat):Int) from rfl,cut_toV]
 match xs,h with
 | x::xs,h=>cases h;rfl
theorem cut_lst {xs:List V} {v:V} (h:xs[xs.length-1]?=some v):cutV xs (some (-1)) none=[v]:=by
 have hl:=(Zj.mp h).1
 unfold cutV
 have e:HT.sIx xs.length 0 (some (-1))=xs.length-1:=by
  show (if (-1:Int)<0 then ((-1:Int)+(xs.length:Int)).toNat else min (-1:Int).toNat xs.length)=_
  rw [if_pos (by decide)];omega
 rw [e,HT.sIx_none,show xs.length-(xs.length-1)=1 by omega,List.drop_eq_getElem_cons hl]
 rw [(Zj.mp h).2];rfl
theorem stp_of {xs ys:List Int} (ix:Inc xs) (iy:Inc ys) {r:List Pt} {a b:Nat} (ab:a<b) (s:St r a b) (ca:Cols xs ys (g0 r a)) (cb:Cols xs ys (g0 r b)):Stp (ptOf xs ys (g0 r a)) (ptOf xs ys (g0 r b)):=by
 obtain ⟨s,hs, h | h⟩:=s
 ·have e:=h b (by omega) (Nat.le_refl _)
  refine .inl ⟨by show at0 xs _=at0 xs _;rw [e.1],?_⟩
  refine iy.ne (by have:=ca.2;omega) (by have:=cb.2;omega) ?_
  have:=ca.2;have:=cb.2
  rcases hs with rfl | rfl<;>omega
 ·have e:=h b (by omega) (Nat.le_refl _)
  refine .inr ⟨by show at0 ys _=at0 ys _;rw [e.1],?_⟩
  refine ix.ne (by have:=ca.1;omega) (by have:=cb.1;omega) ?_
  have:=ca.1;have:=cb.1
  rcases hs with rfl | rfl<;>omega
theorem Inc.le {xs:List Int} (h:Inc xs) {a b:Nat} (ha:a<xs.length) (hb:b<xs.length) (hab:at0 xs a≤at0 xs b):a≤b:=by
 apply Classical.byContradiction
 intro c
 have:=h.lt (a-b-1) b (by omega)
 rw [show b+(a-b-1)+1=a by omega] at this
 omega
theorem Inc.eq {xs:List Int} (h:Inc xs) {a b:Nat} (ha:a<xs.length) (hb:b<xs.length) (hab:at0 xs a=at0 xs b):a=b:=Nat.le_antisymm (h.le ha hb (by omega)) (h.le hb ha (by omega))
theorem on_grid {xs ys:List Int} (ix:Inc xs) (iy:Inc ys) {r:List Pt} {a b:Nat} (ab:a<b) (s:St r a b) {p:Pt} (ca:Cols xs ys (g0 r a)) (cb:Cols xs ys (g0 r b)) (cp:Cols xs ys p) (on:On (ptOf xs ys p) (ptOf xs ys (g0 r a)) (ptOf xs ys (g0 r b))):∃ m,a≤m∧m≤b∧g0 r m=p:=by
 obtain ⟨⟨a1,a2⟩,a3, a4⟩:=ca
 obtain ⟨⟨b1,b2⟩,b3, b4⟩:=cb
 obtain ⟨⟨p1,p2⟩,p3, p4⟩:=cp
 obtain ⟨s,hs, h | h⟩:=s
 ·have e:=h b (by omega) (Nat.le_refl _)
  rcases on with ⟨_,o2, o3⟩ | ⟨o1,_, _⟩
  ·have ex:=ix.eq (by omega) (by omega) (show at0 xs p.1.toNat=at0 xs (g0 r a).1.toNat from o2)
   have ey:((g0 r a).2≤p.2∧p.2≤(g0 r b).2)∨((g0 r b).2≤p.2∧p.2≤(g0 r a).2):=by
    rcases o3 with ⟨u,v⟩ | ⟨u,v⟩
    ·have u':=iy.le (by omega) (by omega) (show at0 ys (g0 r a).2.toNat≤at0 ys p.2.toNat from u)
     have v':=iy.le (by omega) (by omega) (show at0 ys p.2.toNat≤at0 ys (g0 r b).2.toNat from v)
     omega
    ·have u':=iy.le (by omega) (by omega) (show at0 ys (g0 r b).2.toNat≤at0 ys p.2.toNat from u)
     have v':=iy.le (by omega) (by omega) (show at0 ys p.2.toNat≤at0 ys (g0 r a).2.toNat from v)
     omega
   rcases hs with rfl | rfl
   ·have q:=h (a+(p.2-(g0 r a).2).toNat) (by omega) (by omega)
    exact ⟨a+(p.2-(g0 r a).2).toNat,by omega,by omega, Prod.ext (by omega) (by omega)⟩
   ·have q:=h (a+((g0 r a).2-p.2).toNat) (by omega) (by omega)
    exact ⟨a+((g0 r a).2-p.2).toNat,by omega,by omega, Prod.ext (by omega) (by omega)⟩
  ·have:=iy.eq (by omega) (by omega) (show at0 ys (g0 r a).2.toNat=at0 ys (g0 r b).2.toNat from o1)
   rcases hs with rfl | rfl<;>omega
 ·have e:=h b (by omega) (Nat.le_refl _)
  rcases on with ⟨o1,_, _⟩ | ⟨_,o2, o3⟩
  ·have:=ix.eq (by omega) (by omega) (show at0 xs (g0 r a).1.toNat=at0 xs (g0 r b).1.toNat from o1)
   rcases hs with rfl | rfl<;>omega
  ·have ey:=iy.eq (by omega) (by omega) (show at0 ys p.2.toNat=at0 ys (g0 r a).2.toNat from o2)
   have ex:((g0 r a).1≤p.1∧p.1≤(g0 r b).1)∨((g0 r b).1≤p.1∧p.1≤(g0 r a).1):=by
    rcases o3 with ⟨u,v⟩ | ⟨u,v⟩
    ·have u':=ix.le (by omega) (by omega) (show at0 xs (g0 r a).1.toNat≤at0 xs p.1.toNat from u)
     have v':=ix.le (by omega) (by omega) (show at0 xs p.1.toNat≤at0 xs (g0 r b).1.toNat from v)
     omega
    ·have u':=ix.le (by omega) (by omega) (show at0 xs (g0 r b).1.toNat≤at0 xs p.1.toNat from u)
     have v':=ix.le (by omega) (by omega) (show at0 xs p.1.toNat≤at0 xs (g0 r a).1.toNat from v)
     omega
   rcases hs with rfl | rfl
   ·have q:=h (a+(p.1-(g0 r a).1).toNat) (by omega) (by omega)
    exact ⟨a+(p.1-(g0 r a).1).toNat,by omega,by omega, Prod.ext (by omega) (by omega)⟩
   ·have q:=h (a+((g0 r a).1-p.1).toNat) (by omega) (by omega)
    exact ⟨a+((g0 r a).1-p.1).toNat,by omega,by omega, Prod.ext (by omega) (by omega)⟩
def spLine:Sp:=fun vs H Q _=>∃ (ra xa ya:Addr) (r:List Pt) (xs ys:List Int),vs=[.ref ra,.ref xa,.ref ya]∧TsI H ra r∧H xa=some (.lst (xs.map V.int))∧H ya=some (.lst (ys.map V.int))∧(∀ p∈r,Cols xs ys p)∧Pth r∧Inc xs∧Inc ys∧r.length≤32∧∀ (D:Addr) (H':Hp),Same H H'→H D=none→(∃ kx:List Nat,TsI H' D (kx.map fun i=>ptOf xs ys (g0 r i))∧2≤kx.length∧kx.length≤36∧Kpt r kx)→Q (.ref D) H'
theorem ok_line (T:Txt K mg t):FnOk P w K mg base CX0 1 t.a_l_line t.d_l_line ["_law_row","_law_xs","_law_ys"] spLine:=by
 refine T.F_l_line.ok sc_l_line (fun vs H Q E h=>?_) (fun cdv A outer s H vs Q E hr h=>?_)
 ·obtain ⟨ra,xa,ya,r,xs,ys,rfl,_⟩:=h;rfl
 obtain ⟨ra,xa,ya,r,xs,ys,rfl,hR,hX,hY,hC,pth,ixs,iys,l32,q⟩:=h
 have l2:=pth.len
 have nd:=sc_l_line.nd
 have nd_l_x_l_y_l_xs_l_ys:(["_law_x","_law_y","_law_xs","_law_ys"]:List Str).Nodup:=by decide
 refine (xWP _ (pss_cons (ps_setComp (i:=3) nd rfl (Or.inl rfl)  (N':=["_law_x","_law_y","_law_xs","_law_ys"]) (js:=[none,none,some 1,some 2]) rfl (pi_list (pv 0)) (fun _ _ _ _ _=>(kpg_tup (K:=K) (n:=2) rfl rfl (pgs_cons (pg_name (i:=0) nd_l_x_l_y_l_xs_l_ys rfl (Or.inl rfl)) (pgs_cons (pg_name (i:=1) nd_l_x_l_y_l_xs_l_ys rfl (Or.inl rfl)) pgs_nil)))) (fun _ _ _ _ _=>pf_nil) (fun _ _ _ _ _=>(pe_tup (pa_cons (pe_ix (kix_list (K:=K) rfl) (pv 2) (pv 0) (fun _ _=>rfl)) (pa_cons (pe_ix (kix_list (K:=K) rfl) (pv 3) (pv 1) (fun _ _=>rfl)) pa_nil)))))
  (pss_cons (ps_set (i:=4) nd rfl (Or.inl rfl) (pe_slice sl_list (pv 3) po_none (po_some pe_int)))
  (pss_cons (ps_for PassesOwn.never rfl (pi_range2 rfl T.z_range (pa_cons pe_int (pa_cons (pe_op op_sub (pe_callB call_len_seq rfl T.z_len PySem.boot_len (pa_cons (pv 0) pa_nil)) pe_int) pa_nil))) (pg_name (i:=5) nd rfl (Or.inl rfl)) (pss_one (ps_if (PW.pt (pw_and (pt_cmpR op_ne (pe_ix ix_tup (pe_ix ix_list (pv 0) (pe_op op_sub (pv 5) pe_int) (fun _ _=>rfl)) pe_int (fun _ _=>rfl)) (pe_ix ix_tup (pe_ix ix_list (pv 0) (pe_op op_add (pv 5) pe_int) (fun _ _=>rfl)) pe_int (fun _ _=>rfl)) (nomark _)) (pw_and1 (pt_cmpR op_ne (pe_ix ix_tup (pe_ix ix_list (pv 0) (pe_op op_sub (pv 5) pe_int) (fun _ _=>rfl)) pe_int (fun _ _=>rfl)) (pe_ix ix_tup (pe_ix ix_list (pv 0) (pe_op op_add (pv 5) pe_int) (fun _ _=>rfl)) pe_int (fun _ _=>rfl)) (nomark _))))) (pss_one (ps_expr (pe_bm PySem.F.plainAttrs_list PySem.F.slot_list_append PySem.F.type_list_append mt_append (pv 4) (pa_cons (pe_ix ix_list (pv 3) (pv 5) (fun _ _=>rfl)) pa_nil)))) pss_nil)))
  (pss_one (ps_ret (pe_op op_cat (pv 4) (pe_slice sl_list (pv 3) (po_some (pe_un un_neg pe_int)) po_none))))))) ?_)
 obtain ⟨rr,r1,r2,r3⟩:=id hR
 refine (xWPWPP _ rfl ra rfl ⟨_,SqL.of r1⟩ (fun D hD=>?_))
 refine comp_objs r.length (fun i o=>o=.tup [.int (ptOf xs ys (r.getD i (0,0))).1,.int (ptOf xs ys (r.getD i (0,0))).2]) hD (by omega) (fun i H' hi g=>(xWWP _ (.ref (rr[i]'(by omega))) (SqL.of (g _ _ r1)) (by rw [Zk,Zz (by omega)];rfl))) (fun H' g=>(xWP _ (SqL.of (g _ _ r1)) (by rw [Zq,r2];exact Nat.le_refl _))) ?_ ?_
 ·rintro i H' x H'' k hi g ⟨rfl,hx⟩ hk
  have hx:=hx _ (SqL.of (g _ _ r1))
  obtain ⟨pa,a1,a2⟩:=r3 i _ (GR.get_of hi)
  rw [Zk,a1] at hx
  cases hx
  have gd:r.getD i (0,0)=r[i]:=getD_some (GR.get_of hi)
  obtain ⟨⟨c1,c2⟩,c3,c4⟩:=hC _ (Zp hi)
  refine (xWWPPPWWP pa _ rfl (SqT.of (g _ _ a2)) rfl _ _ rfl (xWWPPPWP _ _ rfl rfl (((Fills.refl _).set _ rfl).set _ rfl) _ rfl (xWPWWWWPP _ rfl xa _ _ _ rfl rfl (xPPWPWP (SqL.of (g _ _ hX)) (at_col c1 c2) _ rfl _ rfl (xWWWWPPPP ya _ _ _ rfl rfl (SqL.of (g _ _ hY)) (at_col c3 c4) ⟨(by show 2≤sizeLine;decide), fun a ha=>hk a _ _ ?_ ha (same_new ha _) upd_same⟩)))))
  rw [gd];rfl
 intro tr H1 l1 p1 g1 e1
 have pts:TsI H1 D (r.map (ptOf xs ys)):=by
  refine (xWPP tr e1 (by rw [l1,Zq]) (fun i p e=>?_))
  rw [Zk] at e
  cases er:r[i]? with
  | none=>rw [er] at e;cases e
  | some p' =>
   rw [er] at e
   cases e
   have hi:i<tr.length:=by rw [l1];exact (Zj.mp er).1
   obtain ⟨o,rfl,h⟩:=p1 i _ (GR.get_of hi)
   refine (xWP _ (GR.get_of hi) ?_)
   rw [getD_some er] at h
   exact h
 have tl:tr.length=r.length:=l1
 have tg:∀ i,i<r.length→tr[i]?=some (tr.getD i 0):=fun i hi=>by rw [Zv,Zz (by omega)];rfl
 have c1:cutV (tr.map V.ref) none (some 1)=[V.ref (tr.getD 0 0)]:=cut_one (by rw [Zk,tg 0 (by omega)];rfl)
 have cn:cutV (tr.map V.ref) (some (-1)) none=[V.ref (tr.getD (r.length-1) 0)]:=cut_lst (by rw [Zq,tl,Zk,tg _ (by omega)];rfl)
 have gq:∀ i,i<r.length→r.getD i (0,0)=g0 r i:=fun _ _=>rfl
 dsimp only [gName]
 refine (xWPWPWWPP _ rfl _ rfl D _ rfl (SqL.of e1) (fun f hf=>?_))
 rw [c1]
 have g2:=same_new hf (.lst [V.ref (tr.getD 0 0)])
 have g12:=g1.trans g2
 have hf0:H f=none:=g1.free hf
 have lr:(((rr.map V.ref).length:Nat):Int)=(r.length:Int):=by rw [Zq,r2]
 dsimp only [gName]
 refine viaN (fun σ' H'=>(∃ v5,σ'=[some (.ref ra),some (.ref xa),some (.ref ya),some (.ref D),some (.ref f),v5])∧Same H1 H'∧∃ (ix:List Nat) (j:Nat),H' f=some (.lst ((ix++[j]).map fun i=>V.ref (tr.getD i 0)))∧Kpt r (ix++[j])∧j+1<r.length∧St r j (r.length-1)∧ix.length≤33) (fun N n1=>?_) ?_
 ·refine (xWPWWPP _ rfl ra _ rfl (.inl (SqL.of (g12 _ _ r1))) (xWWPPWWPP _ _ rfl rfl 1 ((r.length:Int)-1) (by rw [lr]) (xPPP (by omega) (by omega) (by omega) (by omega)) ?_))
  let Pv2:Nat→L2.St→L2.Hp→Prop:=fun i σ H'=>(∃ v5,σ=[some (.ref ra),some (.ref xa),some (.ref ya),some (.ref D),some (.ref f),v5])∧Same H1 H'∧∃ (ix:List Nat) (j:Nat),H' f=some (.lst ((ix++[j]).map fun i=>V.ref (tr.getD i 0)))∧Kpt r (ix++[j])∧j≤i∧St r j (i+1)∧ix.length≤i
  refine for_range (lo:=1) (n:=((r.length:Int)-1-1).toNat) Pv2 (xPPWWPPPP ⟨_,rfl⟩ g2 ([]) 0 upd_same ⟨fun i hi=>by rw [Zb.mp hi];omega,fun i a b e1 e2=>by simp at e2⟩ (Nat.le_refl _) (St.one pth (by omega)) (Nat.le_refl _)) ?_ ?_
  ·rintro i σ H2 hi ⟨⟨v5,rfl⟩,g3,ix,j,hls,kp,ji,st, li⟩
   have hr2:=hR.same (g1.trans g3)
   obtain ⟨tr2,t1,t2,t3⟩:=hr2.at
   have ga:=GR.get_of (l:=r) (i:=i) (by omega)
   have gc:=GR.get_of (l:=r) (i:=i+2) (by omega)
   obtain ⟨aa,a1,a2⟩:=t3 _ _ ga
   obtain ⟨ca,c1,c2⟩:=t3 _ _ gc
   have qa:=g0_get ga
   have qc:=g0_get gc
   have ata:atI (tr2.map V.ref) (1+(i:Int)-1)=some (.ref aa):=by rw [show 1+(i:Int)-1=(i:Int) by omega];exact atI_nat a1
   have atc:atI (tr2.map V.ref) (1+(i:Int)+1)=some (.ref ca):=by rw [show 1+(i:Int)+1=((i+2:Nat):Int) by omega];exact atI_nat c1
   have next:((g0 r i).1=(g0 r (i+2)).1∨(g0 r i).2=(g0 r (i+2)).2)→Same H1 H2∧∃ (ix:List Nat) (j:Nat),H2 f=some (.lst ((ix++[j]).map fun i=>V.ref (tr.getD i 0)))∧Kpt r (ix++[j])∧j≤i+1∧St r j (i+1+1)∧ix.length≤i+1:=fun z=>(xPWWPPPP g3 ix j hls kp (by omega) (St.on pth (by omega) (by omega) st (by rw [show i+1-1=i by omega];exact z)) (by omega))
   refine (xWPWPWWPP _ rfl _ rfl _ _ rfl rfl (xWWWWPPPP ra _ _ _ rfl rfl (SqL.of t1) ata (xWWWWPPPP aa _ 0 _ rfl rfl (SqT.of a2) rfl (xWPWPWWPP _ rfl _ rfl _ _ rfl rfl (xWWWWPPPP ra _ _ _ rfl rfl (SqL.of t1) atc (xWWWWPPPP ca _ 0 _ rfl rfl (SqT.of c2) rfl (xPWP rfl _ rfl (ite2 (fun _=>?_) (fun c=>iteF ⟨⟨_,rfl⟩,next (.inl ?_)⟩)))))))))
   ·refine (xWPWPWWPP _ rfl _ rfl _ _ rfl rfl (xWWWWPPPP ra _ _ _ rfl rfl (SqL.of t1) ata (xWWWWPPPP aa _ 1 _ rfl rfl (SqT.of a2) rfl (xWPWPWWPP _ rfl _ rfl _ _ rfl rfl (xWWWWPPPP ra _ _ _ rfl rfl (SqL.of t1) atc (xWWWWPPPP ca _ 1 _ rfl rfl (SqT.of c2) rfl (xPWP rfl _ rfl (ite2 (fun _=>?_) (fun c=>⟨⟨_,rfl⟩,next (.inr ?_)⟩)))))))))
    ·have gp:=tg (1+i) (by omega)
     refine (xWPPWPWP _ rfl (.inl ⟨rfl,_, SqL.of hls⟩) _ rfl _ rfl (xWWWWPPPP D _ _ _ rfl rfl (SqL.of (g3 _ _ e1)) (by rw [show 1+(i:Int)=((1+i:Nat):Int) by omega];exact atI_nat (by rw [Zk,gp];rfl)) (xWWWPPPPP f _ _ rfl rfl hls (Ys (by rw [Zq];simp;omega:_≤100) (by decide)) ⟨_,rfl⟩ (xPWWPPPP (g3.fresh hf _) (ix++[j]) (i+1) ?_ (kp.snoc (by omega) (by omega) st) (Nat.le_refl _) (St.one pth (by omega)) (by simp;omega)))))
     rw [upd_same,Zt (l₂:=[i+1]),Nat.add_comm 1 i]
     rfl
    ·rw [qa,qc]
     simp only [Bool.not_eq_true',decide_eq_false_iff_not,Classical.not_not] at c
     exact V.int.inj c
   ·rw [qa,qc]
    simp only [Bool.not_eq_true',decide_eq_false_iff_not,Classical.not_not] at c
    exact V.int.inj c
  ·rintro σ H2 ⟨h,g3,ix,j,hls,kp,ji,st, li⟩
   have e:((r.length:Int)-1-1).toNat+1=r.length-1:=by omega
   rw [e] at st
   exact n1 _ _ (xPPWWPPPP h g3 ix j hls kp (by omega) st (by omega))
 rintro σ' H2 ⟨⟨v5,rfl⟩,g3,ix,j,hls,kp,jl,st, li⟩
 have e2:=g3 _ _ e1
 refine (xWPWPWPWP _ rfl _ rfl _ rfl _ rfl (xWWPP D _ rfl (SqL.of e2) (fun e he=>?_)))
 rw [cn]
 have g4:=same_new he (.lst [V.ref (tr.getD (r.length-1) 0)])
 refine (xWWWWPPPP f e _ _ rfl rfl (g4 _ _ hls) upd_same ⟨?_, fun z hz=>?_⟩)
 ·rw [Zq]
  exact Yr (by simp;omega:_≤100) (by decide)
 ·have kp2:=kp.snoc (k:=r.length-1) (by omega) (by omega) st
  have el:(ix++[j]).map (fun i=>V.ref (tr.getD i 0))++[V.ref (tr.getD (r.length-1) 0)]=((ix++[j]++[r.length-1]).map fun i=>tr.getD i 0).map V.ref:=by
   rw [Yg,Zt (l₂:=[r.length-1])];rfl
  rw [el]
  have ll2:2≤(ix++[j]++[r.length-1]).length∧(ix++[j]++[r.length-1]).length≤36:=by simp;omega
  generalize ix++[j]++[r.length-1]=kx at kp2 ll2 ⊢
  have g5:=same_new hz (.lst ((kx.map fun i=>tr.getD i 0).map V.ref))
  have gg:=(g1.trans g3).trans (g4.trans g5)
  refine q z _ gg (((g1.trans g3).trans g4).free hz) (xWPPP kx (xWPP _ upd_same (by rw [Zq,Zq]) (fun i p e'=>?_)) ll2.1 ll2.2 kp2)
  rw [Zk] at e'
  obtain ⟨m,hm,rfl⟩:=Xq.mp e'
  have ml:=kp2.lt m (Zg hm)
  refine (xWP (tr.getD m 0) (by rw [Zk,hm];rfl) ?_)
  obtain ⟨o,rfl,h⟩:=p1 m _ (tg m ml)
  exact g5 _ _ (g4 _ _ (g3 _ _ h))
end K76
namespace L2
open PySem PySem.Spec PyProof.Rows
theorem comp_objsH {J:It} {js:List (Option Nat)} {σ:St} {H1:Hp} {R:Hp→Prop} {D:Addr} {g:TG} {te:TE} (n:Nat) (Pe:Nat→Hp→Addr→Prop) (mono:∀ i H H' a,Same H H'→Pe i H a→Pe i H' a) (stab:∀ i H ys o a,H D=some (.lst ys)→a≠D→Pe i H a→Pe i (upd H D o) a) (hD:H1 D=none) (hn:n≤100000)
  (go:∀ i H',i<n→Same H1 H'→J.go i H') (stop:∀ H',Same H1 H'→J.stop n H')
  (hs:∀ i H' x H'' (k:V→Hp→Prop),i<n→Same H1 H'→J.yld i H' x H''→(∀ a H4,Pe i H4 a→H' a=none→Same H' H4→k (.ref a) H4)→g x (inner js σ) H'' fun σ2 H2=>Fills (inner js σ) σ2∧te σ2 H2 k)
  (hd:∀ (rr:List Addr) H',rr.length=n→(∀ a∈rr,H1 a=none∧a≠D)→(∀ (i:Nat) a,rr[i]?=some a→Pe i H' a)→Same H1 H'→H' D=some (.lst (rr.map V.ref))→R H') :
  ∃ W:Nat→Nat→List V→Hp→Prop,(∃ m,W 0 m [] (upd H1 D (.lst []))) ∧
   ∀ i m ys H,W i m ys H→(J.stop i H∧R H)∨(J.go i H∧∃ N:List V→Hp→Prop,(∀ ys' H',N ys' H'→∃ m',m' < m∧W (i+1) m' ys' H')∧∀ x H',J.yld i H x H'→g x (inner js σ) H' fun σ2 H2=>Fills (inner js σ) σ2∧tTrue σ2 H2 fun b H3 =>
    if b=true then te σ2 H3 fun y H4=>H4 D=some (.lst ys)∧ys.length<sizeLine∧N (ys++[y]) (upd H4 D (.lst (ys++[y]))) else N ys H3):=by
 refine comp_map n (fun i ys H'=>∃ rr:List Addr,ys=rr.map V.ref∧rr.length=i∧(∀ a∈rr,H1 a=none)∧(∀ (j:Nat) a,rr[j]?=some a→Pe j H' a)∧D∉rr∧Same H1 H'∧H' D=some (.lst (rr.map V.ref))) ⟨[],rfl,rfl,fun a h=>by simp at h,fun j a h=>by simp at h,by simp,same_new hD _, upd_same⟩ ?_ ?_
 ·rintro i ys H' hi ⟨rr,rfl,hl,hN,hp,nD,g1, eD⟩
  refine ⟨go i H' hi g1,fun x H'' hy=>hs i H' x H'' _ hi g1 hy fun a H4 hP ha g4=>⟨g4 _ _ eD,?_,rr++[a],?_,?_,?_,?_,?_,?_, ?_⟩⟩
  ·rw [Zq,hl];exact Yt hi (Yr hn (by decide))
  ·rw [Zt];rfl
  ·simp [hl]
  ·intro b hb
   rcases Zf.mp hb with z | z
   ·exact hN b z
   ·rw [Zb.mp z];exact g1.free ha
  ·have aD:a≠D:=fun z=>by rw [z,eD] at ha;cases ha
   intro j b hb
   by_cases hj:j<i
   ·rw [Zx (by omega)] at hb
    exact stab j H4 _ _ b (g4 _ _ eD) (fun z=>nD (z▸Zg hb)) (mono j _ _ b g4 (hp j b hb))
   ·have hj2:j=i:=by
     have:=(Zj.mp hb).1
     simp at this;omega
    subst hj2
    rw [←hl,Yx] at hb
    cases hb
    exact stab _ H4 _ _ _ (g4 _ _ eD) aD (hl▸hP)
  ·intro z
   rcases Zf.mp z with z | z
   ·exact nD z
   ·have:=Zb.mp z
    rw [←this,eD] at ha;cases ha
  ·exact (g1.trans g4).fresh hD _
  ·rw [Zt];exact upd_same
 ·rintro ys H' ⟨rr,rfl,hl,hN,hp,nD,g1, eD⟩
  exact ⟨stop H' g1,hd rr H' hl (fun a ha=>⟨hN a ha,fun z=>nD (z▸ha)⟩) hp g1 eD⟩
theorem lift_all {α:Type} (R:Nat→α→Prop):∀ n:Nat,(∀ i,i<n→∃ x,R i x)→∃ xs:List α,xs.length=n∧∀ (i:Nat) x,xs[i]?=some x→R i x
 | 0,_=>⟨[],rfl, fun i x h=>by simp at h⟩
 | n+1,h=>by
  obtain ⟨xs,h1, h2⟩:=lift_all R n fun i hi=>h i (by omega)
  obtain ⟨x,hx⟩:=h n (by omega)
  refine ⟨xs++[x],by simp [h1], fun i y e=>?_⟩
  by_cases hi:i<n
  ·rw [Zx (by omega)] at e
   exact h2 i y e
  ·have:=(Zj.mp e).1
   rw [Zm,h1,ZQ] at this
   have hi2:i=n:=by omega
   subst hi2
   rw [←h1,Yx] at e
   cases e
   exact hx
end L2
namespace L2
open PySem PySem.Spec PyProof.Rows GR
theorem pa_t {X:Cx} {es rest:List Expr} {k} {pos:Pos} {te:TE} {t:TA} (ha:PE X (.Tuple es k pos) te) (hr:PA X rest t):PA X (.Tuple es k pos::rest) (tCons te t):=pa_cons ha hr rfl
theorem pe_tup2 {X:Cx} {i j:Int} {k} {p q pos:Pos} {a b}:PE X (.Tuple [.Constant (.int i) a p,.Constant (.int j) b q] k pos) (tTup (tCons (tC (.int i)) (tCons (tC (.int j)) tNil))):=pe_tup (pa_cons pe_int (pa_cons pe_int pa_nil rfl) rfl)
inductive Prs:List Expr→List (Int×Int)→Prop
 | nil:Prs [] []
 | cons {i j:Int} {k} {p q pos:Pos} {a b} {es:List Expr} {ps:List (Int×Int)}:Prs es ps→Prs (.Tuple [.Constant (.int i) a p,.Constant (.int j) b q] k pos::es) ((i,j)::ps)
def tPrs:List (Int×Int)→TA
 | []=>tNil
 | p::ps=>tCons (tTup (tCons (tC (.int p.1)) (tCons (tC (.int p.2)) tNil))) (tPrs ps)
theorem pa_prs {X:Cx}:∀ {es:List Expr} {ps:List (Int×Int)},Prs es ps→PA X es (tPrs ps)
 | _,_,.nil=>pa_nil
 | _,_,.cons h=>pa_t pe_tup2 (pa_prs h)
theorem pe_prs {X:Cx} {es:List Expr} {ps:List (Int×Int)} {pos:Pos} (h:Prs es ps):PE X (.List es pos) (tLst (tPrs ps)):=pe_lst (pa_prs h)
theorem prs_all:∀ (ps:List (Int×Int)) {σ:St} {H:Hp} {Q:List V→Hp→Prop},(∀ (tr:List Addr) (H':Hp),Same H H'→tr.length=ps.length→(∀ (i:Nat) p,ps[i]?=some p→∃ r,tr[i]?=some r∧H' r=some (.tup [.int p.1,.int p.2]))→Q (tr.map V.ref) H')→tPrs ps σ H Q
 | [],σ,H,Q,h=>h [] H (Same.refl _) rfl fun i p e=>by simp at e
 | p::ps,σ,H,Q,h=>by
  refine ⟨(by show 2≤sizeLine;decide),fun a ha=>prs_all ps fun tr H' g l e=>?_⟩
  refine h (a::tr) H' ((same_new ha _).trans g) (by simp [l]) fun i p' e'=>?_
  match i with
  | 0=>cases e';exact ⟨a,rfl, g _ _ upd_same⟩
  | i+1=>exact e i p' (by simpa using e')
theorem prs_lst {ps:List (Int×Int)} {σ:St} {H:Hp} {Q:VK} (hl:ps.length≤100) (h:∀ (a:Addr) (H':Hp),Same H H'→TsI H' a ps→Q (.ref a) H'):tLst (tPrs ps) σ H Q:=by
 refine prs_all ps fun tr H' g l e=>⟨Yr (by rw [Zq,l];exact hl) (by decide),fun a ha=>?_⟩
 have k:=same_new ha (.lst (tr.map V.ref))
 exact h a _ (g.trans k) ⟨tr,upd_same,l, fun i p e'=>let ⟨r,q1,q2⟩:=e i p e';⟨r,q1, k _ _ q2⟩⟩
theorem prs_set {ps:List (Int×Int)} {i:Nat} {r:TS} {D:Ends} {σ:St} {H:Hp} (hl:ps.length≤100) (h:∀ (a:Addr) (H':Hp),Same H H'→TsI H' a ps→r D (σ.set i (some (.ref a))) H'):tSeq (tAsg (tLst (tPrs ps)) (gName i)) r D σ H:=by
 show tLst (tPrs ps) σ H fun x H1=>gName i x σ H1 (r D)
 exact prs_lst hl h
theorem seqS {tt r:TS} {D:Ends} {σ σ':L2.St} {H:Hp} (e:σ=σ') (h:tSeq tt r D σ' H):tSeq tt r D σ H:=e▸h
end L2
namespace GR
def dom (a b:Nat):List Pt:=(List.range b).flatMap fun (y:Nat)=>(List.range a).map fun (x:Nat)=>((x:Int),(y:Int))
theorem mem_dom {a b:Nat} {p:Pt} (h:Ins a b p):p∈dom a b:=by
 obtain ⟨⟨h1,h2⟩,h3, h4⟩:=h
 refine Yk.mpr ⟨p.2.toNat,Zs.mpr (by omega), Zh.mpr ⟨p.1.toNat,Zs.mpr (by omega), ?_⟩⟩
 exact Prod.ext (by show (p.1.toNat:Int)=p.1;omega) (by show (p.2.toNat:Int)=p.2;omega)
theorem of_dom {a b:Nat} {p:Pt} (h:p∈dom a b):Ins a b p:=by
 obtain ⟨y,hy, h⟩:=Yk.mp h
 obtain ⟨x,hx, rfl⟩:=Zh.mp h
 have:=Zs.mp hy
 have:=Zs.mp hx
 exact ⟨⟨by show (0:Int)≤x;omega,by show (x:Int)<a;omega⟩,by show (0:Int)≤y;omega, by show (y:Int)<b;omega⟩
theorem flat_len {α β:Type} {f:α→List β} {n:Nat}:∀ (l:List α),(∀ x∈l,(f x).length=n)→(l.flatMap f).length=n*l.length
 | [],_=>by simp
 | x::l,h=>by
  rw [List.flatMap_cons,Zm,h x (Zd ..),flat_len l fun y hy=>h y (Zw _ hy),Yq,Nat.mul_succ,Nat.add_comm]
theorem dom_len (a b:Nat):(dom a b).length=a*b:=by
 unfold dom
 rw [flat_len (n:=a) _ fun x _=>by simp,Yj]
theorem En.all {S:Sts} {Pl:List Pt} {r:List Pt} (e:En S Pl r) {p:Pt} (h:p∈r):∃ q,Adj S p q:=by
 obtain ⟨i,hi, rfl⟩:=Yy.mp h
 have hl:=e.t.len
 rcases Nat.lt_or_ge (i+1) r.length with z | z
 ·exact ⟨_,e.t.adj i _ _ (get_of hi) (get_of z)⟩
 ·obtain ⟨j,rfl⟩:∃ j,i=j+1:=⟨i-1,by omega⟩
  exact ⟨_,(e.t.adj j _ _ (get_of (by omega)) (get_of hi)).symm⟩
end GR
namespace K76
open PySem L2 PyProof.Rows TX GR
variable {P:Program} {w:World} {K:PySem.W.Frag} {mg:Str→Option Value} {base:Heap} {t:Adr}
def sz12:List (Int×Int):=[(3,3),(2,5),(5,2),(3,3),(2,2),(3,2),(2,3),(4,2),(1,4),(5,1),(2,4),(3,3)]
theorem sz12_at:∀ k,k<12→∃ a b:Nat,sz12[k]?=some ((a:Int),(b:Int))∧0<a∧0<b∧a≤5∧b≤5∧(1<a∨1<b)∧a*b≤10:=fun k hk=>match k,hk with
 | 0,_=>⟨3,3,rfl, by decide⟩
 | 1,_=>⟨2,5,rfl, by decide⟩
 | 2,_=>⟨5,2,rfl, by decide⟩
 | 3,_=>⟨3,3,rfl, by decide⟩
 | 4,_=>⟨2,2,rfl, by decide⟩
 | 5,_=>⟨3,2,rfl, by decide⟩
 | 6,_=>⟨2,3,rfl, by decide⟩
 | 7,_=>⟨4,2,rfl, by decide⟩
 | 8,_=>⟨1,4,rfl, by decide⟩
 | 9,_=>⟨5,1,rfl, by decide⟩
 | 10,_=>⟨2,4,rfl, by decide⟩
 | 11,_=>⟨3,3,rfl, by decide⟩
 | k+12,h=>absurd h (by omega)
theorem four {v1 v2 v3 v4:Int} {k:Int}:∃ v:Int,atI [V.int v1,V.int v2,V.int v3,V.int v4] (k%4)=some (.int v):=by
 have h1:0≤k%4:=Xz _ (by decide)
 have h2:k%4<4:=Xj _ (by decide)
 obtain ⟨n,hn⟩:=Xk h1
 rw [hn] at h2 ⊢
 match n,h2 with
 | 0,_=>exact ⟨_,rfl⟩
 | 1,_=>exact ⟨_,rfl⟩
 | 2,_=>exact ⟨_,rfl⟩
 | 3,_=>exact ⟨_,rfl⟩
 | n+4,h=>exact absurd h (by omega)
def DrB (H:Hp) (da:Addr) (sp:List Pt) (ll:List (List Pt)):Prop:=∃ (pa la:Addr),H da=some (.tup [.ref pa,.ref la])∧TsI H pa sp∧LsI H la ll
theorem DrB.same {H H':Hp} {da:Addr} {sp:List Pt} {ll:List (List Pt)} (h:DrB H da sp ll) (g:Same H H'):DrB H' da sp ll:=let ⟨pa,la,h1,h2,h3⟩:=h;⟨pa,la,g _ _ h1,h2.same g, h3.same g⟩
structure GD (A B:Int) (sp:List Pt) (ll:List (List Pt)):Prop where
 s1:1≤sp.length
 s10:sp.length≤10
 l1:1≤ll.length
 l20:ll.length≤20
 len:∀ l∈ll,2≤l.length∧l.length≤36
 rct:∀ l∈ll,Rct l
 apt:Apt ll
 bs:∀ p∈sp,(A≤p.1∧p.1≤B)∧A≤p.2∧p.2≤B
 bl:∀ l∈ll,∀ p∈l,(A≤p.1∧p.1≤B)∧A≤p.2∧p.2≤B
def spBuilt (K:PySem.W.Frag):Sp:=fun vs H Q _=>∃ (sa:Addr) (ns:List Int) (st far:Int),vs=[.ref sa,.int st,.int far]∧SqL K H sa (ns.map V.int)∧0≤st∧far=1 ∧
 ∀ (r wa da:Addr) (sp:List Pt) (ll:List (List Pt)) (H':Hp),Same H H'→H' r=some (.tup [.ref wa,.ref da])→DrB H' da sp ll→GD (-20) 33 sp ll→Q (.ref r) H'
theorem ok_built (T:Txt K mg t):FnOk P w K mg base CX0 4 t.a_l_built t.d_l_built ["_law_script","_law_start","_law_far"] (spBuilt K):=by
 have G_l_mix:=ok_mix (P:=P) (w:=w) (base:=base) T
 have G_l_at:=ok_at (P:=P) (w:=w) (base:=base) T
 have G_l_steps:=ok_steps (P:=P) (w:=w) (base:=base) T
 have G_l_together:=ok_tog (P:=P) (w:=w) (base:=base) T
 have G_l_places:=ok_places (P:=P) (w:=w) (base:=base) T
 have G_l_ways:=ok_ways (P:=P) (w:=w) (base:=base) T
 have G_l_chart:=ok_chart (P:=P) (w:=w) (base:=base) T
 have G_l_rising:=ok_rising (P:=P) (w:=w) (base:=base) T
 have G_l_line:=ok_line (P:=P) (w:=w) (base:=base) T
 refine T.F_l_built.ok sc_l_built (fun vs H Q E h=>?_) (fun cdv A outer s H vs Q E hr h=>?_)
 ·obtain ⟨sa,ns,st,far,rfl,_⟩:=h;rfl
 obtain ⟨sa,ns,st,far,rfl,hS,h0,hf1,q⟩:=h
 have hf:(0:Int)<far:=by omega
 have nd:=sc_l_built.nd
 have nd_l_row_l_xs_l_ys:(["_law_row","_law_xs","_law_ys"]:List Str).Nodup:=by decide
 have nd_l_x_l_y_l_xs_l_ys:(["_law_x","_law_y","_law_xs","_law_ys"]:List Str).Nodup:=by decide
 refine' (xWP _ ?hp ?hq)
 case hp =>
  refine' pss_cons ?a ?b
  case a=>exact (ps_set (i:=3) nd rfl (Or.inl rfl) (pe_call G_l_mix (hr.mono (by decide)) rfl T.m_l_mix T.k_l_mix T.b_l_mix .nil pass0 (pa_cons (pe_call G_l_at (hr.mono (by decide)) rfl T.m_l_at T.k_l_at T.b_l_at .nil pass0 (pa_cons (pv 0) (pa_cons (pv 1) pa_nil))) (pa_cons pe_int pa_nil))))
  case b =>
   refine' pss_cons ?a2 ?b2
   case a2 =>
    refine' ps_set (i:=4) ?n1 ?n2 ?n3 ?n4
    case n1=>exact nd
    case n2=>exact rfl
    case n3=>exact Or.inl rfl
    case n4 =>
     refine' pe_prs ?pz
     case pz=>exact (.cons (.cons (.cons (.cons (.cons (.cons (.cons (.cons (.cons (.cons (.cons (.cons .nil))))))))))))
   case b2=>exact (pss_cons (ps_set (i:=5) nd rfl (Or.inl rfl) (pe_ix ix_list (pv 4) (pe_op op_mod (pv 3) pe_int) (fun _ _=>rfl)))
  (pss_cons (ps_set (i:=6) nd rfl (Or.inl rfl) (pe_call G_l_mix (hr.mono (by decide)) rfl T.m_l_mix T.k_l_mix T.b_l_mix .nil pass0 (pa_cons (pe_call G_l_at (hr.mono (by decide)) rfl T.m_l_at T.k_l_at T.b_l_at .nil pass0 (pa_cons (pv 0) (pa_cons (pe_op op_add (pv 1) pe_int) pa_nil))) (pa_cons pe_int pa_nil))))
  (pss_cons (ps_set (i:=7) nd rfl (Or.inl rfl) (pe_call G_l_mix (hr.mono (by decide)) rfl T.m_l_mix T.k_l_mix T.b_l_mix .nil pass0 (pa_cons (pe_call G_l_at (hr.mono (by decide)) rfl T.m_l_at T.k_l_at T.b_l_at .nil pass0 (pa_cons (pv 0) (pa_cons (pe_op op_add (pv 1) pe_int) pa_nil))) (pa_cons pe_int pa_nil))))
  (pss_cons (ps_set (i:=8) nd rfl (Or.inl rfl) (pe_call G_l_steps (hr.mono (by decide)) rfl T.m_l_steps T.k_l_steps T.b_l_steps .nil pass0 (pa_cons (pv 5) (pa_cons (pe_ix ix_list (pe_lst (pa_cons (pv 6) (pa_cons (pe_op op_or (pv 6) (pv 7)) (pa_cons (pe_op op_or (pe_op op_or (pv 6) (pv 7)) (pe_op op_fdiv (pv 6) pe_int)) (pa_cons (pv 6) pa_nil))))) (pe_op op_mod (pe_op op_fdiv (pv 3) pe_int) pe_int) (fun _ _=>rfl)) pa_nil))))
  (pss_cons (ps_set (i:=8) nd rfl (Or.inl rfl) (pe_call G_l_together (hr.mono (by decide)) rfl T.m_l_together T.k_l_together T.b_l_together .nil pass0 (pa_cons (pv 8) (pa_cons (pe_ix ix_list (pv 8) (pe_op op_mod (pe_op op_fdiv (pv 3) pe_int) (pe_callB call_len_seq rfl T.z_len PySem.boot_len (pa_cons (pv 8) pa_nil))) (fun _ _=>rfl)) pa_nil))))
  (pss_cons (ps_set (i:=9) nd rfl (Or.inl rfl) (pe_call G_l_places (hr.mono (by decide)) rfl T.m_l_places T.k_l_places T.b_l_places .nil pass0 (pa_cons (pv 8) (pa_cons (pe_call G_l_mix (hr.mono (by decide)) rfl T.m_l_mix T.k_l_mix T.b_l_mix .nil pass0 (pa_cons (pe_call G_l_at (hr.mono (by decide)) rfl T.m_l_at T.k_l_at T.b_l_at .nil pass0 (pa_cons (pv 0) (pa_cons (pe_op op_add (pv 1) pe_int) pa_nil))) (pa_cons pe_int pa_nil))) pa_nil))))
  (pss_cons (ps_set (i:=10) nd rfl (Or.inl rfl) (pe_call G_l_ways (hr.mono (by decide)) rfl T.m_l_ways T.k_l_ways T.b_l_ways .nil pass0 (pa_cons (pv 8) (pa_cons (pv 9) (pa_cons (pe_call G_l_mix (hr.mono (by decide)) rfl T.m_l_mix T.k_l_mix T.b_l_mix .nil pass0 (pa_cons (pe_call G_l_at (hr.mono (by decide)) rfl T.m_l_at T.k_l_at T.b_l_at .nil pass0 (pa_cons (pv 0) (pa_cons (pe_op op_add (pv 1) pe_int) pa_nil))) (pa_cons pe_int pa_nil))) pa_nil)))))
  (pss_cons (ps_set (i:=11) nd rfl (Or.inl rfl) (pe_call G_l_chart (hr.mono (by decide)) rfl T.m_l_chart T.k_l_chart T.b_l_chart .nil pass0 (pa_cons (pv 8) (pa_cons (pv 9) (pa_cons (pv 10) (pa_cons (pe_call G_l_mix (hr.mono (by decide)) rfl T.m_l_mix T.k_l_mix T.b_l_mix .nil pass0 (pa_cons (pe_call G_l_at (hr.mono (by decide)) rfl T.m_l_at T.k_l_at T.b_l_at .nil pass0 (pa_cons (pv 0) (pa_cons (pe_op op_add (pv 1) pe_int) pa_nil))) (pa_cons pe_int pa_nil))) pa_nil))))))
  (pss_cons (ps_set (i:=12) nd rfl (Or.inr rfl) (pe_call G_l_rising (hr.mono (by decide)) rfl T.m_l_rising T.k_l_rising T.b_l_rising .nil pass0 (pa_cons (pe_ix ix_tup (pv 5) pe_int (fun _ _=>rfl)) (pa_cons (pe_call G_l_mix (hr.mono (by decide)) rfl T.m_l_mix T.k_l_mix T.b_l_mix .nil pass0 (pa_cons (pe_call G_l_at (hr.mono (by decide)) rfl T.m_l_at T.k_l_at T.b_l_at .nil pass0 (pa_cons (pv 0) (pa_cons (pe_op op_add (pv 1) pe_int) pa_nil))) (pa_cons pe_int pa_nil))) (pa_cons (pv 2) pa_nil)))))
  (pss_cons (ps_set (i:=13) nd rfl (Or.inr rfl) (pe_call G_l_rising (hr.mono (by decide)) rfl T.m_l_rising T.k_l_rising T.b_l_rising .nil pass0 (pa_cons (pe_ix ix_tup (pv 5) pe_int (fun _ _=>rfl)) (pa_cons (pe_call G_l_mix (hr.mono (by decide)) rfl T.m_l_mix T.k_l_mix T.b_l_mix .nil pass0 (pa_cons (pe_call G_l_at (hr.mono (by decide)) rfl T.m_l_at T.k_l_at T.b_l_at .nil pass0 (pa_cons (pv 0) (pa_cons (pe_op op_add (pv 1) pe_int) pa_nil))) (pa_cons pe_int pa_nil))) (pa_cons (pv 2) pa_nil)))))
  (pss_one (ps_ret (pe_tup (pa_cons (pv 11) (pa_cons (pe_tup (pa_cons (pe_comp (N':=["_law_x","_law_y","_law_xs","_law_ys"]) (js:=[none,none,some 12,some 13]) rfl (pi_list (pv 9)) (fun _ _ _ _ _=>(kpg_tup (K:=K) (n:=2) rfl rfl (pgs_cons (pg_name (i:=0) nd_l_x_l_y_l_xs_l_ys rfl (Or.inl rfl)) (pgs_cons (pg_name (i:=1) nd_l_x_l_y_l_xs_l_ys rfl (Or.inl rfl)) pgs_nil)))) (fun _ _ _ _ _=>pf_nil) (fun _ _ _ _ _=>(pe_tup (pa_cons (pe_ix (kix_list (K:=K) rfl) (pv 2) (pv 0) (fun _ _=>rfl)) (pa_cons (pe_ix (kix_list (K:=K) rfl) (pv 3) (pv 1) (fun _ _=>rfl)) pa_nil))))) (pa_cons (pe_comp (N':=["_law_row","_law_xs","_law_ys"]) (js:=[none,some 12,some 13]) rfl (pi_list (pv 10)) (fun _ _ _ _ _=>(pg_name (i:=0) nd_l_row_l_xs_l_ys rfl (Or.inl rfl))) (fun _ _ _ _ _=>pf_nil) (fun _ _ _ _ _=>(pe_call G_l_line (hr.mono (by decide)) rfl T.m_l_line T.k_l_line T.b_l_line .nil pass0 (pa_cons (pv 0) (pa_cons (pv 1) (pa_cons (pv 2) pa_nil)))))) pa_nil))) pa_nil)))))))))))))))
 refine (xWPWPWWWP _ rfl _ rfl sa ns _ rfl (xPP hS h0 (fun c0=>(xWWPPP c0 _ rfl (by decide) (by decide) (fun m0 p0 _=>?_)))))
 try dsimp only [gName]
 refine prs_set (by decide) fun zl H1 g1 hz=>?_
 have hz:TsI H1 zl sz12:=hz
 obtain ⟨zr,z1,z2,z3⟩:=id hz
 obtain ⟨k,hk, ek⟩:∃ k:Nat,k<12∧m0%12=(k:Int):=(xWP ((m0%12).toNat) (by omega) (by omega))
 obtain ⟨a,b,ab,ha,hb,ha5,hb5,hab,hab10⟩:=sz12_at k hk
 obtain ⟨zs,zs1,zs2⟩:=z3 k _ ab
 try dsimp only [gName]
 refine seqS (σ':=[some (.ref sa),some (.int st),some (.int far),some (.int m0),some (.ref zl),none,none,none,none,none,none,none,none,none]) rfl ?_
 refine (xWPWPWWPP _ rfl _ rfl _ _ rfl rfl (xPWWWWPPP (by show (0:Int)<12;decide) zl _ _ (.ref zs) rfl rfl (SqL.of z1) ⟨(by show atI _ (m0%12)=_;rw [ek];exact atI_nat (by rw [Zk,zs1];rfl)), ?_⟩))
 refine (xWPWPWWPP _ rfl _ rfl _ _ rfl rfl (xWWWPPP sa ns _ rfl (g1.seq hS) (by omega) (fun c1=>(xWWPPP c1 _ rfl (by decide) (by decide) (fun bits _ _=>?_)))))
 refine (xWPWPWWPP _ rfl _ rfl _ _ rfl rfl (xWWWPPP sa ns _ rfl (g1.seq hS) (by omega) (fun c2=>(xWWPPP c2 _ rfl (by decide) (by decide) (fun more _ _=>?_)))))
 try dsimp only [gName]
 refine seqS (σ':=[some (.ref sa),some (.int st),some (.int far),some (.int m0),some (.ref zl),some (.ref zs),some (.int bits),some (.int more),none,none,none,none,none,none]) rfl ?_
 refine (xWPWPWPWP _ rfl _ rfl _ rfl _ rfl (xWWPPWPWP _ _ rfl rfl _ rfl _ rfl (xWWPPWP _ _ rfl rfl _ rfl (xWWPPPWWP _ _ rfl rfl ⟨by decide,by decide⟩ _ _ rfl (xPWPP rfl _ rfl (by show 4≤sizeLine;decide) (fun l hl=>?_))))))
 obtain ⟨v,hv⟩:=four (v1:=bits) (v2:=Builtin.bitOr bits more) (v3:=Builtin.bitOr (Builtin.bitOr bits more) (bits / 7)) (v4:=bits) (k:=m0 / 12)
 have k2:=same_new hl (.lst [V.int bits,V.int (Builtin.bitOr bits more),V.int (Builtin.bitOr (Builtin.bitOr bits more) (bits / 7)),V.int bits])
 refine (xWPWWPPP _ rfl _ _ rfl rfl ⟨by decide,by decide⟩ (xWWPPP _ _ rfl rfl (by show (0:Int)<4;decide) (xWWWWPPPP l _ _ _ rfl rfl (SqL.of upd_same) hv ?_)))
 refine (xWWWWPPPP zs a b v rfl (k2 _ _ zs2) ha hb (xPPP ha5 hb5 hab (fun S0 S H2 g2 hS0 Sne S60 Sok=>?_)))
 have zs3:=g2 _ _ (k2 _ _ zs2)
 have g02:=g1.trans (k2.trans g2)
 clear k2 zs2 hv hl z1 z3 g1 hz
 obtain ⟨sr,s1,s2,s3⟩:=id hS0
 have sl:((sr.map V.ref).length:Int)=(S.length:Int):=by rw [Zq,s2]
 have sp:0<S.length:=List.length_pos_iff.mpr Sne
 have hm:0≤m0 / 48%(S.length:Int)∧m0 / 48%(S.length:Int)<(S.length:Int):=⟨Xz _ (by omega),Xj _ (by omega)⟩
 obtain ⟨j,hj⟩:=Xk hm.1
 have hj2:j<S.length:=by rw [hj] at hm;omega
 obtain ⟨fa,f1,f2⟩:=s3 j _ (GR.get_of hj2)
 try dsimp only [gName]
 refine seqS (σ':=[some (.ref sa),some (.int st),some (.int far),some (.int m0),some (.ref zl),some (.ref zs),some (.int bits),some (.int more),some (.ref S0),none,none,none,none,none]) rfl ?_
 refine (xWPWPWP _ rfl _ rfl _ rfl (xWWPPPWP _ _ rfl rfl ⟨by decide,by decide⟩ _ rfl (xWWPPWWPP S0 _ rfl (.inl (SqL.of s1)) _ _ rfl rfl (xPWWWWPPP (by rw [sl];omega) S0 _ _ (.ref fa) rfl rfl (SqL.of s1) ⟨(by show atI _ (m0 / 48%(((sr.map V.ref).length:Nat):Int))=_;rw [sl,hj];exact atI_nat (by rw [Zk,f1];rfl)), ?_⟩))))
 refine (xWWWWWPPP S0 fa S (S[j].1) (S[j].2) rfl hS0 f2 (xPP (Zp hj2) S60 (fun S1 S' H3 g3 hS1 sub mem whl S60'=>?_)))
 have zs4:=g3 _ _ zs3
 have g03:=g02.trans g3
 have Sok':∀ s∈S',Okst a b s:=fun s hs=>Sok s (sub s hs)
 have adom:∀ p q,Adj S' p q→p∈dom a b:=fun p q h=>h.elim (fun z=>mem_dom (Sok' _ z).2.1) (fun z=>mem_dom (Sok' _ z).2.2)
 have dl:(dom a b).length≤10:=by rw [dom_len];exact hab10
 clear s1 s2 s3 sl f1 f2 zs3 g02 hm hj hS0
 try dsimp only [gName]
 refine seqS (σ':=[some (.ref sa),some (.int st),some (.int far),some (.int m0),some (.ref zl),some (.ref zs),some (.int bits),some (.int more),some (.ref S1),none,none,none,none,none]) rfl ?_
 refine (xWPWPWP _ rfl _ rfl _ rfl (xWWPPWWWP _ _ rfl rfl sa ns _ rfl (xPP (g03.seq hS) (by omega) (fun c3=>(xWWPPP c3 _ rfl (by decide) (by decide) (fun m2 _ _=>?_))))))
 refine (xWWWWPPPP S1 m2 S' (dom a b) rfl hS1 (fun p q h=>(Sok' _ h).1) (List.ne_nil_of_mem mem) (xPPP S60' (fun s hs=>⟨mem_dom (Sok' s hs).2.1,mem_dom (Sok' s hs).2.2⟩) dl (fun P0 Pl H4 g4 hP pls Pne P10 Pdom=>?_)))
 have g04:=g03.trans g4
 have hS2:=hS1.same g4
 have zs5:=g4 _ _ zs4
 try dsimp only [gName]
 refine seqS (σ':=[some (.ref sa),some (.int st),some (.int far),some (.int m0),some (.ref zl),some (.ref zs),some (.int bits),some (.int more),some (.ref S1),some (.ref P0),none,none,none,none]) rfl ?_
 refine (xWPWPWPWP _ rfl _ rfl _ rfl _ rfl (xWWPPWWWP _ _ rfl rfl sa ns _ rfl (xPP (g04.seq hS) (by omega) (fun c4=>(xWWPPP c4 _ rfl (by decide) (by decide) (fun m3 _ _=>?_))))))
 refine (xWWWWWWPP S1 P0 m3 S' Pl (dom a b) rfl hS2 (xPPPPP hP pls P10 adom (by omega) (fun R0 F H5 g5 hF rows F40 F32=>?_)))
 have g05:=g04.trans g5
 have hS3:=hS2.same g5
 have hP2:=hP.same g5
 have zs6:=g5 _ _ zs5
 try dsimp only [gName]
 refine seqS (σ':=[some (.ref sa),some (.int st),some (.int far),some (.int m0),some (.ref zl),some (.ref zs),some (.int bits),some (.int more),some (.ref S1),some (.ref P0),some (.ref R0),none,none,none]) rfl ?_
 refine (xWPWPWPWP _ rfl _ rfl _ rfl _ rfl (xWPWWPP _ rfl _ _ rfl rfl (xWWWPPP sa ns _ rfl (g05.seq hS) (by omega) (fun c5=>(xWWPPP c5 _ rfl (by decide) (by decide) (fun m4 _ _=>?_))))))
 refine (xWWWWWWWP S1 P0 R0 m4 S' Pl F rfl (xPPPPPP hS3 hP2 hF pls rows P10 (fun wa os H6 g6 hW ol op=>?_)))
 have g06:=g05.trans g6
 have hP3:=hP2.same g6
 have hF2:=hF.same g6
 have zs7:=g6 _ _ zs6
 try dsimp only [gName]
 refine seqS (σ':=[some (.ref sa),some (.int st),some (.int far),some (.int m0),some (.ref zl),some (.ref zs),some (.int bits),some (.int more),some (.ref S1),some (.ref P0),some (.ref R0),some (.ref wa),none,none]) rfl ?_
 refine (xWPWWWWPP _ rfl zs _ 0 (vn a) rfl rfl (xPPWPWP (SqT.of zs7) rfl _ rfl _ rfl (xWWPPWWWP _ _ rfl rfl sa ns _ rfl (xPP (g06.seq hS) (by omega) (fun c6=>(xWWPPP c6 _ rfl (by decide) (by decide) (fun m5 _ _=>(xWPWWWPPP _ rfl a m5 far rfl ha ha5 ⟨hf, fun X xs H7 g7 hX lX incX bX=>?_⟩))))))))
 have g07:=g06.trans g7
 try dsimp only [gName]
 refine seqS (σ':=[some (.ref sa),some (.int st),some (.int far),some (.int m0),some (.ref zl),some (.ref zs),some (.int bits),some (.int more),some (.ref S1),some (.ref P0),some (.ref R0),some (.ref wa),some (.ref X),none]) rfl ?_
 refine (xWPWWWWPP _ rfl zs _ 1 (vn b) rfl rfl (xPPWPWP (SqT.of (g7 _ _ zs7)) rfl _ rfl _ rfl (xWWPPWWWP _ _ rfl rfl sa ns _ rfl (xPP (g07.seq hS) (by omega) (fun c7=>(xWWPPP c7 _ rfl (by decide) (by decide) (fun m6 _ _=>(xWPWWWPPP _ rfl b m6 far rfl hb hb5 ⟨hf, fun Y ys H8 g8 hY lY incY bY=>?_⟩))))))))
 have g08:=g07.trans g8
 have g68:=g7.trans g8
 have hX2:=g8 _ _ hX
 have hP4:=hP3.same g68
 have hF4:=hF2.same g68
 have hW4:=hW.same g68
 have cols:∀ p,Ins a b p→Cols xs ys p:=fun p ⟨⟨h1,h2⟩,h3,h4⟩=>(xPP ⟨h1,by rw [lX];exact h2⟩ h3 (by rw [lY];exact h4))
 have smp:∀ p,Cols xs ys p→(-20≤(ptOf xs ys p).1∧(ptOf xs ys p).1≤33)∧-20≤(ptOf xs ys p).2∧(ptOf xs ys p).2≤33:=fun p ⟨⟨h1,h2⟩,h3,h4⟩=>by
  have b1:=bX _ (at0_mem (show p.1.toNat<xs.length by omega))
  have b2:=bY _ (at0_mem (show p.2.toNat<ys.length by omega))
  exact (xPP ⟨by show _≤at0 xs p.1.toNat;omega,by show at0 xs p.1.toNat≤_;omega⟩ (by show _≤at0 ys p.2.toNat;omega) (by show at0 ys p.2.toNat≤_;omega))
 clear hX g7 g8 g07 g68 hP hP2 hP3 hF hF2 hW zs4 zs5 zs6 zs7 hS1 hS2 hS3 g3 g4 g5 g6 g03 g04 g05 g06
 obtain ⟨pr,p1,p2,p3⟩:=id hP4
 refine (xWPWPWPP _ rfl _ rfl P0 rfl ⟨_,SqL.of p1⟩ (fun D hD=>?_))
 refine comp_objs Pl.length (fun i o=>o=.tup [.int (ptOf xs ys (Pl.getD i (0,0))).1,.int (ptOf xs ys (Pl.getD i (0,0))).2]) hD (by omega) (fun i H' hi g=>(xWWP _ (.ref (pr[i]'(by omega))) (SqL.of (g _ _ p1)) (by rw [Zk,Zz (by omega)];rfl))) (fun H' g=>(xWP _ (SqL.of (g _ _ p1)) (by rw [Zq,p2];exact Nat.le_refl _))) ?_ ?_
 ·rintro i H' x H'' k hi g ⟨rfl,hx⟩ hk
  have hx:=hx _ (SqL.of (g _ _ p1))
  obtain ⟨pa,a1,a2⟩:=p3 i _ (GR.get_of hi)
  rw [Zk,a1] at hx
  cases hx
  have gd:Pl.getD i (0,0)=Pl[i]:=getD_some (GR.get_of hi)
  obtain ⟨⟨c1,c2⟩,c3,c4⟩:=cols _ (of_dom (Pdom _ (Zp hi)))
  refine (xWWPPPWWP pa _ rfl (SqT.of (g _ _ a2)) rfl _ _ rfl (xWWPPPWP _ _ rfl rfl (((Fills.refl _).set _ rfl).set _ rfl) _ rfl (xWPWWWWPP _ rfl X _ _ _ rfl rfl (xPPWPWP (SqL.of (g _ _ hX2)) (at_col c1 c2) _ rfl _ rfl (xWWWWPPPP Y _ _ _ rfl rfl (SqL.of (g _ _ hY)) (at_col c3 c4) ⟨(by show 2≤sizeLine;decide), fun a ha=>hk a _ _ ?_ ha (same_new ha _) upd_same⟩)))))
  rw [gd];rfl
 intro tr H9 l1 pp1 k1 e1
 have pts:TsI H9 D (Pl.map (ptOf xs ys)):=by
  refine (xWPP tr e1 (by rw [l1,Zq]) (fun i p e=>?_))
  rw [Zk] at e
  cases er:Pl[i]? with
  | none=>rw [er] at e;cases e
  | some p' =>
   rw [er] at e
   cases e
   have hi:i<tr.length:=by rw [l1];exact (Zj.mp er).1
   obtain ⟨o,rfl,h⟩:=pp1 i _ (GR.get_of hi)
   refine (xWP _ (GR.get_of hi) ?_)
   rw [getD_some er] at h
   exact h
 obtain ⟨rr,r1,r2,_,r3⟩:=hF4.same k1
 refine (xWPWPP _ rfl R0 rfl ⟨_,SqL.of r1⟩ (fun D2 hD2=>?_))
 refine comp_objsH F.length (fun i H' a=>∃ kx:List Nat,TsI H' a (kx.map fun m=>ptOf xs ys (g0 (F.getD i []) m))∧2≤kx.length∧kx.length≤36∧Kpt (F.getD i []) kx) (fun i H H' a g ⟨ls,h1,h2⟩=>(xWP ls (h1.same g) h2)) (fun i H ys o a h ne ⟨ls,h1,h2⟩=>(xWP ls (h1.other' h ne o) h2)) hD2 (by omega) (fun i H' hi g=>(xWWP _ (.ref (rr[i]'(by omega))) (SqL.of (g _ _ r1)) (by rw [Zk,Zz (by omega)];rfl))) (fun H' g=>(xWP _ (SqL.of (g _ _ r1)) (by rw [Zq,r2];exact Nat.le_refl _))) ?_ ?_
 ·rintro i H' x H'' k hi g ⟨rfl,hx⟩ hk
  have hx:=hx _ (SqL.of (g _ _ r1))
  obtain ⟨ra,a1,a2⟩:=r3 i _ (GR.get_of hi)
  rw [Zk,a1] at hx
  cases hx
  have hin:F[i]∈F:=Zp hi
  have en:=rows.en _ hin
  have gF:F.getD i []=F[i]:=by rw [Zv,GR.get_of hi];rfl
  exact (xPWPWPWP ((Fills.refl _).set _ rfl) _ rfl _ rfl _ rfl (xWWWWWWPP ra X Y (F[i]) xs ys rfl (a2.same g) (xPPPPPPP (g _ _ (k1 _ _ hX2)) (g _ _ (k1 _ _ hY)) (fun p hp=>let ⟨q,hq⟩:=en.all hp;cols _ (of_dom (adom _ _ hq))) (en.t.pth pls.u) incX incY (F32 _ hin) (fun D' H4 g4 n4 ⟨kx,e4,v1,v2,v3⟩=>hk D' H4 (by rw [gF];exact (xWPPP kx e4 v1 v2 v3)) n4 g4))))
 intro tr2 H10 l2 n2 pp2 k2 e2
 obtain ⟨kk,kk1,kk2⟩:=lift_all (fun i (kx:List Nat)=>∃ a,tr2[i]?=some a∧TsI H10 a (kx.map fun m=>ptOf xs ys (g0 (F.getD i []) m))∧2≤kx.length∧kx.length≤36∧Kpt (F.getD i []) kx) F.length fun i hi=>let ⟨kx,h⟩:=pp2 i _ (GR.get_of (by omega));(xWWP kx _ (GR.get_of (by omega)) h)
 let ll:List (List Pt):=(List.range F.length).map fun i=>(kk.getD i []).map fun m=>ptOf xs ys (g0 (F.getD i []) m)
 have llL:ll.length=F.length:=by show ((List.range F.length).map _).length=_;simp
 have llg:∀ i l,ll[i]?=some l→∃ (kx:List Nat) (r:List Pt),F[i]?=some r∧l=(kx.map fun m=>ptOf xs ys (g0 r m))∧(2≤kx.length∧kx.length≤36)∧Kpt r kx∧∃ a,tr2[i]?=some a∧TsI H10 a l:=fun i l e=>by
  have hi:i<F.length:=by have:=(Zj.mp e).1;omega
  have e:(((List.range F.length).map fun i=>(kk.getD i []).map fun m=>ptOf xs ys (g0 (F.getD i []) m)):List (List Pt))[i]?=some l:=e
  rw [Zk,List.getElem?_range hi] at e
  have gK:kk.getD i []=kk[i]'(by omega):=by rw [Zv,GR.get_of (by omega)];rfl
  have gF:F.getD i []=F[i]:=by rw [Zv,GR.get_of hi];rfl
  obtain ⟨a,h1,h2,h3,h4,h5⟩:=kk2 i _ (GR.get_of (by omega))
  rw [Option.map_some,gK,gF] at e
  rw [gF] at h2 h5
  have e:=(Option.some.inj e).symm
  subst e
  exact (xWWPPPPWP _ _ (GR.get_of hi) rfl ⟨h3,h4⟩ h5 a h1 h2)
 have hL:LsI H10 D2 ll:=(xWPPP tr2 e2 (by omega) (fun z=>(n2 _ z).2 rfl) (fun i r e=>let ⟨_,_,_,_,_,_,a,h1,h2⟩:=llg i r e;(xWP a h1 h2)))
 have cg:∀ r∈F,∀ k,k<r.length→Cols xs ys (g0 r k):=fun r hr k hk=>by
  rw [g0_get (GR.get_of hk)]
  obtain ⟨q',hq⟩:=(rows.en r hr).all (Zp hk)
  exact cols _ (of_dom (adom _ _ hq))
 have lm:∀ l∈ll,∃ i,ll[i]?=some l:=fun l hl=>by
  obtain ⟨i,hi,rfl⟩:=Yy.mp hl
  exact ⟨i,GR.get_of hi⟩
 have lL2:∀ l∈ll,2≤l.length∧l.length≤36:=fun l hl=>by
  obtain ⟨i,e⟩:=lm l hl
  obtain ⟨kx,r,_,rfl,h,_⟩:=llg i l e
  rw [Zq];exact h
 have lR:∀ l∈ll,Rct l:=fun l hl=>by
  obtain ⟨i,e⟩:=lm l hl
  obtain ⟨kx,r,hr,rfl,_,kp,_⟩:=llg i l e
  intro m p p' e1' e2'
  rw [Zk] at e1' e2'
  obtain ⟨c,hc,rfl⟩:=Xq.mp e1'
  obtain ⟨c',hc',rfl⟩:=Xq.mp e2'
  obtain ⟨lt,s⟩:=kp.st m c c' hc hc'
  have rF:=Zg hr
  exact stp_of incX incY lt s (cg r rF c (kp.lt c (Zg hc))) (cg r rF c' (kp.lt c' (Zg hc')))
 have lB:∀ l∈ll,∀ p∈l,(-20≤p.1∧p.1≤33)∧-20≤p.2∧p.2≤33:=fun l hl p hp=>by
  obtain ⟨i,e⟩:=lm l hl
  obtain ⟨kx,r,hr,rfl,_,kp,_⟩:=llg i l e
  obtain ⟨c,hc,rfl⟩:=Zh.mp hp
  exact smp _ (cg r (Zg hr) c (kp.lt c hc))
 have lA:Apt ll:=fun i j l l' hi hj ij m k m0 m1 k1 on=>by
  obtain ⟨kx,r,hr,rfl,_,kp,_⟩:=llg i l hi
  obtain ⟨kx',r',hr',rfl,_,kp',_⟩:=llg j l' hj
  rw [Zq] at m1 k1
  have gm:∀ (kx:List Nat) (r:List Pt) (m:Nat),m<kx.length→g0 (kx.map fun m=>ptOf xs ys (g0 r m)) m=ptOf xs ys (g0 r (kx.getD m 0)):=fun kx r m hm=>by
   rw [g0_get (p:=ptOf xs ys (g0 r (kx.getD m 0)))]
   rw [Zk,Zv,GR.get_of hm];rfl
  have gk:∀ (kx:List Nat) (m:Nat),m<kx.length→kx[m]?=some (kx.getD m 0):=fun kx m hm=>by rw [Zv,GR.get_of hm];rfl
  rw [gm kx r m (by omega),gm kx' r' k (by omega),gm kx' r' (k+1) k1] at on
  have lo:=(kp.st (m-1) _ _ (gk kx (m-1) (by omega)) (by rw [show m-1+1=m by omega];exact gk kx m (by omega))).1
  have up:=(kp.st m _ _ (gk kx m (by omega)) (gk kx (m+1) (by omega))).1
  have ul:=kp.lt _ (Zg (gk kx (m+1) (by omega)))
  obtain ⟨lt,s⟩:=kp'.st k _ _ (gk kx' k (by omega)) (gk kx' (k+1) k1)
  have rF:=Zg hr
  have rF':=Zg hr'
  have l1:=kp'.lt _ (Zg (gk kx' (k+1) k1))
  have mlt:kx.getD m 0<r.length:=by omega
  obtain ⟨q',q1,q2,q3⟩:=on_grid incX incY lt s (cg r' rF' _ (by omega)) (cg r' rF' _ l1) (cg r rF _ mlt) on
  have en:=rows.en r rF
  have hmid:=en.t.mid (kx.getD m 0) (g0 r (kx.getD m 0)) (by omega) (by omega) (by rw [GR.get_of mlt,g0_get (GR.get_of mlt)])
  refine rows.apart pls hr hr' ij (a:=g0 r (kx.getD m 0)) ?_ ?_ hmid
  ·rw [g0_get (GR.get_of mlt)];exact Zp mlt
  ·rw [←q3,g0_get (GR.get_of (by omega:q' < r'.length))];exact Zp (by omega)
 refine ⟨(by show 2≤sizeLine;decide),fun da hda=>⟨(by show 2≤sizeLine;decide),fun r hr'=>?_⟩⟩
 have k3:=same_new hda (.tup [.ref D,.ref D2])
 have k4:=same_new hr' (.tup [.ref wa,.ref da])
 have kk:=k1.trans (k2.trans (k3.trans k4))
 have fw:=few pls rows
 have tl:(tsO Pl F).length=F.length:=by unfold tsO;rw [Zq]
 have im:=is_map pls rows whl Pne P10 ol op
 have tl1:=im.1.2.1
 have Pl1:1≤Pl.length:=List.length_pos_iff.mpr Pne
 exact q r wa da (Pl.map (ptOf xs ys)) ll _ (g08.trans kk) upd_same (xWWPP D D2 (k4 _ _ upd_same) (pts.same (k2.trans (k3.trans k4))) (hL.same (k3.trans k4))) ⟨by rw [Zq];exact Pl1,by rw [Zq];exact P10,by omega,by omega,lL2,lR,lA,fun p hp=>by
  obtain ⟨c,hc,rfl⟩:=Zh.mp hp
  exact smp _ (cols _ (of_dom (Pdom _ hc))), lB⟩
end K76
namespace PC
open L2 GR
abbrev Fld:=Int×Int→Nat
def cel (L T:Int) (p:Pt):Int×Int:=(2*(T-p.2),2*(p.1-L))
def sgn (a b:Int×Int):Nat:=if a.1=b.1 then 45 else 124
def Sg (a b x:Int×Int):Prop:=((a.1≤x.1∧x.1≤b.1)∨(b.1≤x.1∧x.1≤a.1))∧((a.2≤x.2∧x.2≤b.2)∨(b.2≤x.2∧x.2≤a.2))
instance (a b x:Int×Int):Decidable (Sg a b x):=inferInstanceAs (Decidable (_∧_))
def put (f:Fld) (y:Int×Int) (s:Nat):Fld:=fun x=>if x=y then s else f x
def seg (f:Fld) (a b:Int×Int):Fld:=fun x=>if Sg a b x then sgn a b else f x
def lnF (c:Pt→Int×Int) (l:List Pt) (f:Fld):Nat→Fld
 | 0=>f
 | k+1=>seg (lnF c l f k) (c (g0 l k)) (c (g0 l (k+1)))
def plF (c:Pt→Int×Int) (l:List Pt) (f:Fld):Nat→Fld
 | 0=>f
 | k+1=>put (plF c l f k) (c (g0 l (k+1))) 43
def spF (c:Pt→Int×Int) (sp:List Pt) (f:Fld):Nat→Fld
 | 0=>f
 | k+1=>put (spF c sp f k) (c (g0 sp k)) (48+k)
def lineAt (ll:List (List Pt)) (k:Nat):List Pt:=ll.getD k []
def prF (c:Pt→Int×Int) (ll:List (List Pt)) (f:Fld):Nat→Fld
 | 0=>f
 | k+1=>plF c (lineAt ll k) (lnF c (lineAt ll k) (prF c ll f k) ((lineAt ll k).length-1)) ((lineAt ll k).length-2)
def laF (c:Pt→Int×Int) (ll:List (List Pt)) (f:Fld):Nat→Fld
 | 0=>f
 | k+1=>lnF c (lineAt ll k) (laF c ll f k) ((lineAt ll k).length-1)
def ltF (c:Pt→Int×Int) (ll:List (List Pt)) (f:Fld):Nat→Fld
 | 0=>f
 | k+1=>plF c (lineAt ll k) (ltF c ll f k) ((lineAt ll k).length-2)
def Mk (c:Pt→Int×Int) (l:List Pt) (n:Nat) (x:Int×Int):Prop:=∃ m,m<n∧x=c (g0 l (m+1))
theorem plF_yes {c:Pt→Int×Int} {l:List Pt} {f:Fld} {x:Int×Int}:∀ {n:Nat},Mk c l n x→plF c l f n x=43
 | 0,⟨m,h,_⟩=>by omega
 | n+1,⟨m,h,e⟩=>by
  show (if x=c (g0 l (n+1)) then 43 else plF c l f n x)=43
  by_cases z:x=c (g0 l (n+1))
  ·rw [if_pos z]
  ·rw [if_neg z]
   have:m≠n:=fun y=>z (y▸e)
   exact plF_yes ⟨m,by omega, e⟩
theorem plF_no {c:Pt→Int×Int} {l:List Pt} {f:Fld} {x:Int×Int}:∀ {n:Nat},¬Mk c l n x→plF c l f n x=f x
 | 0,_=>rfl
 | n+1,h=>by
  show (if x=c (g0 l (n+1)) then 43 else plF c l f n x)=f x
  rw [if_neg (fun z=>h ⟨n,by omega, z⟩)]
  exact plF_no fun ⟨m,h1,h2⟩=>h ⟨m,by omega, h2⟩
theorem lnF_out {c:Pt→Int×Int} {l:List Pt} {f:Fld} {x:Int×Int}:∀ {n:Nat},(∀ k,k<n→¬Sg (c (g0 l k)) (c (g0 l (k+1))) x)→lnF c l f n x=f x
 | 0,_=>rfl
 | n+1,h=>by
  show (if Sg _ _ x then _ else lnF c l f n x)=f x
  rw [if_neg (h n (by omega))]
  exact lnF_out fun k hk=>h k (by omega)
theorem lnF_con {c:Pt→Int×Int} {l:List Pt} {f g:Fld} {x:Int×Int} (h:f x=g x):∀ {n:Nat},lnF c l f n x=lnF c l g n x
 | 0=>h
 | n+1=>by
  show (if Sg _ _ x then _ else lnF c l f n x)=(if Sg _ _ x then _ else lnF c l g n x)
  rw [lnF_con h (n:=n)]
def Mks (c:Pt→Int×Int) (ll:List (List Pt)) (k:Nat) (x:Int×Int):Prop:=∃ j,j<k∧Mk c (lineAt ll j) ((lineAt ll j).length-2) x
theorem ltF_yes {c:Pt→Int×Int} {ll:List (List Pt)} {f:Fld} {x:Int×Int}:∀ {k:Nat},Mks c ll k x→ltF c ll f k x=43
 | 0,⟨j,h,_⟩=>by omega
 | k+1,⟨j,h,e⟩=>by
  show plF c (lineAt ll k) (ltF c ll f k) _ x=43
  by_cases z:Mk c (lineAt ll k) ((lineAt ll k).length-2) x
  ·exact plF_yes z
  ·rw [plF_no z]
   have:j≠k:=fun y=>z (y▸e)
   exact ltF_yes ⟨j,by omega, e⟩
theorem ltF_no {c:Pt→Int×Int} {ll:List (List Pt)} {f:Fld} {x:Int×Int}:∀ {k:Nat},¬Mks c ll k x→ltF c ll f k x=f x
 | 0,_=>rfl
 | k+1,h=>by
  show plF c (lineAt ll k) (ltF c ll f k) _ x=f x
  rw [plF_no fun z=>h ⟨k,by omega, z⟩]
  exact ltF_no fun ⟨j,h1,h2⟩=>h ⟨j,by omega, h2⟩
theorem alike {c:Pt→Int×Int} {ll:List (List Pt)} {f:Fld} (ap:∀ i j,i<ll.length→j<ll.length→i≠j→∀ m k,0<m→m+1<(lineAt ll i).length→k+1<(lineAt ll j).length→¬Sg (c (g0 (lineAt ll j) k)) (c (g0 (lineAt ll j) (k+1))) (c (g0 (lineAt ll i) m))) (x:Int×Int) :
  ∀ k,k≤ll.length→(Mks c ll k x→prF c ll f k x=43)∧(¬Mks c ll k x→prF c ll f k x=laF c ll f k x)
 | 0,_=>⟨fun ⟨j,h,_⟩=>by omega,fun _=>rfl⟩
 | k+1,hk=>by
  obtain ⟨i1,i2⟩:=alike ap x k (by omega)
  have e:prF c ll f (k+1) x=plF c (lineAt ll k) (lnF c (lineAt ll k) (prF c ll f k) ((lineAt ll k).length-1)) ((lineAt ll k).length-2) x:=rfl
  have e2:laF c ll f (k+1) x=lnF c (lineAt ll k) (laF c ll f k) ((lineAt ll k).length-1) x:=rfl
  rw [e,e2]
  by_cases z:Mk c (lineAt ll k) ((lineAt ll k).length-2) x
  ·exact ⟨fun _=>plF_yes z,fun h=>absurd ⟨k,by omega, z⟩ h⟩
  ·rw [plF_no z]
   by_cases y:Mks c ll k x
   ·refine ⟨fun _=>?_,fun h=>absurd (let ⟨j,h1,h2⟩:=y;⟨j,by omega, h2⟩) h⟩
    rw [lnF_out,i1 y]
    intro k' hk' on
    obtain ⟨j,h1,m,h2, rfl⟩:=y
    exact ap j k (by omega) (by omega) (by omega) (m+1) k' (by omega) (by omega) (by omega) on
   ·refine ⟨fun ⟨j,h1,h2⟩=>?_,fun _=>lnF_con (i2 y)⟩
    by_cases q:j=k
    ·exact absurd (q▸h2) z
    ·exact absurd ⟨j,by omega, h2⟩ y
theorem pr_la {c:Pt→Int×Int} {ll:List (List Pt)} {f:Fld} (ap:∀ i j,i<ll.length→j<ll.length→i≠j→∀ m k,0<m→m+1<(lineAt ll i).length→k+1<(lineAt ll j).length→¬Sg (c (g0 (lineAt ll j) k)) (c (g0 (lineAt ll j) (k+1))) (c (g0 (lineAt ll i) m))):prF c ll f ll.length=ltF c ll (laF c ll f ll.length) ll.length:=by
 funext x
 obtain ⟨h1,h2⟩:=alike (f:=f) ap x ll.length (Nat.le_refl _)
 by_cases y:Mks c ll ll.length x
 ·rw [h1 y,ltF_yes y]
 ·rw [h2 y,ltF_no y]
theorem ap_of {L T:Int} {ll:List (List Pt)} (ap:Apt ll) (rc:∀ l∈ll,Rct l):∀ i j,i<ll.length→j<ll.length→i≠j→∀ m k,0<m→m+1<(lineAt ll i).length→k+1<(lineAt ll j).length→¬Sg (cel L T (g0 (lineAt ll j) k)) (cel L T (g0 (lineAt ll j) (k+1))) (cel L T (g0 (lineAt ll i) m)):=fun i j hi hj ij m k m0 m1 k1 s=>by
 have li:∀ n,n<ll.length→ll[n]?=some (lineAt ll n):=fun n hn=>by unfold lineAt;rw [Zv,Zz hn];rfl
 refine ap i j _ _ (li i hi) (li j hj) ij m k m0 m1 k1 ?_
 have st:=rc _ (Zg (li j hj)) k (g0 (lineAt ll j) k) (g0 (lineAt ll j) (k+1)) (by rw [get_of (by omega),g0_get (get_of (by omega:k<(lineAt ll j).length))]) (by rw [get_of k1,g0_get (get_of k1)])
 obtain ⟨s1,s2⟩:=s
 simp only [cel] at s1 s2
 rcases st with ⟨e1,e2⟩ | ⟨e1,e2⟩
 ·exact .inl ⟨e1,by omega, by omega⟩
 ·exact .inr ⟨e1,by omega, by omega⟩
end PC
namespace L2
open PySem PySem.Spec PyProof.Rows
structure M2 (X:Cx) (o:Expr) (m:Str) (apos:Pos) (e f:Expr) (cpos:Pos):Prop where
 base:attributeBase o m X.env (eval o X.env)=eval o X.env
 few:((backTo cpos (starEach [e,f] X.env)).all (fun x=>!x.1)&&(backToKw cpos (keywordEach [] X.env)).all (fun x=>x.1.isSome)
  && decide (([e,f]:List Expr).length+([]:List Keyword).length+(if ([]:List Keyword).isEmpty then 0 else 1)<30))=true
 line:(apos.endLine==cpos.line)=true
 trees:backTo cpos (starEach [e,f] X.env)=[(false,eval e X.env),(false,eval f X.env)]
def IsD (H:Hp) (a:Addr):Prop:=(∃ kvs,Rd H a (.dK kvs))∨∃ kvs,Rd H a (.dT kvs)
theorem isD_at {X:Cx} {pins:List (Addr×Obj)} {σ:St} {H:Hp} {s:Shared} {a:Addr} (I:Inv X pins σ H s) (d:IsD H a) :
  s.TypeIs (.ref a) "dict"∧(∀ b,Value.ref a=.ref b→∃ ob,s.heap.get? b=some ob∧ob.dict=none)∧(a==sysModules)=false:=by
 rcases d with ⟨kvs,e⟩ | ⟨kvs,e⟩
 ·obtain ⟨_,hd,vs,_, dd⟩:=dk_rd I.hok e
  refine ⟨dd.typeIs,fun b q=>?_, hd⟩
  cases q
  obtain ⟨ob,_,_,h1,h2, _⟩:=dd
  exact ⟨ob,h1, h2.2.1⟩
 ·obtain ⟨_,hd,xs,_, dd⟩:=dt_rd I.hok e
  refine ⟨dd.typeIs,fun b q=>?_, hd⟩
  cases q
  obtain ⟨ob,_,_,h1,h2, _⟩:=dd
  exact ⟨ob,h1, h2.2.1⟩
section
variable {X:Cx} {pins:List (Addr×Obj)} {σ:St} {H:Hp} {s:Shared} {a:Addr} {y d:V} {u r:Value} {o:Option V} {A:Around} {E:Value→Shared→Prop}
theorem d_get2 {Q:Value→Shared→Prop} (hu:A.units+1<cLine) (I:Inv X pins σ H s) (g:DGet H a y o) (ry:RelV y u) (rd:RelV d r) (h:∀ w' s',Inv X pins σ H s'→RelV (o.getD d) w'→Q w' s') :
  wpAny (model X.prog X.w) A (call (.builtin "dict.get") [.ref a,u,r]) Q E s:=by
 rcases g with ⟨kvs,k,e,ey, l⟩ | ⟨kvs,k,b,e,ey,eb, l⟩
 ·subst ey
  obtain ⟨z,hd,vs,rel, dd⟩:=dk_rd I.hok e
  refine call_meetsIn PySem.F.slot_dict_get dd.typeIs PySem.F.entry_dict_get (PySem.F.args_dict_get_3 _ _ _) (meets_dict_get_default (mixKind X.prog X.w) a (kV_is ry) hd r) ⟨_,dd.mapOf, h _ _ (I.tok _) ?_⟩
  rw [l]
  exact (rel.val k).getD rd
 ·subst ey
  cases (show u=Value.ref b from ry)
  obtain ⟨z,hd,xs,rel, dd⟩:=dt_rd I.hok e
  refine call_meetsIn PySem.F.slot_dict_get dd.typeIs PySem.F.entry_dict_get (PySem.F.args_dict_get_3 _ _ _) (meetsH_dict_get_default (tupleKind (mixKind X.prog X.w)) a b hd r) ⟨tupleKind_room_in1 hu,k,xs,key_of I.hok eb,dd, h _ _ (I.tok _) ?_⟩
  rw [l]
  exact (rel.val k).getD rd
end
def tDGet2 (td ty tx:TE):TE:=fun σ H Q=>td σ H fun x H1=>∃ a,x=.ref a∧IsD H1 a∧ty σ H1 fun y H2=>tx σ H2 fun z H3=>∃ o,DGet H3 a y o∧Q (o.getD z) H3
section
variable {X:Cx} {o e f:Expr} {apos cpos:Pos} {td ty tx:TE}
theorem pe_dget2 (hu:X.A.units+1<cLine) (ho:PE X o td) (he:PE X e ty) (hf:PE X f tx) (m:M2 X o "get" apos e f cpos):PE X (.Call (.Attribute o "get" apos) [e,f] [] cpos) (tDGet2 td ty tx):=by
 intro pins s σ H Q I h
 refine wpAny_Call_method m.base m.few m.line PySem.F.plainAttrs_dict PySem.F.slot_dict_get PySem.F.type_dict_get (thn (ho pins s σ H _ I h) fun u s1 ⟨x,H1,I1,rx,a,ex,d,q1⟩=>?_)
 subst ex
 obtain rfl:u=Value.ref a:=rx
 obtain ⟨t1,t2, _⟩:=isD_at I1 d
 refine ⟨t1,t2, ?_⟩
 rw [m.trees]
 refine Calls.callWith_builtin rfl (Calls.evalArgs_plain (Calls.spliced_cons (thn (he pins s1 σ H1 _ I1 q1) fun iv s2 ⟨y,H2,I2,ry,q2⟩ =>
  Calls.spliced_cons (thn (hf pins s2 σ H2 _ I2 q2) fun fv s3 ⟨z,H3,I3,rz,ov,g,q3⟩=>Calls.spliced_nil ?_))))
 exact d_get2 hu I3 g ry rz fun w' s4 I4 rw'=>⟨_,H3,I4,rw', q3⟩
end
end L2
namespace L2
open PySem PySem.Spec PyProof.Rows TX
section
variable {X:Cx}
def rRstrip:V→List V→Hp→VK→Prop:=fun x vs H Q=>∃ z y:Str,x=.str z∧vs=[.str y]∧z.length≤sizeLine∧Q (.str (Txt.rstripChars z y)) H
theorem mt_rstrip:MtM X "str.rstrip" rRstrip:=by
 intro pins s σ H x vs v us Q I rx rv h
 obtain ⟨z,y,rfl,rfl,hz, q⟩:=h
 obtain ⟨t,rfl⟩:=(show ∃ t,v=Value.str z t from rx)
 obtain ⟨u,rfl, ru⟩:=rv.one
 obtain ⟨t',rfl⟩:=(show ∃ t,u=Value.str y t from ru)
 exact SC.rstripChars (fun t2 k=>⟨.str _,H,I.tok _,⟨t2,rfl⟩, q⟩) hz
theorem join_no:∀ ps:List (List Nat),Str.join (sT []) (ps.map sT)=sT ps.flatten
 | []=>rfl
 | [p]=>by show sT p=sT ([p].flatten);simp
 | p::q::r=>by
  have e:=join_no (q::r)
  show sT p++sT []++Str.join (sT []) ((q::r).map sT)=_
  rw [e,sT_app,sT_app,List.append_nil]
  exact congrArg sT (List.flatten_cons (l:=p) (L:=q::r)).symm
def rJoin0 (K:PySem.W.Frag):V→List V→Hp→VK→Prop:=fun x vs H Q=>∃ (z:Str) (p:Addr) (ws:List (List Nat)),x=.str z∧z=sT []∧vs=[.ref p]∧SqL K H p (vxs ws)∧(ws.map List.length).sum+ws.length≤1000000∧Q (vx ws.flatten) H
theorem mt_join0:MtM X "str.join" (rJoin0 X.K):=by
 intro pins s σ H x vs v us Q I rx rv h
 obtain ⟨z,p,ws,rfl,rfl,rfl,hp,hl, q⟩:=h
 obtain ⟨t,rfl⟩:=(show ∃ t,v=Value.str (sT []) t from rx)
 obtain ⟨u,rfl, ru⟩:=rv.one
 cases ru
 obtain ⟨its,r,pl, hz⟩:=I.list hp
 obtain ⟨l,rfl, e⟩:=vals_strs r
 have el:(ws.map sT).map (fun x:Str=>x.length)=ws.map List.length:=by
  rw [Yg]
  exact Ym fun w _=>sT_len w
 refine SC.join pl.isList rfl ?_ fun t' k=>⟨vx ws.flatten,H,I.tok _,⟨t',?_⟩, q⟩
 ·unfold JoinOk
  rw [StrLaws.joinTotal,e,el,Zq,sT_len]
  rw [Bool.not_eq_true']
  unfold Builtin.Str.tooLong
  exact decide_eq_false (by rw [sizeLine_eq];simp only [List.length_nil];omega)
 ·show Value.str (Txt.join (sT []) (l.map (·.1))) t'=Value.str (sT ws.flatten) t'
  rw [e]
  show Value.str (Builtin.Str.glued (sT []) (ws.map sT)) t'=_
  rw [StrLaws.glued_eq_join,join_no]
theorem kmt_join0 {K:PySem.W.Frag} (hK:X.K=K):MtM X "str.join" (rJoin0 K):=by subst hK;exact mt_join0
end
theorem for_zipS {a b:Addr} {xs ys:List V} {g:TG} {tb:TS} {D:Ends} {σ:St} {H:Hp} (Pv:Nat→St→Hp→Prop) (hlen:ys.length≤xs.length) (h0:Pv 0 σ H) (hl:∀ i σ H,Pv i σ H→H a=some (.lst xs)∧H b=some (.lst ys))
  (hs:∀ (i:Nat) x y σ H T,xs[i]?=some x→ys[i]?=some y→Pv i σ H→H T=none→g (.ref T) σ (upd H T (.tup [x,y])) fun σ2 H2=>tb { D with nx:=Pv (i+1),ct:=Pv (i+1),bk:=D.nx } σ2 H2) (hd:∀ σ H,Pv ys.length σ H→D.nx σ H) :
  ∃ W:Nat→Nat→St→Hp→Prop,(∃ m,W 0 m σ H)∧∀ i m σ H,W i m σ H →
   ((Itz a b).stop i H∧D.nx σ H)∨((Itz a b).go i H∧∃ N:St→Hp→Prop,(∀ σ' H',N σ' H'→∃ m',m' < m∧W (i+1) m' σ' H')∧∀ x H',(Itz a b).yld i H x H'→g x σ H' fun σ2 H2=>tb { D with nx:=N,ct:=N,bk:=D.nx } σ2 H2):=by
 refine ⟨fun i m σ H=>m=ys.length-i∧i≤ys.length∧Pv i σ H,⟨ys.length,by simp,Nat.zero_le _, h0⟩, ?_⟩
 rintro i m σ H ⟨rfl,hi, p⟩
 obtain ⟨q1,q2⟩:=hl i σ H p
 by_cases hlt:i<ys.length
 ·refine .inr ⟨⟨xs,ys,xs[i]'(by omega),ys[i],q1,q2,Zz _, Zz _⟩,Pv (i+1),fun σ' H' p'=>⟨ys.length-(i+1),by omega,rfl,hlt, p'⟩, fun x H' y=>?_⟩
  obtain ⟨T,x',y',rfl,hT,rfl,y1, y2⟩:=y
  exact hs i x' y' σ _ T (y1 xs q1) (y2 ys q2) p hT
 ·have e:i=ys.length:=by omega
  subst e
  exact .inl ⟨⟨xs,ys,q1,q2, .inr (Nat.le_refl _)⟩,hd σ H p⟩
theorem cut_mid {xs:List V} (h:2≤xs.length):cutV xs (some 1) (some (-1))=(xs.drop 1).take (xs.length-2):=by
 unfold cutV
 have e:HT.sIx xs.length xs.length (some (-1))=xs.length-1:=by
  show (if (-1:Int)<0 then ((-1:Int)+(xs.length:Int)).toNat else min (-1:Int).toNat xs.length)=_
  rw [if_pos (by decide)];omega
 have e2:HT.sIx xs.length 0 (some 1)=1:=by
  show (if (1:Int)<0 then ((1:Int)+(xs.length:Int)).toNat else min (1:Int).toNat xs.length)=_
  rw [if_neg (by decide)];omega
 rw [e,e2,show xs.length-1-1=xs.length-2 by omega]
def But (d:Addr) (H H':Hp):Prop:=∀ b o,b≠d→H b=some o→H' b=some o
theorem But.refl {d:Addr} {H:Hp}:But d H H:=fun _ _ _ h=>h
theorem But.trans {d:Addr} {H H' H'':Hp} (h:But d H H') (h':But d H' H''):But d H H'':=fun b o n e=>h' b o n (h b o n e)
theorem But.of {d:Addr} {H H':Hp} (h:Same H H'):But d H H':=fun b o _ e=>h b o e
theorem But.chg {d:Addr} {H H':Hp} {o:HO} (h:But d H H'):But d H (upd H' d o):=fun b o' n e=>(upd_ne n).trans (h b o' n e)
theorem But.new {d r:Addr} {H H':Hp} {o:HO} (h:But d H H') (hr:H' r=none):But d H (upd H' r o):=h.trans (But.of (same_new hr o))
def FD (kvs:List (List Key×V)) (f:PC.Fld):Prop:=∀ r c:Int,(valV kvs [.inl r,.inl c]).getD (vx [32])=vx [f (r,c)]
theorem FD.nil:FD [] (fun _=>32):=fun r c=>rfl
theorem FD.put {kvs:List (List Key×V)} {f:PC.Fld} (h:FD kvs f) (y:Int×Int) (s:Nat):FD (putK kvs [.inl y.1,.inl y.2] (vx [s])) (PC.put f y s):=fun r c=>by
 rw [valV_put]
 by_cases e:([.inl r,.inl c]:List Key)=[.inl y.1,.inl y.2]
 ·have e1:r=y.1:=by injection e with e1 _;exact Sum.inl.inj e1
  have e2:c=y.2:=by injection e with _ e;injection e with e _;exact Sum.inl.inj e
  rw [if_pos e]
  show vx [s]=vx [if (r,c)=y then s else f (r,c)]
  rw [if_pos (Prod.ext e1 e2)]
 ·rw [if_neg e]
  show _=vx [if (r,c)=y then s else f (r,c)]
  rw [if_neg (fun z=>e (by rw [←z]))]
  exact h r c
theorem e_no3:Str.ofString "" = sT []:=by decide +kernel
theorem e_bl:Str.ofString " " = sT [32]:=by decide +kernel
theorem e_mi:Str.ofString "-" = sT [45]:=by decide +kernel
theorem e_ba:Str.ofString "|" = sT [124]:=by decide +kernel
theorem e_pl:Str.ofString "+" = sT [43]:=by decide +kernel
theorem e_mb:Str.ofString "-|-|" = sT [45,124,45,124]:=by decide +kernel
theorem e_dg:Str.ofString "0123456789" = sT [48,49,50,51,52,53,54,55,56,57]:=by decide +kernel
end L2
namespace PC
open L2 GR
def blk (f:Fld) (s:Nat) (u v:Int) (w n m:Nat):Fld:=fun x=>if (u≤x.1∧x.1<u+n∧v≤x.2∧x.2<v+w)∨(x.1=u+n∧v≤x.2∧x.2<v+m) then s else f x
theorem blk_0 (f:Fld) (s:Nat) (u v:Int) (w:Nat):blk f s u v w 0 0=f:=funext fun x=>if_neg (by omega)
theorem blk_put (f:Fld) (s:Nat) (u v:Int) (w n m:Nat):put (blk f s u v w n m) (u+n,v+m) s=blk f s u v w n (m+1):=funext fun x=>by
 show (if x=(u+n,v+m) then s else if _ then s else f x)=if _ then s else f x
 by_cases e:x=(u+n,v+m)
 ·subst e
  rw [if_pos rfl,if_pos (by right;refine ⟨rfl,?_, ?_⟩<;>show _<;>omega)]
 ·rw [if_neg e]
  have e':¬(x.1=u+n∧x.2=v+m):=fun z=>e (Prod.ext z.1 z.2)
  by_cases c:(u≤x.1∧x.1<u+n∧v≤x.2∧x.2<v+w)∨(x.1=u+n∧v≤x.2∧x.2<v+m)
  ·rw [if_pos c,if_pos (by omega)]
  ·rw [if_neg c,if_neg (by omega)]
theorem blk_row (f:Fld) (s:Nat) (u v:Int) (w n:Nat):blk f s u v w n w=blk f s u v w (n+1) 0:=funext fun x=>by
 unfold blk
 by_cases c:(u≤x.1∧x.1<u+n∧v≤x.2∧x.2<v+w)∨(x.1=u+n∧v≤x.2∧x.2<v+w)
 ·rw [if_pos c,if_pos (by omega)]
 ·rw [if_neg c,if_neg (by omega)]
theorem blk_seg (f:Fld) (a b:Int×Int) {u v:Int} {w n:Nat} (hu:u=if b.1<a.1 then b.1 else a.1) (hv:v=if b.2<a.2 then b.2 else a.2) (hn:(n:Int)=(if a.1<b.1 then b.1 else a.1)+1-u) (hw:(w:Int)=(if a.2<b.2 then b.2 else a.2)+1-v):blk f (sgn a b) u v w n 0=seg f a b:=funext fun x=>by
 show (if _ then _ else f x)=if Sg a b x then _ else f x
 have key:(u≤x.1∧x.1<u+n∧v≤x.2∧x.2<v+w)∨(x.1=u+n∧v≤x.2∧x.2<v+((0:Nat):Int))↔Sg a b x:=by
  unfold Sg
  split at hu<;>split at hv<;>split at hn<;>split at hw<;>omega
 by_cases c:Sg a b x
 ·rw [if_pos (key.mpr c),if_pos c]
 ·rw [if_neg (fun z=>c (key.mp z)),if_neg c]
end PC
namespace L2
theorem seqF {wi:TI} {g:TG} {tb:TS} {D:Ends} {σ σ':St} {H:Hp} (e:σ=σ') (h:tFor wi g tb D σ' H):tFor wi g tb D σ H:=e▸h
theorem mil:1000000≤PySem.sizeLine:=by decide
theorem few6 {n:Nat} (h:n<1000000):n<PySem.sizeLine:=Yt h mil
theorem iteC {c:Bool} {x y z:V} {σ:St} {H:Hp} {Q:VK} (h:Q z H) (e1:c=true→x=z) (e2:c≠true→y=z):if c=true then tC x σ H Q else tC y σ H Q:=by
 by_cases hc:c=true
 ·rw [if_pos hc];exact (e1 hc).symm▸h
 ·rw [if_neg hc];exact (e2 hc).symm▸h
end L2
namespace K76
open PySem L2 PyProof.Rows TX GR
variable {P:Program} {w:World} {K:PySem.W.Frag} {mg:Str→Option Value} {base:Heap} {t:Adr}
def spCell:Sp:=fun vs H Q _=>∃ (a:Addr) (p:Pt) (l u:Int),vs=[.ref a,.int l,.int u]∧H a=some (.tup [.int p.1,.int p.2])∧∀ r,H r=none→Q (.ref r) (upd H r (.tup [.int (PC.cel l u p).1,.int (PC.cel l u p).2]))
theorem ok_cell (T:Txt K mg t):FnOk P w K mg base CX0 1 t.a_cell_of t.d_cell_of ["point","left","top"] spCell:=by
 refine T.F_cell_of.ok sc_cell_of (fun vs H Q E h=>?_) (fun cdv A outer s H vs Q E hr h=>?_)
 ·obtain ⟨a,p,l,u,rfl,_⟩:=h;rfl
 obtain ⟨a,p,l,u,rfl,ha,q⟩:=h
 refine (xWP _ (pss_one (ps_ret (pe_tup (pa_cons (pe_op op_mul pe_int (pe_op op_sub (pv 2) (pe_ix ix_tup (pv 0) pe_int (fun _ _=>rfl)))) (pa_cons (pe_op op_mul pe_int (pe_op op_sub (pe_ix ix_tup (pv 0) pe_int (fun _ _=>rfl)) (pv 1))) pa_nil))))) ?_)
 exact (xWPWP _ rfl _ rfl (xWWWWPPPP a _ 1 _ rfl rfl (SqT.of ha) rfl (xWWPPWWPP _ _ rfl rfl _ _ rfl rfl (xPWPWWWWP (.inl ⟨by decide,by decide⟩) _ rfl a _ 0 _ rfl (xPPPWPWWP rfl (SqT.of ha) rfl _ rfl _ _ rfl (xPWWPPPP rfl _ _ rfl rfl (.inl ⟨by decide,by decide⟩) (by show 2≤sizeLine;decide) (fun r hr=>q r hr)))))))
def spPL:Sp:=fun vs H Q _=>∃ (sd ca:Addr) (kvs:List (List Key×V)) (cs:List Pt),vs=[.ref sd,.ref ca]∧H sd=some (.dT kvs)∧TsI H ca cs∧2≤cs.length∧cs.length≤36∧(∀ p∈cs,(0≤p.1∧p.1≤120)∧0≤p.2∧p.2≤120)∧(∀ k,k+1<cs.length→(g0 cs k).1=(g0 cs (k+1)).1∨(g0 cs k).2=(g0 cs (k+1)).2)∧kvs.length≤94000 ∧
 ∀ kvs' H',But sd H H'→H' sd=some (.dT kvs')→kvs'.length≤kvs.length+4500→(∀ f,FD kvs f→FD kvs' (PC.plF id cs (PC.lnF id cs f (cs.length-1)) (cs.length-2)))→Q .non H'
theorem ok_pl (T:Txt K mg t):FnOk P w K mg base CX0 1 t.a_put_line t.d_put_line ["signs","cells"] spPL:=by
 refine T.F_put_line.ok sc_put_line (fun vs H Q E h=>?_) (fun cdv A outer s H vs Q E hr h=>?_)
 ·obtain ⟨sd,ca,kvs,cs,rfl,_⟩:=h;rfl
 obtain ⟨sd,ca,kvs,cs,rfl,hd,hC,c2,c36,cin,cax,k94,q⟩:=h
 have nd:=sc_put_line.nd
 have hu:=hu_of hr
 refine (xWP _ (pss_cons (ps_for PassesOwn.never rfl (pi_zip rfl T.z_zip (pa_cons (pv 1) (pa_cons (pe_slice sl_list (pv 1) (po_some pe_int) po_none) pa_nil))) (pg_tup rfl (pgs_cons (pg_name (i:=2) nd rfl (Or.inl rfl)) (pgs_cons (pg_name (i:=3) nd rfl (Or.inl rfl)) pgs_nil))) (pss_cons (ps_set (i:=4) nd rfl (Or.inl rfl) (pe_ifExp (pt_cmpR op_eq (pe_ix ix_tup (pv 2) pe_int (fun _ _=>rfl)) (pe_ix ix_tup (pv 3) pe_int (fun _ _=>rfl)) (nomark _)) pe_str pe_str))
  (pss_one (ps_for PassesOwn.never rfl (pi_range2 rfl T.z_range (pa_cons (pe_callB (call_min2 rfl) rfl T.z_min boot_min (pa_cons (pe_ix ix_tup (pv 2) pe_int (fun _ _=>rfl)) (pa_cons (pe_ix ix_tup (pv 3) pe_int (fun _ _=>rfl)) pa_nil))) (pa_cons (pe_op op_add (pe_callB (call_max2 rfl) rfl T.z_max boot_max (pa_cons (pe_ix ix_tup (pv 2) pe_int (fun _ _=>rfl)) (pa_cons (pe_ix ix_tup (pv 3) pe_int (fun _ _=>rfl)) pa_nil))) pe_int) pa_nil))) (pg_name (i:=5) nd rfl (Or.inl rfl)) (pss_one (ps_for PassesOwn.never rfl (pi_range2 rfl T.z_range (pa_cons (pe_callB (call_min2 rfl) rfl T.z_min boot_min (pa_cons (pe_ix ix_tup (pv 2) pe_int (fun _ _=>rfl)) (pa_cons (pe_ix ix_tup (pv 3) pe_int (fun _ _=>rfl)) pa_nil))) (pa_cons (pe_op op_add (pe_callB (call_max2 rfl) rfl T.z_max boot_max (pa_cons (pe_ix ix_tup (pv 2) pe_int (fun _ _=>rfl)) (pa_cons (pe_ix ix_tup (pv 3) pe_int (fun _ _=>rfl)) pa_nil))) pe_int) pa_nil))) (pg_name (i:=6) nd rfl (Or.inl rfl)) (pss_one (ps_dput hu (pv 0) (pe_tup (pa_cons (pv 5) (pa_cons (pv 6) pa_nil))) (pv 4) rfl))))))))
  (pss_one (ps_for PassesOwn.never rfl (pi_list (pe_slice sl_list (pv 1) (po_some pe_int) (po_some (pe_un un_neg pe_int)))) (pg_name (i:=2) nd rfl (Or.inl rfl)) (pss_one (ps_dput hu (pv 0) (pv 2) pe_str rfl))))) ?_)
 obtain ⟨tr,t1,t2,t3⟩:=id hC
 have nca:ca≠sd:=fun e=>by rw [e,hd] at t1;cases t1
 have gcs:∀ k,k<cs.length→g0 cs k∈cs:=fun k hk=>by rw [g0_get (GR.get_of hk)];exact Zp hk
 have atp:∀ m,m<cs.length→∃ a,tr[m]?=some a∧H a=some (.tup [.int (g0 cs m).1,.int (g0 cs m).2])∧a≠sd:=fun m hm=>by
  obtain ⟨a,a1,a2⟩:=t3 m _ (GR.get_of hm)
  exact (xWPP a a1 (by rw [g0_get (GR.get_of hm)];exact a2) (fun e=>by rw [e,hd] at a2;cases a2))
 refine viaN (fun σ' H'=>(∃ v2 v3 v4 v5 v6,σ'=[some (.ref sd),some (.ref ca),v2,v3,v4,v5,v6])∧But sd H H'∧∃ kvs',H' sd=some (.dT kvs')∧kvs'.length≤kvs.length+121*(cs.length-1)∧∀ f,FD kvs f→FD kvs' (PC.lnF id cs f (cs.length-1))) (fun N n1=>?_) ?_
 ·have cz:cutV (tr.map V.ref) (some 1) none=(tr.map V.ref).drop 1:=cut_fromV _ 1
  refine (xWPWPWP _ rfl _ rfl _ rfl (xWWPP ca _ rfl (SqL.of t1) (fun z hz=>?_)))
  rw [cz]
  have hzd:z≠sd:=fun e=>by rw [e,hd] at hz;cases hz
  refine (xWWWWPPP ca z _ _ rfl (same_new hz _ _ _ t1) upd_same (for_zipS (xs:=tr.map V.ref) (ys:=(tr.map V.ref).drop 1) (fun k σ H'=>(∃ v2 v3 v4 v5 v6,σ=[some (.ref sd),some (.ref ca),v2,v3,v4,v5,v6])∧But sd H H'∧H' z=some (.lst ((tr.map V.ref).drop 1))∧∃ kvs',H' sd=some (.dT kvs')∧kvs'.length≤kvs.length+121*k∧∀ f,FD kvs f→FD kvs' (PC.lnF id cs f k)) (by simp) (xPPPWPP (xWWWWW _ _ _ _ _ rfl) (But.of (same_new hz _)) upd_same kvs (same_new hz _ _ _ hd) (by omega) (fun f h=>h)) (fun k σ H' ⟨_,b,hz',_⟩=>⟨b _ _ nca t1,hz'⟩) ?_ ?_))
  ·rintro k x y σ H1 Tp hx hy ⟨⟨v2,v3,v4,v5,v6, rfl⟩,b1,z1,kv,d1,kl, kf⟩ hTp
   have hk:k+1<cs.length:=by have:=(Zj.mp hy).1;simp at this;omega
   obtain ⟨a,a1,a2,a3⟩:=atp k (by omega)
   obtain ⟨o,o1,o2,o3⟩:=atp (k+1) hk
   rw [Zk,a1] at hx
   cases hx
   rw [List.getElem?_drop,Zk,Nat.add_comm 1 k,o1] at hy
   cases hy
   have k1:=cin _ (gcs k (by omega))
   have k2:=cin _ (gcs (k+1) hk)
   have kx:=cax k hk
   have eln:∀ f,PC.lnF id cs f (k+1)=PC.seg (PC.lnF id cs f k) (g0 cs k) (g0 cs (k+1)):=fun _=>rfl
   simp only [eln]
   have b2:But sd H (upd H1 Tp (.tup [.ref a,.ref o])):=b1.new hTp
   have a4:=b2 _ _ a3 a2
   have o4:=b2 _ _ o3 o2
   have d2:=same_new hTp (.tup [.ref a,.ref o]) _ _ d1
   have z2:=same_new hTp (.tup [.ref a,.ref o]) _ _ z1
   refine (xWWPPPWWP Tp _ rfl (SqT.of upd_same) rfl _ _ rfl (xWWPP _ _ rfl rfl ?_))
   generalize upd H1 Tp (.tup [.ref a,.ref o])=H2 at *
   generalize g0 cs k=A1 at *
   generalize g0 cs (k+1)=B1 at *
   refine (xWPWWWWPP _ rfl a _ 0 _ rfl rfl (xPPWP (SqT.of a4) rfl _ rfl (xWWWWPPPP o _ 0 _ rfl rfl (SqT.of o4) rfl ?_)))
   dsimp only [gName]
   refine (xPWP rfl _ rfl (iteC (z:=vx [PC.sgn A1 B1]) ?_ (fun c=>?_) (fun c=>?_)))
   rotate_left
   ·have c:V.int A1.1=V.int B1.1:=of_decide_eq_true c
    rw [e_mi];show vx [45]=vx [PC.sgn A1 B1];rw [PC.sgn,if_pos (V.int.inj c)]
   ·have c:¬V.int A1.1=V.int B1.1:=fun z=>c (decide_eq_true z)
    rw [e_ba];show vx [124]=vx [PC.sgn A1 B1];rw [PC.sgn,if_neg (fun z=>c (congrArg V.int z))]
   generalize es:PC.sgn A1 B1=s
   show tFor _ _ _ _ _ _
   refine seqF (σ':=[some (.ref sd),some (.ref ca),some (.ref a),some (.ref o),some (vx [s]),v5,v6]) rfl ?_
   obtain ⟨n,hn⟩:∃ n:Nat,(n:Int)=(if A1.1<B1.1 then B1.1 else A1.1)+1-(if B1.1<A1.1 then B1.1 else A1.1):=⟨((if A1.1<B1.1 then B1.1 else A1.1)+1-(if B1.1<A1.1 then B1.1 else A1.1)).toNat,by split<;>split<;>omega⟩
   obtain ⟨m,hm⟩:∃ m:Nat,(m:Int)=(if A1.2<B1.2 then B1.2 else A1.2)+1-(if B1.2<A1.2 then B1.2 else A1.2):=⟨((if A1.2<B1.2 then B1.2 else A1.2)+1-(if B1.2<A1.2 then B1.2 else A1.2)).toNat,by split<;>split<;>omega⟩
   obtain ⟨u,hu'⟩:∃ u,u=if B1.1<A1.1 then B1.1 else A1.1:=⟨_,rfl⟩
   obtain ⟨v,hv'⟩:∃ v,v=if B1.2<A1.2 then B1.2 else A1.2:=⟨_,rfl⟩
   have blk:=fun f=>PC.blk_seg f A1 B1 hu' hv' (by rw [hu'];exact hn) (by rw [hv'];exact hm)
   rw [es] at blk
   have nm:n*m≤121:=by
    rcases kx with z | z
    ·have:n=1:=by rw [z] at hn;simp at hn;omega
     subst this
     rw [Nat.one_mul];split at hm<;>split at hm<;>omega
    ·have:m=1:=by rw [z] at hm;simp at hm;omega
     subst this
     rw [Nat.mul_one];split at hn<;>split at hn<;>omega
   have bu:0≤u∧u≤120∧0≤v∧v≤120:=by rw [hu',hv'];split<;>split<;>omega
   have bn:n≤121∧m≤121:=by constructor<;>(split at hn<;>split at hn<;>split at hm<;>split at hm<;>omega)
   refine (xWPWWWWPP _ rfl a _ 0 _ rfl rfl (xPPWP (SqT.of a4) rfl _ rfl (xWWWWPPPP o _ 0 _ rfl rfl (SqT.of o4) rfl (xWWPWP _ _ rfl _ rfl (xWWWWPPPP a _ 0 _ rfl rfl (SqT.of a4) rfl (xWPWWWWPP _ rfl o _ 0 _ rfl rfl (xPPWWPWWP (SqT.of o4) rfl _ _ rfl _ _ rfl (xPWWPP rfl _ _ rfl ?_ ?_))))))))
   ·rw [←hu'];split<;>omega
   rw [←hn,Int.toNat_natCast,←hu']
   let Pv1:Nat→L2.St→L2.Hp→Prop:=fun i σ H'=>(∃ v5 v6,σ=[some (.ref sd),some (.ref ca),some (.ref a),some (.ref o),some (vx [s]),v5,v6])∧But sd H2 H'∧∃ kvs',H' sd=some (.dT kvs')∧kvs'.length≤kv.length+i*m∧∀ f,FD kv f→FD kvs' (PC.blk f s u v m i 0)
   refine for_range (lo:=u) (n:=n) Pv1 (xPPWPP (xWW _ _ rfl) But.refl kv d2 (by omega) (fun f h=>by rw [PC.blk_0];exact h)) ?_ ?_
   ·rintro i σ H3 hi ⟨⟨v5',v6', rfl⟩,b3,kv3,d3,kl3, kf3⟩
    dsimp only [gName]
    refine seqF (σ':=[some (.ref sd),some (.ref ca),some (.ref a),some (.ref o),some (vx [s]),some (.int (u+i)),v6']) rfl ?_
    have a5:=b3 _ _ a3 a4
    have o5:=b3 _ _ o3 o4
    refine (xWPWWWWPP _ rfl a _ 1 _ rfl rfl (xPPWP (SqT.of a5) rfl _ rfl (xWWWWPPPP o _ 1 _ rfl rfl (SqT.of o5) rfl (xWWPWP _ _ rfl _ rfl (xWWWWPPPP a _ 1 _ rfl rfl (SqT.of a5) rfl (xWPWWWWPP _ rfl o _ 1 _ rfl rfl (xPPWWPWWP (SqT.of o5) rfl _ _ rfl _ _ rfl (xPWWPP rfl _ _ rfl ?_ ?_))))))))
    ·rw [←hv'];split<;>omega
    rw [←hm,Int.toNat_natCast,←hv']
    have im:i*m+m≤121:=by
     have:=Nat.mul_le_mul_right m (show i+1≤n from hi)
     rw [Nat.succ_mul] at this;omega
    let Pv2:Nat→L2.St→L2.Hp→Prop:=fun j σ H'=>(∃ v6,σ=[some (.ref sd),some (.ref ca),some (.ref a),some (.ref o),some (vx [s]),some (.int (u+i)),v6])∧But sd H2 H'∧∃ kvs',H' sd=some (.dT kvs')∧kvs'.length≤kv.length+i*m+j∧∀ f,FD kv f→FD kvs' (PC.blk f s u v m i j)
    refine for_range (lo:=v) (n:=m) Pv2 (xPPWPP ⟨_,rfl⟩ b3 kv3 d3 (by omega) kf3) ?_ ?_
    ·rintro j σ H4 hj ⟨⟨v6'',rfl⟩,b4,kv4,d4,kl4, kf4⟩
     refine (xWPWPWPWP _ rfl _ rfl _ rfl _ rfl ⟨(by show 2≤sizeLine;decide), fun T1 hT1=>(xWWPPPPWP sd _ rfl (DPut.t (k:=[.inl (u+i),.inl (v+j)]) (same_new hT1 _ _ _ d4) upd_same (few6 (by omega))) ⟨_,rfl⟩ ((b4.new hT1).chg) _ upd_same ⟨Yr (length_putK _ _ _) (by omega), fun f h=>?_⟩)⟩)
     rw [←PC.blk_put]
     exact (kf4 f h).put (u+i,v+j) s
    ·rintro σ H4 ⟨⟨v6'',rfl⟩,b4,kv4,d4,kl4, kf4⟩
     refine (xPPWPP (xWW _ _ rfl) b4 kv4 d4 (by rw [Nat.succ_mul];omega) (fun f h=>?_))
     rw [←PC.blk_row]
     exact kf4 f h
   ·rintro σ H3 ⟨⟨v5',v6', rfl⟩,b3,kv3,d3,kl3, kf3⟩
    refine (xPPPWPP (xWWWWW _ _ _ _ _ rfl) (b2.trans b3) (b3 _ _ hzd z2) kv3 d3 (by omega) (fun f h=>?_))
    rw [←blk]
    exact kf3 _ (kf f h)
  ·rintro σ H1 ⟨⟨v2,v3,v4,v5,v6, rfl⟩,b1,z1,kv,d1,kl, kf⟩
   have e:((tr.map V.ref).drop 1).length=cs.length-1:=by simp [t2]
   rw [e] at kl kf
   exact n1 _ _ (xPPWPP (xWWWWW _ _ _ _ _ rfl) b1 kv d1 kl kf)
 rintro σ1 H1 ⟨⟨v2,v3,v4,v5,v6, rfl⟩,b1,kv,d1,kl, kf⟩
 have cz:cutV (tr.map V.ref) (some 1) (some (-1))=((tr.map V.ref).drop 1).take (cs.length-2):=by rw [cut_mid (by rw [Zq,t2];exact c2),Zq,t2]
 refine (xWPWPWPWP _ rfl _ rfl _ rfl _ rfl (xWWPP ca _ rfl (SqL.of (b1 _ _ nca t1)) (fun z hz=>?_)))
 rw [cz]
 have hzd:z≠sd:=fun e=>by rw [e,d1] at hz;cases hz
 let Pv3:Nat→L2.St→L2.Hp→Prop:=fun k σ H'=>(∃ v2 v3 v4 v5 v6,σ=[some (.ref sd),some (.ref ca),v2,v3,v4,v5,v6])∧But sd H H'∧H' z=some (.lst (((tr.map V.ref).drop 1).take (cs.length-2)))∧∃ kvs',H' sd=some (.dT kvs')∧kvs'.length≤kv.length+k∧∀ f,FD kvs f→FD kvs' (PC.plF id cs (PC.lnF id cs f (cs.length-1)) k)
 refine (xWPP z rfl ⟨_,SqL.of upd_same⟩ (for_list (xs:=((tr.map V.ref).drop 1).take (cs.length-2)) Pv3 (xPPPWPP (xWWWWW _ _ _ _ _ rfl) (b1.new hz) upd_same kv (same_new hz _ _ _ d1) (Nat.le_refl _) kf) (fun _ _ _ _ ⟨_,_,h,_⟩=>SqL.of h) ?_ ?_))
 ·rintro k x σ H2 hx ⟨⟨v2',v3',v4',v5',v6', rfl⟩,b2,z2,kv2,d2,kl2, kf2⟩
  have hk:k<cs.length-2:=by have:=(Zj.mp hx).1;simp at this;omega
  obtain ⟨a,a1,a2,a3⟩:=atp (k+1) (by omega)
  rw [List.getElem?_take_of_lt hk,List.getElem?_drop,Zk,Nat.add_comm 1 k,a1] at hx
  cases hx
  refine (xWPWPWWPP _ rfl _ rfl sd _ rfl (DPut.t (k:=[.inl (g0 cs (k+1)).1,.inl (g0 cs (k+1)).2]) d2 (b2 _ _ a3 a2) (few6 (by omega))) (xPPPWPP (xWWWWW _ _ _ _ _ rfl) b2.chg ((upd_ne hzd).trans z2) _ upd_same (Yr (length_putK _ _ _) (by omega)) (fun f h=>?_)))
  rw [e_pl]
  exact (kf2 f h).put (g0 cs (k+1)) 43
 ·rintro σ H2 ⟨_,b2,_,kv2,d2,kl2, kf2⟩
  have e:(((tr.map V.ref).drop 1).take (cs.length-2)).length=cs.length-2:=by simp [t2];omega
  rw [e] at kl2 kf2
  exact q kv2 _ b2 d2 (by omega) kf2
def Rw (f:PC.Fld) (r:Int) (n:Nat):Str:=Txt.rstripChars (sT ((List.range n).map fun c:Nat=>f (r,(c:Int)))) (sT [32])
theorem flat1 {g:Nat→Nat}:∀ l:List Nat,(l.map fun c=>[g c]).flatten=l.map g
 | []=>rfl
 | x::l=>by rw [List.map_cons,List.flatten_cons,flat1 l];rfl
theorem sum1 {g:Nat→Nat}:∀ l:List Nat,((l.map fun c=>[g c]).map List.length).sum=l.length
 | []=>rfl
 | x::l=>by rw [List.map_cons,List.map_cons,List.sum_cons,sum1 l,Yq,Yq];show 0+1+_=_;omega
def spSR:Sp:=fun vs H Q _=>∃ (sd:Addr) (kvs:List (List Key×V)) (r:Int) (n:Nat) (f:PC.Fld),vs=[.ref sd,.int r,vn n]∧H sd=some (.dT kvs)∧n≤1000∧FD kvs f∧∀ H',Same H H'→Q (.str (Rw f r n)) H'
theorem ok_sr (T:Txt K mg t):FnOk P w K mg base CX0 1 t.a_show_row t.d_show_row ["signs","row","wide"] spSR:=by
 refine T.F_show_row.ok sc_show_row (fun vs H Q E h=>?_) (fun cdv A outer s H vs Q E hr h=>?_)
 ·obtain ⟨sd,kvs,r,n,f,rfl,_⟩:=h;rfl
 obtain ⟨sd,kvs,r,n,f,rfl,hd,hn,hf,q⟩:=h
 have nd:=sc_show_row.nd
 have hu:=hu_of hr
 have nd_place_signs_row:(["place","signs","row"]:List Str).Nodup:=by decide
 refine (xWP _ (pss_one (ps_ret (pe_bm PySem.F.plainAttrs_str PySem.F.slot_str_rstrip PySem.F.type_str_rstrip mt_rstrip (pe_bm PySem.F.plainAttrs_str PySem.F.slot_str_join PySem.F.type_str_join mt_join0 pe_str (pa_cons (pe_comp (N':=["place","signs","row"]) (js:=[none,some 0,some 1]) rfl (pi_range1 rfl T.z_range (pa_cons (pv 2) pa_nil)) (fun _ _ _ _ _=>(pg_name (i:=0) nd_place_signs_row rfl (Or.inl rfl))) (fun _ _ _ _ _=>pf_nil) (fun _ _ _ _ _=>(pe_dget2 hu (pv 1) (pe_tup (pa_cons (pv 2) (pa_cons (pv 0) pa_nil))) pe_str ⟨rfl,rfl,rfl, rfl⟩))) pa_nil)) (pa_cons pe_str pa_nil)))) ?_)
 refine (xPWPWPPP rfl _ rfl (n:Int) rfl (by omega) (by omega) (fun D hD=>?_))
 rw [Int.toNat_natCast]
 refine comp_pure n (fun i=>vx [f (r,(i:Int))]) hD (by omega) (fun i H' hi g=>hi) (fun H' g=>Nat.le_refl _) ?_ ?_
 ·rintro i H' x H'' k hi g ⟨rfl,rfl⟩ hk
  refine (xPWPWPPWP ((Fills.refl _).set _ rfl) _ rfl sd rfl (.inr ⟨_,.inl (g _ _ hd)⟩) _ rfl (xWPP _ rfl (by show 2≤sizeLine;decide) (fun T1 hT1=>(xWP (valV kvs [.inl r,.inl (i:Int)]) ?_ ?_))))
  ·have:=DGet.t (k:=[.inl r,.inl (0+(i:Int))]) (same_new hT1 (.tup [.int r,.int (0+(i:Int))]) _ _ (g _ _ hd)) upd_same
   rw [Int.zero_add] at this ⊢
   exact this
  ·rw [e_bl]
   have:=hf r i
   rw [show V.str (sT [32])=vx [32] from rfl,this]
   exact hk _ (same_new hT1 _)
 ·intro H' g e
  have e':(List.range n).map (fun i:Nat=>vx [f (r,(i:Int))])=vxs ((List.range n).map fun c:Nat=>[f (r,(c:Int))]):=by unfold vxs;rw [Yg];rfl
  rw [e'] at e
  refine (xWWWPPPPP _ D _ rfl e_no3 rfl (SqL.of e) (by rw [sum1,Zq,Yj];omega) (xPWWPPP rfl _ _ rfl rfl (by rw [sT_len,flat1,Zq,Yj];exact Yr (by omega) mil) ?_))
  rw [flat1,e_bl]
  exact q _ g
end K76
namespace L2
open PySem PySem.Spec PyProof.Rows
theorem Fun.okX {P:Program} {w:World} {K:PySem.W.Frag} {mg:Str→Option Value} {base:Heap} {C:Addr} {x qual:Str} {st:Stmt} {f:Addr} {fd:FuncData} {N ps:List Str} {k:Nat} {sp:Sp} (F:Fun K x qual st f fd) (S:FnScope N ps (defScope st)) (len:∀ vs H Q E,sp vs H Q E→vs.length=ps.length)
  (hbody:∀ (cdv:Value) (A:Around) (outer:List Env) (s:Shared) (H:Hp) (vs:List V) (Q:VK) (E:XK),Room k (A.deeper (envOfC qual (defScope st) s.heap.objs.size f cdv))→sp vs H Q E →
   ∃ t,PSs (cxOf (CXr P w C) P w K mg base N qual (defScope st) f cdv A outer s H E) (defBody st) t∧t { nx:=fun _ H'=>Q .non H',rt:=Q } (start N vs) H):FnOk P w K mg base (CXr P w C) (k+1) f fd ps sp:=by
 obtain ⟨oc,od,kV,doc,pm,an,cdv,ct,osl,rfl,lk, hcd⟩:=F.ex
 exact fn_of lk hcd S len fun A outer s H vs Q E hr hsp=>hbody cdv A outer s H vs Q E hr hsp
end L2
namespace PC
open L2 GR
theorem g0_map {l:List Pt} (c:Pt→Pt) {k:Nat} (h:k<l.length):g0 (l.map c) k=c (g0 l k):=by
 rw [g0_get (get_of h)]
 exact g0_get (by rw [Zk,get_of h];rfl)
theorem plF_map (c:Pt→Pt) (l:List Pt) (f:Fld):∀ n,n<l.length→plF id (l.map c) f n=plF c l f n
 | 0,_=>rfl
 | n+1,h=>by
  show put (plF id (l.map c) f n) (id (g0 (l.map c) (n+1))) 43=put (plF c l f n) (c (g0 l (n+1))) 43
  rw [plF_map c l f n (by omega),g0_map c h];rfl
theorem lnF_map (c:Pt→Pt) (l:List Pt) (f:Fld):∀ n,n<l.length→lnF id (l.map c) f n=lnF c l f n
 | 0,_=>rfl
 | n+1,h=>by
  show seg (lnF id (l.map c) f n) (id (g0 (l.map c) n)) (id (g0 (l.map c) (n+1)))=seg (lnF c l f n) (c (g0 l n)) (c (g0 l (n+1)))
  rw [lnF_map c l f n (by omega),g0_map c h,g0_map c (by omega:n<l.length)];rfl
structure Bx (ps:List Pt) (L R B T:Int):Prop where
 l1:L∈ps.map fun p=>p.1
 l2:∀ x∈ps.map (fun p:Pt=>p.1),L≤x
 r1:R∈ps.map fun p=>p.1
 r2:∀ x∈ps.map (fun p:Pt=>p.1),x≤R
 b1:B∈ps.map fun p=>p.2
 b2:∀ x∈ps.map (fun p:Pt=>p.2),B≤x
 t1:T∈ps.map fun p=>p.2
 t2:∀ x∈ps.map (fun p:Pt=>p.2),x≤T
theorem Bx.one {ps:List Pt} {L R B T L' R' B' T':Int} (h:Bx ps L R B T) (h':Bx ps L' R' B' T'):L=L'∧R=R'∧B=B'∧T=T' :=
 ⟨Int.le_antisymm (h.l2 _ h'.l1) (h'.l2 _ h.l1),Int.le_antisymm (h'.r2 _ h.r1) (h.r2 _ h'.r1),Int.le_antisymm (h.b2 _ h'.b1) (h'.b2 _ h.b1), Int.le_antisymm (h'.t2 _ h.t1) (h.t2 _ h'.t1)⟩
theorem Bx.at {ps:List Pt} {L R B T:Int} (h:Bx ps L R B T) {p:Pt} (hp:p∈ps):(L≤p.1∧p.1≤R)∧B≤p.2∧p.2≤T :=
 ⟨⟨h.l2 _ (Zh.mpr ⟨p,hp, rfl⟩),h.r2 _ (Zh.mpr ⟨p,hp, rfl⟩)⟩,h.b2 _ (Zh.mpr ⟨p,hp, rfl⟩), h.t2 _ (Zh.mpr ⟨p,hp, rfl⟩)⟩
def picF (L T:Int) (sp:List Pt) (ll:List (List Pt)):Fld:=spF (cel L T) sp (prF (cel L T) ll (fun _=>32) ll.length) sp.length
theorem map_g0 {α:Type} (f:Pt→α) (sp:List Pt):((List.range sp.length).map fun i=>f (g0 sp i))=sp.map f:=by
 refine List.ext_getElem (by simp) fun i h1 h2=>?_
 have hi:i<sp.length:=by simpa using h1
 simp [g0,Zv,Zz hi]
theorem flat_le {n:Nat}:∀ {ll:List (List Pt)},(∀ l∈ll,l.length≤n)→ll.flatten.length≤n*ll.length
 | [],_=>by simp
 | l::ll,h=>by
  have:=h l (Zd ..)
  have:=flat_le (ll:=ll) fun x hx=>h x (Zw _ hx)
  rw [List.flatten_cons,Zm,Yq,Nat.mul_succ];omega
theorem take_flat {ll:List (List Pt)} {i:Nat} (hi:i<ll.length):(ll.take (i+1)).flatten=(ll.take i).flatten++ll[i]:=by
 rw [List.take_add_one,get_of hi,List.flatten_append]
 exact congrArg _ (List.append_nil _)
end PC
namespace L2
open PySem PySem.Spec PyProof.Rows GR
theorem But.same {d:Addr} {H H':Hp} (h:But d H H') (hd:H d=none):Same H H':=fun b o e=>h b o (fun z=>by rw [z,hd] at e;cases e) e
theorem PtR.at {H:Hp} {tr:List Addr} {ps:List Pt} (h:PtR H tr ps) {i:Nat} (hi:i<ps.length):∃ r,tr[i]?=some r∧H r=some (.tup [.int (g0 ps i).1,.int (g0 ps i).2]):=by
 rw [g0_get (GR.get_of hi)];exact h.nth i _ (GR.get_of hi)
theorem ts_of6 {H:Hp} {D:Addr} {rr:List Addr} {ps:List Pt} (e:H D=some (.lst (rr.map V.ref))) (l:rr.length=ps.length) (h:∀ (i:Nat) a,rr[i]?=some a→∃ o,o=HO.tup [.int (ps.getD i (0,0)).1,.int (ps.getD i (0,0)).2]∧H a=some o):TsI H D ps:=by
 refine ⟨rr,e,l, fun i p ep=>?_⟩
 have hi:i<rr.length:=by rw [l];exact (Zj.mp ep).1
 obtain ⟨o,rfl, ho⟩:=h i _ (GR.get_of hi)
 refine ⟨_,GR.get_of hi, ?_⟩
 rw [ho]
 have:ps.getD i (0,0)=p:=g0_get ep
 rw [this]
end L2
namespace K76
open PySem L2 PyProof.Rows TX GR PC
variable {P:Program} {w:World} {K:PySem.W.Frag} {mg:Str→Option Value} {base:Heap} {t:Adr}
theorem dig:∀ k,k<10→((k:Nat):Int).natAbs.log2<1920∧V.str (Str.ofString (toString ((k:Nat):Int)))=vx [48+k]
 | 0,_=>⟨by decide,by decide +kernel⟩
 | 1,_=>⟨by decide,by decide +kernel⟩
 | 2,_=>⟨by decide,by decide +kernel⟩
 | 3,_=>⟨by decide,by decide +kernel⟩
 | 4,_=>⟨by decide,by decide +kernel⟩
 | 5,_=>⟨by decide,by decide +kernel⟩
 | 6,_=>⟨by decide,by decide +kernel⟩
 | 7,_=>⟨by decide,by decide +kernel⟩
 | 8,_=>⟨by decide,by decide +kernel⟩
 | 9,_=>⟨by decide,by decide +kernel⟩
 | k+10,h=>absurd h (by omega)
def rowsP (f:PC.Fld) (hi wi:Int):List V:=(List.range (2*hi+1).toNat).map fun i:Nat=>V.str (Rw f (i:Int) (2*wi+1).toNat)
def spPic:Sp:=fun vs H Q E=>∃ (d:Addr) (sp:List Pt) (ll:List (List Pt)) (L R B T:Int),vs=[.ref d]∧DrB H d sp ll∧GD (-20) 100 sp ll∧Bx (sp++ll.flatten) L R B T ∧
 ((60<R-L∨60<T-B)→∀ x H',Same H H'→E (.ref x) none H') ∧
 (R-L≤60→T-B≤60→∀ r H',H r=none→Same H H'→H' r=some (.lst (rowsP (picF L T sp ll) (T-B) (R-L)))→Q (.ref r) H')
theorem ok_pic (T:Txt K mg t):FnOk P w K mg base (CXr P w t.c_NoPicture) 2 t.a_picture t.d_picture ["drawing"] spPic:=by
 have G_cell_of:=ok_cell (P:=P) (w:=w) (base:=base) T
 have G_put_line:=ok_pl (P:=P) (w:=w) (base:=base) T
 have G_show_row:=ok_sr (P:=P) (w:=w) (base:=base) T
 refine T.F_picture.okX sc_picture (fun vs H Q E h=>?_) (fun cdv A outer s H vs Q E hr h=>?_)
 ·obtain ⟨d,sp,ll,L,R,B,U,rfl,_⟩:=h;rfl
 obtain ⟨d,sp,ll,L,R,B,U,rfl,⟨pa,la,d1,hP,hL⟩,hG,bx,qe,q⟩:=h
 have nd:=sc_picture.nd
 have hu:=hu_of hr
 have nd_row_signs_wide:(["row","signs","wide"]:List Str).Nodup:=by decide
 have nd_point_left_low_high:(["point","left","low","high"]:List Str).Nodup:=by decide
 have nd_point:(["point"]:List Str).Nodup:=by decide
 refine (xWP _ (pss_cons (ps_set (i:=1) nd rfl (Or.inl rfl) (pe_callTy call_list_of rfl T.z_list boot_list (pa_cons (pe_ix ix_tup (pv 0) pe_int (fun _ _=>rfl)) pa_nil)))
  (pss_cons (ps_for PassesOwn.leaving rfl (pi_list (pe_ix ix_tup (pv 0) pe_int (fun _ _=>rfl))) (pg_name (i:=2) nd rfl (Or.inl rfl)) (pss_one (ps_expr (pe_bm PySem.F.plainAttrs_list PySem.F.slot_list_extend PySem.F.type_list_extend mt_extend (pv 1) (pa_cons (pv 2) pa_nil)))))
  (pss_cons (ps_set (i:=3) nd rfl (Or.inr rfl) (pe_callB (call_minL rfl) rfl T.z_min boot_min (pa_cons (pe_comp (N':=["point"]) (js:=[none]) rfl (pi_list (pv 1)) (fun _ _ _ _ _=>(pg_name (i:=0) nd_point rfl (Or.inl rfl))) (fun _ _ _ _ _=>pf_nil) (fun _ _ _ _ _=>(pe_ix (kix_tup (K:=K) rfl) (pv 0) pe_int (fun _ _=>rfl)))) pa_nil)))
  (pss_cons (ps_set (i:=4) nd rfl (Or.inr rfl) (pe_callB (call_minL rfl) rfl T.z_min boot_min (pa_cons (pe_comp (N':=["point"]) (js:=[none]) rfl (pi_list (pv 1)) (fun _ _ _ _ _=>(pg_name (i:=0) nd_point rfl (Or.inl rfl))) (fun _ _ _ _ _=>pf_nil) (fun _ _ _ _ _=>(pe_ix (kix_tup (K:=K) rfl) (pv 0) pe_int (fun _ _=>rfl)))) pa_nil)))
  (pss_cons (ps_set (i:=5) nd rfl (Or.inr rfl) (pe_op op_sub (pe_callB (call_maxL rfl) rfl T.z_max boot_max (pa_cons (pe_comp (N':=["point"]) (js:=[none]) rfl (pi_list (pv 1)) (fun _ _ _ _ _=>(pg_name (i:=0) nd_point rfl (Or.inl rfl))) (fun _ _ _ _ _=>pf_nil) (fun _ _ _ _ _=>(pe_ix (kix_tup (K:=K) rfl) (pv 0) pe_int (fun _ _=>rfl)))) pa_nil)) (pv 3)))
  (pss_cons (ps_set (i:=6) nd rfl (Or.inr rfl) (pe_op op_sub (pe_callB (call_maxL rfl) rfl T.z_max boot_max (pa_cons (pe_comp (N':=["point"]) (js:=[none]) rfl (pi_list (pv 1)) (fun _ _ _ _ _=>(pg_name (i:=0) nd_point rfl (Or.inl rfl))) (fun _ _ _ _ _=>pf_nil) (fun _ _ _ _ _=>(pe_ix (kix_tup (K:=K) rfl) (pv 0) pe_int (fun _ _=>rfl)))) pa_nil)) (pv 4)))
  (pss_cons (ps_if (PW.pt (pw_or (pt_cmpR op_gt (pv 5) (pe_glob (v:=.int 60) rfl T.g_MOST_REACH ⟨_,rfl⟩) (nomark _)) (pw_or1 (pt_cmpR op_gt (pv 6) (pe_glob (v:=.int 60) rfl T.g_MOST_REACH ⟨_,rfl⟩) (nomark _))))) (pss_one (ps_raise T.x_in PySem.F.excBase_ValueError T.m_NoPicture)) pss_nil)
  (pss_cons (ps_set (i:=7) nd rfl (Or.inr rfl) pe_dnewT)
  (pss_cons (ps_for PassesOwn.leaving rfl (pi_list (pe_ix ix_tup (pv 0) pe_int (fun _ _=>rfl))) (pg_name (i:=2) nd rfl (Or.inl rfl)) (pss_one (ps_expr (pe_call G_put_line (hr.mono (by decide)) rfl T.m_put_line T.k_put_line T.b_put_line .nil pass0 (pa_cons (pv 7) (pa_cons (pe_comp (N':=["point","left","low","high"]) (js:=[none,some 3,some 4,some 6]) rfl (pi_list (pv 2)) (fun _ _ _ _ _=>(pg_name (i:=0) nd_point_left_low_high rfl (Or.inl rfl))) (fun _ _ _ _ _=>pf_nil) (fun _ _ _ _ _=>(pe_call G_cell_of (hr.mono (by decide)) rfl T.m_cell_of T.k_cell_of T.b_cell_of .nil pass0 (pa_cons (pv 0) (pa_cons (pv 1) (pa_cons (pe_op op_add (pv 2) (pv 3)) pa_nil)))))) pa_nil))))))
  (pss_cons (ps_for PassesOwn.leaving rfl (pi_enum rfl T.z_enumerate (pa_cons (pe_ix ix_tup (pv 0) pe_int (fun _ _=>rfl)) pa_nil)) (pg_tup rfl (pgs_cons (pg_name (i:=8) nd rfl (Or.inl rfl)) (pgs_cons (pg_name (i:=9) nd rfl (Or.inl rfl)) pgs_nil))) (pss_one (ps_dput hu (pv 7) (pe_call G_cell_of (hr.mono (by decide)) rfl T.m_cell_of T.k_cell_of T.b_cell_of .nil pass0 (pa_cons (pv 9) (pa_cons (pv 3) (pa_cons (pe_op op_add (pv 4) (pv 6)) pa_nil)))) (pe_callTy call_str_int rfl T.z_str boot_str (pa_cons (pv 8) pa_nil)) rfl)))
  (pss_one (ps_ret (pe_comp (N':=["row","signs","wide"]) (js:=[none,some 7,some 5]) rfl (pi_range1 rfl T.z_range (pa_cons (pe_op op_add (pe_op op_mul pe_int (pv 6)) pe_int) pa_nil)) (fun _ _ _ _ _=>(pg_name (i:=0) nd_row_signs_wide rfl (Or.inl rfl))) (fun _ _ _ _ _=>pf_nil) (fun _ _ _ _ _=>(pe_call G_show_row (hr.mono (by decide)) rfl T.m_show_row T.k_show_row T.b_show_row .nil pass0 (pa_cons (pv 1) (pa_cons (pv 0) (pa_cons (pe_op op_add (pe_op op_mul pe_int (pv 2)) pe_int) pa_nil)))))))))))))))))) ?_)
 obtain ⟨pr,p1,pP⟩:=id hP.pr
 obtain ⟨lr,l1,l2,l3,l4⟩:=id hL
 have s10:=hG.s10
 have s1:=hG.s1
 have l20:=hG.l20
 have fl:∀ i,(ll.take i).flatten.length≤720:=fun i=>Yr (flat_le fun l hl=>(hG.len l (List.mem_of_mem_take hl)).2) (by rw [Yw];omega)
 refine (xWPWWWWPP _ rfl d _ 0 _ rfl rfl (xPPWWPP (SqT.of d1) rfl pa _ rfl (.inl (SqL.of p1)) (fun D hD=>?_)))
 have k1:=same_new hD (.lst (pr.map V.ref))
 dsimp only [gName]
 refine viaN (fun σ' H'=>(∃ v2,σ'=[some (.ref d),some (.ref D),v2,none,none,none,none,none,none,none])∧Same H H'∧∃ tr,H' D=some (.lst (tr.map V.ref))∧PtR H' tr (sp++ll.flatten)) (fun N n1=>?_) ?_
 ·let Pv1:Nat→L2.St→L2.Hp→Prop:=fun i σ' H'=>(∃ v2,σ'=[some (.ref d),some (.ref D),v2,none,none,none,none,none,none,none])∧Same H H'∧∃ tr,H' D=some (.lst (tr.map V.ref))∧PtR H' tr (sp++(ll.take i).flatten)
  refine (xWPWWWWPP _ rfl d _ 1 _ rfl rfl (xPPWPP (SqT.of (k1 _ _ d1)) rfl la rfl ⟨_,SqL.of (k1 _ _ l1)⟩ (for_list (xs:=lr.map V.ref) Pv1 (xPPWP ⟨_,rfl⟩ k1 pr upd_same (by simpa using pP.same k1)) (fun _ _ _ _ ⟨_,g,_⟩=>SqL.of (g _ _ l1)) ?_ ?_)))
  ·rintro i x σ H2 hx ⟨⟨v2,rfl⟩,g2,tr,e2, r2⟩
   have hi:i<ll.length:=by have:=(Zj.mp hx).1;rw [Zq,l2] at this;exact this
   obtain ⟨lx,x1,x2⟩:=l4 i _ (GR.get_of hi)
   rw [Zk,x1] at hx
   cases hx
   obtain ⟨tx,y1,y2⟩:=(x2.same g2).pr
   have tk:=take_flat hi
   have fi:=fl i
   have li:=(hG.len _ (Zp hi)).2
   have rl:=r2.len
   have yl:=y2.len
   rw [Zm] at rl
   refine (xWPPWP _ rfl (.inl ⟨rfl,_, SqL.of e2⟩) _ rfl (xWWWWPPPP D lx _ _ rfl rfl e2 y1 (xPPPWP (Yr (by rw [Zq,Zq];omega) mil) ⟨_,rfl⟩ (g2.fresh hD _) (tr++tx) (by rw [upd_same,Zt]) ?_)))
   rw [tk,←Yb]
   exact (PtR.app y2 r2).other e2 _
  ·rintro σ H2 ⟨h2,g2,tr,e2, r2⟩
   rw [Zq,l2,Yv] at r2
   exact n1 _ _ (xPPWP h2 g2 tr e2 r2)
 rintro σ1 H1 ⟨⟨v2,rfl⟩,g1,tr,e1, r1⟩
 have psl:(sp++ll.flatten).length≤730:=by have:=fl ll.length;rw [Yv] at this;rw [Zm];omega
 have ps1:1≤(sp++ll.flatten).length:=by rw [Zm];omega
 have trl:=r1.len
 have inp:∀ l∈ll,∀ p∈l,p∈sp++ll.flatten:=fun l hl p hp=>Zf.mpr (.inr (List.mem_flatten.mpr (xWP l hl hp)))
 have ins:∀ p∈sp,p∈sp++ll.flatten:=fun p hp=>Zf.mpr (.inl hp)
 generalize sp++ll.flatten=ps at bx r1 psl ps1 trl inp ins
 refine (xWPWPP _ rfl D rfl ⟨_,SqL.of e1⟩ (fun D1 hD1=>?_))
 refine comp_pure ps.length (fun i=>.int (g0 ps i).1) hD1 (by omega) (fun i H' hi g=>(xWWP _ (.ref (tr[i]'(by omega))) (SqL.of (g _ _ e1)) (by rw [Zk,GR.get_of (by omega)];rfl))) (fun H' g=>(xWP _ (SqL.of (g _ _ e1)) (by rw [Zq,trl];exact Nat.le_refl _))) ?_ ?_
 ·rintro i H' x H'' k hi g ⟨rfl,hx⟩ hk
  have hx:=hx _ (SqL.of (g _ _ e1))
  obtain ⟨ra,a1,a2⟩:=r1.at hi
  rw [Zk,a1] at hx
  cases hx
  exact (xPWPWWWWP ((Fills.refl _).set _ rfl) _ rfl ra _ 0 _ rfl (xPPP rfl (SqT.of (g _ _ a2)) rfl (hk _ (Same.refl _))))
 intro H2 gH2 eH2
 have wH2:((List.range ps.length).map fun i=>V.int (g0 ps i).1)=(ps.map fun p:Pt=>p.1).map V.int:=by rw [map_g0 (fun p=>V.int p.1),Yg];rfl
 rw [wH2] at eH2
 refine (xWWPPP D1 (ps.map fun p:Pt=>p.1) rfl (SqL.of eH2) (by rw [Zq];omega) (fun mL mL1 mL2=>?_))
 dsimp only [gName]
 refine (xWPWPP _ rfl D rfl ⟨_,SqL.of (gH2 _ _ e1)⟩ (fun D2 hD2=>?_))
 refine comp_pure ps.length (fun i=>.int (g0 ps i).2) hD2 (by omega) (fun i H' hi g=>(xWWP _ (.ref (tr[i]'(by omega))) (SqL.of (g _ _ (gH2 _ _ e1))) (by rw [Zk,GR.get_of (by omega)];rfl))) (fun H' g=>(xWP _ (SqL.of (g _ _ (gH2 _ _ e1))) (by rw [Zq,trl];exact Nat.le_refl _))) ?_ ?_
 ·rintro i H' x H'' k hi g ⟨rfl,hx⟩ hk
  have hx:=hx _ (SqL.of (g _ _ (gH2 _ _ e1)))
  obtain ⟨ra,a1,a2⟩:=(r1.same gH2).at hi
  rw [Zk,a1] at hx
  cases hx
  exact (xPWPWWWWP ((Fills.refl _).set _ rfl) _ rfl ra _ 1 _ rfl (xPPP rfl (SqT.of (g _ _ a2)) rfl (hk _ (Same.refl _))))
 intro H3 gH3 eH3
 have wH3:((List.range ps.length).map fun i=>V.int (g0 ps i).2)=(ps.map fun p:Pt=>p.2).map V.int:=by rw [map_g0 (fun p=>V.int p.2),Yg];rfl
 rw [wH3] at eH3
 refine (xWWPPP D2 (ps.map fun p:Pt=>p.2) rfl (SqL.of eH3) (by rw [Zq];omega) (fun mB mB1 mB2=>?_))
 dsimp only [gName]
 refine (xWPWPP _ rfl D rfl ⟨_,SqL.of (gH3 _ _ (gH2 _ _ e1))⟩ (fun D3 hD3=>?_))
 refine comp_pure ps.length (fun i=>.int (g0 ps i).1) hD3 (by omega) (fun i H' hi g=>(xWWP _ (.ref (tr[i]'(by omega))) (SqL.of (g _ _ (gH3 _ _ (gH2 _ _ e1)))) (by rw [Zk,GR.get_of (by omega)];rfl))) (fun H' g=>(xWP _ (SqL.of (g _ _ (gH3 _ _ (gH2 _ _ e1)))) (by rw [Zq,trl];exact Nat.le_refl _))) ?_ ?_
 ·rintro i H' x H'' k hi g ⟨rfl,hx⟩ hk
  have hx:=hx _ (SqL.of (g _ _ (gH3 _ _ (gH2 _ _ e1))))
  obtain ⟨ra,a1,a2⟩:=((r1.same gH2).same gH3).at hi
  rw [Zk,a1] at hx
  cases hx
  exact (xPWPWWWWP ((Fills.refl _).set _ rfl) _ rfl ra _ 0 _ rfl (xPPP rfl (SqT.of (g _ _ a2)) rfl (hk _ (Same.refl _))))
 intro H4 gH4 eH4
 have wH4:((List.range ps.length).map fun i=>V.int (g0 ps i).1)=(ps.map fun p:Pt=>p.1).map V.int:=by rw [map_g0 (fun p=>V.int p.1),Yg];rfl
 rw [wH4] at eH4
 refine (xWWPPP D3 (ps.map fun p:Pt=>p.1) rfl (SqL.of eH4) (by rw [Zq];omega) (fun mR mR1 mR2=>?_))
 refine (xWPWWPP _ rfl _ _ rfl rfl ?_)
 dsimp only [gName]
 refine (xWPWPP _ rfl D rfl ⟨_,SqL.of (gH4 _ _ (gH3 _ _ (gH2 _ _ e1)))⟩ (fun D4 hD4=>?_))
 refine comp_pure ps.length (fun i=>.int (g0 ps i).2) hD4 (by omega) (fun i H' hi g=>(xWWP _ (.ref (tr[i]'(by omega))) (SqL.of (g _ _ (gH4 _ _ (gH3 _ _ (gH2 _ _ e1))))) (by rw [Zk,GR.get_of (by omega)];rfl))) (fun H' g=>(xWP _ (SqL.of (g _ _ (gH4 _ _ (gH3 _ _ (gH2 _ _ e1))))) (by rw [Zq,trl];exact Nat.le_refl _))) ?_ ?_
 ·rintro i H' x H'' k hi g ⟨rfl,hx⟩ hk
  have hx:=hx _ (SqL.of (g _ _ (gH4 _ _ (gH3 _ _ (gH2 _ _ e1)))))
  obtain ⟨ra,a1,a2⟩:=(((r1.same gH2).same gH3).same gH4).at hi
  rw [Zk,a1] at hx
  cases hx
  exact (xPWPWWWWP ((Fills.refl _).set _ rfl) _ rfl ra _ 1 _ rfl (xPPP rfl (SqT.of (g _ _ a2)) rfl (hk _ (Same.refl _))))
 intro H5 gH5 eH5
 have wH5:((List.range ps.length).map fun i=>V.int (g0 ps i).2)=(ps.map fun p:Pt=>p.2).map V.int:=by rw [map_g0 (fun p=>V.int p.2),Yg];rfl
 rw [wH5] at eH5
 refine (xWWPPP D4 (ps.map fun p:Pt=>p.2) rfl (SqL.of eH5) (by rw [Zq];omega) (fun mT mT1 mT2=>?_))
 refine (xWPWWPP _ rfl _ _ rfl rfl ?_)
 dsimp only [gName]
 obtain ⟨rfl,rfl,rfl,rfl⟩:=Bx.one ⟨mL1,mL2,mR1,mR2,mB1,mB2,mT1, mT2⟩ bx
 have g5:=g1.trans (gH2.trans (gH3.trans (gH4.trans gH5)))
 clear wH2 wH3 wH4 wH5 eH2 eH3 eH4 eH5 mL1 mL2 mR1 mR2 mB1 mB2 mT1 mT2 hD1 hD2 hD3 hD4 gH2 gH3 gH4 gH5 e1 r1 trl k1 hD
 refine viaN (fun σ' H'=>(mR-mL≤60∧mT-mB≤60)∧H'=H5∧σ'=[some (.ref d),some (.ref D),v2,some (.int mL),some (.int mB),some (.int (mR-mL)),some (.int (mT-mB)),none,none,none]) (fun N n1=>?_) ?_
 ·refine (xWPWWPPWP _ rfl _ _ rfl rfl _ rfl (ite2 (fun c=>?_) (fun c=>?_)))
  ·have c:60<mR-mL:=of_decide_eq_true c
   exact iteT fun x=>qe (.inl c) x _ g5
  have c:¬60<mR-mL:=fun z=>c (decide_eq_true z)
  refine (xWPWWPPWP _ rfl _ _ rfl rfl _ rfl (ite2 (fun c2=>?_) (fun c2=>?_)))
  ·have c2:60<mT-mB:=of_decide_eq_true c2
   exact fun x=>qe (.inr c2) x _ g5
  have c2:¬60<mT-mB:=fun z=>c2 (decide_eq_true z)
  exact n1 _ _ (xPP ⟨by omega,by omega⟩ rfl rfl)
 rintro σ1 _ ⟨⟨w60,h60⟩,rfl, rfl⟩
 intro sd hsd
 have hsd0:H sd=none:=g5.free hsd
 have k6:=same_new hsd (.dT [])
 have q:=q w60 h60
 have eT:mB+(mT-mB)=mT:=by omega
 have cin:∀ p∈ps,(0≤(cel mL mT p).1∧(cel mL mT p).1≤120)∧0≤(cel mL mT p).2∧(cel mL mT p).2≤120:=fun p hp=>by
  have:=bx.at hp
  exact (xPP ⟨by show 0≤2*(mT-p.2);omega,by show 2*(mT-p.2)≤120;omega⟩ (by show 0≤2*(p.1-mL);omega) (by show 2*(p.1-mL)≤120;omega))
 have wf:=bx.at (show g0 ps 0∈ps by rw [g0_get (GR.get_of (show 0<ps.length by omega))];exact Zp _)
 have wn:0≤mR-mL∧0≤mT-mB:=by omega
 dsimp only [gName]
 refine viaN (fun σ' H'=>(∃ v2,σ'=[some (.ref d),some (.ref D),v2,some (.int mL),some (.int mB),some (.int (mR-mL)),some (.int (mT-mB)),some (.ref sd),none,none])∧Same H H'∧∃ kvs,H' sd=some (.dT kvs)∧kvs.length≤90000∧FD kvs (prF (cel mL mT) ll (fun _=>32) ll.length)) (fun N n1=>?_) ?_
 ·have g6:=g5.trans k6
  let Pv2:Nat→L2.St→L2.Hp→Prop:=fun i σ' H'=>(∃ v2,σ'=[some (.ref d),some (.ref D),v2,some (.int mL),some (.int mB),some (.int (mR-mL)),some (.int (mT-mB)),some (.ref sd),none,none])∧Same H H'∧∃ kvs,H' sd=some (.dT kvs)∧kvs.length≤4500*i∧FD kvs (prF (cel mL mT) ll (fun _=>32) i)
  refine (xWPWWWWPP _ rfl d _ 1 _ rfl rfl (xPPWPP (SqT.of (g6 _ _ d1)) rfl la rfl ⟨_,SqL.of (g6 _ _ l1)⟩ (for_list (xs:=lr.map V.ref) Pv2 (xPPWPP ⟨_,rfl⟩ g6 ([]) upd_same (Nat.le_refl _) FD.nil) (fun _ _ _ _ ⟨_,g,_⟩=>SqL.of (g _ _ l1)) ?_ ?_)))
  ·rintro i x σ H2 hx ⟨⟨v2,rfl⟩,g2,kvs,d2,kl2, f2⟩
   have hi:i<ll.length:=by have:=(Zj.mp hx).1;rw [Zq,l2] at this;exact this
   obtain ⟨lx,x1,x2⟩:=l4 i _ (GR.get_of hi)
   rw [Zk,x1] at hx
   cases hx
   have hl:=hG.len _ (Zp hi)
   have hrc:=hG.rct _ (Zp hi)
   have hin:=inp _ (Zp hi)
   have lAt:lineAt ll i=ll[i]:=by unfold lineAt;rw [Zv,GR.get_of hi];rfl
   have ef:prF (cel mL mT) ll (fun _=>32) (i+1)=plF (cel mL mT) ll[i] (lnF (cel mL mT) ll[i] (prF (cel mL mT) ll (fun _=>32) i) (ll[i].length-1)) (ll[i].length-2):=by rw [←lAt];rfl
   generalize ll[i]=l at x2 hl hrc hin ef
   obtain ⟨tx,y1,y2⟩:=(x2.same g2).pr
   have yl:=y2.len
   refine (xWPWPWPP _ rfl _ rfl lx rfl ⟨_,SqL.of y1⟩ (fun C hC=>?_))
   refine comp_objs l.length (fun i o=>o=HO.tup [.int ((l.map (cel mL mT)).getD i (0,0)).1,.int ((l.map (cel mL mT)).getD i (0,0)).2]) hC (by omega) (fun i H' hi g=>(xWWP _ (.ref (tx[i]'(by omega))) (SqL.of (g _ _ y1)) (by rw [Zk,GR.get_of (by omega)];rfl))) (fun H' g=>(xWP _ (SqL.of (g _ _ y1)) (by rw [Zq,yl];exact Nat.le_refl _))) ?_ ?_
   ·rintro j H' x H'' k hj g ⟨rfl,hx⟩ hk
    have hx:=hx _ (SqL.of (g _ _ y1))
    obtain ⟨ra,a1,a2⟩:=y2.at hj
    rw [Zk,a1] at hx
    cases hx
    have gd:(l.map (cel mL mT)).getD j (0,0)=cel mL mT (g0 l j):=g0_map (cel mL mT) hj
    refine (xPWPWPWP ((Fills.refl _).set _ rfl) _ rfl _ rfl _ rfl (xWPWWPP _ rfl _ _ rfl rfl (xWWWWPP ra (g0 l j) mL _ rfl (g _ _ a2) (fun r hr=>hk r _ _ ?_ hr (same_new hr _) upd_same))))
    rw [gd,eT]
   intro tr2 H7 l7 p7 g7 e7
   have hT7:TsI H7 C (l.map (cel mL mT)):=ts_of6 e7 (by rw [l7,Zq]) p7
   refine (xWWWWPPPP sd C kvs (l.map (cel mL mT)) rfl (g7 _ _ d2) hT7 (by rw [Zq];exact hl.1) (xPPPP (by rw [Zq];exact hl.2) (fun p hp=>?_) (fun k hk=>?_) (by omega) (fun kvs' H8 b8 d8 k8 f8=>(xPPWPP ⟨_,rfl⟩ (((But.of (g2.trans g7)).trans b8).same hsd0) kvs' d8 (by omega) ?_))))
   ·obtain ⟨p',hp',rfl⟩:=Zh.mp hp
    exact cin p' (hin p' hp')
   ·rw [Zq] at hk
    rw [g0_map _ (by omega),g0_map _ hk]
    rcases hrc k _ _ (show l[k]?=some (g0 l k) by rw [GR.get_of (by omega),g0_get (GR.get_of (by omega:k<l.length))]) (show l[k+1]?=some (g0 l (k+1)) by rw [GR.get_of hk,g0_get (GR.get_of hk)]) with ⟨z,_⟩ | ⟨z,_⟩
    ·right;show 2*((g0 l k).1-mL)=2*((g0 l (k+1)).1-mL);rw [z]
    ·left;show 2*(mT-(g0 l k).2)=2*(mT-(g0 l (k+1)).2);rw [z]
   ·have:=f8 _ f2
    rw [Zq,lnF_map _ _ _ _ (by omega),plF_map _ _ _ _ (by omega)] at this
    rw [ef];exact this
  ·rintro σ H2 ⟨h2,g2,kvs,d2,kl2, f2⟩
   rw [Zq,l2] at kl2 f2
   exact n1 _ _ (xPPWPP h2 g2 kvs d2 (by omega) f2)
 rintro σ1 H6 ⟨⟨v2',rfl⟩,g6,kvs,d6,kl6, f6⟩
 have prl:pr.length=sp.length:=pP.len
 refine viaN (fun σ' H'=>(∃ v2 v8 v9,σ'=[some (.ref d),some (.ref D),v2,some (.int mL),some (.int mB),some (.int (mR-mL)),some (.int (mT-mB)),some (.ref sd),v8,v9])∧Same H H'∧∃ kvs,H' sd=some (.dT kvs)∧FD kvs (picF mL mT sp ll)) (fun N n1=>?_) ?_
 ·let Pv3:Nat→L2.St→L2.Hp→Prop:=fun i σ' H'=>(∃ v8 v9,σ'=[some (.ref d),some (.ref D),v2',some (.int mL),some (.int mB),some (.int (mR-mL)),some (.int (mT-mB)),some (.ref sd),v8,v9])∧Same H H'∧∃ kvs,H' sd=some (.dT kvs)∧kvs.length≤90000+i∧FD kvs (spF (cel mL mT) sp (prF (cel mL mT) ll (fun _=>32) ll.length) i)
  refine (xWPWWWWPP _ rfl d _ 0 _ rfl rfl (xPPWPP (SqT.of (g6 _ _ d1)) rfl pa rfl ⟨_,SqL.of (g6 _ _ p1)⟩ (for_enum (K:=K) (a:=pa) (xs:=pr.map V.ref) Pv3 (xPPWPP (xWW _ _ rfl) g6 kvs d6 kl6 f6) (fun _ _ _ _ ⟨_,g,_⟩=>SqL.of (g _ _ p1)) ?_ ?_)))
  ·rintro i x σ H2 Tp hx ⟨⟨v8,v9, rfl⟩,g2,kvs,d2,kl2, f2⟩ hTp
   have hi:i<sp.length:=by have:=(Zj.mp hx).1;rw [Zq,prl] at this;exact this
   obtain ⟨ra,a1,a2⟩:=pP.at hi
   rw [Zk,a1] at hx
   cases hx
   obtain ⟨dg1,dg2⟩:=dig i (by omega)
   have k2:=same_new hTp (.tup [vn i,.ref ra])
   refine (xWWPPPWWP Tp _ rfl (SqT.of upd_same) rfl _ _ rfl (xWWPP _ _ rfl rfl ?_))
   refine (xWPWPPWP _ rfl (i:Int) rfl dg1 _ rfl (xWPWPWPWP _ rfl _ rfl _ rfl _ rfl (xWWPP _ _ rfl rfl (xWWWWPP ra (g0 sp i) mL _ rfl (k2 _ _ (g2 _ _ a2)) (fun r hr=>(xWWPPPPWP sd _ rfl (DPut.t (k:=[.inl (cel mL (mB+(mT-mB)) (g0 sp i)).1,.inl (cel mL (mB+(mT-mB)) (g0 sp i)).2]) (same_new hr _ _ _ (k2 _ _ d2)) upd_same (few6 (by omega))) (xWW _ _ rfl) ?_ _ upd_same ⟨Yr (length_putK _ _ _) (by omega), ?_⟩))))))
   ·exact (((But.of g2).new hTp).new hr).chg.same hsd0
   ·rw [eT,dg2]
    exact f2.put (cel mL mT (g0 sp i)) (48+i)
  ·rintro σ H2 ⟨⟨v8,v9, rfl⟩,g2,kvs,d2,kl2, f2⟩
   rw [Zq,prl] at f2
   exact n1 _ _ (xPPWP (xWWW _ _ _ rfl) g2 kvs d2 f2)
 rintro σ1 H7 ⟨⟨u2,u8,u9, rfl⟩,g7,kvs7,d7, f7⟩
 refine (xWPWWPPP _ rfl _ _ rfl rfl (.inl ⟨by decide,by decide⟩) (xWWPPWPPP _ _ rfl rfl (2*(mT-mB)+1) rfl (by omega) (by omega) (fun D5 hD5=>?_)))
 refine comp_pure (2*(mT-mB)+1).toNat (fun i:Nat=>V.str (Rw (picF mL mT sp ll) (i:Int) (2*(mR-mL)+1).toNat)) hD5 (by omega) (fun i H' hi g=>hi) (fun H' g=>Nat.le_refl _) ?_ ?_
 ·rintro i H' x H'' k hi g ⟨rfl,rfl⟩ hk
  refine (xPWPWPWP ((Fills.refl _).set _ rfl) _ rfl _ rfl _ rfl (xWWPPPWWP _ _ rfl rfl (.inl ⟨by decide,by decide⟩) _ _ rfl (xPWWWWWPP rfl sd kvs7 (i:Int) ((2*(mR-mL)+1).toNat) _ ?_ (g _ _ d7) (xPP (by omega) f7 (fun H4 g4=>hk _ g4)))))
  show [V.ref sd,V.int (0+(i:Int)),V.int (2*(mR-mL)+1)]=[V.ref sd,V.int (i:Int),V.int (((2*(mR-mL)+1).toNat:Nat):Int)]
  rw [Int.zero_add,Int.toNat_of_nonneg (by omega)]
 ·intro H8 g8 e8
  exact q D5 H8 (g7.free hD5) (g7.trans g8) e8
end K76
namespace PC
open L2 GR
def cAt (w:Nat) (A:Int×Int) (j:Nat):Int×Int:=(A.1+(if w=1 then -(j:Int) else if w=3 then (j:Int) else 0),A.2+(if w=0 then (j:Int) else if w=2 then -(j:Int) else 0))
def walk (f:Fld) (w:Nat) (A:Int×Int) (s:Nat):Nat→Fld
 | 0=>f
 | n+1=>put (walk f w A s n) (cAt w A n) s
theorem walk_yes {f:Fld} {w:Nat} {A x:Int×Int} {s:Nat}:∀ {n:Nat},(∃ j,j<n∧x=cAt w A j)→walk f w A s n x=s
 | 0,⟨j,h,_⟩=>by omega
 | n+1,⟨j,h,e⟩=>by
  show (if x=cAt w A n then s else walk f w A s n x)=s
  by_cases z:x=cAt w A n
  ·rw [if_pos z]
  ·rw [if_neg z]
   have:j≠n:=fun y=>z (y▸e)
   exact walk_yes ⟨j,by omega, e⟩
theorem walk_no {f:Fld} {w:Nat} {A x:Int×Int} {s:Nat}:∀ {n:Nat},(¬∃ j,j<n∧x=cAt w A j)→walk f w A s n x=f x
 | 0,_=>rfl
 | n+1,h=>by
  show (if x=cAt w A n then s else walk f w A s n x)=f x
  rw [if_neg (fun z=>h ⟨n,by omega, z⟩)]
  exact walk_no fun ⟨j,h1,h2⟩=>h ⟨j,by omega, h2⟩
def wayN (p q:Pt):Nat:=if p.2=q.2 then (if q.1<p.1 then 2 else 0) else (if q.2<p.2 then 3 else 1)
def farN (p q:Pt):Int:=(if q.1-p.1<0 then -(q.1-p.1) else q.1-p.1)+(if q.2-p.2<0 then -(q.2-p.2) else q.2-p.2)
theorem way_sgn {L T:Int} {p q:Pt}:sgn (cel L T p) (cel L T q)=if wayN p q%2=0 then 45 else 124:=by
 unfold sgn wayN
 by_cases h:p.2=q.2
 ·rw [if_pos h,if_pos (show (cel L T p).1=(cel L T q).1 from (by show 2*(T-p.2)=2*(T-q.2);rw [h]))];split<;>rfl
 ·rw [if_neg h,if_neg (show ¬(cel L T p).1=(cel L T q).1 from (by show ¬2*(T-p.2)=2*(T-q.2);omega))];split<;>rfl
theorem walk_on {L T:Int} {p q:Pt} (h:Stp p q) (x:Int×Int):(∃ j:Nat,j<(2*farN p q+1).toNat∧x=cAt (wayN p q) (cel L T p) j)↔Sg (cel L T p) (cel L T q) x:=by
 obtain ⟨x1,x2⟩:=x
 obtain ⟨p1,p2⟩:=p
 obtain ⟨q1,q2⟩:=q
 unfold Sg cel cAt wayN farN
 have h:(p1=q1∧p2≠q2)∨(p2=q2∧p1≠q1):=h
 simp only [Prod.mk.injEq]
 rcases h with ⟨h1,h2⟩ | ⟨h1,h2⟩
 ·subst h1
  rw [if_neg h2]
  by_cases c:q2<p2
  ·simp only [if_pos c]
   constructor
   ·rintro ⟨j,hj,e1, e2⟩
    simp at e1 e2
    split at hj<;>split at hj<;>omega
   ·intro hs
    refine ⟨(x1-2*(T-p2)).toNat,?_,?_, ?_⟩
    ·split<;>split<;>omega
    ·simp;omega
    ·simp;omega
  ·simp only [if_neg c]
   constructor
   ·rintro ⟨j,hj,e1, e2⟩
    simp at e1 e2
    split at hj<;>split at hj<;>omega
   ·intro hs
    refine ⟨(2*(T-p2)-x1).toNat,?_,?_, ?_⟩
    ·split<;>split<;>omega
    ·simp;omega
    ·simp;omega
 ·subst h1
  rw [if_pos rfl]
  by_cases c:q1<p1
  ·simp only [if_pos c]
   constructor
   ·rintro ⟨j,hj,e1, e2⟩
    simp at e1 e2
    split at hj<;>split at hj<;>omega
   ·intro hs
    refine ⟨(2*(p1-L)-x2).toNat,?_,?_, ?_⟩
    ·split<;>split<;>omega
    ·simp;omega
    ·simp;omega
  ·simp only [if_neg c]
   constructor
   ·rintro ⟨j,hj,e1, e2⟩
    simp at e1 e2
    split at hj<;>split at hj<;>omega
   ·intro hs
    refine ⟨(x2-2*(p1-L)).toNat,?_,?_, ?_⟩
    ·split<;>split<;>omega
    ·simp;omega
    ·simp;omega
theorem walk_seg {L T:Int} {p q:Pt} (h:Stp p q) (f:Fld):walk f (wayN p q) (cel L T p) (sgn (cel L T p) (cel L T q)) (2*farN p q+1).toNat=seg f (cel L T p) (cel L T q):=funext fun x=>by
 by_cases c:Sg (cel L T p) (cel L T q) x
 ·rw [walk_yes ((walk_on h x).mpr c)];exact (if_pos c).symm
 ·rw [walk_no (fun z=>c ((walk_on h x).mp z))];exact (if_neg c).symm
end PC
namespace L2
open PySem PySem.Spec PyProof.Rows GR TX
theorem set_rangeV {n p:Nat} {f:Nat→V} {v:V}:((List.range n).map f).set p v=(List.range n).map fun i=>if i=p then v else f i:=by
 refine Yn fun i=>?_
 rw [List.getElem?_set]
 by_cases e:p=i
 ·subst e
  by_cases h:p<n<;>simp [h]
 ·rw [if_neg e]
  by_cases h:i<n
  ·simp [h,Ne.symm e]
  ·simp [h]
def rwS (f:PC.Fld) (w i:Nat):List V:=(List.range w).map fun c:Nat=>vx [f ((i:Int),(c:Int))]
abbrev Sht (H0 H:Hp) (S:Addr) (rr:List Addr) (h w:Nat) (f:PC.Fld):Prop:=NewL H0 H S rr ((List.range h).map (rwS f w))
theorem Sht.put {H0 H:Hp} {S x:Addr} {rr:List Addr} {h w:Nat} {f:PC.Fld} (n:Sht H0 H S rr h w f) {i c:Nat} (hx:rr[i]?=some x) (hc:c<w) (y:Int×Int) (h1:y.1=(i:Int)) (h2:y.2=(c:Int)) (s:Nat):Sht H0 (upd H x (.lst ((rwS f w i).set c (vx [s])))) S rr h w (PC.put f y s):=by
 have:=NewL.put n hx ((rwS f w i).set c (vx [s]))
 have e:(fun i'=>if i'=i then (rwS f w i).set c (vx [s]) else rwS f w i')=rwS (PC.put f y s) w:=by
  funext i'
  unfold rwS
  by_cases z:i'=i
  ·subst z
   rw [if_pos rfl,set_rangeV]
   refine Ym fun j _=>?_
   show _=vx [if _ then s else _]
   by_cases e:j=c
   ·rw [if_pos e,if_pos (Prod.ext h1.symm (by show (j:Int)=y.2;omega))]
   ·rw [if_neg e,if_neg (fun z=>e (by have:=congrArg Prod.snd z;have:(j:Int)=y.2:=this;omega))]
  ·rw [if_neg z]
   refine Ym fun j _=>?_
   show _=vx [if _ then s else _]
   rw [if_neg (fun e=>z (by have:=congrArg Prod.fst e;have:(i':Int)=y.1:=this;omega))]
 rw [e] at this
 exact this
end L2
namespace K76
open PySem L2 PyProof.Rows TX GR PC
variable {P:Program} {w:World} {K:PySem.W.Frag} {mg:Str→Option Value} {base:Heap} {t:Adr}
def spBt:Sp:=fun vs H Q _=>∃ (a:Addr) (ps:List Pt),vs=[.ref a]∧TsI H a ps∧1≤ps.length∧ps.length≤1000∧∀ L R B U r H',Bx ps L R B U→Same H H'→H' r=some (.tup [.int L,.int R,.int B,.int U])→Q (.ref r) H'
theorem ok_bt (T:Txt K mg t):FnOk P w K mg base CX0 1 t.a_l_between t.d_l_between ["_law_points"] spBt:=by
 refine T.F_l_between.ok sc_l_between (fun vs H Q E h=>?_) (fun cdv A outer s H vs Q E hr h=>?_)
 ·obtain ⟨a,ps,rfl,_⟩:=h;rfl
 obtain ⟨a,ps,rfl,hP,p1,p1000,q⟩:=h
 have nd:=sc_l_between.nd
 have nd_l_x_l_y:(["_law_x","_law_y"]:List Str).Nodup:=by decide
 refine (xWP _ (pss_cons (ps_setComp (i:=1) nd rfl (Or.inl rfl)  (N':=["_law_x","_law_y"]) (js:=[none,none]) rfl (pi_list (pv 0)) (fun _ _ _ _ _=>(kpg_tup (K:=K) (n:=2) rfl rfl (pgs_cons (pg_name (i:=0) nd_l_x_l_y rfl (Or.inl rfl)) (pgs_cons (pg_name (i:=1) nd_l_x_l_y rfl (Or.inl rfl)) pgs_nil)))) (fun _ _ _ _ _=>pf_nil) (fun _ _ _ _ _=>(pv 0)))
  (pss_cons (ps_setComp (i:=2) nd rfl (Or.inl rfl)  (N':=["_law_x","_law_y"]) (js:=[none,none]) rfl (pi_list (pv 0)) (fun _ _ _ _ _=>(kpg_tup (K:=K) (n:=2) rfl rfl (pgs_cons (pg_name (i:=0) nd_l_x_l_y rfl (Or.inl rfl)) (pgs_cons (pg_name (i:=1) nd_l_x_l_y rfl (Or.inl rfl)) pgs_nil)))) (fun _ _ _ _ _=>pf_nil) (fun _ _ _ _ _=>(pv 1)))
  (pss_one (ps_ret (pe_tup (pa_cons (pe_callB (call_minL rfl) rfl T.z_min boot_min (pa_cons (pv 1) pa_nil)) (pa_cons (pe_callB (call_maxL rfl) rfl T.z_max boot_max (pa_cons (pv 1) pa_nil)) (pa_cons (pe_callB (call_minL rfl) rfl T.z_min boot_min (pa_cons (pv 2) pa_nil)) (pa_cons (pe_callB (call_maxL rfl) rfl T.z_max boot_max (pa_cons (pv 2) pa_nil)) pa_nil))))))))) ?_)
 obtain ⟨tr,t1,r1⟩:=hP.pr
 have trl:=r1.len
 refine (xWPWPP _ rfl a rfl ⟨_,SqL.of t1⟩ (fun D1 hD1=>?_))
 refine comp_pure ps.length (fun i=>.int (g0 ps i).1) hD1 (by omega) (fun i H' hi g=>(xWWP _ (.ref (tr[i]'(by omega))) (SqL.of (g _ _ t1)) (by rw [Zk,GR.get_of (by omega)];rfl))) (fun H' g=>(xWP _ (SqL.of (g _ _ t1)) (by rw [Zq,trl];exact Nat.le_refl _))) ?_ ?_
 ·rintro i H' x H'' k hi g ⟨rfl,hx⟩ hk
  have hx:=hx _ (SqL.of (g _ _ t1))
  obtain ⟨ra,a1,a2⟩:=r1.at hi
  rw [Zk,a1] at hx
  cases hx
  exact (xWWPPPWWP ra _ rfl (SqT.of (g _ _ a2)) rfl _ _ rfl (xWWPPPWP _ _ rfl rfl (((Fills.refl _).set _ rfl).set _ rfl) _ rfl (hk _ (Same.refl _))))
 intro H1 g1 e1
 rw [show ((List.range ps.length).map fun i=>V.int (g0 ps i).1)=(ps.map fun p:Pt=>p.1).map V.int by rw [map_g0 (fun p=>V.int p.1),Yg];rfl] at e1
 dsimp only [gName]
 refine (xWPWPP _ rfl a rfl ⟨_,SqL.of (g1 _ _ t1)⟩ (fun D2 hD2=>?_))
 refine comp_pure ps.length (fun i=>.int (g0 ps i).2) hD2 (by omega) (fun i H' hi g=>(xWWP _ (.ref (tr[i]'(by omega))) (SqL.of (g _ _ (g1 _ _ t1))) (by rw [Zk,GR.get_of (by omega)];rfl))) (fun H' g=>(xWP _ (SqL.of (g _ _ (g1 _ _ t1))) (by rw [Zq,trl];exact Nat.le_refl _))) ?_ ?_
 ·rintro i H' x H'' k hi g ⟨rfl,hx⟩ hk
  have hx:=hx _ (SqL.of (g _ _ (g1 _ _ t1)))
  obtain ⟨ra,a1,a2⟩:=(r1.same g1).at hi
  rw [Zk,a1] at hx
  cases hx
  exact (xWWPPPWWP ra _ rfl (SqT.of (g _ _ a2)) rfl _ _ rfl (xWWPPPWP _ _ rfl rfl (((Fills.refl _).set _ rfl).set _ rfl) _ rfl (hk _ (Same.refl _))))
 intro H2 g2 e2
 rw [show ((List.range ps.length).map fun i=>V.int (g0 ps i).2)=(ps.map fun p:Pt=>p.2).map V.int by rw [map_g0 (fun p=>V.int p.2),Yg];rfl] at e2
 dsimp only [gName]
 have e1':=g2 _ _ e1
 refine (xWPWWPPP _ rfl D1 (ps.map fun p:Pt=>p.1) rfl (SqL.of e1') (by rw [Zq];omega) (fun mL mL1 mL2=>?_))
 refine (xWPWWPPP _ rfl D1 (ps.map fun p:Pt=>p.1) rfl (SqL.of e1') (by rw [Zq];omega) (fun mR mR1 mR2=>?_))
 refine (xWPWWPPP _ rfl D2 (ps.map fun p:Pt=>p.2) rfl (SqL.of e2) (by rw [Zq];omega) (fun mB mB1 mB2=>?_))
 refine (xWPWWPPP _ rfl D2 (ps.map fun p:Pt=>p.2) rfl (SqL.of e2) (by rw [Zq];omega) (fun mT mT1 mT2=>?_))
 exact ⟨(by show 4≤sizeLine;decide),fun r hr=>q mL mR mB mT r _ ⟨mL1,mL2,mR1,mR2,mB1,mB2,mT1, mT2⟩ (g1.trans (g2.trans (same_new hr _))) upd_same⟩
end K76
namespace K76
open PySem L2 PyProof.Rows TX GR
variable {P:Program} {w:World} {K:PySem.W.Frag} {mg:Str→Option Value} {base:Heap} {t:Adr}
def hdg (p q:Pt):Int:=if p.2=q.2 then 2*(if q.1<p.1 then 1 else 0) else 1+2*(if q.2<p.2 then 1 else 0)
def spHeading:Sp:=fun vs H Q _=>∃ (a b:Addr) (p q:Pt),vs=[.ref a,.ref b]∧PtA H a p∧PtA H b q∧Q (.int (hdg p q)) H
theorem ok_heading (T:Txt K mg t):FnOk P w K mg base CX0 1 t.a_l_heading t.d_l_heading ["_law_here","_law_there"] spHeading:=by
 refine T.F_l_heading.ok sc_l_heading (fun vs H Q E h=>?_) (fun cdv A outer s H vs Q E hr h=>?_)
 ·obtain ⟨a,b,p,q,rfl,_⟩:=h;rfl
 obtain ⟨a,b,p,r,rfl,ha,hb,q⟩:=h
 refine (xWP _ (pss_cons (ps_if (pt_cmpR op_eq (pe_ix ix_tup (pv 0) pe_int (fun _ _=>rfl)) (pe_ix ix_tup (pv 1) pe_int (fun _ _=>rfl)) (nomark _)) (pss_one (ps_ret (pe_op op_mul pe_int (pe_callTy call_int1 rfl T.z_int boot_int (pa_cons (pe_cmpR op_lt (pe_ix ix_tup (pv 1) pe_int (fun _ _=>rfl)) (pe_ix ix_tup (pv 0) pe_int (fun _ _=>rfl)) (nomark _)) pa_nil))))) pss_nil)
  (pss_one (ps_ret (pe_op op_add pe_int (pe_op op_mul pe_int (pe_callTy call_int1 rfl T.z_int boot_int (pa_cons (pe_cmpR op_lt (pe_ix ix_tup (pv 1) pe_int (fun _ _=>rfl)) (pe_ix ix_tup (pv 0) pe_int (fun _ _=>rfl)) (nomark _)) pa_nil))))))) ?_)
 refine (xWPWWWWPP _ rfl a _ 1 _ rfl rfl (xPPWP (SqT.of ha) rfl _ rfl (xWWWWPPPP b _ 1 _ rfl rfl (SqT.of hb) rfl (xPWP rfl _ rfl (ite2 (fun c=>?_) (fun c=>?_))))))
 ·have c:p.2=r.2:=V.int.inj (of_decide_eq_true c)
  refine (xWPWWWWPP _ rfl b _ 0 _ rfl rfl (xPPWP (SqT.of hb) rfl _ rfl (xWWWWPPPP a _ 0 _ rfl rfl (SqT.of ha) rfl (xWWPP _ _ rfl rfl (.inr (xWPWWPPP _ rfl _ _ rfl rfl (.inl ⟨by decide,by decide⟩) ?_))))))
  have e:hdg p r=2*(if decide (r.1<p.1)=true then 1 else 0):=by unfold hdg;rw [if_pos c];simp
  rw [e] at q
  exact q
 ·have c:¬p.2=r.2:=fun z=>c (decide_eq_true (congrArg V.int z))
  refine (xWPWWWWPP _ rfl b _ 1 _ rfl rfl (xPPWP (SqT.of hb) rfl _ rfl (xWWWWPPPP a _ 1 _ rfl rfl (SqT.of ha) rfl (xWWPP _ _ rfl rfl (.inr (xWPWWPPP _ rfl _ _ rfl rfl (.inl ⟨by decide,by decide⟩) (xWWPP _ _ rfl rfl ?_)))))))
  have e:hdg p r=1+2*(if decide (r.2<p.2)=true then 1 else 0):=by unfold hdg;rw [if_neg c];simp
  rw [e] at q
  exact q
end K76
namespace L2
theorem rep_one (v:V):∀ n:Nat,(List.replicate n [v]).flatten=(List.range n).map fun _=>v
 | 0=>rfl
 | n+1=>by rw [List.range_succ,Zt,←rep_one v n,List.replicate_succ',List.flatten_append];rfl
end L2
namespace K76
open PySem L2 PyProof.Rows TX GR PC
variable {P:Program} {w:World} {K:PySem.W.Frag} {mg:Str→Option Value} {base:Heap} {t:Adr}
theorem hdg_way (p q:Pt):hdg p q=((wayN p q:Nat):Int):=by
 unfold hdg wayN
 split<;>split<;>rfl
theorem way_4 (p q:Pt):wayN p q<4:=by unfold wayN;split<;>split<;>decide
theorem mb_at {w:Nat} (h:w<4):atI (Str.ofString "-|-|").cps.toList (w:Int)=some (if w%2=0 then 45 else 124):=by
 rw [e_mb,sT_list]
 match w,h with
 | 0,_=>rfl
 | 1,_=>rfl
 | 2,_=>rfl
 | 3,_=>rfl
theorem dg_at {k:Nat} (h:k<10):atI (Str.ofString "0123456789").cps.toList (k:Int)=some (48+k):=by
 rw [e_dg,sT_list]
 match k,h with
 | 0,_=>rfl
 | 1,_=>rfl
 | 2,_=>rfl
 | 3,_=>rfl
 | 4,_=>rfl
 | 5,_=>rfl
 | 6,_=>rfl
 | 7,_=>rfl
 | 8,_=>rfl
 | 9,_=>rfl
theorem ro_at {w:Nat} {j:Int} (h:w<4):atI [V.int 0,V.int (-j),V.int 0,V.int j] (w:Int)=some (V.int (if w=1 then -j else if w=3 then j else 0)):=by
 match w,h with
 | 0,_=>rfl
 | 1,_=>rfl
 | 2,_=>rfl
 | 3,_=>rfl
theorem po_at {w:Nat} {j:Int} (h:w<4):atI [V.int j,V.int 0,V.int (-j),V.int 0] (w:Int)=some (V.int (if w=0 then j else if w=2 then -j else 0)):=by
 match w,h with
 | 0,_=>rfl
 | 1,_=>rfl
 | 2,_=>rfl
 | 3,_=>rfl
abbrev sR (d pa la D S:Addr) (L R B U:Int) (v4 v10 v11 v12 v13 v14 v15 v16 v17 v18:Option V):L2.St:=[some (.ref d),some (.ref pa),some (.ref la),some (.ref D),v4,some (.int L),some (.int R),some (.int B),some (.int U),some (.ref S),v10,v11,v12,v13,v14,v15,v16,v17,v18]
def spRows:Sp:=fun vs H Q _=>∃ (d:Addr) (sp:List Pt) (ll:List (List Pt)) (L R B U:Int),vs=[.ref d]∧DrB H d sp ll∧GD (-20) 100 sp ll∧Bx (sp++ll.flatten) L R B U∧R-L≤60∧U-B≤60 ∧
 ∀ r H',H r=none→Same H H'→H' r=some (.lst (rowsP (picF L U sp ll) (U-B) (R-L)))→Q (.ref r) H'
theorem ok_rows (T:Txt K mg t):FnOk P w K mg base CX0 2 t.a_l_rows t.d_l_rows ["_law_drawing"] spRows:=by
 have G_l_between:=ok_bt (P:=P) (w:=w) (base:=base) T
 have G_l_heading:=ok_heading (P:=P) (w:=w) (base:=base) T
 refine T.F_l_rows.ok sc_l_rows (fun vs H Q E h=>?_) (fun cdv A outer s H vs Q E hr h=>?_)
 ·obtain ⟨d,sp,ll,L,R,B,U,rfl,_⟩:=h;rfl
 obtain ⟨d,sp,ll,L,R,B,U,rfl,⟨pa,la,d1,hP,hL⟩,hG,bx,w60,h60,q⟩:=h
 have nd:=sc_l_rows.nd
 have nd_l_row:(["_law_row"]:List Str).Nodup:=by decide
 have nd_l_row_l_right_l_left:(["_law_row","_law_right","_law_left"]:List Str).Nodup:=by decide
 refine (xWP _ (pss_cons (ps_asg (pv 0) (pg_tup rfl (pgs_cons (pg_name (i:=1) nd rfl (Or.inl rfl)) (pgs_cons (pg_name (i:=2) nd rfl (Or.inl rfl)) pgs_nil))))
  (pss_cons (ps_set (i:=3) nd rfl (Or.inl rfl) (pe_callTy call_list_of rfl T.z_list boot_list (pa_cons (pv 1) pa_nil)))
  (pss_cons (ps_for PassesOwn.never rfl (pi_list (pv 2)) (pg_name (i:=4) nd rfl (Or.inl rfl)) (pss_one (ps_set (i:=3) nd rfl (Or.inl rfl) (pe_op op_cat (pv 3) (pv 4)))))
  (pss_cons (ps_asg (pe_call G_l_between (hr.mono (by decide)) rfl T.m_l_between T.k_l_between T.b_l_between .nil pass0 (pa_cons (pv 3) pa_nil)) (pg_tup rfl (pgs_cons (pg_name (i:=5) nd rfl (Or.inr rfl)) (pgs_cons (pg_name (i:=6) nd rfl (Or.inr rfl)) (pgs_cons (pg_name (i:=7) nd rfl (Or.inl rfl)) (pgs_cons (pg_name (i:=8) nd rfl (Or.inl rfl)) pgs_nil))))))
  (pss_cons (ps_setComp (i:=9) nd rfl (Or.inl rfl)  (N':=["_law_row","_law_right","_law_left"]) (js:=[none,some 6,some 5]) rfl (pi_range1 rfl T.z_range (pa_cons (pe_op op_add (pe_op op_mul pe_int (pe_op op_sub (pv 8) (pv 7))) pe_int) pa_nil)) (fun _ _ _ _ _=>(pg_name (i:=0) nd_l_row_l_right_l_left rfl (Or.inl rfl))) (fun _ _ _ _ _=>pf_nil) (fun _ _ _ _ _=>(pe_op op_rep (pe_lst (pa_cons pe_str pa_nil)) (pe_op op_add (pe_op op_mul pe_int (pe_op op_sub (pv 1) (pv 2))) pe_int))))
  (pss_cons (ps_for PassesOwn.never rfl (pi_list (pv 2)) (pg_name (i:=4) nd rfl (Or.inl rfl)) (pss_one (ps_for PassesOwn.never rfl (pi_range1 rfl T.z_range (pa_cons (pe_op op_sub (pe_callB call_len_seq rfl T.z_len PySem.boot_len (pa_cons (pv 4) pa_nil)) pe_int) pa_nil)) (pg_name (i:=10) nd rfl (Or.inl rfl)) (pss_cons (ps_set (i:=11) nd rfl (Or.inl rfl) (pe_call G_l_heading (hr.mono (by decide)) rfl T.m_l_heading T.k_l_heading T.b_l_heading .nil pass0 (pa_cons (pe_ix ix_list (pv 4) (pv 10) (fun _ _=>rfl)) (pa_cons (pe_ix ix_list (pv 4) (pe_op op_add (pv 10) pe_int) (fun _ _=>rfl)) pa_nil))))
  (pss_cons (ps_set (i:=12) nd rfl (Or.inl rfl) (pe_callB call_abs rfl T.z_abs boot_abs (pa_cons (pe_op op_sub (pe_ix ix_tup (pe_ix ix_list (pv 4) (pe_op op_add (pv 10) pe_int) (fun _ _=>rfl)) pe_int (fun _ _=>rfl)) (pe_ix ix_tup (pe_ix ix_list (pv 4) (pv 10) (fun _ _=>rfl)) pe_int (fun _ _=>rfl))) pa_nil)))
  (pss_cons (ps_set (i:=12) nd rfl (Or.inl rfl) (pe_op op_add (pv 12) (pe_callB call_abs rfl T.z_abs boot_abs (pa_cons (pe_op op_sub (pe_ix ix_tup (pe_ix ix_list (pv 4) (pe_op op_add (pv 10) pe_int) (fun _ _=>rfl)) pe_int (fun _ _=>rfl)) (pe_ix ix_tup (pe_ix ix_list (pv 4) (pv 10) (fun _ _=>rfl)) pe_int (fun _ _=>rfl))) pa_nil))))
  (pss_one (ps_for PassesOwn.never rfl (pi_range1 rfl T.z_range (pa_cons (pe_op op_add (pe_op op_mul pe_int (pv 12)) pe_int) pa_nil)) (pg_name (i:=13) nd rfl (Or.inl rfl)) (pss_cons (ps_set (i:=14) nd rfl (Or.inl rfl) (pe_op op_add (pe_op op_mul pe_int (pe_op op_sub (pv 8) (pe_ix ix_tup (pe_ix ix_list (pv 4) (pv 10) (fun _ _=>rfl)) pe_int (fun _ _=>rfl)))) (pe_ix ix_list (pe_lst (pa_cons pe_int (pa_cons (pe_un un_neg (pv 13)) (pa_cons pe_int (pa_cons (pv 13) pa_nil))))) (pv 11) (fun _ _=>rfl))))
  (pss_cons (ps_set (i:=15) nd rfl (Or.inl rfl) (pe_op op_add (pe_op op_mul pe_int (pe_op op_sub (pe_ix ix_tup (pe_ix ix_list (pv 4) (pv 10) (fun _ _=>rfl)) pe_int (fun _ _=>rfl)) (pv 5))) (pe_ix ix_list (pe_lst (pa_cons (pv 13) (pa_cons pe_int (pa_cons (pe_un un_neg (pv 13)) (pa_cons pe_int pa_nil))))) (pv 11) (fun _ _=>rfl))))
  (pss_one (ps_asg (pe_ix ix_str pe_str (pv 11) (fun _ _=>rfl)) (pg_sub (pe_ix ix_list (pv 9) (pv 14) (fun _ _=>rfl)) (pv 15) set_list)))))))))))))
  (pss_cons (ps_for PassesOwn.never rfl (pi_list (pv 2)) (pg_name (i:=4) nd rfl (Or.inl rfl)) (pss_one (ps_for PassesOwn.never rfl (pi_list (pe_slice sl_list (pv 4) (po_some pe_int) (po_some (pe_un un_neg pe_int)))) (pg_tup rfl (pgs_cons (pg_name (i:=16) nd rfl (Or.inl rfl)) (pgs_cons (pg_name (i:=17) nd rfl (Or.inl rfl)) pgs_nil))) (pss_one (ps_asg pe_str (pg_sub (pe_ix ix_list (pv 9) (pe_op op_mul pe_int (pe_op op_sub (pv 8) (pv 17))) (fun _ _=>rfl)) (pe_op op_mul pe_int (pe_op op_sub (pv 16) (pv 5))) set_list))))))
  (pss_cons (ps_for PassesOwn.never rfl (pi_enum rfl T.z_enumerate (pa_cons (pv 1) pa_nil)) (pg_tup rfl (pgs_cons (pg_name (i:=18) nd rfl (Or.inl rfl)) (pgs_cons (pg_tup rfl (pgs_cons (pg_name (i:=16) nd rfl (Or.inl rfl)) (pgs_cons (pg_name (i:=17) nd rfl (Or.inl rfl)) pgs_nil))) pgs_nil))) (pss_one (ps_asg (pe_ix ix_str pe_str (pv 18) (fun _ _=>rfl)) (pg_sub (pe_ix ix_list (pv 9) (pe_op op_mul pe_int (pe_op op_sub (pv 8) (pv 17))) (fun _ _=>rfl)) (pe_op op_mul pe_int (pe_op op_sub (pv 16) (pv 5))) set_list))))
  (pss_one (ps_ret (pe_comp (N':=["_law_row"]) (js:=[none]) rfl (pi_list (pv 9)) (fun _ _ _ _ _=>(pg_name (i:=0) nd_l_row rfl (Or.inl rfl))) (fun _ _ _ _ _=>pf_nil) (fun _ _ _ _ _=>(kpe_bm (K:=K) rfl PySem.F.plainAttrs_str PySem.F.slot_str_rstrip PySem.F.type_str_rstrip mt_rstrip (kpe_bm (K:=K) rfl PySem.F.plainAttrs_str PySem.F.slot_str_join PySem.F.type_str_join (kmt_join0 (K:=K) rfl) pe_str (pa_cons (pv 0) pa_nil)) (pa_cons pe_str pa_nil)))))))))))))) ?_)
 obtain ⟨pr,p1,pP⟩:=id hP.pr
 obtain ⟨lr,l1,l2,l3,l4⟩:=id hL
 have s10:=hG.s10
 have s1:=hG.s1
 have l20:=hG.l20
 have fl:∀ i,(ll.take i).flatten.length≤720:=fun i=>Yr (flat_le fun l hl=>(hG.len l (List.mem_of_mem_take hl)).2) (by rw [Yw];omega)
 refine (xWPWWPPP _ rfl d _ rfl (SqT.of d1) rfl (xWWPWWPP _ _ rfl _ _ rfl rfl ?_))
 refine (xWPWWPP _ rfl pa _ rfl (.inl (SqL.of p1)) (fun D0 hD0=>?_))
 have k1:=same_new hD0 (.lst (pr.map V.ref))
 dsimp only [gName]
 refine viaN (fun σ' H'=>∃ D v4,σ'=[some (.ref d),some (.ref pa),some (.ref la),some (.ref D),v4,none,none,none,none,none,none,none,none,none,none,none,none,none,none]∧Same H H'∧TsI H' D (sp++ll.flatten)) (fun N n1=>?_) ?_
 ·refine (xWPWPP _ rfl la rfl ⟨_,SqL.of (k1 _ _ l1)⟩ (for_list (xs:=lr.map V.ref) (fun i σ' H'=>∃ D v4,σ'=[some (.ref d),some (.ref pa),some (.ref la),some (.ref D),v4,none,none,none,none,none,none,none,none,none,none,none,none,none,none]∧Same H H'∧TsI H' D (sp++(ll.take i).flatten)) (xWWPP D0 _ rfl k1 ((pP.same k1).ts upd_same |> fun h=>by simpa using h)) (fun _ _ _ _ ⟨_,_,_,g,_⟩=>SqL.of (g _ _ l1)) ?_ ?_))
  ·rintro i x σ H2 hx ⟨D,v4,rfl,g2, hD2⟩
   have hi:i<ll.length:=by have:=(Zj.mp hx).1;rw [Zq,l2] at this;exact this
   obtain ⟨lx,x1,x2⟩:=l4 i _ (GR.get_of hi)
   rw [Zk,x1] at hx
   cases hx
   obtain ⟨tr,e2,r2⟩:=hD2.pr
   obtain ⟨tx,y1,y2⟩:=(x2.same g2).pr
   have fi:=fl i
   have li:=(hG.len _ (Zp hi)).2
   have rl:=r2.len
   have yl:=y2.len
   rw [Zm] at rl
   refine (xWPWP _ rfl _ rfl (xWWWWPPPP D lx _ _ rfl rfl e2 y1 ⟨Yr (by rw [Zq,Zq];omega) mil, fun D' hD'=>(xWWPP D' _ rfl (g2.trans (same_new hD' _)) ?_)⟩))
   rw [take_flat hi,←Yb]
   exact ((PtR.app y2 r2).same (same_new hD' _)).ts (by rw [upd_same,Zt])
  ·rintro σ H2 ⟨D,v4,h2,g2, hD2⟩
   rw [Zq,l2,Yv] at hD2
   exact n1 _ _ (xWWPP D v4 h2 g2 hD2)
 rintro σ1 H1 ⟨D,v4,rfl,g1, hD1⟩
 have psl:(sp++ll.flatten).length≤730:=by have:=fl ll.length;rw [Yv] at this;rw [Zm];omega
 have ps1:1≤(sp++ll.flatten).length:=by rw [Zm];omega
 have inp:∀ l∈ll,∀ p∈l,p∈sp++ll.flatten:=fun l hl p hp=>Zf.mpr (.inr (List.mem_flatten.mpr (xWP l hl hp)))
 have ins:∀ p∈sp,p∈sp++ll.flatten:=fun p hp=>Zf.mpr (.inl hp)
 generalize sp++ll.flatten=ps at bx hD1 psl ps1 inp ins
 refine (xWPWWPPPP _ rfl D ps rfl hD1 ps1 (by omega) (fun L' R' B' U' rb H2 bx' g2 hrb=>(xWWPPPWWP rb _ rfl (SqT.of hrb) rfl _ _ rfl (xWWPWWP _ _ rfl _ _ rfl (xWWPP _ _ rfl rfl ?_)))))
 obtain ⟨rfl,rfl,rfl,rfl⟩:=Bx.one bx' bx
 have g02:=g1.trans g2
 clear hrb g2 hD1
 have wf:=bx.at (show g0 ps 0∈ps by rw [g0_get (GR.get_of (show 0<ps.length by omega))];exact Zp _)
 obtain ⟨hh,hhe⟩:∃ hh:Nat,(hh:Int)=2*(U' - B')+1:=⟨(2*(U' - B')+1).toNat,by omega⟩
 obtain ⟨ww,wwe⟩:∃ ww:Nat,(ww:Int)=2*(R' - L')+1:=⟨(2*(R' - L')+1).toNat,by omega⟩
 have hr2:rowsP (picF L' U' sp ll) (U' - B') (R' - L')=(List.range hh).map fun i:Nat=>V.str (Rw (picF L' U' sp ll) (i:Int) ww):=by unfold rowsP;rw [←hhe,←wwe,Int.toNat_natCast,Int.toNat_natCast]
 rw [hr2] at q
 have epf:picF L' U' sp ll=spF (cel L' U') sp (ltF (cel L' U') ll (laF (cel L' U') ll (fun _=>32) ll.length) ll.length) sp.length:=by unfold picF;rw [pr_la (ap_of hG.apt hG.rct)]
 refine (xWPWPWWPP _ rfl _ rfl _ _ rfl rfl (xWWPPPWWP _ _ rfl rfl (.inl ⟨by decide,by decide⟩) _ _ rfl (xPWPPP rfl (2*(U' - B')+1) rfl (by omega) (by omega) (fun S hS=>?_))))
 rw [←hhe,Int.toNat_natCast]
 refine comp_news hh (rwS (fun _=>32) ww) hS (by omega) (fun i H' hi g=>hi) (fun H' g=>Nat.le_refl _) ?_ ?_
 ·rintro i H' x H'' k hi g ⟨rfl,rfl⟩ hk
  refine (xPP ((Fills.refl _).set _ rfl) (by show 1≤sizeLine;decide) (fun l hl=>(xWPWPWWPP _ rfl _ rfl _ _ rfl rfl (xWWPPPWWP _ _ rfl rfl (.inl ⟨by decide,by decide⟩) _ _ rfl (xPWWWPPPP rfl l _ _ rfl rfl upd_same (by omega) (xPP (by omega) (Yr (by rw [←wwe,Int.toNat_natCast];simp;omega) mil) (fun r hr=>hk r _ ?_ ((same_new hl _).trans (same_new hr _)) ?_)))))))
  ·exact (same_new hl _).free hr
  ·rw [upd_same,←wwe,Int.toNat_natCast,e_bl,rep_one];rfl
 intro rr H3 sh3 g3
 dsimp only [gName]
 have cin:∀ p∈ps,(0≤(cel L' U' p).1∧(cel L' U' p).1<hh)∧0≤(cel L' U' p).2∧(cel L' U' p).2<ww:=fun p hp=>by
  have:=bx.at hp
  exact (xPP ⟨by show 0≤2*(U' - p.2);omega,by show 2*(U' - p.2)<hh;omega⟩ (by show 0≤2*(p.1-L');omega) (by show 2*(p.1-L')<ww;omega))
 have gL:∀ {H'},Same H2 H'→H' la=some (.lst (lr.map V.ref)):=fun g=>g _ _ (g02 _ _ l1)
 have wr:∀ {H':Hp} {f:PC.Fld},Same H2 H'→Sht H2 H' S rr hh ww f→∀ (y:Int×Int),(0≤y.1∧y.1<hh)→(0≤y.2∧y.2<ww)→∃ (x:Addr) (c:Nat),atI (rr.map V.ref) y.1=some (.ref x)∧H' x=some (.lst (rwS f ww y.1.toNat))∧ixN (rwS f ww y.1.toNat).length y.2=some c∧x∈rr∧∀ s:Nat,Same H2 (upd H' x (.lst ((rwS f ww y.1.toNat).set c (vx [s]))))∧Sht H2 (upd H' x (.lst ((rwS f ww y.1.toNat).set c (vx [s])))) S rr hh ww (PC.put f y s):=fun {H' f} g sh y h1 h2=>by
  obtain ⟨x,x1,x2,x0,x3⟩:=NewL.item sh (p:=y.1.toNat) (by omega)
  rw [Int.toNat_of_nonneg h1.1] at x3
  exact (xWWPPPP x y.2.toNat x3 x2 (ixN_ok (by unfold rwS;rw [Zq,Yj];omega) (by omega)) (Zg x1) (fun s=>⟨g.fresh x0 _,Sht.put sh x1 (by omega) y (by omega) (by omega) s⟩))
 refine viaN (fun σ' H'=>(∃ v4 v10 v11 v12 v13 v14 v15,σ'=sR d pa la D S L' R' B' U' v4 v10 v11 v12 v13 v14 v15 none none none)∧Same H2 H'∧Sht H2 H' S rr hh ww (laF (cel L' U') ll (fun _=>32) ll.length)) (fun N n1=>?_) ?_
 ·refine (xWPWPP _ rfl la rfl ⟨_,SqL.of (gL g3)⟩ (for_list (xs:=lr.map V.ref) (fun i σ' H'=>(∃ v4 v10 v11 v12 v13 v14 v15,σ'=sR d pa la D S L' R' B' U' v4 v10 v11 v12 v13 v14 v15 none none none)∧Same H2 H'∧Sht H2 H' S rr hh ww (laF (cel L' U') ll (fun _=>32) i)) (xPP (xWWWWWWW _ _ _ _ _ _ _ rfl) g3 sh3) (fun _ _ _ _ ⟨_,g,_⟩=>SqL.of (gL g)) ?_ ?_))
  ·rintro i x σ H4 hx ⟨⟨v4,v10,v11,v12,v13,v14,v15, rfl⟩,g4, sh4⟩
   have hi:i<ll.length:=by have:=(Zj.mp hx).1;rw [Zq,l2] at this;exact this
   obtain ⟨lx,x1,x2⟩:=l4 i _ (GR.get_of hi)
   rw [Zk,x1] at hx
   cases hx
   have hl:=hG.len _ (Zp hi)
   have hrc:=hG.rct _ (Zp hi)
   have hin:=inp _ (Zp hi)
   have lAt:lineAt ll i=ll[i]:=by unfold lineAt;rw [Zv,GR.get_of hi];rfl
   have ef:laF (cel L' U') ll (fun _=>32) (i+1)=lnF (cel L' U') ll[i] (laF (cel L' U') ll (fun _=>32) i) (ll[i].length-1):=by rw [←lAt];rfl
   generalize ll[i]=l at x2 hl hrc hin ef
   obtain ⟨tx,y1,y2⟩:=(x2.same g02).pr
   have yl:=y2.len
   have tl:(((tx.map V.ref).length:Nat):Int)=(l.length:Int):=by rw [Zq,yl]
   have atp:∀ m,m<l.length→∃ a,atI (tx.map V.ref) (m:Int)=some (.ref a)∧H2 a=some (.tup [.int (g0 l m).1,.int (g0 l m).2]):=fun m hm=>by
    obtain ⟨a,a1,a2⟩:=y2.at hm
    exact (xWP a (atI_nat (by rw [Zk,a1];rfl)) a2)
   have cl:∀ m,m<l.length→(0≤(cel L' U' (g0 l m)).1∧(cel L' U' (g0 l m)).1<hh)∧0≤(cel L' U' (g0 l m)).2∧(cel L' U' (g0 l m)).2<ww:=fun m hm=>cin _ (hin _ (by rw [g0_get (GR.get_of hm)];exact Zp hm))
   generalize laF (cel L' U') ll (fun _=>32) i=f0 at sh4 ef
   refine (xWPWWPP _ rfl lx _ rfl (.inl (SqL.of (g4 _ _ y1))) (xWWPPWPPP _ _ rfl rfl ((l.length:Int)-1) (by rw [tl]) (by omega) (by omega) (for_range (lo:=0) (n:=((l.length:Int)-1).toNat) (fun k σ' H'=>(∃ v10 v11 v12 v13 v14 v15,σ'=sR d pa la D S L' R' B' U' (some (.ref lx)) v10 v11 v12 v13 v14 v15 none none none)∧Same H2 H'∧Sht H2 H' S rr hh ww (lnF (cel L' U') l f0 k)) (xPP (xWWWWWW _ _ _ _ _ _ rfl) g4 sh4) ?_ ?_)))
   ·rintro k σ H5 hk ⟨⟨v10,v11,v12,v13,v14,v15, rfl⟩,g5, sh5⟩
    obtain ⟨a,a1,a2⟩:=atp k (by omega)
    obtain ⟨b,b1,b2⟩:=atp (k+1) (by omega)
    have ca:=cl k (by omega)
    have cb:=cl (k+1) (by omega)
    have hst:=hrc k _ _ (show l[k]?=some (g0 l k) by rw [GR.get_of (by omega),g0_get (GR.get_of (by omega:k<l.length))]) (show l[k+1]?=some (g0 l (k+1)) by rw [GR.get_of (by omega),g0_get (GR.get_of (by omega:k+1<l.length))])
    have eln:lnF (cel L' U') l f0 (k+1)=seg (lnF (cel L' U') l f0 k) (cel L' U' (g0 l k)) (cel L' U' (g0 l (k+1))):=rfl
    rw [eln,Int.zero_add]
    generalize lnF (cel L' U') l f0 k=f1 at sh5
    generalize g0 l k=p at a2 ca hst
    generalize g0 l (k+1)=r at b2 cb hst
    have b1':atI (tx.map V.ref) ((k:Int)+1)=some (.ref b):=b1
    have y5:=g5 _ _ y1
    have a5:=g5 _ _ a2
    have b5:=g5 _ _ b2
    refine (xWPWP _ rfl _ rfl (xWWWWPPPP lx _ _ (.ref a) rfl rfl (SqL.of y5) a1 (xWPWPWWPP _ rfl _ rfl _ _ rfl rfl (xWWWWPPPP lx _ _ (.ref b) rfl rfl (SqL.of y5) b1' (xWWWWPPP a b p r rfl a5 b5 ?_)))))
    rw [hdg_way]
    dsimp only [gName]
    refine (xWPWPWWPP _ rfl _ rfl _ _ rfl rfl (xWWWWPPPP lx _ _ (.ref b) rfl rfl (SqL.of y5) b1' (xWWWWPPPP b _ 0 _ rfl rfl (SqT.of b5) rfl (xWPWP _ rfl _ rfl (xWWWWPPPP lx _ _ (.ref a) rfl rfl (SqL.of y5) a1 (xWWWWPPPP a _ 0 _ rfl rfl (SqT.of a5) rfl (xWWPPWP _ _ rfl rfl _ rfl ?_)))))))
    dsimp only [gName]
    refine (xWPWPWP _ rfl _ rfl _ rfl (xWWPP _ _ rfl rfl (xWWWWPPPP lx _ _ (.ref b) rfl rfl (SqL.of y5) b1' (xWWWWPPPP b _ 1 _ rfl rfl (SqT.of b5) rfl (xWPWP _ rfl _ rfl (xWWWWPPPP lx _ _ (.ref a) rfl rfl (SqL.of y5) a1 (xWWWWPPPP a _ 1 _ rfl rfl (SqT.of a5) rfl (xWWPPWP _ _ rfl rfl _ rfl (xWWPP _ _ rfl rfl ?_)))))))))
    dsimp only [gName]
    have hfar:0≤farN p r∧farN p r≤1000:=by
     simp only [cel] at ca cb
     unfold farN
     split<;>split<;>omega
    show tFor _ _ _ _ _ _
    refine seqF (σ':=sR d pa la D S L' R' B' U' (some (.ref lx)) (some (.int (k:Int))) (some (.int (wayN p r:Nat))) (some (.int (farN p r))) v13 v14 v15 none none none) rfl ?_
    refine (xWPWWPPP _ rfl _ _ rfl rfl (.inl ⟨by decide,by decide⟩) (xWWPPWPPP _ _ rfl rfl (2*farN p r+1) rfl (by omega) (by omega) (for_range (lo:=0) (n:=(2*farN p r+1).toNat) (fun j σ' H'=>(∃ v13 v14 v15,σ'=sR d pa la D S L' R' B' U' (some (.ref lx)) (some (.int (k:Int))) (some (.int (wayN p r:Nat))) (some (.int (farN p r))) v13 v14 v15 none none none)∧Same H2 H'∧Sht H2 H' S rr hh ww (walk f1 (wayN p r) (cel L' U' p) (sgn (cel L' U' p) (cel L' U' r)) j)) (xPP (xWWW _ _ _ rfl) g5 sh5) ?_ ?_)))
    ·rintro j σ H6 hj ⟨⟨u13,u14,u15, rfl⟩,g6, sh6⟩
     rw [Int.zero_add]
     have w4:=way_4 p r
     have sg:=(walk_on (L:=L') (T:=U') hst (cAt (wayN p r) (cel L' U' p) j)).mp (xWP j hj rfl)
     have y6:=g6 _ _ y1
     have a6:=g6 _ _ a2
     refine (xWPWPWP _ rfl _ rfl _ rfl (xWWWWPPPP lx _ _ (.ref a) rfl rfl (SqL.of y6) a1 (xWWWWPPPP a _ 1 _ rfl rfl (SqT.of a6) rfl (xWWPPWWPP _ _ rfl rfl _ _ rfl rfl (xPWPWPWPP (.inl ⟨by decide,by decide⟩) _ rfl _ rfl _ rfl (by show 4≤sizeLine;decide) (fun X1 hX1=>(xWPWWWWPP _ rfl X1 _ _ _ rfl rfl (xPPWWPP (SqL.of upd_same) (ro_at w4) _ _ rfl rfl ?_))))))))
     have k7:=same_new hX1 (.lst [V.int 0,V.int (-(j:Int)),V.int 0,V.int (j:Int)])
     dsimp only [gName]
     refine seqS (σ':=sR d pa la D S L' R' B' U' (some (.ref lx)) (some (.int (k:Int))) (some (.int (wayN p r:Nat))) (some (.int (farN p r))) (some (.int (j:Int))) (some (.int (cAt (wayN p r) (cel L' U' p) j).1)) u15 none none none) rfl ?_
     refine (xWPWP _ rfl _ rfl (xWWWWPPPP lx _ _ (.ref a) rfl rfl (SqL.of (k7 _ _ y6)) a1 (xWWWWPPPP a _ 0 _ rfl rfl (SqT.of (k7 _ _ a6)) rfl (xWPWWPP _ rfl _ _ rfl rfl (xWWPPPWP _ _ rfl rfl (.inl ⟨by decide,by decide⟩) _ rfl (xWPWPP _ rfl _ rfl (by show 4≤sizeLine;decide) (fun X2 hX2=>(xWPWWWWPP _ rfl X2 _ _ _ rfl rfl (xPPWWPP (SqL.of upd_same) (po_at w4) _ _ rfl rfl ?_)))))))))
     have k8:=k7.trans (same_new hX2 (.lst [V.int (j:Int),V.int 0,V.int (-(j:Int)),V.int 0]))
     dsimp only [gName]
     have inb:(0≤(cAt (wayN p r) (cel L' U' p) j).1∧(cAt (wayN p r) (cel L' U' p) j).1<hh)∧0≤(cAt (wayN p r) (cel L' U' p) j).2∧(cAt (wayN p r) (cel L' U' p) j).2<ww:=by
      obtain ⟨s1,s2⟩:=sg
      omega
     obtain ⟨x,c,x1,x2,x3,_,x4⟩:=wr (g6.trans k8) (sh6.keep k8) (cAt (wayN p r) (cel L' U' p) j) inb.1 inb.2
     have x4:=x4 (sgn (cel L' U' p) (cel L' U' r))
     refine (xWPWWWPPP _ rfl _ _ _ rfl rfl (by rw [e_mb,sT_len];show 4≤sizeLine;decide) (xPWPWP ((mb_at w4).trans (congrArg some (way_sgn (L:=L') (T:=U')).symm)) _ rfl _ rfl (xWWWWPPPP S _ _ (.ref x) rfl rfl (SqL.of (k8 _ _ sh6.at_)) x1 (xWPWWWWPP _ rfl x _ _ c rfl rfl (xPPPP x2 x3 (xWWW _ _ _ rfl) x4.1 x4.2)))))
    ·rintro σ H6 ⟨⟨u13,u14,u15, rfl⟩,g6, sh6⟩
     rw [walk_seg hst] at sh6
     exact (xPP (xWWWWWW _ _ _ _ _ _ rfl) g6 sh6)
   ·rintro σ H5 ⟨⟨v10,v11,v12,v13,v14,v15, rfl⟩,g5, sh5⟩
    rw [show ((l.length:Int)-1).toNat=l.length-1 by omega,←ef] at sh5
    exact (xPP (xWWWWWWW _ _ _ _ _ _ _ rfl) g5 sh5)
  ·rintro σ H4 ⟨h4,g4, sh4⟩
   rw [Zq,l2] at sh4
   exact n1 _ _ (xPP h4 g4 sh4)
 rintro σ1 H4 ⟨⟨v4',v10,v11,v12,v13,v14,v15, rfl⟩,g4, sh4⟩
 clear sh3 g3
 generalize laF (cel L' U') ll (fun _=>32) ll.length=f0 at sh4 epf
 refine viaN (fun σ' H'=>(∃ v4 v16 v17,σ'=sR d pa la D S L' R' B' U' v4 v10 v11 v12 v13 v14 v15 v16 v17 none)∧Same H2 H'∧Sht H2 H' S rr hh ww (ltF (cel L' U') ll f0 ll.length)) (fun N n1=>?_) ?_
 ·refine (xWPWPP _ rfl la rfl ⟨_,SqL.of (gL g4)⟩ (for_list (xs:=lr.map V.ref) (fun i σ' H'=>(∃ v4 v16 v17,σ'=sR d pa la D S L' R' B' U' v4 v10 v11 v12 v13 v14 v15 v16 v17 none)∧Same H2 H'∧Sht H2 H' S rr hh ww (ltF (cel L' U') ll f0 i)) (xPP (xWWW _ _ _ rfl) g4 sh4) (fun _ _ _ _ ⟨_,g,_⟩=>SqL.of (gL g)) ?_ ?_))
  ·rintro i x σ H5 hx ⟨⟨u4,u16,u17, rfl⟩,g5, sh5⟩
   have hi:i<ll.length:=by have:=(Zj.mp hx).1;rw [Zq,l2] at this;exact this
   obtain ⟨lx,x1,x2⟩:=l4 i _ (GR.get_of hi)
   rw [Zk,x1] at hx
   cases hx
   have hl:=hG.len _ (Zp hi)
   have hin:=inp _ (Zp hi)
   have lAt:lineAt ll i=ll[i]:=by unfold lineAt;rw [Zv,GR.get_of hi];rfl
   have ef:ltF (cel L' U') ll f0 (i+1)=plF (cel L' U') ll[i] (ltF (cel L' U') ll f0 i) (ll[i].length-2):=by rw [←lAt];rfl
   generalize ll[i]=l at x2 hl hin ef
   obtain ⟨tx,y1,y2⟩:=(x2.same g02).pr
   have yl:=y2.len
   generalize ltF (cel L' U') ll f0 i=f1 at sh5 ef
   have cz:cutV (tx.map V.ref) (some 1) (some (-1))=((tx.map V.ref).drop 1).take (l.length-2):=by rw [cut_mid (by rw [Zq,yl];exact hl.1),Zq,yl]
   refine (xWPWPWPWP _ rfl _ rfl _ rfl _ rfl (xWWPP lx _ rfl (SqL.of (g5 _ _ y1)) (fun z hz=>?_)))
   rw [cz]
   have zin:=sh5.notIn hz
   have kz:=same_new hz (.lst (((tx.map V.ref).drop 1).take (l.length-2)))
   refine (xWPP z rfl ⟨_,SqL.of upd_same⟩ (for_list (xs:=((tx.map V.ref).drop 1).take (l.length-2)) (fun k σ' H'=>(∃ v16 v17,σ'=sR d pa la D S L' R' B' U' (some (.ref lx)) v10 v11 v12 v13 v14 v15 v16 v17 none)∧Same H2 H'∧H' z=some (.lst (((tx.map V.ref).drop 1).take (l.length-2)))∧Sht H2 H' S rr hh ww (plF (cel L' U') l f1 k)) (xPPP (xWW _ _ rfl) (g5.trans kz) upd_same (sh5.keep kz)) (fun _ _ _ _ ⟨_,_,h,_⟩=>SqL.of h) ?_ ?_))
   ·rintro k x σ H6 hx ⟨⟨u16,u17, rfl⟩,g6,z6, sh6⟩
    have hk:k<l.length-2:=by have:=(Zj.mp hx).1;simp at this;omega
    obtain ⟨a,a1,a2⟩:=y2.at (show k+1<l.length by omega)
    rw [List.getElem?_take_of_lt hk,List.getElem?_drop,Zk,Nat.add_comm 1 k,a1] at hx
    cases hx
    have ck:=cin _ (hin (g0 l (k+1)) (by rw [g0_get (GR.get_of (show k+1<l.length by omega))];exact Zp _))
    obtain ⟨x,c,x1,x2,x3,xr,x4⟩:=wr g6 sh6 (cel L' U' (g0 l (k+1))) ck.1 ck.2
    have x4:=x4 43
    refine (xWWPPPWWP a _ rfl (SqT.of (g6 _ _ a2)) rfl _ _ rfl (xWWPP _ _ rfl rfl ?_))
    refine (xWPWPWP _ rfl _ rfl _ rfl (xWWPPWWPP _ _ rfl rfl _ _ rfl rfl (xPWWWWPPP (.inl ⟨by decide,by decide⟩) S _ _ (.ref x) rfl rfl (SqL.of sh6.at_) (xPWPWPWWP x1 _ rfl _ rfl _ _ rfl (xPWWPPP rfl _ _ rfl rfl (.inl ⟨by decide,by decide⟩) (xWWWWPPPP x _ _ c rfl rfl x2 x3 ⟨(xWW _ _ rfl), ?_⟩))))))
    rw [e_pl]
    exact (xPP x4.1 ((upd_ne (show z≠x from fun e=>zin (e▸xr))).trans z6) x4.2)
   ·rintro σ H6 ⟨⟨u16,u17, rfl⟩,g6,_, sh6⟩
    rw [show (((tx.map V.ref).drop 1).take (l.length-2)).length=l.length-2 by simp [yl];omega,←ef] at sh6
    exact (xPP (xWWW _ _ _ rfl) g6 sh6)
  ·rintro σ H5 ⟨h5,g5, sh5⟩
   rw [Zq,l2] at sh5
   exact n1 _ _ (xPP h5 g5 sh5)
 rintro σ1 H5 ⟨⟨u4,u16,u17, rfl⟩,g5, sh5⟩
 clear sh4 g4
 generalize ltF (cel L' U') ll f0 ll.length=f1 at sh5 epf
 have prl:pr.length=sp.length:=pP.len
 refine viaN (fun σ' H'=>(∃ v16 v17 v18,σ'=sR d pa la D S L' R' B' U' u4 v10 v11 v12 v13 v14 v15 v16 v17 v18)∧Same H2 H'∧Sht H2 H' S rr hh ww (spF (cel L' U') sp f1 sp.length)) (fun N n1=>?_) ?_
 ·refine (xWPWPP _ rfl pa rfl ⟨_,SqL.of (g5 _ _ (g02 _ _ p1))⟩ (for_enum (K:=K) (a:=pa) (xs:=pr.map V.ref) (fun i σ' H'=>(∃ v16 v17 v18,σ'=sR d pa la D S L' R' B' U' u4 v10 v11 v12 v13 v14 v15 v16 v17 v18)∧Same H2 H'∧Sht H2 H' S rr hh ww (spF (cel L' U') sp f1 i)) (xPP (xWWW _ _ _ rfl) g5 sh5) (fun _ _ _ _ ⟨_,g,_⟩=>SqL.of (g _ _ (g02 _ _ p1))) ?_ ?_))
  ·rintro i x σ H6 Tp hx ⟨⟨w16,w17,w18, rfl⟩,g6, sh6⟩ hTp
   have hi:i<sp.length:=by have:=(Zj.mp hx).1;rw [Zq,prl] at this;exact this
   obtain ⟨a,a1,a2⟩:=pP.at hi
   rw [Zk,a1] at hx
   cases hx
   have kT:=same_new hTp (.tup [vn i,.ref a])
   have ck:=cin _ (ins (g0 sp i) (by rw [g0_get (GR.get_of hi)];exact Zp _))
   obtain ⟨x,c,x1,x2,x3,_,x4⟩:=wr (g6.trans kT) (sh6.keep kT) (cel L' U' (g0 sp i)) ck.1 ck.2
   have x4:=x4 (48+i)
   refine (xWWPPPWWP Tp _ rfl (SqT.of upd_same) rfl _ _ rfl (xWWPWWPPP _ _ rfl a _ rfl (SqT.of (kT _ _ (g6 _ _ (g02 _ _ a2)))) rfl (xWWPWWPPP _ _ rfl _ _ rfl rfl rfl ?_)))
   exact (xWPWWWPPP _ rfl _ _ _ rfl rfl (by rw [e_dg,sT_len];show 10≤sizeLine;decide) (xPWPWPWP (dg_at (by omega)) _ rfl _ rfl _ rfl (xWWPPWWPP _ _ rfl rfl _ _ rfl rfl (xPWWWWPPP (.inl ⟨by decide,by decide⟩) S _ _ (.ref x) rfl rfl (SqL.of (kT _ _ sh6.at_)) (xPWPWPWWP x1 _ rfl _ rfl _ _ rfl (xPWWPPP rfl _ _ rfl rfl (.inl ⟨by decide,by decide⟩) (xWWWWPPPP x _ _ c rfl rfl x2 x3 (xPP (xWWW _ _ _ rfl) x4.1 x4.2))))))))
  ·rintro σ H6 ⟨h6,g6, sh6⟩
   rw [Zq,prl] at sh6
   exact n1 _ _ (xPP h6 g6 sh6)
 rintro σ1 H6 ⟨⟨w16,w17,w18, rfl⟩,g6, sh6⟩
 clear sh5 g5
 rw [←epf] at sh6
 have rl:rr.length=hh:=by rw [sh6.len,Zq,Yj]
 refine (xWPWPP _ rfl S rfl ⟨_,SqL.of sh6.at_⟩ (fun D5 hD5=>?_))
 refine comp_pure hh (fun i:Nat=>V.str (Rw (picF L' U' sp ll) (i:Int) ww)) hD5 (by omega) (fun i H' hi g=>(xWWP _ (.ref (rr[i]'(by omega))) (SqL.of (g _ _ sh6.at_)) (by rw [Zk,GR.get_of (by omega)];rfl))) (fun H' g=>(xWP _ (SqL.of (g _ _ sh6.at_)) (by rw [Zq,rl];exact Nat.le_refl _))) ?_ ?_
 ·rintro i H' x H'' k hi g ⟨rfl,hx⟩ hk
  have hx:=hx _ (SqL.of (g _ _ sh6.at_))
  obtain ⟨x,x1,x2,_,_⟩:=NewL.item sh6 hi
  rw [Zk,x1] at hx
  cases hx
  have e:rwS (picF L' U' sp ll) ww i=vxs ((List.range ww).map fun c:Nat=>[picF L' U' sp ll ((i:Int),(c:Int))]):=by unfold rwS vxs;rw [Yg];rfl
  rw [e] at x2
  refine (xPPWPWWWP ((Fills.refl _).set _ rfl) rfl _ rfl _ x _ rfl (xPPPPPWWP e_no3 rfl (SqL.of (g _ _ x2)) (by rw [sum1,Zq,Yj];omega) rfl _ _ rfl (xPP rfl (by rw [sT_len,flat1,Zq,Yj];exact Yr (by omega) mil) ?_)))
  rw [flat1,e_bl]
  exact hk _ (Same.refl _)
 ·intro H8 g8 e8
  exact q D5 H8 ((g02.trans g6).free hD5) (g02.trans (g6.trans g8)) e8
end K76
namespace PC
open L2 GR
def co (w:Nat) (p:Pt):Int:=if w=0 then p.1 else p.2
def f1 (la fa x:Int):Int:=if x=la then fa else x
def off (w:Nat) (la fa:Int) (p:Pt):Pt:=if w=0 then (f1 la fa p.1,p.2) else (p.1,f1 la fa p.2)
theorem f1_le {la fa x y:Int} (hx:x≤la∧x<fa) (hy:y≤la∧y<fa):f1 la fa x≤f1 la fa y↔x≤y:=by
 unfold f1
 split<;>split<;>omega
theorem f1_eq {la fa x y:Int} (hx:x≤la∧x<fa) (hy:y≤la∧y<fa):f1 la fa x=f1 la fa y↔x=y:=by
 unfold f1
 split<;>split<;>omega
def Ah (w:Nat) (la fa:Int) (p:Pt):Prop:=co w p≤la∧co w p<fa
theorem off_stp {w:Nat} {la fa:Int} {p q:Pt} (hp:Ah w la fa p) (hq:Ah w la fa q) (h:Stp p q):Stp (off w la fa p) (off w la fa q):=by
 unfold Ah co at hp hq
 unfold off
 by_cases hw:w=0
 ·rw [if_pos hw] at hp hq ⊢
  rw [if_pos hw]
  rcases h with ⟨h1,h2⟩ | ⟨h1,h2⟩
  ·exact .inl ⟨(f1_eq hp hq).mpr h1,h2⟩
  ·exact .inr ⟨h1,fun z=>h2 ((f1_eq hp hq).mp z)⟩
 ·rw [if_neg hw] at hp hq ⊢
  rw [if_neg hw]
  rcases h with ⟨h1,h2⟩ | ⟨h1,h2⟩
  ·exact .inl ⟨h1,fun z=>h2 ((f1_eq hp hq).mp z)⟩
  ·exact .inr ⟨(f1_eq hp hq).mpr h1,h2⟩
theorem off_on {w:Nat} {la fa:Int} {p a b:Pt} (hp:Ah w la fa p) (ha:Ah w la fa a) (hb:Ah w la fa b) (h:On (off w la fa p) (off w la fa a) (off w la fa b)):On p a b:=by
 unfold Ah co at hp ha hb
 unfold off On at h
 by_cases hw:w=0
 ·rw [if_pos hw] at hp ha hb
  simp only [if_pos hw] at h
  rw [f1_eq ha hb,f1_eq hp ha,f1_le ha hp,f1_le hp hb,f1_le hb hp,f1_le hp ha] at h
  exact h
 ·rw [if_neg hw] at hp ha hb
  simp only [if_neg hw] at h
  rw [f1_eq ha hb,f1_eq hp ha,f1_le ha hp,f1_le hp hb,f1_le hb hp,f1_le hp ha] at h
  exact h
end PC
namespace L2
open PySem PySem.Spec PyProof.Rows GR PC
theorem co_at {w:Nat} {p:Pt} (h:w<2):atI [V.int p.1,V.int p.2] (w:Int)=some (V.int (co w p)):=by
 match w,h with
 | 0,_=>rfl
 | 1,_=>rfl
theorem LsI.snoc {H:Hp} {D x:Addr} {F:List (List Pt)} {rr:List Addr} {r:List Pt} (h1:H D=some (.lst (rr.map V.ref))) (h2:rr.length=F.length) (h3:D∉rr) (h4:∀ (i:Nat) r,F[i]?=some r→∃ x,rr[i]?=some x∧TsI H x r) (hr:TsI H x r) (xD:x≠D):LsI (upd H D (.lst (rr.map V.ref++[.ref x]))) D (F++[r]):=by
 have:=LsI.insert h1 h2 h3 h4 hr xD (Nat.le_refl F.length)
 have e1:insAt (rr.map V.ref) F.length (V.ref x)=rr.map V.ref++[.ref x]:=by unfold insAt;rw [List.take_of_length_le (by rw [Zq];omega),List.drop_of_length_le (by rw [Zq];omega)]
 have e2:insAt F F.length r=F++[r]:=by unfold insAt;rw [List.take_of_length_le (Nat.le_refl _),List.drop_of_length_le (Nat.le_refl _)]
 rw [e1,e2] at this
 exact this
end L2
namespace K76
open PySem L2 PyProof.Rows TX GR PC
variable {P:Program} {w:World} {K:PySem.W.Frag} {mg:Str→Option Value} {base:Heap} {t:Adr}
theorem GD.more {B B':Int} {sp:List Pt} {ll:List (List Pt)} (h:GD (-20) B sp ll) (hB:B≤B'):GD (-20) B' sp ll:=⟨h.s1,h.s10,h.l1,h.l20,h.len,h.rct,h.apt,fun p hp=>have:=h.bs p hp;⟨⟨this.1.1,by omega⟩,this.2.1, by omega⟩, fun l hl p hp=>have:=h.bl l hl p hp;⟨⟨this.1.1,by omega⟩,this.2.1, by omega⟩⟩
theorem GD.off {w:Nat} {la fa:Int} {sp:List Pt} {ll:List (List Pt)} (h:GD (-20) 33 sp ll) (ha:∀ p∈sp++ll.flatten,Ah w la fa p) (hf:33<fa∧fa≤100):GD (-20) 100 (sp.map (PC.off w la fa)) (ll.map fun l=>l.map (PC.off w la fa)):=by
 have ins:∀ p∈sp,Ah w la fa p:=fun p hp=>ha p (Zf.mpr (.inl hp))
 have inl:∀ l∈ll,∀ p∈l,Ah w la fa p:=fun l hl p hp=>ha p (Zf.mpr (.inr (List.mem_flatten.mpr ⟨l,hl, hp⟩)))
 have bd:∀ p:Pt,((-20≤p.1∧p.1≤33)∧-20≤p.2∧p.2≤33)→((-20≤(PC.off w la fa p).1∧(PC.off w la fa p).1≤100)∧-20≤(PC.off w la fa p).2∧(PC.off w la fa p).2≤100):=fun p hp=>by
  unfold PC.off f1
  split
  ·refine ⟨?_,?_⟩
   ·show -20≤(if p.1=la then fa else p.1)∧(if p.1=la then fa else p.1)≤100
    split<;>omega
   ·show -20≤p.2∧p.2≤100
    omega
  ·refine ⟨?_,?_⟩
   ·show -20≤p.1∧p.1≤100
    omega
   ·show -20≤(if p.2=la then fa else p.2)∧(if p.2=la then fa else p.2)≤100
    split<;>omega
 refine ⟨by rw [Zq];exact h.s1,by rw [Zq];exact h.s10,by rw [Zq];exact h.l1,by rw [Zq];exact h.l20,fun l hl=>?_,fun l hl=>?_,fun i j l l' hi hj ij m k m0 m1 k1 on=>?_,fun p hp=>?_, fun l hl p hp=>?_⟩
 ·obtain ⟨l0,hl0, rfl⟩:=Zh.mp hl
  rw [Zq];exact h.len l0 hl0
 ·obtain ⟨l0,hl0, rfl⟩:=Zh.mp hl
  intro m p p' e1 e2
  rw [Zk] at e1 e2
  obtain ⟨c,hc, rfl⟩:=Xq.mp e1
  obtain ⟨c',hc', rfl⟩:=Xq.mp e2
  exact off_stp (inl l0 hl0 c (Zg hc)) (inl l0 hl0 c' (Zg hc')) (h.rct l0 hl0 m c c' hc hc')
 ·rw [Zk] at hi hj
  obtain ⟨c,hc, rfl⟩:=Xq.mp hi
  obtain ⟨c',hc', rfl⟩:=Xq.mp hj
  rw [Zq] at m1 k1
  have gi:∀ (l:List Pt) (m:Nat),m<l.length→g0 l m∈l:=fun l m hm=>by rw [g0_get (get_of hm)];exact Zp hm
  have hci:=Zg hc
  have hcj:=Zg hc'
  rw [g0_map _ (by omega:m<c.length),g0_map _ (by omega:k<c'.length),g0_map _ k1] at on
  exact h.apt i j c c' hc hc' ij m k m0 m1 k1 (off_on (inl c hci _ (gi _ _ (by omega))) (inl c' hcj _ (gi _ _ (by omega))) (inl c' hcj _ (gi _ _ k1)) on)
 ·obtain ⟨p0,hp0, rfl⟩:=Zh.mp hp
  exact bd p0 (h.bs p0 hp0)
 ·obtain ⟨l0,hl0, rfl⟩:=Zh.mp hl
  obtain ⟨p0,hp0, rfl⟩:=Zh.mp hp
  exact bd p0 (h.bl l0 hl0 p0 hp0)
def spOff:Sp:=fun vs H Q _=>∃ (d:Addr) (n:Int) (sp:List Pt) (ll:List (List Pt)),vs=[.ref d,.int n]∧DrB H d sp ll∧GD (-20) 33 sp ll∧∀ (d':Addr) (sp':List Pt) (ll':List (List Pt)) (H':Hp),Same H H'→DrB H' d' sp' ll'→GD (-20) 100 sp' ll'→Q (.ref d') H'
theorem ok_off (T:Txt K mg t):FnOk P w K mg base CX0 1 t.a_l_put_off t.d_l_put_off ["_law_drawing","_law_number"] spOff:=by
 refine T.F_l_put_off.ok sc_l_put_off (fun vs H Q E h=>?_) (fun cdv A outer s H vs Q E hr h=>?_)
 ·obtain ⟨d,n,sp,ll,rfl,_⟩:=h;rfl
 obtain ⟨d,n,sp,ll,rfl,hDr,hG,q⟩:=h
 obtain ⟨pa,la,d1,hP,hL⟩:=id hDr
 have nd:=sc_l_put_off.nd
 have nd_l_point_l_way:(["_law_point","_law_way"]:List Str).Nodup:=by decide
 refine (xWP _ (pss_cons (ps_set (i:=2) nd rfl (Or.inr rfl) (pe_op op_mod (pv 1) pe_int))
  (pss_cons (ps_if (pt_cmpR op_gt (pv 2) pe_int (nomark _)) (pss_one (ps_ret (pv 0))) pss_nil)
  (pss_cons (ps_set (i:=3) nd rfl (Or.inl rfl) (pe_callTy call_list_of rfl T.z_list boot_list (pa_cons (pe_ix ix_tup (pv 0) pe_int (fun _ _=>rfl)) pa_nil)))
  (pss_cons (ps_for PassesOwn.never rfl (pi_list (pe_ix ix_tup (pv 0) pe_int (fun _ _=>rfl))) (pg_name (i:=4) nd rfl (Or.inl rfl)) (pss_one (ps_set (i:=3) nd rfl (Or.inl rfl) (pe_op op_cat (pv 3) (pv 4)))))
  (pss_cons (ps_set (i:=5) nd rfl (Or.inl rfl) (pe_callB (call_maxL rfl) rfl T.z_max boot_max (pa_cons (pe_comp (N':=["_law_point","_law_way"]) (js:=[none,some 2]) rfl (pi_list (pv 3)) (fun _ _ _ _ _=>(pg_name (i:=0) nd_l_point_l_way rfl (Or.inl rfl))) (fun _ _ _ _ _=>pf_nil) (fun _ _ _ _ _=>(pe_ix (kix_tup (K:=K) rfl) (pv 0) (pv 1) (fun _ _=>rfl)))) pa_nil)))
  (pss_cons (ps_set (i:=6) nd rfl (Or.inl rfl) (pe_callB (call_minL rfl) rfl T.z_min boot_min (pa_cons (pe_comp (N':=["_law_point","_law_way"]) (js:=[none,some 2]) rfl (pi_list (pv 3)) (fun _ _ _ _ _=>(pg_name (i:=0) nd_l_point_l_way rfl (Or.inl rfl))) (fun _ _ _ _ _=>pf_nil) (fun _ _ _ _ _=>(pe_ix (kix_tup (K:=K) rfl) (pv 0) (pv 1) (fun _ _=>rfl)))) pa_nil)))
  (pss_cons (ps_set (i:=7) nd rfl (Or.inl rfl) (pe_op op_add (pe_op op_add (pv 6) pe_int) (pe_op op_mod (pe_op op_fdiv (pv 1) pe_int) pe_int)))
  (pss_cons (ps_if (pt_cmpR op_eq (pv 5) (pv 6) (nomark _)) (pss_one (ps_ret (pv 0))) pss_nil)
  (pss_cons (ps_set (i:=8) nd rfl (Or.inl rfl) (pe_lst pa_nil))
  (pss_cons (ps_for PassesOwn.never rfl (pi_list (pe_op op_cat (pe_lst (pa_cons (pe_ix ix_tup (pv 0) pe_int (fun _ _=>rfl)) pa_nil)) (pe_ix ix_tup (pv 0) pe_int (fun _ _=>rfl)))) (pg_name (i:=4) nd rfl (Or.inl rfl)) (pss_cons (ps_set (i:=9) nd rfl (Or.inl rfl) (pe_lst pa_nil))
  (pss_cons (ps_for PassesOwn.never rfl (pi_list (pv 4)) (pg_name (i:=10) nd rfl (Or.inl rfl)) (pss_cons (ps_set (i:=11) nd rfl (Or.inl rfl) (pe_lst (pa_cons (pe_ix ix_tup (pv 10) pe_int (fun _ _=>rfl)) (pa_cons (pe_ix ix_tup (pv 10) pe_int (fun _ _=>rfl)) pa_nil))))
  (pss_cons (ps_if (pt_cmpR op_eq (pe_ix ix_list (pv 11) (pv 2) (fun _ _=>rfl)) (pv 5) (nomark _)) (pss_one (ps_asg (pv 7) (pg_sub (pv 11) (pv 2) set_list))) pss_nil)
  (pss_one (ps_expr (pe_bm PySem.F.plainAttrs_list PySem.F.slot_list_append PySem.F.type_list_append mt_append (pv 9) (pa_cons (pe_tup (pa_cons (pe_ix ix_list (pv 11) pe_int (fun _ _=>rfl)) (pa_cons (pe_ix ix_list (pv 11) pe_int (fun _ _=>rfl)) pa_nil))) pa_nil)))))))
  (pss_one (ps_expr (pe_bm PySem.F.plainAttrs_list PySem.F.slot_list_append PySem.F.type_list_append mt_append (pv 8) (pa_cons (pv 9) pa_nil)))))))
  (pss_one (ps_ret (pe_tup (pa_cons (pe_ix ix_list (pv 8) pe_int (fun _ _=>rfl)) (pa_cons (pe_slice sl_list (pv 8) (po_some pe_int) po_none) pa_nil))))))))))))))) ?_)
 obtain ⟨pr,p1,pP⟩:=id hP.pr
 obtain ⟨lr,l1,l2,l3,l4⟩:=id hL
 have s10:=hG.s10
 have s1:=hG.s1
 have l20:=hG.l20
 have fl:∀ i,(ll.take i).flatten.length≤720:=fun i=>Yr (flat_le fun l hl=>(hG.len l (List.mem_of_mem_take hl)).2) (by rw [Yw];omega)
 obtain ⟨wy,hwy, w4⟩:∃ wy:Nat,n%4=(wy:Int)∧wy<4:=(xWP ((n%4).toNat) (by omega) (by omega))
 refine (xWPWWPPP _ rfl _ _ rfl rfl (by show (0:Int)<4;decide) ?_)
 dsimp only [gName]
 refine seqS (σ':=[some (.ref d),some (.int n),some (.int (wy:Int)),none,none,none,none,none,none,none,none,none]) (by rw [←hwy];rfl) ?_
 refine viaN (fun σ' H'=>wy<2∧H=H'∧σ'=[some (.ref d),some (.int n),some (.int (wy:Int)),none,none,none,none,none,none,none,none,none]) (fun N n1=>?_) ?_
 ·refine (xWPWWPPWP _ rfl _ _ rfl rfl _ rfl (ite2 (fun c=>?_) (fun c=>?_)))
  ·exact (xWP _ rfl (q d sp ll H (Same.refl _) hDr (hG.more (by decide))))
  ·have c:¬(1:Int)<(wy:Int):=fun z=>c (decide_eq_true z)
   exact n1 _ _ (xPP (by omega) rfl rfl)
 rintro σ1 _ ⟨w2,rfl, rfl⟩
 refine (xWPWWWWPP _ rfl d _ 0 _ rfl rfl (xPPWWPP (SqT.of d1) rfl pa _ rfl (.inl (SqL.of p1)) (fun D0 hD0=>?_)))
 have k1:=same_new hD0 (.lst (pr.map V.ref))
 dsimp only [gName]
 refine viaN (fun σ' H'=>∃ D v4,σ'=[some (.ref d),some (.int n),some (.int (wy:Int)),some (.ref D),v4,none,none,none,none,none,none,none]∧Same H H'∧TsI H' D (sp++ll.flatten)) (fun N n1=>?_) ?_
 ·refine (xWPWWWWPP _ rfl d _ 1 _ rfl rfl (xPPWPP (SqT.of (k1 _ _ d1)) rfl la rfl ⟨_,SqL.of (k1 _ _ l1)⟩ (for_list (xs:=lr.map V.ref) (fun i σ' H'=>∃ D v4,σ'=[some (.ref d),some (.int n),some (.int (wy:Int)),some (.ref D),v4,none,none,none,none,none,none,none]∧Same H H'∧TsI H' D (sp++(ll.take i).flatten)) (xWWPP D0 _ rfl k1 ((pP.same k1).ts upd_same |> fun h=>by simpa using h)) (fun _ _ _ _ ⟨_,_,_,g,_⟩=>SqL.of (g _ _ l1)) ?_ ?_)))
  ·rintro i x σ H2 hx ⟨D,v4,rfl,g2, hD2⟩
   have hi:i<ll.length:=by have:=(Zj.mp hx).1;rw [Zq,l2] at this;exact this
   obtain ⟨lx,x1,x2⟩:=l4 i _ (GR.get_of hi)
   rw [Zk,x1] at hx
   cases hx
   obtain ⟨tr,e2,r2⟩:=hD2.pr
   obtain ⟨tx,y1,y2⟩:=(x2.same g2).pr
   have fi:=fl i
   have li:=(hG.len _ (Zp hi)).2
   have rl:=r2.len
   have yl:=y2.len
   rw [Zm] at rl
   refine (xWPWP _ rfl _ rfl (xWWWWPPPP D lx _ _ rfl rfl e2 y1 ⟨Yr (by rw [Zq,Zq];omega) mil, fun D' hD'=>(xWWPP D' _ rfl (g2.trans (same_new hD' _)) ?_)⟩))
   rw [take_flat hi,←Yb]
   exact ((PtR.app y2 r2).same (same_new hD' _)).ts (by rw [upd_same,Zt])
  ·rintro σ H2 ⟨D,v4,h2,g2, hD2⟩
   rw [Zq,l2,Yv] at hD2
   exact n1 _ _ (xWWPP D v4 h2 g2 hD2)
 rintro σ1 H1 ⟨D,v4,rfl,g1, hD1⟩
 have psl:(sp++ll.flatten).length≤730:=by have:=fl ll.length;rw [Yv] at this;rw [Zm];omega
 have ps1:1≤(sp++ll.flatten).length:=by rw [Zm];omega
 have gah:=fun (la fa:Int) (ha:∀ p∈sp++ll.flatten,Ah wy la fa p) (hf:33<fa∧fa≤100)=>hG.off ha hf
 have inb:∀ p∈sp++ll.flatten,-20≤co wy p∧co wy p≤33:=fun p hp=>by
  have:(-20≤p.1∧p.1≤33)∧-20≤p.2∧p.2≤33:=by
   rcases Zf.mp hp with z | z
   ·exact hG.bs p z
   ·obtain ⟨l,hl,z⟩:=List.mem_flatten.mp z
    exact hG.bl l hl p z
  unfold co;split<;>omega
 generalize sp++ll.flatten=ps at hD1 psl ps1 gah inb
 obtain ⟨tr,e0,r1⟩:=hD1.pr
 have trl:=r1.len
 refine (xWPWPP _ rfl D rfl ⟨_,SqL.of e0⟩ (fun D2 hD2=>?_))
 refine comp_pure ps.length (fun i=>.int (co wy (g0 ps i))) hD2 (by omega) (fun i H' hi g=>(xWWP _ (.ref (tr[i]'(by omega))) (SqL.of (g _ _ e0)) (by rw [Zk,GR.get_of (by omega)];rfl))) (fun H' g=>(xWP _ (SqL.of (g _ _ e0)) (by rw [Zq,trl];exact Nat.le_refl _))) ?_ ?_
 ·rintro i H' x H'' k hi g ⟨rfl,hx⟩ hk
  have hx:=hx _ (SqL.of (g _ _ e0))
  obtain ⟨ra,a1,a2⟩:=r1.at hi
  rw [Zk,a1] at hx
  cases hx
  exact (xPWPWP ((Fills.refl _).set _ rfl) _ rfl _ rfl (xWWWWPPPP ra _ _ _ rfl rfl (SqT.of (g _ _ a2)) (co_at w2) (hk _ (Same.refl _))))
 intro H2 g2 e2
 rw [show ((List.range ps.length).map fun i=>V.int (co wy (g0 ps i)))=(ps.map fun p:Pt=>co wy p).map V.int by rw [map_g0 (fun p=>V.int (co wy p)),Yg];rfl] at e2
 refine (xWWPPP D2 (ps.map fun p:Pt=>co wy p) rfl (SqL.of e2) (by rw [Zq];omega) (fun mT mT1 mT2=>?_))
 dsimp only [gName]
 refine (xWPWPP _ rfl D rfl ⟨_,SqL.of (g2 _ _ e0)⟩ (fun D3 hD3=>?_))
 refine comp_pure ps.length (fun i=>.int (co wy (g0 ps i))) hD3 (by omega) (fun i H' hi g=>(xWWP _ (.ref (tr[i]'(by omega))) (SqL.of (g _ _ (g2 _ _ e0))) (by rw [Zk,GR.get_of (by omega)];rfl))) (fun H' g=>(xWP _ (SqL.of (g _ _ (g2 _ _ e0))) (by rw [Zq,trl];exact Nat.le_refl _))) ?_ ?_
 ·rintro i H' x H'' k hi g ⟨rfl,hx⟩ hk
  have hx:=hx _ (SqL.of (g _ _ (g2 _ _ e0)))
  obtain ⟨ra,a1,a2⟩:=(r1.same g2).at hi
  rw [Zk,a1] at hx
  cases hx
  exact (xPWPWP ((Fills.refl _).set _ rfl) _ rfl _ rfl (xWWWWPPPP ra _ _ _ rfl rfl (SqT.of (g _ _ a2)) (co_at w2) (hk _ (Same.refl _))))
 intro H3 g3' e3
 rw [show ((List.range ps.length).map fun i=>V.int (co wy (g0 ps i)))=(ps.map fun p:Pt=>co wy p).map V.int by rw [map_g0 (fun p=>V.int (co wy p)),Yg];rfl] at e3
 refine (xWWPPP D3 (ps.map fun p:Pt=>co wy p) rfl (SqL.of e3) (by rw [Zq];omega) (fun mB mB1 mB2=>?_))
 dsimp only [gName]
 have bx:=inb
 have g3:=g1.trans (g2.trans g3')
 clear g2 g3' e2 e3 hD2 hD3
 have hfa:33<mB+58+n / 4%6∧mB+58+n / 4%6≤100:=by
  obtain ⟨p,hp,rfl⟩:=Zh.mp mB1
  have:=inb p hp
  omega
 have gah:=gah mT (mB+58+n / 4%6) (fun p hp=>⟨mT2 _ (Zh.mpr (xWP p hp rfl)),by have:=inb p hp;omega⟩) hfa
 refine (xWPWWPPWP _ rfl _ _ rfl rfl _ rfl (xWWPPPWWP _ _ rfl rfl ⟨by decide,by decide⟩ _ _ rfl (xPPWWPP rfl (by show (0:Int)<6;decide) _ _ rfl rfl ?_)))
 dsimp only [gName]
 generalize mB+58+n / 4%6=fa at hfa gah
 refine viaN (fun σ' H'=>H3=H'∧σ'=[some (.ref d),some (.int n),some (.int (wy:Int)),some (.ref D),v4,some (.int mT),some (.int mB),some (.int fa),none,none,none,none]) (fun N n1=>?_) ?_
 ·refine (xWPWPPWP _ rfl _ rfl rfl _ rfl (ite2 (fun c=>?_) (fun c=>?_)))
  ·exact (xWP _ rfl (q d sp ll _ g3 (hDr.same g3) (hG.more (by decide))))
  ·exact n1 _ _ ⟨rfl,rfl⟩
 rintro σ1 _ ⟨rfl,rfl⟩
 clear e0 r1 trl hD1 mT1 mT2 mB1 mB2 bx inb g1 k1 hD0
 refine ⟨(by show 0≤sizeLine;decide),fun R hR=>?_⟩
 have hR0:H R=none:=g3.free hR
 have kR:=same_new hR (.lst [])
 have g4:=g3.trans kR
 dsimp only [gName]
 let ph:Pt→Pt:=PC.off wy mT fa
 have phi:∀ p:Pt,(if co wy p=mT then ([V.int p.1,V.int p.2].set wy (.int fa)) else [V.int p.1,V.int p.2])=[V.int (ph p).1,V.int (ph p).2]:=fun p=>by
  show _=[V.int (PC.off wy mT fa p).1,V.int (PC.off wy mT fa p).2]
  match wy,w2 with
  | 0,_=>show (if p.1=mT then _ else _)=[V.int (if p.1=mT then fa else p.1),V.int p.2];split<;>rfl
  | 1,_=>show (if p.2=mT then _ else _)=[V.int p.1,V.int (if p.2=mT then fa else p.2)];split<;>rfl
 have all:∀ (i:Nat) l,(sp::ll)[i]?=some l→∃ x,(pa::lr)[i]?=some x∧TsI H x l∧l.length≤100:=fun i l e=>by
  match i,e with
  | 0,e=>cases e;exact (xWPP pa rfl hP (by omega))
  | i+1,e =>
   have e:ll[i]?=some l:=e
   obtain ⟨x,h1,h2⟩:=l4 i l e
   exact (xWPP x h1 h2 (by have:=(hG.len l (Zg e)).2;omega))
 refine viaN (fun σ' H'=>(∃ v4 v9 v10 v11,σ'=[some (.ref d),some (.int n),some (.int (wy:Int)),some (.ref D),v4,some (.int mT),some (.int mB),some (.int fa),some (.ref R),v9,v10,v11])∧Same H H'∧LsI H' R ((sp::ll).map fun l=>l.map ph)) (fun N n1=>?_) ?_
 ·refine (xWPWWWWPP _ rfl d _ 0 _ rfl rfl (xPPP (SqT.of (g4 _ _ d1)) rfl (by show 1≤sizeLine;decide) (fun X hX=>?_)))
  have kX:=same_new hX (.lst [V.ref pa])
  refine (xWPWWWWPP _ rfl d _ 1 _ rfl rfl (xPPWWWWPP (SqT.of (kX _ _ (g4 _ _ d1))) rfl X la _ _ rfl rfl (xPPP upd_same (kX _ _ (g4 _ _ l1)) (Yr (by rw [Zq,l2];show 1+_≤1000000;omega) mil) (fun Y hY=>?_))))
  have kY:=same_new hY (.lst ([V.ref pa]++lr.map V.ref))
  have g5:=g4.trans (kX.trans kY)
  have yR:Y≠R:=fun z=>by rw [z,kX _ _ upd_same] at hY;cases hY
  have hYe:upd (upd (upd H3 R (.lst [])) X (.lst [V.ref pa])) Y (.lst ([V.ref pa]++lr.map V.ref)) Y=some (.lst ((pa::lr).map V.ref)):=upd_same
  have hRe:=(kX.trans kY) _ _ (upd_same (H:=H3) (a:=R) (o:=.lst []))
  generalize upd (upd (upd H3 R (.lst [])) X (.lst [V.ref pa])) Y (.lst ([V.ref pa]++lr.map V.ref))=H5 at g5 hYe hRe
  refine (xWPP Y rfl ⟨_,SqL.of hYe⟩ (for_list (xs:=(pa::lr).map V.ref) (fun i σ' H'=>(∃ v4 v9 v10 v11,σ'=[some (.ref d),some (.int n),some (.int (wy:Int)),some (.ref D),v4,some (.int mT),some (.int mB),some (.int fa),some (.ref R),v9,v10,v11])∧Same H H'∧H' Y=some (.lst ((pa::lr).map V.ref))∧LsI H' R (((sp::ll).take i).map fun l=>l.map ph)) (xPPPWPPP (xWWWW _ _ _ _ rfl) g5 hYe ([]) hRe rfl (by simp) (fun i r e=>by simp at e)) (fun _ _ _ _ ⟨_,_,h,_⟩=>SqL.of h) ?_ ?_))
  ·rintro i x σ H6 hx ⟨⟨u4,u9,u10,u11, rfl⟩,g6,y6, hR6⟩
   have hi:i<(sp::ll).length:=by have:=(Zj.mp hx).1;rw [Zq,Yq,l2] at this;exact this
   obtain ⟨lx,x1,x2,x3⟩:=all i _ (GR.get_of hi)
   rw [Zk,x1] at hx
   cases hx
   have tk:((sp::ll).take (i+1)).map (fun l=>l.map ph)=((sp::ll).take i).map (fun l=>l.map ph)++[(sp::ll)[i].map ph]:=by rw [List.take_add_one,GR.get_of hi,Zt];rfl
   rw [tk]
   have i21:i<21:=by rw [Yq] at hi;omega
   generalize (sp::ll)[i]=l at x2 x3
   obtain ⟨tx,z1,z2⟩:=(x2.same g6).pr
   have zl:=z2.len
   refine ⟨(by show 0≤sizeLine;decide),fun W hW=>?_⟩
   dsimp only [gName]
   refine viaN (fun σ' H'=>(∃ v10 v11,σ'=[some (.ref d),some (.int n),some (.int (wy:Int)),some (.ref D),some (.ref lx),some (.int mT),some (.int mB),some (.int fa),some (.ref R),some (.ref W),v10,v11])∧Same H6 H'∧TsI H' W (l.map ph)) (fun N2 n2=>?_) ?_
   ·refine (xWPWPP _ rfl lx rfl ⟨_,SqL.of (same_new hW _ _ _ z1)⟩ (for_list (xs:=tx.map V.ref) (fun k σ' H'=>(∃ v10 v11,σ'=[some (.ref d),some (.int n),some (.int (wy:Int)),some (.ref D),some (.ref lx),some (.int mT),some (.int mB),some (.int fa),some (.ref R),some (.ref W),v10,v11])∧Same H6 H'∧∃ tr,H' W=some (.lst (tr.map V.ref))∧PtR H' tr ((l.take k).map ph)) (xPPWP (xWW _ _ rfl) (same_new hW _) ([]) upd_same .nil) (fun _ _ _ _ ⟨_,g,_⟩=>SqL.of (g _ _ z1)) ?_ ?_))
    ·rintro k x σ H7 hx ⟨⟨u10,u11, rfl⟩,g7,tr,w7, r7⟩
     have hk:k<l.length:=by have:=(Zj.mp hx).1;rw [Zq,zl] at this;exact this
     obtain ⟨a,a1,a2⟩:=z2.at hk
     rw [Zk,a1] at hx
     cases hx
     have tkk:(l.take (k+1)).map ph=(l.take k).map ph++[ph (g0 l k)]:=by rw [List.take_add_one,GR.get_of hk,Zt,g0_get (GR.get_of hk)];rfl
     rw [tkk]
     have rl:=r7.len
     rw [Zq,Yw] at rl
     generalize g0 l k=p at a2
     have phi:=phi p
     refine (xWPWWWWPP _ rfl a _ 0 _ rfl rfl (xPPWP (SqT.of (g7 _ _ a2)) rfl _ rfl (xWWWWPPPP a _ 1 _ rfl rfl (SqT.of (g7 _ _ a2)) rfl ⟨(by show 2≤sizeLine;decide), fun O hO=>?_⟩)))
     have kO:=same_new hO (.lst [V.int p.1,V.int p.2])
     have hO6:H6 O=none:=g7.free hO
     have hOW:O≠W:=fun z=>by rw [z,w7] at hO;cases hO
     dsimp only [gName]
     refine viaN (fun σ' H'=>σ'=[some (.ref d),some (.int n),some (.int (wy:Int)),some (.ref D),some (.ref lx),some (.int mT),some (.int mB),some (.int fa),some (.ref R),some (.ref W),some (.ref a),some (.ref O)]∧Same H6 H'∧H' O=some (.lst [V.int (ph p).1,V.int (ph p).2])∧H' W=some (.lst (tr.map V.ref))∧PtR H' tr ((l.take k).map ph)) (fun N3 n3=>?_) ?_
     ·refine (xWPWP _ rfl _ rfl (xWWWWPPPP O _ _ _ rfl rfl (SqL.of upd_same) (co_at w2) (xWPPWP _ rfl rfl _ rfl (ite2 (fun c=>?_) (fun c=>?_)))))
      ·have c:co wy p=mT:=V.int.inj (of_decide_eq_true c)
       rw [if_pos c] at phi
       refine (xWPWPWP _ rfl _ rfl _ rfl (xWWWWPPPP O _ _ wy rfl rfl upd_same (ixN_ok (by show wy<2;exact w2) rfl) (n3 _ _ (xPPPP rfl ((g7.trans kO).fresh hO6 _) (by rw [upd_same,phi]) ((upd_ne (Ne.symm hOW)).trans (kO _ _ w7)) ((r7.same kO).other upd_same _)))))
      ·have c:¬co wy p=mT:=fun z=>c (decide_eq_true (congrArg V.int z))
       rw [if_neg c] at phi
       exact n3 _ _ (xPPPP rfl (g7.trans kO) (by rw [upd_same,phi]) (kO _ _ w7) (r7.same kO))
     rintro σ' H8 ⟨rfl,g8,o8,w8, r8⟩
     refine (xWPPWP _ rfl (.inl ⟨rfl,_, SqL.of w8⟩) _ rfl (xWWWWPPPP O _ 0 _ rfl rfl (SqL.of o8) rfl (xWPWWWWPP _ rfl O _ 1 _ rfl rfl (xPPP (SqL.of o8) rfl (by show 2≤sizeLine;decide) (fun Tp hTp=>?_)))))
     have kT:=same_new hTp (.tup [V.int (ph p).1,V.int (ph p).2])
     refine (xWWWPPPPP W _ _ rfl rfl (kT _ _ w8) (Ys (by rw [Zq];omega:_≤100) (by decide)) (xWW _ _ rfl) (xPWP ((g8.trans kT).fresh hW _) (tr++[Tp]) (by rw [upd_same,Zt];rfl) ?_))
     exact (PtR.app (.cons upd_same .nil) (r8.same kT)).other (kT _ _ w8) _
    ·rintro σ H7 ⟨h7,g7,tr,w7, r7⟩
     rw [Zq,zl,Yv] at r7
     exact n2 _ _ (xPP h7 g7 (r7.ts w7))
   rintro σ' H7 ⟨⟨u10',u11', rfl⟩,g7, hW7⟩
   obtain ⟨rr,q1,q2,q3,q4⟩:=hR6.same g7
   have WR:W≠R:=fun z=>by obtain ⟨_,zz,_⟩:=hR6;rw [←z,hW] at zz;cases zz
   rw [Zq,Yw] at q2
   refine (xWPPWP _ rfl (.inl ⟨rfl,_, SqL.of q1⟩) _ rfl (xWWWPPPPP R _ _ rfl rfl q1 (Ys (by rw [Zq];omega:_≤100) (by decide)) (xWWWW _ _ _ _ rfl) (xPP ((g6.trans g7).fresh hR0 _) ((upd_ne yR).trans (g7 _ _ y6)) ?_)))
   exact LsI.snoc q1 (by rw [Zq,Yw];exact q2) q3 q4 hW7 WR
  ·rintro σ H6 ⟨h6,g6,y6, hR6⟩
   rw [Zq,Yq,l2,←Yq (a:=sp),Yv] at hR6
   exact n1 _ _ (xPP h6 g6 hR6)
 rintro σ1 H6 ⟨⟨u4,u9,u10,u11, rfl⟩,g6, hR6⟩
 obtain ⟨rr,q1,q2,q3,q4⟩:=hR6
 obtain ⟨a0,a1,a2⟩:=q4 0 (sp.map ph) rfl
 have at0':atI (rr.map V.ref) 0=some (.ref a0):=atI_nat (j:=0) (by rw [Zk,a1];rfl)
 have cz:cutV (rr.map V.ref) (some 1) none=(rr.drop 1).map V.ref:=by rw [show (some (1:Int))=some ((1:Nat):Int) from rfl,cut_fromV,List.map_drop]
 refine (xWPWWWWPP _ rfl R _ 0 _ rfl rfl (xPPWPWP (SqL.of q1) at0' _ rfl _ rfl (xWWPP R _ rfl (SqL.of q1) (fun Z hZ=>?_))))
 rw [cz]
 have kZ:=same_new hZ (.lst ((rr.drop 1).map V.ref))
 refine ⟨(by show 2≤sizeLine;decide),fun d' hd'=>?_⟩
 have kd:=same_new hd' (.tup [.ref a0,.ref Z])
 have kk:=kZ.trans kd
 refine q d' (sp.map ph) (ll.map fun l=>l.map ph) _ (g6.trans kk) (xWWPPWPPP a0 Z upd_same (a2.same kk) (rr.drop 1) (kd _ _ upd_same) (by rw [Yd,q2];simp) (fun z=>?_) (fun i r e=>?_)) gah
 ·obtain ⟨i,hi,e⟩:=Yy.mp (List.mem_of_mem_drop z)
  have hi':i<((sp::ll).map fun l=>l.map ph).length:=by rw [←q2];exact hi
  obtain ⟨x,b1,⟨_,b2,_⟩⟩:=q4 i _ (GR.get_of hi')
  rw [GR.get_of hi,e] at b1
  cases b1
  rw [hZ] at b2;cases b2
 ·obtain ⟨x,b1,b2⟩:=q4 (i+1) r e
  exact (xWP x (by rw [List.getElem?_drop,Nat.add_comm];exact b1) (b2.same kk))
end K76
namespace L2
open PySem PySem.Spec PyProof.Rows TX
section
variable {X:Cx} {pins:List (Addr×Obj)} {σ:St} {H:Hp} {s:Shared}
theorem reads_strs (h:Heap):∀ {zs:List Str} {us:List Value},Vals (zs.map V.str) us→∃ as,ReadsAll h us (zs.map PyData.str) as
 | [],_,r=>by cases r;exact ⟨_,.nil⟩
 | z::zs,_,r=>by
  cases r with
  | cons r rr =>
   obtain ⟨t,rfl⟩:=(show ∃ t,_=Value.str z t from r)
   obtain ⟨as,h'⟩:=reads_strs h rr
   exact ⟨_,.cons (.str z t) h'⟩
theorem reads_lstX (I:Inv X pins σ H s) {a:Addr} {zs:List Str} (hq:SqL X.K H a (zs.map V.str)):∃ as,Reads s.heap (.ref a) (.list (zs.map PyData.str)) as:=by
 obtain ⟨its,rv,⟨o,n,e,hc,_, hd⟩, hz⟩:=I.list hq
 obtain ⟨as,h⟩:=reads_strs s.heap rv
 exact ⟨_,.list e hc hd (by simpa using h)⟩
theorem eqv_strs:∀ zs:List Str,PyData.eqvAll (zs.map PyData.str) (zs.map PyData.str)=true
 | []=>rfl
 | z::zs=>by
  show ((z==z)&&PyData.eqvAll (zs.map PyData.str) (zs.map PyData.str))=true
  rw [eqv_strs zs];simp
theorem dep_strs:∀ zs:List Str,PyData.depthAll (zs.map PyData.str)=0
 | []=>rfl
 | z::zs=>by
  show max 0 (PyData.depthAll (zs.map PyData.str))=0
  rw [dep_strs zs];rfl
theorem sh_strs {zs:List Str} (h:∀ z∈zs,PyData.strOk z=true):SeqAt.shaped (.list (zs.map PyData.str))=true:=by
 unfold SeqAt.shaped
 rw [Xv]
 refine ⟨?_,decide_eq_true ?_⟩
 ·show PyData.canLayAll0 (zs.map .str)=true
  rw [canLayAll_strs',List.all_eq_true];exact h
 ·show PyData.depthAll (zs.map PyData.str)+1≤64
  rw [dep_strs];decide
def rEqX (K:PySem.W.Frag) (b:Bool):R2:=fun x y H Q=>∃ (a a':Addr) (zs:List Str),x=.ref a∧y=.ref a'∧SqL K H a (zs.map V.str)∧SqL K H a' (zs.map V.str)∧(∀ z∈zs,PyData.strOk z=true)∧Q (.bl b) H
theorem op_eqX (hu:X.A.units+64<cLine):OpR X (compareOp .Eq) (rEqX X.K true):=by
 intro pins s σ H x y v u Q I rx ry h
 obtain ⟨a,b,zs,rfl,rfl,ha,hb,ok, q⟩:=h
 cases (show v=Value.ref a from rx)
 cases (show u=Value.ref b from ry)
 obtain ⟨as,r1⟩:=reads_lstX I ha
 obtain ⟨bs,r2⟩:=reads_lstX I hb
 have e:PyData.eqv (.list (zs.map PyData.str)) (.list (zs.map PyData.str))=true:=eqv_strs zs
 exact eq_dataH r1 r2 (sh_strs ok) (sh_strs ok) hu ⟨.bl _,H,I,rfl, by rw [e];exact q⟩
theorem op_neX (hu:X.A.units+64<cLine):OpR X (compareOp .NotEq) (rEqX X.K false):=by
 intro pins s σ H x y v u Q I rx ry h
 obtain ⟨a,b,zs,rfl,rfl,ha,hb,ok, q⟩:=h
 cases (show v=Value.ref a from rx)
 cases (show u=Value.ref b from ry)
 obtain ⟨as,r1⟩:=reads_lstX I ha
 obtain ⟨bs,r2⟩:=reads_lstX I hb
 have e:PyData.eqv (.list (zs.map PyData.str)) (.list (zs.map PyData.str))=true:=eqv_strs zs
 exact ne_dataH r1 r2 (sh_strs ok) (sh_strs ok) hu ⟨.bl _,H,I,rfl, by rw [e];exact q⟩
end
end L2
namespace PC
open L2 GR
def Lo (f:Fld):Prop:=∀ x,f x<1000
theorem Lo.put {f:Fld} (h:Lo f) (y:Int×Int) {s:Nat} (hs:s<1000):Lo (put f y s):=fun x=>by
 show (if x=y then s else f x)<1000
 split
 ·exact hs
 ·exact h x
theorem Lo.seg {f:Fld} (h:Lo f) (a b:Int×Int):Lo (seg f a b):=fun x=>by
 show (if Sg a b x then sgn a b else f x)<1000
 split
 ·unfold sgn;split<;>decide
 ·exact h x
theorem Lo.lnF {c:Pt→Int×Int} {l:List Pt} {f:Fld} (h:Lo f):∀ n,Lo (lnF c l f n)
 | 0=>h
 | n+1=>(Lo.lnF h n).seg _ _
theorem Lo.plF {c:Pt→Int×Int} {l:List Pt} {f:Fld} (h:Lo f):∀ n,Lo (plF c l f n)
 | 0=>h
 | n+1=>(Lo.plF h n).put _ (by decide)
theorem Lo.prF {c:Pt→Int×Int} {ll:List (List Pt)} {f:Fld} (h:Lo f):∀ n,Lo (prF c ll f n)
 | 0=>h
 | n+1=>((Lo.prF h n).lnF _).plF _
theorem Lo.spF {c:Pt→Int×Int} {sp:List Pt} {f:Fld} (h:Lo f):∀ n,n≤100→Lo (spF c sp f n)
 | 0,_=>h
 | n+1,hn=>(Lo.spF h n (by omega)).put _ (by omega)
theorem Lo.picF {L T:Int} {sp:List Pt} {ll:List (List Pt)} (h:sp.length≤10):Lo (picF L T sp ll):=Lo.spF (Lo.prF (fun _=>by decide) _) _ (by omega)
end PC
namespace L2
open PySem PySem.Spec PyProof.Rows GR PC TX
theorem ps_tryE {X:Cx} {st:Stmt} {tt:L2.St→Hp→TS} (h:∀ σ H,PS X st (tt σ H)):PS X st (fun D σ H=>tt σ H D σ H):=fun pins s σ H D I h'=>h σ H pins s σ H D I h'
theorem ok_sub {x:Str} (h:PyData.strOk x=true) (i j:Nat):PyData.strOk ⟨x.cps.extract i j⟩=true:=by
 unfold PyData.strOk at h ⊢
 rw [Array.all_eq_true] at h ⊢
 intro k hk
 simp at hk ⊢
 have:=h (i+k) (by omega)
 simpa using this
theorem ok_rw {f:Fld} (h:Lo f) (r:Int) (n:Nat):PyData.strOk (Txt.rstripChars (sT ((List.range n).map fun c:Nat=>f (r,(c:Int)))) (sT [32]))=true:=by
 have h0:PyData.strOk (sT ((List.range n).map fun c:Nat=>f (r,(c:Int))))=true:=by
  unfold PyData.strOk
  rw [←Array.all_toList,sT_list,List.all_eq_true]
  intro x hx
  obtain ⟨c,_,rfl⟩:=Zh.mp hx
  have:=h (r,(c:Int))
  exact decide_eq_true (by omega)
 unfold Txt.rstripChars Txt.stripBy
 split
 ·exact h0
 ·exact ok_sub h0 _ _
def dDr (sp:List Pt) (ll:List (List Pt)):PyData:=.tuple [.list (sp.map dP),.list (ll.map fun l=>.list (l.map dP))]
theorem eqv_ll:∀ ll:List (List Pt),PyData.eqvAll (ll.map fun l=>.list (l.map dP)) (ll.map fun l=>.list (l.map dP))=true
 | []=>rfl
 | l::ll=>by
  show (PyData.eqv (.list (l.map dP)) (.list (l.map dP))&&PyData.eqvAll (ll.map fun l=>.list (l.map dP)) (ll.map fun l=>.list (l.map dP)))=true
  rw [eqv_ll ll,eqv_ptl];simp
theorem eqv_dr (sp:List Pt) (ll:List (List Pt)):PyData.eqv (dDr sp ll) (dDr sp ll)=true:=by
 show (PyData.eqv (.list (sp.map dP)) (.list (sp.map dP))&&(PyData.eqvAll (ll.map fun l=>.list (l.map dP)) (ll.map fun l=>.list (l.map dP))&&true))=true
 rw [eqv_ll,eqv_ptl];simp
theorem pt_lay (a:List Pt):PyData.canLayAll0 (a.map dP)=true∧PyData.depthAll (a.map dP)≤4:=lay_all 4 fun d hd=>by
 obtain ⟨z,_, rfl⟩:=Zh.mp hd
 exact ⟨rfl,by simp [dP,PyData.depth,PyData.depthAll]⟩
theorem ll_lay (ll:List (List Pt)):PyData.canLayAll0 (ll.map fun l=>PyData.list (l.map dP))=true∧PyData.depthAll (ll.map fun l=>PyData.list (l.map dP))≤5:=lay_all 5 fun d hd=>by
 obtain ⟨z,_, rfl⟩:=Zh.mp hd
 exact ⟨(pt_lay z).1,Nat.succ_le_succ (pt_lay z).2⟩
theorem sh_dr (sp:List Pt) (ll:List (List Pt)):SeqAt.shaped (dDr sp ll)=true:=by
 obtain ⟨a1,a2⟩:=pt_lay sp
 obtain ⟨b1,b2⟩:=ll_lay ll
 unfold SeqAt.shaped
 rw [Xv]
 refine ⟨?_,decide_eq_true ?_⟩
 ·show (PyData.canLayAll0 (sp.map dP)&&(PyData.canLayAll0 (ll.map fun l=>PyData.list (l.map dP))&&true))=true
  rw [a1,b1];rfl
 ·show max (PyData.depthAll (sp.map dP)+1) (max (PyData.depthAll (ll.map fun l=>PyData.list (l.map dP))+1) 0)+1≤64
  omega
end L2
namespace K76
open PySem L2 PyProof.Rows TX GR PC
variable {P:Program} {w:World} {K:PySem.W.Frag} {mg:Str→Option Value} {base:Heap} {t:Adr}
def spKind (C:Addr) (m:String):Sp:=fun vs H Q _=>∃ x:Addr,vs=[.ref x]∧H x=some (excO C x)∧∀ H',Same H H'→Q (.str (Str.ofString m)) H'
theorem ok_kind (T:Txt K mg t):FnOk P w K mg base CX0 1 t.a_l_kind t.d_l_kind ["_law_kept"] (spKind t.c_NoPicture "picture"):=by
 refine T.F_l_kind.ok sc_l_kind (fun vs H Q E h=>?_) (fun cdv A outer s H vs Q E hr h=>?_)
 ·obtain ⟨x,rfl,_⟩:=h;rfl
 obtain ⟨x,rfl,hx,q⟩:=h
 have nd:=sc_l_kind.nd
 refine (xWP _ (pss_cons (ps_if (pt_cmpR op_isN (pv 0) pe_non (nomark _)) (pss_one (ps_ret pe_str)) pss_nil)
  (pss_cons (ps_set (i:=1) nd rfl (Or.inl rfl) (pe_lst (pa_cons (pe_callB call_isiX rfl T.z_isinstance boot_isinstance (pa_cons (pv 0) (pa_cons (pe_glob (v:=.ref t.c_NoText) rfl T.m_NoText rfl) pa_nil))) (pa_cons (pe_callB call_isiX rfl T.z_isinstance boot_isinstance (pa_cons (pv 0) (pa_cons (pe_glob (v:=.ref t.c_NoMap) rfl T.m_NoMap rfl) pa_nil))) (pa_cons (pe_callB call_isiX rfl T.z_isinstance boot_isinstance (pa_cons (pv 0) (pa_cons (pe_glob (v:=.ref t.c_NoPicture) rfl T.m_NoPicture rfl) pa_nil))) (pa_cons (pe_callB call_isiX rfl T.z_isinstance boot_isinstance (pa_cons (pv 0) (pa_cons (pe_glob (v:=.ref t.c_NoLaid) rfl T.m_NoLaid rfl) pa_nil))) pa_nil))))))
  (pss_cons (ps_if (PW.pt (pw_or (pt_truth (pe_callB call_isiXs rfl T.z_isinstance boot_isinstance (pa_cons (pv 0) (pa_cons (pe_tup (pa_cons (pe_glob (v:=.ref t.c_NotFlat) rfl T.m_NotFlat rfl) (pa_cons (pe_glob (v:=.ref t.c_NoLand) rfl T.m_NoLand rfl) (pa_cons (pe_glob (v:=.ref t.c_NoNet) rfl T.m_NoNet rfl) (pa_cons (pe_glob (v:=.ref t.c_NoShape) rfl T.m_NoShape rfl) (pa_cons (pe_glob (v:=.ref t.c_NoRow) rfl T.m_NoRow rfl) (pa_cons (pe_glob (v:=.ref t.c_NoThing) rfl T.m_NoThing rfl) pa_nil))))))) pa_nil))) (fun _=>rfl)) (pw_or1 (pt_not (pt_truth (pe_callB call_isiX rfl T.z_isinstance boot_isinstance (pa_cons (pv 0) (pa_cons (pe_bltn (v:=.ty "ValueError") rfl T.z_ValueError PyProof.Rows.Boot.«ValueError» rfl) pa_nil))) (fun _=>rfl)))))) (pss_one (ps_ret pe_str)) pss_nil)
  (pss_cons (ps_if (pt_cmpR op_ne (pe_bm PySem.F.plainAttrs_list PySem.F.slot_list_count PySem.F.type_list_count mt_countV (pv 1) (pa_cons pe_bl pa_nil)) pe_int (nomark _)) (pss_one (ps_ret pe_str)) pss_nil)
  (pss_one (ps_ret (pe_ix ix_list (pe_lst (pa_cons pe_str (pa_cons pe_str (pa_cons pe_str (pa_cons pe_str pa_nil))))) (pe_bm PySem.F.plainAttrs_list PySem.F.slot_list_index PySem.F.type_list_index mt_indexV (pv 1) (pa_cons pe_bl pa_nil)) (fun _ _=>rfl)))))))) ?_)
 refine (xWPPWP _ rfl rfl _ rfl (iteF ?_))
 refine (xWPWWWWWP _ rfl x t.c_NoPicture _ _ false rfl (xPPPP (.inl (xWP _ rfl rfl)) hx T.x_K ((T.x_NoText).one) ?_))
 refine (xWPWWWWWP _ rfl x t.c_NoPicture _ _ false rfl (xPPPP (.inl (xWP _ rfl rfl)) hx T.x_K ((T.x_NoMap).one) ?_))
 refine (xWPWWWWWP _ rfl x t.c_NoPicture _ _ true rfl (xPPPP (.inl (xWP _ rfl rfl)) hx T.x_K kit_self ?_))
 refine (xWPWWWWWP _ rfl x t.c_NoPicture _ _ false rfl (xPPPP (.inl (xWP _ rfl rfl)) hx T.x_K ((T.x_NoLaid).one) ?_))
 refine ⟨(by show 4≤sizeLine;decide),fun l hl=>?_⟩
 have g1:=same_new hl (.lst [.bl false,.bl false,.bl true,.bl false])
 refine (xWPP _ rfl (by show 6≤sizeLine;decide) (fun tp htp=>?_))
 have g2:=g1.trans (same_new htp (.tup ([t.c_NotFlat,t.c_NoLand,t.c_NoNet,t.c_NoShape,t.c_NoRow,t.c_NoThing].map V.ref)))
 refine (xWWWWWPPP x t.c_NoPicture tp ([t.c_NotFlat,t.c_NoLand,t.c_NoNet,t.c_NoShape,t.c_NoRow,t.c_NoThing]) false rfl (g2 _ _ hx) upd_same (xPPWP T.x_K (kitAny_none ?_) _ rfl (iteF ?_)))
 ·simp only [Zn,List.not_mem_nil,or_false]
  rintro D (rfl | rfl | rfl | rfl | rfl | rfl)
  ·exact T.x_NotFlat
  ·exact T.x_NoLand
  ·exact T.x_NoNet
  ·exact T.x_NoShape
  ·exact T.x_NoRow
  ·exact T.x_NoThing
 refine (xWPWWWWWP _ rfl x t.c_NoPicture _ _ true rfl (xPPPPWP (.inr (xWP _ rfl rfl)) (g2 _ _ hx) T.x_K (kit_ve T.x_ve) _ rfl (iteF ?_)))
 have el:(upd (upd H l (.lst [.bl false,.bl false,.bl true,.bl false])) tp (.tup ([t.c_NotFlat,t.c_NoLand,t.c_NoNet,t.c_NoShape,t.c_NoRow,t.c_NoThing].map V.ref))) l=some (.lst [.bl false,.bl false,.bl true,.bl false]):=(same_new htp _) _ _ upd_same
 refine (xWPPWWWPP _ rfl (.inl ⟨rfl,_, SqL.of el⟩) l _ _ rfl rfl (xPPPPWP el rfl rfl rfl _ rfl (iteFb (by decide) ?_)))
 refine ⟨(by show 4≤sizeLine;decide),fun p hp=>?_⟩
 have g3:=g2.trans (same_new hp (.lst [.str (Str.ofString "text"),.str (Str.ofString "map"),.str (Str.ofString "picture"),.str (Str.ofString "laid")]))
 refine (xWPPWWWWP _ rfl (.inl ⟨rfl,_, SqL.of ((same_new hp _) _ _ el)⟩) l _ _ 2 rfl (xPPPPPP rfl ((same_new hp _) _ _ el) rfl rfl (xWP _ rfl rfl) ?_ (xWWWWPPPP p _ _ (.str (Str.ofString "picture")) rfl rfl (SqL.of upd_same) rfl (q _ g3))))
 intro m y hm hy
 match m,hm,hy with
 | 0,_,hy=>cases hy;rfl
 | 1,_,hy=>cases hy;rfl
theorem DrB.bd {H:Hp} {d:Addr} {sp:List Pt} {ll:List (List Pt)} (h:DrB H d sp ll):Bd K H (.ref d) (dDr sp ll):=by
 obtain ⟨pa,la,h1,h2,lr,l1,l2,_, l4⟩:=h
 refine .tup (SqT.of h1) (.cons h2.bd (.cons (.lst (SqL.of l1) (bds_by lr ll l2 fun i l e=>?_)) .nil))
 obtain ⟨x,x1, x2⟩:=l4 i l e
 exact ⟨x,x1, x2.bd⟩
def spGood:Sp:=fun vs H Q _=>∃ (d:Addr) (sp:List Pt) (ll:List (List Pt)),vs=[.ref d]∧DrB H d sp ll∧GD (-20) 100 sp ll∧∀ H',Same H H'→Q (.bl true) H'
abbrev sG (d hd:Addr) (v2 v3 v4 v5 v6 v7 v8 v9 v10 v11:Option V):L2.St:=[some (.ref d),some (.ref hd),v2,v3,v4,v5,v6,v7,v8,v9,v10,v11]
theorem ok_good (T:Txt K mg t):FnOk P w K mg base CX0 3 t.a_l_good t.d_l_good ["_law_drawing"] spGood:=by
 have G_l_between:=ok_bt (P:=P) (w:=w) (base:=base) T
 have G_l_rows:=ok_rows (P:=P) (w:=w) (base:=base) T
 have G_l_kind:=ok_kind (P:=P) (w:=w) (base:=base) T
 have G_picture:=ok_pic (P:=P) (w:=w) (base:=base) T
 refine T.F_l_good.ok sc_l_good (fun vs H Q E h=>?_) (fun cdv A outer s H vs Q E hr h=>?_)
 ·obtain ⟨d,sp,ll,rfl,_⟩:=h;rfl
 obtain ⟨d,sp,ll,rfl,hDr,hG,q⟩:=h
 obtain ⟨pa,la,d1,hP,hL⟩:=id hDr
 have nd:=sc_l_good.nd
 have nd_l_line_here:(["_law_line_here"]:List Str).Nodup:=by decide
 refine (xWP _ (pss_cons (ps_set (i:=1) nd rfl (Or.inl rfl) (pe_tup (pa_cons (pe_callTy call_list_of rfl T.z_list boot_list (pa_cons (pe_ix ix_tup (pv 0) pe_int (fun _ _=>rfl)) pa_nil)) (pa_cons (pe_comp (N':=["_law_line_here"]) (js:=[none]) rfl (pi_list (pe_ix ix_tup (pv 0) pe_int (fun _ _=>rfl))) (fun _ _ _ _ _=>(pg_name (i:=0) nd_l_line_here rfl (Or.inl rfl))) (fun _ _ _ _ _=>pf_nil) (fun _ _ _ _ _=>(pe_callTy (kcall_list (K:=K) rfl) rfl T.z_list boot_list (pa_cons (pv 0) pa_nil)))) pa_nil))))
  (pss_cons (ps_set (i:=2) nd rfl (Or.inl rfl) (pe_callTy call_list_of rfl T.z_list boot_list (pa_cons (pe_ix ix_tup (pv 0) pe_int (fun _ _=>rfl)) pa_nil)))
  (pss_cons (ps_for PassesOwn.never rfl (pi_list (pe_ix ix_tup (pv 0) pe_int (fun _ _=>rfl))) (pg_name (i:=3) nd rfl (Or.inl rfl)) (pss_one (ps_set (i:=2) nd rfl (Or.inl rfl) (pe_op op_cat (pv 2) (pv 3)))))
  (pss_cons (ps_asg (pe_call G_l_between (hr.mono (by decide)) rfl T.m_l_between T.k_l_between T.b_l_between .nil pass0 (pa_cons (pv 2) pa_nil)) (pg_tup rfl (pgs_cons (pg_name (i:=4) nd rfl (Or.inl rfl)) (pgs_cons (pg_name (i:=5) nd rfl (Or.inl rfl)) (pgs_cons (pg_name (i:=6) nd rfl (Or.inl rfl)) (pgs_cons (pg_name (i:=7) nd rfl (Or.inl rfl)) pgs_nil))))))
  (pss_cons (ps_set (i:=8) nd rfl (Or.inl rfl) pe_non)
  (pss_cons (ps_set (i:=9) nd rfl (Or.inl rfl) pe_non)
  (pss_cons (ps_tryE fun σ0 H0=>ps_tryAt (i:=10) (E:=fun _ _ H2=>Same H0 H2∧∀ L R B U,Bx (sp++ll.flatten) L R B U→(60<R-L∨60<U-B)) rfl rfl rfl rfl T.m_BendError rfl T.x_up.exm nd rfl rfl (fun pn xe σ hx=>(pss_call (i:=9) G_picture (hr.mono (by decide)) rfl T.m_picture T.k_picture T.b_picture hx (pa_cons (pv 1) pa_nil) nd rfl rfl)) (fun pn xe e=>(pss_one (ps_set (i:=8) nd rfl (Or.inl rfl) (pv 10)))))
  (pss_cons (ps_if (pt_cmpR (op_neD hr.units) (pv 1) (pv 0) (nomark _)) (pss_one (ps_ret pe_bl)) pss_nil)
  (pss_cons (ps_if (PW.pt (pw_or (pt_cmpR op_gt (pe_op op_sub (pv 5) (pv 4)) pe_int (nomark _)) (pw_or1 (pt_cmpR op_gt (pe_op op_sub (pv 7) (pv 6)) pe_int (nomark _))))) (pss_one (ps_ret (pe_cmpR op_eq (pe_call G_l_kind (hr.mono (by decide)) rfl T.m_l_kind T.k_l_kind T.b_l_kind .nil pass0 (pa_cons (pv 8) pa_nil)) pe_str (nomark _)))) pss_nil)
  (pss_cons (ps_set (i:=11) nd rfl (Or.inl rfl) (pe_call G_l_rows (hr.mono (by decide)) rfl T.m_l_rows T.k_l_rows T.b_l_rows .nil pass0 (pa_cons (pv 0) pa_nil)))
  (pss_cons (ps_if (PW.pt (pw_or (pt_cmpR op_notN (pv 8) pe_non (nomark _)) (pw_or (pt_not (pt_truth (pe_callB call_isi rfl T.z_isinstance boot_isinstance (pa_cons (pv 9) (pa_cons (pe_bltn (v:=.ty "list") rfl T.z_list boot_list rfl) pa_nil))) (fun _=>rfl))) (pw_or1 (pt_cmpR (op_neX hr.units) (pv 9) (pv 11) (nomark _)))))) (pss_one (ps_ret pe_bl)) pss_nil)
  (pss_cons (ps_expr (pe_bm0 PySem.F.plainAttrs_list PySem.F.slot_list_clear PySem.F.type_list_clear mt_clear (pv 9)))
  (pss_one (ps_ret (pe_cmpR (op_eqX hr.units) (pe_call G_picture (hr.mono (by decide)) rfl T.m_picture T.k_picture T.b_picture .nil passF (pa_cons (pv 1) pa_nil)) (pv 11) (nomark _)))))))))))))))) ?_)
 obtain ⟨pr,p1,pP⟩:=id hP.pr
 obtain ⟨lr,l1,l2,l3,l4⟩:=id hL
 have s10:=hG.s10
 have s1:=hG.s1
 have l20:=hG.l20
 have fl:∀ i,(ll.take i).flatten.length≤720:=fun i=>Yr (flat_le fun l hl=>(hG.len l (List.mem_of_mem_take hl)).2) (by rw [Yw];omega)
 refine (xWPWWWWPP _ rfl d _ 0 _ rfl rfl (xPPWWPP (SqT.of d1) rfl pa _ rfl (.inl (SqL.of p1)) (fun HP hHP=>?_)))
 have k1:=same_new hHP (.lst (pr.map V.ref))
 refine (xWPWWWWPP _ rfl d _ 1 _ rfl rfl (xPPWPP (SqT.of (k1 _ _ d1)) rfl la rfl ⟨_,SqL.of (k1 _ _ l1)⟩ (fun HL hHL=>?_)))
 have lgD:∀ i (hi:i<ll.length),ll.getD i []=ll[i]:=fun i hi=>by rw [Zv,GR.get_of hi];rfl
 refine comp_objsH ll.length (fun i H' a=>TsI H' a (ll.getD i [])) (fun i H H' a g h=>h.same g) (fun i H ys o a h ne h'=>h'.other' h ne o) hHL (by omega) (fun i H' hi g=>(xWWP _ (.ref (lr[i]'(by omega))) (SqL.of (g _ _ (k1 _ _ l1))) (by rw [Zk,GR.get_of (by omega)];rfl))) (fun H' g=>(xWP _ (SqL.of (g _ _ (k1 _ _ l1))) (by rw [Zq,l2];exact Nat.le_refl _))) ?_ ?_
 ·rintro i H' x H'' k hi g ⟨rfl,hx⟩ hk
  have hx:=hx _ (SqL.of (g _ _ (k1 _ _ l1)))
  obtain ⟨lx,x1,x2⟩:=l4 i _ (GR.get_of hi)
  rw [Zk,x1] at hx
  cases hx
  obtain ⟨tx,y1,y2⟩:=(x2.same (k1.trans g)).pr
  exact (xPWPWWPP ((Fills.refl _).set _ rfl) _ rfl lx _ rfl (.inl (SqL.of y1)) (fun r hr=>hk r _ (by rw [lgD i hi];exact (y2.same (same_new hr _)).ts upd_same) hr (same_new hr _)))
 intro rr H1 rl rn rt g1 e1
 refine ⟨(by show 2≤sizeLine;decide),fun hd hhd=>?_⟩
 have k2:=same_new hhd (.tup [.ref HP,.ref HL])
 have g2:=k1.trans (g1.trans k2)
 have hH:DrB (upd H1 hd (.tup [.ref HP,.ref HL])) hd sp ll:=(xWWPPWPPP HP HL upd_same (((pP.same k1).ts upd_same).same (g1.trans k2)) rr (k2 _ _ e1) rl (fun z=>(rn _ z).2 rfl) (fun i r e=>by
  have hi:i<ll.length:=(Zj.mp e).1
  refine (xWP _ (GR.get_of (show i<rr.length by omega)) ?_)
  have:=(rt i _ (GR.get_of (show i<rr.length by omega))).same k2
  rw [lgD i hi,Option.some.inj ((GR.get_of hi).symm.trans e)] at this
  exact this))
 generalize upd H1 hd (.tup [.ref HP,.ref HL])=H2 at g2 hH
 clear rt e1 k2 g1 k1 hHL hHP hhd rn
 dsimp only [gName]
 refine (xWPWWWWPP _ rfl d _ 0 _ rfl rfl (xPPWWPP (SqT.of (g2 _ _ d1)) rfl pa _ rfl (.inl (SqL.of (g2 _ _ p1))) (fun D0 hD0=>?_)))
 have k1:=same_new hD0 (.lst (pr.map V.ref))
 dsimp only [gName]
 refine viaN (fun σ' H'=>∃ D v3,σ'=sG d hd (some (.ref D)) v3 none none none none none none none none∧Same H2 H'∧TsI H' D (sp++ll.flatten)) (fun N n1=>?_) ?_
 ·let Pv1:Nat→L2.St→L2.Hp→Prop:=fun i σ' H'=>∃ D v3,σ'=sG d hd (some (.ref D)) v3 none none none none none none none none∧Same H2 H'∧TsI H' D (sp++(ll.take i).flatten)
  refine (xWPWWWWPP _ rfl d _ 1 _ rfl rfl (xPPWPP (SqT.of (k1 _ _ (g2 _ _ d1))) rfl la rfl ⟨_,SqL.of (k1 _ _ (g2 _ _ l1))⟩ (for_list (xs:=lr.map V.ref) Pv1 (xWWPP D0 _ rfl k1 (((pP.same g2).same k1).ts upd_same |> fun h=>by simpa using h)) (fun _ _ _ _ ⟨_,_,_,g,_⟩=>SqL.of (g _ _ (g2 _ _ l1))) ?_ ?_)))
  ·rintro i x σ H3 hx ⟨D,v3,rfl,g3, hD2⟩
   have hi:i<ll.length:=by have:=(Zj.mp hx).1;rw [Zq,l2] at this;exact this
   obtain ⟨lx,x1,x2⟩:=l4 i _ (GR.get_of hi)
   rw [Zk,x1] at hx
   cases hx
   obtain ⟨tr,e2,r2⟩:=hD2.pr
   obtain ⟨tx,y1,y2⟩:=(x2.same (g2.trans g3)).pr
   have fi:=fl i
   have li:=(hG.len _ (Zp hi)).2
   have rl:=r2.len
   have yl:=y2.len
   rw [Zm] at rl
   refine (xWPWP _ rfl _ rfl (xWWWWPPPP D lx _ _ rfl rfl e2 y1 ⟨Yr (by rw [Zq,Zq];omega) mil, fun D' hD'=>(xWWPP D' _ rfl (g3.trans (same_new hD' _)) ?_)⟩))
   rw [take_flat hi,←Yb]
   exact ((PtR.app y2 r2).same (same_new hD' _)).ts (by rw [upd_same,Zt])
  ·rintro σ H3 ⟨D,v3,h3,g3, hD2⟩
   rw [Zq,l2,Yv] at hD2
   exact n1 _ _ (xWWPP D v3 h3 g3 hD2)
 rintro σ1 H3 ⟨D,v3,rfl,g3, hD1⟩
 have psl:(sp++ll.flatten).length≤730:=by have:=fl ll.length;rw [Yv] at this;rw [Zm];omega
 have ps1:1≤(sp++ll.flatten).length:=by rw [Zm];omega
 refine (xWPWWPPPP _ rfl D _ rfl hD1 ps1 (by omega) (fun L R B U rb H4 bx g4 hrb=>(xWWPPPWWP rb _ rfl (SqT.of hrb) rfl _ _ rfl (xWWPWWP _ _ rfl _ _ rfl (xWWPP _ _ rfl rfl ?_)))))
 have g24:=g3.trans g4
 have g04:=g2.trans g24
 dsimp only [gName]
 refine ⟨?_,?_⟩
 ·refine (xWP _ rfl (xWWWWWWWP hd sp ll L R B U rfl (xPPPP (hH.same g24) hG bx (fun big x H5 g5=>⟨g5,fun L' R' B' U' bx'=>?_⟩) (fun w60 h60 r H5 hr5 g5 er=>?_))))
  ·obtain ⟨rfl,rfl,rfl,rfl⟩:=Bx.one bx' bx
   exact big
  have hH5:=hH.same (g24.trans g5)
  have hD5:=hDr.same (g04.trans g5)
  refine (xWPWPWWPP _ rfl _ rfl _ _ hH5.bd hD5.bd (xPPWP (sh_dr _ _) (sh_dr _ _) _ rfl (iteFb (by rw [eqv_dr];rfl) ?_)))
  refine (xWPWPWWPP _ rfl _ rfl _ _ rfl rfl (xWWPPWP _ _ rfl rfl _ rfl (iteFb (decide_eq_false (by omega)) (xWPWPWWPP _ rfl _ rfl _ _ rfl rfl (xWWPPWP _ _ rfl rfl _ rfl (iteFb (decide_eq_false (by omega)) ?_))))))
  refine (xWP _ rfl (xWWWWWWWP d sp ll L R B U rfl (xPPPPP hD5 hG bx w60 h60 (fun r2 H6 hr6 g6 er2=>?_))))
  have ers:=g6 _ _ er
  have nr:r2≠r:=fun z=>by rw [z,er] at hr6;cases hr6
  have okz:∀ z∈(List.range (2*(U-B)+1).toNat).map (fun i:Nat=>Rw (picF L U sp ll) (i:Int) (2*(R-L)+1).toNat),PyData.strOk z=true:=fun z hz=>by
   obtain ⟨i,_,rfl⟩:=Zh.mp hz
   exact ok_rw (Lo.picF s10) _ _
  have erz:rowsP (picF L U sp ll) (U-B) (R-L)=((List.range (2*(U-B)+1).toNat).map (fun i:Nat=>Rw (picF L U sp ll) (i:Int) (2*(R-L)+1).toNat)).map V.str:=by unfold rowsP;rw [Yg];rfl
  rw [erz] at er2 ers
  refine (xWPPWP _ rfl rfl _ rfl (iteFb rfl (xWPWWWPPP _ rfl _ ("list") ("list") rfl ?_ (.inl rfl) (xWP true ?_ (iteFb ?_ (xWPWPWWWP _ rfl _ rfl r r2 _ rfl (xPPPPWP rfl (SqL.of ers) (SqL.of er2) okz _ rfl (iteFb rfl ?_))))))))
  ·exact .inl ⟨rfl,_, ers⟩
  ·show true=isT "list" "list"
   decide
  ·rfl
  have k7:Same H4 (upd H6 r (.lst [])):=(g5.trans g6).fresh hr5 _
  refine (xWPPWWPPP _ rfl (.inl ⟨rfl,_, SqL.of ers⟩) r _ rfl rfl ers ?_)
  refine (xWP _ rfl (xWWWWWWWP hd sp ll L R B U rfl (xPPPP (hH.same (g24.trans k7)) hG bx (fun big=>by omega) (fun _ _ r3 H8 hr8 g8 er3=>?_))))
  have e2:upd H6 r (.lst []) r2=some _:=(upd_ne nr).trans er2
  rw [erz] at er3
  exact (xWPWWWPPP _ rfl r3 r2 _ rfl rfl (SqL.of er3) (xPP (SqL.of (g8 _ _ e2)) okz (q _ (g04.trans (k7.trans g8)))))
 ·rintro x H5 ⟨g5,big⟩ hx
  have big:=big L R B U bx
  have g6:=g5.trans (same_new hx (excO t.c_NoPicture x))
  have hH6:=hH.same (g24.trans g6)
  have hD6:=hDr.same (g04.trans g6)
  refine (xWP _ rfl ?_)
  refine (xWPWPWWPP _ rfl _ rfl _ _ hH6.bd hD6.bd (xPPWP (sh_dr _ _) (sh_dr _ _) _ rfl (iteFb (by rw [eqv_dr];rfl) ?_)))
  refine (xWPWPWWPP _ rfl _ rfl _ _ rfl rfl (xWWPPWP _ _ rfl rfl _ rfl (ite2 (fun c=>iteT ?_) (fun c=>(xWPWPWWPP _ rfl _ rfl _ _ rfl rfl (xWWPPWP _ _ rfl rfl _ rfl (ite2 (fun c2=>?_) (fun c2=>?_))))))))
  ·exact (xWPWPP _ rfl x rfl upd_same (fun H7 g7=>⟨rfl,q _ (g04.trans (g6.trans g7))⟩))
  ·exact (xWPWPP _ rfl x rfl upd_same (fun H7 g7=>⟨rfl,q _ (g04.trans (g6.trans g7))⟩))
  ·have c:¬60<R-L:=fun z=>c (decide_eq_true z)
   have c2:¬60<U-B:=fun z=>c2 (decide_eq_true z)
   omega
theorem ts_neD {H:Hp} {a dl:Addr} {ps:List Pt} {ds:List Addr} (h:TsI H a ps) (h0:1≤ps.length) (hd:H dl=some (.lst (ds.map V.ref))) (hx:∀ x∈ds,∃ u v,H x=some (.tup [.ref u,.ref v])):a≠dl:=fun z=>by
 obtain ⟨tr,t1,t2, t3⟩:=h
 obtain ⟨r,r1, r2⟩:=t3 0 _ (GR.get_of (show 0<ps.length by omega))
 rw [z,hd] at t1
 have e:V.ref r∈ds.map V.ref:=by
  have:=HO.lst.inj (Option.some.inj t1)
  rw [this];exact Zh.mpr ⟨r,Zg r1, rfl⟩
 obtain ⟨r',hr', e'⟩:=Zh.mp e
 cases e'
 obtain ⟨u,v, e⟩:=hx r hr'
 rw [e] at r2;cases r2
theorem DrB.off {H:Hp} {d dl:Addr} {sp:List Pt} {ll:List (List Pt)} {ds:List Addr} {B:Int} (h:DrB H d sp ll) (hG:GD (-20) B sp ll) (hd:H dl=some (.lst (ds.map V.ref))) (hx:∀ x∈ds,∃ u v,H x=some (.tup [.ref u,.ref v])) (o:HO):DrB (upd H dl o) d sp ll:=by
 obtain ⟨pa,la,d1,hP,lr,l1,l2,l3, l4⟩:=h
 have nd:d≠dl:=fun z=>by rw [z,hd] at d1;cases d1
 have nl:la≠dl:=fun z=>by
  obtain ⟨x,x1, ⟨_,x2, _⟩⟩:=l4 0 _ (GR.get_of (show 0<ll.length from hG.l1))
  rw [z,hd] at l1
  have e:V.ref x∈ds.map V.ref:=by
   have:=HO.lst.inj (Option.some.inj l1)
   rw [this];exact Zh.mpr ⟨x,Zg x1, rfl⟩
  obtain ⟨r',hr', e'⟩:=Zh.mp e
  cases e'
  obtain ⟨u,v, e⟩:=hx x hr'
  rw [e] at x2;cases x2
 refine ⟨pa,la,(upd_ne nd).trans d1,hP.other' hd (ts_neD hP hG.s1 hd hx) o,lr,(upd_ne nl).trans l1,l2,l3, fun i r e=>?_⟩
 obtain ⟨x,x1, x2⟩:=l4 i r e
 exact ⟨x,x1, x2.other' hd (ts_neD x2 (by have:=(hG.len r (Zg e)).1;omega) hd hx) o⟩
def spLaw (K:PySem.W.Frag):Sp:=fun vs H Q _=>∃ (a:Addr) (ns:List Int),vs=[.ref a]∧SqL K H a (ns.map V.int)∧ns.length≤63∧∀ H',Q (.bl true) H'
theorem ok_law (T:Txt K mg t):FnOk P w K mg base CX0 lawK t.a_law t.d_law ["_law_script"] (spLaw K):=by
 have G_l_at:=ok_at (P:=P) (w:=w) (base:=base) T
 have G_l_mix:=ok_mix (P:=P) (w:=w) (base:=base) T
 have G_l_built:=ok_built (P:=P) (w:=w) (base:=base) T
 have G_l_put_off:=ok_off (P:=P) (w:=w) (base:=base) T
 have G_l_good:=ok_good (P:=P) (w:=w) (base:=base) T
 refine T.F_law.ok sc_law (fun vs H Q E h=>?_) (fun cdv A outer s H vs Q E hr h=>?_)
 ·obtain ⟨a,ns,rfl,_⟩:=h;rfl
 obtain ⟨a,ns,rfl,hS,_,q⟩:=h
 have nd:=sc_law.nd
 refine (xWP _ (pss_cons (ps_set (i:=1) nd rfl (Or.inl rfl) (pe_lst pa_nil))
  (pss_cons (ps_for PassesOwn.never rfl (pi_list (pe_lst (pa_cons pe_int (pa_cons pe_int pa_nil)))) (pg_name (i:=2) nd rfl (Or.inl rfl)) (pss_cons (ps_set (i:=3) nd rfl (Or.inl rfl) (pe_call G_l_mix (hr.mono (by decide)) rfl T.m_l_mix T.k_l_mix T.b_l_mix .nil pass0 (pa_cons (pe_call G_l_at (hr.mono (by decide)) rfl T.m_l_at T.k_l_at T.b_l_at .nil pass0 (pa_cons (pv 0) (pa_cons (pe_op op_add (pv 2) pe_int) pa_nil))) (pa_cons pe_int pa_nil))))
  (pss_one (ps_expr (pe_bm PySem.F.plainAttrs_list PySem.F.slot_list_append PySem.F.type_list_append mt_append (pv 1) (pa_cons (pe_call G_l_put_off (hr.mono (by decide)) rfl T.m_l_put_off T.k_l_put_off T.b_l_put_off .nil pass0 (pa_cons (pe_ix ix_tup (pe_call G_l_built (hr.mono (by decide)) rfl T.m_l_built T.k_l_built T.b_l_built .nil pass0 (pa_cons (pv 0) (pa_cons (pv 2) (pa_cons pe_int pa_nil)))) pe_int (fun _ _=>rfl)) (pa_cons (pv 3) pa_nil))) pa_nil))))))
  (pss_cons (ps_for PassesOwn.never rfl (pi_list (pe_lst (pa_cons (pe_ix ix_list (pv 1) pe_int (fun _ _=>rfl)) (pa_cons (pe_ix ix_list (pv 1) pe_int (fun _ _=>rfl)) (pa_cons (pe_ix ix_list (pv 1) pe_int (fun _ _=>rfl)) pa_nil))))) (pg_name (i:=4) nd rfl (Or.inl rfl)) (pss_one (ps_if (pt_not (pt_truth (pe_call G_l_good (hr.mono (by decide)) rfl T.m_l_good T.k_l_good T.b_l_good .nil pass0 (pa_cons (pv 4) pa_nil)) (fun _=>rfl))) (pss_one (ps_ret pe_bl)) pss_nil)))
  (pss_one (ps_ret pe_bl))))) ?_)
 refine ⟨(by show 0≤sizeLine;decide),fun dl hdl=>?_⟩
 have k0:=same_new hdl (.lst [])
 dsimp only [gName]
 refine viaN (fun σ' H'=>∃ (ds:List Addr) (v2 v3:Option V),σ'=[some (.ref a),some (.ref dl),v2,v3,none]∧H' dl=some (.lst (ds.map V.ref))∧ds.length=2∧∀ x∈ds,∃ sp ll,DrB H' x sp ll∧GD (-20) 100 sp ll) (fun N n1=>?_) ?_
 ·refine ⟨(by show 2≤sizeLine;decide),fun l0 hl0=>?_⟩
  have k1:=same_new hl0 (.lst [V.int 0,V.int 20])
  have l0d:l0≠dl:=fun z=>by rw [z,upd_same] at hl0;cases hl0
  let Pv1:Nat→L2.St→L2.Hp→Prop:=fun i σ' H'=>∃ (ds:List Addr) (v2 v3:Option V),σ'=[some (.ref a),some (.ref dl),v2,v3,none]∧(Same H H'∧H' l0=some (.lst [V.int 0,V.int 20]))∧H' dl=some (.lst (ds.map V.ref))∧ds.length=i∧∀ x∈ds,∃ sp ll,DrB H' x sp ll∧GD (-20) 100 sp ll
  refine (xWPP l0 rfl ⟨_,SqL.of upd_same⟩ (for_list (xs:=[V.int 0,V.int 20]) Pv1 (xWWWPPPP ([]) _ _ rfl ⟨k0.trans k1,upd_same⟩ (k1 _ _ upd_same) rfl (fun x hx=>by cases hx)) (fun _ _ _ _ ⟨_,_,_,_,⟨_,h⟩,_⟩=>SqL.of h) ?_ ?_))
  ·rintro i x σ H1 hx ⟨ds,v2,v3,rfl,⟨g1,e1⟩,hd1,dn, hds⟩
   obtain ⟨st,rfl,h0, i2⟩:∃ st:Int,x=.int st∧0≤st∧i<2:=by
    match i,hx with
    | 0,hx=>cases hx;exact ⟨0, (xPP rfl (by decide) (by decide))⟩
    | 1,hx=>cases hx;exact ⟨20, (xPP rfl (by decide) (by decide))⟩
   refine (xWPWPWWPP _ rfl _ rfl _ _ rfl rfl (xWWWPPP a ns _ rfl (g1.seq hS) (by omega) (fun c=>(xWWPPP c _ rfl (by decide) (by decide) (fun num _ _=>?_)))))
   dsimp only [gName]
   refine (xWPPWPWP _ rfl (.inl ⟨rfl,_, SqL.of hd1⟩) _ rfl _ rfl (xWWWWPPPP a ns st 1 rfl (g1.seq hS) h0 rfl (fun r wa da sp ll H2 g2 e2 hB hG=>?_)))
   refine (xWWWWPPPP r _ 1 (.ref da) rfl rfl (SqT.of e2) rfl (xWPWWWWPP _ rfl da num sp ll rfl hB ⟨hG, fun d' sp' ll' H3 g3 hB' hG'=>?_⟩))
   have g13:=g2.trans g3
   have hd3:=g13 _ _ hd1
   have hx3:∀ x∈ds,∃ u v,H3 x=some (.tup [.ref u,.ref v]):=fun x hx=>by
    obtain ⟨_,_,⟨u,v,e,_⟩,_⟩:=hds x hx
    exact (xWW u v (g13 _ _ e))
   refine (xWWWPPPP dl _ _ rfl rfl hd3 (Ys (by rw [Zq];omega:_≤100) (by decide)) (xWWWPPPP (ds++[d']) _ _ rfl ⟨(g1.trans g13).fresh hdl _,(upd_ne l0d).trans (g13 _ _ e1)⟩ (by rw [upd_same,Zt];rfl) (by rw [Zm,dn];rfl) (fun x hx=>?_)))
   rcases Zf.mp hx with z | z
   ·obtain ⟨s',l',h1,h2⟩:=hds x z
    exact (xWWP s' l' ((h1.same g13).off h2 hd3 hx3 _) h2)
   ·cases Zb.mp z
    exact (xWWP sp' ll' (hB'.off hG' hd3 hx3 _) hG')
  ·rintro σ H1 ⟨ds,v2,v3,rfl,_,hd1,dn, hds⟩
   exact n1 _ _ (xWWWPPP ds v2 v3 rfl hd1 dn hds)
 rintro σ1 H1 ⟨ds,v2,v3,rfl,hd1,dn, hds⟩
 obtain ⟨d0,d1, rfl⟩:∃ d0 d1,ds=[d0,d1]:=by
  match ds,dn with
  | [d0,d1],_=>exact ⟨d0,d1, rfl⟩
 refine (xWPWWWWPP _ rfl dl _ 0 (.ref d0) rfl rfl (xPPWP (SqL.of hd1) rfl _ rfl (xWWWWPPPP dl _ 1 (.ref d1) rfl rfl (SqL.of hd1) rfl (xWPWWWWPP _ rfl dl _ 0 (.ref d0) rfl rfl (xPPP (SqL.of hd1) rfl (by show 3≤sizeLine;decide) (fun l hl=>?_))))))
 have k4:=same_new hl (.lst [.ref d0,.ref d1,.ref d0])
 let Pv2:Nat→L2.St→L2.Hp→Prop:=fun i σ' H'=>(∃ v4,σ'=[some (.ref a),some (.ref dl),v2,v3,v4])∧Same (upd H1 l (.lst [.ref d0,.ref d1,.ref d0])) H'
 refine (xWPP l rfl ⟨_,SqL.of upd_same⟩ (for_list (xs:=[.ref d0,.ref d1,.ref d0]) Pv2 ⟨⟨_,rfl⟩,Same.refl _⟩ (fun _ _ _ _ ⟨_,g⟩=>SqL.of (g _ _ upd_same)) ?_ ?_))
 ·rintro i x σ H5 hx ⟨⟨v4,rfl⟩,g5⟩
  obtain ⟨y,rfl, hy⟩:∃ y,x=V.ref y∧y∈[d0,d1]:=by
   match i,hx with
   | 0,hx=>cases hx;exact ⟨_,rfl, Zd ..⟩
   | 1,hx=>cases hx;exact ⟨_,rfl, Zw _ (Zd ..)⟩
   | 2,hx=>cases hx;exact ⟨_,rfl, Zd ..⟩
  obtain ⟨s',l',h1,h2⟩:=hds y hy
  exact (xWPWWWPPP _ rfl y s' l' rfl (h1.same (k4.trans g5)) h2 (fun H6 g6=>(xWP _ rfl (iteFb (by rfl) ⟨⟨_,rfl⟩,g5.trans g6⟩))))
 ·rintro σ H5 _
  exact q _
end K76
def PySem.W.Fast.tw11274242011577503634:Nat:=0
def PySem.W.Fast.tw14892618266060349992:Nat:=0
def PySem.W.Fast.tw13311643582462860523:Nat:=0
def PySem.W.Fast.tw3188486238645284547:Nat:=0
def PySem.W.Fast.tw12985939500909260153:Nat:=0
def PySem.W.Fast.tw1321457319562063330:Nat:=0
def PySem.W.Fast.tw10491520758544173057:Nat:=0
def PySem.W.Fast.tw8227345129109340295:Nat:=0
def PySem.W.Fast.tw471351556496998299:Nat:=0
def PySem.W.Fast.tw4263650466093652995:Nat:=0
def PySem.W.Fast.tw10905010576625609827:Nat:=0
def PySem.W.Fast.tw17258665277181544086:Nat:=0
def PySem.W.Fast.tw11801730085817593820:Nat:=0
def PySem.W.Fast.tw4403087860709124147:Nat:=0
def PySem.W.Fast.tw1615872503637438317:Nat:=0
def PySem.W.Fast.tw8745527616754594839:Nat:=0
def PySem.W.Fast.tw8961319327758208406:Nat:=0
def PySem.W.Fast.tw10376348138957858123:Nat:=0
def PySem.W.Fast.tw12943440216779182465:Nat:=0
def PySem.W.Fast.tw15334663306765643859:Nat:=0
def PySem.W.Fast.tw12686068494512732667:Nat:=0
def PySem.W.Fast.tw4595942640270833070:Nat:=0
def PySem.W.Fast.tw6041699448559452573:Nat:=0
def PySem.W.Fast.tw2764892143711063307:Nat:=0
def PySem.W.Fast.tw5488528012972052438:Nat:=0
def PySem.W.Fast.tw2693873210576903325:Nat:=0
def PySem.W.Fast.tw4621162137272387714:Nat:=0
def PySem.W.Fast.tw17329649009811863090:Nat:=0
def PySem.W.Fast.tw2921062264161820621:Nat:=0
def PySem.W.Fast.tw12340961437946844246:Nat:=0
def PySem.W.Fast.tw10700201762283857307:Nat:=0
def PySem.W.Fast.tw12098347668446183845:Nat:=0
def PySem.W.Fast.tw16864481187751932336:Nat:=0
def PySem.W.Fast.tw1957779258706091292:Nat:=0
def PySem.W.Fast.tw18020798981058992730:Nat:=0
def PySem.W.Fast.tw13677441357734112017:Nat:=0
def PySem.W.Fast.tw2649810444169632936:Nat:=0
def PySem.W.Fast.tw17265635234875758969:Nat:=0
def PySem.W.Fast.tw15418880751888324675:Nat:=0
def PySem.W.Fast.tw17177932206924067836:Nat:=0
def PySem.W.Fast.tw6275682660378015746:Nat:=0
def PySem.W.Fast.tw85181874017408423:Nat:=0
def PySem.W.Fast.tw437568619249519007:Nat:=0
def PySem.W.Fast.tw9415736705268568598:Nat:=0
def PySem.W.Fast.tw14026254140734293600:Nat:=0
def PySem.W.Fast.tw10346171392266441094:Nat:=0
def PySem.W.Fast.tw15469121628380885906:Nat:=0
def PySem.W.Fast.tw16178898379242049760:Nat:=0
def PySem.W.Fast.tw16220056433038722968:Nat:=0
def PySem.W.Fast.tw7283686911754757576:Nat:=0
def PySem.W.Fast.tw6225831190012498939:Nat:=0
def PySem.W.Fast.tw1818310381221313637:Nat:=0
def PySem.W.Fast.tw18219449721954889635:Nat:=0
def PySem.W.Fast.tw1658877704529985046:Nat:=0
def PySem.W.Fast.tw4833770581115655071:Nat:=0
def PySem.W.Fast.tw8298371701117084476:Nat:=0
def PySem.W.Fast.tw6263335248377103826:Nat:=0
def PySem.W.Fast.tw8223465918494354575:Nat:=0
def PySem.W.Fast.tw18253491888382231714:Nat:=0
def PySem.W.Fast.tw9633607233332968756:Nat:=0
def PySem.W.Fast.tw6082404607205745318:Nat:=0
def PySem.W.Fast.tw4525126887148188284:Nat:=0
def PySem.W.Fast.tw4915269214735552906:Nat:=0
def PySem.W.Fast.tw6825561134185139178:Nat:=0
def PySem.W.Fast.tw2742870029905942428:Nat:=0
def PySem.W.Fast.tw10715819093265075940:Nat:=0
def PySem.W.Fast.tw12681655542704209956:Nat:=0
def PySem.W.Fast.tw4457092472009217311:Nat:=0
def PySem.W.Fast.tw17265508673920147117:Nat:=0
def PySem.W.Fast.tw16174417617995833697:Nat:=0
def PySem.W.Fast.tw1990150495291521867:Nat:=0
def PySem.W.Fast.tw954911054742659923:Nat:=0
def PySem.W.Fast.tw10710747766465258912:Nat:=0
def PySem.W.Fast.tw1877900500027947278:Nat:=0
def PySem.W.Fast.tw981497219113692672:Nat:=0
def PySem.W.Fast.tw5578761727277443051:Nat:=0
def PySem.W.Fast.tw1231377135315883013:Nat:=0
def PySem.W.Fast.tw536622728990794512:Nat:=0
def PySem.W.Fast.tw13619074949147950519:Nat:=0
def PySem.W.Fast.tw9148133985499774392:Nat:=0
def PySem.W.Fast.tw15979248050717335426:Nat:=0
def PySem.W.Fast.tw9773207903774360365:Nat:=0
def PySem.W.Fast.tw14568633118979722162:Nat:=0
def PySem.W.Fast.tw11693435766541941536:Nat:=0
def PySem.W.Fast.tw6574897623373587873:Nat:=0
def PySem.W.Fast.tw9058088435964838114:Nat:=0
def PySem.W.Fast.tw5417887634763347661:Nat:=0
namespace L2
open PySem
theorem len0 {p:List Value→Prop} (h:p []):∀ us:List Value,us.length=0→p us
 | [],_=>h
theorem lenS {n:Nat} {p:List Value→Prop} (h:∀ a us,us.length=n→p (a::us)):∀ us:List Value,us.length=n+1→p us
 | a::us,e=>h a us (Nat.succ.inj e)
theorem len1 {p:List Value→Prop} (h:∀ a,p [a]):∀ us:List Value,us.length=1→p us:=lenS fun a=>len0 (h a)
theorem len2 {p:List Value→Prop} (h:∀ a b,p [a,b]):∀ us:List Value,us.length=2→p us:=lenS fun a=>lenS fun b=>len0 (h a b)
theorem len3 {p:List Value→Prop} (h:∀ a b c,p [a,b,c]):∀ us:List Value,us.length=3→p us:=lenS fun a=>lenS fun b=>lenS fun c=>len0 (h a b c)
theorem len4 {p:List Value→Prop} (h:∀ a b c d,p [a,b,c,d]):∀ us:List Value,us.length=4→p us:=lenS fun a=>lenS fun b=>lenS fun c=>lenS fun d=>len0 (h a b c d)
end L2
namespace K76
open PySem L2
theorem all_mk {l:PySem.W.OpenLaw} {w:World} {K:PySem.W.Frag} {h:Heap} {mg:Str→Option Value} {fa f0 f1 f2 f3 f4 f5 f6 f7 f8 f9 f10 f11 f12 f13 f14 f15 f16 f17 f18 f19 f20 f21 f22:Addr} (X:K.In h) (G:h.Ns mainGlobals mg) (hfa:mg "law" = some (.ref fa)) {q_MOST_REACH:Tok} {c_BendError c_NoMap c_NotFlat c_NoLand c_NoNet c_NoShape c_NoLaid c_NoText c_NoPicture c_NoRow c_NoThing:Addr}
  {od0 an0 od1 an1 od2 an2 od3 an3 od4 an4 od5 an5 od6 an6 od7 an7 od8 an8 od9 an9 od10 an10 od11 an11 od12 an12 od13 an13 od14 an14 od15 an15 od16 an16 od17 an17 od18 an18 od19 an19 od20 an20 od21 an21 od22 an22:Option Addr} {sl0 sl1 sl2 sl3 sl4 sl5 sl6 sl7 sl8 sl9 sl10 sl11 sl12 sl13 sl14 sl15 sl16 sl17 sl18 sl19 sl20 sl21 sl22:Array (Option Value)} {oc0 kV0 dc0 pm0 cd0 ct0 oc1 kV1 dc1 pm1 cd1 ct1 oc2 kV2 dc2 pm2 cd2 ct2 oc3 kV3 dc3 pm3 cd3 ct3 oc4 kV4 dc4 pm4 cd4 ct4 oc5 kV5 dc5 pm5 cd5 ct5 oc6 kV6 dc6 pm6 cd6 ct6 oc7 kV7 dc7 pm7 cd7 ct7 oc8 kV8 dc8 pm8 cd8 ct8 oc9 kV9 dc9 pm9 cd9 ct9 oc10 kV10 dc10 pm10 cd10 ct10 oc11 kV11 dc11 pm11 cd11 ct11 oc12 kV12 dc12 pm12 cd12 ct12 oc13 kV13 dc13 pm13 cd13 ct13 oc14 kV14 dc14 pm14 cd14 ct14 oc15 kV15 dc15 pm15 cd15 ct15 oc16 kV16 dc16 pm16 cd16 ct16 oc17 kV17 dc17 pm17 cd17 ct17 oc18 kV18 dc18 pm18 cd18 ct18 oc19 kV19 dc19 pm19 cd19 ct19 oc20 kV20 dc20 pm20 cd20 ct20 oc21 kV21 dc21 pm21 cd21 ct21 oc22 kV22 dc22 pm22 cd22 ct22:Value}
  (a0:PySem.W.nsIn K mainGlobals "picture" = some (some (.ref f0))) (l0:K.lookup f0=some ⟨oc0,od0,.func (PySem.W.fnOf "picture" "picture" (defArgs s_picture) (defBody s_picture) (defScope s_picture) .none kV0 dc0 pm0 an0 cd0 ct0), sl0⟩) (c0:PySem.W.codeIn K cd0 "picture" = true) (k0:PySem.W.keepIn K (.ref f0)=true)
  (a1:PySem.W.nsIn K mainGlobals "cell_of" = some (some (.ref f1))) (l1:K.lookup f1=some ⟨oc1,od1,.func (PySem.W.fnOf "cell_of" "cell_of" (defArgs s_cell_of) (defBody s_cell_of) (defScope s_cell_of) .none kV1 dc1 pm1 an1 cd1 ct1), sl1⟩) (c1:PySem.W.codeIn K cd1 "cell_of" = true) (k1:PySem.W.keepIn K (.ref f1)=true)
  (a2:PySem.W.nsIn K mainGlobals "put_line" = some (some (.ref f2))) (l2:K.lookup f2=some ⟨oc2,od2,.func (PySem.W.fnOf "put_line" "put_line" (defArgs s_put_line) (defBody s_put_line) (defScope s_put_line) .none kV2 dc2 pm2 an2 cd2 ct2), sl2⟩) (c2:PySem.W.codeIn K cd2 "put_line" = true) (k2:PySem.W.keepIn K (.ref f2)=true)
  (a3:PySem.W.nsIn K mainGlobals "show_row" = some (some (.ref f3))) (l3:K.lookup f3=some ⟨oc3,od3,.func (PySem.W.fnOf "show_row" "show_row" (defArgs s_show_row) (defBody s_show_row) (defScope s_show_row) .none kV3 dc3 pm3 an3 cd3 ct3), sl3⟩) (c3:PySem.W.codeIn K cd3 "show_row" = true) (k3:PySem.W.keepIn K (.ref f3)=true)
  (a4:PySem.W.nsIn K mainGlobals "_law_at" = some (some (.ref f4))) (l4:K.lookup f4=some ⟨oc4,od4,.func (PySem.W.fnOf "_law_at" "_law_at" (defArgs s_l_at) (defBody s_l_at) (defScope s_l_at) .none kV4 dc4 pm4 an4 cd4 ct4), sl4⟩) (c4:PySem.W.codeIn K cd4 "_law_at" = true) (k4:PySem.W.keepIn K (.ref f4)=true)
  (a5:PySem.W.nsIn K mainGlobals "_law_mix" = some (some (.ref f5))) (l5:K.lookup f5=some ⟨oc5,od5,.func (PySem.W.fnOf "_law_mix" "_law_mix" (defArgs s_l_mix) (defBody s_l_mix) (defScope s_l_mix) .none kV5 dc5 pm5 an5 cd5 ct5), sl5⟩) (c5:PySem.W.codeIn K cd5 "_law_mix" = true) (k5:PySem.W.keepIn K (.ref f5)=true)
  (a6:PySem.W.nsIn K mainGlobals "_law_steps" = some (some (.ref f6))) (l6:K.lookup f6=some ⟨oc6,od6,.func (PySem.W.fnOf "_law_steps" "_law_steps" (defArgs s_l_steps) (defBody s_l_steps) (defScope s_l_steps) .none kV6 dc6 pm6 an6 cd6 ct6), sl6⟩) (c6:PySem.W.codeIn K cd6 "_law_steps" = true) (k6:PySem.W.keepIn K (.ref f6)=true)
  (a7:PySem.W.nsIn K mainGlobals "_law_together" = some (some (.ref f7))) (l7:K.lookup f7=some ⟨oc7,od7,.func (PySem.W.fnOf "_law_together" "_law_together" (defArgs s_l_together) (defBody s_l_together) (defScope s_l_together) .none kV7 dc7 pm7 an7 cd7 ct7), sl7⟩) (c7:PySem.W.codeIn K cd7 "_law_together" = true) (k7:PySem.W.keepIn K (.ref f7)=true)
  (a8:PySem.W.nsIn K mainGlobals "_law_beside" = some (some (.ref f8))) (l8:K.lookup f8=some ⟨oc8,od8,.func (PySem.W.fnOf "_law_beside" "_law_beside" (defArgs s_l_beside) (defBody s_l_beside) (defScope s_l_beside) .none kV8 dc8 pm8 an8 cd8 ct8), sl8⟩) (c8:PySem.W.codeIn K cd8 "_law_beside" = true) (k8:PySem.W.keepIn K (.ref f8)=true)
  (a9:PySem.W.nsIn K mainGlobals "_law_places" = some (some (.ref f9))) (l9:K.lookup f9=some ⟨oc9,od9,.func (PySem.W.fnOf "_law_places" "_law_places" (defArgs s_l_places) (defBody s_l_places) (defScope s_l_places) .none kV9 dc9 pm9 an9 cd9 ct9), sl9⟩) (c9:PySem.W.codeIn K cd9 "_law_places" = true) (k9:PySem.W.keepIn K (.ref f9)=true)
  (a10:PySem.W.nsIn K mainGlobals "_law_gone" = some (some (.ref f10))) (l10:K.lookup f10=some ⟨oc10,od10,.func (PySem.W.fnOf "_law_gone" "_law_gone" (defArgs s_l_gone) (defBody s_l_gone) (defScope s_l_gone) .none kV10 dc10 pm10 an10 cd10 ct10), sl10⟩) (c10:PySem.W.codeIn K cd10 "_law_gone" = true) (k10:PySem.W.keepIn K (.ref f10)=true)
  (a11:PySem.W.nsIn K mainGlobals "_law_ways" = some (some (.ref f11))) (l11:K.lookup f11=some ⟨oc11,od11,.func (PySem.W.fnOf "_law_ways" "_law_ways" (defArgs s_l_ways) (defBody s_l_ways) (defScope s_l_ways) .none kV11 dc11 pm11 an11 cd11 ct11), sl11⟩) (c11:PySem.W.codeIn K cd11 "_law_ways" = true) (k11:PySem.W.keepIn K (.ref f11)=true)
  (a12:PySem.W.nsIn K mainGlobals "_law_chart" = some (some (.ref f12))) (l12:K.lookup f12=some ⟨oc12,od12,.func (PySem.W.fnOf "_law_chart" "_law_chart" (defArgs s_l_chart) (defBody s_l_chart) (defScope s_l_chart) .none kV12 dc12 pm12 an12 cd12 ct12), sl12⟩) (c12:PySem.W.codeIn K cd12 "_law_chart" = true) (k12:PySem.W.keepIn K (.ref f12)=true)
  (a13:PySem.W.nsIn K mainGlobals "_law_rising" = some (some (.ref f13))) (l13:K.lookup f13=some ⟨oc13,od13,.func (PySem.W.fnOf "_law_rising" "_law_rising" (defArgs s_l_rising) (defBody s_l_rising) (defScope s_l_rising) .none kV13 dc13 pm13 an13 cd13 ct13), sl13⟩) (c13:PySem.W.codeIn K cd13 "_law_rising" = true) (k13:PySem.W.keepIn K (.ref f13)=true)
  (a14:PySem.W.nsIn K mainGlobals "_law_line" = some (some (.ref f14))) (l14:K.lookup f14=some ⟨oc14,od14,.func (PySem.W.fnOf "_law_line" "_law_line" (defArgs s_l_line) (defBody s_l_line) (defScope s_l_line) .none kV14 dc14 pm14 an14 cd14 ct14), sl14⟩) (c14:PySem.W.codeIn K cd14 "_law_line" = true) (k14:PySem.W.keepIn K (.ref f14)=true)
  (a15:PySem.W.nsIn K mainGlobals "_law_built" = some (some (.ref f15))) (l15:K.lookup f15=some ⟨oc15,od15,.func (PySem.W.fnOf "_law_built" "_law_built" (defArgs s_l_built) (defBody s_l_built) (defScope s_l_built) .none kV15 dc15 pm15 an15 cd15 ct15), sl15⟩) (c15:PySem.W.codeIn K cd15 "_law_built" = true) (k15:PySem.W.keepIn K (.ref f15)=true)
  (a16:PySem.W.nsIn K mainGlobals "_law_heading" = some (some (.ref f16))) (l16:K.lookup f16=some ⟨oc16,od16,.func (PySem.W.fnOf "_law_heading" "_law_heading" (defArgs s_l_heading) (defBody s_l_heading) (defScope s_l_heading) .none kV16 dc16 pm16 an16 cd16 ct16), sl16⟩) (c16:PySem.W.codeIn K cd16 "_law_heading" = true) (k16:PySem.W.keepIn K (.ref f16)=true)
  (a17:PySem.W.nsIn K mainGlobals "_law_between" = some (some (.ref f17))) (l17:K.lookup f17=some ⟨oc17,od17,.func (PySem.W.fnOf "_law_between" "_law_between" (defArgs s_l_between) (defBody s_l_between) (defScope s_l_between) .none kV17 dc17 pm17 an17 cd17 ct17), sl17⟩) (c17:PySem.W.codeIn K cd17 "_law_between" = true) (k17:PySem.W.keepIn K (.ref f17)=true)
  (a18:PySem.W.nsIn K mainGlobals "_law_rows" = some (some (.ref f18))) (l18:K.lookup f18=some ⟨oc18,od18,.func (PySem.W.fnOf "_law_rows" "_law_rows" (defArgs s_l_rows) (defBody s_l_rows) (defScope s_l_rows) .none kV18 dc18 pm18 an18 cd18 ct18), sl18⟩) (c18:PySem.W.codeIn K cd18 "_law_rows" = true) (k18:PySem.W.keepIn K (.ref f18)=true)
  (a19:PySem.W.nsIn K mainGlobals "_law_put_off" = some (some (.ref f19))) (l19:K.lookup f19=some ⟨oc19,od19,.func (PySem.W.fnOf "_law_put_off" "_law_put_off" (defArgs s_l_put_off) (defBody s_l_put_off) (defScope s_l_put_off) .none kV19 dc19 pm19 an19 cd19 ct19), sl19⟩) (c19:PySem.W.codeIn K cd19 "_law_put_off" = true) (k19:PySem.W.keepIn K (.ref f19)=true)
  (a20:PySem.W.nsIn K mainGlobals "_law_kind" = some (some (.ref f20))) (l20:K.lookup f20=some ⟨oc20,od20,.func (PySem.W.fnOf "_law_kind" "_law_kind" (defArgs s_l_kind) (defBody s_l_kind) (defScope s_l_kind) .none kV20 dc20 pm20 an20 cd20 ct20), sl20⟩) (c20:PySem.W.codeIn K cd20 "_law_kind" = true) (k20:PySem.W.keepIn K (.ref f20)=true)
  (a21:PySem.W.nsIn K mainGlobals "_law_good" = some (some (.ref f21))) (l21:K.lookup f21=some ⟨oc21,od21,.func (PySem.W.fnOf "_law_good" "_law_good" (defArgs s_l_good) (defBody s_l_good) (defScope s_l_good) .none kV21 dc21 pm21 an21 cd21 ct21), sl21⟩) (c21:PySem.W.codeIn K cd21 "_law_good" = true) (k21:PySem.W.keepIn K (.ref f21)=true)
  (a22:PySem.W.nsIn K mainGlobals "law" = some (some (.ref f22))) (l22:K.lookup f22=some ⟨oc22,od22,.func (PySem.W.fnOf "law" "law" (defArgs s_law) (defBody s_law) (defScope s_law) .none kV22 dc22 pm22 an22 cd22 ct22), sl22⟩) (c22:PySem.W.codeIn K cd22 "law" = true) (k22:PySem.W.keepIn K (.ref f22)=true)
  (z0:PySem.W.nsIn K mainGlobals "abs" = some none)
  (z1:PySem.W.nsIn K mainGlobals "enumerate" = some none)
  (z2:PySem.W.nsIn K mainGlobals "int" = some none)
  (z3:PySem.W.nsIn K mainGlobals "isinstance" = some none)
  (z4:PySem.W.nsIn K mainGlobals "len" = some none)
  (z5:PySem.W.nsIn K mainGlobals "list" = some none)
  (z6:PySem.W.nsIn K mainGlobals "max" = some none)
  (z7:PySem.W.nsIn K mainGlobals "min" = some none)
  (z8:PySem.W.nsIn K mainGlobals "range" = some none)
  (z9:PySem.W.nsIn K mainGlobals "set" = some none)
  (z10:PySem.W.nsIn K mainGlobals "sorted" = some none)
  (z11:PySem.W.nsIn K mainGlobals "str" = some none)
  (z12:PySem.W.nsIn K mainGlobals "zip" = some none)
  (g_MOST_REACH:PySem.W.nsIn K mainGlobals "MOST_REACH" = some (some (.int 60 q_MOST_REACH)))
  (m_BendError:PySem.W.nsIn K mainGlobals "BendError" = some (some (.ref c_BendError)))
  (m_NoMap:PySem.W.nsIn K mainGlobals "NoMap" = some (some (.ref c_NoMap)))
  (m_NotFlat:PySem.W.nsIn K mainGlobals "NotFlat" = some (some (.ref c_NotFlat)))
  (m_NoLand:PySem.W.nsIn K mainGlobals "NoLand" = some (some (.ref c_NoLand)))
  (m_NoNet:PySem.W.nsIn K mainGlobals "NoNet" = some (some (.ref c_NoNet)))
  (m_NoShape:PySem.W.nsIn K mainGlobals "NoShape" = some (some (.ref c_NoShape)))
  (m_NoLaid:PySem.W.nsIn K mainGlobals "NoLaid" = some (some (.ref c_NoLaid)))
  (m_NoText:PySem.W.nsIn K mainGlobals "NoText" = some (some (.ref c_NoText)))
  (m_NoPicture:PySem.W.nsIn K mainGlobals "NoPicture" = some (some (.ref c_NoPicture)))
  (m_NoRow:PySem.W.nsIn K mainGlobals "NoRow" = some (some (.ref c_NoRow)))
  (m_NoThing:PySem.W.nsIn K mainGlobals "NoThing" = some (some (.ref c_NoThing)))
  (x_in:PySem.W.excIn K c_NoPicture [.type "ValueError",.type "Exception",.type "BaseException",.type "object"] "ValueError.__new__" = true)
  (x_up:L2.ClsU K c_NoPicture c_BendError)
  (x_ve:PySem.W.subIn K (.ref c_NoPicture) (.type "ValueError")=some true)
  (x_NoMap:L2.ClsN K c_NoPicture c_NoMap)
  (x_NotFlat:L2.ClsN K c_NoPicture c_NotFlat)
  (x_NoLand:L2.ClsN K c_NoPicture c_NoLand)
  (x_NoNet:L2.ClsN K c_NoPicture c_NoNet)
  (x_NoShape:L2.ClsN K c_NoPicture c_NoShape)
  (x_NoLaid:L2.ClsN K c_NoPicture c_NoLaid)
  (x_NoText:L2.ClsN K c_NoPicture c_NoText)
  (x_NoRow:L2.ClsN K c_NoPicture c_NoRow)
  (x_NoThing:L2.ClsN K c_NoPicture c_NoThing)
  (x_K:L2.ExcK K c_NoPicture)
  (z_ValueError:PySem.W.nsIn K mainGlobals "ValueError" = some none)
  : ∃ fd:FuncData,(∀ (s:Shared) (v:Value),BindsTo s fd ⟨[v],[]⟩ [("_law_script",v)])∧∀ base:Heap,K.In base→base.Ns mainGlobals mg→FnOk l.prog w K mg base CX0 lawK fa fd ["_law_script"] (spLaw K):=by
 have e:=hfa.symm.trans (PySem.W.mg_of X G a22)
 cases e
 have F0:=fun_mk (st:=s_picture) l0 c0 k0
 have b0:=F0.binds (ps:=["drawing"]) fun _ _ _ _ _ _=>len1 fun _=>rfl
 have F1:=fun_mk (st:=s_cell_of) l1 c1 k1
 have b1:=F1.binds (ps:=["point","left","top"]) fun _ _ _ _ _ _=>len3 fun _ _ _=>rfl
 have F2:=fun_mk (st:=s_put_line) l2 c2 k2
 have b2:=F2.binds (ps:=["signs","cells"]) fun _ _ _ _ _ _=>len2 fun _ _=>rfl
 have F3:=fun_mk (st:=s_show_row) l3 c3 k3
 have b3:=F3.binds (ps:=["signs","row","wide"]) fun _ _ _ _ _ _=>len3 fun _ _ _=>rfl
 have F4:=fun_mk (st:=s_l_at) l4 c4 k4
 have b4:=F4.binds (ps:=["_law_script","_law_k"]) fun _ _ _ _ _ _=>len2 fun _ _=>rfl
 have F5:=fun_mk (st:=s_l_mix) l5 c5 k5
 have b5:=F5.binds (ps:=["_law_cell","_law_place"]) fun _ _ _ _ _ _=>len2 fun _ _=>rfl
 have F6:=fun_mk (st:=s_l_steps) l6 c6 k6
 have b6:=F6.binds (ps:=["_law_size","_law_bits"]) fun _ _ _ _ _ _=>len2 fun _ _=>rfl
 have F7:=fun_mk (st:=s_l_together) l7 c7 k7
 have b7:=F7.binds (ps:=["_law_steps_here","_law_first"]) fun _ _ _ _ _ _=>len2 fun _ _=>rfl
 have F8:=fun_mk (st:=s_l_beside) l8 c8 k8
 have b8:=F8.binds (ps:=["_law_steps_here","_law_point"]) fun _ _ _ _ _ _=>len2 fun _ _=>rfl
 have F9:=fun_mk (st:=s_l_places) l9 c9 k9
 have b9:=F9.binds (ps:=["_law_steps_here","_law_number"]) fun _ _ _ _ _ _=>len2 fun _ _=>rfl
 have F10:=fun_mk (st:=s_l_gone) l10 c10 k10
 have b10:=F10.binds (ps:=["_law_steps_here","_law_places_here","_law_one","_law_other"]) fun _ _ _ _ _ _=>len4 fun _ _ _ _=>rfl
 have F11:=fun_mk (st:=s_l_ways) l11 c11 k11
 have b11:=F11.binds (ps:=["_law_steps_here","_law_places_here","_law_number"]) fun _ _ _ _ _ _=>len3 fun _ _ _=>rfl
 have F12:=fun_mk (st:=s_l_chart) l12 c12 k12
 have b12:=F12.binds (ps:=["_law_steps_here","_law_places_here","_law_rows_here","_law_number"]) fun _ _ _ _ _ _=>len4 fun _ _ _ _=>rfl
 have F13:=fun_mk (st:=s_l_rising) l13 c13 k13
 have b13:=F13.binds (ps:=["_law_many","_law_number","_law_far"]) fun _ _ _ _ _ _=>len3 fun _ _ _=>rfl
 have F14:=fun_mk (st:=s_l_line) l14 c14 k14
 have b14:=F14.binds (ps:=["_law_row","_law_xs","_law_ys"]) fun _ _ _ _ _ _=>len3 fun _ _ _=>rfl
 have F15:=fun_mk (st:=s_l_built) l15 c15 k15
 have b15:=F15.binds (ps:=["_law_script","_law_start","_law_far"]) fun _ _ _ _ _ _=>len3 fun _ _ _=>rfl
 have F16:=fun_mk (st:=s_l_heading) l16 c16 k16
 have b16:=F16.binds (ps:=["_law_here","_law_there"]) fun _ _ _ _ _ _=>len2 fun _ _=>rfl
 have F17:=fun_mk (st:=s_l_between) l17 c17 k17
 have b17:=F17.binds (ps:=["_law_points"]) fun _ _ _ _ _ _=>len1 fun _=>rfl
 have F18:=fun_mk (st:=s_l_rows) l18 c18 k18
 have b18:=F18.binds (ps:=["_law_drawing"]) fun _ _ _ _ _ _=>len1 fun _=>rfl
 have F19:=fun_mk (st:=s_l_put_off) l19 c19 k19
 have b19:=F19.binds (ps:=["_law_drawing","_law_number"]) fun _ _ _ _ _ _=>len2 fun _ _=>rfl
 have F20:=fun_mk (st:=s_l_kind) l20 c20 k20
 have b20:=F20.binds (ps:=["_law_kept"]) fun _ _ _ _ _ _=>len1 fun _=>rfl
 have F21:=fun_mk (st:=s_l_good) l21 c21 k21
 have b21:=F21.binds (ps:=["_law_drawing"]) fun _ _ _ _ _ _=>len1 fun _=>rfl
 have F22:=fun_mk (st:=s_law) l22 c22 k22
 have b22:=F22.binds (ps:=["_law_script"]) fun _ _ _ _ _ _=>len1 fun _=>rfl
 have T:Txt K mg { q_MOST_REACH:=q_MOST_REACH,c_BendError:=c_BendError,c_NoMap:=c_NoMap,c_NotFlat:=c_NotFlat,c_NoLand:=c_NoLand,c_NoNet:=c_NoNet,c_NoShape:=c_NoShape,c_NoLaid:=c_NoLaid,c_NoText:=c_NoText,c_NoPicture:=c_NoPicture,c_NoRow:=c_NoRow,c_NoThing:=c_NoThing,a_picture:=f0,d_picture:=_,a_cell_of:=f1,d_cell_of:=_,a_put_line:=f2,d_put_line:=_,a_show_row:=f3,d_show_row:=_,a_l_at:=f4,d_l_at:=_,a_l_mix:=f5,d_l_mix:=_,a_l_steps:=f6,d_l_steps:=_,a_l_together:=f7,d_l_together:=_,a_l_beside:=f8,d_l_beside:=_,a_l_places:=f9,d_l_places:=_,a_l_gone:=f10,d_l_gone:=_,a_l_ways:=f11,d_l_ways:=_,a_l_chart:=f12,d_l_chart:=_,a_l_rising:=f13,d_l_rising:=_,a_l_line:=f14,d_l_line:=_,a_l_built:=f15,d_l_built:=_,a_l_heading:=f16,d_l_heading:=_,a_l_between:=f17,d_l_between:=_,a_l_rows:=f18,d_l_rows:=_,a_l_put_off:=f19,d_l_put_off:=_,a_l_kind:=f20,d_l_kind:=_,a_l_good:=f21,d_l_good:=_,a_law:=fa,d_law:=_ }:={ g_MOST_REACH:=PySem.W.mg_of X G g_MOST_REACH,m_BendError:=PySem.W.mg_of X G m_BendError,m_NoMap:=PySem.W.mg_of X G m_NoMap,m_NotFlat:=PySem.W.mg_of X G m_NotFlat,m_NoLand:=PySem.W.mg_of X G m_NoLand,m_NoNet:=PySem.W.mg_of X G m_NoNet,m_NoShape:=PySem.W.mg_of X G m_NoShape,m_NoLaid:=PySem.W.mg_of X G m_NoLaid,m_NoText:=PySem.W.mg_of X G m_NoText,m_NoPicture:=PySem.W.mg_of X G m_NoPicture,m_NoRow:=PySem.W.mg_of X G m_NoRow,m_NoThing:=PySem.W.mg_of X G m_NoThing,x_in:=x_in,x_up:=x_up,x_ve:=x_ve,x_NoMap:=x_NoMap,x_NotFlat:=x_NotFlat,x_NoLand:=x_NoLand,x_NoNet:=x_NoNet,x_NoShape:=x_NoShape,x_NoLaid:=x_NoLaid,x_NoText:=x_NoText,x_NoRow:=x_NoRow,x_NoThing:=x_NoThing,x_K:=x_K,z_ValueError:=PySem.W.mg_none_of X G z_ValueError,F_picture:=F0,m_picture:=PySem.W.mg_of X G a0,k_picture:=k0,b_picture:=b0,F_cell_of:=F1,m_cell_of:=PySem.W.mg_of X G a1,k_cell_of:=k1,b_cell_of:=b1,F_put_line:=F2,m_put_line:=PySem.W.mg_of X G a2,k_put_line:=k2,b_put_line:=b2,F_show_row:=F3,m_show_row:=PySem.W.mg_of X G a3,k_show_row:=k3,b_show_row:=b3,F_l_at:=F4,m_l_at:=PySem.W.mg_of X G a4,k_l_at:=k4,b_l_at:=b4,F_l_mix:=F5,m_l_mix:=PySem.W.mg_of X G a5,k_l_mix:=k5,b_l_mix:=b5,F_l_steps:=F6,m_l_steps:=PySem.W.mg_of X G a6,k_l_steps:=k6,b_l_steps:=b6,F_l_together:=F7,m_l_together:=PySem.W.mg_of X G a7,k_l_together:=k7,b_l_together:=b7,F_l_beside:=F8,m_l_beside:=PySem.W.mg_of X G a8,k_l_beside:=k8,b_l_beside:=b8,F_l_places:=F9,m_l_places:=PySem.W.mg_of X G a9,k_l_places:=k9,b_l_places:=b9,F_l_gone:=F10,m_l_gone:=PySem.W.mg_of X G a10,k_l_gone:=k10,b_l_gone:=b10,F_l_ways:=F11,m_l_ways:=PySem.W.mg_of X G a11,k_l_ways:=k11,b_l_ways:=b11,F_l_chart:=F12,m_l_chart:=PySem.W.mg_of X G a12,k_l_chart:=k12,b_l_chart:=b12,F_l_rising:=F13,m_l_rising:=PySem.W.mg_of X G a13,k_l_rising:=k13,b_l_rising:=b13,F_l_line:=F14,m_l_line:=PySem.W.mg_of X G a14,k_l_line:=k14,b_l_line:=b14,F_l_built:=F15,m_l_built:=PySem.W.mg_of X G a15,k_l_built:=k15,b_l_built:=b15,F_l_heading:=F16,m_l_heading:=PySem.W.mg_of X G a16,k_l_heading:=k16,b_l_heading:=b16,F_l_between:=F17,m_l_between:=PySem.W.mg_of X G a17,k_l_between:=k17,b_l_between:=b17,F_l_rows:=F18,m_l_rows:=PySem.W.mg_of X G a18,k_l_rows:=k18,b_l_rows:=b18,F_l_put_off:=F19,m_l_put_off:=PySem.W.mg_of X G a19,k_l_put_off:=k19,b_l_put_off:=b19,F_l_kind:=F20,m_l_kind:=PySem.W.mg_of X G a20,k_l_kind:=k20,b_l_kind:=b20,F_l_good:=F21,m_l_good:=PySem.W.mg_of X G a21,k_l_good:=k21,b_l_good:=b21,F_law:=F22,m_law:=PySem.W.mg_of X G a22,k_law:=k22,b_law:=b22,z_abs:=PySem.W.mg_none_of X G z0,z_enumerate:=PySem.W.mg_none_of X G z1,z_int:=PySem.W.mg_none_of X G z2,z_isinstance:=PySem.W.mg_none_of X G z3,z_len:=PySem.W.mg_none_of X G z4,z_list:=PySem.W.mg_none_of X G z5,z_max:=PySem.W.mg_none_of X G z6,z_min:=PySem.W.mg_none_of X G z7,z_range:=PySem.W.mg_none_of X G z8,z_set:=PySem.W.mg_none_of X G z9,z_sorted:=PySem.W.mg_none_of X G z10,z_str:=PySem.W.mg_none_of X G z11,z_zip:=PySem.W.mg_none_of X G z12 }
 exact ⟨_,fun s v=>.of_eq rfl, fun base _ _=>ok_law T⟩
theorem walk {l:PySem.W.OpenLaw} {q:Program} {loose:List Str} {XP:(Str→Option Value)→Heap→Prop} {YP:World→Heap→Prop} {d:DefRec} {K:Params→PySem.W.Frag} (hn:l.most=some 63) (hdf:d.params.defaults=[])
  (hY:∀ (w:World) (h:Heap),YP w h→(K w.params).In h)
  (F:∀ (w:World) (mg:Str→Option Value) (fa:Addr) (h:Heap),(K w.params).In h→h.Ns mainGlobals mg→mg d.name=some (.ref fa) →
   ∃ fd:FuncData,(∀ (s:Shared) (u:Value),BindsTo s fd ⟨[u],[]⟩ [("_law_script",u)])∧∀ base:Heap,(K w.params).In base→base.Ns mainGlobals mg→FnOk l.prog w (K w.params) mg base CX0 lawK fa fd ["_law_script"] (spLaw (K w.params))) :
  PySem.W.WalkO q loose XP YP l.row.toRowW d [] (fun f vs=>PySem.call f vs) :=
 L2.walk_of (n:=63) (k:=lawK) (x:="_law_script") (CX:=fun _=>CX0) (sp:=fun w=>spLaw (K w.params)) hn (by decide) hdf ⟨rfl,by decide, by decide⟩ hY F (fun _ _ a ns hl _ hS=>⟨a,ns,rfl,hS,hl, fun _=>rfl⟩) fun _ _ _ _ _ z=>z
end K76
open PySem PySem.W PyProof.Rows
set_option maxRecDepth 100000 in
set_option maxHeartbeats 0 in
theorem PySem.Challenge.cw_fewbends_k76_pictures_holds : PySem.Challenge.rw_fewbends_k76_pictures.Holds := by
 w_on;o_law;k_head;(case hw=>w_witness2)
 k_fill
 refine K76.walk (l:=PySem.Challenge.rw_fewbends_k76_pictures) rfl rfl (fun w h Y=>PySem.W.kIn_of Y) ?F
 case F =>
  intro w mg fa h KX G hmg
  refine' K76.all_mk KX G hmg ?a0 ?l0 ?c0 ?k0 ?a1 ?l1 ?c1 ?k1 ?a2 ?l2 ?c2 ?k2 ?a3 ?l3 ?c3 ?k3 ?a4 ?l4 ?c4 ?k4 ?a5 ?l5 ?c5 ?k5 ?a6 ?l6 ?c6 ?k6 ?a7 ?l7 ?c7 ?k7 ?a8 ?l8 ?c8 ?k8 ?a9 ?l9 ?c9 ?k9 ?a10 ?l10 ?c10 ?k10 ?a11 ?l11 ?c11 ?k11 ?a12 ?l12 ?c12 ?k12 ?a13 ?l13 ?c13 ?k13 ?a14 ?l14 ?c14 ?k14 ?a15 ?l15 ?c15 ?k15 ?a16 ?l16 ?c16 ?k16 ?a17 ?l17 ?c17 ?k17 ?a18 ?l18 ?c18 ?k18 ?a19 ?l19 ?c19 ?k19 ?a20 ?l20 ?c20 ?k20 ?a21 ?l21 ?c21 ?k21 ?a22 ?l22 ?c22 ?k22 ?z0 ?z1 ?z2 ?z3 ?z4 ?z5 ?z6 ?z7 ?z8 ?z9 ?z10 ?z11 ?z12 ?g_MOST_REACH ?m_BendError ?m_NoMap ?m_NotFlat ?m_NoLand ?m_NoNet ?m_NoShape ?m_NoLaid ?m_NoText ?m_NoPicture ?m_NoRow ?m_NoThing ?x_in ?x_up ?x_ve ?x_NoMap ?x_NotFlat ?x_NoLand ?x_NoNet ?x_NoShape ?x_NoLaid ?x_NoText ?x_NoRow ?x_NoThing ?x_K ?z_ValueError
  (case a0=>k_is);(case l0=>k_is);(case c0=>k_is);(case k0=>k_is)
  (case a1=>k_is);(case l1=>k_is);(case c1=>k_is);(case k1=>k_is)
  (case a2=>k_is);(case l2=>k_is);(case c2=>k_is);(case k2=>k_is)
  (case a3=>k_is);(case l3=>k_is);(case c3=>k_is);(case k3=>k_is)
  (case a4=>k_is);(case l4=>k_is);(case c4=>k_is);(case k4=>k_is)
  (case a5=>k_is);(case l5=>k_is);(case c5=>k_is);(case k5=>k_is)
  (case a6=>k_is);(case l6=>k_is);(case c6=>k_is);(case k6=>k_is)
  (case a7=>k_is);(case l7=>k_is);(case c7=>k_is);(case k7=>k_is)
  (case a8=>k_is);(case l8=>k_is);(case c8=>k_is);(case k8=>k_is)
  (case a9=>k_is);(case l9=>k_is);(case c9=>k_is);(case k9=>k_is)
  (case a10=>k_is);(case l10=>k_is);(case c10=>k_is);(case k10=>k_is)
  (case a11=>k_is);(case l11=>k_is);(case c11=>k_is);(case k11=>k_is)
  (case a12=>k_is);(case l12=>k_is);(case c12=>k_is);(case k12=>k_is)
  (case a13=>k_is);(case l13=>k_is);(case c13=>k_is);(case k13=>k_is)
  (case a14=>k_is);(case l14=>k_is);(case c14=>k_is);(case k14=>k_is)
  (case a15=>k_is);(case l15=>k_is);(case c15=>k_is);(case k15=>k_is)
  (case a16=>k_is);(case l16=>k_is);(case c16=>k_is);(case k16=>k_is)
  (case a17=>k_is);(case l17=>k_is);(case c17=>k_is);(case k17=>k_is)
  (case a18=>k_is);(case l18=>k_is);(case c18=>k_is);(case k18=>k_is)
  (case a19=>k_is);(case l19=>k_is);(case c19=>k_is);(case k19=>k_is)
  (case a20=>k_is);(case l20=>k_is);(case c20=>k_is);(case k20=>k_is)
  (case a21=>k_is);(case l21=>k_is);(case c21=>k_is);(case k21=>k_is)
  (case a22=>k_is);(case l22=>k_is);(case c22=>k_is);(case k22=>k_is)
  (case z0=>k_is);(case z1=>k_is);(case z2=>k_is);(case z3=>k_is);(case z4=>k_is);(case z5=>k_is);(case z6=>k_is);(case z7=>k_is);(case z8=>k_is);(case z9=>k_is);(case z10=>k_is);(case z11=>k_is);(case z12=>k_is)
  (case g_MOST_REACH=>k_is)
  (case m_BendError=>k_is)
  (case m_NoMap=>k_is)
  (case m_NotFlat=>k_is)
  (case m_NoLand=>k_is)
  (case m_NoNet=>k_is)
  (case m_NoShape=>k_is)
  (case m_NoLaid=>k_is)
  (case m_NoText=>k_is)
  (case m_NoPicture=>k_is)
  (case m_NoRow=>k_is)
  (case m_NoThing=>k_is)
  (case x_in=>k_exc)
  (case x_up=>exact ⟨by k_is,by k_is,by k_is, by k_is⟩)
  (case x_ve=>k_is)
  (case x_NoMap=>exact ⟨by k_is,by k_is,by k_is, by decide⟩)
  (case x_NotFlat=>exact ⟨by k_is,by k_is,by k_is, by decide⟩)
  (case x_NoLand=>exact ⟨by k_is,by k_is,by k_is, by decide⟩)
  (case x_NoNet=>exact ⟨by k_is,by k_is,by k_is, by decide⟩)
  (case x_NoShape=>exact ⟨by k_is,by k_is,by k_is, by decide⟩)
  (case x_NoLaid=>exact ⟨by k_is,by k_is,by k_is, by decide⟩)
  (case x_NoText=>exact ⟨by k_is,by k_is,by k_is, by decide⟩)
  (case x_NoRow=>exact ⟨by k_is,by k_is,by k_is, by decide⟩)
  (case x_NoThing=>exact ⟨by k_is,by k_is,by k_is, by decide⟩)
  (case x_K=>exact ⟨by k_is,by k_is,by k_is,by k_is,by k_is, by k_is⟩)
  (case z_ValueError=>k_is)
