import PyProof.Rows.All
import Wide.All
import OpenK.AllK
import Wide.FinOn
import Lean
import PyProof.EqAt
import PyProof.EqKinds
import PyProof.TupleCall
import KE.BitLaws
import KE.KSortTup
import KE.KLam
import KE.KSortKey
import PyProof.MeetsSeq3
import PyProof.FactsAll.list_2
import PyProof.Rows.SortRuns
import PyProof.Rows.SortShell
import PyProof.Rows.SortRev
import PyProof.Rows.SortWalk
import PyProof.FactsAll.tuple_1
import PyProof.DictItems
import KE.KDictSum
import PyProof.SetKind
import PyProof.TupleKey
import PyProof.IsRules
import PyProof.DictKinds
import PyProof.Rows.SetFrom
import PyProof.FactsAll.set_1
import PyProof.FactsAll.set_2
import PySem.Challenge.RW_fewbends_k36_corners_and_outer_land
open PySem renaming wpAny_bind->ZZ,wpAny_pure->ZY,wpAny_mono->ZX,sizeLine->ZW,mainGlobals->ZV,wpAny_holding->ZU
open Classical renaming byContradiction->ZT
open List renaming length_map->Zq,getElem?_eq_getElem->Zz,getElem?_eq_some_iff->Zj,getElem?_map->Zk,getD_eq_getElem?_getD->Zv,mem_cons_of_mem->Zw,getElem?_append_left->Zx,getElem?_append_right->Zy,mem_of_getElem?->Zg,mem_map->Zh,mem_singleton->Zb,mem_cons_self->Zd,mem_append->Zf,length_append->Zm,mem_cons->Zn,getElem_mem->Zp,getElem?_eq_none->Zr,mem_range->Zs,map_append->Zt,length_singleton->ZQ,length_cons->Yq,mem_filter->Yz,length_range->Yj,mem_flatMap->Yk,getElem?_range->Yv,take_length->Yw,length_take->Yx,getElem?_concat_length->Yy,mem_iff_getElem->Yg,length_eq_zero_iff->Yh,map_map->Yb,append_assoc->Yd,length_drop->Yf,mem_map_of_mem->Ym,map_congr_left->Yn,ext_getElem?->Yp,length_reverse->Yr
open Nat renaming le_trans->Ys,lt_of_le_of_lt->Yt,lt_of_lt_of_le->YQ,lt_succ_of_lt->Xq,le_of_lt_succ->Xz,lt_or_ge->Xj
open Option renaming map_eq_some_iff->Xk
open Int renaming emod_nonneg->Xv,emod_lt_of_pos->Xw
open Bool renaming and_eq_true->Xx,eq_iff_iff->Xy
set_option Elab.async false
set_option linter.all false
set_option maxRecDepth 100000
section
variable{A B C D E F G H I J:Type}
theorem xPP{K L R:Prop}(k:K)(l:L)(r:R):K/\L/\R:=⟨k,l,r⟩
theorem xWP{K R:A->Prop}(a:A)(k:K a)(r:R a):∃a,K a/\R a:=⟨a,k,r⟩
theorem sA{K:Prop}{L R:A->Prop}(k:K)(a:A)(l:L a)(r:R a):K/\∃a,L a/\R a:=⟨k,a,l,r⟩
theorem pV{K R:A->B->Prop}(a:A)(b:B)(k:K a b)(r:R a b):∃a b,K a b/\R a b:=⟨a,b,k,r⟩
theorem kP{K L M R:Prop}(k:K)(l:L)(m:M)(r:R):K/\L/\M/\R:=⟨k,l,m,r⟩
theorem TX{K:A->Prop}{R:A->B->Prop}(a:A)(k:K a)(b:B)(r:R a b):∃a,K a/\∃b,R a b:=⟨a,k,b,r⟩
theorem G6{K:Prop}{R:A->B->Prop}(k:K)(a:A)(b:B)(r:R a b):K/\∃a b,R a b:=⟨k,a,b,r⟩
theorem v9{R:A->B->C->Prop}(a:A)(b:B)(c:C)(r:R a b c):∃a b c,R a b c:=⟨a,b,c,r⟩
theorem r9{K L R:A->Prop}(a:A)(k:K a)(l:L a)(r:R a):∃a,K a/\L a/\R a:=⟨a,k,l,r⟩
theorem sT{K L R:A->B->Prop}(a:A)(b:B)(k:K a b)(l:L a b)(r:R a b):∃a b,K a b/\L a b/\R a b:=⟨a,b,k,l,r⟩
theorem wI{K R:A->B->C->Prop}(a:A)(b:B)(c:C)(k:K a b c)(r:R a b c):∃a b c,K a b c/\R a b c:=⟨a,b,c,k,r⟩
theorem nX{K:A->Prop}{L R:A->B->Prop}(a:A)(k:K a)(b:B)(l:L a b)(r:R a b):∃a,K a/\∃b,L a b/\R a b:=⟨a,k,b,l,r⟩
theorem QP{R:A->B->C->D->Prop}(a:A)(b:B)(c:C)(d:D)(r:R a b c d):∃a b c d,R a b c d:=⟨a,b,c,d,r⟩
theorem NN{K L:Prop}{M R:A->Prop}(k:K)(l:L)(a:A)(m:M a)(r:R a):K/\L/\∃a,M a/\R a:=⟨k,l,a,m,r⟩
theorem DZ{K L M R:A->Prop}(a:A)(k:K a)(l:L a)(m:M a)(r:R a):∃a,K a/\L a/\M a/\R a:=⟨a,k,l,m,r⟩
theorem G5{K:Prop}{L R:A->B->Prop}(k:K)(a:A)(b:B)(l:L a b)(r:R a b):K/\∃a b,L a b/\R a b:=⟨k,a,b,l,r⟩
theorem D5{K L M N R:Prop}(k:K)(l:L)(m:M)(n:N)(r:R):K/\L/\M/\N/\R:=⟨k,l,m,n,r⟩
theorem eQ{K L:A->Prop}{M R:A->B->Prop}(a:A)(k:K a)(l:L a)(b:B)(m:M a b)(r:R a b):∃a,K a/\L a/\∃b,M a b/\R a b:=xWP a k (sA l b m r)
theorem N9{K L:Prop}{M N R:A->Prop}(k:K)(l:L)(a:A)(m:M a)(n:N a)(r:R a):K/\L/\∃a,M a/\N a/\R a:=xPP k l (r9 a m n r)
theorem sU{K L M N R:A->Prop}(a:A)(k:K a)(l:L a)(m:M a)(n:N a)(r:R a):∃a,K a/\L a/\M a/\N a/\R a:=xWP a k (kP l m n r)
theorem iW{K:Prop}{L M R:A->B->Prop}(k:K)(a:A)(b:B)(l:L a b)(m:M a b)(r:R a b):K/\∃a b,L a b/\M a b/\R a b:=G6 k a b (xPP l m r)
theorem aY{K L M R:A->B->Prop}(a:A)(b:B)(k:K a b)(l:L a b)(m:M a b)(r:R a b):∃a b,K a b/\L a b/\M a b/\R a b:=pV a b k (xPP l m r)
theorem G3{K R:A->B->C->D->Prop}(a:A)(b:B)(c:C)(d:D)(k:K a b c d)(r:R a b c d):∃a b c d,K a b c d/\R a b c d:=v9 a b c (xWP d k r)
theorem N8{K L:Prop}{M R:A->B->Prop}(k:K)(l:L)(a:A)(b:B)(m:M a b)(r:R a b):K/\L/\∃a b,M a b/\R a b:=xPP k l (pV a b m r)
theorem bU{K L M:Prop}{N R:A->Prop}(k:K)(l:L)(m:M)(a:A)(n:N a)(r:R a):K/\L/\M/\∃a,N a/\R a:=xPP k l (sA m a n r)
theorem eF{K:Prop}{L:A->Prop}{M R:A->B->Prop}(k:K)(a:A)(l:L a)(b:B)(m:M a b)(r:R a b):K/\∃a,L a/\∃b,M a b/\R a b:=sA k a l (xWP b m r)
theorem N7{K:Prop}{L M N R:A->Prop}(k:K)(a:A)(l:L a)(m:M a)(n:N a)(r:R a):K/\∃a,L a/\M a/\N a/\R a:=sA k a l (xPP m n r)
theorem G4{K L R:A->B->C->Prop}(a:A)(b:B)(c:C)(k:K a b c)(l:L a b c)(r:R a b c):∃a b c,K a b c/\L a b c/\R a b c:=v9 a b c (xPP k l r)
theorem dI{K:A->Prop}{L M R:A->B->Prop}(a:A)(k:K a)(b:B)(l:L a b)(m:M a b)(r:R a b):∃a,K a/\∃b,L a b/\M a b/\R a b:=xWP a k (r9 b l m r)
theorem jL{K L M N O R:Prop}(k:K)(l:L)(m:M)(n:N)(o:O)(r:R):K/\L/\M/\N/\O/\R:=xPP k l (kP m n o r)
theorem sF{R:A->B->C->D->E->F->Prop}(a:A)(b:B)(c:C)(d:D)(e:E)(f:F)(r:R a b c d e f):∃a b c d e f,R a b c d e f:=v9 a b c (v9 d e f r)
theorem iQ{K L M R:A->B->C->Prop}(a:A)(b:B)(c:C)(k:K a b c)(l:L a b c)(m:M a b c)(r:R a b c):∃a b c,K a b c/\L a b c/\M a b c/\R a b c:=v9 a b c (kP k l m r)
theorem DX{K R:A->B->C->D->E->Prop}(a:A)(b:B)(c:C)(d:D)(e:E)(k:K a b c d e)(r:R a b c d e):∃a b c d e,K a b c d e/\R a b c d e:=v9 a b c (pV d e k r)
theorem D4{K:Prop}{L:A->Prop}{M N R:A->B->Prop}(k:K)(a:A)(l:L a)(b:B)(m:M a b)(n:N a b)(r:R a b):K/\∃a,L a/\∃b,M a b/\N a b/\R a b:=sA k a l (r9 b m n r)
theorem jF{K L M N O P R:Prop}(k:K)(l:L)(m:M)(n:N)(o:O)(p:P)(r:R):K/\L/\M/\N/\O/\P/\R:=kP k l m (kP n o p r)
theorem lX{K L:A->B->Prop}{M R:A->B->C->Prop}(a:A)(b:B)(k:K a b)(l:L a b)(c:C)(m:M a b c)(r:R a b c):∃a b,K a b/\L a b/\∃c,M a b c/\R a b c:=pV a b k (sA l c m r)
theorem LH{K L:Prop}{M:A->Prop}{N R:A->B->Prop}(k:K)(l:L)(a:A)(m:M a)(b:B)(n:N a b)(r:R a b):K/\L/\∃a,M a/\∃b,N a b/\R a b:=xPP k l (nX a m b n r)
theorem gK{K:Prop}{L M N R:A->B->Prop}(k:K)(a:A)(b:B)(l:L a b)(m:M a b)(n:N a b)(r:R a b):K/\∃a b,L a b/\M a b/\N a b/\R a b:=G6 k a b (kP l m n r)
theorem sG{K:A->Prop}{L M N R:A->B->Prop}(a:A)(k:K a)(b:B)(l:L a b)(m:M a b)(n:N a b)(r:R a b):∃a,K a/\∃b,L a b/\M a b/\N a b/\R a b:=xWP a k (DZ b l m n r)
theorem cQ{K:A->Prop}{L:A->B->Prop}{M R:A->B->C->Prop}(a:A)(k:K a)(b:B)(l:L a b)(c:C)(m:M a b c)(r:R a b c):∃a,K a/\∃b,L a b/\∃c,M a b c/\R a b c:=xWP a k (nX b l c m r)
theorem yM{K L M N:Prop}{O R:A->Prop}(k:K)(l:L)(m:M)(n:N)(a:A)(o:O a)(r:R a):K/\L/\M/\N/\∃a,O a/\R a:=kP k l m (sA n a o r)
theorem bR{K L M N R:A->B->Prop}(a:A)(b:B)(k:K a b)(l:L a b)(m:M a b)(n:N a b)(r:R a b):∃a b,K a b/\L a b/\M a b/\N a b/\R a b:=pV a b k (kP l m n r)
theorem LF{K L:A->Prop}{M N R:A->B->Prop}(a:A)(k:K a)(l:L a)(b:B)(m:M a b)(n:N a b)(r:R a b):∃a,K a/\L a/\∃b,M a b/\N a b/\R a b:=r9 a k l (r9 b m n r)
theorem LG{K L M N O R:A->Prop}(a:A)(k:K a)(l:L a)(m:M a)(n:N a)(o:O a)(r:R a):∃a,K a/\L a/\M a/\N a/\O a/\R a:=r9 a k l (kP m n o r)
theorem oD{K L M:Prop}{N O R:A->Prop}(k:K)(l:L)(m:M)(a:A)(n:N a)(o:O a)(r:R a):K/\L/\M/\∃a,N a/\O a/\R a:=kP k l m (r9 a n o r)
theorem nZ{K L:Prop}{M N R:A->B->Prop}(k:K)(l:L)(a:A)(b:B)(m:M a b)(n:N a b)(r:R a b):K/\L/\∃a b,M a b/\N a b/\R a b:=xPP k l (sT a b m n r)
theorem DY{K:A->B->Prop}{L R:A->B->C->D->Prop}(a:A)(b:B)(k:K a b)(c:C)(d:D)(l:L a b c d)(r:R a b c d):∃a b,K a b/\∃c d,L a b c d/\R a b c d:=pV a b k (pV c d l r)
theorem a9{K:A->Prop}{L M R:A->B->C->Prop}(a:A)(k:K a)(b:B)(c:C)(l:L a b c)(m:M a b c)(r:R a b c):∃a,K a/\∃b c,L a b c/\M a b c/\R a b c:=xWP a k (sT b c l m r)
theorem iA{K:Prop}{L R:A->B->C->D->E->Prop}(k:K)(a:A)(b:B)(c:C)(d:D)(e:E)(l:L a b c d e)(r:R a b c d e):K/\∃a b c d e,L a b c d e/\R a b c d e:=G6 k a b (wI c d e l r)
theorem G8{K L:Prop}{M:A->Prop}{N R:A->B->C->Prop}(k:K)(l:L)(a:A)(m:M a)(b:B)(c:C)(n:N a b c)(r:R a b c):K/\L/\∃a,M a/\∃b c,N a b c/\R a b c:=NN k l a m (pV b c n r)
theorem bC{K L M:Prop}{N O R:A->B->Prop}(k:K)(l:L)(m:M)(a:A)(b:B)(n:N a b)(o:O a b)(r:R a b):K/\L/\M/\∃a b,N a b/\O a b/\R a b:=kP k l m (sT a b n o r)
theorem nY{K:Prop}{L M R:A->B->C->D->Prop}(k:K)(a:A)(b:B)(c:C)(d:D)(l:L a b c d)(m:M a b c d)(r:R a b c d):K/\∃a b c d,L a b c d/\M a b c d/\R a b c d:=G6 k a b (sT c d l m r)
theorem G9{K L M:Prop}{N O P R:A->Prop}(k:K)(l:L)(m:M)(a:A)(n:N a)(o:O a)(p:P a)(r:R a):K/\L/\M/\∃a,N a/\O a/\P a/\R a:=kP k l m (DZ a n o p r)
theorem cO{K L M N O R:A->B->Prop}(a:A)(b:B)(k:K a b)(l:L a b)(m:M a b)(n:N a b)(o:O a b)(r:R a b):∃a b,K a b/\L a b/\M a b/\N a b/\O a b/\R a b:=pV a b k (D5 l m n o r)
theorem sX{K L:Prop}{M N O R:A->B->Prop}(k:K)(l:L)(a:A)(b:B)(m:M a b)(n:N a b)(o:O a b)(r:R a b):K/\L/\∃a b,M a b/\N a b/\O a b/\R a b:=xPP k l (aY a b m n o r)
theorem hU{K L:A->B->Prop}{M R:A->B->C->D->Prop}(a:A)(b:B)(k:K a b)(l:L a b)(c:C)(d:D)(m:M a b c d)(r:R a b c d):∃a b,K a b/\L a b/\∃c d,M a b c d/\R a b c d:=pV a b k (G5 l c d m r)
theorem hG{K:A->B->Prop}{L M R:A->B->C->D->Prop}(a:A)(b:B)(k:K a b)(c:C)(d:D)(l:L a b c d)(m:M a b c d)(r:R a b c d):∃a b,K a b/\∃c d,L a b c d/\M a b c d/\R a b c d:=pV a b k (sT c d l m r)
theorem aO{K L M R:A->B->C->D->Prop}(a:A)(b:B)(c:C)(d:D)(k:K a b c d)(l:L a b c d)(m:M a b c d)(r:R a b c d):∃a b c d,K a b c d/\L a b c d/\M a b c d/\R a b c d:=v9 a b c (DZ d k l m r)
theorem fI{K L:A->Prop}{M R:A->B->C->D->Prop}(a:A)(k:K a)(l:L a)(b:B)(c:C)(d:D)(m:M a b c d)(r:R a b c d):∃a,K a/\L a/\∃b c d,M a b c d/\R a b c d:=r9 a k l (wI b c d m r)
theorem iV{K:A->Prop}{L M:A->B->Prop}{N R:A->B->C->Prop}(a:A)(k:K a)(b:B)(l:L a b)(m:M a b)(c:C)(n:N a b c)(r:R a b c):∃a,K a/\∃b,L a b/\M a b/\∃c,N a b c/\R a b c:=nX a k b l (sA m c n r)
theorem sV{K:Prop}{L:A->Prop}{M R:A->B->C->D->Prop}(k:K)(a:A)(l:L a)(b:B)(c:C)(d:D)(m:M a b c d)(r:R a b c d):K/\∃a,L a/\∃b c d,M a b c d/\R a b c d:=sA k a l (wI b c d m r)
theorem n9{K L M:Prop}{N:A->Prop}{O R:A->B->Prop}(k:K)(l:L)(m:M)(a:A)(n:N a)(b:B)(o:O a b)(r:R a b):K/\L/\M/\∃a,N a/\∃b,O a b/\R a b:=kP k l m (nX a n b o r)
theorem aI{K:A->Prop}{L R:A->B->C->D->E->Prop}(a:A)(k:K a)(b:B)(c:C)(d:D)(e:E)(l:L a b c d e)(r:R a b c d e):∃a,K a/\∃b c d e,L a b c d e/\R a b c d e:=xWP a k (G3 b c d e l r)
theorem zW{K:A->Prop}{L M N O R:A->B->Prop}(a:A)(k:K a)(b:B)(l:L a b)(m:M a b)(n:N a b)(o:O a b)(r:R a b):∃a,K a/\∃b,L a b/\M a b/\N a b/\O a b/\R a b:=nX a k b l (kP m n o r)
theorem iC{K L:Prop}{M R:A->B->C->D->Prop}(k:K)(l:L)(a:A)(b:B)(c:C)(d:D)(m:M a b c d)(r:R a b c d):K/\L/\∃a b c d,M a b c d/\R a b c d:=xPP k l (G3 a b c d m r)
theorem bT{K:A->Prop}{L M N R:A->B->C->Prop}(a:A)(k:K a)(b:B)(c:C)(l:L a b c)(m:M a b c)(n:N a b c)(r:R a b c):∃a,K a/\∃b c,L a b c/\M a b c/\N a b c/\R a b c:=xWP a k (aY b c l m n r)
theorem sW{K:Prop}{L:A->Prop}{M N R:A->B->C->Prop}(k:K)(a:A)(l:L a)(b:B)(c:C)(m:M a b c)(n:N a b c)(r:R a b c):K/\∃a,L a/\∃b c,M a b c/\N a b c/\R a b c:=sA k a l (sT b c m n r)
theorem kT{K L M:Prop}{N R:A->B->C->Prop}(k:K)(l:L)(m:M)(a:A)(b:B)(c:C)(n:N a b c)(r:R a b c):K/\L/\M/\∃a b c,N a b c/\R a b c:=kP k l m (wI a b c n r)
theorem cN{K R:A->B->C->D->E->F->Prop}(a:A)(b:B)(c:C)(d:D)(e:E)(f:F)(k:K a b c d e f)(r:R a b c d e f):∃a b c d e f,K a b c d e f/\R a b c d e f:=v9 a b c (wI d e f k r)
theorem jO{K:Prop}{L M N R:A->B->C->Prop}(k:K)(a:A)(b:B)(c:C)(l:L a b c)(m:M a b c)(n:N a b c)(r:R a b c):K/\∃a b c,L a b c/\M a b c/\N a b c/\R a b c:=G6 k a b (DZ c l m n r)
theorem cW{K:A->Prop}{L M R:A->B->C->D->Prop}(a:A)(k:K a)(b:B)(c:C)(d:D)(l:L a b c d)(m:M a b c d)(r:R a b c d):∃a,K a/\∃b c d,L a b c d/\M a b c d/\R a b c d:=xWP a k (G4 b c d l m r)
theorem fH{R:A->B->C->D->E->F->G->Prop}(a:A)(b:B)(c:C)(d:D)(e:E)(f:F)(g:G)(r:R a b c d e f g):∃a b c d e f g,R a b c d e f g:=v9 a b c (QP d e f g r)
theorem G7{K L:Prop}{M N R:A->B->C->Prop}(k:K)(l:L)(a:A)(b:B)(c:C)(m:M a b c)(n:N a b c)(r:R a b c):K/\L/\∃a b c,M a b c/\N a b c/\R a b c:=xPP k l (G4 a b c m n r)
theorem jP{K:Prop}{L:A->Prop}{M:A->B->Prop}{N R:A->B->C->Prop}(k:K)(a:A)(l:L a)(b:B)(m:M a b)(c:C)(n:N a b c)(r:R a b c):K/\∃a,L a/\∃b,M a b/\∃c,N a b c/\R a b c:=sA k a l (nX b m c n r)
theorem nW{K:A->Prop}{L:A->B->Prop}{M N R:A->B->C->Prop}(a:A)(k:K a)(b:B)(l:L a b)(c:C)(m:M a b c)(n:N a b c)(r:R a b c):∃a,K a/\∃b,L a b/\∃c,M a b c/\N a b c/\R a b c:=nX a k b l (r9 c m n r)
theorem c9{K L:A->Prop}{M:A->B->Prop}{N R:A->B->C->Prop}(a:A)(k:K a)(l:L a)(b:B)(m:M a b)(c:C)(n:N a b c)(r:R a b c):∃a,K a/\L a/\∃b,M a b/\∃c,N a b c/\R a b c:=r9 a k l (nX b m c n r)
theorem zX{K L M N O P R:A->Prop}(a:A)(k:K a)(l:L a)(m:M a)(n:N a)(o:O a)(p:P a)(r:R a):∃a,K a/\L a/\M a/\N a/\O a/\P a/\R a:=r9 a k l (D5 m n o p r)
theorem bS{K:A->Prop}{L:A->B->Prop}{M R:A->B->C->D->Prop}(a:A)(k:K a)(b:B)(l:L a b)(c:C)(d:D)(m:M a b c d)(r:R a b c d):∃a,K a/\∃b,L a b/\∃c d,M a b c d/\R a b c d:=nX a k b l (pV c d m r)
theorem dX{K L M N O P Q R:Prop}(k:K)(l:L)(m:M)(n:N)(o:O)(p:P)(q:Q)(r:R):K/\L/\M/\N/\O/\P/\Q/\R:=kP k l m (D5 n o p q r)
theorem hV{K L M:A->B->Prop}{N R:A->B->C->Prop}(a:A)(b:B)(k:K a b)(l:L a b)(m:M a b)(c:C)(n:N a b c)(r:R a b c):∃a b,K a b/\L a b/\M a b/\∃c,N a b c/\R a b c:=pV a b k (NN l m c n r)
theorem bB{K L M N R:A->B->C->Prop}(a:A)(b:B)(c:C)(k:K a b c)(l:L a b c)(m:M a b c)(n:N a b c)(r:R a b c):∃a b c,K a b c/\L a b c/\M a b c/\N a b c/\R a b c:=wI a b c k (kP l m n r)
theorem cV{K L R:A->B->C->D->E->Prop}(a:A)(b:B)(c:C)(d:D)(e:E)(k:K a b c d e)(l:L a b c d e)(r:R a b c d e):∃a b c d e,K a b c d e/\L a b c d e/\R a b c d e:=v9 a b c (sT d e k l r)
theorem iB{K:Prop}{L M:A->B->Prop}{N R:A->B->C->Prop}(k:K)(a:A)(b:B)(l:L a b)(m:M a b)(c:C)(n:N a b c)(r:R a b c):K/\∃a b,L a b/\M a b/\∃c,N a b c/\R a b c:=G5 k a b l (sA m c n r)
theorem HF{K L M N:Prop}{O P R:A->Prop}(k:K)(l:L)(m:M)(n:N)(a:A)(o:O a)(p:P a)(r:R a):K/\L/\M/\N/\∃a,O a/\P a/\R a:=D5 k l m n (r9 a o p r)
theorem zY{K L M N:Prop}{O R:A->B->Prop}(k:K)(l:L)(m:M)(n:N)(a:A)(b:B)(o:O a b)(r:R a b):K/\L/\M/\N/\∃a b,O a b/\R a b:=kP k l m (G5 n a b o r)
end
namespace L2
open PySem PySem.Spec PyProof.Rows
abbrev Key:=Sum Int Str
def uF:Key->Value->Bool
 |.inl k,v=>Value.isInt k v
 |.inr x,v=>Value.isStrOf x v
def S5(w:World):Key->Int
 |.inl k=>hashInt k
 |.inr x=>hashStr w x
theorem cY:∀{k:Key}{v:Value},uF k v=true->(∃i t,k=Sum.inl i/\v=Value.int i t)\/(∃x t,k=Sum.inr x/\v=Value.str x t)
 |.inl i,v,h=>by
  obtain⟨t,e⟩:=Value.isInt_shape (k:=i) (v:=v) h;exact .inl ⟨i,t,rfl,e⟩
 |.inr x,v,h=>by
  obtain⟨t,e⟩:=Value.isStrOf_shape (x:=x) (v:=v) h;exact .inr ⟨x,t,rfl,e⟩
theorem GK(i:Int)(t:Tok):uF (.inl i) (.int i t)=true:=by simp[uF,Value.isInt]
theorem GJ(x:Str)(t:Tok):uF (.inr x) (.str x t)=true:=by simp[uF,Value.isStrOf]
theorem P6(a b:Int):decide ((Sum.inl a:Key)=Sum.inl b)=(a==b):=by
 by_cases e:a=b
 ·subst e;simp
 ·have h:¬(Sum.inl a:Key)=Sum.inl b:=λq=>e (Sum.inl.inj q);rw[decide_eq_false h];exact(beq_eq_false_iff_ne.mpr e).symm
theorem P2(a b:Str):decide ((Sum.inr a:Key)=Sum.inr b)=decide (a=b):=by
 by_cases e:a=b
 ·subst e;simp
 ·have h:¬(Sum.inr a:Key)=Sum.inr b:=λq=>e (Sum.inr.inj q);rw[decide_eq_false h,decide_eq_false e]
theorem P5(a:Int)(b:Str):decide ((Sum.inl a:Key)=Sum.inr b)=false:=decide_eq_false (λq=>nomatch q)
theorem P3(a:Str)(b:Int):decide ((Sum.inr a:Key)=Sum.inl b)=false:=decide_eq_false (λq=>nomatch q)
def cM(prog:Program)(w:World):PySem.KeyKind prog w Key where
 is:=uF
 hash:=S5 w
 inj:=λv a b ha hb=>by
  rcases cY ha with⟨i,t,rfl,rfl⟩ | ⟨x,t,rfl,rfl⟩
  ·rcases cY hb with⟨j,u,rfl,e⟩ | ⟨y,u,rfl,e⟩
   ·injection e with e1 _;rw[e1]
   ·exact nomatch e
  ·rcases cY hb with⟨j,u,rfl,e⟩ | ⟨y,u,rfl,e⟩
   ·exact nomatch e
   ·injection e with e1 _;rw[e1]
 byValue:=λk v h=>by
  rcases cY h with⟨i,t,rfl,rfl⟩ | ⟨x,t,rfl,rfl⟩<;>rfl
 pyHash:=λhv h=>by
  rcases cY hv with⟨i,t,rfl,rfl⟩ | ⟨x,t,rfl,rfl⟩
  ·exact wpAny_pyHash_int h
  ·exact wpAny_pyHash_str h
 eqBool:=λhu hv h=>by
  rcases cY hu with⟨i,t,rfl,rfl⟩ | ⟨x,t,rfl,rfl⟩
  ·rcases cY hv with⟨j,u,rfl,rfl⟩ | ⟨y,u,rfl,rfl⟩
   ·rw[P6]at h;exact wpAny_eqBool_int h
   ·rw[P5]at h;exact SeqAt.EqAt.int_str i t y u _ _ _ _ h
  ·rcases cY hv with⟨j,u,rfl,rfl⟩ | ⟨y,u,rfl,rfl⟩
   ·rw[P3]at h;exact SeqAt.EqAt.str_int x t j u _ _ _ _ h
   ·rw[P2]at h;exact wpAny_eqBool_str h
 «strs»:=λk x t v h=>by
  rcases cY h with⟨i,u,rfl,e⟩ | ⟨y,u,rfl,e⟩
  ·exact nomatch e
  ·injection e with e1 _;subst e1;cases v<;>rfl
theorem A6(prog:Program)(w:World)(i:Int)(t:Tok):(cM prog w).is (.inl i) (.int i t)=true:=GK i t
theorem A5(prog:Program)(w:World)(x:Str)(t:Tok):(cM prog w).is (.inr x) (.str x t)=true:=GJ x t
inductive V where
 |non | bl (b:Bool) | int (i:Int) | str (x:Str) | byt (b:Array UInt8) | flt (b:UInt64) | ref (a:Addr) | ty (n:String)
 deriving DecidableEq
def RelV:V->Value->Prop
 |.non,u=>u=Value.none
 |.bl b,u=>u=Value.bool b
 |.int i,u=>∃t,u=Value.int i t
 |.str x,u=>∃t,u=Value.str x t
 |.byt b,u=>∃t,u=Value.bytes b t
 |.flt b,u=>∃t,u=Value.float b t
 |.ref a,u=>u=Value.ref a
 |.ty n,u=>u=Value.type n
abbrev bJ:List V->List Value->Prop:=Paired RelV
theorem bJ.length{xs:List V}{us:List Value}(r:bJ xs us):xs.length=us.length:=Paired.length r
theorem bJ.get:∀{xs:List V}{us:List Value}{i:Nat}{x:V},bJ xs us->xs[i]?=some x->∃u,us[i]?=some u/\RelV x u
 |_,_,_,_,.nil,e=>by simp at e
 |_,_,0,_,.cons r _,e=>by simp at e;subst e;exact⟨_,rfl,r⟩
 |_,_,i+1,x,.cons _ t,e=>by
  obtain⟨u,h1,h2⟩:=bJ.get (i:=i) (x:=x) t (by simpa using e);exact⟨u,by simpa using h1,h2⟩
theorem bJ.set{x:V}{u:Value}(r:RelV x u):∀{xs:List V}{us:List Value}(i:Nat),bJ xs us->bJ (xs.set i x) (us.set i u)
 |_,_,_,.nil=>.nil
 |_,_,0,.cons _ t=>.cons r t
 |_,_,i+1,.cons q t=>.cons q (bJ.set r i t)
theorem bJ.append:∀{xs ys:List V}{us ws:List Value},bJ xs us->bJ ys ws->bJ (xs++ys) (us++ws)
 |_,_,_,_,.nil,s=>s
 |_,_,_,_,.cons r t,s=>.cons r (bJ.append t s)
theorem bJ.take:∀{xs:List V}{us:List Value}(n:Nat),bJ xs us->bJ (xs.take n) (us.take n)
 |_,_,0,_=>.nil
 |_,_,_+1,.nil=>.nil
 |_,_,n+1,.cons r t=>.cons r (bJ.take n t)
theorem bJ.drop:∀{xs:List V}{us:List Value}(n:Nat),bJ xs us->bJ (xs.drop n) (us.drop n)
 |_,_,0,r=>r
 |_,_,_+1,.nil=>.nil
 |_,_,n+1,.cons _ t=>bJ.drop n t
def qX:Option V->Option Value->Prop
 |some v,some u=>RelV v u
 |none,none=>True
 |_,_=>False
def KV{κ:Type}:List (κ×V)->List (κ×Value)->Prop:=Paired λ(p:κ×V) (q:κ×Value)=>p.1=q.1/\RelV p.2 q.2
def kV:Key->V
 |.inl i=>.int i
 |.inr x=>.str x
inductive HO where
 |lst (xs:List V)
 |tup (xs:List V)
 |dK (kvs:List (Key×V)) | dT (kvs:List (List Key×V))
 |set (S:Int->Bool) (n:Nat)
 |ins (C dx:Addr) (fs:List (Str×V))
 |own (x:Addr)
 |xd (fs:List (Str×V))
 |met (f x:Addr)
 |rng (lo hi:Int)
 |frz (o:Obj) (u:HO)
 |tbl (ps:Array Value)
 |ext (φ:Heap->Prop)
abbrev Hp:=Addr->Option HO
def upd(H:Hp)(a:Addr)(o:HO):Hp:=λb=>if b=a then some o else H b
theorem aB{H:Hp}{a:Addr}{o:HO}:upd H a o a=some o:=by unfold upd;rw[if_pos rfl]
theorem aH{H:Hp}{a b:Addr}{o:HO}(h:b≠a):upd H a o b=H b:=by unfold upd;rw[if_neg h]
theorem fJ{H:Hp}{a:Addr}{o u:HO}:upd (upd H a o) a u=upd H a u:=by
 funext b;unfold upd;split<;>rfl
theorem lN{H:Hp}{a b:Addr}{o u:HO}(h:H a=some o)(h':H b=some u)(d:o≠u):a≠b:=by
 intro e;subst e;rw[h]at h';exact d (Option.some.inj h')
theorem aN{H:Hp}{a b:Addr}{o:HO}(h:H a=some o)(h':H b=none):a≠b:=by
 intro e;subst e;rw[h]at h';cases h'
section
variable(P:Program)(w:World)
def cG(H:Hp)(h:Heap)(a:Addr):HO->Prop
 |.lst xs=>xs.length<=ZW/\∃(its:List Value) (n:Nat),bJ xs its/\h.get? a=some { cls:=.type "list",data:=.seq its.toArray n }
 |.tup xs=>xs.length<=ZW/\∃its:List Value,bJ xs its/\IsTup h a its.toArray
 |.dK kvs=>kvs.length<=ZW/\(a==sysModules)=false/\∃vs,KV kvs vs/\h.DictOf (cM P w) a vs
 |.dT kvs=>kvs.length<=ZW/\(a==sysModules)=false/\∃xs:List (List Key×Addr×Value),
   Paired (λ(p:List Key×V) (q:List Key×Addr×Value)=>p.1=q.1/\H q.2.1=some (.tup (p.1.map kV))/\RelV p.2 q.2.2) kvs xs /\
   ∃o es ep,h.get? a=some o/\o.ExactDict/\o.data=.dict es ep/\es.toList=xs.map (entryOfKey (tupleKind (cM P w)))/\(xs.map (·.1)).Nodup
 |.set S n=>h.SetOf (intKind P w) a S n
 |.ins C dx fs=>H dx=some (.own a)/\fs.length<=1000/\dx≠a/\h.get? a=some (PySem.W.instObj C dx) /\
   ∃mA,h.Ns1 dx mA/\(∀f,qX (fs.lookup f) (mA f))/\PySem.Within mA (fs.map (·.1))
 |.own _=>∃o,h.get? a=some o
 |.xd fs=>∃mA,h.Ns1 a mA/\∀f,qX (fs.lookup f) (mA f)
 |.rng lo hi=>∃t u v,h.get? a=some { cls:=.type "range",data:=.fields #[.int lo t,.int hi u,.int 1 v] }
 |.frz o u=>h.get? a=some o/\cG H h a u
 |.tbl ps=>h.get? a=some { cls:=.none,data:=.fields ps }
 |.met f x=>h.get? a=some (PySem.W.methodObj (.ref f) (.ref x))
 |.ext φ=>φ h/\(∃o,h.get? a=some o)/\∀h1 h2:Heap,φ h1->(∀o,h1.get? a=some o->h2.get? a=some o)->φ h2
def HOk(H:Hp)(h:Heap):Prop:=∀a o,H a=some o->cG P w H h a o
end
section
variable{P:Program}{w:World}{H H':Hp}{h h':Heap}{a:Addr}{o:HO}
theorem cG.lt(x:cG P w H h a o):a<h.objs.size:=by
 cases o with
 |lst xs=>obtain⟨_,_,_,_,e⟩:=x;exact Heap.lt_size e
 |tup xs=>obtain⟨_,_,_,p⟩:=x;exact p.lt
 |dK kvs=>obtain⟨_,_,_,_,o,_,_,e,_⟩:=x;exact Heap.lt_size e
 |dT kvs=>obtain⟨_,_,_,_,o,_,_,e,_⟩:=x;exact Heap.lt_size e
 |set S n=>obtain⟨o,_,_,_,e,_⟩:=x;exact Heap.lt_size e
 |ins C dx fs=>obtain⟨_,_,_,e,_⟩:=x;exact Heap.lt_size e
 |own y=>obtain⟨_,e⟩:=x;exact Heap.lt_size e
 |xd fs=>obtain⟨_,⟨_,_,_,e,_⟩,_⟩:=x;exact Heap.lt_size e
 |rng lo hi=>obtain⟨_,_,_,e⟩:=x;exact Heap.lt_size e
 |frz ob u=>obtain⟨e,_⟩:=x;exact Heap.lt_size e
 |tbl ps=>exact Heap.lt_size (show h.get? a=some _ from x)
 |met f y=>exact Heap.lt_size (show h.get? a=some _ from x)
 |ext φ=>obtain⟨_,⟨_,e⟩,_⟩:=x;exact Heap.lt_size e
theorem Paired.mapP{α β:Type}{F G:α->β->Prop}:∀{l₁:List α}{l₂:List β},Paired F l₁ l₂->(∀a b,F a b->G a b)->Paired G l₁ l₂
 |_,_,.nil,_=>.nil
 |_,_,.cons r t,f=>.cons (f _ _ r) (Paired.mapP t f)
theorem cG.stay(x:cG P w H h a o)(k:∀b u,(b=a\/H b=some (.own a))->h.get? b=some u->h'.get? b=some u)
  (ho:∀b,H b=some (.own a)->H' b=some (.own a)) (ht:∀b xs,H b=some (.tup xs)->H' b=some (.tup xs)):cG P w H' h' a o:=by
 induction o with
 |lst xs=>obtain⟨z,its,n,r,e⟩:=x;exact⟨z,its,n,r,k _ _ (.inl rfl) e⟩
 |tup xs=>obtain⟨z,its,r,ob,e,c⟩:=x;exact⟨z,its,r,ob,k _ _ (.inl rfl) e,c⟩
 |dK kvs=>obtain⟨z,y,vs,r,ob,es,ep,e,c⟩:=x;exact⟨z,y,vs,r,ob,es,ep,k _ _ (.inl rfl) e,c⟩
 |dT kvs =>
  obtain⟨z,y,xs,r,ob,es,ep,e,c⟩:=x;exact⟨z,y,xs,Paired.mapP r λp q z=>⟨z.1,ht _ _ z.2.1,z.2.2⟩,ob,es,ep,k _ _ (.inl rfl) e,c⟩
 |set S n=>obtain⟨ob,es,ep,t,e,c⟩:=x;exact⟨ob,es,ep,t,k _ _ (.inl rfl) e,c⟩
 |ins C dx fs =>
  obtain⟨d,z,ne,e,mA,⟨od,es,ep,e2,c⟩,r⟩:=x;exact⟨ho _ d,z,ne,k _ _ (.inl rfl) e,mA,⟨od,es,ep,k _ _ (.inr d) e2,c⟩,r⟩
 |own y=>obtain⟨ob,e⟩:=x;exact⟨ob,k _ _ (.inl rfl) e⟩
 |xd fs=>obtain⟨mA,⟨od,es,ep,e,c⟩,r⟩:=x;exact⟨mA,⟨od,es,ep,k _ _ (.inl rfl) e,c⟩,r⟩
 |rng lo hi=>obtain⟨t,u,v,e⟩:=x;exact⟨t,u,v,k _ _ (.inl rfl) e⟩
 |frz ob u ih=>obtain⟨e,q⟩:=x;exact⟨k _ _ (.inl rfl) e,ih q⟩
 |tbl ps =>
  have e:h.get? a=some { cls:=.none,data:=.fields ps }:=x;show h'.get? a=some { cls:=.none,data:=.fields ps };exact k a _ (.inl rfl) e
 |met f y =>
  have e:h.get? a=some (PySem.W.methodObj (.ref f) (.ref y)):=x;show h'.get? a=some (PySem.W.methodObj (.ref f) (.ref y));exact k a _ (.inl rfl) e
 |ext φ=>obtain⟨p,⟨o,e⟩,st⟩:=x;exact⟨st _ _ p λo q=>k _ _ (.inl rfl) q,⟨o,k _ _ (.inl rfl) e⟩,st⟩
theorem HOk.lt(x:HOk P w H h)(e:H a=some o):a<h.objs.size:=(x a o e).lt
theorem HOk.fresh(x:HOk P w H h)(e:h.objs.size<=a):H a=none:=by
 cases q:H a with
 |none=>rfl
 |some u=>exact absurd (YQ (x.lt q) e) (Nat.lt_irrefl _)
theorem HOk.kept(x:HOk P w H h)(k:∀b u,h.get? b=some u->h'.get? b=some u):HOk P w H h':=λa o e =>
 (x a o e).stay (λb u _ q=>k b u q) (λ_ q=>q) λ_ _ q=>q
theorem HOk.laid(x:HOk P w H h)(k:∀b u,h.get? b=some u->h'.get? b=some u)(hp:h.objs.size<=a)(new:cG P w (upd H a o) h' a o):HOk P w (upd H a o) h':=λb u e=>by
 have hn:=x.fresh hp;by_cases hb:b=a
 ·subst hb;rw[aB]at e;cases e;exact new
 ·rw[aH hb]at e;exact(x b u e).stay (λc v _ q=>k c v q) (λc q=>by rw[aH (aN q hn)];exact q) λc xs q=>by rw[aH (aN q hn)];exact q
end
def Rd(H:Hp)(a:Addr)(u:HO):Prop:=H a=some u\/∃o,H a=some (.frz o u)
theorem Rd.of{H:Hp}{a:Addr}{u:HO}(h:H a=some u):Rd H a u:=.inl h
theorem Rd.ok{P:Program}{w:World}{H:Hp}{h:Heap}{a:Addr}{u:HO}(r:Rd H a u)(x:HOk P w H h):cG P w H h a u:=by
 rcases r with r | ⟨o,r⟩
 ·exact x a u r
 ·obtain⟨_,q⟩:=x a _ r;exact q
def Mut:Option HO->Prop
 |some (.lst _)=>True
 |some (.dK _)=>True
 |some (.dT _)=>True
 |some (.set _ _)=>True
 |some (.ins _ _ _)=>True
 |some (.ext _)=>True
 |_=>False
section
variable{P:Program}{w:World}{H:Hp}{h h':Heap}{x e:Addr}{o':HO}
theorem HOk.write(ok:HOk P w H h)(mu:Mut (H x))(he:e=x\/H e=some (.own x))(k:∀b u,b≠e->h.get? b=some u->h'.get? b=some u)(heo:∃u,h'.get? e=some u)
  (new:cG P w (upd H x o') h' x o'):HOk P w (upd H x o') h':=λb u q=>by
 have nown:∀c y,H c=some (.own y)->c≠x:=λc y r z=>by subst z;rw[r]at mu;exact mu
 have ntup:∀c xs,H c=some (.tup xs)->c≠x:=λc xs r z=>by subst z;rw[r]at mu;exact mu
 by_cases hb:b=x
 ·subst hb;rw[aB]at q;cases q;exact new
 ·rw[aH hb]at q;by_cases hbe:b=e
  ·have q':H b=some (.own x):=by
    rcases he with z | z
    ·exact absurd (hbe.trans z) hb
    ·rw[hbe];exact z
   rw[q]at q';cases q';obtain⟨v,hv⟩:=heo;exact⟨v,by rw[hbe];exact hv⟩
  ·refine(ok b u q).stay (λc v hc r=>k c v ?_ r) (λc r=>by rw[aH (nown c b r)];exact r) λc xs r=>by rw[aH (ntup c xs r)];exact r
   rcases hc with rfl | hc
   ·exact hbe
   ·rintro rfl;rcases he with z | z
    ·exact nown c b hc z
    ·rw[hc]at z;cases z;exact hb rfl
end
structure Un(fs ex:List Addr)(H H':Hp)(h h':Heap):Prop where
 keep:∀b o,h.get? b=some o->H b=none->b∉fs->b∉ex->h'.get? b=some o
 slot:∀b o,h.get? b=some o->H b=none->b∈fs->b∉ex->∃sl,h'.get? b=some { o with slots:=sl }
 free:∀b o,h.get? b=some o->H b=none->b∉ex->H' b=none
 there:∀b o,h.get? b=some o->b∉ex->∃o',h'.get? b=some o'
 tups:∀b xs,H b=some (.tup xs)->H' b=some (.tup xs)
 frzs:∀b o u,H b=some (.frz o u)->H' b=some (.frz o u)
 tbls:∀b ps,H b=some (.tbl ps)->∃more,H' b=some (.tbl (ps++more))
section
variable{fs fs' ex ex':List Addr}{H H1 H2:Hp}{h h1 h2 h':Heap}{a x e:Addr}{o:HO}
theorem Un.any(u:Un fs ex H H1 h h1){b:Addr}{ob:Obj}(q:h.get? b=some ob)(n:H b=none)(hx:b∉ex):∃sl,h1.get? b=some { ob with slots:=sl }:=by
 by_cases hb:b∈fs
 ·exact u.slot b ob q n hb hx
 ·exact⟨ob.slots,u.keep b ob q n hb hx⟩
theorem Un.kept(k:∀b u,h.get? b=some u->h'.get? b=some u):Un fs ex H H h h' :=
 ⟨λb ob q _ _ _=>k b ob q,λb ob q _ _ _=>⟨ob.slots,k b ob q⟩,λ_ _ _ n _=>n,λb ob q _=>⟨ob,k b ob q⟩,λ_ _ q=>q,λ_ _ _ q=>q,λ_ ps q=>⟨#[],by rw[q];simp⟩⟩
theorem Un.refl:Un fs ex H H h h:=Un.kept λ_ _ q=>q
theorem Un.laid(k:∀b u,h.get? b=some u->h'.get? b=some u)(hp:h.objs.size<=a)(hn:H a=none):Un fs ex H (upd H a o) h h' where
 keep:=λb u q _ _ _=>k b u q
 slot:=λb u q _ _ _=>⟨u.slots,k b u q⟩
 free:=λb u q n _=>by rw[aH (Nat.ne_of_lt (YQ (Heap.lt_size q) hp))];exact n
 there:=λb u q _=>⟨u,k b u q⟩
 tups:=λb xs q=>by rw[aH (aN q hn)];exact q
 frzs:=λb u xs q=>by rw[aH (aN q hn)];exact q
 tbls:=λb ps q=>⟨#[],by rw[aH (aN q hn),q];simp⟩
theorem Un.write(mu:Mut (H x))(he:e=x\/H e=some (.own x))(k:∀b u,b≠e->h.get? b=some u->h'.get? b=some u)(heo:∃u,h'.get? e=some u):Un fs ex H (upd H x o) h h':=by
 have hx:∀b,H b=none->b≠x:=λb n z=>by subst z;rw[n]at mu;exact mu
 have hb:∀b,H b=none->b≠e:=λb n z=>by
  subst z;rcases he with r | r
  ·exact hx b n r
  ·rw[n]at r;cases r
 have hm:∀b u,H b=some u->¬Mut (some u)->b≠x:=λb u q nm z=>by subst z;rw[q]at mu;exact nm mu
 refine⟨λb u q n _ _=>k b u (hb b n) q,λb u q n _ _=>⟨u.slots,k b u (hb b n) q⟩,λb u q n _=>by rw[aH (hx b n)];exact n,λb u q _=>?_,
  λb xs q=>by rw[aH (hm b _ q λz=>z)];exact q,λb u xs q=>by rw[aH (hm b _ q λz=>z)];exact q,λb ps q=>⟨#[],by rw[aH (hm b _ q λz=>z),q];simp⟩⟩
 by_cases hbe:b=e
 ·subst hbe;exact heo
 ·exact⟨u,k b u hbe q⟩
end
def trk(h:Heap)(H:Hp):List Addr:=(List.range h.objs.size).filter λa=>(H a).isSome
def wG(h:Heap)(H:Hp):Heap:=PySem.W.hideAll h (trk h H)
theorem GR(h:Heap)(H:Hp):(wG h H).objs.size=h.objs.size:=PySem.W.hideAll_size _ _
theorem pD{h:Heap}{H:Hp}{b:Addr}{o:Obj}(e:h.get? b=some o)(n:H b=none):(wG h H).get? b=some o :=
 PySem.W.hideAll_get _ e λhm=>by
  have q:(H b).isSome=true:=(Yz.mp hm).2;rw[n]at q;simp at q
theorem MP{h:Heap}{H:Hp}{b:Addr}{o:Obj}(e:(wG h H).get? b=some o):h.get? b=some o/\H b=none:=by
 have e':h.get? b=some o:=PySem.W.of_hideAll (trk h H) e;refine⟨e',?_⟩;cases q:H b with
 |none=>rfl
 |some x =>
  have hm:b∈trk h H:=Yz.mpr ⟨Zs.mpr (Heap.lt_size e'),by simp[q]⟩;have z:(wG h H).get? b=none:=PySem.W.hideAll_none (trk h H) hm;rw[z]at e;cases e
def mP(g h:Heap)(L:Addr):List (Addr×Obj):=(List.range h.objs.size).filterMap λa=>if a=L\/(g.get? a).isSome=true then none else (h.get? a).map λo=>(a,o)
theorem A7{g h:Heap}{L a:Addr}{o:Obj}(h1:a≠L)(h2:g.get? a=none)(h3:h.get? a=some o):(a,o)∈mP g h L :=
 List.mem_filterMap.mpr ⟨a,Zs.mpr (Heap.lt_size h3),by simp[h1,h2,h3]⟩
theorem t7{g h:Heap}{L:Addr}{p:Addr×Obj}(hp:p∈mP g h L):p.1≠L/\g.get? p.1=none/\h.get? p.1=some p.2:=by
 obtain⟨b,_,e⟩:=List.mem_filterMap.mp hp;split at e
 ·cases e
 ·rename_i hn
  cases q:h.get? b with
  |none=>rw[q]at e;simp at e
  |some u =>
   rw[q]at e;simp only[Option.map_some,Option.some.injEq]at e;subst e;refine⟨λz=>hn (.inl z),?_,q⟩;show g.get? b=none;cases r:g.get? b with
   |none=>rfl
   |some v=>exact(hn (.inr (by simp[r]))).elim
theorem JT{g h:Heap}{L:Addr}:News g L h (mP g h L):=λp hp=>let⟨a,b,c⟩:=t7 hp;⟨c,a,b⟩
end L2
namespace L2
open PySem PySem.Spec PyProof.Rows
structure Mod(K:PySem.W.Frag)(mg:Str->Option Value)(base:Heap):Prop where
 kin:K.In base
 glob:base.Ns ZV mg
 blt:∃mb,base.Ns builtinsNs mb/\∀x:Str,x≠"__name__"->mb x=bootBuiltins x
 nolimit:base.NoLimit
structure Cx where
 prog:Program
 w:World
 K:PySem.W.Frag
 mg:Str->Option Value
 base:Heap
 A:Around
 N:List Str
 s₀:Shared
 H₀:Hp
 env:Env
 outer:List Env
 stack:List Env
 ex:List Addr
 fn:Str->Bool
 calm:Bool
 pn:List (Addr×Obj)
 xe:Value->Shared->Prop
def frs(l:List Env):List Addr:=l.filterMap (·.frame)
abbrev Cx.fs(X:Cx):List Addr:=frs X.outer
def Vis(sc:Scope)(x:Str):Prop:=sc.names.lookup x=some .local\/sc.names.lookup x=some .cell\/sc.names.lookup x=some .free
def Loc(sc:Scope)(x:Str):Prop:=sc.names.lookup x=some .local\/sc.names.lookup x=some .cell
def Look(env:Env)(h:Heap)(m:Str->Option Value)(x:Str)(u:Value):Prop :=
 (env.kindOf x=some .local/\m x=some u)\/((env.kindOf x=some .cell\/env.kindOf x=some .free)/\∃c,env.cells.lookup x=some c/\h.IsCell c (some u))
structure Cx.Ok(X:Cx):Prop where
 mod:Mod X.K X.mg X.base
 kind:X.env.scope.kind=.function
 glob:X.env.globals=ZV
 blt:X.env.builtins=builtinsNs
 above:X.s₀.heap.objs.size<=X.env.locals
 inj:∀x y c,X.env.cells.lookup x=some c->X.env.cells.lookup y=some c->x=y
 has:∀x,(X.env.kindOf x=some .cell\/X.env.kindOf x=some .free)->∃c,X.env.cells.lookup x=some c
 cab:∀x c,X.fn x=true->X.env.cells.lookup x=some c->X.s₀.heap.objs.size<=c
 hd:X.calm=true->X.A.handled=none
 frames:X.A.frames=some X.stack
 stk:X.stack=X.outer\/(X.stack=X.env::X.outer/\X.env.frame=some X.env.locals)
 exf:∀b∈X.ex,b≠X.env.locals/\∀x c,X.env.cells.lookup x=some c->c≠b
 bs:∀b o,X.base.get? b=some o->X.s₀.heap.get? b=some o/\X.H₀ b=none
 bsz:X.base.objs.size<=X.s₀.heap.objs.size
 noex:∀b o,X.base.get? b=some o->b∉X.ex
 exfs:∀b∈X.ex,b∉X.fs
 funs:X.s₀.heap.FunFrames X.base X.outer
 frf:∀b∈X.fs,X.H₀ b=none
structure Inv(X:Cx)(pins:List (Addr×Obj))(σ:List (Option V))(H:Hp)(s:Shared):Prop where
 ok:X.Ok
 os:s.os=X.s₀.os
 bare:AllBare s.gens
 base:Un X.fs X.ex X.H₀ H X.s₀.heap s.heap
 loc:∃m,s.heap.Ns X.env.locals m/\∀(i:Nat) (x:Str) (v:V),X.N[i]?=some x->σ[i]?=some (some v)->Vis X.env.scope x->∃u,RelV v u/\Look X.env s.heap m x u
 cell:∀x c,X.env.cells.lookup x=some c->∃v,s.heap.IsCell c v
 free:H X.env.locals=none
 freeC:∀x c,X.env.cells.lookup x=some c->H c=none
 pin:∀p∈X.pn++pins,s.heap.get? p.1=some p.2/\H p.1=none/\p.1≠X.env.locals/\p.1∉X.fs/\∀v,p.2.data≠.cell v
 hok:HOk X.prog X.w H s.heap
 len:σ.length=X.N.length
section
variable{X:Cx}{pins:List (Addr×Obj)}{σ:List (Option V)}{H H':Hp}{s:Shared}{h':Heap}
theorem Cx.Ok.nofr(ok:X.Ok){b:Addr}{o:Obj}(e:X.base.get? b=some o):b∉X.fs:=λhb=>by
 have:=(ok.funs.mem hb).1;rw[e]at this;cases this
theorem Inv.bs(I:Inv X pins σ H s):∀b o,X.base.get? b=some o->s.heap.get? b=some o/\H b=none:=λb o e =>
 ⟨I.base.keep b o (I.ok.bs b o e).1 (I.ok.bs b o e).2 (I.ok.nofr e) (I.ok.noex b o e),I.base.free b o (I.ok.bs b o e).1 (I.ok.bs b o e).2 (I.ok.noex b o e)⟩
theorem Inv.bk(I:Inv X pins σ H s):∀b o,X.base.get? b=some o->s.heap.get? b=some o:=λb o e=>(I.bs b o e).1
theorem Inv.mod(I:Inv X pins σ H s):Mod X.K X.mg X.base:=I.ok.mod
theorem Inv.kIn(I:Inv X pins σ H s):X.K.In s.heap:=I.ok.mod.kin.keeps I.bk
theorem Inv.nolimit(I:Inv X pins σ H s):s.heap.NoLimit:=I.ok.mod.nolimit.keeps I.bk
theorem Inv.fr(I:Inv X pins σ H s):∃m,Fr X.base X.env.locals s.heap m :=
 let⟨m,hn,_⟩:=I.loc
 ⟨m,hn,I.bk,Ys I.ok.bsz I.ok.above⟩
theorem Inv.lt(I:Inv X pins σ H s):X.env.locals<s.heap.objs.size:=let⟨_,hn,_⟩:=I.loc;hn.lt
theorem Inv.sz(I:Inv X pins σ H s):X.s₀.heap.objs.size<=s.heap.objs.size:=Ys I.ok.above (Nat.le_of_lt I.lt)
theorem Inv.nofs(I:Inv X pins σ H s){a:Addr}(h:s.heap.objs.size<=a):a∉X.fs:=λhb=>by
 obtain⟨_,o,ho,_⟩:=I.ok.funs.mem hb;exact absurd (YQ (Heap.lt_size ho) (Ys I.sz h)) (Nat.lt_irrefl _)
theorem Inv.cne(I:Inv X pins σ H s):∀x c,X.env.cells.lookup x=some c->c≠X.env.locals:=λx c e z=>by
 obtain⟨v,o,ho,hd⟩:=I.cell x c e;obtain⟨m,⟨o',es,ep,ho',hd',_⟩,_⟩:=I.loc;rw[z,ho']at ho;cases ho;rw[hd']at hd;cases hd
theorem Inv.funs(I:Inv X pins σ H s):s.heap.FunFrames X.base X.outer:=by
 have all:∀(l:List Env),(∀b∈frs l,b∈X.fs)->X.s₀.heap.FunFrames X.base l->s.heap.FunFrames X.base l:=by
  intro l;induction l with
  |nil=>intro _ _;trivial
  |cons env r ih =>
   intro hs hl;obtain⟨hk,⟨L,o,hf,hn,ho,hd⟩,hr⟩:=hl;have hL:L∈X.fs:=hs L (by unfold frs;rw[List.filterMap_cons,hf];exact Zd);obtain⟨sl,e⟩:=I.base.slot L o ho (I.ok.frf L hL) hL λz=>I.ok.exfs L z hL;exact⟨hk,⟨L,_,hf,hn,e,hd⟩,ih (λb hb=>hs b (by unfold frs;rw[List.filterMap_cons,hf];exact Zw _ hb)) hr⟩
 exact all X.outer (λ_ hb=>hb) I.ok.funs
theorem Inv.stack(I:Inv X pins σ H s):s.heap.FunFrames X.base X.stack:=by
 rcases I.ok.stk with e | ⟨e,hf⟩
 ·rw[e];exact I.funs
 ·rw[e];obtain⟨m,hn,_⟩:=I.loc;refine .cons (by rw[I.ok.kind];decide) hf hn ?_ I.funs;exact Heap.get?_none_of_le (Ys I.ok.bsz I.ok.above)
theorem Inv.stkSub(I:Inv X pins σ H s):∀b∈frs X.stack,b∈X.env.locals::X.fs:=λb hb=>by
 rcases I.ok.stk with e | ⟨e,hf⟩
 ·rw[e]at hb;exact Zw _ hb
 ·rw[e]at hb;unfold frs at hb;rw[List.filterMap_cons,hf]at hb;exact hb
theorem Inv.stkFree(I:Inv X pins σ H s):∀b∈frs X.stack,H b=none:=λb hb=>by
 rcases Zn.mp (I.stkSub b hb) with e | hb
 ·rw[e];exact I.free
 ·obtain⟨_,o,ho,_⟩:=I.ok.funs.mem hb;exact I.base.free b o ho (I.ok.frf b hb) λz=>I.ok.exfs b z hb
theorem Inv.step{g':Array GenState}{t':Nat}{d':Drawn}{ch:List Addr}(I:Inv X pins σ H s)
  (hch:∀b∈ch,(b∈X.ex\/X.s₀.heap.objs.size<=b)/\b≠X.env.locals/\(∀x c,X.env.cells.lookup x=some c->c≠b)/\∀p∈X.pn++pins,p.1≠b)
  (keep:∀b o,b≠X.env.locals->b∉X.fs->b∉ch->s.heap.get? b=some o->H b=none->h'.get? b=some o)
  (slot:∀b o,b≠X.env.locals->b∈X.fs->b∉ch->s.heap.get? b=some o->H b=none->∃sl,h'.get? b=some { o with slots:=sl }) (free:∀b o,b∉ch->s.heap.get? b=some o->H b=none->H' b=none)
  (there:∀b o,b∉ch->s.heap.get? b=some o->∃o',h'.get? b=some o')
  (tups:∀b xs,H b=some (.tup xs)->H' b=some (.tup xs)) (frzs:∀b o u,H b=some (.frz o u)->H' b=some (.frz o u)) (tbls:∀b ps,H b=some (.tbl ps)->∃more,H' b=some (.tbl (ps++more)))
  (ns:∀m,s.heap.Ns X.env.locals m->h'.Ns X.env.locals m) (hok:HOk X.prog X.w H' h') (hg:AllBare g') :
  Inv X pins σ H' { s with heap:=h',gens:=g',drawn:=d',toks:=t' }:=by
 have neL:∀b o,X.s₀.heap.get? b=some o->b≠X.env.locals:=λb o e=>Nat.ne_of_lt (YQ (Heap.lt_size e) I.ok.above);have neC:∀b o,X.s₀.heap.get? b=some o->b∉X.ex->b∉ch:=λb o e hx hb=>by
  rcases(hch b hb).1 with z | z
  ·exact hx z
  ·exact absurd (YQ (Heap.lt_size e) z) (Nat.lt_irrefl _)
 have cellK:∀x c,X.env.cells.lookup x=some c->∀v,s.heap.IsCell c v->h'.IsCell c v:=λx c e v ⟨o,ho,hd⟩=>by
  have nch:c∉ch:=λz=>(hch c z).2.2.1 x c e rfl;by_cases hc:c∈X.fs
  ·obtain⟨sl,q⟩:=slot c o (I.cne x c e) hc nch ho (I.freeC x c e);exact⟨_,q,hd⟩
  ·exact⟨o,keep c o (I.cne x c e) hc nch ho (I.freeC x c e),hd⟩
 refine⟨I.ok,I.os,hg,⟨λb o e n hb hx=>?_,λb o e n hb hx=>?_,λb o e n hx=>?_,λb o e hx=>?_,λb xs e=>tups b xs (I.base.tups b xs e),λb o xs e=>frzs b o xs (I.base.frzs b o xs e),λb ps e=>?_⟩,?_,λx c e=>?_,?_,λx c e=>?_,λp hp=>?_,hok,I.len⟩
 ·exact keep b o (neL b o e) hb (neC b o e hx) (I.base.keep b o e n hb hx) (I.base.free b o e n hx)
 ·obtain⟨sl,e1⟩:=I.base.slot b o e n hb hx;obtain⟨sl',e2⟩:=slot b _ (neL b o e) hb (neC b o e hx) e1 (I.base.free b o e n hx);exact⟨sl',e2⟩
 ·obtain⟨o',e1⟩:=I.base.there b o e hx;exact free b o' (neC b o e hx) e1 (I.base.free b o e n hx)
 ·obtain⟨o',e1⟩:=I.base.there b o e hx;exact there b o' (neC b o e hx) e1
 ·obtain⟨m1,e1⟩:=I.base.tbls b ps e;obtain⟨m2,e2⟩:=tbls b _ e1;exact⟨m1++m2,by rw[e2,Array.append_assoc]⟩
 ·obtain⟨m,hn,hl⟩:=I.loc;refine⟨m,ns m hn,λi x v e1 e2 e3=>?_⟩;obtain⟨u,r,l⟩:=hl i x v e1 e2 e3;refine⟨u,r,?_⟩;rcases l with l | ⟨k,c,e,z⟩
  ·exact .inl l
  ·exact .inr ⟨k,c,e,cellK x c e _ z⟩
 ·obtain⟨v,z⟩:=I.cell x c e;exact⟨v,cellK x c e v z⟩
 ·obtain⟨m,⟨o,_,_,ho,_⟩,_⟩:=I.loc;exact free _ o (λz=>(hch _ z).2.1 rfl) ho I.free
 ·obtain⟨v,o,ho,hd⟩:=I.cell x c e;exact free c o (λz=>(hch c z).2.2.1 x c e rfl) ho (I.freeC x c e)
 ·obtain⟨e,n,ne,nf,d⟩:=I.pin p hp;have nch:p.1∉ch:=λz=>(hch p.1 z).2.2.2 p hp rfl;exact⟨keep p.1 p.2 ne nf nch e n,free p.1 p.2 nch e n,ne,nf,d⟩
theorem Inv.un{t':Nat}(I:Inv X pins σ H s)(u:Un X.fs [] H H' s.heap h')(hok:HOk X.prog X.w H' h'):Inv X pins σ H' { s with heap:=h',toks:=t' }:=by
 obtain⟨m,⟨o,es,ep,ho,r⟩,_⟩:=id I.loc;obtain⟨sl,hL⟩:=u.any ho I.free (by simp);exact I.step (g':=s.gens) (d':=s.drawn) (ch:=[]) (λ_ z=>nomatch z) (λb o _ hb _ e n=>u.keep b o e n hb (by simp)) (λb o _ hb _ e n=>u.slot b o e n hb (by simp)) (λb o _ e n=>u.free b o e n (by simp)) (λb o _ e=>u.there b o e (by simp)) u.tups u.frzs u.tbls (λm' hm=>by
  obtain⟨o',es',ep',ho',r'⟩:=hm;rw[ho]at ho';cases ho';exact⟨_,es',ep',hL,r'⟩) hok I.bare
theorem Inv.call{g':Array GenState}{t':Nat}{d':Drawn}{ch:List Addr}(I:Inv X pins σ H s)(u:Un (frs X.stack) ch H H' s.heap h')(hok:HOk X.prog X.w H' h')(hg:AllBare g')
  (hch:∀b∈ch,(b∈X.ex\/X.s₀.heap.objs.size<=b)/\b≠X.env.locals/\(∀x c,X.env.cells.lookup x=some c->c≠b)/\∀p∈X.pn++pins,p.1≠b) :
  Inv X pins σ H' { s with heap:=h',gens:=g',drawn:=d',toks:=t' }:=by
 obtain⟨m,⟨o,es,ep,ho,r⟩,_⟩:=id I.loc;obtain⟨sl,hL⟩:=u.any ho I.free λz=>(hch _ z).2.1 rfl;exact I.step (ch:=ch) hch (λb o hL hb hc e n=>u.keep b o e n (λz=>(Zn.mp (I.stkSub b z)).elim hL hb) hc) (λb o _ _ hc e n=>u.any e n hc) (λb o hc e n=>u.free b o e n hc) (λb o hc e=>u.there b o e hc) u.tups u.frzs u.tbls (λm' hm=>by
  obtain⟨o',es',ep',ho',r'⟩:=hm;rw[ho]at ho';cases ho';exact⟨_,es',ep',hL,r'⟩) hok hg
theorem Inv.turned{t':Nat}{it:Addr}(I:Inv X pins σ H s)(k:∀b o,b≠it->s.heap.get? b=some o->h'.get? b=some o)(hn:H it=none)(hL:it≠X.env.locals)
  (h1:it∈X.ex\/X.s₀.heap.objs.size<=it) (h2:∀x c,X.env.cells.lookup x=some c->c≠it) (h3:∀p∈X.pn++pins,p.1≠it):Inv X pins σ H { s with heap:=h',toks:=t' }:=by
 have nit:∀b u,H b=some u->b≠it:=λb u e z=>by rw[z,hn]at e;cases e
 refine I.step (g':=s.gens) (d':=s.drawn) (ch:=[it]) (λb hb=>?_) (λb o _ _ hc e _=>k b o (λz=>hc (by simp[z])) e) (λb o _ _ hc e _=>⟨o.slots,k b o (λz=>hc (by simp[z])) e⟩) (λ_ _ _ _ n=>n)
  (λb o hc e=>⟨o,k b o (λz=>hc (by simp[z])) e⟩) (λ_ _ e=>e) (λ_ _ _ e=>e) (λb ps e=>⟨#[],by rw[e];simp⟩) (λm hm=>?_) (λb u e=>?_) I.bare
 ·have e:b=it:=by simpa using hb
  subst e;exact⟨h1,hL,h2,h3⟩
 ·obtain⟨o,es,ep,ho,r⟩:=hm;exact⟨o,es,ep,k _ o (Ne.symm hL) ho,r⟩
 ·refine(I.hok b u e).stay (λc v hc q=>k c v ?_ q) (λ_ q=>q) λ_ _ q=>q;rcases hc with z | z
  ·rw[z];exact nit b u e
  ·exact nit c _ z
theorem Inv.tok(I:Inv X pins σ H s)(t:Nat):Inv X pins σ H { s with toks:=t }:=I.un (h':=s.heap) (t':=t) Un.refl I.hok
theorem Inv.kept{t':Nat}(I:Inv X pins σ H s)(k:∀b u,s.heap.get? b=some u->h'.get? b=some u):Inv X pins σ H { s with heap:=h',toks:=t' }:=I.un (Un.kept k) (I.hok.kept k)
theorem Inv.laid{a:Addr}{o:HO}{t':Nat}(I:Inv X pins σ H s)(k:∀b u,s.heap.get? b=some u->h'.get? b=some u)(hp:s.heap.objs.size<=a)(new:cG X.prog X.w (upd H a o) h' a o) :
  Inv X pins σ (upd H a o) { s with heap:=h',toks:=t' }:=I.un (Un.laid k hp (I.hok.fresh hp)) (I.hok.laid k hp new)
theorem Inv.write{x e:Addr}{o:HO}{t':Nat}(I:Inv X pins σ H s)(mu:Mut (H x))(he:e=x\/H e=some (.own x))(k:∀b u,b≠e->s.heap.get? b=some u->h'.get? b=some u)(heo:∃u,h'.get? e=some u)
  (new:cG X.prog X.w (upd H x o) h' x o):Inv X pins σ (upd H x o) { s with heap:=h',toks:=t' }:=I.un (Un.write mu he k heo) (I.hok.write mu he k heo new)
theorem Inv.weak{σ':List (Option V)}(I:Inv X pins σ H s)(hl:σ'.length=σ.length)(w:∀(i:Nat) v,σ'[i]?=some (some v)->σ[i]?=some (some v)):Inv X pins σ' H s :=
 ⟨I.ok,I.os,I.bare,I.base,let⟨m,hn,hl'⟩:=I.loc;⟨m,hn,λi x v e1 e2 e3=>hl' i x v e1 (w i v e2) e3⟩,I.cell,I.free,I.freeC,I.pin,I.hok,hl.trans I.len⟩
theorem Inv.pins_of{pins':List (Addr×Obj)}(I:Inv X pins σ H s)(h:∀p∈pins',s.heap.get? p.1=some p.2/\H p.1=none/\p.1≠X.env.locals/\p.1∉X.fs/\∀v,p.2.data≠.cell v):Inv X pins' σ H s :=
 ⟨I.ok,I.os,I.bare,I.base,I.loc,I.cell,I.free,I.freeC,λp hp=>(Zf.mp hp).elim (λz=>I.pin p (List.mem_append_left _ z)) (h p),I.hok,I.len⟩
theorem A2{N:List Str}(hN:N.Nodup){i j:Nat}{x:Str}(a:N[i]?=some x)(b:N[j]?=some x):i=j:=by
 obtain⟨h1,e1⟩:=Zj.mp a;obtain⟨h2,e2⟩:=Zj.mp b;exact(List.getElem_inj hN).mp (e1.trans e2.symm)
theorem FS{M:Model}{A:Around}{E:Value->Shared->Prop}{i:Nat}{x:Str}{v:V}{u:Value}{Q:Unit->Shared->Prop}(I:Inv X pins σ H s)(hN:X.N.Nodup)(hi:X.N[i]?=some x)(hx:Loc X.env.scope x)(r:RelV v u)
  (h:∀s',Inv X pins (σ.set i (some v)) H s'->(∃a,Heap.SameBut a s.heap s'.heap/\(a=X.env.locals\/X.env.cells.lookup x=some a))->Q () s') (hf:X.fn x=true\/X.env.scope.names.lookup x=some .local:=by first | exact .inl rfl | exact .inr rfl | assumption):wpAny M A (storeName X.env x u) Q E s:=by
 obtain⟨m,hn,hl⟩:=id I.loc;have hcls:(X.env.scope.kind==.class||(X.env.scope.kind==.module&&X.env.locals != X.env.globals))=false:=by rw[I.ok.kind];rfl
 have hiσ:i<σ.length:=by rw[I.len];exact(Zj.mp hi).1
 have cne:=I.cne;have tracked:∀{a:Addr}{h':Heap},(∃o,s.heap.get? a=some o/\H a=none)->Heap.SameBut a s.heap h'->HOk X.prog X.w H h':=λ{a h'} ha hs b ob e=>by
  obtain⟨_,_,hfree⟩:=ha;refine(I.hok b ob e).stay (λc w' hc q=>(hs.2 c ?_).trans q) (λ_ q=>q) λ_ _ q=>q;rintro rfl;rcases hc with rfl | hc
  ·rw[hfree]at e;cases e
  ·rw[hfree]at hc;cases hc
 rcases hx with hk | hk
 ·refine wpAny_storeName_local hk hn (λh' hn' hs=>?_) hcls;obtain⟨oL,_,_,hoL,_⟩:=id hn;refine h _ ⟨I.ok,I.os,I.bare,⟨λb o e n hb hx=>?_,λb o e n hb hx=>?_,I.base.free,λb o e hx=>?_,I.base.tups,I.base.frzs,I.base.tbls⟩,⟨_,hn',λj y v' e1 e2 e3=>?_⟩,λy c e=>?_,I.free,I.freeC,λp hp=>?_,tracked ⟨oL,hoL,I.free⟩ hs,by simpa using I.len⟩ ⟨_,hs,.inl rfl⟩
  ·exact(hs.2 b (Nat.ne_of_lt (YQ (Heap.lt_size e) I.ok.above))).trans (I.base.keep b o e n hb hx)
  ·obtain⟨sl,e1⟩:=I.base.slot b o e n hb hx;exact⟨sl,(hs.2 b (Nat.ne_of_lt (YQ (Heap.lt_size e) I.ok.above))).trans e1⟩
  ·obtain⟨o',e1⟩:=I.base.there b o e hx;exact⟨o',(hs.2 b (Nat.ne_of_lt (YQ (Heap.lt_size e) I.ok.above))).trans e1⟩
  ·by_cases hj:j=i
   ·subst hj;rw[hi]at e1;cases e1;rw[List.getElem?_set_self hiσ]at e2;cases e2;exact⟨u,r,.inl ⟨hk,by simp⟩⟩
   ·rw[List.getElem?_set_ne (Ne.symm hj)]at e2;obtain⟨u',r',q⟩:=hl j y v' e1 e2 e3;refine⟨u',r',?_⟩;rcases q with⟨k,e⟩ | ⟨k,c,e,z⟩
    ·refine .inl ⟨k,?_⟩;have:y≠x:=λe=>hj (A2 hN e1 (e▸hi));simp[this,e]
    ·exact .inr ⟨k,c,e,z.sameBut hs (cne y c e)⟩
  ·obtain⟨w',z⟩:=I.cell y c e;exact⟨w',z.sameBut hs (cne y c e)⟩
  ·obtain⟨e,n,ne,nf,d⟩:=I.pin p hp;exact⟨(hs.2 p.1 ne).trans e,n,ne,nf,d⟩
 ·have hfn:X.fn x=true:=by
   rcases hf with z | z
   ·exact z
   ·rw[z]at hk;cases hk
  obtain⟨c,hc⟩:=I.ok.has x (.inl hk);obtain⟨w',z⟩:=I.cell x c hc;refine wpAny_storeName_cell I.ok.kind hk hc z (λh' hc' hs=>?_);obtain⟨oc,hoc,hocd⟩:=id z;refine h { s with heap:=h' } ⟨I.ok,I.os,I.bare,⟨λb o e n hb hx=>?_,λb o e n hb hx=>?_,I.base.free,λb o e hx=>?_,I.base.tups,I.base.frzs,I.base.tbls⟩,⟨m,hn.sameBut hs (Ne.symm (cne x c hc)),λj y v' e1 e2 e3=>?_⟩,λy c' e=>?_,I.free,I.freeC,λp hp=>?_,tracked ⟨oc,hoc,I.freeC x c hc⟩ hs,by simpa using I.len⟩ ⟨c,hs,.inr hc⟩
  ·exact(hs.2 b (Nat.ne_of_lt (YQ (Heap.lt_size e) (I.ok.cab x c hfn hc)))).trans (I.base.keep b o e n hb hx)
  ·obtain⟨sl,e1⟩:=I.base.slot b o e n hb hx;exact⟨sl,(hs.2 b (Nat.ne_of_lt (YQ (Heap.lt_size e) (I.ok.cab x c hfn hc)))).trans e1⟩
  ·obtain⟨o',e1⟩:=I.base.there b o e hx;exact⟨o',(hs.2 b (Nat.ne_of_lt (YQ (Heap.lt_size e) (I.ok.cab x c hfn hc)))).trans e1⟩
  ·by_cases hj:j=i
   ·subst hj;rw[hi]at e1;cases e1;rw[List.getElem?_set_self hiσ]at e2;cases e2;exact⟨u,r,.inr ⟨.inl hk,c,hc,hc'⟩⟩
   ·rw[List.getElem?_set_ne (Ne.symm hj)]at e2;obtain⟨u',r',q⟩:=hl j y v' e1 e2 e3;refine⟨u',r',?_⟩;rcases q with q | ⟨k,c',e,z'⟩
    ·exact .inl q
    ·refine .inr ⟨k,c',e,z'.sameBut hs ?_⟩;rintro rfl;exact hj (A2 hN e1 (I.ok.inj _ _ _ e hc▸hi))
  ·by_cases hcc:c'=c
   ·subst hcc;exact⟨_,hc'⟩
   ·obtain⟨w2,z2⟩:=I.cell y c' e;exact⟨w2,z2.sameBut hs hcc⟩
  ·obtain⟨e,n,ne,nf,d⟩:=I.pin p hp;refine⟨(hs.2 p.1 ?_).trans e,n,ne,nf,d⟩;intro q;rw[q,hoc]at e;have q':oc=p.2:=Option.some.inj e;exact d w' (by rw[<-q'];exact hocd)
theorem kY{M:Model}{A:Around}{E:Value->Shared->Prop}{i:Nat}{x:Str}{v:V}{u:Value}{Q:Unit->Shared->Prop}(I:Inv X pins σ H s)(hN:X.N.Nodup)(hi:X.N[i]?=some x)(hx:Loc X.env.scope x)(r:RelV v u)
  (h:∀s',Inv X pins (σ.set i (some v)) H s'->Q () s') (hf:X.fn x=true\/X.env.scope.names.lookup x=some .local:=by first | exact .inl rfl | exact .inr rfl | assumption):wpAny M A (storeName X.env x u) Q E s :=
 FS I hN hi hx r (λs' I' _=>h s' I') hf
theorem Inv.call'{s':Shared}{ch:List Addr}(I:Inv X pins σ H s)(ho:s'.os=s.os)(u:Un (frs X.stack) ch H H' s.heap s'.heap)(hok:HOk X.prog X.w H' s'.heap)(hg:AllBare s'.gens)
  (hch:∀b∈ch,(b∈X.ex\/X.s₀.heap.objs.size<=b)/\b≠X.env.locals/\(∀x c,X.env.cells.lookup x=some c->c≠b)/\∀p∈X.pn++pins,p.1≠b):Inv X pins σ H' s':=by
 obtain⟨h',g',d',t',o'⟩:=s';have e:o'=s.os:=ho;subst e;exact I.call (g':=g') (t':=t') (d':=d') u hok hg hch
end
abbrev XK:=Value->Option Addr->Hp->Prop
abbrev St:=List (Option V)
abbrev VK:=V->Hp->Prop
abbrev TE:=St->Hp->VK->Prop
abbrev TT:=St->Hp->(Bool->Hp->Prop)->Prop
abbrev TA:=St->Hp->(List V->Hp->Prop)->Prop
structure Ends where
 nx:St->Hp->Prop
 rt:VK
 bk:St->Hp->Prop:=λ_ _=>False
 ct:St->Hp->Prop:=λ_ _=>False
abbrev TS:=Ends->St->Hp->Prop
def EP(X:Cx)(pins:List (Addr×Obj))(σ:St)(Q:VK)(u:Value)(s':Shared):Prop:=∃v H',Inv X pins σ H' s'/\RelV v u/\Q v H'
def TP(X:Cx)(pins:List (Addr×Obj))(σ:St)(Q:Bool->Hp->Prop)(b:Bool)(s':Shared):Prop:=∃H',Inv X pins σ H' s'/\Q b H'
def AP(X:Cx)(pins:List (Addr×Obj))(σ:St)(Q:List V->Hp->Prop)(us:List Value)(s':Shared):Prop:=∃vs H',Inv X pins σ H' s'/\bJ vs us/\Q vs H'
def SP(X:Cx)(pins:List (Addr×Obj))(D:Ends)(f:Flow)(s':Shared):Prop :=
 match f with
 |.next=>∃σ' H',Inv X pins σ' H' s'/\D.nx σ' H'
 |.brk=>∃σ' H',Inv X pins σ' H' s'/\D.bk σ' H'
 |.cont=>∃σ' H',Inv X pins σ' H' s'/\D.ct σ' H'
 |.ret u=>∃v σ' H',Inv X pins σ' H' s'/\RelV v u/\D.rt v H'
def PE(X:Cx)(e:Expr)(t:TE):Prop :=
 ∀(pins:List (Addr×Obj)) (s:Shared) (σ:St) (H:Hp) (Q:VK),Inv X pins σ H s->t σ H Q->wpAny (model X.prog X.w) X.A (eval e X.env) (EP X pins σ Q) X.xe s
def PT(X:Cx)(e:Expr)(t:TT):Prop :=
 ∀(pins:List (Addr×Obj)) (s:Shared) (σ:St) (H:Hp) (Q:Bool->Hp->Prop),Inv X pins σ H s->t σ H Q->wpAny (model X.prog X.w) X.A (isTrue e X.env (eval e X.env)) (TP X pins σ Q) X.xe s
def PW(X:Cx)(e:Expr)(t:TT):Prop :=
 ∀(whole:Sem Value) (pins:List (Addr×Obj)) (s:Shared) (σ:St) (H:Hp) (Q:Bool->Hp->Prop),Inv X pins σ H s->t σ H Q->wpAny (model X.prog X.w) X.A (isTrue e X.env whole) (TP X pins σ Q) X.xe s
theorem PW.pt{X:Cx}{e:Expr}{t:TT}(h:PW X e t):PT X e t:=h _
def PA(X:Cx)(es:List Expr)(t:TA):Prop :=
 ∀(pos:Pos) (pins:List (Addr×Obj)) (s:Shared) (σ:St) (H:Hp) (Q:List V->Hp->Prop),Inv X pins σ H s->t σ H Q->wpAny (model X.prog X.w) X.A (spliced (backTo pos (starEach es X.env))) (AP X pins σ Q) X.xe s
def PS(X:Cx)(st:Stmt)(t:TS):Prop :=
 ∀(pins:List (Addr×Obj)) (s:Shared) (σ:St) (H:Hp) (D:Ends),Inv X pins σ H s->t D σ H->wpAny (model X.prog X.w) X.A (exec st X.env) (SP X pins D) X.xe s
def PSs(X:Cx)(st:List Stmt)(t:TS):Prop :=
 ∀(pins:List (Addr×Obj)) (s:Shared) (σ:St) (H:Hp) (D:Ends),Inv X pins σ H s->t D σ H->wpAny (model X.prog X.w) X.A (execs st X.env) (SP X pins D) X.xe s
theorem thn{α:Type}{t:Sem α}{Q Q':α->Shared->Prop}{M:Model}{A:Around}{E:Value->Shared->Prop}{s:Shared}(h:wpAny M A t Q E s)(hQ:∀a s,Q a s->Q' a s):wpAny M A t Q' E s:=ZX h hQ λ_ _ x=>x
end L2
namespace L2
open PySem PySem.Spec PyProof.Rows
section
variable{X:Cx}
theorem bin{a b:Expr}{ta tb:TE}(ha:PE X a ta)(hb:PE X b tb){pins:List (Addr×Obj)}{s:Shared}{σ:St}{H:Hp}{R:V->V->Hp->Prop}(I:Inv X pins σ H s)(h:ta σ H λx H1=>tb σ H1 λy H2=>R x y H2)
  {α:Type}{Q:α->Shared->Prop}{f:Value->Value->Sem α}
  (hf:∀v u s2 x y H2,Inv X pins σ H2 s2->RelV x v->RelV y u->R x y H2->wpAny (model X.prog X.w) X.A (f v u) Q X.xe s2) :
  wpAny (model X.prog X.w) X.A (eval a X.env) (λv s₁=>wpAny (model X.prog X.w) X.A (eval b X.env) (λu s₂=>wpAny (model X.prog X.w) X.A (f v u) Q X.xe s₂) X.xe s₁) X.xe s:=by
 refine thn (ha pins s σ H _ I h) λv s1 ⟨x,H1,I1,r1,q1⟩=>?_;refine thn (hb pins s1 σ H1 _ I1 q1) λu s2 ⟨y,H2,I2,r2,q2⟩=>?_;exact hf v u s2 x y H2 I2 r1 r2 q2
def QS(i:Nat):TE:=λσ H Q=>∃v,σ[i]?=some (some v)/\Q v H
def tC(v:V):TE:=λ_ H Q=>Q v H
theorem O6{i:Nat}{x:Str}{pos:Pos}(hN:X.N[i]?=some x)(hv:Vis X.env.scope x)(hd:(x==("__debug__" : Str))=false:=by decide)(hcd:(x==("__classdict__" : Str))=false:=by decide):PE X (.Name x pos) (QS i):=by
 intro pins s σ H Q I h;obtain⟨v,e,h⟩:=h;obtain⟨m,hn,hl⟩:=I.loc;obtain⟨u,r,l⟩:=hl i x v hN e hv;have fin:EP X pins σ Q u s:=⟨v,H,I,r,h⟩
 rcases l with⟨hk,hm⟩ | ⟨hk,c,hc,hcell⟩
 ·exact wpAny_Name (wpAny_loadName_local I.ok.kind hk hn hm fin) hd
 ·rcases hk with hk | hk
  ·exact wpAny_Name (wpAny_loadName_cell I.ok.kind hk hc hcell fin) hd
  ·exact wpAny_Name (wpAny_loadName_free I.ok.kind hk hc hcell fin hcd) hd
theorem aC{i j pos}:PE X (.Constant (.int i) j pos) (tC (.int i)):=λ_ _ _ H _ I h=>wpAny_Constant_int ⟨.int i,H,I.tok _,⟨_,rfl⟩,h⟩
theorem xD{b j pos}:PE X (.Constant (.bool b) j pos) (tC (.bl b)):=λ_ _ _ H _ I h=>Constant_bool ⟨.bl b,H,I,rfl,h⟩
theorem IU{j pos}:PE X (.Constant .none j pos) (tC .non):=λ_ _ _ H _ I h=>Constant_none ⟨.non,H,I,rfl,h⟩
def Gl(X:Cx)(x:Str):Prop:=X.env.kindOf x=some .globalImplicit
theorem ES{E:Value->Shared->Prop}{pins:List (Addr×Obj)}{s:Shared}{σ:St}{H:Hp}{x:Str}{u:Value}{pos:Pos}{Q:Value->Shared->Prop}(I:Inv X pins σ H s)(hg:Gl X x)(hm:X.mg x=some u)(h:Q u s)
  (hd:(x==("__debug__" : Str))=false:=by decide):wpAny (model X.prog X.w) X.A (eval (.Name x pos) X.env) Q E s :=
 Calls.Name_function_global I.ok.kind hg (Calls.loadGlobal_global (by rw[I.ok.glob];exact I.mod.glob.keeps I.bk) hm h) hd
theorem nS{E:Value->Shared->Prop}{pins:List (Addr×Obj)}{s:Shared}{σ:St}{H:Hp}{x:Str}{u:Value}{pos:Pos}{Q:Value->Shared->Prop}(I:Inv X pins σ H s)(hg:Gl X x)(hm:X.mg x=none)(hv:bootBuiltins x=some u)(h:Q u s)
  (hn:x≠"__name__":=by decide) (hd:(x==("__debug__" : Str))=false:=by decide):wpAny (model X.prog X.w) X.A (eval (.Name x pos) X.env) Q E s:=by
 obtain⟨mb,h1,h2⟩:=I.mod.blt;exact Calls.Name_function_global I.ok.kind hg (Calls.loadGlobal_builtin (by rw[I.ok.glob];exact I.mod.glob.keeps I.bk) hm (by rw[I.ok.blt];exact h1.keeps I.bk) ((h2 x hn).trans hv) h) hd
theorem EJ{x:Str}{v:V}{u:Value}{pos:Pos}(hg:Gl X x)(hm:X.mg x=some u)(r:RelV v u)(hd:(x==("__debug__" : Str))=false:=by decide):PE X (.Name x pos) (tC v) :=
 λ_ _ _ H _ I h=>ES I hg hm ⟨v,H,I,r,h⟩ hd
theorem sO{x:Str}{v:V}{u:Value}{pos:Pos}(hg:Gl X x)(hm:X.mg x=none)(hv:bootBuiltins x=some u)(r:RelV v u)(hn:x≠"__name__":=by decide)(hd:(x==("__debug__" : Str))=false:=by decide):PE X (.Name x pos) (tC v) :=
 λ_ _ _ H _ I h=>nS I hg hm hv ⟨v,H,I,r,h⟩ hn hd
variable{a b:Expr}{ta tb:TE}{pos:Pos}
def PC(X:Cx)(op:CmpOp)(a b:Expr)(t:TE):Prop :=
 ∀(pins:List (Addr×Obj)) (s:Shared) (σ:St) (H:Hp) (Q:VK),Inv X pins σ H s->t σ H Q ->
  wpAny (model X.prog X.w) X.A (eval a X.env) (λv s₁=>wpAny (model X.prog X.w) X.A (eval b X.env) (λu s₂=>wpAny (model X.prog X.w) X.A (compareOp op v u) (EP X pins σ Q) X.xe s₂) X.xe s₁) X.xe s
def tB(t:TE):TT:=λσ H Q=>t σ H λx H1=>∃c,x=.bl c/\Q c H1
theorem y6{op:CmpOp}{t:TE}(h:PC X op a b t)(h1:behindInMarks op b=false:=by first | exact nobehind _ (by decide) (by decide) | rfl):PT X (.Compare a [op] [b] pos) (tB t):=by
 intro pins s σ H Q I hw;refine wpAny_isTrue_Compare1 (thn (h pins s σ H _ I hw) λv s1 h1=>thn h1 λu s2 h2=>thn h2 λc s3 ⟨x,H1,I1,r1,q1⟩=>?_) h1;obtain⟨d,rfl,q⟩:=q1;cases r1;exact wpAny_truthy_bool ⟨H1,I1,q⟩
variable{tA tB':TT}{rest:List Expr}
def SM(t u:TT):TT:=λσ H Q=>t σ H λc H1=>if c=true then u σ H1 Q else Q false H1
def tOr(t u:TT):TT:=λσ H Q=>t σ H λc H1=>if c=true then Q true H1 else u σ H1 Q
def SH(t:TT):TT:=λσ H Q=>t σ H λc H1=>Q (!c) H1
theorem y0(ha:PT X a tA):PW X (.BoolOp .And [a] pos) tA:=by
 intro wh pins s σ H Q I h;refine isTrue_and (thn (ha pins s σ H Q I h) λc s1 e=>?_);cases c with
 |true=>exact isTrue_and_nil e
 |false=>exact e
theorem qJ(ha:PT X a tA):PW X (.BoolOp .Or [a] pos) tA:=by
 intro wh pins s σ H Q I h;refine isTrue_or (thn (ha pins s σ H Q I h) λc s1 e=>?_);cases c with
 |false=>exact isTrue_or_nil e
 |true=>exact e
theorem C0(ha:PT X a tA)(hb:PW X (.BoolOp .And (b::rest) pos) tB'):PW X (.BoolOp .And (a::b::rest) pos) (SM tA tB'):=by
 intro wh pins s σ H Q I h;refine isTrue_and (thn (ha pins s σ H _ I h) λc s1 ⟨H1,I1,q1⟩=>?_);cases c with
 |true=>exact hb wh pins s1 σ H1 Q I1 q1
 |false=>exact⟨H1,I1,q1⟩
theorem mW(ha:PT X a tA)(hb:PW X (.BoolOp .Or (b::rest) pos) tB'):PW X (.BoolOp .Or (a::b::rest) pos) (tOr tA tB'):=by
 intro wh pins s σ H Q I h;refine isTrue_or (thn (ha pins s σ H _ I h) λc s1 ⟨H1,I1,q1⟩=>?_);cases c with
 |true=>exact⟨H1,I1,q1⟩
 |false=>exact hb wh pins s1 σ H1 Q I1 q1
theorem y4(ha:PT X a tA):PT X (.UnaryOp .Not a pos) (SH tA):=by
 intro pins s σ H Q I h;exact isTrue_not (ha pins s σ H (λc H1=>Q (!c) H1) I h)
def Q3(ta tb:TE):TE:=λσ H Q=>ta σ H λx H1=>∃c,x=.bl c/\if c=true then tb σ H1 Q else Q (.bl false) H1
def QW(ta:TE):TE:=λσ H Q=>ta σ H λx H1=>∃c,x=.bl c/\Q (.bl (!c)) H1
theorem O8{op}{t:TE}(h:PE X a t):PE X (.BoolOp op [a] pos) t:=λpins s σ H Q I hw=>BoolOp_one (h pins s σ H Q I hw)
theorem PH(ha:PE X a ta)(hb:PE X (.BoolOp .And (b::rest) pos) tb):PE X (.BoolOp .And (a::b::rest) pos) (Q3 ta tb):=by
 intro pins s σ H Q I h;refine BoolOp_and (thn (ha pins s σ H _ I h) λv s1 ⟨x,H1,I1,r1,q1⟩=>?_);obtain⟨c,rfl,q1⟩:=q1;cases r1;refine wpAny_truthy_bool ?_;cases c with
 |true=>exact hb pins s1 σ H1 Q I1 q1
 |false=>exact⟨.bl false,H1,I1,rfl,q1⟩
theorem O9(ha:PE X a ta):PE X (.UnaryOp .Not a pos) (QW ta):=by
 intro pins s σ H Q I h;refine UnaryOp_ (thn (ha pins s σ H _ I h) λv s1 ⟨x,H1,I1,r1,q1⟩=>?_);obtain⟨c,rfl,q1⟩:=q1;cases r1;exact not_of (wpAny_truthy_bool ⟨.bl (!c),H1,I1,rfl,q1⟩)
def tIf(t:TT)(ta tb:TE):TE:=λσ H Q=>t σ H λc H1=>if c=true then ta σ H1 Q else tb σ H1 Q
theorem IV{c:Expr}(hc:PT X c tA)(ha:PE X a ta)(hb:PE X b tb):PE X (.IfExp c a b pos) (tIf tA ta tb):=by
 intro pins s σ H Q I h;refine wpAny_IfExp (thn (hc pins s σ H _ I h) λd s1 ⟨H1,I1,q1⟩=>?_);cases d with
 |true=>exact ha pins s1 σ H1 Q I1 q1
 |false=>exact hb pins s1 σ H1 Q I1 q1
end
end L2
namespace L2
open PySem PySem.Spec PyProof.Rows
def SqL(K:PySem.W.Frag)(H:Hp)(a:Addr)(xs:List V):Prop :=
 Rd H a (.lst xs) \/
  ∃(o:Obj) (its:Array Value) (n:Nat),K.lookup a=some o/\o.cls=.type "list"/\o.dict=none/\o.data=.seq its n/\its.size<=ZW/\bJ xs its.toList
def SqT(K:PySem.W.Frag)(H:Hp)(a:Addr)(xs:List V):Prop :=
 Rd H a (.tup xs) \/
  ∃(o:Obj) (its:Array Value) (n:Nat),K.lookup a=some o/\o.cls=.type "tuple"/\o.data=.seq its n/\its.size<=ZW/\bJ xs its.toList
def TN:Value->Option V
 |.none=>some .non
 |.bool b=>some (.bl b)
 |.int i _=>some (.int i)
 |.str x _=>some (.str x)
 |.bytes b _=>some (.byt b)
 |.float b _=>some (.flt b)
 |.ref a=>some (.ref a)
 |.type n=>some (.ty n)
 |_=>none
theorem RelV.abs{x:V}{u:Value}(r:RelV x u):TN u=some x:=by
 cases x with
 |non=>cases r;rfl
 |bl _=>cases r;rfl
 |int _=>obtain⟨t,rfl⟩:=r;rfl
 |str _=>obtain⟨t,rfl⟩:=r;rfl
 |byt _=>obtain⟨t,rfl⟩:=r;rfl
 |flt _=>obtain⟨t,rfl⟩:=r;rfl
 |ref _=>cases r;rfl
 |ty _=>cases r;rfl
theorem RelV.inj{x y:V}{u:Value}(r:RelV x u)(q:RelV y u):x=y:=Option.some.inj (r.abs.symm.trans q.abs)
theorem bJ.inj:∀{xs ys:List V}{us:List Value},bJ xs us->bJ ys us->xs=ys
 |_,_,_,.nil,.nil=>rfl
 |_,_,_,.cons r t,.cons r' t'=>by rw[r.inj r',bJ.inj t t']
section
variable{X:Cx}{pins:List (Addr×Obj)}{σ:St}{H:Hp}{s:Shared}{a:Addr}{xs ys:List V}
theorem SqL.of{K:PySem.W.Frag}(h:H a=some (.lst xs)):SqL K H a xs:=.inl (.inl h)
theorem SqT.of{K:PySem.W.Frag}(h:H a=some (.tup xs)):SqT K H a xs:=.inl (.inl h)
theorem Inv.list(I:Inv X pins σ H s)(h:SqL X.K H a xs):∃its:List Value,bJ xs its/\PlainL s.heap a its.toArray/\xs.length<=ZW:=by
 rcases h with h | ⟨o,its,n,hk,hc,hd,hs,hz,r⟩
 ·obtain⟨z,its,n,r,e⟩:=h.ok I.hok;exact⟨its,r,⟨_,n,e,rfl,rfl,rfl⟩,z⟩
 ·refine⟨its.toList,r,⟨o,n,I.kIn a o hk,hc,hd,by simpa using hs⟩,?_⟩;have e:=r.length;simp only[Array.length_toList]at e
  lia
theorem Inv.tuple(I:Inv X pins σ H s)(h:SqT X.K H a xs):∃its:List Value,bJ xs its/\IsTup s.heap a its.toArray/\xs.length<=ZW:=by
 rcases h with h | ⟨o,its,n,hk,hc,hs,hz,r⟩
 ·obtain⟨z,its,r,p⟩:=h.ok I.hok;exact⟨its,r,p,z⟩
 ·refine⟨its.toList,r,⟨o,I.kIn a o hk,hc,n,by simpa using hs⟩,?_⟩;have e:=r.length;simp only[Array.length_toList]at e
  lia
theorem Inv.list_inj(I:Inv X pins σ H s)(h:SqL X.K H a xs)(h':SqL X.K H a ys):xs=ys:=by
 obtain⟨its,r,⟨o,n,e,_,_,d⟩,_⟩:=I.list h;obtain⟨its',r',⟨o',n',e',_,_,d'⟩,_⟩:=I.list h';rw[e]at e';cases e';rw[d]at d';injection d' with d1 _;have:its=its':=by simpa using congrArg Array.toList d1
 subst this;exact r.inj r'
end
abbrev Cx.wish(X:Cx)(E:Value->Shared->Prop):Cx:={ X with xe:=E }
abbrev Cx.nox(X:Cx):Cx:=X.wish λ_ _=>False
theorem Cx.Ok.wish{X:Cx}(ok:X.Ok)(E:Value->Shared->Prop):(X.wish E).Ok :=
 ⟨ok.mod,ok.kind,ok.glob,ok.blt,ok.above,ok.inj,ok.has,ok.cab,ok.hd,ok.frames,ok.stk,ok.exf,ok.bs,ok.bsz,ok.noex,ok.exfs,ok.funs,ok.frf⟩
theorem Cx.Ok.unwish{X:Cx}{E:Value->Shared->Prop}(ok:(X.wish E).Ok):X.Ok :=
 ⟨ok.mod,ok.kind,ok.glob,ok.blt,ok.above,ok.inj,ok.has,ok.cab,ok.hd,ok.frames,ok.stk,ok.exf,ok.bs,ok.bsz,ok.noex,ok.exfs,ok.funs,ok.frf⟩
section
variable{X:Cx}{pins:List (Addr×Obj)}{σ:St}{H:Hp}{s:Shared}{E:Value->Shared->Prop}
theorem Inv.wish(I:Inv X pins σ H s)(E:Value->Shared->Prop):Inv (X.wish E) pins σ H s:=⟨I.ok.wish E,I.os,I.bare,I.base,I.loc,I.cell,I.free,I.freeC,I.pin,I.hok,I.len⟩
theorem Inv.unwish(I:Inv (X.wish E) pins σ H s):Inv X pins σ H s:=⟨I.ok.unwish,I.os,I.bare,I.base,I.loc,I.cell,I.free,I.freeC,I.pin,I.hok,I.len⟩
theorem SP.unwish{D:Ends}{f:Flow}{s':Shared}(h:SP (X.wish E) pins D f s'):SP X pins D f s':=by
 cases f with
 |next=>obtain⟨σ',H',I,q⟩:=h;exact⟨σ',H',I.unwish,q⟩
 |brk=>obtain⟨σ',H',I,q⟩:=h;exact⟨σ',H',I.unwish,q⟩
 |cont=>obtain⟨σ',H',I,q⟩:=h;exact⟨σ',H',I.unwish,q⟩
 |ret u=>obtain⟨v,σ',H',I,r,q⟩:=h;exact⟨v,σ',H',I.unwish,r,q⟩
theorem PSs.nox{st:List Stmt}{t:TS}(h:PSs X.nox st t):PSs X st t:=λpins s σ H D I hw =>
 ZX (h pins s σ H D (I.wish _) hw) (λ_ _ q=>q.unwish) λ_ _ z=>False.elim z
end
section
variable{X:Cx}{st:Stmt}{rest:List Stmt}{t u:TS}{e:Expr}{te:TE}{pos:Pos}
def QX:TS:=λD σ H=>D.nx σ H
def QU(t u:TS):TS:=λD σ H=>t { D with nx:=u D } σ H
theorem dA:PSs X [] QX:=λ_ _ σ H _ I h=>wpAny_execs_nil ⟨σ,H,I,h⟩
theorem aF(h1:PS X st t)(h2:PSs X rest u):PSs X (st::rest) (QU t u):=by
 intro pins s σ H D I h;refine wpAny_execs_cons (thn (h1 pins s σ H { D with nx:=u D } I h) λf s1 q=>?_);cases f with
 |next =>
  obtain⟨σ',H',I',q⟩:=q;exact h2 pins s1 σ' H' D I' q
 |ret v=>exact q
 |brk=>exact q
 |cont=>exact q
theorem aK(h1:PS X st t):PSs X [st] t:=by
 intro pins s σ H D I h;refine wpAny_execs_cons (thn (h1 pins s σ H D I h) λf s1 q=>?_);cases f with
 |next=>exact wpAny_execs_nil q
 |ret v=>exact q
 |brk=>exact q
 |cont=>exact q
theorem Inv.quiet{pins:List (Addr×Obj)}{σ:St}{H:Hp}{s:Shared}(I:Inv X pins σ H s):interactive X.env=false:=by simp[interactive,I.ok.kind]
def Q0(te:TE):TS:=λD σ H=>te σ H λ_ H1=>D.nx σ H1
theorem bM(he:PE X e te)(hs:swapsWith e none pos.line X.env=pure false:=by rfl):PS X (.Expr e pos) (Q0 te):=by
 intro pins s σ H D I h;exact wpAny_Expr_any (thn (he pins s σ H _ I h) λv s1 ⟨x,H1,I1,r1,q1⟩=>⟨σ,H1,I1,q1⟩) I.quiet hs
def SF(te:TE):TS:=λD σ H=>te σ H D.rt
theorem bE(he:PE X e te):PS X (.Return (some e) pos) (SF te):=by
 intro pins s σ H D I h;exact wpAny_Return_some (thn (he pins s σ H _ I h) λv s1 ⟨x,H1,I1,r1,q1⟩=>⟨x,σ,H1,I1,r1,q1⟩)
def SI(c:TT)(t u:TS):TS:=λD σ H=>c σ H λb H1=>if b=true then t D σ H1 else u D σ H1
theorem fL{c:Expr}{a b:List Stmt}{tc:TT}(hc:PT X c tc)(ha:PSs X a t)(hb:PSs X b u):PS X (.If c a b pos) (SI tc t u):=by
 intro pins s σ H D I h;refine wpAny_If (thn (hc pins s σ H _ I h) λd s1 ⟨H1,I1,q1⟩=>?_);cases d with
 |true=>exact ha pins s1 σ H1 D I1 q1
 |false=>exact hb pins s1 σ H1 D I1 q1
end
abbrev TG:=V->St->Hp->(St->Hp->Prop)->Prop
abbrev TGs:=List V->St->Hp->(St->Hp->Prop)->Prop
def PG(X:Cx)(target:Expr)(t:TG):Prop :=
 ∀(pins:List (Addr×Obj)) (s:Shared) (σ:St) (H:Hp) (v:V) (u:Value) (Q:St->Hp->Prop),Inv X pins σ H s->RelV v u->t v σ H Q ->
  wpAny (model X.prog X.w) X.A (assign target X.env u) (λ_ s'=>∃σ' H',Inv X pins σ' H' s'/\Q σ' H') X.xe s
def PGs(X:Cx)(ts:List Expr)(t:TGs):Prop :=
 ∀(pins:List (Addr×Obj)) (s:Shared) (σ:St) (H:Hp) (vs:List V) (us:List Value) (Q:St->Hp->Prop),Inv X pins σ H s->bJ vs us->t vs σ H Q ->
  wpAny (model X.prog X.w) X.A (assignInOrder ((assignEach ts X.env).map (·.2)) us) (λ_ s'=>∃σ' H',Inv X pins σ' H' s'/\Q σ' H') X.xe s
abbrev QL:=V->V->V->Hp->(Hp->Prop)->Prop
def R6(X:Cx)(t:QL):Prop :=
 ∀(pins:List (Addr×Obj)) (s:Shared) (σ:St) (H:Hp) (o i v:V) (ov iv u:Value) (Q:Hp->Prop),Inv X pins σ H s->RelV o ov->RelV i iv->RelV v u->t o i v H Q ->
  wpAny (model X.prog X.w) X.A (setItem ov iv u) (λ_ s'=>∃H',Inv X pins σ H' s'/\Q H') X.xe s
section
variable{X:Cx}{pos:Pos}
def uM(i:Nat):TG:=λv σ H Q=>Q (σ.set i (some v)) H
theorem aQ{i:Nat}{x:Str}(hN:X.N.Nodup)(hi:X.N[i]?=some x)(hx:Loc X.env.scope x)(hf:X.fn x=true\/X.env.scope.names.lookup x=some .local:=by first | exact .inl rfl | exact .inr rfl | assumption):PG X (.Name x pos) (uM i):=by
 intro pins s σ H v u Q I r h;exact wpAny_assign_Name (kY I hN hi hx r (λs' I'=>⟨_,H,I',h⟩) hf)
def TK:TGs:=λvs σ H Q=>vs=[]/\Q σ H
def RY(t:TG)(u:TGs):TGs:=λvs σ H Q=>∃v r,vs=v::r/\t v σ H λσ' H'=>u r σ' H' Q
theorem gN:PGs X [] TK:=by
 intro pins s σ H vs us Q I r h;obtain⟨e,h⟩:=h;subst e;cases r;exact assignInOrder_nil ⟨σ,H,I,h⟩
theorem bY{e:Expr}{es:List Expr}{t:TG}{u:TGs}(h1:PG X e t)(h2:PGs X es u)
  (hs:(assignEach (e::es) X.env).map (·.2)=assign e X.env::(assignEach es X.env).map (·.2):=by rfl):PGs X (e::es) (RY t u):=by
 intro pins s σ H vs us Q I r h;obtain⟨v,vr,e1,h⟩:=h;subst e1;cases r with
 |cons r rr =>
  rw[hs];refine assignInOrder_cons (thn (h1 pins s σ H _ _ _ I r h) λ_ s1 ⟨σ1,H1,I1,q1⟩=>?_);exact h2 pins s1 σ1 H1 _ _ Q I1 rr q1
def RX(K:PySem.W.Frag)(n:Nat)(t:TGs):TG:=λv σ H Q=>∃a xs,v=.ref a/\SqT K H a xs/\xs.length=n/\t xs σ H Q
theorem kD{es:List Expr}{k:Nat}{t:TGs}{n:Nat}(hc:X.calm=true)(h:PGs X es t)
  (hn:(assignEach es X.env).length=n:=by rfl) (hst:(assignEach es X.env).findIdx? (·.1)=none:=by rfl):PG X (.Tuple es k pos) (RX X.K n t):=by
 intro pins s σ H v u Q I r hw;obtain⟨a,xs,e1,hq,hl,hw⟩:=hw;subst e1;cases r;obtain⟨its,rv,ht,hz⟩:=I.tuple hq;refine assign_Tuple_tuple (I.ok.hd hc) ht (by simp[hn,<-hl,rv.length]) hst λh' hx=>?_;have I1:Inv X pins σ H { s with heap:=h' }:=I.kept (t':=s.toks) λb o e=>hx b o (Nat.ne_of_lt (Heap.lt_size e)) e;exact h pins _ σ H xs _ Q I1 (by simpa using rv) hw
def TJ(to ti:TE)(t:QL):TG:=λv σ H Q=>to σ H λo H1=>ti σ H1 λi H2=>t o i v H2 λH3=>Q σ H3
theorem nP{o i:Expr}{to ti:TE}{t:QL}(ho:PE X o to)(hi:PE X i ti)(hs:R6 X t)
  (ha:∀v,assign (.Subscript o i pos) X.env v=(do
   let ov <-holding [v] (eval o X.env)
   let iv <-holding [v,ov] (eval i X.env)
   standAt pos
   holding [v,ov,iv] (setItem ov iv v)
   release [v,ov,iv] []):=by intro _;rfl):PG X (.Subscript o i pos) (TJ to ti t):=by
 intro pins s σ H v u Q I r h;rw[ha];refine ZZ (ZU (thn (ho pins s σ H _ I h) λov s1 ⟨x,H1,I1,r1,q1⟩=>?_));refine ZZ (ZU (thn (hi pins s1 σ H1 _ I1 q1) λiv s2 ⟨y,H2,I2,r2,q2⟩=>?_));refine ZZ (wpAny_standAt (ZZ (ZU (thn (hs pins s2 σ H2 x y v ov iv u _ I2 r1 r2 r q2) λ_ s3 ⟨H3,I3,q3⟩=>?_))));exact wpAny_release ⟨σ,H3,I3,q3⟩
def LN(te:TE)(g:TG):TS:=λD σ H=>te σ H λx H1=>g x σ H1 D.nx
theorem iY{tg e:Expr}{te:TE}{g:TG}(he:PE X e te)(hg:PG X tg g)(hs:swapsWithSole [tg] e pos.line X.env=pure false:=by rfl)(hw:swappedStores [tg] e X.env=pure none:=by rfl)
  (h1:(assignEach [tg] X.env).map (·.2)=[assign tg X.env]:=by rfl):PS X (.Assign [tg] e pos) (LN te g):=by
 intro pins s σ H D I h;refine wpAny_Assign_stores (thn (he pins s σ H _ I h) λv s1 ⟨x,H1,I1,r1,q1⟩=>?_) hs hw;rw[h1];exact thn (hg pins s1 σ H1 x v _ I1 r1 q1) λ_ s2 q=>q
theorem IG{i:Nat}{x:Str}{e:Expr}{te:TE}{pos':Pos}(hN:X.N.Nodup)(hi:X.N[i]?=some x)(hx:Loc X.env.scope x)(he:PE X e te)(hs:swapsWith e (some (.Name x pos')) pos.line X.env=pure false:=by rfl)(hf:X.fn x=true\/X.env.scope.names.lookup x=some .local:=by first | exact .inl rfl | exact .inr rfl | assumption) :
  PS X (.Assign [.Name x pos'] e pos) (LN te (uM i)):=by
 intro pins s σ H D I h;refine wpAny_Assign_Name (thn (he pins s σ H _ I h) λv s1 ⟨y,H1,I1,r1,q1⟩=>?_) hs;exact kY I1 hN hi hx r1 (λs2 I2=>⟨_,H1,I2,q1⟩) hf
def SG(i j:Nat)(ta:TA):TS:=λD σ H=>ta σ H λvs H1=>∃v w,vs=[v,w]/\D.nx ((σ.set i (some v)).set j (some w)) H1
theorem IH{i j:Nat}{x y:Str}{a b:Expr}{ta:TA}{px py pt:Pos}{kt k2 pt2}(hc:X.calm=true)(hN:X.N.Nodup)(hi:X.N[i]?=some x)(hj:X.N[j]?=some y)(hij:i≠j)
  (hx:X.env.scope.names.lookup x=some .local) (hy:X.env.scope.names.lookup y=some .local) (ha:PA X [a,b] ta)
  (hw:swappedStores [.Tuple [.Name x px,.Name y py] kt pt] (.Tuple [a,b] k2 pt2) X.env=pure (some [x,y]))
  (hs:swapsWithSole [.Tuple [.Name x px,.Name y py] kt pt] (.Tuple [a,b] k2 pt2) pos.line X.env=pure false:=by rfl) :
  PS X (.Assign [.Tuple [.Name x px,.Name y py] kt pt] (.Tuple [a,b] k2 pt2) pos) (SG i j ta):=by
 intro pins s σ H D I h;rw[exec_Assign_arm];refine ZZ (wpAny_standAt ?_);rw[hs];refine ZZ (ZY ?_);rw[if_neg (by decide)];refine ZZ (Tuple_ (thn (ha _ pins s σ H _ I h) λus s1 ⟨vs,H1,I1,r1,q1⟩=>?_));obtain⟨v,w,e1,q1⟩:=q1;subst e1;obtain⟨u1,u2,rfl,rv,rw'⟩:∃u1 u2,us=[u1,u2]/\RelV v u1/\RelV w u2:=by
  cases r1 with
  |cons p q =>
   cases q with
   |cons p' q' =>
    cases q';exact⟨_,_,rfl,p,p'⟩
 refine wpAny_newObj_type ?_ (by show 2<=ZW;decide);have I2:Inv X pins σ H1 { s1 with heap:=s1.heap.push { cls:=.type "tuple",data:=.seq [u1,u2].toArray } }:=I1.kept (t':=s1.toks) λb o e=>Heap.get?_push_of_some _ e;rw[hw];refine ZZ (ZY ?_);show wpAny (model X.prog X.w) X.A (do rule "assign.swapped-stores";let items <-unpackItems (.ref s1.heap.objs.size) 2 none;assignInOrder [λv=>bindName X.env y v,λv=>bindName X.env x v] items.reverse;pure Flow.next) _ _ _;refine ZZ (wpAny_rule (ZZ (unpackItems_tuple (items:=#[u1,u2]) (I.ok.hd hc) (IsTup.new s1.heap _) λh' hx'=>?_)));have I3:=I2.kept (h':=h') (t':=s1.toks) λb o e=>hx' b o (Nat.ne_of_lt (Heap.lt_size e)) e;show wpAny _ _ (assignInOrder [λv=>bindName X.env y v,λv=>bindName X.env x v] [u2,u1] >>= λ_=>pure Flow.next) _ _ _;refine ZZ (assignInOrder_cons (wpAny_bindName (kY I3 hN hj (.inl hy) rw' (λs2 I4=>?_) (.inr hy))));refine assignInOrder_cons (wpAny_bindName (kY I4 hN hi (.inl hx) rv (λs3 I5=>assignInOrder_nil (ZY ?_)) (.inr hx)));rw[List.set_comm _ _ (Ne.symm hij)]at I5;exact⟨_,H1,I5,q1⟩
end
section
variable{X:Cx}{pos:Pos}
def OF(c:TT)(tb:TS):TS:=λD σ H=>∃W:Nat->St->Hp->Prop,(∃m,W m σ H)/\∀m σ H,W m σ H ->
 c σ H λb H1=>if b=true then ∃N:St->Hp->Prop,(∀σ' H',N σ' H'->∃m',m' < m/\W m' σ' H')/\tb { D with nx:=N,ct:=N,bk:=D.nx } σ H1 else D.nx σ H1
theorem jS{c:Expr}{body:List Stmt}{tc:TT}{tb:TS}(hp:PassesOwn (model X.prog X.w) X.A X.env X.xe)(hc:PT X c tc)(hb:PSs X body tb):PS X (.While c body [] pos) (OF tc tb):=by
 intro pins s σ H D I h;obtain⟨W,⟨m0,w0⟩,turn⟩:=h;refine wpAny_While (codeAny_whileLoop (λn s'=>∃σ' H',Inv X pins σ' H' s'/\W n σ' H') ?_ m0 ⟨σ,H,I,w0⟩);rintro n s1 ⟨σ1,H1,I1,w1⟩;refine wpAny_passesOwn hp (thn (hc pins s1 σ1 H1 _ I1 (turn n σ1 H1 w1)) λb s2 ⟨H2,I2,q2⟩=>?_);cases b with
 |true =>
  obtain⟨N,hN,q2⟩:=q2;rw[if_pos rfl];refine wpAny_passesOwn hp (thn (hb pins s2 σ1 H2 _ I2 q2) λf s3 q3=>?_);cases f with
  |next =>
   obtain⟨σ3,H3,I3,n3⟩:=q3;obtain⟨m',hm,w3⟩:=hN σ3 H3 n3;exact⟨m',hm,σ3,H3,I3,w3⟩
  |cont =>
   obtain⟨σ3,H3,I3,n3⟩:=q3;obtain⟨m',hm,w3⟩:=hN σ3 H3 n3;exact⟨m',hm,σ3,H3,I3,w3⟩
  |brk=>exact q3
  |ret v=>exact q3
 |false =>
  rw[if_neg Bool.false_ne_true];exact wpAny_execs_nil ⟨σ1,H2,I2,q2⟩
end
structure It where
 go:Nat->Hp->Prop
 yld:Nat->Hp->V->Hp->Prop
 stop:Nat->Hp->Prop
def lV(X:Cx)(pins:List (Addr×Obj))(H:Hp)(b:Addr):Prop :=
 H b=none/\b≠X.env.locals/\b∉X.fs/\(b∈X.ex\/X.s₀.heap.objs.size<=b)/\(∀x c,X.env.cells.lookup x=some c->c≠b)/\∀p∈X.pn++pins,p.1≠b
theorem Inv.fpOk{X:Cx}{pins:List (Addr×Obj)}{σ:St}{H H':Hp}{s:Shared}{b:Addr}(I:Inv X pins σ H s)(hb:s.heap.objs.size<=b)(hn:H' b=none):lV X pins H' b:=by
 refine⟨hn,Nat.ne_of_gt (YQ I.lt hb),I.nofs hb,.inr (Ys I.sz hb),λx c e z=>?_,λp hp z=>?_⟩
 ·obtain⟨v,q⟩:=I.cell x c e;exact absurd (YQ q.lt (by rw[z];exact hb)) (Nat.lt_irrefl _)
 ·exact absurd (YQ (Heap.lt_size (I.pin p hp).1) (by rw[z];exact hb)) (Nat.lt_irrefl _)
structure Turn(P:Program)(w:World)(K:PySem.W.Frag)(tg:Expr)(J:It)(fp:List Addr)(it:Addr)(tn:Nat->Heap->Prop):Prop where
 mem:it∈fp
 obj:∀i h,tn i h->∀b∈fp,∃o,h.get? b=some o/\∀v,o.data≠.cell v
 keep:∀i h h',tn i h->(∀b∈fp,∀o,h.get? b=some o->h'.get? b=some o)->tn i h'
 item:∀(X:Cx),X.prog=P->X.w=w->X.K=K->X.calm=true->∀(i:Nat) (pins:List (Addr×Obj)) (s:Shared) (σ:St) (H:Hp) (E:Value->Shared->Prop),Inv X pins σ H s->(∀b∈fp,lV X pins H b)->tn i s.heap->J.go i H ->
  wpAny (model P w) X.A (pyNext (.ref it)) (λr s1=>∃u,r=some u /\
   wpAny (model P w) X.A (letOwnedTupleGo tg (.ref it) u) (λ_ s2=>∃x H',Inv X pins σ H' s2/\RelV x u/\J.yld i H x H'/\tn (i+1) s2.heap/\∀b∈fp,H' b=none) E s1) E s
 done:∀(X:Cx),X.prog=P->X.w=w->X.K=K->X.calm=true->∀(i:Nat) (pins:List (Addr×Obj)) (s:Shared) (σ:St) (H:Hp) (E:Value->Shared->Prop),Inv X pins σ H s->(∀b∈fp,lV X pins H b)->tn i s.heap->J.stop i H ->
  wpAny (model P w) X.A (pyNext (.ref it)) (λr s1=>r=none/\Inv X pins σ H s1) E s
 self:∀(A:Around) (i:Nat) (s:Shared) (Q:Value->Shared->Prop) (E:Value->Shared->Prop),tn i s.heap->Q (.ref it) s->wpAny (model P w) A (pyIter (.ref it)) Q E s
abbrev TI:=St->Hp->(It->Hp->Prop)->Prop
def PIE(X:Cx)(pins:List (Addr×Obj))(σ:St)(tg:Expr)(R:It->Hp->Prop)(itv:Value)(s2:Shared):Prop :=
 ∃(it:Addr) (fp:List Addr) (tn:Nat->Heap->Prop) (J:It) (H':Hp),itv=.ref it/\Inv X pins σ H' s2/\Turn X.prog X.w X.K tg J fp it tn/\tn 0 s2.heap/\(∀b∈fp,lV X pins H' b)/\R J H'
def PI(X:Cx)(tg iter:Expr)(wi:TI):Prop :=
 ∀(pins:List (Addr×Obj)) (s:Shared) (σ:St) (H:Hp) (R:It->Hp->Prop),Inv X pins σ H s->wi σ H R ->
  wpAny (model X.prog X.w) X.A (eval iter X.env) (λv s1=>wpAny (model X.prog X.w) X.A (pyIter v) (PIE X pins σ tg R) X.xe s1) X.xe s
theorem KC{M:Model}{A:Around}{E:Value->Shared->Prop}{s:Shared}{tg:Expr}{it:Addr}{u:Value}{o:Obj}{n:String}{vs:Array Value}{Q:Unit->Shared->Prop}(ho:s.heap.get? it=some o)(hc:o.cls=.type n)(hd:o.data=.fields vs)
  (hn:["enumerate","zip","dict_itemiterator","dict_reverseitemiterator","odict_iterator","itertools.zip_longest","itertools.pairwise"].contains n=false) (hQ:Q () s):wpAny M A (letOwnedTupleGo tg (.ref it) u) Q E s:=by
 unfold letOwnedTupleGo;cases tg<;>first
  |exact ZY hQ
  |(cases u<;>first
    |exact ZY hQ
    |(refine ZZ (wpAny_load ho ?_);rw[hc,hd];show wpAny M A (if (["enumerate","zip","dict_itemiterator","dict_reverseitemiterator","odict_iterator","itertools.zip_longest","itertools.pairwise"].contains n&&vs[0]?==some (rawInt _))=true then _ else _) Q E s;rw[if_neg (by intro h;rw[hn,Bool.false_and]at h;cases h)];exact ZY hQ))
def Itl(K:PySem.W.Frag)(a:Addr):It :=
 ⟨λi H=>∃xs x,SqL K H a xs/\xs[i]?=some x,λi H x H'=>H'=H/\∀xs,SqL K H a xs->xs[i]?=some x,λi H=>∃xs,SqL K H a xs/\xs.length<=i⟩
def Itr(lo:Int)(n:Nat):It:=⟨λi _=>i<n,λi H x H'=>H'=H/\x=.int (lo+i),λi _=>n<=i⟩
theorem FO{P:Program}{w:World}{K:PySem.W.Frag}{tg:Expr}(a it:Addr):Turn P w K tg (Itl K a) [it] it (λi h=>h.IsListIter it a i) where
 mem:=by simp
 obj:=λi h st b hb=>by
  have e:b=it:=by simpa using hb
  subst e;obtain⟨o,e,c,d⟩:=st;exact⟨o,e,λv z=>by rw[d]at z;cases z⟩
 keep:=λi h h' st k=>st.at λo e=>k it (by simp) o e
 item:=by
  intro X hP hw hK hc i pins s σ H E I hf st hg;subst hP hw hK;obtain⟨xs,x,hq,hx⟩:=hg;obtain⟨its,rv,p,hz⟩:=I.list hq;obtain⟨u,hu,ru⟩:=rv.get hx;obtain⟨f0,f1,f2,f3,f4,f5⟩:=hf it (by simp);refine wpAny_pyNext_list_item st p.isList (x:=u) (by simpa using hu) λh' st' sb=>?_;have I1:Inv X pins σ H { s with heap:=h' }:=I.turned (t':=s.toks) (λb o hb e=>(sb.2 b hb).trans e) f0 f1 f3 f4 f5;obtain⟨o,e,c,d⟩:=id st';exact⟨u,rfl,KC (s:={ s with heap:=h' }) e c d (by decide) ⟨x,H,I1,ru,⟨rfl,λys hy=>by rw[I.list_inj hy hq];exact hx⟩,st',λb hb=>(hf b hb).1⟩⟩
 done:=by
  intro X hP hw hK hc i pins s σ H E I hf st hg;subst hP hw hK;obtain⟨xs,hq,hx⟩:=hg;obtain⟨its,rv,p,hz⟩:=I.list hq;obtain⟨f0,f1,f2,f3,f4,f5⟩:=hf it (by simp);have hl:=rv.length;exact wpAny_pyNext_list_end (I.ok.hd hc) st p.isList (by simp;lia) λh' eb=>⟨rfl,I.turned (t':=s.toks) (λb o hb e=>eb b o hb e) f0 f1 f3 f4 f5⟩
 self:=λ_ _ _ _ _ st h=>wpAny_pyIter_listiter st h
theorem CJ{P:Program}{w:World}{K:PySem.W.Frag}{tg:Expr}(it:Addr)(lo:Int)(n:Nat):Turn P w K tg (Itr lo n) [it] it (λi h=>IsRangeIter h it (lo+(i:Nat)*1) ((n:Int)-(i:Nat)) 1) where
 mem:=by simp
 obj:=λi h st b hb=>by
  have e:b=it:=by simpa using hb
  subst e;exact⟨_,st,λv z=>by
   have z':Data.fields _=Data.cell v:=z;cases z'⟩
 keep:=λi h h' st k=>k it (by simp) _ st
 item:=by
  intro X hP hw hK hc i pins s σ H E I hf st hg;subst hP hw hK;obtain⟨f0,f1,f2,f3,f4,f5⟩:=hf it (by simp);have W:=Walks.range (prog:=X.prog) (w:=X.w) (I.ok.hd hc) it lo 1 n;refine W.item i s _ _ hg st λv h' tk hv st' kk=>?_;obtain⟨t,rfl⟩:=hv;have I1:Inv X pins σ H { s with heap:=h',toks:=tk }:=I.turned (λb o hb e=>kk b o (by simpa using hb) e) f0 f1 f3 f4 f5;refine⟨_,rfl,KC (s:={ s with heap:=h',toks:=tk }) (n:="range_iterator") st' rfl rfl (by decide) ⟨.int (lo+i),H,I1,⟨t,?_⟩,⟨rfl,rfl⟩,st',λb hb=>(hf b hb).1⟩⟩;rw[Int.mul_one]
 done:=by
  intro X hP hw hK hc i pins s σ H E I hf st hg;subst hP hw hK;obtain⟨f0,f1,f2,f3,f4,f5⟩:=hf it (by simp);exact wpAny_pyNext_range_end (I.ok.hd hc) st (by have:n<=i:=hg;lia) λh' eb=>⟨rfl,I.turned (t':=s.toks) (λb o hb e=>eb b o hb e) f0 f1 f3 f4 f5⟩
 self:=λ_ _ _ _ _ st h=>wpAny_pyIter_rangeiter st h
end L2
namespace L2
open PySem PySem.Spec PyProof.Rows
section
variable{X:Cx}{tg:Expr}
def NV(K:PySem.W.Frag)(tl:TE):TI:=λσ H R=>tl σ H λx H1=>∃a,x=.ref a/\(∃xs,SqL K H1 a xs)/\R (Itl K a) H1
theorem cK{l:Expr}{tl:TE}(hl:PE X l tl):PI X tg l (NV X.K tl):=by
 intro pins s σ H R I h;refine thn (hl pins s σ H _ I h) λv s1 ⟨x,H1,I1,r1,q1⟩=>?_;obtain⟨a,e,⟨xs,hq⟩,q⟩:=q1;subst e;cases r1;obtain⟨its,rv,p,hz⟩:=I1.list hq;refine wpAny_pyIter_list p.isList ?_;refine⟨s1.heap.objs.size,[s1.heap.objs.size],_,_,H1,rfl,I1.kept (t':=s1.toks) λb o e=>Heap.get?_push_of_some _ e,FO a _,⟨_,Heap.get?_push_size _ rfl,rfl,rfl⟩,λb hb=>?_,q⟩;have e:b=s1.heap.objs.size:=by simpa using hb
 subst e;exact I1.fpOk (Nat.le_refl _) (I1.hok.fresh (Nat.le_refl _))
theorem AS{pins:List (Addr×Obj)}{σ:St}{H:Hp}{s:Shared}{R:It->Hp->Prop}{E:Value->Shared->Prop}{lo hi:Int}{t u v:Tok}{tk:Nat}(I:Inv X pins σ H s)(h1 : -(2 ^ 62)<=lo)(h2:lo<2 ^ 62)(h3 : -(2 ^ 62)<=hi)(h4:hi<2 ^ 62)
  (q:R (Itr lo (hi-lo).toNat) H):wpAny (model X.prog X.w) X.A (pyIter (.ref s.heap.objs.size)) (PIE X pins σ tg R) E { s with heap:=s.heap.push { cls:=.type "range",data:=.fields #[.int lo t,.int hi u,.int 1 v] },toks:=tk }:=by
 refine wpAny_pyIter_range (IsRange.new ..) (small_one h1 h2 h3 h4) ?_;have I1:Inv X pins σ H { s with heap:=s.heap.push { cls:=.type "range",data:=.fields #[.int lo t,.int hi u,.int 1 v] },toks:=tk }:=I.kept λb o e=>Heap.get?_push_of_some _ e;refine⟨(s.heap.push { cls:=.type "range",data:=.fields #[.int lo t,.int hi u,.int 1 v] }).objs.size,[(s.heap.push { cls:=.type "range",data:=.fields #[.int lo t,.int hi u,.int 1 v] }).objs.size],_,_,H,rfl,
  I1.kept (t':=tk) λb o e=>Heap.get?_push_of_some _ e,CJ _ lo (hi-lo).toNat,?_,λb hb=>?_,q⟩
 ·have e1:lo+((0:Nat):Int)*1=lo:=by simp
  have e2:(((hi-lo).toNat:Nat):Int)-((0:Nat):Int)=Builtin.Range.rangeSize lo hi 1:=by rw[rangeSize_one];split<;>lia
  show IsRangeIter _ _ (lo+((0:Nat):Int)*1) ((((hi-lo).toNat:Nat):Int)-((0:Nat):Int)) 1;rw[e1,e2];exact Heap.get?_push_size _ rfl
 ·have e:b=(s.heap.push { cls:=.type "range",data:=.fields #[.int lo t,.int hi u,.int 1 v] }).objs.size:=by simpa using hb
  subst e;exact I1.fpOk (Nat.le_refl _) (I1.hok.fresh (Nat.le_refl _))
def RT(ta:TA):TI:=λσ H R=>ta σ H λvs H1=>∃j:Int,vs=[.int j]/\-(2 ^ 62)<=j/\j<2 ^ 62/\R (Itr 0 j.toNat) H1
def RS(ta:TA):TI:=λσ H R=>ta σ H λvs H1=>∃i j:Int,vs=[.int i,.int j]/\(-(2 ^ 62)<=i/\i<2 ^ 62/\-(2 ^ 62)<=j/\j<2 ^ 62)/\R (Itr i (j-i).toNat) H1
theorem bP{a:Expr}{ta:TA}{p pos:Pos}(hg:Gl X "range")(hm:X.mg "range" = none)(ha:PA X [a] ta)(hs:starEach [a] X.env=[(false,eval a X.env)]:=by rfl):PI X tg (.Call (.Name "range" p) [a] [] pos) (RT ta):=by
 intro pins s σ H R I h;refine Call_ (nS I hg hm boot_range (PyProof.Rows.callWith_type1 (thn (ha pos pins s σ H _ I h) λus s1 ⟨vs,H1,I1,r1,q1⟩=>?_) hs rfl));obtain⟨j,e,q1,q2,q⟩:=q1;subst e;cases r1 with
 |cons r rr =>
  cases rr;obtain⟨t,rfl⟩:=r;exact call_range_1 (AS I1 (by lia) (by lia) q1 q2 (by simpa using q))
theorem l9{a b:Expr}{ta:TA}{p pos:Pos}(hg:Gl X "range")(hm:X.mg "range" = none)(ha:PA X [a,b] ta)(hs:starEach [a,b] X.env=[(false,eval a X.env),(false,eval b X.env)]:=by rfl)(hs2:starEach [b] X.env=[(false,eval b X.env)]:=by rfl) :
  PI X tg (.Call (.Name "range" p) [a,b] [] pos) (RS ta):=by
 intro pins s σ H R I h;refine Call_ (nS I hg hm boot_range (PyProof.Rows.callWith_type1 (thn (ha pos pins s σ H _ I h) λus s1 ⟨vs,H1,I1,r1,q1⟩=>?_) (by rw[hs,hs2]) (by rw[hs2];rfl)));obtain⟨i,j,e,⟨q1,q2,q3,q4⟩,q⟩:=q1;subst e;cases r1 with
 |cons r rr =>
  cases rr with
  |cons r' rr =>
   cases rr;obtain⟨t,rfl⟩:=r;obtain⟨t',rfl⟩:=r';exact call_range_2 (AS I1 q1 q2 q3 q4 q)
def SJ(wi:TI)(g:TG)(tb:TS):TS:=λD σ H=>wi σ H λJ H1=>∃W:Nat->Nat->St->Hp->Prop,(∃m,W 0 m σ H1)/\∀i m σ H,W i m σ H ->
 (J.stop i H/\D.nx σ H)\/(J.go i H/\∃N:St->Hp->Prop,(∀σ' H',N σ' H'->∃m',m' < m/\W (i+1) m' σ' H')/\∀x H',J.yld i H x H'->g x σ H' λσ2 H2=>tb { D with nx:=N,ct:=N,bk:=D.nx } σ2 H2)
def tW(fp:List Addr)(h:Heap):List (Addr×Obj):=fp.filterMap λb=>(h.get? b).map λo=>(b,o)
theorem kF{fp:List Addr}{h:Heap}{b:Addr}{o:Obj}(hb:b∈fp)(e:h.get? b=some o):(b,o)∈tW fp h:=List.mem_filterMap.mpr ⟨b,hb,by rw[e];rfl⟩
theorem GB{fp:List Addr}{h:Heap}{p:Addr×Obj}(hp:p∈tW fp h):p.1∈fp/\h.get? p.1=some p.2:=by
 obtain⟨b,hb,e⟩:=List.mem_filterMap.mp hp;cases q:h.get? b with
 |none=>rw[q]at e;cases e
 |some o =>
  rw[q]at e;have e':(b,o)=p:=Option.some.inj e;subst e';exact⟨hb,q⟩
theorem Inv.pinned{pins:List (Addr×Obj)}{σ:St}{H:Hp}{s:Shared}{fp:List Addr}(I:Inv X pins σ H s)(hf:∀b∈fp,lV X pins H b)(ho:∀b∈fp,∃o,s.heap.get? b=some o/\∀v,o.data≠.cell v):Inv X (pins++tW fp s.heap) σ H s :=
 I.pins_of λp hp=>(Zf.mp hp).elim (λz=>I.pin p (List.mem_append_right _ z)) λz=>by
  obtain⟨hb,e⟩:=GB z;obtain⟨f0,f1,f2,_⟩:=hf p.1 hb;obtain⟨o,e',d⟩:=ho p.1 hb;rw[e]at e';cases e';exact⟨e,f0,f1,f2,d⟩
theorem Inv.unpinned{pins pl:List (Addr×Obj)}{σ:St}{H:Hp}{s:Shared}(I:Inv X (pins++pl) σ H s):Inv X pins σ H s:=I.pins_of λp hp=>I.pin p (List.mem_append_right _ (List.mem_append_left _ hp))
theorem cR{iter:Expr}{body:List Stmt}{wi:TI}{g:TG}{tb:TS}{pos:Pos}(hp:PassesOwn (model X.prog X.w) X.A X.env X.xe)(hc:X.calm=true)(hi:PI X tg iter wi)(hg:PG X tg g)(hb:PSs X body tb)
  (hs:∀x,foldedSetIterable iter X.env x=pure x:=by intro _;rfl):PS X (.For tg iter body [] pos) (SJ wi g tb):=by
 intro pins s σ H D I h;refine wpAny_For (thn (hi pins s σ H _ I h) λv s1 h1=>thn h1 λitv s2 h2=>?_) hs;obtain⟨it,fp,tn,J,H2,e,I2,T,st2,f2,W,⟨m0,w0⟩,turn⟩:=h2;subst e;have stat:∀{H':Hp},(∀b∈fp,H' b=none)->∀b∈fp,lV X pins H' b:=λhn b hb=>⟨hn b hb,(f2 b hb).2⟩
 refine codeAny_forLoop_any (λn s'=>∃i σ' H',Inv X pins σ' H' s'/\tn i s'.heap/\(∀b∈fp,H' b=none)/\W i n σ' H') ?_ m0 ⟨0,σ,H2,I2,st2,λb hb=>(f2 b hb).1,w0⟩;rintro n s3 ⟨i,σ3,H3,I3,st3,fr3,w3⟩;rcases turn i n σ3 H3 w3 with⟨stop,qn⟩ | ⟨go,N,hN,step⟩
 ·refine wpAny_passesOwn hp (thn (T.done X rfl rfl rfl hc i pins s3 σ3 H3 X.xe I3 (stat fr3) st3 stop) λr s4 ⟨hr,I4⟩=>?_);subst hr;exact wpAny_execs_nil ⟨σ3,H3,I4,qn⟩
 ·refine wpAny_passesOwn hp (thn (T.item X rfl rfl rfl hc i pins s3 σ3 H3 X.xe I3 (stat fr3) st3 go) λr s4 ⟨u,hr,h4⟩=>?_);subst hr;refine wpAny_passesOwn hp (thn h4 λ_ s5 ⟨x,H5,I5,r5,y5,st5,fr5⟩=>?_);have I5':=I5.pinned (stat fr5) (T.obj _ _ st5);refine wpAny_passesOwn hp (thn (hg _ s5 σ3 H5 x u _ I5' r5 (step x H5 y5)) λ_ s6 ⟨σ6,H6,I6,q6⟩=>?_);refine wpAny_passesOwn hp (thn (hb _ s6 σ6 H6 _ I6 q6) λf s7 q7=>?_);have again:∀{σ7:St}{H7:Hp},Inv X (pins++tW fp s5.heap) σ7 H7 s7->N σ7 H7->∃m,m<n/\∃i σ' H',Inv X pins σ' H' s7/\tn i s7.heap/\(∀b∈fp,H' b=none)/\W i m σ' H':=λ{σ7 H7} I7 n7=>by
   obtain⟨m',hm,w7⟩:=hN σ7 H7 n7;refine⟨m',hm,i+1,σ7,H7,I7.unpinned,T.keep _ _ _ st5 λb hb o e=>(I7.pin (b,o) (List.mem_append_right _ (List.mem_append_right _ (kF hb e)))).1,λb hb=>?_,w7⟩;obtain⟨o,e,d⟩:=T.obj _ _ st5 b hb;exact(I7.pin (b,o) (List.mem_append_right _ (List.mem_append_right _ (kF hb e)))).2.1
  cases f with
  |next=>obtain⟨σ7,H7,I7,n7⟩:=q7;exact again I7 n7
  |cont=>obtain⟨σ7,H7,I7,n7⟩:=q7;exact again I7 n7
  |brk=>obtain⟨σ7,H7,I7,q7⟩:=q7;exact⟨σ7,H7,I7.unpinned,q7⟩
  |ret v=>obtain⟨x7,σ7,H7,I7,r7,q7⟩:=q7;exact⟨x7,σ7,H7,I7.unpinned,r7,q7⟩
end
theorem jU{K:PySem.W.Frag}{a:Addr}{xs:List V}{g:TG}{tb:TS}{D:Ends}{σ:St}{H:Hp}(Pv:Nat->St->Hp->Prop)(h0:Pv 0 σ H)(hl:∀i σ H,i<=xs.length->Pv i σ H->SqL K H a xs)
  (hs:∀i x σ H,xs[i]?=some x->Pv i σ H->g x σ H λσ2 H2=>tb { D with nx:=Pv (i+1),ct:=Pv (i+1),bk:=D.nx } σ2 H2) (hd:∀σ H,Pv xs.length σ H->D.nx σ H) :
  ∃W:Nat->Nat->St->Hp->Prop,(∃m,W 0 m σ H)/\∀i m σ H,W i m σ H ->
   ((Itl K a).stop i H/\D.nx σ H)\/((Itl K a).go i H/\∃N:St->Hp->Prop,(∀σ' H',N σ' H'->∃m',m' < m/\W (i+1) m' σ' H')/\∀x H',(Itl K a).yld i H x H'->g x σ H' λσ2 H2=>tb { D with nx:=N,ct:=N,bk:=D.nx } σ2 H2):=by
 refine⟨λi m σ H=>m=xs.length-i/\i<=xs.length/\Pv i σ H,⟨xs.length,by simp,Nat.zero_le _,h0⟩,?_⟩;rintro i m σ H ⟨rfl,hi,p⟩;have q:=hl i σ H hi p;by_cases hlt:i<xs.length
 ·refine .inr ⟨⟨xs,xs[i],q,by simp[hlt]⟩,Pv (i+1),λσ' H' p'=>⟨xs.length-(i+1),by omega,rfl,hlt,p'⟩,λx H' y=>?_⟩;obtain⟨e,y⟩:=y;subst e;exact hs i x σ _ (y xs q) p
 ·have e:i=xs.length:=by lia
  subst e;exact .inl ⟨⟨xs,q,Nat.le_refl _⟩,hd σ H p⟩
theorem cI{lo:Int}{n:Nat}{g:TG}{tb:TS}{D:Ends}{σ:St}{H:Hp}(Pv:Nat->St->Hp->Prop)(h0:Pv 0 σ H)
  (hs:∀i σ H,i<n->Pv i σ H->g (.int (lo+i)) σ H λσ2 H2=>tb { D with nx:=Pv (i+1),ct:=Pv (i+1),bk:=D.nx } σ2 H2) (hd:∀σ H,Pv n σ H->D.nx σ H) :
  ∃W:Nat->Nat->St->Hp->Prop,(∃m,W 0 m σ H)/\∀i m σ H,W i m σ H ->
   ((Itr lo n).stop i H/\D.nx σ H)\/((Itr lo n).go i H/\∃N:St->Hp->Prop,(∀σ' H',N σ' H'->∃m',m' < m/\W (i+1) m' σ' H')/\∀x H',(Itr lo n).yld i H x H'->g x σ H' λσ2 H2=>tb { D with nx:=N,ct:=N,bk:=D.nx } σ2 H2):=by
 refine⟨λi m σ H=>m=n-i/\i<=n/\Pv i σ H,⟨n,by simp,Nat.zero_le _,h0⟩,?_⟩;rintro i m σ H ⟨rfl,hi,p⟩;by_cases hlt:i<n
 ·refine .inr ⟨hlt,Pv (i+1),λσ' H' p'=>⟨n-(i+1),by omega,rfl,hlt,p'⟩,λx H' y=>?_⟩;obtain⟨e,y⟩:=y;subst e y;exact hs i σ _ hlt p
 ·have e:i=n:=by lia
  subst e;exact .inl ⟨Nat.le_refl _,hd σ H p⟩
end L2
namespace L2
open PySem PySem.Spec PyProof.Rows
abbrev R2:=V->V->Hp->VK->Prop
def OpR(X:Cx)(f:Value->Value->Sem Value)(r:R2):Prop :=
 ∀(pins:List (Addr×Obj)) (s:Shared) (σ:St) (H:Hp) (x y:V) (v u:Value) (Q:VK),Inv X pins σ H s->RelV x v->RelV y u->r x y H Q ->
  wpAny (model X.prog X.w) X.A (f v u) (EP X pins σ Q) X.xe s
def UnR(X:Cx)(f:Value->Sem Value)(r:V->Hp->VK->Prop):Prop :=
 ∀(pins:List (Addr×Obj)) (s:Shared) (σ:St) (H:Hp) (x:V) (v:Value) (Q:VK),Inv X pins σ H s->RelV x v->r x H Q ->
  wpAny (model X.prog X.w) X.A (f v) (EP X pins σ Q) X.xe s
def iK(X:Cx)(f:Value)(r:List V->Hp->VK->Prop):Prop :=
 ∀(pins:List (Addr×Obj)) (s:Shared) (σ:St) (H:Hp) (xs:List V) (us:List Value) (Q:VK),Inv X pins σ H s->bJ xs us->r xs H Q ->
  wpAny (model X.prog X.w) X.A (call f us) (EP X pins σ Q) X.xe s
def TQ(X:Cx)(r:V->Hp->(Bool->Hp->Prop)->Prop):Prop :=
 ∀(pins:List (Addr×Obj)) (s:Shared) (σ:St) (H:Hp) (x:V) (v:Value) (Q:Bool->Hp->Prop),Inv X pins σ H s->RelV x v->r x H Q ->
  wpAny (model X.prog X.w) X.A (truthy v) (TP X pins σ Q) X.xe s
def tOp(r:R2)(ta tb:TE):TE:=λσ H Q=>ta σ H λx H1=>tb σ H1 λy H2=>r x y H2 Q
def tUn(r:V->Hp->VK->Prop)(ta:TE):TE:=λσ H Q=>ta σ H λx H1=>r x H1 Q
def rI(C:Int->Int->Prop)(g:Int->Int->V):R2:=λx y H Q=>∃i j,x=.int i/\y=.int j/\C i j/\Q (g i j) H
def rI0(g:Int->Int->V):R2:=λx y H Q=>∃i j,x=.int i/\y=.int j/\Q (g i j) H
def rU(g:Int->V):V->Hp->VK->Prop:=λx H Q=>∃i,x=.int i/\Q (g i) H
section
variable{X:Cx}{a b c:Expr}{ta tb tc:TE}{pos:Pos}
theorem QJ(ha:PE X a ta)(hb:PE X b tb){pins:List (Addr×Obj)}{s:Shared}{σ:St}{H:Hp}{R:V->V->Hp->Prop}(I:Inv X pins σ H s)
  (h:ta σ H λx H1=>tb σ H1 λy H2=>R x y H2) {Q:Value->Shared->Prop}{f:Value->Value->Sem Value}
  (hf:∀v u s2 x y H2,Inv X pins σ H2 s2->RelV x v->RelV y u->R x y H2->wpAny (model X.prog X.w) X.A (f v u) Q X.xe s2) :
  wpAny (model X.prog X.w) X.A (eval a X.env) (λv s₁=>wpAny (model X.prog X.w) X.A (eval b X.env) (λu s₂=>wpAny (model X.prog X.w) X.A (f v u) Q X.xe s₂) X.xe s₁) X.xe s:=by
 refine thn (ha pins s σ H _ I h) λv s1 ⟨x,H1,I1,r1,q1⟩=>?_;refine thn (hb pins s1 σ H1 _ I1 q1) λu s2 ⟨y,H2,I2,r2,q2⟩=>?_;exact hf v u s2 x y H2 I2 r1 r2 q2
theorem aJ{op:Operator}{r:R2}(ho:OpR X (binaryOp op) r)(ha:PE X a ta)(hb:PE X b tb):PE X (.BinOp a op b pos) (tOp r ta tb):=by
 intro pins s σ H Q I h;exact wpAny_BinOp (QJ ha hb I h λv u s2 x y H2 I2 rx ry q=>ho pins s2 σ H2 x y v u Q I2 rx ry q)
theorem jT{op:UnaryOp}{r:V->Hp->VK->Prop}(ho:UnR X (unaryOp op) r)(ha:PE X a ta):PE X (.UnaryOp op a pos) (tUn r ta):=by
 intro pins s σ H Q I h;exact UnaryOp_ (thn (ha pins s σ H _ I h) λv s1 ⟨x,H1,I1,r1,q1⟩=>ho pins s1 σ H1 x v Q I1 r1 q1)
theorem opI{f:Value->Value->Sem Value}{C:Int->Int->Prop}{g:Int->Int->Int}
  (rule:∀(i j:Int) (t u:Tok) (s:Shared) (Q:Value->Shared->Prop) (E:Value->Shared->Prop),C i j->Q (.int (g i j) s.toks) { s with toks:=s.toks+1 }->wpAny (model X.prog X.w) X.A (f (.int i t) (.int j u)) Q E s) :
  OpR X f (rI C λi j=>.int (g i j)):=by
 intro pins s σ H x y v u Q I rx ry h;obtain⟨i,j,rfl,rfl,hc,q⟩:=h;obtain⟨t,rfl⟩:=rx;obtain⟨t',rfl⟩:=ry;exact rule i j t t' s _ _ hc ⟨.int (g i j),H,I.tok _,⟨_,rfl⟩,q⟩
theorem PM{f:Value->Value->Sem Value}{g:Int->Int->Int}
  (rule:∀(i j:Int) (t u:Tok) (s:Shared) (Q:Value->Shared->Prop) (E:Value->Shared->Prop),Q (.int (g i j) s.toks) { s with toks:=s.toks+1 }->wpAny (model X.prog X.w) X.A (f (.int i t) (.int j u)) Q E s) :
  OpR X f (rI0 λi j=>.int (g i j)):=by
 intro pins s σ H x y v u Q I rx ry h;obtain⟨i,j,rfl,rfl,q⟩:=h;obtain⟨t,rfl⟩:=rx;obtain⟨t',rfl⟩:=ry;exact rule i j t t' s _ _ ⟨.int (g i j),H,I.tok _,⟨_,rfl⟩,q⟩
theorem MG{f:Value->Value->Sem Value}{g:Int->Int->Bool}
  (rule:∀(i j:Int) (t u:Tok) (s:Shared) (Q:Value->Shared->Prop) (E:Value->Shared->Prop),Q (.bool (g i j)) s->wpAny (model X.prog X.w) X.A (f (.int i t) (.int j u)) Q E s) :
  OpR X f (rI0 λi j=>.bl (g i j)):=by
 intro pins s σ H x y v u Q I rx ry h;obtain⟨i,j,rfl,rfl,q⟩:=h;obtain⟨t,rfl⟩:=rx;obtain⟨t',rfl⟩:=ry;exact rule i j t t' s _ _ ⟨.bl (g i j),H,I,rfl,q⟩
def TV(i j:Int):Prop:=0<j/\j<1073741824
def QN(i j:Int):Prop:=0<=j/\j<=1000000/\i.natAbs<2 ^ 64
def NL(i j:Int):Prop:=(-(2 ^ 64)<i/\i<2 ^ 64)\/(-(2 ^ 64)<j/\j<2 ^ 64)
theorem NL.ok{i j:Int}(h:NL i j):IntMulOk i j:=by
 rcases h with⟨h1,h2⟩ | ⟨h1,h2⟩
 ·exact .of_left (intBits_le_64 h1 h2)
 ·exact .of_right (intBits_le_64 h1 h2)
theorem bD:OpR X (binaryOp .Add) (rI0 λi j=>.int (i+j)):=PM λ_ _ _ _ _ _ _ q=>add_int q
theorem cH:OpR X (binaryOp .Sub) (rI0 λi j=>.int (i-j)):=PM λ_ _ _ _ _ _ _ q=>sub_int q
theorem cS:OpR X (binaryOp .Mult) (rI NL λi j=>.int (i*j)):=opI λ_ _ _ _ _ _ _ hc q=>mul_int q hc.ok
theorem dG:OpR X (binaryOp .FloorDiv) (rI TV λi j=>.int (i / j)):=opI λi j _ _ _ _ _ hc q=>by
 have h1:(0:Int)<j:=hc.1;have h2:j<1073741824:=hc.2;exact floordiv_int (by lia) (by rw[Int.fdiv_eq_ediv_of_nonneg i (by lia)];exact q) (.inl (PyProof.noPylong_small (by omega)))
theorem bG:OpR X (binaryOp .Mod) (rI (λ_ j=>0<j) λi j=>.int (i%j)):=opI λi j _ _ _ _ _ hc q=>by
 have h1:(0:Int)<j:=hc;exact mod_int' (by lia) (by rw[Int.fmod_eq_emod_of_nonneg i (by lia)];exact q)
theorem C4:OpR X (binaryOp .Pow) (rI QN λi j=>.int (i ^ j.toNat)):=opI λ_ _ _ _ _ _ _ hc q=>pow_int_small hc.1 hc.2.1 hc.2.2 q
theorem PJ:OpR X (binaryOp .BitXor) (rI0 λi j=>.int (Builtin.bitXor i j)):=PM λ_ _ _ _ _ _ _ q=>xor_int q
theorem unI{f:Value->Sem Value}{g:Int->Int}
  (rule:∀(i:Int) (t:Tok) (s:Shared) (Q:Value->Shared->Prop) (E:Value->Shared->Prop),Q (.int (g i) s.toks) { s with toks:=s.toks+1 }->wpAny (model X.prog X.w) X.A (f (.int i t)) Q E s) :
  UnR X f (rU λi=>.int (g i)):=by
 intro pins s σ H x v Q I rx h;obtain⟨i,rfl,q⟩:=h;obtain⟨t,rfl⟩:=rx;exact rule i t s _ _ ⟨.int (g i),H,I.tok _,⟨_,rfl⟩,q⟩
theorem fY:UnR X (unaryOp .USub) (rU λi=>.int (-i)):=unI λ_ _ _ _ _ q=>neg_int q
end
def RD:V->V->Bool
 |.non,.non=>true | .non,.int _=>true | .int _,.non=>true | .non,.bl _=>true | .bl _,.non=>true | .non,.str _=>true | .str _,.non=>true
 |.int _,.int _=>true | .bl _,.bl _=>true | .str _,.str _=>true | .byt _,.byt _=>true
 |.int _,.str _=>true | .str _,.int _=>true | .bl _,.str _=>true | .str _,.bl _=>true
 |_,_=>false
def rEq:R2:=λx y H Q=>RD x y=true/\Q (.bl (decide (x=y))) H
def rNe:R2:=λx y H Q=>RD x y=true/\Q (.bl (!decide (x=y))) H
theorem E7{i j:Int}:decide (V.int i=V.int j)=(i==j):=by
 rw[Xy];simp
theorem KS{i j:Bool}:decide (V.bl i=V.bl j)=(i==j):=by
 rw[Xy];simp
theorem E6{i j:Str}:decide (V.str i=V.str j)=(i==j):=by
 rw[Xy];simp
theorem E8{i j:Array UInt8}:decide (V.byt i=V.byt j)=(i.toList==j.toList):=by
 rw[Xy];cases i;cases j;simp
section
variable{X:Cx}{a b c:Expr}{ta tb tc:TE}{pos:Pos}
theorem cB{pins:List (Addr×Obj)}{σ:St}{H:Hp}{s:Shared}{Q:VK}{k k':Bool}(I:Inv X pins σ H s)(q:Q (.bl k) H)(e:k=k'):EP X pins σ Q (.bool k') s:=by
 subst e;exact⟨.bl k,H,I,rfl,q⟩
theorem lK:OpR X (compareOp .Eq) rEq:=by
 intro pins s σ H x y v u Q I rx ry h;obtain⟨hs,q⟩:=h;cases x with
 |non =>
  cases rx;cases y with
  |non=>cases ry;exact PySem.EqNone.eq_none_none (cB I q (by simp))
  |bl j=>cases ry;exact PySem.EqNone.eq_none_bool (cB I q (by simp))
  |int j=>obtain⟨t',rfl⟩:=ry;exact PySem.EqNone.eq_none_int (cB I q (by simp))
  |str j=>obtain⟨t',rfl⟩:=ry;exact PySem.EqNone.eq_none_str (cB I q (by simp))
  |_=>exact absurd (show false=true from hs) Bool.false_ne_true
 |bl i =>
  cases rx;cases y with
  |non=>cases ry;exact PySem.EqNone.eq_bool_none (cB I q (by simp))
  |bl j=>cases ry;exact eq_bool (cB I q KS)
  |str j=>obtain⟨t',rfl⟩:=ry;exact PySem.EqMixed.eq_bool_str (cB I q (by simp))
  |_=>exact absurd (show false=true from hs) Bool.false_ne_true
 |int i =>
  obtain⟨t,rfl⟩:=rx;cases y with
  |non=>cases ry;exact PySem.EqNone.eq_int_none (cB I q (by simp))
  |int j=>obtain⟨t',rfl⟩:=ry;exact eq_int (cB I q E7)
  |str j=>obtain⟨t',rfl⟩:=ry;exact PySem.EqMixed.eq_int_str (cB I q (by simp))
  |_=>exact absurd (show false=true from hs) Bool.false_ne_true
 |str i =>
  obtain⟨t,rfl⟩:=rx;cases y with
  |non=>cases ry;exact PySem.EqNone.eq_str_none (cB I q (by simp))
  |bl j=>cases ry;exact PySem.EqMixed.eq_str_bool (cB I q (by simp))
  |int j=>obtain⟨t',rfl⟩:=ry;exact PySem.EqMixed.eq_str_int (cB I q (by simp))
  |str j=>obtain⟨t',rfl⟩:=ry;exact eq_str (cB I q E6)
  |_=>exact absurd (show false=true from hs) Bool.false_ne_true
 |byt i =>
  obtain⟨t,rfl⟩:=rx;cases y with
  |byt j=>obtain⟨t',rfl⟩:=ry;exact PySem.W.eq_bytes (cB I q E8)
  |_=>exact absurd (show false=true from hs) Bool.false_ne_true
 |_=>cases y<;>exact absurd (show false=true from hs) Bool.false_ne_true
theorem xE:OpR X (compareOp .NotEq) rNe:=by
 intro pins s σ H x y v u Q I rx ry h;obtain⟨hs,q⟩:=h;cases x with
 |non =>
  cases rx;cases y with
  |non=>cases ry;exact PySem.EqNone.ne_none_none (cB I q (by simp))
  |bl j=>cases ry;exact PySem.EqNone.ne_none_bool (cB I q (by simp))
  |int j=>obtain⟨t',rfl⟩:=ry;exact PySem.EqNone.ne_none_int (cB I q (by simp))
  |str j=>obtain⟨t',rfl⟩:=ry;exact PySem.EqNone.ne_none_str (cB I q (by simp))
  |_=>exact absurd (show false=true from hs) Bool.false_ne_true
 |bl i =>
  cases rx;cases y with
  |non=>cases ry;exact PySem.EqNone.ne_bool_none (cB I q (by simp))
  |bl j=>cases ry;exact ne_bool (cB I q (congrArg not KS))
  |str j=>obtain⟨t',rfl⟩:=ry;exact PySem.EqMixed.ne_bool_str (cB I q (by simp))
  |_=>exact absurd (show false=true from hs) Bool.false_ne_true
 |int i =>
  obtain⟨t,rfl⟩:=rx;cases y with
  |non=>cases ry;exact PySem.EqNone.ne_int_none (cB I q (by simp))
  |int j=>obtain⟨t',rfl⟩:=ry;exact ne_int (cB I q (congrArg not E7))
  |str j=>obtain⟨t',rfl⟩:=ry;exact PySem.EqMixed.ne_int_str (cB I q (by simp))
  |_=>exact absurd (show false=true from hs) Bool.false_ne_true
 |str i =>
  obtain⟨t,rfl⟩:=rx;cases y with
  |non=>cases ry;exact PySem.EqNone.ne_str_none (cB I q (by simp))
  |bl j=>cases ry;exact PySem.EqMixed.ne_str_bool (cB I q (by simp))
  |int j=>obtain⟨t',rfl⟩:=ry;exact PySem.EqMixed.ne_str_int (cB I q (by simp))
  |str j=>obtain⟨t',rfl⟩:=ry;exact ne_str (cB I q (congrArg not E6))
  |_=>exact absurd (show false=true from hs) Bool.false_ne_true
 |byt i =>
  obtain⟨t,rfl⟩:=rx;cases y with
  |byt j=>obtain⟨t',rfl⟩:=ry;exact PySem.W.ne_bytes (cB I q (congrArg not E8))
  |_=>exact absurd (show false=true from hs) Bool.false_ne_true
 |_=>cases y<;>exact absurd (show false=true from hs) Bool.false_ne_true
theorem tZ:OpR X (compareOp .Lt) (rI0 λi j=>.bl (decide (i<j))):=MG λ_ _ _ _ _ _ _ q=>lt_int q
theorem RL:OpR X (compareOp .LtE) (rI0 λi j=>.bl (decide (i<=j))):=MG λ_ _ _ _ _ _ _ q=>le_int q
theorem JC:OpR X (compareOp .Gt) (rI0 λi j=>.bl (decide (j<i))):=MG λ_ _ _ _ _ _ _ q=>gt_int q
theorem JD:OpR X (compareOp .GtE) (rI0 λi j=>.bl (decide (j<=i))):=MG λ_ _ _ _ _ _ _ q=>ge_int q
theorem MF:OpR X (compareOp .IsNot) (λx y H Q=>y=.non/\Q (.bl (!decide (x=.non))) H):=by
 intro pins s σ H x y v u Q I rx ry h;obtain⟨rfl,q⟩:=h;cases ry;refine isnot_none_gen (cB I q ?_);cases x<;>first
  |(cases rx;rfl)
  |(obtain⟨t,rfl⟩:=rx;rfl)
theorem bO(b:Expr){op:CmpOp}(h:op≠.In:=by decide)(h2:op≠.NotIn:=by decide):behindInMarks op b=false:=by
 have e1:(op==CmpOp.In)=false:=by cases op<;>first | rfl | exact absurd rfl h
 have e2:(op==CmpOp.NotIn)=false:=by cases op<;>first | rfl | exact absurd rfl h2
 cases b<;>simp[behindInMarks,e1,e2]
theorem kE{op:CmpOp}{r:R2}(ho:OpR X (compareOp op) r)(ha:PE X a ta)(hb:PE X b tb)(hm:behindInMarks op b=false):PE X (.Compare a [op] [b] pos) (tOp r ta tb):=by
 intro pins s σ H Q I h;exact wpAny_Compare1 (QJ ha hb I h λv u s2 x y H2 I2 rx ry q=>ho pins s2 σ H2 x y v u Q I2 rx ry q) hm
def QT(t:TE):TT:=λσ H Q=>t σ H λx H'=>∃k,x=.bl k/\Q k H'
theorem bF{op:CmpOp}{r:R2}(ho:OpR X (compareOp op) r)(ha:PE X a ta)(hb:PE X b tb)(hm:behindInMarks op b=false):PT X (.Compare a [op] [b] pos) (QT (tOp r ta tb)):=by
 intro pins s σ H Q I h;refine wpAny_isTrue_Compare1 (thn (ha pins s σ H _ I h) λv s1 ⟨x,H1,I1,r1,q1⟩=>thn (hb pins s1 σ H1 _ I1 q1) λu s2 ⟨y,H2,I2,r2,q2⟩ =>
  thn (ho pins s2 σ H2 x y v u _ I2 r1 r2 q2) λc s3 ⟨z,H3,I3,r3,k,e,q3⟩=>?_) hm
 subst e;cases r3;exact wpAny_truthy_bool ⟨H3,I3,q3⟩
def R5(K:PySem.W.Frag)(x:V)(H:Hp)(k:Bool):Prop :=
 match x with
 |.non=>k=false
 |.bl b=>k=b
 |.int i=>k=(i != 0)
 |.str y=>y.length<=ZW/\k=((y.length:Int) != 0)
 |.byt y=>y.size<=ZW/\k=((y.size:Int) != 0)
 |.ref p=>(∃xs,SqL K H p xs/\k=!xs.isEmpty)\/(∃xs,SqT K H p xs/\k=!xs.isEmpty)\/∃kvs,H p=some (.dK kvs)/\k=!kvs.isEmpty
 |_=>False
theorem DL{κ:Type}{kvs:List (κ×V)}{vs:List (κ×Value)}(r:KV kvs vs):(!vs.isEmpty)=!kvs.isEmpty:=by
 cases r<;>rfl
theorem uK{xs:List V}{its:List Value}(r:bJ xs its):(!its.toArray.isEmpty)=!xs.isEmpty:=by
 cases r<;>simp
theorem kG:(ZW:Nat)<2 ^ 63:=by rw[sizeLine_eq];decide
theorem OB:TQ X (λx H Q=>∃k,R5 X.K x H k/\Q k H):=by
 intro pins s σ H x v Q I rx h;obtain⟨k,e,q⟩:=h;have hl:=kG;have hs:ZW=16777216:=sizeLine_eq;cases x with
 |non =>
  cases rx;have e':k=false:=e;subst e';exact truthy_none ⟨H,I,q⟩
 |bl b =>
  cases rx;have e':k=b:=e;subst e';exact wpAny_truthy_bool ⟨H,I,q⟩
 |int i =>
  obtain⟨t,rfl⟩:=rx;have e':k=(i != 0):=e;subst e';exact PySem.P.truthy_int ⟨H,I,q⟩
 |str y =>
  obtain⟨t,rfl⟩:=rx;obtain⟨hy,e'⟩:y.length<=ZW/\k=((y.length:Int) != 0):=e;subst e';exact PySem.P.truthy_str (by lia) ⟨H,I.tok _,q⟩
 |byt y =>
  obtain⟨t,rfl⟩:=rx;obtain⟨hy,e'⟩:y.size<=ZW/\k=((y.size:Int) != 0):=e;subst e';exact PySem.W.truthy_bytes (by lia) ⟨H,I.tok _,q⟩
 |ref p =>
  cases rx;have e':(∃xs,SqL X.K H p xs/\k=!xs.isEmpty)\/(∃xs,SqT X.K H p xs/\k=!xs.isEmpty)\/∃kvs,H p=some (.dK kvs)/\k=!kvs.isEmpty:=e;rcases e' with⟨xs,hx,e'⟩ | ⟨xs,hx,e'⟩ | ⟨kvs,hx,e'⟩
  ·subst e';obtain⟨its,r,pl,hz⟩:=I.list hx;have hlen:=r.length;exact wpAny_truthy_list pl.isList (by simp only[List.size_toArray];lia) ⟨H,I.tok _,by rw[uK r];exact q⟩
  ·subst e';obtain⟨its,r,pl,hz⟩:=I.tuple hx;have hlen:=r.length;exact truthy_tuple pl (by simp only[List.size_toArray];lia) ⟨H,I.tok _,by rw[uK r];exact q⟩
  ·subst e';obtain⟨hz,hS,vs,r,m⟩:kvs.length<=ZW/\(p==sysModules)=false/\∃vs,KV kvs vs/\s.heap.DictOf (cM X.prog X.w) p vs:=I.hok p _ hx;have hlen:kvs.length=vs.length:=Paired.length r;exact wpAny_truthy_dict hS m (by lia) ⟨H,I.tok _,by rw[DL r];exact q⟩
 |_=>exact(show False from e).elim
theorem oR(ha:PE X a ta)(he:∀whole,isTrue a X.env whole=(do let v <-whole;standAt a.pos;holding [v] (truthy v))) :
  PT X a (λσ H Q=>ta σ H λx H'=>∃k,R5 X.K x H' k/\Q k H'):=by
 intro pins s σ H Q I h;exact isTrue_plain (thn (ha pins s σ H _ I h) λv s1 ⟨x,H1,I1,r1,q1⟩=>OB pins s1 σ H1 x v Q I1 r1 q1) (he _)
theorem vals1{x:V}{us:List Value}(r:bJ [x] us):∃u,us=[u]/\RelV x u:=by
 cases r with
 |cons r1 r2=>cases r2;exact⟨_,rfl,r1⟩
theorem vals2{x y:V}{us:List Value}(r:bJ [x,y] us):∃u w',us=[u,w']/\RelV x u/\RelV y w':=by
 cases r with
 |cons r1 r2 =>
  cases r2 with
  |cons r3 r4=>cases r4;exact⟨_,_,rfl,r1,r3⟩
theorem mN:iK X (.type "int") (λxs H Q=>(∃i,xs=[.int i]/\Q (.int i) H)\/∃k,xs=[.bl k]/\Q (.int (if k then 1 else 0)) H):=by
 intro pins s σ H xs us Q I r h;rcases h with⟨i,rfl,q⟩ | ⟨k,rfl,q⟩
 ·obtain⟨u,rfl,t,rfl⟩:=vals1 r;exact call_int_int ⟨.int i,H,I,⟨_,rfl⟩,q⟩
 ·obtain⟨u,rfl,r1⟩:=vals1 r;cases r1;exact call_int_bool ⟨.int (if k then 1 else 0),H,I.tok _,⟨_,rfl⟩,q⟩
end
end L2
namespace L2
open PySem PySem.Spec PyProof.Rows
structure QM(h:Heap)(x dx C:Addr)(mA:Str->Option Value):Prop where
 obj:h.get? x=some (PySem.W.instObj C dx)
 ns:h.Ns1 dx mA
 ne:dx≠x
theorem GD{h:Heap}{dx:Addr}{mA:Str->Option Value}(n:h.Ns1 dx mA):∃od,h.get? dx=some od/\∀name,PySem.W.lookIn name od=some (mA name):=by
 obtain⟨o,es,ep,ho,hd,hk,_,hm⟩:=n;refine⟨o,ho,λname=>?_⟩;have e:=hm name;unfold nsFind findBy at e;rw[<-Array.find?_toList]at e;unfold PySem.W.lookIn;rw[hd];dsimp only;split
 ·rename_i y q
  rw[q]at e;exact congrArg some e
 ·rename_i q
  rw[q]at e;have a:es.toList.any (·.refKey)=false:=by
   rw[List.any_eq_false];intro y hy;obtain⟨z,t,hkey⟩:=hk y (Array.mem_toList_iff.mp hy);simp[DictEntry.refKey,hkey]
  have a':¬es.toList.any (·.refKey)=true:=by rw[a];exact Bool.false_ne_true
  rw[if_neg a'];exact congrArg some e
theorem QM.look{h:Heap}{x dx C:Addr}{mA:Str->Option Value}(I:QM h x dx C mA):∃od,PySem.W.InstAt h x (PySem.W.instObj C dx) C (some od)/\∀name,PySem.W.lookIn name od=some (mA name) :=
 let⟨od,ho,hl⟩:=GD I.ns
 ⟨od,⟨I.obj,rfl,rfl,ho⟩,hl⟩
section
variable{prog:Program}{w:World}{A:Around}{E:Value->Shared->Prop}{s:Shared}{K:PySem.W.Frag}{x dx C f:Addr}{mA:Str->Option Value}{name:Str}{v:Value}
end
theorem qX.some_of{v:V}{o:Option Value}(r:qX (some v) o):∃u,o=some u/\RelV v u:=by
 cases o with
 |none=>exact(show False from r).elim
 |some u=>exact⟨u,rfl,r⟩
section
variable{P:Program}{w:World}{H H':Hp}{h h':Heap}{a C dx:Addr}{fs fs':List (Str×V)}
theorem M1(hok:HOk P w H h)(e:H a=some (.ins C dx fs)):∃mA,QM h a dx C mA/\(∀f,qX (fs.lookup f) (mA f))/\PySem.Within mA (fs.map (·.1))/\fs.length<=1000/\H dx=some (.own a):=by
 obtain⟨d,z,ne,ob,mA,n,r,q⟩:=(show cG P w H h a (.ins C dx fs) from hok a _ e)
 exact⟨mA,⟨ob,n,ne⟩,r,q,z,d⟩
end
structure Cls(K:PySem.W.Frag)(C:Addr):Prop where
 pg:PySem.W.plainGet K C Str.empty=true
 hd:PySem.W.hasDictIn K C=true
 po:PySem.W.plainOver K C=true
 sa:PySem.W.findIn K (.ref C) "__setattr__" = some (some (.builtin "object.__setattr__"))
theorem Cls.get{K:PySem.W.Frag}{C:Addr}(c:Cls K C)(f:Str):PySem.W.plainGet K C f=true:=c.pg
section
variable{X:Cx}{pins:List (Addr×Obj)}{σ:St}{H:Hp}{s:Shared}{a C dx:Addr}{fs:List (Str×V)}{f:Str}{v:V}{A:Around}{E:Value->Shared->Prop}
end
section
variable{X:Cx}{o e value:Expr}{f:Str}{pos pos' tpos:Pos}{ta tv:TE}
end
section
variable{X:Cx}{pins:List (Addr×Obj)}{σ:St}{H:Hp}{s:Shared}{A:Around}{E:Value->Shared->Prop}{Q:Value->Shared->Prop}{c:Value}{b:Bool}
inductive qW(K:PySem.W.Frag)(H:Hp):V->Value->Prop where
 |non:qW K H .non (.type "NoneType")
 |bl (x:Bool):qW K H (.bl x) (.type "bool")
 |int (i:Int):qW K H (.int i) (.type "int")
 |str (x:Str):qW K H (.str x) (.type "str")
 |flt (x:UInt64):qW K H (.flt x) (.type "float")
 |lst {a:Addr}{xs:List V}(e:H a=some (.lst xs)):qW K H (.ref a) (.type "list")
 |frz {a:Addr}{o:Obj}{xs:List V}(e:H a=some (.frz o (.lst xs))):qW K H (.ref a) (.type "list")
 |tup {a:Addr}{xs:List V}(e:H a=some (.tup xs)):qW K H (.ref a) (.type "tuple")
 |dK {a:Addr}{kvs:List (Key×V)}(e:H a=some (.dK kvs)):qW K H (.ref a) (.type "dict")
 |dT {a:Addr}{kvs:List (List Key×V)}(e:H a=some (.dT kvs)):qW K H (.ref a) (.type "dict")
 |ins {a C dx:Addr}{fs:List (Str×V)}(e:H a=some (.ins C dx fs)) (cl:Cls K C) (ha:PySem.W.findIn K (.ref C) "__class__" = some (some (.builtin "object.__class__")))
   (hn:PySem.W.specialIn K (.builtin "object.__class__") "__get__" = some (some (.builtin "getset_descriptor.__get__"))) (htk:PySem.W.takesIn K (.builtin "object.__class__")=some true)
   (hm:PySem.W.mroIn K C (.type "object")=some true):qW K H (.ref a) (.ref C)
theorem GM{x:V}{u t:Value}(I:Inv X pins σ H s)(rx:RelV x u)(ty:qW X.K H x t)(e:PySem.W.kitOne X.K t c=some b)(h:∀tk,Q (.bool b) { s with toks:=tk }) :
  wpAny (model X.prog X.w) A (call (.builtin "isinstance") [u,c]) Q E s:=by
 cases ty with
 |non=>cases (show u=Value.none from rx);exact PySem.W.kia_one PySem.W.kitx_none I.kIn True.intro e (λz=>nomatch z) h
 |bl y=>cases (show u=Value.bool y from rx);exact PySem.W.kia_one PySem.W.kitx_bool I.kIn True.intro e (λz=>nomatch z) h
 |int i=>obtain⟨t,q⟩:=(show ∃t,u=Value.int i t from rx);cases q;exact PySem.W.kia_one PySem.W.kitx_int I.kIn True.intro e (λz=>nomatch z) h
 |str y=>obtain⟨t,q⟩:=(show ∃t,u=Value.str y t from rx);cases q;exact PySem.W.kia_one PySem.W.kitx_str I.kIn True.intro e (λz=>nomatch z) h
 |flt y=>obtain⟨t,q⟩:=(show ∃t,u=Value.float y t from rx);cases q;exact PySem.W.kia_one PySem.W.kitx_float I.kIn True.intro e (λz=>nomatch z) h
 |@lst a xs ea =>
  cases (show u=Value.ref a from rx);obtain⟨_,_,n,_,h1⟩:=(show cG X.prog X.w H s.heap a (.lst xs) from I.hok a _ ea)
  exact PySem.W.kia_one PySem.W.kitx_list I.kIn ⟨_,h1,rfl⟩ e (λz=>nomatch z) h
 |@frz a ob xs ea =>
  cases (show u=Value.ref a from rx);obtain⟨_,_,_,n,_,h1⟩:=(show cG X.prog X.w H s.heap a (.frz ob (.lst xs)) from I.hok a _ ea)
  exact PySem.W.kia_one PySem.W.kitx_list I.kIn ⟨_,h1,rfl⟩ e (λz=>nomatch z) h
 |@tup a xs ea =>
  cases (show u=Value.ref a from rx);obtain⟨_,_,_,p⟩:=(show cG X.prog X.w H s.heap a (.tup xs) from I.hok a _ ea)
  obtain⟨o,h1,h2,_⟩:=p;exact PySem.W.kia_one PySem.W.kitx_tuple I.kIn ⟨o,h1,h2⟩ e (λz=>nomatch z) h
 |@dK a kvs ea =>
  cases (show u=Value.ref a from rx);obtain⟨_,_,vs,_,p⟩:=(show cG X.prog X.w H s.heap a (.dK kvs) from I.hok a _ ea)
  obtain⟨o,es,ep,h1,h2,_⟩:=p;exact PySem.W.kia_one PySem.W.kitx_dict I.kIn ⟨o,h1,h2.1⟩ e (λz=>nomatch z) h
 |@dT a kvs ea =>
  cases (show u=Value.ref a from rx);obtain⟨_,_,xs,_,o,es,ep,h1,h2,_⟩:=(show cG X.prog X.w H s.heap a (.dT kvs) from I.hok a _ ea)
  exact PySem.W.kia_one PySem.W.kitx_dict I.kIn ⟨o,h1,h2.1⟩ e (λz=>nomatch z) h
 |@ins a C dx fs ea cl ha hn htk hm =>
  cases (show u=Value.ref a from rx);obtain⟨mA,O,_⟩:=M1 I.hok ea;obtain⟨od,J,_⟩:=O.look;exact PySem.W.kia_one (PySem.W.kitx_own (cl.get _) cl.hd ha hn htk hm) I.kIn J e (λz=>nomatch z) h
end
end L2
namespace L2
open PySem PySem.Spec PyProof.Rows
structure eR(k:Nat)(A:Around):Prop where
 hd:A.handled=none
 dp:A.depth+3*k+5<recursionLimit
 un:A.units+16*k+200<cLine
theorem eR.mono{j k:Nat}{A:Around}(r:eR k A)(h:j<=k):eR j A:=⟨r.hd,by have:=r.dp;lia,by have:=r.un;lia⟩
theorem eR.deeper{k:Nat}{A:Around}(r:eR (k+1) A)(env:Env):eR k (A.deeper env) :=
 ⟨r.hd,by have:=r.dp;show A.depth+1+3*k+5<_;lia,by have:=r.un;show A.units+3+16*k+200<_;lia⟩
theorem eR.in1{k:Nat}{A:Around}(r:eR (k+1) A):eR k A.in1 :=
 ⟨r.hd,by have:=r.dp;show A.depth+3*k+5<_;lia,by have:=r.un;show A.units+1+16*k+200<_;lia⟩
theorem eR.depth{k:Nat}{A:Around}(r:eR k A):A.depth<recursionLimit:=by have:=r.dp;lia
theorem eR.units{k:Nat}{A:Around}(r:eR k A):A.units+64<cLine:=by have:=r.un;lia
theorem eR.units0{k:Nat}{A:Around}(r:eR k A):A.units<cLine:=by have:=r.un;lia
def FR:TA:=λ_ H Q=>Q [] H
def oH(ta:TE)(tr:TA):TA:=λσ H Q=>ta σ H λx H1=>tr σ H1 λxs H2=>Q (x::xs) H2
section
variable{X:Cx}{e:Expr}{es:List Expr}{te:TE}{t:TA}{pos:Pos}
theorem aE:PA X [] FR:=λ_ _ _ _ H Q I h=>Calls.spliced_nil ⟨[],H,I,.nil,h⟩
theorem aA(ha:PE X e te)(hr:PA X es t)(hs:starEach (e::es) X.env=(false,eval e X.env)::starEach es X.env:=by rfl):PA X (e::es) (oH te t):=by
 intro pos pins s σ H Q I h;rw[hs];show wpAny _ _ (spliced ((false,eval e X.env)::backTo pos (starEach es X.env))) _ _ s;refine Calls.spliced_cons (thn (ha pins s σ H _ I h) λu s1 ⟨x,H1,I1,r1,q1⟩=>?_);exact thn (hr pos pins s1 σ H1 _ I1 q1) λus s2 ⟨xs,H2,I2,r2,q2⟩=>⟨x::xs,H2,I2,.cons r1 r2,q2⟩
def OG(t:TA):TE:=λσ H Q=>t σ H λxs H1=>xs.length<=ZW/\∀p,H1 p=none->Q (.ref p) (upd H1 p (.tup xs))
def QY(t:TA):TE:=λσ H Q=>t σ H λxs H1=>xs.length<=ZW/\∀p,H1 p=none->Q (.ref p) (upd H1 p (.lst xs))
theorem b8{x1}(h:PA X es t):PE X (.Tuple es x1 pos) (OG t):=by
 intro pins s σ H Q I hq;refine wpAny_Tuple_spliced (thn (h pos pins s σ H _ I hq) λus s1 ⟨xs,H1,I1,r,z,q⟩=>⟨by rw[<-r.length];exact z,?_⟩);have hf:H1 s1.heap.objs.size=none:=I1.hok.fresh (Nat.le_refl _);refine⟨.ref s1.heap.objs.size,upd H1 s1.heap.objs.size (.tup xs),I1.laid (t':=s1.toks) (λb u e=>Heap.get?_push_of_some _ e) (Nat.le_refl _) ?_,rfl,q _ hf⟩;exact⟨z,us,r,⟨_,Heap.get?_push_size _ rfl,rfl,_,rfl⟩⟩
theorem bZ(h:PA X es t):PE X (.List es pos) (QY t):=by
 intro pins s σ H Q I hq;refine wpAny_List_spliced (thn (h pos pins s σ H _ I hq) λus s1 ⟨xs,H1,I1,r,z,q⟩=>⟨by rw[<-r.length];exact z,?_⟩);have hf:H1 s1.heap.objs.size=none:=I1.hok.fresh (Nat.le_refl _);refine⟨.ref s1.heap.objs.size,upd H1 s1.heap.objs.size (.lst xs),I1.laid (t':=s1.toks) (λb u e=>Heap.get?_push_of_some _ e) (Nat.le_refl _) ?_,rfl,q _ hf⟩;exact⟨z,us,0,r,Heap.get?_push_size _ rfl⟩
end
abbrev Sp:=List V->Hp->VK->XK->Prop
abbrev CXT:=List Env->Hp->Shared->XK->Value->Shared->Prop
structure NJ(P:Program)(w:World)(K:PySem.W.Frag)(mg:Str->Option Value)(base:Heap)(A:Around)(outer:List Env)(s:Shared)(H:Hp):Prop where
 frames:A.frames=some outer
 mod:Mod K mg base
 bs:∀b o,base.get? b=some o->s.heap.get? b=some o/\H b=none
 bsz:base.objs.size<=s.heap.objs.size
 funs:s.heap.FunFrames base outer
 frf:∀b∈frs outer,H b=none
 hok:HOk P w H s.heap
 bare:AllBare s.gens
def CE(outer:List Env)(P:Program)(w:World)(H:Hp)(s:Shared)(Q:VK)(u:Value)(s':Shared):Prop :=
 ∃v H',s'.os=s.os/\AllBare s'.gens/\Un (frs outer) [] H H' s.heap s'.heap/\HOk P w H' s'.heap/\RelV v u/\Q v H'
def CR(CX:CXT)(outer:List Env)(P:Program)(w:World)(H:Hp)(s:Shared)(Q:VK)(E:XK)(r:Result)(s':Shared):Prop :=
 match r with
 |.ok (.ret u)=>CE outer P w H s Q u s'
 |.ok _=>False
 |.error e=>CX outer H s E e s'
structure cU(P:Program)(w:World)(K:PySem.W.Frag)(mg:Str->Option Value)(base:Heap)(CX:CXT)(k:Nat)(f:Addr)(fd:FuncData)(ps:List Str)(sp:Sp):Prop where
 len:∀vs H Q E,sp vs H Q E->vs.length=ps.length
 run:∀(A:Around) (outer:List Env) (s:Shared) (H:Hp) (args:Args) (us:List Value) (vs:List V) (Q:VK) (E:XK),eR k A->NJ P w K mg base A outer s H->BindsTo s fd args (ps.zip us)->bJ vs us->sp vs H Q E ->
  codeAny (model P w) A (.call (.ref f) args) (CR CX outer P w H s Q E) s
section
variable{X:Cx}{pins:List (Addr×Obj)}{σ:St}{H:Hp}{s s':Shared}
theorem Inv.env0(I:Inv X pins σ H s):NJ X.prog X.w X.K X.mg X.base X.A X.stack s H :=
 ⟨I.ok.frames,I.ok.mod,I.bs,Ys I.ok.bsz I.sz,I.stack,I.stkFree,I.hok,I.bare⟩
theorem Inv.after{Q:VK}{u:Value}(I:Inv X pins σ H s)(h:CE X.stack X.prog X.w H s Q u s'):EP X pins σ Q u s':=by
 obtain⟨v,H',os,bare,un,hok,r,q⟩:=h;obtain⟨hh,g,d,t,os'⟩:=s';obtain rfl:os'=s.os:=os;exact⟨v,H',I.call (h':=hh) (g':=g) (d':=d) (t':=t) (ch:=[]) un hok bare (λb z=>absurd z (by simp)),r,q⟩
end
def NP(sp:Sp)(dvs:List V)(E:XK)(t:TA):TE:=λσ H Q=>t σ H λvs H1=>sp (vs++dvs) H1 Q E
def Binds(K:PySem.W.Frag)(fd:FuncData)(ps:List Str)(ds:List Value):Prop :=
 ∀(s:Shared) (us:List Value),K.In s.heap->(us++ds).length=ps.length->BindsTo s fd ⟨us,[]⟩ (ps.zip (us++ds))
theorem Binds.all{K:PySem.W.Frag}{fd:FuncData}{ps:List Str}(h:∀us:List Value,us.length=ps.length->bindArgs fd ⟨us,[]⟩=pure (ps.zip us)):Binds K fd ps []:=λs us _ hl=>by
 rw[List.append_nil]at hl ⊢;exact .of_eq (h us hl)
def zS(CX:CXT)(X:Cx)(E:XK):Prop:=∀(pins:List (Addr×Obj)) (σ:St) (H:Hp) (s:Shared) (e:Value) (s':Shared),Inv X pins σ H s->CX X.stack H s E e s'->X.xe e s'
section
variable{X:Cx}{CX:CXT}{k:Nat}{f C:Addr}{fd:FuncData}{ps:List Str}{sp:Sp}{dvs:List V}{ds:List Value}{E:XK}{x m:Str}{p pos apos:Pos}{e o:Expr}{es:List Expr}{ta:TE}{t:TA}
theorem OW{pins:List (Addr×Obj)}{σ:St}{H:Hp}{s:Shared}{Q:VK}{us:List Value}{vs:List V}(F:cU X.prog X.w X.K X.mg X.base CX k f fd ps sp)(hr:eR k X.A)(hb:Binds X.K fd ps ds)(hd:bJ dvs ds)(hx:zS CX X E)
  (I:Inv X pins σ H s) (r:bJ vs us) (h:sp (vs++dvs) H Q E):wpAny (model X.prog X.w) X.A (call (.ref f) us) (EP X pins σ Q) X.xe s:=by
 have r2:bJ (vs++dvs) (us++ds):=r.append hd;have hl:(us++ds).length=ps.length:=by rw[<-r2.length];exact F.len _ _ _ _ h
 refine wpAny_call (codeAny_mono (F.run X.A X.stack s H ⟨us,[]⟩ (us++ds) (vs++dvs) Q E hr I.env0 (hb s us I.kIn hl) r2 h) λr s' hq=>?_);cases r with
 |error e=>exact hx pins σ H s e s' I hq
 |ok fl =>
  cases fl with
  |ret u=>exact I.after hq
  |next=>exact False.elim hq
  |brk=>exact False.elim hq
  |cont=>exact False.elim hq
theorem EK(F:cU X.prog X.w X.K X.mg X.base CX k f fd ps sp)(hr:eR k X.A)(hg:Gl X x)(hm:X.mg x=some (.ref f))(hk:PySem.W.keepIn X.K (.ref f)=true)(hb:Binds X.K fd ps ds)(hd:bJ dvs ds)(hx:zS CX X E)
  (ha:PA X (e::es) t) (hdb:(x==("__debug__" : Str))=false:=by decide) (he:starEach (e::es) X.env=(false,eval e X.env)::starEach es X.env:=by rfl) (hpl:(backTo pos (starEach es X.env)).any (·.1)=false:=by rfl) :
  PE X (.Call (.Name x p) (e::es) [] pos) (NP sp dvs E t):=by
 intro pins s σ H Q I h;refine wpAny_Call_Name_kw (ES I hg hm ?_ hdb);refine PySem.W.callWith_K (h₀:=X.base) I.ok.mod.kin hk (thn (ha pos pins s σ H _ I h) λus s1 ⟨vs,H1,I1,r,q⟩=>⟨I1.kIn,?_⟩) he hpl;exact OW F hr hb hd hx I1 r q
end
def PK(X:Cx)(kws:List Keyword)(t:TA):Prop :=
 ∀(pos:Pos) (pins:List (Addr×Obj)) (s:Shared) (σ:St) (H:Hp) (Q:List V->Hp->Prop),Inv X pins σ H s->t σ H Q->wpAny (model X.prog X.w) X.A (evalAll ((backToKw pos (keywordEach kws X.env)).map (·.2))) (AP X pins σ Q) X.xe s
section
variable{X:Cx}{CX:CXT}{k:Nat}{f C:Addr}{fd:FuncData}{ps ks:List Str}{sp:Sp}{E:XK}{x m:Str}{p pos apos kpos:Pos}{e o:Expr}{es:List Expr}{kws:List Keyword}{te ta:TE}{t tk:TA}{nm:Option Str}
theorem O3:PK X [] FR:=λ_ _ _ _ H Q I h=>wpAny_evalAll_nil ⟨[],H,I,.nil,h⟩
theorem MB(ha:PE X e te)(hr:PK X kws t):PK X (⟨nm,e,kpos⟩::kws) (oH te t):=by
 intro pos pins s σ H Q I h;show wpAny _ _ (evalAll ((do let v <-eval e X.env;standAt pos;pure v)::(backToKw pos (keywordEach kws X.env)).map (·.2))) _ _ s;refine wpAny_evalAll_cons (ZZ (thn (ha pins s σ H _ I h) λu s1 ⟨x,H1,I1,r1,q1⟩=>ZZ (wpAny_standAt (ZY ?_))));exact thn (hr pos pins s1 σ H1 _ I1 q1) λus s2 ⟨xs,H2,I2,r2,q2⟩=>⟨x::xs,H2,I2,.cons r1 r2,q2⟩
variable{g:List Value->List Value->List Value}{gV:List V->List V->List V}
end
structure a5(N P:List Str)(sc:Scope):Prop where
 kind:sc.kind=.function
 co:sc.isCoroutine=false
 gen:sc.isGenerator=false
 nd:N.Nodup
 pre:N.take P.length=P
 par:∀x∈P,sc.names.lookup x=some .local\/sc.names.lookup x=some .cell
 nofree:∀y∈sc.names,y.2≠.free
theorem x6{kindOf:Str->Option NameKind}{x:Str}:∀{binds:List (Str×Value)}{m:Str->Option Value},(∀v,(x,v)∉binds)->bindL kindOf binds m x=m x
 |[],_,_=>rfl
 |(n,v)::r,m,h=>by
  unfold bindL;rw[x6 λw hw=>h w (Zw _ hw)];split
  ·have:x≠n:=by rintro rfl;exact h v Zd
   simp[this]
  ·rfl
theorem x9{kindOf:Str->Option NameKind}{x:Str}:∀{binds:List (Str×Value)}{m:Str->Option Value},(∀v,(x,v)∉binds)->bindC kindOf binds m x=m x
 |[],_,_=>rfl
 |(n,v)::r,m,h=>by
  unfold bindC;rw[x9 λw hw=>h w (Zw _ hw)];split
  ·rfl
  ·have:x≠n:=by rintro rfl;exact h v Zd
   simp[this]
theorem x8{kindOf:Str->Option NameKind}{x:Str}{v:Value}:∀{P:List Str}{vs:List Value}{i:Nat}{m:Str->Option Value},P.Nodup->P[i]?=some x->vs[i]?=some v->kindOf x=some .local ->
  bindL kindOf (P.zip vs) m x=some v
 |[],_,_,_,_,h,_,_=>by simp at h
 |_::_,[],_,_,_,_,h,_=>by simp at h
 |p::P,w::vs,0,m,nd,h1,h2,hk=>by
  simp at h1 h2;subst h1;subst h2;show bindL kindOf ((p,w)::P.zip vs) m p=_;unfold bindL;rw[x6 λv hv=>(List.nodup_cons.mp nd).1 (List.of_mem_zip hv).1,if_pos hk];simp
 |p::P,w::vs,i+1,m,nd,h1,h2,hk=>by
  show bindL kindOf ((p,w)::P.zip vs) m x=_;unfold bindL;exact x8 (i:=i) (List.nodup_cons.mp nd).2 (by simpa using h1) (by simpa using h2) hk
theorem yA{kindOf:Str->Option NameKind}{x:Str}{v:Value}:∀{P:List Str}{vs:List Value}{i:Nat}{m:Str->Option Value},P.Nodup->P[i]?=some x->vs[i]?=some v->kindOf x≠some .local ->
  bindC kindOf (P.zip vs) m x=some v
 |[],_,_,_,_,h,_,_=>by simp at h
 |_::_,[],_,_,_,_,h,_=>by simp at h
 |p::P,w::vs,0,m,nd,h1,h2,hk=>by
  simp at h1 h2;subst h1;subst h2;show bindC kindOf ((p,w)::P.zip vs) m p=_;unfold bindC;rw[x9 λv hv=>(List.nodup_cons.mp nd).1 (List.of_mem_zip hv).1,if_neg hk];simp
 |p::P,w::vs,i+1,m,nd,h1,h2,hk=>by
  show bindC kindOf ((p,w)::P.zip vs) m x=_;unfold bindC;exact yA (i:=i) (List.nodup_cons.mp nd).2 (by simpa using h1) (by simpa using h2) hk
def start(N:List Str)(vs:List V):St:=vs.map some++List.replicate (N.length-vs.length) none
def DO(CX:CXT)(P:Program)(w:World)(K:PySem.W.Frag)(mg:Str->Option Value)(base:Heap)(N:List Str)(qual:Str)(scope:Scope)(f:Addr)(cd:Value)(A:Around)(outer:List Env)(s:Shared)(H:Hp)(E:XK):Cx where
 prog:=P
 w:=w
 K:=K
 mg:=mg
 base:=base
 A:=A.deeper (envOfC qual scope s.heap.objs.size f cd)
 N:=N
 s₀:=s
 H₀:=H
 env:=envOfC qual scope s.heap.objs.size f cd
 outer:=outer
 stack:=envOfC qual scope s.heap.objs.size f cd::outer
 ex:=[]
 calm:=true
 fn:=λ_=>true
 pn:=[]
 xe:=λe s'=>wpAny (model P w) (A.deeper (envOfC qual scope s.heap.objs.size f cd)) (leaving (envOfC qual scope s.heap.objs.size f cd) e) (λ_ s''=>CX outer H s E e s'') (λe' s''=>CX outer H s E e' s'') s'
theorem B5{sc:Scope}{n:Nat}{x:Str}(h:sc.names.lookup x=some .cell):∃c,(cellsFrom n sc.names []).lookup x=some c:=by
 have q:=PySem.W.cellsFrom_some sc.names n [] (.inl h);exact Option.isSome_iff_exists.mp q
theorem GN{CX:CXT}{P:Program}{w:World}{K:PySem.W.Frag}{mg:Str->Option Value}{base:Heap}{N ps:List Str}{qual:Str}{scope:Scope}{f:Addr}{cd:Value}{A:Around}{outer:List Env}{s s1:Shared}{H:Hp}{E:XK}{us:List Value}{vs:List V}
  (S:a5 N ps scope) (hd:A.handled=none) (e0:NJ P w K mg base A outer s H) (hl:vs.length=ps.length) (r:bJ vs us)
  (x:InCallC s s.heap.objs.size (bindL (envOfC qual scope s.heap.objs.size f cd).kindOf (ps.zip us) λ_=>none) (cellsFrom (s.heap.objs.size+1) scope.names []) (bindC (envOfC qual scope s.heap.objs.size f cd).kindOf (ps.zip us) λ_=>none) s1) :
  Inv (DO CX P w K mg base N qual scope f cd A outer s H E) [] (start N vs) H s1:=by
 have hpl:ps.length<=N.length:=by have:=congrArg List.length S.pre;rw[Yx]at this;lia
 obtain⟨h1,tk,rfl,hk⟩:=x.done;have noA:∀b:Addr,b∉(DO CX P w K mg base N qual scope f cd A outer s H E).ex:=λb z=>absurd (show b∈([]:List Addr) from z) (by simp);refine⟨⟨e0.mod,S.kind,rfl,rfl,Nat.le_refl _,λy z c h1 h2=>?_,λy hy=>?_,λy c _ h=>?_,λ_=>hd,Around.frames_deeper e0.frames,.inr ⟨rfl,rfl⟩,λb z=>absurd z (noA b),e0.bs,e0.bsz,λb _ _=>noA b,λb z=>absurd z (noA b),e0.funs,e0.frf⟩,
  rfl,e0.bare,Un.kept hk,⟨_,x.toInCall.ns,λi y v h1 h2 h3=>?_⟩,λy c h=>⟨_,x.cell y c h⟩,e0.hok.fresh (Nat.le_refl _),λy c h=>?_,λp hp=>absurd (show p∈([]:List (Addr×Obj)) from hp) (by simp),e0.hok.kept hk,?_⟩
 ·exact name_of_addr x.apart (PySem.mem_of_lookup h1) (PySem.mem_of_lookup h2)
 ·have hy:scope.names.lookup y=some .cell\/scope.names.lookup y=some .free:=hy;rcases hy with hy | hy
  ·exact B5 hy
  ·exact absurd rfl (S.nofree _ (PySem.mem_of_lookup hy))
 ·exact Nat.le_of_lt (x.above y c (PySem.mem_of_lookup h))
 ·have hi:i<vs.length:=by
   unfold start at h2;by_cases hi:i<vs.length
   ·exact hi
   ·rw[Zy (by simpa using hi)]at h2;rw[List.getElem?_replicate]at h2;split at h2<;>cases h2
  have ha:vs[i]?=some v:=by
   unfold start at h2;rw[Zx (by simpa using hi),Zk]at h2;cases e:vs[i]? with
   |none=>rw[e]at h2;cases h2
   |some a=>rw[e]at h2;cases h2;rfl
  obtain⟨u,hu,rv⟩:=r.get ha;have hp:ps[i]?=some y:=by
   rw[<-S.pre,List.getElem?_take_of_lt (by lia)];exact h1
  have ndP:ps.Nodup:=by rw[<-S.pre];exact S.nd.sublist (List.take_sublist _ _)
  refine⟨u,rv,?_⟩;rcases S.par y (Zg hp) with k | k
  ·exact .inl ⟨k,x8 ndP hp hu k⟩
  ·obtain⟨c,e⟩:=B5 (n:=s.heap.objs.size+1) k;refine .inr ⟨.inl k,c,e,?_⟩;have q:=x.cell y c e;rw[yA ndP hp hu (by show scope.names.lookup y≠_;rw[k];decide)]at q;exact q
 ·exact e0.hok.fresh (Nat.le_of_lt (x.above y c (PySem.mem_of_lookup h)))
 ·unfold start;show _=N.length;rw[Zm,Zq,List.length_replicate]
  lia
theorem NX{CX:CXT}{P:Program}{w:World}{K:PySem.W.Frag}{mg:Str->Option Value}{base:Heap}{k:Nat}{f:Addr}{name qual:Str}{params:Arguments}{body:List Stmt}{scope:Scope}{dV kV doc pm cdv ct oc:Value}{an od:Option Addr}
  {osl:Array (Option Value)}{N ps:List Str}{sp:Sp}(lk:K.lookup f=some ⟨oc,od,.func (PySem.W.fnOf name qual params body scope dV kV doc pm an cdv ct),osl⟩) (hcd:PySem.W.codeIn K cdv qual=true) (S:a5 N ps scope)
  (len:∀vs H Q E,sp vs H Q E->vs.length=ps.length)
  (hbody:∀(A:Around) (outer:List Env) (s:Shared) (H:Hp) (vs:List V) (Q:VK) (E:XK),eR k (A.deeper (envOfC qual scope s.heap.objs.size f cdv))->sp vs H Q E ->
   ∃t,PSs (DO CX P w K mg base N qual scope f cdv A outer s H E) body t/\t { nx:=λ_ H'=>Q .non H',rt:=Q } (start N vs) H) :
  cU P w K mg base CX (k+1) f (PySem.W.fnOf name qual params body scope dV kV doc pm an cdv ct) ps sp:=by
 refine⟨len,λA outer s H args us vs Q E hr e0 hb r hsp=>?_⟩;have hl:=len _ _ _ _ hsp;have KX:K.In s.heap:=e0.mod.kin.keeps λb o e=>(e0.bs b o e).1;have lim:s.heap.NoLimit:=e0.mod.nolimit.keeps λb o e=>(e0.bs b o e).1;have hkind:∀y∈ps.zip us,scope.names.lookup y.1=some .local\/(scope.names.lookup y.1=some .cell/\((cellsFrom (s.heap.objs.size+1) scope.names []).lookup y.1).isSome=true):=λ⟨n,v⟩ hy=>by
  rcases S.par n (List.of_mem_zip hy).1 with q | q
  ·exact .inl q
  ·exact .inr ⟨q,PySem.W.cellsFrom_some _ _ _ (.inl q)⟩
 refine codeAny_call_function hr.depth (KX _ _ lk) rfl S.co S.gen rfl (PySem.W.codeRec_of KX hcd) (hb _ _ _ _ ?_);refine wpAny_newFunctionEnv_cells S.kind hkind λenv he s1 x=>?_;subst he;refine⟨lim.keeps x.toInCall.keep,codeAny_func ?_⟩;obtain⟨t,ht,hq⟩:=hbody A outer s H vs Q E (hr.deeper _) hsp;have I:Inv (DO CX P w K mg base N qual scope f cdv A outer s H E) [] (start N vs) H s1:=GN S hr.hd e0 hl r x;refine ZX (ht [] s1 (start N vs) H _ I hq) (λfl s' hs=>?_) λe s' hs=>hs;have fin:∀{σ':St}{H':Hp}{v:V}{u:Value},Inv (DO CX P w K mg base N qual scope f cdv A outer s H E) [] σ' H' s'->RelV v u->Q v H'->CE outer P w H s Q u s' :=
  λ{σ' H' v u} J rv q=>⟨v,H',J.os,J.bare,J.base,J.hok,rv,q⟩
 cases fl with
 |ret u =>
  obtain⟨v,σ',H',J,rv,q⟩:=hs;exact fin J rv q
 |next =>
  obtain⟨σ',H',J,q⟩:=hs;exact fin (v:=V.non) (u:=Value.none) J rfl q
 |brk =>
  obtain⟨_,_,_,q⟩:=hs;exact False.elim q
 |cont =>
  obtain⟨_,_,_,q⟩:=hs;exact False.elim q
end L2
namespace L2
open PySem PySem.Spec PyProof.Rows
section
variable{X:Cx}{x:Str}{p pos:Pos}{e:Expr}{es:List Expr}{t:TA}{id T:String}{r:List V->Hp->VK->Prop}
def tCB(r:List V->Hp->VK->Prop)(t:TA):TE:=λσ H Q=>t σ H λvs H1=>r vs H1 Q
theorem a7(hc:iK X (.builtin id) r)(hg:Gl X x)(hm:X.mg x=none)(hv:bootBuiltins x=some (.builtin id))(ha:PA X (e::es) t)(hn:x≠"__name__":=by decide)(hdb:(x==("__debug__" : Str))=false:=by decide)
  (he:starEach (e::es) X.env=(false,eval e X.env)::starEach es X.env:=by rfl) (hpl:(backTo pos (starEach es X.env)).any (·.1)=false:=by rfl):PE X (.Call (.Name x p) (e::es) [] pos) (tCB r t):=by
 intro pins s σ H Q I h;refine wpAny_Call_Name_kw (nS I hg hm hv ?_ hn hdb);exact PyProof.Rows.callWith_builtin1 (thn (ha pos pins s σ H _ I h) λus s1 ⟨vs,H1,I1,r1,q1⟩=>hc pins s1 σ H1 vs us Q I1 r1 q1) he hpl
theorem dP(hc:iK X (.type T) r)(hg:Gl X x)(hm:X.mg x=none)(hv:bootBuiltins x=some (.type T))(ha:PA X (e::es) t)(hn:x≠"__name__":=by decide)(hdb:(x==("__debug__" : Str))=false:=by decide)
  (he:starEach (e::es) X.env=(false,eval e X.env)::starEach es X.env:=by rfl) (hpl:(backTo pos (starEach es X.env)).any (·.1)=false:=by rfl):PE X (.Call (.Name x p) (e::es) [] pos) (tCB r t):=by
 intro pins s σ H Q I h;refine wpAny_Call_Name_kw (nS I hg hm hv ?_ hn hdb);exact PyProof.Rows.callWith_type1 (thn (ha pos pins s σ H _ I h) λus s1 ⟨vs,H1,I1,r1,q1⟩=>hc pins s1 σ H1 vs us Q I1 r1 q1) he hpl
end
end L2
namespace HT
open PySem PyProof.Rows
section
open PySem.SeqAt
open PySem.AutoSeq1 (wpAny_loadPart')
open PySem.MeetsSeq PySem.MeetsSeq2 PySem.MeetsSeq3
end
section
variable{prog:Program}{w:World}{A:Around}{E:Value->Shared->Prop}{s:Shared}
def sIx(n d:Nat):Option Int->Nat
 |none=>d
 |some v=>if v<0 then (v+(n:Int)).toNat else min v.toNat n
end
end HT
namespace L2
open PySem PySem.Spec PyProof.Rows
abbrev TO:=St->Hp->(Option Int->Hp->Prop)->Prop
def PO(X:Cx)(e:Option Expr)(t:TO):Prop :=
 ∀(pins:List (Addr×Obj)) (s:Shared) (σ:St) (H:Hp) (Q:Option Int->Hp->Prop),Inv X pins σ H s->t σ H Q ->
  wpAny (model X.prog X.w) X.A (evalPart e X.env) (λu s'=>∃o H',Inv X pins σ H' s'/\IsPart u o/\Q o H') X.xe s
def LL:TO:=λ_ H Q=>Q none H
def QV(t:TE):TO:=λσ H Q=>t σ H λx H1=>∃i,x=.int i/\Q (some i) H1
theorem intsAre_of{ns:List Int}:∀{us:List Value},bJ (ns.map V.int) us->IntsAre us ns:=by
 induction ns with
 |nil=>intro us r;rw[List.map_nil]at r;cases r;exact .nil
 |cons n ns ih =>
  intro us r;rw[List.map_cons]at r;cases r with
  |cons r1 r2 =>
   obtain⟨t,e⟩:=r1;subst e;exact .cons n t (ih r2)
section
variable{X:Cx}{e:Expr}{te:TE}{lo hi:Option Expr}{tl th:TO}{pos p2:Pos}
theorem kC:PO X none LL:=by
 intro pins s σ H Q I h;rw[evalPart_none];exact ZY ⟨none,H,I,.none,h⟩
theorem l8(h:PE X e te):PO X (some e) (QV te):=by
 intro pins s σ H Q I hw;rw[evalPart_some];refine thn (h pins s σ H _ I hw) λu s1 ⟨x,H1,I1,r1,q1⟩=>?_;obtain⟨i,rfl,q⟩:=q1;obtain⟨t,rfl⟩:=r1;exact⟨some i,H1,I1,.int i t,q⟩
def SlR(X:Cx)(r:V->Option Int->Option Int->Hp->VK->Prop):Prop :=
 ∀(pins:List (Addr×Obj)) (s:Shared) (σ:St) (H:Hp) (x:V) (v vl vu:Value) (lo hi:Option Int) (sl:Addr) (Q:VK),Inv X pins σ H s->RelV x v->s.heap.IsSliceOf sl vl vu .none->IsPart vl lo->IsPart vu hi->r x lo hi H Q ->
  ∃T id,typeLookup (.type T) "__getitem__" = pure (some (.builtin id))/\s.TypeIs v T/\wpAny (model X.prog X.w) X.A (getItem v (.ref sl)) (EP X pins σ Q) X.xe s
def tSl(r:V->Option Int->Option Int->Hp->VK->Prop)(te:TE)(tl th:TO):TE:=λσ H Q=>te σ H λx H1=>tl σ H1 λl H2=>th σ H2 λu H3=>r x l u H3 Q
theorem lG{r:V->Option Int->Option Int->Hp->VK->Prop}(hr:SlR X r)(he:PE X e te)(hl:PO X lo tl)(hu:PO X hi th):PE X (.Subscript e (.Slice lo hi none p2) pos) (tSl r te tl th):=by
 intro pins s σ H Q I h;refine Subscript_ (thn (he pins s σ H _ I h) λv s1 ⟨x,H1,I1,r1,q1⟩=>?_);refine wpAny_Slice (thn (hl pins s1 σ H1 _ I1 q1) λvl s2 ⟨l,H2,I2,pl,q2⟩=>thn (hu pins s2 σ H2 _ I2 q2) λvu s3 ⟨u,H3,I3,pu,q3⟩=>?_);rw[evalPart_none];refine ZY ?_;have I4:Inv X pins σ H3 { s3 with heap:=s3.heap.push { cls:=.type "slice",data:=.fields #[vl,vu,.none] } }:=I3.kept (t':=s3.toks) λb ob q=>Heap.get?_push_of_some _ q;obtain⟨T,id,hT,ht,hg⟩:=hr pins { s3 with heap:=s3.heap.push { cls:=.type "slice",data:=.fields #[vl,vu,.none] } } σ H3 x v vl vu l u s3.heap.objs.size Q I4 r1 (Heap.IsSliceOf.new ..) pl pu q3;show wpAny (model X.prog X.w) X.A (subscriptTail e (.Slice lo hi none p2) v (.ref s3.heap.objs.size)) (EP X pins σ Q) X.xe { s3 with heap:=s3.heap.push { cls:=.type "slice",data:=.fields #[vl,vu,.none] } };exact tail_any (ops:=[.ref s3.heap.objs.size,v]) ht hT hg (by with_unfolding_all rfl)
def jE(xs:List V)(lo hi:Option Int):List V:=(xs.drop (HT.sIx xs.length 0 lo)).take (HT.sIx xs.length xs.length hi-HT.sIx xs.length 0 lo)
theorem B3(xs:List V)(lo hi:Option Int):(jE xs lo hi).length<=xs.length:=by
 unfold jE;rw[Yx,Yf]
 lia
end
end L2
namespace L2
open PySem PySem.Spec PyProof.Rows
def ixN(n:Nat)(i:Int):Option Nat:=if 0<=i then (if i<n then some i.toNat else none) else if -(n:Int)<=i then some (i+n).toNat else none
def atI{α:Type}(xs:List α)(i:Int):Option α:=(ixN xs.length i).bind λj=>xs[j]?
theorem EX{n:Nat}{i:Int}{j:Nat}(h:ixN n i=some j):seqIndex? i n=some j/\j<n/\-(n:Int)<=i/\i<n:=by
 unfold ixN at h;by_cases h0:0<=i
 ·rw[if_pos h0]at h;by_cases h1:i<n
  ·rw[if_pos h1]at h;have e:i.toNat=j:=Option.some.inj h;exact⟨by rw[seqIndex_of h0 h1,e],by lia,by lia,h1⟩
  ·rw[if_neg h1]at h;cases h
 ·rw[if_neg h0]at h;by_cases h1 : -(n:Int)<=i
  ·rw[if_pos h1]at h;have e:(i+n).toNat=j:=Option.some.inj h;exact⟨by rw[seqIndex_neg (by lia) h1,e],by lia,h1,by lia⟩
  ·rw[if_neg h1]at h;cases h
theorem zQ{α:Type}{xs:List α}{i:Int}{v:α}(h:atI xs i=some v):∃j,seqIndex? i xs.length=some j/\xs[j]?=some v/\j<xs.length/\-(xs.length:Int)<=i/\i<xs.length:=by
 unfold atI at h;cases e:ixN xs.length i with
 |none=>rw[e]at h;cases h
 |some j =>
  rw[e]at h;obtain⟨h1,h2,h3,h4⟩:=EX e;exact⟨j,h1,h,h2,h3,h4⟩
theorem cE{α:Type}{xs:List α}{j:Nat}{v:α}(h:xs[j]?=some v):atI xs (j:Int)=some v:=by
 have hj:j<xs.length:=(Zj.mp h).1;have e:ixN xs.length (j:Int)=some j:=by
  unfold ixN;rw[if_pos (by lia),if_pos (by lia)];simp
 unfold atI;rw[e];exact h
def NG(b:Expr):Prop:=∀o i,subscripted b false o i=operate [o,i] (getItem o i)
def IxR(X:Cx)(r:R2):Prop :=
 ∀(value slice:Expr) (pins:List (Addr×Obj)) (s:Shared) (σ:St) (H:Hp) (x y:V) (v u:Value) (Q:VK),Inv X pins σ H s->RelV x v->RelV y u->r x y H Q ->
  subscripted slice false v u=operate [v,u] (getItem v u)->wpAny (model X.prog X.w) X.A (subscriptTail value slice v u) (EP X pins σ Q) X.xe s
def MtR(X:Cx)(id:String)(r:V->List V->Hp->VK->Prop):Prop :=
 ∀(pins:List (Addr×Obj)) (s:Shared) (σ:St) (H:Hp) (x:V) (xs:List V) (v:Value) (us:List Value) (Q:VK),Inv X pins σ H s->RelV x v->bJ xs us->r x xs H Q ->
  wpAny (model X.prog X.w) X.A (call (.builtin id) (v::us)) (EP X pins σ Q) X.xe s
section
variable{X:Cx}{a b:Expr}{ta tb:TE}{pos:Pos}
theorem IxR.or{r r':R2}(h:IxR X r)(h':IxR X r'):IxR X (λx y H Q=>r x y H Q\/r' x y H Q):=by
 intro value slice pins s σ H x y v u Q I rx ry q hs;rcases q with q | q
 ·exact h value slice pins s σ H x y v u Q I rx ry q hs
 ·exact h' value slice pins s σ H x y v u Q I rx ry q hs
theorem aL{r:R2}(hr:IxR X r)(ha:PE X a ta)(hb:PE X b tb)(hs:NG b):PE X (.Subscript a b pos) (tOp r ta tb):=by
 intro pins s σ H Q I h;exact Subscript_ (QJ ha hb I h λv u s2 x y H2 I2 rx ry q=>hr a b pins s2 σ H2 x y v u Q I2 rx ry q (hs _ _))
def OY(K:PySem.W.Frag):R2:=λx y H Q=>∃p xs i v,x=.ref p/\y=.int i/\SqL K H p xs/\atI xs i=some v/\Q v H
def OX(K:PySem.W.Frag):R2:=λx y H Q=>∃p xs i v,x=.ref p/\y=.int i/\SqT K H p xs/\atI xs i=some v/\Q v H
def RG:R2:=λx y H Q=>∃z i c,x=.str z/\y=.int i/\z.length<=ZW/\atI z.cps.toList i=some c/\Q (.str ⟨#[c]⟩) H
theorem aR:IxR X (OY X.K):=by
 intro value slice pins s σ H x y v u Q I rx ry h hs;obtain⟨p,xs,i,z,rfl,rfl,hq,he,q⟩:=h;cases rx;obtain⟨t,rfl⟩:=ry;obtain⟨its,r,pl,hz⟩:=I.list hq;obtain⟨j,h1,h2,h3,h4,h5⟩:=zQ he;obtain⟨w,ew,rw'⟩:=r.get h2;have hl:=r.length;have hn:=kG;have fin:EP X pins σ Q w s:=⟨z,H,I,rw',q⟩
 by_cases h0:0<=i
 ·have hj:i.toNat=j:=by
   rw[seqIndex_of h0 h5]at h1;exact Option.some.inj h1
  exact item_listR pl.isList h0 (by lia) (by rw[hj];simpa using ew) fin hs
 ·have hj:(i+(its.toArray.size:Int)).toNat=j:=by
   rw[seqIndex_neg (by lia) h4]at h1;rw[List.size_toArray,<-hl];exact Option.some.inj h1
  exact subscriptTail_builtinR (x:=w) pl.isList.typeIs slot_list_getitem.lookup
   (wpAny_getItem_list_neg (Q:=λr s'=>r=w/\EP X pins σ Q r s') pl.isList (by lia) (by rw[List.size_toArray]<;>lia) (by lia) (by rw[hj];simpa using ew) ⟨rfl,fin⟩) hs
theorem aZ:IxR X (OX X.K):=by
 intro value slice pins s σ H x y v u Q I rx ry h hs;obtain⟨p,xs,i,z,rfl,rfl,hq,he,q⟩:=h;cases rx;obtain⟨t,rfl⟩:=ry;obtain⟨its,r,pl,hz⟩:=I.tuple hq;obtain⟨j,h1,h2,h3,h4,h5⟩:=zQ he;obtain⟨w,ew,rw'⟩:=r.get h2;have hl:=r.length;have hn:=kG;have fin:EP X pins σ Q w s:=⟨z,H,I,rw',q⟩
 exact subscriptTail_builtinR (x:=w) pl.typeIs slot_tuple_getitem.lookup
  (getItem_tuple (j:=j) (Q:=λr s'=>r=w/\EP X pins σ Q r s') pl (by lia) (by lia) (by rw[List.size_toArray,<-hl];exact h1) (by simpa using ew) ⟨rfl,fin⟩) hs
theorem P7:IxR X RG:=by
 intro value slice pins s σ H x y v u Q I rx ry h hs;obtain⟨z,i,c,rfl,rfl,hz,he,q⟩:=h;obtain⟨t,rfl⟩:=rx;obtain⟨t',rfl⟩:=ry;obtain⟨j,h1,h2,h3,h4,h5⟩:=zQ he;have hl:z.cps.toList.length=z.length:=by simp[Str.length]
 rw[hl]at h1 h4 h5;have hn:=kG;exact tail_any (typeIs_str s z t) slot_str_getitem.lookup (getItem_str (c:=c) (by
  have e1:decide (i < -(2 ^ 63:Int))=false:=decide_eq_false (by lia);have e2:decide (i>=2 ^ 63)=false:=decide_eq_false (by lia);rw[e1,e2,Bool.or_false]) (by rw[h1];simpa using h2) ⟨.str ⟨#[c]⟩,H,I.tok _,⟨_,rfl⟩,q⟩) hs
def rIx(K:PySem.W.Frag):R2:=λx y H Q=>OY K x y H Q\/OX K x y H Q\/RG x y H Q
theorem uI:IxR X (rIx X.K):=aR.or (aZ.or P7)
theorem DF(its:List Value)(n j:Nat)(u:Value):Obj.mapSeq (·.setIfInBounds j u) { cls:=.type "list",data:=.seq its.toArray n }={ cls:=.type "list",data:=.seq (its.set j u).toArray n }:=by
 simp[Obj.mapSeq]
theorem Inv.lst{pins:List (Addr×Obj)}{σ:St}{H:Hp}{s:Shared}{p:Addr}{xs:List V}(I:Inv X pins σ H s)(h:H p=some (.lst xs)) :
  ∃(its:List Value) (n:Nat),bJ xs its/\s.heap.get? p=some { cls:=.type "list",data:=.seq its.toArray n }/\xs.length<=ZW:=by
 obtain⟨z,its,n,r,e⟩:=I.hok p _ h;exact⟨its,n,r,e,z⟩
theorem Inv.lstUpd{pins:List (Addr×Obj)}{σ:St}{H:Hp}{s:Shared}{p:Addr}{xs ys:List V}{its its':List Value}{n n':Nat}{f:Obj->Obj}(I:Inv X pins σ H s)(h:H p=some (.lst xs))
  (ho:s.heap.get? p=some { cls:=.type "list",data:=.seq its.toArray n }) (hf:f { cls:=.type "list",data:=.seq its.toArray n }={ cls:=.type "list",data:=.seq its'.toArray n' }) (r:bJ ys its') (hz:ys.length<=ZW) (t:Nat) :
  Inv X pins σ (upd H p (.lst ys)) { s with heap:=s.heap.update p f,toks:=t }:=by
 have e:(s.heap.update p f).get? p=some { cls:=.type "list",data:=.seq its'.toArray n' }:=by
  rw[Heap.get?_update_self f ho (by rw[hf]<;>rfl),hf]
 refine I.write (x:=p) (e:=p) (by rw[h];trivial) (.inl rfl) (λb u hb q=>(Heap.get?_update_other _ _ (Ne.symm hb)).trans q) ⟨_,e⟩ ?_;exact⟨hz,its',n',r,e⟩
def RF:V->V->V->Hp->(Hp->Prop)->Prop:=λo i v H Q=>∃p xs k j,o=.ref p/\i=.int k/\H p=some (.lst xs)/\ixN xs.length k=some j/\Q (upd H p (.lst (xs.set j v)))
theorem set_list:R6 X RF:=by
 intro pins s σ H o i v ov iv u Q I ro ri rv h;obtain⟨p,xs,k,j,rfl,rfl,hp,hj,q⟩:=h;cases ro;obtain⟨t,rfl⟩:=ri;obtain⟨its,n,r,ho,hz⟩:=I.lst hp;obtain⟨h1,h2,h3,h4⟩:=EX hj;have hl:=r.length;have hn:=kG;have I':Inv X pins σ (upd H p (.lst (xs.set j v))) { s with heap:=s.heap.update p (Obj.mapSeq (·.setIfInBounds j u)) } :=
  I.lstUpd hp ho (DF its n j u) (r.set rv j) (by rw[List.length_set];exact hz) s.toks
 by_cases h0:0<=k
 ·have hk:k.toNat=j:=by
   rw[seqIndex_of h0 h4]at h1;exact Option.some.inj h1
  exact PySem.W.ki_setAt ho h0 (by lia) (by rw[List.size_toArray,<-hl];exact h4) (by rw[hk];exact⟨_,I',q⟩)
 ·have hk:(k+(its.toArray.size:Int)).toNat=j:=by
   rw[seqIndex_neg (by lia) h3]at h1;rw[List.size_toArray,<-hl];exact Option.some.inj h1
  exact PySem.W.ki_setBack ho (by lia) (by rw[List.size_toArray,<-hl];exact h3) (by lia) (by rw[hk];exact⟨_,I',q⟩)
theorem yU(lo hi:Option Int)(n:Nat):(sliceBounds lo hi none n).1=((HT.sIx n 0 lo:Nat):Int)/\(sliceBounds lo hi none n).2.1=((HT.sIx n n hi:Nat):Int)/\(sliceBounds lo hi none n).2.2=1:=by
 refine⟨?_,?_,rfl⟩
 ·cases lo with
  |none=>simp[sliceBounds,HT.sIx]
  |some i =>
   simp only[sliceBounds,HT.sIx,Option.getD_none,show(1:Int)>0 by decide,if_true];by_cases h:i<0
   ·simp only[h,if_true]<;>lia
   ·simp only[h,if_false]<;>lia
 ·cases hi with
  |none=>simp[sliceBounds,HT.sIx]
  |some i =>
   simp only[sliceBounds,HT.sIx,Option.getD_none,show(1:Int)>0 by decide,if_true];by_cases h:i<0
   ·simp only[h,if_true]<;>lia
   ·simp only[h,if_false]<;>lia
theorem wB(its:List Value)(lo hi:Option Int):slicePick its.toArray lo hi none=((its.drop (HT.sIx its.length 0 lo)).take (HT.sIx its.length its.length hi-HT.sIx its.length 0 lo)).toArray:=by
 obtain⟨h1,h2,h3⟩:=yU lo hi its.toArray.size;unfold slicePick;rw[h1,h2,h3];simp only[sliceRange_one,pick_run,List.size_toArray]<;>rfl
def SS(K:PySem.W.Frag):V->Option Int->Option Int->Hp->VK->Prop:=λx lo hi H Q=>∃a xs,x=.ref a/\SqL K H a xs/\∀p,H p=none->Q (.ref p) (upd H p (.lst (jE xs lo hi)))
theorem oI:SlR X (SS X.K):=by
 intro pins s σ H x v vl vu lo hi sl Q I rx hs pl pu h;obtain⟨a,xs,rfl,hx,q⟩:=h;cases rx;obtain⟨its,r,ht,hz⟩:=I.list hx;have hlen:=r.length;refine⟨"list",_,slot_list_getitem.lookup,ht.isList.typeIs,?_⟩;refine wpAny_getItem_list_slice ht.isList hs pl pu .none (by simp) ?_ (by rw[List.size_toArray]<;>lia);rw[wB,<-hlen];refine⟨.ref s.heap.objs.size,_,I.laid (t':=s.toks) (o:=.lst (jE xs lo hi)) (λb ob q=>Heap.get?_push_of_some _ q) (Nat.le_refl _) ?_,rfl,q _ (I.hok.fresh (Nat.le_refl _))⟩;exact⟨Ys (B3 xs lo hi) hz,_,0,(r.drop (HT.sIx xs.length 0 lo)).take (HT.sIx xs.length xs.length hi-HT.sIx xs.length 0 lo),Heap.get?_push_size _ rfl⟩
def lS:V->Bool
 |.non=>true
 |.bl _=>true
 |.int _=>true
 |.str _=>true
 |_=>false
def eqV:V->V->Bool
 |.non,.non=>true
 |.bl a,.bl b=>a==b
 |.bl a,.int b=>(if a then 1 else 0)==b
 |.int a,.bl b=>a==(if b then 1 else 0)
 |.int a,.int b=>a==b
 |.str a,.str b=>a==b
 |_,_=>false
theorem QC{A:Around}{s:Shared}{y x:V}{u v:Value}(ry:RelV y u)(rx:RelV x v)(fy:lS y=true)(fx:lS x=true):SeqAt.EqAt A s u v (eqV y x):=by
 cases y with
 |non =>
  cases ry;cases x with
  |non=>cases rx;exact SeqAt.EqAt.same _
  |bl b=>cases rx;exact SeqAt.EqAt.none_bool b
  |int b=>obtain⟨t,rfl⟩:=rx;exact SeqAt.EqAt.none_int b t
  |str b=>obtain⟨t,rfl⟩:=rx;exact SeqAt.EqAt.none_str b t
  |_=>exact absurd (show false=true from fx) Bool.false_ne_true
 |bl a =>
  cases ry;cases x with
  |non=>cases rx;exact SeqAt.EqAt.bool_none a
  |bl b=>cases rx;exact SeqAt.EqAt.bool_bool a b
  |int b=>obtain⟨t,rfl⟩:=rx;exact SeqAt.EqAt.bool_int a b t
  |str b=>obtain⟨t,rfl⟩:=rx;exact SeqAt.EqAt.bool_str a b t
  |_=>exact absurd (show false=true from fx) Bool.false_ne_true
 |int a =>
  obtain⟨t',rfl⟩:=ry;cases x with
  |non=>cases rx;exact SeqAt.EqAt.int_none a t'
  |bl b=>cases rx;exact SeqAt.EqAt.int_bool a t' b
  |int b=>obtain⟨t,rfl⟩:=rx;exact SeqAt.EqAt.int_int a t' b t
  |str b=>obtain⟨t,rfl⟩:=rx;exact SeqAt.EqAt.int_str a t' b t
  |_=>exact absurd (show false=true from fx) Bool.false_ne_true
 |str a =>
  obtain⟨t',rfl⟩:=ry;cases x with
  |non=>cases rx;exact SeqAt.EqAt.str_none a t'
  |bl b=>cases rx;exact SeqAt.EqAt.str_bool a t' b
  |int b=>obtain⟨t,rfl⟩:=rx;exact SeqAt.EqAt.str_int a t' b t
  |str b=>obtain⟨t,rfl⟩:=rx;exact SeqAt.EqAt.str_str a t' b t
  |_=>exact absurd (show false=true from fx) Bool.false_ne_true
 |_=>exact absurd (show false=true from fy) Bool.false_ne_true
def eqU(x:V)(u:Value):Bool:=match u with
 |.none=>eqV .non x
 |.bool b=>eqV (.bl b) x
 |.int i _=>eqV (.int i) x
 |.str z _=>eqV (.str z) x
 |_=>false
theorem zK{x y:V}{u:Value}(r:RelV y u)(f:lS y=true):eqU x u=eqV y x:=by
 cases y with
 |non=>cases r;rfl
 |bl b=>cases r;rfl
 |int i=>obtain⟨t,rfl⟩:=r;rfl
 |str z=>obtain⟨t,rfl⟩:=r;rfl
 |_=>exact absurd (show false=true from f) Bool.false_ne_true
theorem pO{x:V}:∀{xs:List V}{us:List Value},bJ xs us->xs.all lS=true->us.any (eqU x)=xs.any λy=>eqV y x
 |_,_,.nil,_=>rfl
 |y::xs,u::us,.cons r t,f=>by
  rw[List.all_cons,Xx]at f;rw[List.any_cons,List.any_cons,zK r f.1,pO t f.2]
theorem jB{A:Around}{s:Shared}{x:V}{v:Value}(rx:RelV x v)(fx:lS x=true):∀{xs:List V}{us:List Value},bJ xs us->xs.all lS=true->∀u∈us,SeqAt.EqAt A s u v (eqU x u)
 |_,_,.nil,_=>λu hu=>by cases hu
 |y::xs,u::us,.cons r t,f=>λu' hu=>by
  rw[List.all_cons,Xx]at f;rcases Zn.mp hu with rfl | hu
  ·rw[zK r f.1];exact QC r rx f.1 fx
  ·exact jB rx fx t f.2 u' hu
def inV(x:V)(xs:List V):Bool:=xs.any λy=>eqV y x
def rIn(K:PySem.W.Frag)(neg:Bool):R2:=λx y H Q=>∃p xs,y=.ref p/\(SqL K H p xs\/SqT K H p xs)/\lS x=true/\xs.all lS=true/\Q (.bl (if neg then !inV x xs else inV x xs)) H
theorem F9:OpR X (compareOp .In) (rIn X.K false):=by
 intro pins s σ H x y v u Q I rx ry h;obtain⟨p,xs,rfl,hq,fx,fs,q⟩:=h;cases ry;rcases hq with hq | hq
 ·obtain⟨its,r,pl,hz⟩:=I.list hq;refine SeqAt.in_listAt (eqU x) pl.isList (λw hw=>jB rx fx r fs w (by simpa using hw)) ⟨.bl _,H,I,rfl,?_⟩;rw[show its.toArray.any (eqU x)=its.any (eqU x) by simp,pO r fs];exact q
 ·obtain⟨its,r,pl,hz⟩:=I.tuple hq;refine SeqAt.in_tupleAt (eqU x) pl (λw hw=>jB rx fx r fs w (by simpa using hw)) ⟨.bl _,H,I,rfl,?_⟩;rw[show its.toArray.any (eqU x)=its.any (eqU x) by simp,pO r fs];exact q
theorem iR:OpR X (compareOp .NotIn) (rIn X.K true):=by
 intro pins s σ H x y v u Q I rx ry h;obtain⟨p,xs,rfl,hq,fx,fs,q⟩:=h;cases ry;rcases hq with hq | hq
 ·obtain⟨its,r,pl,hz⟩:=I.list hq;refine SeqAt.notIn_listAt (eqU x) pl.isList (λw hw=>jB rx fx r fs w (by simpa using hw)) ⟨.bl _,H,I,rfl,?_⟩;rw[show its.toArray.any (eqU x)=its.any (eqU x) by simp,pO r fs];exact q
 ·obtain⟨its,r,pl,hz⟩:=I.tuple hq;refine SeqAt.notIn_tupleAt (eqU x) pl (λw hw=>jB rx fx r fs w (by simpa using hw)) ⟨.bl _,H,I,rfl,?_⟩;rw[show its.toArray.any (eqU x)=its.any (eqU x) by simp,pO r fs];exact q
theorem a4:iK X (.builtin "len") (λxs H Q=>∃p ys,xs=[.ref p]/\(SqL X.K H p ys\/SqT X.K H p ys)/\Q (.int ys.length) H):=by
 intro pins s σ H xs us Q I r h;obtain⟨p,ys,rfl,hq,q⟩:=h;obtain⟨u,rfl,rx⟩:=vals1 r;cases rx;have hn:=kG;rcases hq with hq | hq
 ·obtain⟨its,r',pl,hz⟩:=I.list hq;have hlen:=r'.length;exact Calls.call_len_list pl.isList (by simp only[List.size_toArray]<;>lia) ⟨.int ys.length,H,I.tok _,⟨s.toks+1,by rw[List.size_toArray,hlen]⟩,q⟩
 ·obtain⟨its,r',pl,hz⟩:=I.tuple hq;have hlen:=r'.length;exact len_tuple pl (by simp only[List.size_toArray]<;>lia) ⟨.int ys.length,H,I.tok _,⟨s.toks+1,by rw[List.size_toArray,hlen]⟩,q⟩
theorem fU:iK X (.type "list") (λxs H Q=>∃p ys,xs=[.ref p]/\(SqL X.K H p ys\/SqT X.K H p ys)/\∀l,H l=none->Q (.ref l) (upd H l (.lst ys))):=by
 intro pins s σ H xs us Q I r h;obtain⟨p,ys,rfl,hq,q⟩:=h;obtain⟨u,rfl,rx⟩:=vals1 r;cases rx;have fin:∀(its:List Value),bJ ys its->ys.length<=ZW->∀(h':Heap) (c':Nat),(∀b o',s.heap.get? b=some o'->h'.get? b=some o') ->
   h'.get? s.heap.objs.size=some { cls:=.type "list",dict:=none,data:=.seq its.toArray c',slots:=#[] }->EP X pins σ Q (.ref s.heap.objs.size) { s with heap:=h' }:=λits r' hz h' c' kp e =>
  ⟨.ref s.heap.objs.size,_,I.laid (t':=s.toks) kp (Nat.le_refl _) (show cG X.prog X.w _ h' _ (.lst ys) from⟨hz,its,c',r',e⟩),rfl,q _ (I.hok.fresh (Nat.le_refl _))⟩
 rcases hq with hq | hq
 ·obtain⟨its,r',pl,hz⟩:=I.list hq;have hlen:=r'.length;obtain⟨o,ho,hc,n,hd⟩:=pl.isList;exact call_list_seq p (.inl rfl) ho hc hd (λh' c' kp e=>fin its r' hz h' c' kp e) (by simp only[List.size_toArray]<;>lia)
 ·obtain⟨its,r',pl,hz⟩:=I.tuple hq;have hlen:=r'.length;obtain⟨o,ho,hc,n,hd⟩:=pl;exact call_list_seq p (.inr rfl) ho hc hd (λh' c' kp e=>fin its r' hz h' c' kp e) (by simp only[List.size_toArray]<;>lia)
def tyV(K:PySem.W.Frag)(T:String)(x:V)(H:Hp):Prop:=match x with
 |.str _=>T="str"
 |.int _=>T="int"
 |.ref p=>(T="list"/\∃xs,SqL K H p xs)\/(T="tuple"/\∃o,K.lookup p=some o/\o.cls=.type "tuple"/\o.dict=none) \/
   (T="dict"/\((∃kvs,H p=some (.dK kvs))\/∃kvs,H p=some (.dT kvs)))\/(T="set"/\∃S n,H p=some (.set S n))
 |_=>False
theorem HK{pins:List (Addr×Obj)}{σ:St}{H:Hp}{s:Shared}{T:String}{x:V}{v:Value}(I:Inv X pins σ H s)(r:RelV x v)(ty:tyV X.K T x H) :
  s.TypeIs v T/\∀a,v=.ref a->∃ob,s.heap.get? a=some ob/\ob.dict=none:=by
 cases x with
 |str z =>
  obtain⟨t,rfl⟩:=r;cases (show T="str" from ty);exact⟨typeIs_str s z t,λ_ e=>nomatch e⟩
 |int i =>
  obtain⟨t,rfl⟩:=r;cases (show T="int" from ty);exact⟨typeIs_int s i t,λ_ e=>nomatch e⟩
 |ref p =>
  cases r;rcases ty with⟨rfl,xs,hq⟩ | ⟨rfl,o,hk,hc,hd⟩ | ⟨rfl,hk⟩ | ⟨rfl,S,n,hk⟩
  ·obtain⟨its,_,pl,_⟩:=I.list hq;refine⟨pl.isList.typeIs,λa e=>?_⟩;cases e;obtain⟨o,n,e,c,hd,_⟩:=pl;exact⟨o,e,hd⟩
  ·refine⟨⟨o,I.kIn p o hk,hc⟩,λa e=>?_⟩;cases e;exact⟨o,I.kIn _ o hk,hd⟩
  ·have z:∃o,s.heap.get? p=some o/\o.ExactDict:=by
    rcases hk with⟨kvs,hk⟩ | ⟨kvs,hk⟩
    ·obtain⟨_,_,_,_,o,_,_,e,ex,_⟩:=I.hok p _ hk;exact⟨o,e,ex⟩
    ·obtain⟨_,_,_,_,o,_,_,e,ex,_⟩:=I.hok p _ hk;exact⟨o,e,ex⟩
   obtain⟨o,e,ex⟩:=z;refine⟨⟨o,e,ex.1⟩,λa e2=>?_⟩;cases e2;exact⟨o,e,ex.2.1⟩
  ·obtain⟨o,_,_,_,e,ex,_⟩:=I.hok p _ hk;refine⟨⟨o,e,ex.1⟩,λa e2=>?_⟩;cases e2;exact⟨o,e,ex.2.1⟩
 |_=>exact False.elim ty
def SL(K:PySem.W.Frag)(T:String)(r:V->List V->Hp->VK->Prop)(to:TE):TE:=λσ H Q=>to σ H λx H1=>tyV K T x H1/\r x [] H1 Q
def tBM(K:PySem.W.Frag)(T:String)(r:V->List V->Hp->VK->Prop)(to:TE)(t:TA):TE:=λσ H Q=>to σ H λx H1=>tyV K T x H1/\t σ H1 λxs H2=>r x xs H2 Q
variable{o e:Expr}{es:List Expr}{to:TE}{t:TA}{name:Str}{apos cpos:Pos}{T id:String}{r:V->List V->Hp->VK->Prop}
theorem PD(pa:PlainAttrs T)(slot:Slot T name id)(hty:typeOf (.builtin id)=pure (.type "method_descriptor"))(hm:MtR X id r)(ho:PE X o to)
  (hbase:attributeBase o name X.env (eval o X.env)=eval o X.env:=by rfl) (hline:(apos.endLine==cpos.line)=true:=by rfl):PE X (.Call (.Attribute o name apos) [] [] cpos) (SL X.K T r to):=by
 intro pins s σ H Q I h;refine wpAny_Call_method0_late hbase hline (thn (ho pins s σ H _ I h) λv s1 ⟨x,H1,I1,r1,ty,q1⟩=>?_);obtain⟨h1,h2⟩:=HK I1 r1 ty;exact⟨T,id,pa,slot,hty,h1,h2,Calls.callWith_builtin rfl (PySem.evalArgs_none (hm pins s1 σ H1 x [] v [] Q I1 r1 .nil q1))⟩
theorem lH(pa:PlainAttrs T)(slot:Slot T name id)(hty:typeOf (.builtin id)=pure (.type "method_descriptor"))(hm:MtR X id r)(ho:PE X o to)(ha:PA X (e::es) t)
  (hbase:attributeBase o name X.env (eval o X.env)=eval o X.env:=by rfl)
  (hfew:((backTo cpos (starEach (e::es) X.env)).all (λx=>!x.1)&&(backToKw cpos (keywordEach [] X.env)).all (λx=>x.1.isSome)
   && decide ((e::es).length+([]:List Keyword).length+(if ([]:List Keyword).isEmpty then 0 else 1)<30))=true:=by rfl)
  (hline:(apos.endLine==cpos.line)=true:=by rfl) (hs:starEach (e::es) X.env=(false,eval e X.env)::starEach es X.env:=by rfl) (hplain:(backTo cpos (starEach es X.env)).any (·.1)=false:=by rfl) :
  PE X (.Call (.Attribute o name apos) (e::es) [] cpos) (tBM X.K T r to t):=by
 intro pins s σ H Q I h;refine wpAny_Call_method_late hbase hfew hline rfl (thn (ho pins s σ H _ I h) λv s1 ⟨x,H1,I1,r1,ty,q1⟩=>?_);obtain⟨h1,h2⟩:=HK I1 r1 ty;refine⟨T,id,pa,slot,hty,h1,h2,?_⟩;have hA:=ha cpos pins s1 σ H1 _ I1 q1;rw[hs]at hA ⊢;refine Calls.callWith_builtin (by show(false||(backTo cpos (starEach es X.env)).any (·.1))=false;rw[hplain]<;>rfl) (Calls.evalArgs_plain ?_);exact thn hA λus s2 ⟨vs,H2,I2,r2,q2⟩=>hm pins s2 σ H2 x vs v us Q I2 r1 r2 q2
end
end L2
namespace L2
open PySem PySem.Spec PyProof.Rows
def MtM(X:Cx)(id:String)(r:V->List V->Hp->VK->Prop):Prop :=
 ∀(pins:List (Addr×Obj)) (s:Shared) (σ:St) (H:Hp) (x:V) (xs:List V) (v:Value) (us:List Value) (Q:VK),Inv X pins σ H s->RelV x v->bJ xs us->r x xs H Q ->
  wpAny (model X.prog X.w) X.A (call (.builtin id) (v::us)) (EP X pins σ Q) X.xe s
theorem bJ.one:∀{x:V}{us:List Value},bJ [x] us->∃u,us=[u]/\RelV x u:=by
 intro x us h;cases h with
 |cons r h=>cases h;exact⟨_,rfl,r⟩
theorem bJ.two:∀{x y:V}{us:List Value},bJ [x,y] us->∃u v,us=[u,v]/\RelV x u/\RelV y v:=by
 intro x y us h;cases h with
 |cons r h=>cases h with
  |cons q h=>cases h;exact⟨_,_,rfl,r,q⟩
theorem bJ.zero:∀{us:List Value},bJ [] us->us=[]
 |_,.nil=>rfl
theorem bJ.dropLast{xs:List V}{us:List Value}(h:bJ xs us):bJ xs.dropLast us.dropLast:=by
 induction h with
 |nil=>exact .nil
 |cons r t ih =>
  cases t with
  |nil=>exact .nil
  |cons q t'=>exact .cons r ih
theorem bJ.reverse{xs:List V}{us:List Value}(h:bJ xs us):bJ xs.reverse us.reverse:=by
 induction h with
 |nil=>exact .nil
 |cons r t ih=>rw[List.reverse_cons,List.reverse_cons];exact bJ.append ih (.cons r .nil)
theorem bJ.rep{xs:List V}{us:List Value}(h:bJ xs us):∀k:Nat,bJ (List.replicate k xs).flatten (List.replicate k us).flatten
 |0=>.nil
 |k+1=>by
  rw[List.replicate_succ,List.replicate_succ,List.flatten_cons,List.flatten_cons];exact bJ.append h (bJ.rep h k)
theorem DN{α:Type}(l:List α):l.eraseIdx (l.length-1)=l.dropLast:=by
 induction l with
 |nil=>rfl
 |cons a r ih =>
  cases r with
  |nil=>rfl
  |cons b r =>
   have e:(a::b::r).length-1=((b::r).length-1)+1:=by
    have h1:(a::b::r).length=r.length+2:=rfl;have h2:(b::r).length=r.length+1:=rfl
    lia
   rw[e,List.eraseIdx_cons_succ,ih]
   all_goals rfl
theorem foldl_rep(its:List Value):∀(k:Nat) (acc:List Value),
  List.foldl (λx1 x2=>x1++x2) acc.toArray (List.replicate k its.toArray)=(acc++(List.replicate k its).flatten).toArray
 |0,acc=>by simp
 |k+1,acc=>by
  have e:acc.toArray++its.toArray=(acc++its).toArray:=by simp
  have e2:(acc++its)++(List.replicate k its).flatten=acc++(List.replicate (k+1) its).flatten:=by
   rw[List.replicate_succ,List.flatten_cons,Yd]
  rw[<-e2,<-foldl_rep its k (acc++its),<-e,List.replicate_succ,List.foldl_cons]
section
variable{X:Cx}{pins:List (Addr×Obj)}{σ:St}{H:Hp}{s:Shared}{l b:Addr}{xs ys zs:List V}
theorem Inv.lset{its its':List Value}{n:Nat}{f:Array Value->Array Value}{t':Nat}(I:Inv X pins σ H s)(hH:H l=some (.lst xs))
  (e:s.heap.get? l=some { cls:=.type "list",data:=.seq its.toArray n }) (hf:f its.toArray=its'.toArray) (hv:bJ ys its') (hz:ys.length<=ZW) :
  Inv X pins σ (upd H l (.lst ys)) { s with heap:=s.heap.update l (Obj.mapSeq f),toks:=t' }:=by
 have q:=PySem.IsL.update e f;rw[hf]at q;refine I.write (x:=l) (e:=l) (by rw[hH];exact trivial) (.inl rfl) (λb' u hb hu=>(Heap.get?_update_other s.heap (Obj.mapSeq f) (Ne.symm hb)).trans hu) ⟨_,q⟩ ?_;exact⟨hz,its',_,hv,q⟩
theorem Inv.lnew{its:List Value}{t':Nat}(I:Inv X pins σ H s)(hv:bJ ys its)(hz:ys.length<=ZW) :
  Inv X pins σ (upd H s.heap.objs.size (.lst ys)) { s with heap:=s.heap.push { cls:=.type "list",data:=.seq its.toArray },toks:=t' } :=
 I.laid (λ_ _ q=>Heap.get?_push_of_some _ q) (Nat.le_refl _) ⟨hz,its,0,hv,Heap.get?_push_size _ rfl⟩
theorem Inv.fresh(I:Inv X pins σ H s):H s.heap.objs.size=none:=I.hok.fresh (Nat.le_refl _)
theorem Inv.lstM(I:Inv X pins σ H s)(hH:H l=some (.lst xs)):xs.length<=ZW/\∃(its:List Value) (n:Nat),bJ xs its/\xs.length=its.length/\s.heap.get? l=some { cls:=.type "list",data:=.seq its.toArray n }:=by
 obtain⟨z,its,n,r,e⟩:=I.hok l _ hH;exact⟨z,its,n,r,r.length,e⟩
theorem A1{n:Nat}(h:n<=ZW):Builtin.List.listTooLong n=false:=by
 unfold Builtin.List.listTooLong;exact decide_eq_false (by lia)
end
section
variable{X:Cx}
def L7:V->List V->Hp->VK->Prop:=λx vs H Q=>∃l xs y,x=.ref l/\vs=[y]/\H l=some (.lst xs)/\xs.length<ZW/\Q .non (upd H l (.lst (xs++[y])))
theorem bA:MtM X "list.append" L7:=by
 intro pins s σ H x vs v us Q I rx rv h;obtain⟨l,xs,y,rfl,rfl,hH,hz,q⟩:=h;cases rx;obtain⟨u,rfl,ru⟩:=rv.one;obtain⟨z,its,n,r,hl,e⟩:=I.lstM hH;refine call_meets F.slot_list_append ⟨_,e,rfl⟩ F.entry_list_append (F.args_list_append_2 _ _) (PySem.list_append l its.toArray n u (by rw[List.size_toArray];lia)) ⟨e,?_⟩;refine⟨.non,_,I.lset (its':=its++[u]) hH e (by simp) (r.append (.cons ru .nil)) ?_,rfl,q⟩;rw[Zm,ZQ]
 lia
def L6:V->List V->Hp->VK->Prop:=λx vs H Q=>∃l b xs zs,x=.ref l/\vs=[.ref b]/\H l=some (.lst xs)/\H b=some (.lst zs)/\xs.length+zs.length<=ZW/\Q .non (upd H l (.lst (xs++zs)))
theorem QO:MtM X "list.extend" L6:=by
 intro pins s σ H x vs v us Q I rx rv h;obtain⟨l,b,xs,zs,rfl,rfl,hH,hB,hz,q⟩:=h;cases rx;obtain⟨u,rfl,ru⟩:=rv.one;cases ru;obtain⟨z,its,n,r,hl,e⟩:=I.lstM hH;obtain⟨z2,its2,n2,r2,hl2,e2⟩:=I.lstM hB;have hsz:its.toArray.size+its2.toArray.size<=ZW:=by rw[List.size_toArray,List.size_toArray];lia
 have hlong:¬(!its.toArray.isEmpty&&Builtin.List.listTooLong (its.toArray.size+its2.toArray.size))=true:=by
  rw[A1 hsz,Bool.and_false];exact Bool.false_ne_true
 refine call_meets F.slot_list_extend ⟨_,e,rfl⟩ F.entry_list_extend (F.args_list_extend_2 _ _)
  (AutoSeq1.list_extend_list_list_0 l its.toArray n b its2.toArray n2 hlong (by rw[List.size_toArray];lia) (by lia)) ⟨e,e2,?_⟩
 refine⟨.non,_,I.lset (its':=its++its2) hH e (by simp) (r.append r2) ?_,rfl,q⟩;rw[Zm]
 lia
def SW:V->List V->Hp->VK->Prop:=λx vs H Q=>∃l xs y,x=.ref l/\vs=[]/\H l=some (.lst xs)/\xs[xs.length-1]?=some y/\Q y (upd H l (.lst xs.dropLast))
theorem S2:MtM X "list.pop" SW:=by
 intro pins s σ H x vs v us Q I rx rv h;obtain⟨l,xs,y,rfl,rfl,hH,hy,q⟩:=h;cases rx;have hus:=rv.zero;subst hus;obtain⟨z,its,n,r,hl,e⟩:=I.lstM hH;obtain⟨u,hu,ru⟩:=r.get hy;have hy':its.toArray[its.toArray.size-1]?=some u:=by
  show its.toArray[its.length-1]?=some u;rw[<-Array.getElem?_toList,<-hl];exact hu
 refine call_meets F.slot_list_pop ⟨_,e,rfl⟩ F.entry_list_pop (F.args_list_pop_1 _) (MeetsSeq.list_pop_last l its.toArray n u hy' (by rw[List.size_toArray];lia)) ⟨e,?_⟩;refine⟨y,_,I.lset (its':=its.dropLast) hH e ?_ r.dropLast ?_,ru,q⟩
 ·show its.toArray.eraseIdxIfInBounds (its.toArray.size-1)=its.dropLast.toArray;rw[List.size_toArray,List.eraseIdxIfInBounds_toArray,DN]
 ·rw[List.length_dropLast]
  lia
def O1:V->List V->Hp->VK->Prop:=λx vs H Q=>∃l xs,x=.ref l/\vs=[]/\H l=some (.lst xs)/\Q .non (upd H l (.lst []))
theorem JU:MtM X "list.clear" O1:=by
 intro pins s σ H x vs v us Q I rx rv h;obtain⟨l,xs,rfl,rfl,hH,q⟩:=h;cases rx;have hus:=rv.zero;subst hus;obtain⟨z,its,n,r,hl,e⟩:=I.lstM hH;refine call_meets F.slot_list_clear ⟨_,e,rfl⟩ F.entry_list_clear (F.args_list_clear_1 _) (AutoSeq1.list_clear_list_0 l its.toArray n (by rw[List.size_toArray];lia)) ⟨e,?_⟩;exact⟨.non,_,I.lset (its':=[]) (ys:=[]) hH e rfl .nil (Nat.zero_le _),rfl,q⟩
def SZ:R2:=λx y H Q=>∃l b xs zs,x=.ref l/\y=.ref b/\H l=some (.lst xs)/\H b=some (.lst zs)/\xs.length+zs.length<=ZW/\∀p,H p=none->Q (.ref p) (upd H p (.lst (xs++zs)))
theorem zD:OpR X (binaryOp .Add) SZ:=by
 intro pins s σ H x y v u Q I rx ry h;obtain⟨l,b,xs,zs,rfl,rfl,hH,hB,hz,q⟩:=h;cases rx;cases ry;obtain⟨z,its,n,r,hl,e⟩:=I.lstM hH;obtain⟨z2,its2,n2,r2,hl2,e2⟩:=I.lstM hB;refine PySem.P.add_list e e2 ?_ (by rw[List.size_toArray,List.size_toArray];lia);have ea:its.toArray++its2.toArray=(its++its2).toArray:=by simp
 rw[ea];exact⟨.ref _,_,I.lnew (t':=s.toks) (r.append r2) (by rw[Zm];lia),rfl,q _ I.fresh⟩
def SV:R2:=λx y H Q=>∃l k xs,x=.ref l/\y=.int k/\H l=some (.lst xs)/\-(2 ^ 63)<=k/\k<2 ^ 63/\xs.length*k.toNat<=ZW /\
 ∀p,H p=none->Q (.ref p) (upd H p (.lst (List.replicate k.toNat xs).flatten))
theorem len_rep{α:Type}(xs:List α)(k:Nat):(List.replicate k xs).flatten.length=k*xs.length:=by
 induction k with
 |zero=>simp
 |succ k ih=>rw[List.replicate_succ,List.flatten_cons,Zm,ih,Nat.succ_mul,Nat.add_comm]
theorem JB:OpR X (binaryOp .Mult) SV:=by
 intro pins s σ H x y v u Q I rx ry h;obtain⟨l,k,xs,rfl,rfl,hH,h1,h2,hz,q⟩:=h;cases rx;obtain⟨t,rfl⟩:=ry;obtain⟨z,its,n,r,hl,e⟩:=I.lstM hH;have hlen:its.toArray.size*k.toNat<=ZW:=by rw[List.size_toArray,<-hl];exact hz
 have hcap:¬its.toArray.size*k.toNat>(2 ^ 63-1) / 8:=by
  have:(ZW:Nat)<=(2 ^ 63-1) / 8:=by decide
  lia
 have hfit:¬(!Builtin.List.listFitsIndex k)=true:=by
  rw[fitsIndex_both h1 h2];exact Bool.false_ne_true
 have hlong:¬Builtin.List.listTooLong (its.toArray.size*k.toNat)=true:=by
  rw[A1 hlen];exact Bool.false_ne_true
 have hnew:List.foldl (λx1 x2=>x1++x2) #[] (List.replicate (if its.toArray.isEmpty=true then 0 else k.toNat) its.toArray)=(List.replicate k.toNat its).flatten.toArray:=by
  have f0:∀m:Nat,List.foldl (λx1 x2=>x1++x2) #[] (List.replicate m its.toArray)=(List.replicate m its).flatten.toArray:=λm=>by
   have:=foldl_rep its m [];rw[List.nil_append]at this;exact this
  rw[f0];cases its with
  |nil=>simp
  |cons a r'=>rw[if_neg (by simp)]
 refine wpAny_binaryOp_repeat_ref (T:="list") (U:="int") (by decide) ⟨_,e,rfl⟩ (λs'=>typeIs_int s' k t) noFill_list_mul F.fills_int_mul F.slot_int_rmul repeat_list F.slot_int_index.lookup
  (call_meets F.slot_int_rmul (typeIs_int s k t) F.entry_int_rmul (F.args_int_rmul_2 _ _) (int___rmul___int_list k t l its.toArray n)
   ⟨e,rfl,⟨_,e,rfl⟩,call_meets F.slot_list_mul ⟨_,e,rfl⟩ F.entry_list_mul (F.args_list_mul_2 _ _) (AutoListH.list___mul___list_int_3 l its.toArray n k t hfit hcap hlong) ⟨e,?_⟩⟩)
 rw[hnew];exact⟨.ref _,_,I.lnew (t':=s.toks) (r.rep k.toNat) (by rw[len_rep,Nat.mul_comm];exact hz),rfl,q _ I.fresh⟩
end
section
variable{prog:Program}{w:World}{A:Around}{E:Value->Shared->Prop}{s:Shared}
end
section
variable{X:Cx}
end
end L2
namespace Att
open PySem PySem.W PySem.Calls PyProof.Rows
theorem sD{P:Params}{h:Heap}:∀(ns:List Int) (vs:List Value),WellAll P h vs (ns.map WData.int)->IntsAre vs ns:=by
 intro ns;induction ns with
 |nil =>
  intro vs w;rw[List.map_nil]at w;cases w;exact .nil
 |cons n ns ih =>
  intro vs w;rw[List.map_cons]at w;cases w with
  |cons a b =>
   cases a;exact .cons _ _ (ih _ b)
theorem FY{l:OpenLaw}{n:Nat}(hn:l.most=some n){P:Params}{h:Heap}{args:List WData}{vals:List Value}
  (hpre:l.row.toRowW.claim.pre args=true) (hwl:WellAll P h vals args) :
  ∃a vs ns,vals=[Value.ref a]/\args=[WData.list (ns.map WData.int)]/\h.get? a=some { cls:=.type "list",data:=.seq vs.toArray }/\IntsAre vs ns/\ns.length<=n:=by
 have hsh:WShape.hasAll [] args [.list .int]=true:=(pre_splitW hpre).1;have hc:l.pre.holds [] { args:=args }=true:=(pre_splitW hpre).2;obtain⟨d,r,rfl,h1,h2⟩:=hasAllW_cons hsh;obtain rfl:=hasAllW_nil h2;obtain⟨xs,rfl,h3⟩:=hasW_list h1;obtain⟨ns,rfl⟩:=items_int h3;have hlen:ns.length<=n:=by
  unfold OpenLaw.pre at hc;have h4:(WTm.not (.lt (.lit (.int (n:Int))) (.len (.arg 0)))).holds [] { args:=[.list (ns.map .int)] }=true:=by
   have h4:=(holds_andW hc).1;rw[hn]at h4;exact h4
  have h5:=condW_of h4 (w_not (w_lt w_lit (w_len_list (w_arg rfl))));rw[Zq]at h5;refine Nat.le_of_not_lt λq=>?_;have q':(n:Int)<((ns.length:Nat):Int):=by omega
  first
   |(rw[decide_eq_true q']at h5;exact absurd h5 (by decide))
   |(simp at h5;omega)
 cases hwl with
 |cons w1 w2 =>
  cases w2;cases w1 with
  |list ho hall=>exact⟨_,_,ns,rfl,rfl,ho,sD ns _ hall,hlen⟩
theorem FZ(l:OpenLaw)(args:List WData):l.row.toRowW.claim.post args (.bool true) args=true :=
 postW_of (r:=l.row.toRowW) (X:=(true==true))
  (show WShape.has [] (.bool true) .bool=true by first | rfl | decide | simp[WShape.has,WShape.arms,WShape.armsAll])
  (show(WTm.eq .res (.lit (.bool true))).value [] { args:=args,res:=some (.bool true),after:=args }=some (.bool (true==true)) from w_eq_bool (w_res rfl) w_lit) rfl
theorem B8{l:OpenLaw}{n:Nat}{q:Program}{loose:List Str}{XP:(Str->Option Value)->Heap->Prop}{YP:World->Heap->Prop}{d:DefRec}
  (hn:l.most=some n) (hdf:d.params.defaults=[])
  (call:∀(w:World) (s₀ s₁:Shared) (mg mb:Str->Option Value) (fa:Addr) (o:Obj) (pm cd doc:Value) (a:Addr) (vs:List Value) (ns:List Int),
   Ground q loose [] XP w s₀ mg mb s₁.heap->YP w s₁.heap ->
   s₁.heap.get? fa=some o->o.data=.func (docDef d.name d.params d.body d.scope pm cd doc)->s₁.heap.CodeRec cd d.name->mg d.name=some (.ref fa) ->
   s₁.heap.get? a=some { cls:=.type "list",data:=.seq vs.toArray }->IntsAre vs ns->ns.length<=n->s₁.gens=#[] ->
   codeAny (model l.prog w) callerA (.call (.ref fa) ⟨[.ref a],[]⟩) (λr s'=>r=.ok (.ret (.bool true))/\OldK s₁.heap s'.heap/\s'.os=s₁.os/\AllBare s'.gens) s₁) :
  WalkO q loose XP YP l.row.toRowW d [] (λf vs=>PySem.call f vs):=by
 intro w s₀ s₁ mg mb G Y fa o pm cd doc dV kV ho hd hcd hD hmg hg args vals as hpre hlay hrd hwl hlo;obtain rfl:dV=.none:=Dflts.none hD hdf;obtain rfl:kV=.none:=Dflts.noKw hD;obtain⟨a,vs,ns,rfl,rfl,hobj,hints,hlen⟩:=FY hn hpre hwl;refine enter_call (codeAny_mono (call w s₀ s₁ mg mb fa o pm cd doc a vs ns G Y ho (fd_plain hd) hcd hmg hobj hints hlen hg) λr s' hq=>?_);obtain⟨rfl,h2,h3,h4⟩:=hq;exact⟨.inl ⟨.bool true,.bool true,[],rfl,λ_=>rfl,.bool true,FZ l _,λ_=>⟨List.Pairwise.nil,λ_ hm=>(nomatch hm)⟩⟩,h2,h3,h4⟩
section
variable{prog:Program}{w:World}{A:Around}{E:Value->Shared->Prop}{s:Shared}{K:Frag}
end
end Att
namespace L2
open PySem PySem.Spec PyProof.Rows
theorem jQ:∀{vs:List Value}{ns:List Int},IntsAre vs ns->bJ (ns.map V.int) vs
 |_,_,.nil=>.nil
 |_,_,.cons n t h=>.cons ⟨t,rfl⟩ (jQ h)
def jK(s:Stmt):Arguments:=match s with
 |.FunctionDef _ a _ _ _ _ _ _ _ _=>a
 |_=>{ posonlyargs:=[],args:=[],vararg:=none,kwonlyargs:=[],kw_defaults:=[],kwarg:=none,defaults:=[] }
def gX(s:Stmt):List Stmt:=match s with
 |.FunctionDef _ _ b _ _ _ _ _ _ _=>b
 |_=>[]
def aP(s:Stmt):Scope:=match s with
 |.FunctionDef _ _ _ _ _ _ sc _ _ _=>sc
 |_=>{ kind:=.function,names:=[],isGenerator:=false,isCoroutine:=false }
abbrev CX0:CXT:=λ_ _ _ _ _ _=>False
abbrev E0:XK:=λ_ _ _=>False
theorem aX{X:Cx}:zS CX0 X E0:=λ_ _ _ _ _ _ _ h=>h.elim
structure Fun(K:PySem.W.Frag)(x qual:Str)(st:Stmt)(f:Addr)(fd:FuncData):Prop where
 ex:∃(oc:Value) (od:Option Addr) (kV doc pm:Value) (an:Option Addr) (cdv ct:Value) (osl:Array (Option Value)),
  fd=PySem.W.fnOf x qual (jK st) (gX st) (aP st) .none kV doc pm an cdv ct/\K.lookup f=some ⟨oc,od,.func fd,osl⟩/\PySem.W.codeIn K cdv qual=true
 kp:PySem.W.keepIn K (.ref f)=true
section
variable{P:Program}{w:World}{K:PySem.W.Frag}{mg:Str->Option Value}{base:Heap}
theorem Fun.ok{x qual:Str}{st:Stmt}{f:Addr}{fd:FuncData}{N ps:List Str}{k:Nat}{sp:Sp}(F:Fun K x qual st f fd)(S:a5 N ps (aP st))(len:∀vs H Q E,sp vs H Q E->vs.length=ps.length)
  (hbody:∀(cdv:Value) (A:Around) (outer:List Env) (s:Shared) (H:Hp) (vs:List V) (Q:VK) (E:XK),eR k (A.deeper (envOfC qual (aP st) s.heap.objs.size f cdv))->sp vs H Q E ->
   ∃t,PSs (DO CX0 P w K mg base N qual (aP st) f cdv A outer s H E).nox (gX st) t/\t { nx:=λ_ H'=>Q .non H',rt:=Q } (start N vs) H):cU P w K mg base CX0 (k+1) f fd ps sp:=by
 obtain⟨oc,od,kV,doc,pm,an,cdv,ct,osl,rfl,lk,hcd⟩:=F.ex;refine NX lk hcd S len λA outer s H vs Q E hr hsp=>?_;obtain⟨t,h,q⟩:=hbody cdv A outer s H vs Q E hr hsp;exact⟨t,h.nox,q⟩
theorem Fun.binds{x qual:Str}{st:Stmt}{f:Addr}{fd:FuncData}{ps:List Str}(F:Fun K x qual st f fd)
  (h:∀(kV doc pm:Value) (an:Option Addr) (cdv ct:Value) (us:List Value),us.length=ps.length->bindArgs (PySem.W.fnOf x qual (jK st) (gX st) (aP st) .none kV doc pm an cdv ct) ⟨us,[]⟩=pure (ps.zip us)):Binds K fd ps []:=by
 obtain⟨oc,od,kV,doc,pm,an,cdv,ct,osl,rfl,lk,hcd⟩:=F.ex;exact .all (h kV doc pm an cdv ct)
theorem KD{x qual:Str}{st:Stmt}{f:Addr}{oc:Value}{od an:Option Addr}{osl:Array (Option Value)}{kV doc pm cdv ct:Value}(l:K.lookup f=some ⟨oc,od,.func (PySem.W.fnOf x qual (jK st) (gX st) (aP st) .none kV doc pm an cdv ct),osl⟩)
  (c:PySem.W.codeIn K cdv qual=true) (k:PySem.W.keepIn K (.ref f)=true):Fun K x qual st f (PySem.W.fnOf x qual (jK st) (gX st) (aP st) .none kV doc pm an cdv ct):=⟨⟨oc,od,kV,doc,pm,an,cdv,ct,osl,rfl,l,c⟩,k⟩
end
theorem xN{A:Around}{k:Nat}(hr:eR k A):A.units+1<cLine:=Yt (Nat.add_le_add_left (by decide:1<=64) _) hr.units
section
variable{X:Cx}
theorem pv(i:Nat){x:Str}{pos:Pos}(hN:X.N[i]?=some x:=by rfl)(hv:Vis X.env.scope x:=by first | exact Or.inl rfl | exact Or.inr (Or.inl rfl) | exact Or.inr (Or.inr rfl))(hd:(x==("__debug__" : Str))=false:=by decide)
  (hcd:(x==("__classdict__" : Str))=false:=by decide):PE X (.Name x pos) (QS i):=O6 hN hv hd hcd
end
theorem zI{A B:Prop}(h:B):if false=true then A else B:=by
 rw[if_neg Bool.false_ne_true];exact h
theorem zH{A B:Prop}(h:A):if true=true then A else B:=by
 rw[if_pos rfl];exact h
theorem uJ{c A B:Prop}[Decidable c](h1:c->A)(h2:¬c->B):if c then A else B:=by
 by_cases h:c
 ·rw[if_pos h];exact h1 h
 ·rw[if_neg h];exact h2 h
def aW(H H':Hp):Prop:=∀b o,H b=some o->H' b=some o
theorem aW.refl(H:Hp):aW H H:=λ_ _ h=>h
theorem aW.trans{H H1 H2:Hp}(a:aW H H1)(b:aW H1 H2):aW H H2:=λc o h=>b c o (a c o h)
theorem aW.free{H H':Hp}(e:aW H H'){l:Addr}(h:H' l=Option.none):H l=Option.none:=by
 cases q:H l with
 |none=>rfl
 |some o =>
  rw[e l o q]at h;cases h
theorem aW.seq{K:PySem.W.Frag}{H H':Hp}{a:Addr}{xs:List V}(e:aW H H')(h:SqL K H a xs):SqL K H' a xs:=by
 rcases h with(h | ⟨o,h⟩) | h
 ·exact .inl (.inl (e _ _ h))
 ·exact .inl (.inr ⟨o,e _ _ h⟩)
 ·exact .inr h
end L2
set_option Elab.async false
set_option linter.all false
set_option maxRecDepth 100000
set_option maxHeartbeats 4000000
namespace L2
open PySem PySem.Spec PyProof.Rows
def fG(cells:List (Str×Addr)):List (Str×NameKind)->List (Str×Addr)->List (Str×Addr)
 |[],cs=>cs
 |x::r,cs=>fG cells r (if x.2=.free then ((cells.lookup x.1).map λc=>(x.1,c)).toList++cs else cs)
theorem jN{scope:Scope}{env:Env}(h:∀x∈scope.names,x.2=.free->∃c,env.cells.lookup x.1=some c) :
  closureFor scope env=pure (fG env.cells scope.names []):=by
 have key:∀(l:List (Str×NameKind)) (cs:List (Str×Addr)) (f:Str×NameKind->List (Str×Addr)->Sem (ForInStep (List (Str×Addr)))),
   (∀x∈l,x.2=.free->∃c,env.cells.lookup x.1=some c) ->
   (∀x cs,f x cs=if (x.2==NameKind.free)=true then (cellOf env x.1 >>= λa=>pure (ForInStep.yield ((x.1,a)::cs))) else pure (ForInStep.yield cs)) ->
   forIn l cs f=pure (fG env.cells l cs):=by
  intro l;induction l with
  |nil=>intro cs f _ _;rfl
  |cons x r ih =>
   intro cs f hx hf;rw[List.forIn_cons,hf];by_cases hk:x.2=.free
   ·obtain⟨c,hc⟩:=hx x Zd hk;rw[if_pos (by simp[hk])];have e:cellOf env x.1=pure c:=by unfold cellOf;rw[hc]
    rw[e];simp only[pure_bind];rw[ih _ f (λy hy=>hx y (Zw _ hy)) hf];show _=pure (fG env.cells r (if x.2=.free then ((env.cells.lookup x.1).map λc=>(x.1,c)).toList++cs else cs));rw[if_pos hk,hc];rfl
   ·rw[if_neg (by simp[hk])];simp only[pure_bind];rw[ih _ f (λy hy=>hx y (Zw _ hy)) hf];show _=pure (fG env.cells r (if x.2=.free then ((env.cells.lookup x.1).map λc=>(x.1,c)).toList++cs else cs));rw[if_neg hk]
 simp only[closureFor];rw[key scope.names [] _ h (λx cs=>by obtain⟨n,k⟩:=x;rfl)]
 first | rfl | simp only[pure_bind]
theorem sR{cells:List (Str×Addr)}:∀(l:List (Str×NameKind)) (cs:List (Str×Addr)) {x:Str}{c:Addr},(fG cells l cs).lookup x=some c->cs.lookup x=some c\/cells.lookup x=some c
 |[],_,_,_,h=>.inl h
 |y::r,cs,x,c,h=>by
  have h':(fG cells r (if y.2=.free then ((cells.lookup y.1).map λc=>(y.1,c)).toList++cs else cs)).lookup x=some c:=h;rcases sR r _ h' with q | q
  ·by_cases hk:y.2=.free
   ·rw[if_pos hk]at q;cases hl:cells.lookup y.1 with
    |none=>rw[hl]at q;exact .inl q
    |some d =>
     rw[hl]at q;have q':(((y.1,d)::cs).lookup x)=some c:=q;rw[List.lookup_cons]at q';cases hb:x==y.1 with
     |true =>
      rw[hb]at q';have e:=eq_of_beq hb;subst e
      right
      rw[hl];exact q'
     |false=>rw[hb]at q';exact .inl q'
   ·rw[if_neg hk]at q;exact .inl q
  ·exact .inr q
theorem vK{cells:List (Str×Addr)}:∀(l:List (Str×NameKind)) (cs:List (Str×Addr)) (x:Str),((x,NameKind.free)∈l/\∃c,cells.lookup x=some c)\/(∃c,cs.lookup x=some c)->∃c,(fG cells l cs).lookup x=some c
 |[],cs,x,h=>by
  rcases h with⟨q,_⟩ | q
  ·cases q
  ·exact q
 |y::r,cs,x,h=>by
  show ∃c,(fG cells r (if y.2=.free then ((cells.lookup y.1).map λc=>(y.1,c)).toList++cs else cs)).lookup x=some c;apply vK r;rcases h with⟨q,c,hc⟩ | ⟨c,hc⟩
  ·rcases Zn.mp q with q | q
   ·right
    subst q;rw[if_pos rfl,hc];refine⟨c,?_⟩;show((x,c)::cs).lookup x=some c;rw[List.lookup_cons];simp
   ·exact .inl ⟨q,c,hc⟩
  ·right
   by_cases hk:y.2=.free
   ·rw[if_pos hk];cases hl:cells.lookup y.1 with
    |none=>exact⟨c,hc⟩
    |some d =>
     show ∃c,((y.1,d)::cs).lookup x=some c;rw[List.lookup_cons];cases hb:x==y.1 with
     |true=>exact⟨d,rfl⟩
     |false=>exact⟨c,hc⟩
   ·rw[if_neg hk];exact⟨c,hc⟩
theorem nO{env:Env}:∀{names:List (Str×NameKind)}{x:Str}{k':NameKind},
  (names.map λ(n,k)=>if (k==NameKind.free&&env.scope.kind==.function&&env.kindOf n==some .cell) then (n,NameKind.cell) else (n,k)).lookup x=some k' ->
  ∃k,(x,k)∈names/\(k=k'\/(k=.free/\k'=.cell))
 |[],_,_,h=>by simp at h
 |(n,k)::r,x,k',h=>by
  have ih:=@nO env r x k';have h':List.lookup x ((if (k==NameKind.free&&env.scope.kind==.function&&env.kindOf n==some .cell)=true then (n,NameKind.cell) else (n,k))::_)=some k':=h;by_cases hc:(k==NameKind.free&&env.scope.kind==.function&&env.kindOf n==some .cell)=true
  ·rw[if_pos hc,List.lookup_cons]at h';cases hb:x==n with
   |true =>
    rw[hb]at h';have e:=eq_of_beq hb;subst e;cases h';refine⟨k,Zd,.inr ⟨?_,rfl⟩⟩;simp only[Xx]at hc;exact eq_of_beq hc.1.1
   |false =>
    rw[hb]at h';obtain⟨k2,q,z⟩:=ih h';exact⟨k2,Zw _ q,z⟩
  ·rw[if_neg hc,List.lookup_cons]at h';cases hb:x==n with
   |true =>
    rw[hb]at h';have e:=eq_of_beq hb;subst e;cases h';exact⟨k,Zd,.inl rfl⟩
   |false =>
    rw[hb]at h';obtain⟨k2,q,z⟩:=ih h';exact⟨k2,Zw _ q,z⟩
theorem oQ{env:Env}:∀{names:List (Str×NameKind)}{x:Str},names.lookup x=some .free ->
  (names.map λ(n,k)=>if (k==NameKind.free&&env.scope.kind==.function&&env.kindOf n==some .cell) then (n,NameKind.cell) else (n,k)).lookup x=some .cell \/
  (names.map λ(n,k)=>if (k==NameKind.free&&env.scope.kind==.function&&env.kindOf n==some .cell) then (n,NameKind.cell) else (n,k)).lookup x=some .free
 |[],_,h=>by simp at h
 |(n,k)::r,x,h=>by
  have ih:=@oQ env r x;show List.lookup x ((if (k==NameKind.free&&env.scope.kind==.function&&env.kindOf n==some .cell)=true then (n,NameKind.cell) else (n,k))::_)=some .cell \/
   List.lookup x ((if (k==NameKind.free&&env.scope.kind==.function&&env.kindOf n==some .cell)=true then (n,NameKind.cell) else (n,k))::_)=some .free
  rw[List.lookup_cons]at h;by_cases hc:(k==NameKind.free&&env.scope.kind==.function&&env.kindOf n==some .cell)=true
  ·rw[if_pos hc];simp only[List.lookup_cons];cases hb:x==n with
   |true=>exact .inl rfl
   |false=>rw[hb]at h;exact ih h
  ·rw[if_neg hc];simp only[List.lookup_cons];cases hb:x==n with
   |true=>rw[hb]at h;exact .inr h
   |false=>rw[hb]at h;exact ih h
def Cx.comp(X:Cx)(N:List Str)(scope:Scope)(cl:List (Str×Addr))(C:Addr)(fp:List Addr)(s:Shared)(H:Hp):Cx :=
 { prog:=X.prog,w:=X.w,K:=X.K,mg:=X.mg,base:=X.base,A:=X.A,N:=N,s₀:=s,H₀:=H,env:=compEnvC scope cl C X.env,outer:=X.stack,stack:=X.stack,ex:=fp,fn:=λ_=>false,calm:=X.calm,pn:=[],xe:=λ_ _=>False }
def inner(js:List (Option Nat))(σ:St):St:=js.map λo=>match o with
 |none=>none
 |some j=>(σ[j]?).getD none
def zG(N:List Str)(scope:Scope):List Str->List (Option Nat)->Bool
 |[],[]=>true
 |x::r,o::q=>(match o with | none=>true | some j=>N[j]?==some x&&scope.names.lookup x==some .free)&&zG N scope r q
 |_,_=>false
theorem uH{N:List Str}{scope:Scope}:∀{N':List Str}{js:List (Option Nat)},zG N scope N' js=true->js.length=N'.length
 |[],[],_=>rfl
 |_::r,_::q,h=>by
  have h':=(Bool.and_eq_true_iff.mp h).2;rw[Yq,Yq,uH h']
theorem zF{N:List Str}{scope:Scope}:∀{N':List Str}{js:List (Option Nat)}{i:Nat}{x:Str}{j:Nat},zG N scope N' js=true->N'[i]?=some x->js[i]?=some (some j)->N[j]?=some x/\scope.names.lookup x=some .free
 |[],[],_,_,_,_,h,_=>by simp at h
 |y::r,o::q,0,x,j,h,h1,h2=>by
  have h':=(Bool.and_eq_true_iff.mp h).1;simp at h1 h2;subst h1 h2;have h'':=Bool.and_eq_true_iff.mp h';exact⟨eq_of_beq h''.1,eq_of_beq h''.2⟩
 |y::r,o::q,i+1,x,j,h,h1,h2=>by
  have h':=(Bool.and_eq_true_iff.mp h).2;exact zF (i:=i) h' (by simpa using h1) (by simpa using h2)
theorem BJ{js:List (Option Nat)}{σ:St}{i:Nat}{v:V}(h:(inner js σ)[i]?=some (some v)):∃j,js[i]?=some (some j)/\σ[j]?=some (some v):=by
 unfold inner at h;rw[Zk]at h;cases e:js[i]? with
 |none=>rw[e]at h;cases h
 |some o =>
  rw[e]at h;cases o with
  |none=>cases h
  |some j =>
   refine⟨j,rfl,?_⟩;have h':(σ[j]?).getD none=some v:=by simpa using h
   cases q:σ[j]? with
   |none=>rw[q]at h';cases h'
   |some z=>rw[q]at h';simp at h';rw[h']
structure Fills(σ σ':St):Prop where
 len:σ.length=σ'.length
 at_:∀(i:Nat) v,σ[i]?=some (some v)->σ'[i]?=some (some v)
theorem Fills.refl(σ:St):Fills σ σ:=⟨rfl,λ_ _ h=>h⟩
theorem Fills.set{σ σ':St}(f:Fills σ σ'){i:Nat}(x:V)(h:σ[i]?=some none):Fills σ (σ'.set i (some x)):=by
 refine⟨by rw[List.length_set];exact f.len,λj v q=>?_⟩;by_cases e:i=j
 ·subst e;rw[h]at q;cases q
 ·rw[List.getElem?_set_ne e];exact f.at_ j v q
section
variable{X:Cx}{pins:List (Addr×Obj)}{σ:St}{H:Hp}{s:Shared}
theorem K0{N':List Str}{js:List (Option Nat)}{scope:Scope}{fp:List Addr}{m:Str->Option Value}{h1:Heap}{tk:Nat}(I:Inv X pins σ H s)
  (hk:scope.kind=.function) (hcell:∀y∈scope.names,y.2≠.cell) (hfree:∀y∈scope.names,y.2=.free->X.env.kindOf y.1=some .cell\/X.env.kindOf y.1=some .free) (hjs:zG X.N scope N' js=true)
  (fpok:∀b∈fp,lV X pins H b) (fpl:∀b∈fp,b<s.heap.objs.size) (hns:h1.Ns s.heap.objs.size m) (hsb:∀b o,s.heap.get? b=some o->h1.get? b=some o) :
  Inv (X.comp N' scope (fG X.env.cells scope.names []) s.heap.objs.size fp s H) [] (inner js σ) H { s with heap:=h1,toks:=tk }:=by
 have incl:∀{x c},(fG X.env.cells scope.names []).lookup x=some c->X.env.cells.lookup x=some c:=λ{x c} q=>by
  rcases sR _ _ q with z | z
  ·simp at z
  ·exact z
 have inn:∀{x:Str},(x,NameKind.free)∈scope.names->∃c,(fG X.env.cells scope.names []).lookup x=some c:=λ{x} q=>vK _ _ _ (.inl ⟨q,I.ok.has x (hfree _ q rfl)⟩);have fnot:∀b∈fp,b∉frs X.stack:=λb hb z=>(Zn.mp (I.stkSub b z)).elim (fpok b hb).2.1 (fpok b hb).2.2.1;refine⟨⟨I.ok.mod,?_,I.ok.glob,I.ok.blt,Nat.le_refl _,?_,?_,?_,I.ok.hd,I.ok.frames,.inl rfl,?_,I.bs,Ys I.ok.bsz I.sz,?_,fnot,I.stack,I.stkFree⟩,rfl,I.bare,Un.kept hsb,⟨m,hns,?_⟩,?_,I.fresh,?_,?_,I.hok.kept hsb,?_⟩
 ·exact hk
 ·intro x y c e1 e2;exact I.ok.inj x y c (incl e1) (incl e2)
 ·intro x h;have q:∃k,(x,k)∈scope.names/\k=.free:=by
   rcases h with h | h
   ·obtain⟨k,q1,q2⟩:=nO (env:=X.env) h;rcases q2 with rfl | ⟨q2,_⟩
    ·exact absurd rfl (hcell _ q1)
    ·exact⟨k,q1,q2⟩
   ·obtain⟨k,q1,q2⟩:=nO (env:=X.env) h;rcases q2 with rfl | ⟨_,q2⟩
    ·exact⟨_,q1,rfl⟩
    ·cases q2
  obtain⟨k,q1,rfl⟩:=q;exact inn q1
 ·intro x c h _;cases h
 ·intro b hb;exact⟨Nat.ne_of_lt (fpl b hb),λx c e=>(fpok b hb).2.2.2.2.1 x c (incl e)⟩
 ·intro b o e hb;rcases(fpok b hb).2.2.2.1 with z | z
  ·exact I.ok.noex b o e z
  ·exact absurd (YQ (Heap.lt_size e) (Ys I.ok.bsz z)) (Nat.lt_irrefl _)
 ·intro i x v e1 e2 _;obtain⟨j,q1,q2⟩:=BJ e2;obtain⟨q3,q4⟩:=zF hjs e1 q1;have q5:(x,NameKind.free)∈scope.names:=by
   have:∀{l:List (Str×NameKind)},l.lookup x=some .free->(x,NameKind.free)∈l:=by
    intro l;induction l with
    |nil=>intro z;simp at z
    |cons y r ih =>
     intro z;obtain⟨n,k⟩:=y;rw[List.lookup_cons]at z;cases hb:x==n with
     |true=>rw[hb]at z;have e:=eq_of_beq hb;subst e;cases z;exact Zd
     |false=>rw[hb]at z;exact Zw _ (ih z)
   exact this q4
  have kf:=hfree _ q5 rfl;obtain⟨m0,hn0,hl0⟩:=id I.loc;obtain⟨u,r,lk⟩:=hl0 j x v q3 q2 (kf.elim (λz=>.inr (.inl z)) λz=>.inr (.inr z));refine⟨u,r,?_⟩;rcases lk with⟨z,_⟩ | ⟨_,c,hc,o,ho,hd⟩
  ·rcases kf with k | k
   ·rw[k]at z;cases z
   ·rw[k]at z;cases z
  ·obtain⟨c',hc'⟩:=inn q5;have e:=incl hc';rw[hc]at e;cases e;exact .inr ⟨oQ q4,c,hc',o,hsb _ _ ho,hd⟩
 ·intro x c e;obtain⟨v,o,ho,hd⟩:=I.cell x c (incl e);exact⟨v,o,hsb _ _ ho,hd⟩
 ·intro x c e;exact I.freeC x c (incl e)
 ·intro p hp;cases hp
 ·show(inner js σ).length=N'.length;unfold inner;rw[Zq];exact uH hjs
def PF(X:Cx)(ifs:List Expr)(t:TT):Prop :=
 ∀(pins:List (Addr×Obj)) (s:Shared) (σ:St) (H:Hp) (Q:Bool->Hp->Prop),Inv X pins σ H s->t σ H Q ->
  wpAny (model X.prog X.w) X.A (forIn ifs true λc r=>if r=true then do let ok <-isTrue c X.env (eval c X.env);pure (ForInStep.yield ok) else pure (ForInStep.yield r)) (TP X pins σ Q) X.xe s
def rB:TT:=λ_ H Q=>Q true H
theorem dE:PF X [] rB:=λ_ _ _ H _ I h=>wpAny_tests_nil ⟨H,I,h⟩
theorem tX{c:Expr}{t:TT}(h:PT X c t):PF X [c] t:=λpins s σ H Q I hw=>wpAny_tests_one (h pins s σ H Q I hw)
end
section
variable{prog:Program}{w:World}{A:Around}{E:Value->Shared->Prop}{R:Result->Shared->Prop}{s:Shared}
theorem B4{elt target iter:Expr}{ifs:List Expr}{scope:Scope}{pos:Pos}{it acc:Value}{env:Env}(I:Nat->Shared->Prop)
  (turn:∀n s,I n s->wpAny (model prog w) A (pyNext it) (λr s₁=>match r with
   |none=>R (.ok .next) s₁
   |some v=>wpAny (model prog w) A (letOwnedTupleGo target it v) (λ_ s₀=>wpAny (model prog w) A (assign target env v) (λ_ s₂ =>
     wpAny (model prog w) A (forIn ifs true λc r=>if r=true then do let ok <-isTrue c env (eval c env);pure (ForInStep.yield ok) else pure (ForInStep.yield r)) (λok s₃ =>
      if ok=true then wpAny (model prog w) A (eval elt env) (λx s₄ =>
       wpAny (model prog w) A (call (.builtin "list.append") [acc,x]) (λ_ s₅=>∃m,m<n/\I m s₅) (λ_ _=>False) s₄) (λ_ _=>False) s₃
      else ∃m,m<n/\I m s₃) (λ_ _=>False) s₂) (λ_ _=>False) s₀) (λ_ _=>False) s₁) (λ_ _=>False) s)
  (n:Nat) (h:I n s) :
  codeAny (model prog w) A (.compLoop (.ListComp elt [⟨target,iter,ifs,0⟩] scope pos) 0 it acc env) R s:=by
 refine codeAny_loop rfl I (λn s hI=>?_) n h;show wpAny _ A ((compTurn (.ListComp elt [⟨target,iter,ifs,0⟩] scope pos) 0 it acc env).onRaise (λx=>do noteFrame x env;theTreesLotGoes x)) _ _ s;refine wpAny_noted ?_;rw[compTurn_list];refine ZZ (wpAny_standAt (ZZ (ZX (turn n s hI) (λr s₁ h₁=>?_) λ_ _ h'=>h'.elim)));cases r with
 |none=>exact ZY h₁
 |some v =>
  refine ZZ (ZX h₁ (λ_ s₀ h₀=>?_) λ_ _ h'=>h'.elim);refine ZZ (ZX h₀ (λ_ s₂ h₂=>ZZ (ZX h₂ (λok s₃ h₃=>?_) λ_ _ h'=>h'.elim)) λ_ _ h'=>h'.elim);cases ok with
  |false=>exact ZY ⟨rfl,h₃⟩
  |true =>
   exact ZZ (ZZ (ZX h₃ (λx s₄ h₄=>ZZ (ZX h₄ (λ_ s₅ h₅=>ZY (ZY ⟨rfl,h₅⟩)) λ_ _ h'=>h'.elim)) λ_ _ h'=>h'.elim))
end
section
variable{X:Cx}
def NO(js:List (Option Nat))(wi:TI)(g:TG)(tc:TT)(te:TE):TE:=λσ H Q=>wi σ H λJ H1=>∀D,H1 D=none->∃W:Nat->Nat->List V->Hp->Prop,(∃m,W 0 m [] (upd H1 D (.lst []))) /\
 ∀i m ys H,W i m ys H->(J.stop i H/\Q (.ref D) H)\/(J.go i H/\∃N:List V->Hp->Prop,(∀ys' H',N ys' H'->∃m',m' < m/\W (i+1) m' ys' H')/\∀x H',J.yld i H x H'->g x (inner js σ) H' λσ2 H2=>Fills (inner js σ) σ2/\tc σ2 H2 λb H3 =>
  if b=true then te σ2 H3 λy H4=>H4 D=some (.lst ys)/\ys.length<ZW/\N (ys++[y]) (upd H4 D (.lst (ys++[y]))) else N ys H3)
theorem vI{N':List Str}{js:List (Option Nat)}{scope:Scope}{target iter elt:Expr}{ifs:List Expr}{pos:Pos}{g:TG}{tc:TT}{te:TE}{pins:List (Addr×Obj)}{σ:St}{H:Hp}{s:Shared}{Q:VK}{E:Value->Shared->Prop}
  {RR:Value->Addr->Result->Shared->Prop}{it:Addr}{fp:List Addr}{tn:Nat->Heap->Prop}{J:It}(I:Inv X pins σ H s) (T:Turn X.prog X.w X.K target J fp it tn) (st:tn 0 s.heap) (f:∀b∈fp,lV X pins H b) (hc:X.calm=true)
  (q:∀D,H D=none->∃W:Nat->Nat->List V->Hp->Prop,(∃m,W 0 m [] (upd H D (.lst []))) /\
   ∀i m ys H,W i m ys H->(J.stop i H/\Q (.ref D) H)\/(J.go i H/\∃N:List V->Hp->Prop,(∀ys' H',N ys' H'->∃m',m' < m/\W (i+1) m' ys' H')/\∀x H',J.yld i H x H'->g x (inner js σ) H' λσ2 H2=>Fills (inner js σ) σ2/\tc σ2 H2 λb H3 =>
  if b=true then te σ2 H3 λy H4=>H4 D=some (.lst ys)/\ys.length<ZW/\N (ys++[y]) (upd H4 D (.lst (ys++[y]))) else N ys H3))
  (hg:∀cl C fp s H,PG (X.comp N' scope cl C fp s H) target g) (hf:∀cl C fp s H,PF (X.comp N' scope cl C fp s H) ifs tc) (he:∀cl C fp s H,PE (X.comp N' scope cl C fp s H) elt te)
  (hk:scope.kind=.function) (hcell:∀y∈scope.names,y.2≠.cell) (hfree:∀y∈scope.names,y.2=.free->X.env.kindOf y.1=some .cell\/X.env.kindOf y.1=some .free) (hjs:zG X.N scope N' js=true)
  (hRR:∀D C H' s',Inv X pins σ H' s'->Q (.ref D) H'->(∃m,s'.heap.Ns C m)->H' C=none->C≠X.env.locals->X.s₀.heap.objs.size<=C->C∉X.fs->(∀x c,X.env.cells.lookup x=some c->c≠C)->(∀p∈X.pn++pins,p.1≠C) ->
   RR (.ref D) C (.ok .next) s') :
  wpAny (model X.prog X.w) X.A (newList []) (λacc s₃=>wpAny (model X.prog X.w) X.A (newFunctionEnv scope X.env.globals (fG X.env.cells scope.names []) [] X.env.qual none .none (some X.env)) (λcenv s₄ =>
   codeAny (model X.prog X.w) X.A (.compStart (.ListComp elt [⟨target,iter,ifs,0⟩] scope pos) 0 (.ref it) acc { cenv with scope:=relabel scope X.env }) (RR acc cenv.locals) s₄) E s₃) E s:=by
 refine wpAny_newObj_type (wpAny_newFunctionEnv hcell (by intro y hy;simp at hy) (λh₁ hns₁ hsb₁=>?_) hk);dsimp only at hns₁ hsb₁ ⊢;have I3:Inv X pins σ (upd H s.heap.objs.size (.lst [])) { s with heap:=s.heap.push { cls:=.type "list",dict:=none,data:=.seq ([]:List Value).toArray } }:=I.lnew (its:=[]) (ys:=[]) (t':=s.toks) .nil (Nat.zero_le _);obtain⟨W,⟨m0,w0⟩,turn⟩:=q s.heap.objs.size I.fresh;generalize hD:s.heap.objs.size=D at I3 turn w0 ⊢;have hsz:(s.heap.push { cls:=.type "list",dict:=none,data:=.seq ([]:List Value).toArray }).objs.size=D+1:=by rw[Heap.size_push,hD]
 have fpl:∀b∈fp,b<D:=λb hb=>by
  obtain⟨o,e,_⟩:=T.obj _ _ st b hb;rw[<-hD];exact Heap.lt_size e
 generalize hs3:({ s with heap:=s.heap.push { cls:=.type "list",dict:=none,data:=.seq ([]:List Value).toArray } }:Shared)=s3 at I3;have eh:s.heap.push { cls:=.type "list",dict:=none,data:=.seq ([]:List Value).toArray }=s3.heap:=by rw[<-hs3]
 rw[eh]at hns₁ hsb₁ hsz ⊢;have f3:∀b∈fp,lV X pins (upd H D (.lst [])) b:=λb hb=>⟨by rw[aH (Nat.ne_of_lt (fpl b hb))];exact(f b hb).1,(f b hb).2⟩
 have keep1:∀b o,s3.heap.get? b=some o->h₁.get? b=some o:=λb o e=>hsb₁.extBut b o (Nat.ne_of_lt (Heap.lt_size e)) (Heap.get?_push_of_some _ e);have I4:=K0 (N':=N') (js:=js) (tk:=s.toks+([]:List (Str×Value)).length) I3 hk hcell hfree hjs f3 (λb hb=>by rw[hsz];exact Xq (fpl b hb)) hns₁ keep1;have es:({ s with heap:=h₁,toks:=s.toks+([]:List (Str×Value)).length }:Shared)={ s3 with heap:=h₁,toks:=s.toks+([]:List (Str×Value)).length }:=by rw[<-hs3]
 rw[show({ s with heap:=h₁,toks:=s.toks+([]:List (Str×Value)).length }:Shared)={ s3 with heap:=h₁,toks:=s.toks+([]:List (Str×Value)).length } from es];have st4:tn 0 h₁:=T.keep _ _ _ st λb hb o e=>keep1 b o (eh▸Heap.get?_push_of_some _ e);have hCne:s3.heap.objs.size≠X.env.locals:=Nat.ne_of_gt I3.lt;have loop:∀s4:Shared,tn 0 s4.heap->Inv (X.comp N' scope (fG X.env.cells scope.names []) s3.heap.objs.size fp s3 (upd H D (.lst []))) [] (inner js σ) (upd H D (.lst [])) s4 ->
   codeAny (model X.prog X.w) X.A (.compLoop (.ListComp elt [⟨target,iter,ifs,0⟩] scope pos) 0 (.ref it) (.ref D) (compEnvC scope (fG X.env.cells scope.names []) s3.heap.objs.size X.env)) (RR (.ref D) s3.heap.objs.size) s4:=by
  intro s4 st4 I4;generalize hX:X.comp N' scope (fG X.env.cells scope.names []) s3.heap.objs.size fp s3 (upd H D (.lst []))=X' at I4;have xprog:X'.prog=X.prog:=by rw[<-hX];rfl
  have stat:∀{H':Hp},(∀b∈fp,H' b=none)->∀b∈fp,lV X' [] H' b:=λhn b hb=>by
   rw[<-hX];refine⟨hn b hb,?_,?_,.inl hb,?_,λp hp=>nomatch hp⟩
   ·exact Nat.ne_of_lt (by show b<s3.heap.objs.size;rw[hsz];exact Xq (fpl b hb))
   ·exact λz=>(Zn.mp (I3.stkSub b z)).elim (f3 b hb).2.1 (f3 b hb).2.2.1
   ·intro x c e;rcases sR _ _ e with z | z
    ·simp at z
    ·exact(f3 b hb).2.2.2.2.1 x c z
  have hg':=hg (fG X.env.cells scope.names []) s3.heap.objs.size fp s3 (upd H D (.lst []));have hf':=hf (fG X.env.cells scope.names []) s3.heap.objs.size fp s3 (upd H D (.lst []));have he':=he (fG X.env.cells scope.names []) s3.heap.objs.size fp s3 (upd H D (.lst []));rw[hX]at hg' hf' he';have xA:X'.A=X.A:=by rw[<-hX];rfl
  have xw:X'.w=X.w:=by rw[<-hX];rfl
  have xK:X'.K=X.K:=by rw[<-hX];rfl
  have xc:X'.calm=true:=by rw[<-hX];exact hc
  have xe:X'.env=compEnvC scope (fG X.env.cells scope.names []) s3.heap.objs.size X.env:=by rw[<-hX];rfl
  have xx:X'.xe=λ_ _=>False:=by rw[<-hX];rfl
  have T':Turn X'.prog X'.w X'.K target J fp it tn:=by rw[xprog,xw,xK];exact T
  rw[<-xA,<-xw,<-xprog,<-xe];refine B4 (λn s'=>∃i ys H',Inv X' [] (inner js σ) H' s'/\tn i s'.heap/\(∀b∈fp,H' b=none)/\W i n ys H') ?_ m0 ⟨0,[],_,I4,st4,λb hb=>(f3 b hb).1,w0⟩;rintro n s5 ⟨i,ys,H5,I5,st5,fr5,w5⟩;rcases turn i n ys H5 w5 with⟨stop,q⟩ | ⟨go,N,hN,step⟩
  ·refine thn (T'.done X' rfl rfl rfl xc i [] s5 _ H5 _ I5 (stat fr5) st5 stop) λr s6 ⟨hr,I6⟩=>?_;subst hr;subst hX;have I7:Inv X pins σ H5 s6:=I3.call' (s':=s6) I6.os I6.base I6.hok I6.bare λb hb=>⟨(f3 b hb).2.2.2.1,(f3 b hb).2.1,(f3 b hb).2.2.2.2.1,(f3 b hb).2.2.2.2.2⟩
   obtain⟨m6,hn6,_⟩:=I6.loc;refine hRR D s3.heap.objs.size H5 s6 I7 q ⟨m6,hn6⟩ I6.free hCne I3.sz (I3.nofs (Nat.le_refl _)) (λx c e z=>?_) (λp hp z=>?_)
   ·obtain⟨v,y⟩:=I3.cell x c e;exact absurd (YQ y.lt (by rw[z];exact Nat.le_refl _)) (Nat.lt_irrefl _)
   ·exact absurd (YQ (Heap.lt_size (I3.pin p hp).1) (by rw[z];exact Nat.le_refl _)) (Nat.lt_irrefl _)
  ·refine thn (T'.item X' rfl rfl rfl xc i [] s5 _ H5 _ I5 (stat fr5) st5 go) λr s6 ⟨u,hr,h6⟩=>?_;subst hr;refine thn h6 λ_ s7 ⟨x,H7,I7,r7,y7,st7,fr7⟩=>?_;have I7':=I7.pinned (stat fr7) (T.obj _ _ st7);refine ZX (hg' _ s7 _ H7 x u _ I7' r7 (step x H7 y7)) (λ_ s8 ⟨σ8,H8,I8,fill8,q8⟩=>?_) (λ_ _ z=>by rw[xx]at z;exact z);refine ZX (hf' _ s8 σ8 H8 _ I8 q8) (λb s9 ⟨H9,I9,q9⟩=>?_) (λ_ _ z=>by rw[xx]at z;exact z);have again:∀{H':Hp}{s':Shared}{ys':List V},Inv X' ([]++tW fp s7.heap) σ8 H' s'->N ys' H'->∃m,m<n/\∃i ys H',Inv X' [] (inner js σ) H' s'/\tn i s'.heap/\(∀b∈fp,H' b=none)/\W i m ys H':=λ{H' s' ys'} I' n'=>by
    obtain⟨m',hm,w'⟩:=hN ys' H' n';refine⟨m',hm,i+1,ys',H',I'.unpinned.weak fill8.len fill8.at_,T.keep _ _ _ st7 λb hb o e=>(I'.pin (b,o) (List.mem_append_right _ (List.mem_append_right _ (kF hb e)))).1,λb hb=>?_,w'⟩;obtain⟨o,e,d⟩:=T.obj _ _ st7 b hb;exact(I'.pin (b,o) (List.mem_append_right _ (List.mem_append_right _ (kF hb e)))).2.1
   cases b with
   |false=>exact again I9 q9
   |true =>
    refine ZX (he' _ s9 σ8 H9 _ I9 q9) (λyv s10 ⟨y,H10,I10,ry,hD10,hz,q10⟩=>?_) (λ_ _ z=>by rw[xx]at z;exact z);refine ZX (bA (X:=X') _ s10 σ8 H10 (.ref D) [y] (.ref D) [yv] (λ_ H'=>H'=upd H10 D (.lst (ys++[y]))) I10 rfl (.cons ry .nil) ⟨D,ys,y,rfl,rfl,hD10,hz,rfl⟩) (λ_ s11 ⟨_,H11,I11,_,e11⟩=>?_) (λ_ _ z=>by rw[xx]at z;exact z);subst e11;exact again I11 q10
 have l4:=loop { s3 with heap:=h₁,toks:=s.toks+([]:List (Str×Value)).length } st4 I4;exact codeAny_compStart_list l4 (T.self _ 0 _ _ _ st4 l4)
theorem dF{N':List Str}{js:List (Option Nat)}{scope:Scope}{target iter elt:Expr}{ifs:List Expr}{pos:Pos}{wi:TI}{g:TG}{tc:TT}{te:TE}(hc:X.calm=true)(hi:PI X target iter wi)
  (hg:∀cl C fp s H,PG (X.comp N' scope cl C fp s H) target g) (hf:∀cl C fp s H,PF (X.comp N' scope cl C fp s H) ifs tc) (he:∀cl C fp s H,PE (X.comp N' scope cl C fp s H) elt te)
  (hk:scope.kind=.function:=by rfl) (hcell:(scope.names.all λy=>y.2 != .cell)=true:=by rfl) (hfree:(scope.names.all λy=>y.2 != .free||(X.env.kindOf y.1==some .cell||X.env.kindOf y.1==some .free))=true:=by rfl)
  (hnames:(scope.names.all λy=>y.2 != .local||scope.names.lookup y.1==some .local)=true:=by rfl) (hjs:zG X.N scope N' js=true:=by rfl) (hs:∀x,foldedSetIterable iter X.env x=pure x:=by intro _;rfl) :
  PE X (.ListComp elt [⟨target,iter,ifs,0⟩] scope pos) (NO js wi g tc te):=by
 have hcell':∀y∈scope.names,y.2≠.cell:=λy hy z=>by have:=List.all_eq_true.mp hcell y hy;simp[z]at this
 have hfree':∀y∈scope.names,y.2=.free->X.env.kindOf y.1=some .cell\/X.env.kindOf y.1=some .free:=λy hy z=>by have:=List.all_eq_true.mp hfree y hy;simpa[z] using this
 have hnames':∀y∈scope.names,y.2=.local->scope.names.lookup y.1=some .local:=λy hy z=>by have:=List.all_eq_true.mp hnames y hy;simpa[z] using this
 intro pins s σ H Q I h;rw[eval_ListComp];refine wpAny_comprehension_free (use:=none) rfl hs (jN λx hx z=>I.ok.has x.1 (hfree' x hx z)) hk hnames' ?_;refine thn (hi pins s σ H _ I h) λv s1 h1=>thn h1 λitv s2 h2=>?_;obtain⟨it,fp,tn,J,H2,e,I2,T,st2,f2,q2⟩:=h2;subst e;refine vI (RR:=λacc C=>compPost (model X.prog X.w) X.A X.xe none (EP X pins σ Q) acc C) I2 T st2 f2 hc q2 hg hf he hk hcell' hfree' hjs ?_;intro D C H' s' I' q ⟨m,hn⟩ c0 c1 c2 c3 c4 c5;exact⟨m,hn,λh' hs'=>⟨.ref D,H',I'.turned (t':=s'.toks) (λb o hb e=>(hs'.2 b hb).trans e) c0 c1 (.inr c2) c4 c5,rfl,q⟩⟩
theorem dD{N':List Str}{js:List (Option Nat)}{scope:Scope}{target iter elt:Expr}{ifs:List Expr}{pos pos' spos:Pos}{x:Str}{i:Nat}{wi:TI}{g:TG}{tc:TT}{te:TE}(hN:X.N.Nodup)(hi':X.N[i]?=some x)(hx:Loc X.env.scope x)(hc:X.calm=true)(hi:PI X target iter wi)
  (hg:∀cl C fp s H,PG (X.comp N' scope cl C fp s H) target g) (hf:∀cl C fp s H,PF (X.comp N' scope cl C fp s H) ifs tc) (he:∀cl C fp s H,PE (X.comp N' scope cl C fp s H) elt te)
  (hsw:swapsWith (.ListComp elt [⟨target,iter,ifs,0⟩] scope pos) (some (.Name x pos')) spos.line X.env=pure true:=by rfl)
  (hk:scope.kind=.function:=by rfl) (hcell:(scope.names.all λy=>y.2 != .cell)=true:=by rfl) (hfree:(scope.names.all λy=>y.2 != .free||(X.env.kindOf y.1==some .cell||X.env.kindOf y.1==some .free))=true:=by rfl)
  (hnames:(scope.names.all λy=>y.2 != .local||scope.names.lookup y.1==some .local)=true:=by rfl) (hjs:zG X.N scope N' js=true:=by rfl) (hs:∀x,foldedSetIterable iter X.env x=pure x:=by intro _;rfl)
  (hfn:X.fn x=true\/X.env.scope.names.lookup x=some .local:=by first | exact .inl rfl | exact .inr rfl | assumption) :
  PS X (.Assign [.Name x pos'] (.ListComp elt [⟨target,iter,ifs,0⟩] scope pos) spos) (LN (NO js wi g tc te) (uM i)):=by
 have hcell':∀y∈scope.names,y.2≠.cell:=λy hy z=>by have:=List.all_eq_true.mp hcell y hy;simp[z]at this
 have hfree':∀y∈scope.names,y.2=.free->X.env.kindOf y.1=some .cell\/X.env.kindOf y.1=some .free:=λy hy z=>by have:=List.all_eq_true.mp hfree y hy;simpa[z] using this
 have hnames':∀y∈scope.names,y.2=.local->scope.names.lookup y.1=some .local:=λy hy z=>by have:=List.all_eq_true.mp hnames y hy;simpa[z] using this
 intro pins s σ H D I h;rw[exec_Assign_Name_used _ _ _ _ hsw];refine ZZ (wpAny_standAt (ZZ ?_));show wpAny _ X.A (do let _ <-comprehension (.ListComp elt [⟨target,iter,ifs,0⟩] scope pos) scope X.env _ (newList []) false (eval iter X.env) (some (assign (.Name x pos') X.env))) _ _ s;refine ZZ (ZX (wpAny_comprehension_free (use:=some (assign (.Name x pos') X.env)) (Q:=λ_ s'=>SP X pins D .next s') rfl hs (jN λx hx z=>I.ok.has x.1 (hfree' x hx z)) hk hnames' ?_) (λ_ s' hq=>ZY (ZY hq)) λ_ _ e=>e);refine thn (hi pins s σ H _ I h) λv s1 h1=>thn h1 λitv s2 h2=>?_;obtain⟨it,fp,tn,J,H2,e,I2,T,st2,f2,q2⟩:=h2;subst e;refine vI (Q:=λx H1=>uM i x σ H1 D.nx) (RR:=λacc C=>compPost (model X.prog X.w) X.A X.xe (some (assign (.Name x pos') X.env)) (λ_ s'=>SP X pins D .next s') acc C) I2 T st2 f2 hc q2 hg hf he hk hcell' hfree' hjs ?_;intro D' C H' s' I' q ⟨m,hn⟩ c0 c1 c2 c3 c4 c5;obtain⟨oC,es,ep,hoC,hdC,rC⟩:=id hn;have I'':Inv X (pins++[(C,oC)]) σ H' s':=I'.pins_of λp hp=>(Zf.mp hp).elim (λz=>I'.pin p (List.mem_append_right _ z)) λz=>by
  have e:=Zb.mp z;subst e;exact⟨hoC,c0,c1,c3,λv z=>by rw[hdC]at z;cases z⟩
 show wpAny _ X.A (assign (.Name x pos') X.env (.ref D')) _ _ _;refine wpAny_assign_Name (kY I'' hN hi' hx (v:=.ref D') rfl (λs3 I3=>?_) hfn);have hC3:=I3.pin (C,oC) (List.mem_append_right _ (List.mem_append_right _ (Zb.mpr rfl)));refine⟨m,⟨oC,es,ep,hC3.1,hdC,rC⟩,λh' hs'=>?_⟩;exact⟨_,H',I3.unpinned.turned (t':=s3.toks) (λb o hb e=>(hs'.2 b hb).trans e) c0 c1 (.inr c2) c4 c5,q⟩
end
theorem sQ{J:It}{js:List (Option Nat)}{σ:St}{H1:Hp}{R:Hp->Prop}{D:Addr}{g:TG}{tc:TT}{te:TE}(n:Nat)(Pv:Nat->List V->Hp->Prop)(h0:Pv 0 [] (upd H1 D (.lst [])))
  (hs:∀i ys H,i<n->Pv i ys H->J.go i H/\∀x H',J.yld i H x H'->g x (inner js σ) H' λσ2 H2=>Fills (inner js σ) σ2/\tc σ2 H2 λb H3 =>
   if b=true then te σ2 H3 λy H4=>H4 D=some (.lst ys)/\ys.length<ZW/\Pv (i+1) (ys++[y]) (upd H4 D (.lst (ys++[y]))) else Pv (i+1) ys H3)
  (hd:∀ys H,Pv n ys H->J.stop n H/\R H) :
  ∃W:Nat->Nat->List V->Hp->Prop,(∃m,W 0 m [] (upd H1 D (.lst []))) /\
   ∀i m ys H,W i m ys H->(J.stop i H/\R H)\/(J.go i H/\∃N:List V->Hp->Prop,(∀ys' H',N ys' H'->∃m',m' < m/\W (i+1) m' ys' H')/\∀x H',J.yld i H x H'->g x (inner js σ) H' λσ2 H2=>Fills (inner js σ) σ2/\tc σ2 H2 λb H3 =>
    if b=true then te σ2 H3 λy H4=>H4 D=some (.lst ys)/\ys.length<ZW/\N (ys++[y]) (upd H4 D (.lst (ys++[y]))) else N ys H3):=by
 refine⟨λi m ys H=>m=n-i/\i<=n/\Pv i ys H,⟨n,by simp,Nat.zero_le _,h0⟩,?_⟩;rintro i m ys H ⟨rfl,hi,p⟩;by_cases hlt:i<n
 ·obtain⟨go,step⟩:=hs i ys H hlt p;exact .inr ⟨go,Pv (i+1),λys' H' p'=>⟨n-(i+1),by omega,rfl,hlt,p'⟩,step⟩
 ·have e:i=n:=by lia
  subst e;exact .inl (hd ys H p)
theorem comp_map{J:It}{js:List (Option Nat)}{σ:St}{H1:Hp}{R:Hp->Prop}{D:Addr}{g:TG}{te:TE}(n:Nat)(Pv:Nat->List V->Hp->Prop)(h0:Pv 0 [] (upd H1 D (.lst [])))
  (hs:∀i ys H,i<n->Pv i ys H->J.go i H/\∀x H',J.yld i H x H'->g x (inner js σ) H' λσ2 H2=>Fills (inner js σ) σ2/\te σ2 H2 λy H4=>H4 D=some (.lst ys)/\ys.length<ZW/\Pv (i+1) (ys++[y]) (upd H4 D (.lst (ys++[y]))))
  (hd:∀ys H,Pv n ys H->J.stop n H/\R H) :
  ∃W:Nat->Nat->List V->Hp->Prop,(∃m,W 0 m [] (upd H1 D (.lst []))) /\
   ∀i m ys H,W i m ys H->(J.stop i H/\R H)\/(J.go i H/\∃N:List V->Hp->Prop,(∀ys' H',N ys' H'->∃m',m' < m/\W (i+1) m' ys' H')/\∀x H',J.yld i H x H'->g x (inner js σ) H' λσ2 H2=>Fills (inner js σ) σ2/\rB σ2 H2 λb H3 =>
    if b=true then te σ2 H3 λy H4=>H4 D=some (.lst ys)/\ys.length<ZW/\N (ys++[y]) (upd H4 D (.lst (ys++[y]))) else N ys H3):=by
 refine sQ n Pv h0 ?_ hd;simp only[rB,if_true];exact hs
end L2
set_option Elab.async false
set_option linter.all false
set_option maxRecDepth 100000
set_option maxHeartbeats 4000000
namespace L2
open PySem PySem.Spec PyProof.Rows
section
variable{X:Cx}{tg:Expr}
end
section
variable{X:Cx}{pins:List (Addr×Obj)}{σ:St}{H:Hp}{s:Shared}{h':Heap}
theorem Inv.turnedNew{t':Nat}{ch:List Addr}{T:Addr}{o:HO}(I:Inv X pins σ H s)(k:∀b u,b∉ch->s.heap.get? b=some u->h'.get? b=some u)(there:∀b u,s.heap.get? b=some u->∃u',h'.get? b=some u')(hT:s.heap.objs.size<=T)
  (hf:∀b∈ch,lV X pins H b) (new:cG X.prog X.w (upd H T o) h' T o):Inv X pins σ (upd H T o) { s with heap:=h',toks:=t' }:=by
 have hn:=I.hok.fresh hT;have nit:∀b u,H b=some u->b∉ch:=λb u e z=>by rw[(hf b z).1]at e;cases e
 refine I.step (g':=s.gens) (d':=s.drawn) (ch:=ch) (λb hb=>?_) (λb o _ _ hc e _=>k b o hc e) (λb o _ _ hc e _=>⟨o.slots,k b o hc e⟩) (λb u hc e n=>?_) (λb u hc e=>there b u e)
  (λb xs e=>?_) (λb ob u e=>?_) (λb ps e=>⟨#[],?_⟩) (λm hm=>?_) (λb u e=>?_) I.bare
 ·exact⟨(hf b hb).2.2.2.1,(hf b hb).2.1,(hf b hb).2.2.2.2.1,(hf b hb).2.2.2.2.2⟩
 ·rw[aH (Nat.ne_of_lt (YQ (Heap.lt_size e) hT))];exact n
 ·rw[aH (aN e hn)];exact e
 ·rw[aH (aN e hn)];exact e
 ·rw[aH (aN e hn),e];simp
 ·obtain⟨ob,es,ep,ho,r⟩:=hm;exact⟨ob,es,ep,k _ ob (λz=>(hf _ z).2.1 rfl) ho,r⟩
 ·by_cases hb:b=T
  ·subst hb;rw[aB]at e;cases e;exact new
  ·rw[aH hb]at e;refine(I.hok b u e).stay (λc v hc q=>k c v ?_ q) (λc q=>by rw[aH (aN q hn)];exact q) λc xs q=>by rw[aH (aN q hn)];exact q
   rcases hc with z | z
   ·rw[z];exact nit b u e
   ·exact nit c _ z
end
def Ite(K:PySem.W.Frag)(a:Addr):It :=
 ⟨λi H=>∃xs x,SqL K H a xs/\xs[i]?=some x,λi H v H'=>∃T x,v=.ref T/\H T=none/\H'=upd H T (.tup [.int i,x])/\∀xs,SqL K H a xs->xs[i]?=some x,λi H=>∃xs,SqL K H a xs/\xs.length<=i⟩
theorem FQ{P:Program}{w:World}{K:PySem.W.Frag}{elts:List Expr}{k:Nat}{pos:Pos}(a e it:Addr)(hei:e≠it):Turn P w K (.Tuple elts k pos) (Ite K a) [e,it] e (λi h=>(∃old,IsEnum h e it i old)/\h.IsListIter it a i) where
 mem:=by simp
 obj:=λi h st b hb=>by
  obtain⟨⟨old,he⟩,o,ho,hc,hd⟩:=st;rcases Zn.mp hb with rfl | hb
  ·exact⟨_,he,λv z=>by
    have z':Data.fields _=Data.cell v:=z;cases z'⟩
  ·have e':=Zb.mp hb;subst e';exact⟨o,ho,λv z=>by rw[hd]at z;cases z⟩
 keep:=λi h h' st k=>by
  obtain⟨⟨old,he⟩,hit⟩:=st;exact⟨⟨old,k e (by simp) _ he⟩,hit.at λo x=>k it (by simp) o x⟩
 item:=by
  intro X hP hw hK hc i pins s σ H E I hf st hg;subst hP hw hK;obtain⟨⟨old,he⟩,hit⟩:=st;obtain⟨xs,x,hq,hx⟩:=hg;obtain⟨its,rv,pl,hz⟩:=I.list hq;obtain⟨u,hu,ru⟩:=rv.get hx;have hux:its.toArray[i]?=some u:=by simpa using hu
  refine wpAny_pyNext_enum_item he hit pl.isList hux hei λh' ho hit' hT hsz hk=>?_;refine⟨_,rfl,?_⟩;have kk:∀b v,b∉[e,it]->s.heap.get? b=some v->h'.get? b=some v:=λb v hb q=>hk b v (λz=>hb (by simp[z])) (λz=>hb (by simp[z])) q;have th:∀b v,s.heap.get? b=some v->∃v',h'.get? b=some v':=λb v q=>by
   by_cases h1:b=e
   ·subst h1;exact⟨_,ho⟩
   ·by_cases h2:b=it
    ·subst h2;obtain⟨o,q1,_⟩:=hit';exact⟨_,q1⟩
    ·exact⟨v,hk b v h1 h2 q⟩
  have I1:Inv X pins σ (upd H s.heap.objs.size (.tup [.int i,x])) { s with heap:=h',toks:=s.toks+1 } :=
   I.turnedNew (ch:=[e,it]) kk th (Nat.le_refl _) hf ⟨by show 2<=ZW;decide,[.int i s.toks,u],.cons ⟨_,rfl⟩ (.cons ru .nil),⟨_,hT,rfl,_,rfl⟩⟩
  refine wpAny_letOwnedTupleGo_enum ho λh2 he2 hs2=>?_;have fe:=hf e (by simp);have fi:=hf it (by simp);have hTe:e≠s.heap.objs.size:=Nat.ne_of_lt (Heap.lt_size he);have hTi:it≠s.heap.objs.size:=by obtain⟨o,q1,_⟩:=hit;exact Nat.ne_of_lt (Heap.lt_size q1)
  have I2:Inv X pins σ (upd H s.heap.objs.size (.tup [.int i,x])) { s with heap:=h2,toks:=s.toks+1 } :=
   Inv.turned (s:={ s with heap:=h',toks:=s.toks+1 }) (h':=h2) (t':=s.toks+1) (it:=e) I1 (λb o hb q=>(hs2.2 b hb).trans q) (by rw[aH hTe];exact fe.1) fe.2.1 fe.2.2.2.1 fe.2.2.2.2.1 fe.2.2.2.2.2
  refine⟨.ref s.heap.objs.size,_,I2,rfl,⟨s.heap.objs.size,x,rfl,I.fresh,rfl,λys hys=>by rw[I.list_inj hys hq];exact hx⟩,⟨⟨_,by simpa using he2⟩,hit'.at λo q=>(hs2.2 it hei.symm).trans q⟩,λb hb=>?_⟩;rcases Zn.mp hb with rfl | hb
  ·rw[aH hTe];exact fe.1
  ·have e':=Zb.mp hb;subst e';rw[aH hTi];exact fi.1
 done:=by
  intro X hP hw hK hc i pins s σ H E I hf st hg;subst hP hw hK;obtain⟨⟨old,he⟩,hit⟩:=st;obtain⟨xs,hq,hl⟩:=hg;obtain⟨its,rv,pl,hz⟩:=I.list hq;have hlen:=rv.length;obtain⟨f0,f1,f2,f3,f4,f5⟩:=hf it (by simp);refine wpAny_pyNext_enum_end (I.ok.hd hc) he hit pl.isList (by simp;lia) λh' eb=>⟨rfl,?_⟩
  exact I.turned (t':=s.toks) (λb o hb q=>eb b o hb q) f0 f1 f3 f4 f5
 self:=λ_ _ _ _ _ st h=>by
  obtain⟨⟨old,he⟩,_⟩:=st;exact wpAny_pyIter_enum he h
section
variable{X:Cx}
def RV(K:PySem.W.Frag)(ta:TA):TI:=λσ H R=>ta σ H λvs H1=>∃a,vs=[.ref a]/\(∃xs,SqL K H1 a xs)/\R (Ite K a) H1
theorem zA{a:Expr}{ta:TA}{p pos:Pos}{elts:List Expr}{k:Nat}{tpos:Pos}(hg:Gl X "enumerate")(hm:X.mg "enumerate" = none)(ha:PA X [a] ta)(hs:starEach [a] X.env=[(false,eval a X.env)]:=by rfl) :
  PI X (.Tuple elts k tpos) (.Call (.Name "enumerate" p) [a] [] pos) (RV X.K ta):=by
 intro pins s σ H R I h;refine Call_ (nS I hg hm (show bootBuiltins "enumerate" = some (.type "enumerate") by decide +kernel) (PyProof.Rows.callWith_type1 (thn (ha pos pins s σ H _ I h) λus s1 ⟨vs,H1,I1,r1,q1⟩=>?_) hs rfl));obtain⟨l,e,⟨xs,hq⟩,q⟩:=q1;subst e;cases r1 with
 |cons r rr =>
  cases rr;cases r;obtain⟨its,rv,pl,hz⟩:=I1.list hq;refine call_enumerate_list pl.isList λh' he hit hsz hk=>?_;refine wpAny_pyIter_enum he ?_;have I2:Inv X pins σ H1 { s1 with heap:=h' }:=I1.kept (t':=s1.toks) hk;refine⟨s1.heap.objs.size+1,[s1.heap.objs.size+1,s1.heap.objs.size],_,_,H1,rfl,I2,FQ l _ _ (Nat.succ_ne_self _),⟨⟨_,by simpa using he⟩,hit⟩,λb hb=>?_,q⟩;rcases Zn.mp hb with rfl | hb
  ·exact I1.fpOk (Nat.le_succ _) (I1.hok.fresh (Nat.le_succ _))
  ·have e':=Zb.mp hb;subst e';exact I1.fpOk (Nat.le_refl _) (I1.hok.fresh (Nat.le_refl _))
end
mutual
inductive Bd(K:PySem.W.Frag)(H:Hp):V->PyData->Prop
 |int (i:Int):Bd K H (.int i) (.int i)
 |non:Bd K H .non .none
 |bl (b:Bool):Bd K H (.bl b) (.bool b)
 |lst {a:Addr}{xs:List V}{ds:List PyData}:SqL K H a xs->Bds K H xs ds->Bd K H (.ref a) (.list ds)
 |tup {a:Addr}{xs:List V}{ds:List PyData}:SqT K H a xs->Bds K H xs ds->Bd K H (.ref a) (.tuple ds)
inductive Bds(K:PySem.W.Frag)(H:Hp):List V->List PyData->Prop
 |nil:Bds K H [] []
 |cons {x:V}{xs:List V}{d:PyData}{ds:List PyData}:Bd K H x d->Bds K H xs ds->Bds K H (x::xs) (d::ds)
end
theorem Bds.ints{K:PySem.W.Frag}{H:Hp}:∀ns:List Int,Bds K H (ns.map V.int) (ns.map PyData.int)
 |[]=>.nil
 |n::ns=>.cons (.int n) (Bds.ints ns)
section
variable{X:Cx}{pins:List (Addr×Obj)}{σ:St}{H:Hp}{s:Shared}
mutual
theorem Bd.reads(I:Inv X pins σ H s):∀{x:V}{d:PyData}{u:Value},Bd X.K H x d->RelV x u->∃as,Reads s.heap u d as
 |_,_,u,.int i,r=>by obtain⟨t,rfl⟩:=r;exact⟨_,.int i t⟩
 |_,_,u,.non,r=>by cases r;exact⟨_,.none⟩
 |_,_,u,.bl b,r=>by cases r;exact⟨_,.bool b⟩
 |_,_,u,.lst hq b,r=>by
  cases r;obtain⟨its,rv,⟨o,n,e,hc,_,hd⟩,hz⟩:=I.list hq;obtain⟨as,h⟩:=Bds.reads I b rv;exact⟨_,.list e hc hd (by simpa using h)⟩
 |_,_,u,.tup hq b,r=>by
  cases r;obtain⟨its,rv,⟨o,e,hc,n,hd⟩,hz⟩:=I.tuple hq;obtain⟨as,h⟩:=Bds.reads I b rv;exact⟨_,.tuple e hc hd (by simpa using h)⟩
theorem Bds.reads(I:Inv X pins σ H s):∀{xs:List V}{ds:List PyData}{us:List Value},Bds X.K H xs ds->bJ xs us->∃as,ReadsAll s.heap us ds as
 |_,_,_,.nil,r=>by cases r;exact⟨_,.nil⟩
 |_,_,_,.cons b bs,r=>by
  cases r with
  |cons r rr =>
   obtain⟨as,h⟩:=Bd.reads I b r;obtain⟨bs',h'⟩:=Bds.reads I bs rr;exact⟨_,.cons h h'⟩
end
end
section
variable{X:Cx}
def RH(K:PySem.W.Frag)(neg:Bool):R2:=λx y H Q=>∃dx dy,Bd K H x dx/\Bd K H y dy/\SeqAt.shaped dx=true/\SeqAt.shaped dy=true/\Q (.bl (PyData.eqv dx dy ^^ neg)) H
theorem JE(hu:X.A.units+64<cLine):OpR X (compareOp .Eq) (RH X.K false):=by
 intro pins s σ H x y v u Q I rx ry h;obtain⟨dx,dy,bx,b_y,sx,sy,q⟩:=h;obtain⟨as,r1⟩:=bx.reads I rx;obtain⟨bs,r2⟩:=b_y.reads I ry;exact eq_dataH r1 r2 sx sy hu ⟨.bl _,H,I,rfl,by simpa using q⟩
theorem C5(hu:X.A.units+64<cLine):OpR X (compareOp .NotEq) (RH X.K true):=by
 intro pins s σ H x y v u Q I rx ry h;obtain⟨dx,dy,bx,b_y,sx,sy,q⟩:=h;obtain⟨as,r1⟩:=bx.reads I rx;obtain⟨bs,r2⟩:=b_y.reads I ry;exact ne_dataH r1 r2 sx sy hu ⟨.bl _,H,I,rfl,by simpa using q⟩
end
section
variable{X:Cx}
def EW(H:Hp):V->String->Prop
 |.non,T=>T="NoneType"
 |.bl _,T=>T="bool"
 |.int _,T=>T="int"
 |.ref a,T=>(T="list"/\∃xs,H a=some (.lst xs))\/(T="tuple"/\∃xs,H a=some (.tup xs))
 |_,_=>False
theorem EW.ty{K:PySem.W.Frag}{H:Hp}{x:V}{T:String}(h:EW H x T):qW K H x (.type T):=by
 cases x with
 |non=>cases (show T="NoneType" from h);exact .non
 |bl b=>cases (show T="bool" from h);exact .bl b
 |int i=>cases (show T="int" from h);exact .int i
 |ref a =>
  rcases h with⟨rfl,xs,e⟩ | ⟨rfl,xs,e⟩
  ·exact .lst e
  ·exact .tup e
 |_=>exact False.elim h
def isT(T c:String):Bool:=T==c||(T=="bool"&&c=="int")
theorem MY{H:Hp}{x:V}{T:String}(h:EW H x T):T="NoneType"\/T="bool"\/T="int"\/T="list"\/T="tuple":=by
 cases x with
 |non=>exact .inl h
 |bl b=>exact .inr (.inl h)
 |int i=>exact .inr (.inr (.inl h))
 |ref a =>
  rcases h with⟨rfl,xs,e⟩ | ⟨rfl,xs,e⟩
  ·exact .inr (.inr (.inr (.inl rfl)))
  ·exact .inr (.inr (.inr (.inr rfl)))
 |_=>exact False.elim h
theorem RQ{K:PySem.W.Frag}{T n:String}(hT:T="NoneType"\/T="bool"\/T="int"\/T="list"\/T="tuple")(hn:n="list"\/n="tuple"\/n="int"\/n="bool"):PySem.W.kitOne K (.type T) (.type n)=some (isT T n):=by
 rcases hT with rfl | rfl | rfl | rfl | rfl<;>rcases hn with rfl | rfl | rfl | rfl<;>first | rfl | decide
def SX(H0:Unit):List V->Hp->VK->Prop:=λxs H Q=>∃x T n,xs=[x,.ty n]/\EW H x T/\(n="list"\/n="tuple"\/n="int"\/n="bool")/\Q (.bl (isT T n)) H
theorem pM:iK X (.builtin "isinstance") (SX ()):=by
 intro pins s σ H xs us Q I r h;obtain⟨x,T,n,rfl,k,hn,q⟩:=h;obtain⟨u,v,rfl,ru,rv⟩:=vals2 r;cases (show v=Value.type n from rv);exact GM I ru k.ty (RQ (MY k) hn) λtk=>⟨.bl _,H,I.tok tk,rfl,q⟩
end
end L2
namespace L2
open PySem PySem.Spec PyProof.Rows
theorem cF{c:Bool}{A B:Prop}(hc:c=false)(h:B):if c=true then A else B:=by subst hc;exact zI h
theorem dY{c:Bool}{A B:Prop}(hc:c=true)(h:A):if c=true then A else B:=by subst hc;exact zH h
theorem aG{H:Hp}{p:Addr}(h:H p=none)(o:HO):aW H (upd H p o):=λb u q=>by rw[aH (aN q h)];exact q
def dU(r:Addr)(H H':Hp):Prop:=∀b o,b≠r->H b=some o->H' b=some o
section
variable{X:Cx}{K:PySem.W.Frag}
theorem cP(h:X.K=K):IxR X (OY K):=by subst h;exact aR
theorem gU(h:X.K=K):IxR X (OX K):=by subst h;exact aZ
theorem GH(h:X.K=K):OpR X (compareOp .NotIn) (rIn K true):=by subst h;exact iR
theorem EV{es:List Expr}{k:Nat}{t:TGs}{n:Nat}{pos:Pos}(e:X.K=K)(hc:X.calm=true)(h:PGs X es t)
  (hn:(assignEach es X.env).length=n:=by rfl) (hst:(assignEach es X.env).findIdx? (·.1)=none:=by rfl):PG X (.Tuple es k pos) (RX K n t):=by subst e;exact kD hc h hn hst
end
end L2
namespace MM
def oth(e:Nat):Nat:=if e%2=0 then e+1 else e-1
theorem b9{n e:Nat}(h:e<2*n):oth e<2*n:=by unfold oth;split<;>omega
theorem eU(e:Nat):oth e / 2=e / 2:=by unfold oth;split<;>lia
theorem oU(e:Nat):oth e%2=1-e%2:=by unfold oth;split<;>lia
theorem J8{a b:Nat}(h1:a / 2=b / 2)(h2:a%2=b%2):a=b:=by rw[<-Nat.div_add_mod a 2,<-Nat.div_add_mod b 2,h1,h2]
theorem fO(e:Nat):oth (oth e)=e:=J8 (by rw[eU,eU]) (by rw[oU,oU];exact Nat.sub_sub_self (Xz (Nat.mod_lt e (Nat.zero_lt_succ 1))))
theorem mC{a b:Nat}(h:oth a=oth b):a=b:=by rw[<-fO a,<-fO b,h]
theorem bW:∀(N:Nat) (l:List Nat),l.Nodup->(∀x∈l,x<N)->l.length<=N
 |0,[],_,_=>Nat.le_refl _
 |0,x::_,_,h=>absurd (h x Zd) (Nat.not_lt_zero _)
 |N+1,l,nd,h=>by
  have ih:=bW N (l.erase N) (nd.erase N) (λx hx=>by
   have h1:=(nd.mem_erase_iff).mp hx;have h2:=h x h1.2
   lia)
  have hl:=List.length_erase (a:=N) (l:=l);split at hl<;>lia
def iter(f:Nat->Nat):Nat->Nat->Nat
 |0,e=>e
 |n+1,e=>f (iter f n e)
structure fV(f:Nat->Nat)(N:Nat):Prop where
 lt:∀e,e<N->f e<N
 inj:∀a b,a<N->b<N->f a=f b->a=b
theorem dH{f:Nat->Nat}{N:Nat}(m:fV f N){e:Nat}(h:e<N):∀k,iter f k e<N
 |0=>h
 |k+1=>m.lt _ (dH m h k)
theorem b7(f:Nat->Nat)(e:Nat)(i:Nat):∀k,iter f (i+k) e=iter f k (iter f i e)
 |0=>rfl
 |k+1=>by show f (iter f (i+k) e)=f (iter f k (iter f i e));rw[b7 f e i k]
theorem BH{f:Nat->Nat}{N:Nat}(m:fV f N){a b:Nat}(ha:a<N)(hb:b<N):∀k,iter f k a=iter f k b->a=b
 |0,h=>h
 |k+1,h=>BH m ha hb k (m.inj _ _ (dH m ha k) (dH m hb k) h)
def path(f:Nat->Nat)(e k:Nat):List Nat:=(List.range k).map λi=>iter f i e
theorem lJ(f:Nat->Nat)(e k:Nat):(path f e k).length=k:=by unfold path;simp
theorem mB(f:Nat->Nat)(e k:Nat):path f e (k+1)=path f e k++[iter f k e]:=by unfold path;rw[List.range_succ,Zt];rfl
theorem uA{f:Nat->Nat}{e k x:Nat}:x∈path f e k↔∃i,i<k/\iter f i e=x:=by
 unfold path;simp[Zh,Zs]
theorem nQ{f:Nat->Nat}{N:Nat}(m:fV f N){e:Nat}(he:e<N):∀k,(∀j,0<j->j<k->iter f j e≠e)->(path f e k).Nodup
 |0,_=>List.nodup_nil
 |k+1,h=>by
  rw[mB];have ih:=nQ m he k (λj h0 h1=>h j h0 (by lia));rw[List.nodup_append];refine⟨ih,by simp,?_⟩;intro a ha b hb e1;have hb':b=iter f k e:=by simpa using hb
  obtain⟨i,hi,rfl⟩:=uA.mp ha;have q:iter f i e=iter f k e:=e1.trans hb';have hk:k=(k-i)+i:=by lia
  have q2:iter f i e=iter f i (iter f (k-i) e):=by
   rw[<-b7,Nat.sub_add_cancel (Nat.le_of_lt hi)];exact q
  have q3:=BH m he (dH m he _) i q2;exact h (k-i) (by lia) (by lia) q3.symm
theorem EL{f:Nat->Nat}{N:Nat}(m:fV f N){e:Nat}(he:e<N)(k:Nat):∀x∈path f e k,x<N:=λx hx=>by
 obtain⟨i,_,rfl⟩:=uA.mp hx;exact dH m he i
theorem rW{f:Nat->Nat}{N:Nat}(m:fV f N){e:Nat}(he:e<N):∃k,0<k/\k<=N/\iter f k e=e:=by
 refine ZT λh=>?_;have no:∀j,0<j->j<N+1->iter f j e≠e:=λj h0 h1 q=>h ⟨j,h0,by lia,q⟩;have nd:=nQ m he (N+1) no;have b:=bW N _ nd (EL m he _);rw[lJ]at b
 lia
def m8(f:Nat->Nat)(e k:Nat):Prop:=0<k/\iter f k e=e/\∀j,0<j->j<k->iter f j e≠e
theorem ID{f:Nat->Nat}{N:Nat}(m:fV f N){e:Nat}(he:e<N):∃k,m8 f e k/\k<=N:=by
 obtain⟨k,h0,h1,h2⟩:=rW m he;have:∀n k,k<=n->0<k->iter f k e=e->∃k',m8 f e k'/\k'<=k:=by
  intro n;induction n with
  |zero=>intro k h1 h2;lia
  |succ n ih =>
   intro k h1 h2 h3;by_cases q:∃j,0<j/\j<k/\iter f j e=e
   ·obtain⟨j,j0,j1,j2⟩:=q;obtain⟨k',r,l⟩:=ih j (by lia) j0 j2;exact⟨k',r,by lia⟩
   ·exact⟨k,⟨h2,h3,λj j0 j1 j2=>q ⟨j,j0,j1,j2⟩⟩,Nat.le_refl _⟩
 obtain⟨k',r,l⟩:=this k k (Nat.le_refl _) h0 h2;exact⟨k',r,by lia⟩
theorem tQ{f:Nat->Nat}{e k k':Nat}(a:m8 f e k)(b:m8 f e k'):k=k':=by
 rcases Nat.lt_trichotomy k k' with h | h | h
 ·exact absurd a.2.1 (b.2.2 k a.1 h)
 ·exact h
 ·exact absurd b.2.1 (a.2.2 k' b.1 h)
theorem tR{f:Nat->Nat}{e k j:Nat}(r:m8 f e k)(h0:0<j)(hj:j<=k)(h:iter f j e≠e):j<k:=by
 rcases Xj j k with q | q
 ·exact q
 ·have:j=k:=by lia
  subst this;exact absurd r.2.1 h
abbrev aS:=List (Nat×Nat)
abbrev bI:=List (List Nat)
def place(ts:aS)(e:Nat):Nat:=if e%2=0 then (ts.getD (e / 2) (0,0)).1 else (ts.getD (e / 2) (0,0)).2
def row(os:bI)(p:Nat):List Nat:=os.getD p []
structure SC(pl:Nat->Nat)(M:Nat)(os:bI):Prop where
 ends:∀p e,e∈row os p->e<M/\pl e=p
 has:∀e,e<M->pl e<os.length/\e∈row os (pl e)
 nd:∀p,(row os p).Nodup
 full:∀p,p<os.length->row os p≠[]
 four:∀p,(row os p).length<=4
structure Good(ts:aS)(os:bI):Prop where
 g:SC (place ts) (2*ts.length) os
 one:1<=ts.length
def aV(l:List Nat)(x:Nat):Nat:=l.getD ((l.idxOf x+l.length-1)%l.length) 0
theorem iZ{l:List Nat}{x:Nat}(h:x∈l):aV l x∈l:=by
 have h1:=List.idxOf_lt_length_of_mem h;have h2:(l.idxOf x+l.length-1)%l.length<l.length:=Nat.mod_lt _ (by lia);unfold aV;simp only[List.getD,Zz h2,Option.getD_some];exact Zp h2
theorem L8{i j n:Nat}(hi:i<n)(hj:j<n)(h:(i+n-1)%n=(j+n-1)%n):i=j:=by
 have f:∀k,k<n->(((k+n-1)%n)+1)%n=k:=λk hk=>by
  rw[Nat.mod_add_mod,Nat.sub_add_cancel (Ys (Nat.succ_le_of_lt (Yt (Nat.zero_le k) hk)) (Nat.le_add_left n k)),Nat.add_mod_right,Nat.mod_eq_of_lt hk]
 rw[<-f i hi,<-f j hj,h]
theorem C1{l:List Nat}(nd:l.Nodup){x y:Nat}(hx:x∈l)(hy:y∈l)(h:aV l x=aV l y):x=y:=by
 have h1:=List.idxOf_lt_length_of_mem hx;have h2:=List.idxOf_lt_length_of_mem hy;have m1:(l.idxOf x+l.length-1)%l.length<l.length:=Nat.mod_lt _ (by lia);have m2:(l.idxOf y+l.length-1)%l.length<l.length:=Nat.mod_lt _ (by lia);unfold aV at h;simp only[List.getD,Zz m1,Zz m2,Option.getD_some]at h;have e:=(List.getElem_inj nd).mp h;have e':=L8 h1 h2 e;have g1:l[l.idxOf x]=x:=List.getElem_idxOf h1;have g2:l[l.idxOf y]=y:=List.getElem_idxOf h2;rw[<-g1,<-g2];simp only[e']
def behind(ts:aS)(os:bI)(e:Nat):Nat:=aV (row os (place ts (oth e))) (oth e)
theorem Good.behind{ts:aS}{os:bI}(g:Good ts os){e:Nat}(he:e<2*ts.length):behind ts os e<2*ts.length/\place ts (behind ts os e)=place ts (oth e):=by
 have h:=g.g.has (oth e) (b9 he);exact g.g.ends _ _ (iZ h.2)
theorem Good.maps{ts:aS}{os:bI}(g:Good ts os):fV (MM.behind ts os) (2*ts.length) where
 lt:=λe he=>(g.behind he).1
 inj:=λa b ha hb h=>by
  have pa:=(g.behind ha).2;have pb:=(g.behind hb).2;rw[h,pb]at pa;have ma:=(g.g.has (oth a) (b9 ha)).2;have mb:=(g.g.has (oth b) (b9 hb)).2;unfold MM.behind at h;rw[<-pa]at h ma;exact mC (C1 (g.g.nd _) ma mb h)
end MM
namespace MM
open Classical in
noncomputable def per(f:Nat->Nat)(e:Nat):Nat:=if h:∃k,m8 f e k then Classical.choose h else 1
noncomputable def aT(f:Nat->Nat)(e:Nat):List Nat:=path f e (per f e)
theorem O5{f:Nat->Nat}{e k:Nat}(r:m8 f e k):per f e=k:=by
 unfold per;rw[dif_pos ⟨k,r⟩];exact tQ (Classical.choose_spec (⟨k,r⟩:∃k,m8 f e k)) r
theorem eZ{f:Nat->Nat}{N:Nat}(m:fV f N){e:Nat}(he:e<N):m8 f e (per f e)/\per f e<=N:=by
 obtain⟨k,r,l⟩:=ID m he;rw[O5 r];exact⟨r,l⟩
theorem oZ{f:Nat->Nat}{e k:Nat}(h:iter f k e=e):∀n,iter f (k*n) e=e
 |0=>rfl
 |n+1=>by rw[Nat.mul_succ,Nat.add_comm,b7,h];exact oZ h n
theorem J3{f:Nat->Nat}{e k:Nat}(h:iter f k e=e)(j:Nat):iter f j e=iter f (j%k) e:=by
 have e1:j=k*(j / k)+j%k:=(Nat.div_add_mod j k).symm;have e2:iter f j e=iter f (k*(j / k)+j%k) e:=congrArg (λz=>iter f z e) e1;rw[e2,b7,oZ h]
theorem dR{f:Nat->Nat}{N:Nat}(m:fV f N){x y:Nat}(hx:x<N):y∈aT f x↔∃k,iter f k x=y:=by
 obtain⟨r,_⟩:=eZ m hx;unfold aT;rw[uA];constructor
 ·rintro⟨i,_,h⟩;exact⟨i,h⟩
 ·rintro⟨k,h⟩;exact⟨k%per f x,Nat.mod_lt _ r.1,by rw[<-J3 r.2.1];exact h⟩
theorem l5{f:Nat->Nat}{N:Nat}(m:fV f N){x:Nat}(hx:x<N):x∈aT f x:=(dR m hx).mpr ⟨0,rfl⟩
theorem eO{f:Nat->Nat}{N:Nat}(m:fV f N){x:Nat}(hx:x<N):∀y∈aT f x,y<N:=EL m hx _
theorem eG{f:Nat->Nat}{N:Nat}(m:fV f N){x:Nat}(hx:x<N):(aT f x).Nodup:=nQ m hx _ (eZ m hx).1.2.2
theorem BC{f:Nat->Nat}{N:Nat}(m:fV f N){x:Nat}(hx:x<N):0<(aT f x).length/\(aT f x).length<=N:=by
 unfold aT;rw[lJ];exact⟨(eZ m hx).1.1,(eZ m hx).2⟩
theorem mH{f:Nat->Nat}{N:Nat}(m:fV f N){x y:Nat}(hx:x<N)(h:y∈aT f x):x∈aT f y:=by
 have hy:=eO m hx y h;obtain⟨k,rfl⟩:=(dR m hx).mp h;obtain⟨r,_⟩:=eZ m hx;refine(dR m hy).mpr ⟨per f x*(k+1)-k,?_⟩;have hk:k<=per f x*(k+1):=by
  have:=Nat.le_mul_of_pos_left (k+1) r.1
  lia
 rw[<-b7,Nat.add_sub_cancel' hk];exact oZ r.2.1 _
theorem eW{f:Nat->Nat}{N:Nat}(m:fV f N){x y z:Nat}(hx:x<N)(h1:y∈aT f x)(h2:z∈aT f y):z∈aT f x:=by
 have hy:=eO m hx y h1;obtain⟨k,rfl⟩:=(dR m hx).mp h1;obtain⟨j,rfl⟩:=(dR m hy).mp h2;exact(dR m hx).mpr ⟨k+j,b7 f x k j⟩
noncomputable def fF(f:Nat->Nat):Nat->List Nat->List (List Nat)
 |0,_=>[]
 |_,[]=>[]
 |n+1,e::r=>aT f e::fF f n ((e::r).filter λx=>decide (x∉aT f e))
theorem gP(f:Nat->Nat)(n:Nat):fF f n []=[]:=by cases n<;>rfl
theorem dS{f:Nat->Nat}{N:Nat}(m:fV f N){e:Nat}(he:e<N)(r:List Nat):((e::r).filter λx=>decide (x∉aT f e)).length<=r.length:=by
 rw[List.filter_cons,if_neg (by simp[l5 m he])];exact List.length_filter_le _ _
theorem lP{f:Nat->Nat}{N:Nat}(m:fV f N):∀(n:Nat) (k:Nat) (l:List Nat),(∀x∈l,x<N)->l.length<=n->l.length<=k->fF f n l=fF f k l
 |0,k,l,_,h,_=>by
  have e:l=[]:=Yh.mp (by lia);subst e;rw[gP,gP]
 |n+1,k,[],_,_,_=>by rw[gP,gP]
 |n+1,0,e::r,_,_,h=>by simp at h
 |n+1,k+1,e::r,hl,h1,h2=>by
  have he:=hl e Zd;have s:=dS m he r;simp only[Yq]at h1 h2;show aT f e::fF f n _=aT f e::fF f k _;rw[lP m n k _ (λx hx=>hl x (Yz.mp hx).1) (by lia) (by lia)]
noncomputable def lf(f:Nat->Nat)(l:List Nat):List (List Nat):=fF f l.length l
theorem JY(f:Nat->Nat):lf f []=[]:=rfl
theorem oY{f:Nat->Nat}{N:Nat}(m:fV f N){e:Nat}{r:List Nat}(hl:∀x∈e::r,x<N):lf f (e::r)=aT f e::lf f ((e::r).filter λx=>decide (x∉aT f e)):=by
 unfold lf;show aT f e::fF f r.length _=_;rw[lP m r.length _ _ (λx hx=>hl x (Yz.mp hx).1) (dS m (hl e Zd) r) (Nat.le_refl _)]
noncomputable def cX(f:Nat->Nat)(N:Nat):List (List Nat):=lf f (List.range N)
theorem kH{f:Nat->Nat}{N:Nat}(m:fV f N):∀(n:Nat) (l:List Nat),l.length<=n->(∀x∈l,x<N)->∀d∈lf f l,∃e∈l,d=aT f e
 |0,l,h,_,d,hd=>by
  have e:l=[]:=Yh.mp (by lia);subst e;cases hd
 |n+1,[],_,_,d,hd=>by cases hd
 |n+1,e::r,h,hl,d,hd=>by
  rw[oY m hl]at hd;rcases Zn.mp hd with rfl | hd
  ·exact⟨e,Zd,rfl⟩
  ·have s:=dS m (hl e Zd) r;simp only[Yq]at h;obtain⟨x,hx,q⟩:=kH m n _ (by lia) (λx hx=>hl x (Yz.mp hx).1) d hd;exact⟨x,(Yz.mp hx).1,q⟩
theorem uD{f:Nat->Nat}{N:Nat}(m:fV f N):∀(n:Nat) (l:List Nat),l.length<=n->(∀x∈l,x<N)->(lf f l).length<=l.length
 |0,l,h,_=>by
  have e:l=[]:=Yh.mp (by lia);subst e;exact Nat.le_refl _
 |n+1,[],_,_=>Nat.le_refl _
 |n+1,e::r,h,hl=>by
  rw[oY m hl];have s:=dS m (hl e Zd) r;simp only[Yq]at h ⊢;have ih:=uD m n _ (Ys s (by lia)) (λx hx=>hl x (Yz.mp hx).1)
  lia
theorem uC{f:Nat->Nat}{N:Nat}(m:fV f N):∀(n:Nat) (l:List Nat),l.length<=n->(∀x∈l,x<N)->∀x∈l,∃(k:Nat) (d:List Nat),(lf f l)[k]?=some d/\x∈d/\∀(j:Nat) (d':List Nat),(lf f l)[j]?=some d'->x∈d'->j=k
 |0,l,h,_,x,hx=>by
  have e:l=[]:=Yh.mp (by lia);subst e;cases hx
 |n+1,[],_,_,x,hx=>by cases hx
 |n+1,e::r,h,hl,x,hx=>by
  have he:=hl e Zd;have hxN:=hl x hx;have s:=dS m he r;simp only[Yq]at h;rw[oY m hl];by_cases q:x∈aT f e
  ·refine⟨0,_,rfl,q,λj d' hj hd=>?_⟩;cases j with
   |zero=>rfl
   |succ j =>
    rw[List.getElem?_cons_succ]at hj;obtain⟨y,hy,rfl⟩:=kH m _ _ (Nat.le_refl _) (λz hz=>hl z (Yz.mp hz).1) d' (Zg hj);obtain⟨hy1,hy2⟩:=Yz.mp hy;have hy2':y∉aT f e:=by simpa using hy2
    exact absurd (eW m he q (mH m (hl y hy1) hd)) hy2'
  ·have hx':x∈(e::r).filter λz=>decide (z∉aT f e):=Yz.mpr ⟨hx,by simpa using q⟩;obtain⟨k,d,h1,h2,h3⟩:=uC m n _ (by lia) (λz hz=>hl z (Yz.mp hz).1) x hx';refine⟨k+1,d,by rw[List.getElem?_cons_succ];exact h1,h2,λj d' hj hd=>?_⟩;cases j with
   |zero =>
    rw[List.getElem?_cons_zero]at hj;cases hj;exact absurd hd q
   |succ j =>
    rw[List.getElem?_cons_succ]at hj;rw[h3 j d' hj hd]
end MM
set_option Elab.async false
set_option linter.all false
set_option maxRecDepth 100000
set_option maxHeartbeats 4000000
namespace L2
open PySem PySem.Spec PyProof.Rows
abbrev vn(n:Nat):V:=.int (n:Int)
abbrev vns(l:List Nat):List V:=l.map vn
theorem zZ(l:List Nat):vns l=(l.map λn:Nat=>(n:Int)).map V.int:=by rw[Yb];rfl
section
variable{X:Cx}
def OZ:V->List V->Hp->VK->Prop:=λx vs H Q=>∃(l:Addr) (ns:List Nat) (v:Nat),x=.ref l/\vs=[vn v]/\H l=some (.lst (vns ns))/\v∈ns/\Q (vn (ns.idxOf v)) H
theorem oW:MtM X "list.index" OZ:=by
 intro pins s σ H x vs v us Q I rx rv h;obtain⟨l,ns,k,rfl,rfl,hH,hm,q⟩:=h;cases rx;obtain⟨u,rfl,t,rfl⟩:=rv.one;obtain⟨z,its,n,r,hl,e⟩:=I.lstM hH;have hlen:its.length=ns.length:=by rw[<-hl];simp
 have hj:ns.idxOf k<ns.length:=List.idxOf_lt_length_of_mem hm;have item:∀(m:Nat) (hm:m<its.toArray.size),eqU (vn k) its.toArray[m]=(ns[m]'(by simpa[hlen] using hm)==k):=λm hm'=>by
  have hm2:m<ns.length:=by simpa[hlen] using hm'
  have hx:(vns ns)[m]?=some (vn ns[m]):=by rw[Zk,Zz hm2];rfl
  obtain⟨u',hu',ru'⟩:=r.get hx;have e1:its.toArray[m]=u':=by
   have:its[m]?=some its.toArray[m]:=by simp at hm' ⊢
   rw[this]at hu';exact Option.some.inj hu'
  rw[e1,zK ru' rfl];show((ns[m]:Int)==(k:Int))=(ns[m]==k)
  rw[Xy];simp only[beq_iff_eq]
  lia
 have hsm:((ns.idxOf k:Nat):Int)<2 ^ 63-1:=by
  have h1:=kG;have h2:(vns ns).length=ns.length:=by simp
  lia
 refine call_meets F.slot_list_index ⟨_,e,rfl⟩ F.entry_list_index (F.args_list_index_2 _ _) (SeqAt.list_indexAt l its.toArray n none #[] (.int k t) (eqU (vn k)) (ns.idxOf k) (by simpa[hlen] using hj) hsm ?_ ?_) ⟨e,λy hy=>?_,?_⟩
 ·rw[item];simp
 ·intro m hm' hlt;rw[item];have:=List.not_of_lt_findIdx (p:=(·==k)) (xs:=ns) (i:=m) hlt;simpa using this
 ·have fl:(vns ns).all lS=true:=by rw[List.all_eq_true];intro y hy;obtain⟨n,_,rfl⟩:=Zh.mp hy;rfl
  exact jB (x:=vn k) ⟨t,rfl⟩ rfl r fl y (by simpa using hy)
 ·exact⟨vn (ns.idxOf k),H,I.tok _,⟨_,rfl⟩,q⟩
def iO{α:Type}(l:List α)(i:Nat)(x:α):List α:=l.take i++x::l.drop i
def L4:V->List V->Hp->VK->Prop:=λx vs H Q=>∃(l:Addr) (xs:List V) (i:Nat) (y:V),x=.ref l/\vs=[vn i,y]/\H l=some (.lst xs)/\i<=xs.length/\xs.length<ZW/\Q .non (upd H l (.lst (iO xs i y)))
theorem GC:MtM X "list.insert" L4:=by
 intro pins s σ H x vs v us Q I rx rv h;obtain⟨l,xs,i,y,rfl,rfl,hH,hi,hz,q⟩:=h;cases rx;obtain⟨u1,u2,rfl,⟨t,rfl⟩,r2⟩:=rv.two;obtain⟨z,its,n,r,hl,e⟩:=I.lstM hH;have hfit:Builtin.List.listFitsIndex (i:Int)=true:=by
  unfold Builtin.List.listFitsIndex;have:=kG;simp only[Xx,decide_eq_true_eq]
  lia
 have hc0:¬(!Builtin.List.listFitsIndex (i:Int))=true:=by rw[hfit];exact Bool.false_ne_true
 have hz1:its.toArray.size<=ZW:=by rw[List.size_toArray];lia
 obtain⟨w,hw⟩:∃w:Int,w=(i:Int):=⟨_,rfl⟩
 rw[<-hw]at hc0;have mm:=PySem.AutoSeq1.list_insert_list_int_val_1 l its.toArray n w t u2 hc0 hz1;rw[<-hw];refine call_meets F.slot_list_insert ⟨_,e,rfl⟩ F.entry_list_insert (F.args_list_insert_3 _ _ _) mm ⟨e,?_⟩;refine⟨.non,_,I.lset (its':=iO its i u2) (ys:=iO xs i y) (t':=s.toks) hH e ?_ ?_ ?_,rfl,q⟩
 ·have hk:(if w<0 then (w+(its.toArray.size:Int)).toNat else min w.toNat its.toArray.size)=i:=by
   rw[if_neg (by lia),List.size_toArray]
   lia
  show(its.toArray.extract 0 (if w<0 then (w+(its.toArray.size:Int)).toNat else min w.toNat its.toArray.size)).push u2++its.toArray.extract (if w<0 then (w+(its.toArray.size:Int)).toNat else min w.toNat its.toArray.size)=_;rw[hk];unfold iO;simp;exact List.take_of_length_le (by simp)
 ·unfold iO;exact bJ.append (r.take _) (.cons r2 (r.drop _))
 ·unfold iO;rw[Zm,Yq,Yx,Yf]
  lia
theorem yO:∀{xs:List V}{us:List Value},xs.length=us.length->(∀(j:Nat) x u,xs[j]?=some x->us[j]?=some u->RelV x u)->bJ xs us
 |[],[],_,_=>.nil
 |x::xs,u::us,hl,h=>.cons (h 0 x u rfl rfl) (yO (by simpa using hl) λj y v h1 h2=>h (j+1) y v (by simpa using h1) (by simpa using h2))
theorem B7:iK X (.type "range") (λxs H Q=>∃j:Int,xs=[.int j]/\∀p,H p=none->Q (.ref p) (upd H p (.rng 0 j))):=by
 intro pins s σ H xs us Q I r h;obtain⟨j,rfl,q⟩:=h;obtain⟨u,rfl,t,rfl⟩:=vals1 r;refine call_range_1 ?_;refine⟨.ref s.heap.objs.size,_,I.laid (o:=.rng 0 j) (λb o e=>Heap.get?_push_of_some _ e) (Nat.le_refl _) ⟨_,_,_,Heap.get?_push_size _ rfl⟩,rfl,q _ I.fresh⟩
end
def kK(H:Hp)(a:Addr)(ts:MM.aS):Prop:=∃tr:List Addr,H a=some (.lst (tr.map V.ref))/\tr.length=ts.length/\∀(i:Nat) t,ts[i]?=some t->∃r,tr[i]?=some r/\H r=some (.tup [vn t.1,vn t.2])
def qZ(H:Hp)(a:Addr)(os:MM.bI):Prop:=∃rr:List Addr,H a=some (.lst (rr.map V.ref))/\rr.length=os.length/\∀(i:Nat) l,os[i]?=some l->∃r,rr[i]?=some r/\H r=some (.lst (vns l))
theorem aW.ts{H H':Hp}(g:aW H H'){a:Addr}{ts:MM.aS}(h:kK H a ts):kK H' a ts:=by
 obtain⟨tr,h1,h2,h3⟩:=h;exact⟨tr,g _ _ h1,h2,λi t ht=>by obtain⟨r,q1,q2⟩:=h3 i t ht;exact⟨r,q1,g _ _ q2⟩⟩
theorem aW.os{H H':Hp}(g:aW H H'){a:Addr}{os:MM.bI}(h:qZ H a os):qZ H' a os:=by
 obtain⟨tr,h1,h2,h3⟩:=h;exact⟨tr,g _ _ h1,h2,λi t ht=>by obtain⟨r,q1,q2⟩:=h3 i t ht;exact⟨r,q1,g _ _ q2⟩⟩
theorem kK.item{H:Hp}{a:Addr}{ts:MM.aS}(h:kK H a ts){i:Nat}(hi:i<ts.length):∃xs r,H a=some (.lst xs)/\xs.length=ts.length/\atI xs (i:Int)=some (.ref r)/\H r=some (.tup [vn (ts.getD i (0,0)).1,vn (ts.getD i (0,0)).2]):=by
 obtain⟨tr,h1,h2,h3⟩:=h;obtain⟨r,q1,q2⟩:=h3 i ts[i] (Zz hi);refine⟨_,r,h1,by rw[Zq];exact h2,cE (by rw[Zk,q1];rfl),?_⟩;simp only[List.getD,Zz hi,Option.getD_some];exact q2
theorem qZ.item{H:Hp}{a:Addr}{os:MM.bI}(h:qZ H a os){i:Nat}(hi:i<os.length):∃xs r,H a=some (.lst xs)/\xs.length=os.length/\atI xs (i:Int)=some (.ref r)/\H r=some (.lst (vns (MM.row os i))):=by
 obtain⟨tr,h1,h2,h3⟩:=h;obtain⟨r,q1,q2⟩:=h3 i os[i] (Zz hi);refine⟨_,r,h1,by rw[Zq];exact h2,cE (by rw[Zk,q1];rfl),?_⟩;unfold MM.row;simp only[List.getD,Zz hi,Option.getD_some];exact q2
theorem lT{l:List Nat}{j:Nat}(h:j<l.length){k:Int}(hk:k=(j:Int)):atI (vns l) k=some (vn (l.getD j 0)):=by
 subst hk;exact cE (by rw[Zk,Zz h];simp[List.getD,h])
theorem FF{l:List Nat}{x:Nat}(h:x∈l):atI (vns l) ((l.idxOf x:Nat)-1:Int)=some (vn (MM.aV l x)):=by
 have h1:=List.idxOf_lt_length_of_mem h;unfold MM.aV;rcases Nat.eq_zero_or_pos (l.idxOf x) with q | q
 ·have e:(l.idxOf x+l.length-1)%l.length=l.length-1:=by rw[q,Nat.zero_add];exact Nat.mod_eq_of_lt (by omega)
  rw[e];unfold atI ixN;rw[if_neg (by lia),if_pos (by simp;lia)];have e2:((l.idxOf x:Nat)-1+((vns l).length:Int)).toNat=l.length-1:=by simp;omega
  show(vns l)[((l.idxOf x:Nat)-1+((vns l).length:Int)).toNat]?=_;rw[e2,Zk,Zz (by lia)];have:l.length-1<l.length:=by lia
  simp[List.getD,this]
 ·have e:(l.idxOf x+l.length-1)%l.length=l.idxOf x-1:=by
   have:l.idxOf x+l.length-1=(l.idxOf x-1)+l.length:=by lia
   rw[this,Nat.add_mod_right];exact Nat.mod_eq_of_lt (by omega)
  rw[e];exact lT (by omega) (by omega)
end L2
set_option linter.all false
set_option maxRecDepth 100000
set_option maxHeartbeats 4000000
namespace L2
open PySem PySem.Spec PyProof.Rows
theorem KZ{J:It}{js:List (Option Nat)}{σ:St}{H1:Hp}{R:Hp->Prop}{D:Addr}{g:TG}{te:TE}(n:Nat)(Pe:Nat->V->Prop)(hD:H1 D=none)(hn:n<=100000)
  (go:∀i H',i<n->aW H1 H'->J.go i H') (stop:∀H',aW H1 H'->J.stop n H')
  (hs:∀i H' x H'' (k:V->Hp->Prop),i<n->aW H1 H'->J.yld i H' x H''->(∀v H4,Pe i v->aW H' H4->k v H4)->g x (inner js σ) H'' λσ2 H2=>Fills (inner js σ) σ2/\te σ2 H2 k)
  (hd:∀vs H',vs.length=n->(∀(i:Nat) v,vs[i]?=some v->Pe i v)->aW H1 H'->H' D=some (.lst vs)->R H') :
  ∃W:Nat->Nat->List V->Hp->Prop,(∃m,W 0 m [] (upd H1 D (.lst []))) /\
   ∀i m ys H,W i m ys H->(J.stop i H/\R H)\/(J.go i H/\∃N:List V->Hp->Prop,(∀ys' H',N ys' H'->∃m',m' < m/\W (i+1) m' ys' H')/\∀x H',J.yld i H x H'->g x (inner js σ) H' λσ2 H2=>Fills (inner js σ) σ2/\rB σ2 H2 λb H3 =>
    if b=true then te σ2 H3 λy H4=>H4 D=some (.lst ys)/\ys.length<ZW/\N (ys++[y]) (upd H4 D (.lst (ys++[y]))) else N ys H3):=by
 refine comp_map n (λi ys H'=>ys.length=i/\(∀(j:Nat) v,ys[j]?=some v->Pe j v)/\aW H1 H'/\H' D=some (.lst ys)) ⟨rfl,λj v h=>by simp at h,aG hD _,aB⟩ ?_ ?_
 ·rintro i ys H' hi ⟨hl,hp,g1,hD'⟩;refine⟨go i H' hi g1,λx H'' hy=>hs i H' x H'' _ hi g1 hy λv H4 hv g4=>⟨g4 _ _ hD',?_,?_,?_,?_,aB⟩⟩
  ·rw[hl];exact YQ hi (Ys hn (by decide))
  ·rw[Zm,hl];rfl
  ·intro j v' h;by_cases hj:j<ys.length
   ·rw[Zx hj]at h;exact hp j v' h
   ·rw[Zy (by lia)]at h;have hj2:j-ys.length=0:=by
     have:=(Zj.mp h).1;simp at this;lia
    rw[hj2]at h;simp at h;subst h;have:j=i:=by lia
    subst this;exact hv
  ·exact λb o h=>by rw[aH (aN h hD)];exact g4 _ _ (g1 _ _ h)
 ·rintro ys H' ⟨hl,hp,g1,hD'⟩;exact⟨stop H' g1,hd ys H' hl hp g1 hD'⟩
theorem L0{vs:List V}{n:Nat}{fs:Nat->V}(hl:vs.length=n)(h:∀(i:Nat) v,vs[i]?=some v->v=fs i):vs=(List.range n).map fs:=by
 apply Yp;intro i;by_cases hi:i<n
 ·rw[Zk,Yv hi];obtain⟨v,hv⟩:∃v,vs[i]?=some v:=⟨vs[i],Zz (by lia)⟩
  rw[hv,h i v hv];rfl
 ·rw[Zr (by lia),Zr (by simp;lia)]
theorem c7{J:It}{js:List (Option Nat)}{σ:St}{H1:Hp}{R:Hp->Prop}{D:Addr}{g:TG}{te:TE}(n:Nat)(fs:Nat->V)(hD:H1 D=none)(hn:n<=100000)
  (go:∀i H',i<n->aW H1 H'->J.go i H') (stop:∀H',aW H1 H'->J.stop n H')
  (hs:∀i H' x H'' (k:V->Hp->Prop),i<n->aW H1 H'->J.yld i H' x H''->(∀H4,aW H' H4->k (fs i) H4)->g x (inner js σ) H'' λσ2 H2=>Fills (inner js σ) σ2/\te σ2 H2 k)
  (hd:∀H',aW H1 H'->H' D=some (.lst ((List.range n).map fs))->R H') :
  ∃W:Nat->Nat->List V->Hp->Prop,(∃m,W 0 m [] (upd H1 D (.lst []))) /\
   ∀i m ys H,W i m ys H->(J.stop i H/\R H)\/(J.go i H/\∃N:List V->Hp->Prop,(∀ys' H',N ys' H'->∃m',m' < m/\W (i+1) m' ys' H')/\∀x H',J.yld i H x H'->g x (inner js σ) H' λσ2 H2=>Fills (inner js σ) σ2/\rB σ2 H2 λb H3 =>
    if b=true then te σ2 H3 λy H4=>H4 D=some (.lst ys)/\ys.length<ZW/\N (ys++[y]) (upd H4 D (.lst (ys++[y]))) else N ys H3) :=
 KZ n (λi v=>v=fs i) hD hn go stop (λi H' x H'' k hi g1 hy hk=>hs i H' x H'' k hi g1 hy λH4 g4=>hk _ _ rfl g4)
  λvs H' hl hp g1 e=>hd H' g1 (by rw[e,L0 hl hp])
def at0(ls:List Int)(j:Nat):Int:=ls.getD j 0
theorem vN{ls:List Int}{j:Nat}(h:j<ls.length):(ls.map V.int)[j]?=some (.int (at0 ls j)):=by
 unfold at0;rw[Zk,Zz h];simp[List.getD,h]
theorem ND{ls:List Int}{j:Nat}(h:j<ls.length):at0 ls j∈ls:=by
 unfold at0;simp[List.getD,h]
theorem a8{ls:List Int}{j:Nat}(h:j<ls.length){k:Int}(hk:k=(j:Int)):atI (ls.map V.int) k=some (.int (at0 ls j)):=by
 subst hk;exact cE (vN h)
theorem qR{n j:Nat}{k:Int}(h:j<n)(hk:k=(j:Int)):ixN n k=some j:=by
 subst hk;unfold ixN;rw[if_pos (by lia),if_pos (by lia)];simp
theorem mG{ds:List PyData}(n:Nat)(h:∀d∈ds,d.canLay0=true/\d.depth<=n):PyData.canLayAll0 ds=true/\PyData.depthAll ds<=n:=by
 induction ds with
 |nil=>exact⟨rfl,Nat.zero_le _⟩
 |cons d ds ih =>
  have h1:=h d Zd;have h2:=ih λx hx=>h x (Zw _ hx);refine⟨by rw[PyData.canLayAll0,h1.1,h2.1];rfl,?_⟩;rw[PyData.depthAll];exact Nat.max_le.mpr ⟨h1.2,h2.2⟩
theorem via{tt r:TS}{D:Ends}{σ:St}{H:Hp}(I:St->Hp->Prop)(ht:(∀σ' H',I σ' H'->r D σ' H')->tt { D with nx:=r D } σ H)(hr:∀σ' H',I σ' H'->r D σ' H'):QU tt r D σ H:=ht hr
theorem uN{K:PySem.W.Frag}{a:Addr}{xs:List V}{g:TG}{tb:TS}{D:Ends}{σ:St}{H:Hp}(Pv:Nat->St->Hp->Prop)(h0:Pv 0 σ H)(hl:∀i σ H,i<=xs.length->Pv i σ H->SqL K H a xs)
  (hs:∀(i:Nat) x σ H T,xs[i]?=some x->Pv i σ H->H T=none->g (.ref T) σ (upd H T (.tup [vn i,x])) λσ2 H2=>tb { D with nx:=Pv (i+1),ct:=Pv (i+1),bk:=D.nx } σ2 H2) (hd:∀σ H,Pv xs.length σ H->D.nx σ H) :
  ∃W:Nat->Nat->St->Hp->Prop,(∃m,W 0 m σ H)/\∀i m σ H,W i m σ H ->
   ((Ite K a).stop i H/\D.nx σ H)\/((Ite K a).go i H/\∃N:St->Hp->Prop,(∀σ' H',N σ' H'->∃m',m' < m/\W (i+1) m' σ' H')/\∀x H',(Ite K a).yld i H x H'->g x σ H' λσ2 H2=>tb { D with nx:=N,ct:=N,bk:=D.nx } σ2 H2):=by
 refine⟨λi m σ H=>m=xs.length-i/\i<=xs.length/\Pv i σ H,⟨xs.length,by simp,Nat.zero_le _,h0⟩,?_⟩;rintro i m σ H ⟨rfl,hi,p⟩;have q:=hl i σ H hi p;by_cases hlt:i<xs.length
 ·refine .inr ⟨⟨xs,xs[i],q,by simp[hlt]⟩,Pv (i+1),λσ' H' p'=>⟨xs.length-(i+1),by omega,rfl,hlt,p'⟩,λx H' y=>?_⟩;obtain⟨T,x',rfl,hT,rfl,y⟩:=y;exact hs i x' σ _ T (y xs q) p hT
 ·have e:i=xs.length:=by lia
  subst e;exact .inl ⟨⟨xs,q,Nat.le_refl _⟩,hd σ H p⟩
theorem tV(ns:List Int):∀k,k<=ns.length->PySem.preSum (at0 ns) k=(ns.take k).sum
 |0,_=>by simp[PySem.preSum]
 |k+1,h=>by
  rw[PySem.preSum,tV ns k (by lia),List.take_succ,List.sum_append];have hk:k<ns.length:=by lia
  unfold at0;simp[List.getD,hk]
section
variable{X:Cx}{pins:List (Addr×Obj)}{σ:St}{H:Hp}{s:Shared}
theorem rM{p:Addr}{its:List Value}(pl:PlainL s.heap p its.toArray) :
  (s.heap.push { cls:=.type "list_iterator",data:=.fields #[.ref p,.int 0 0] }).IsListIter s.heap.objs.size p 0/\(s.heap.push { cls:=.type "list_iterator",data:=.fields #[.ref p,.int 0 0] }).IsList p its.toArray:=by
 obtain⟨o,n,e,hc,hd,hs⟩:=pl;exact⟨⟨_,Heap.get?_push_size _ rfl,rfl,rfl⟩,o,Heap.get?_push_of_some _ e,hc,n,hs⟩
theorem AY{p:Addr}{its:List Value}(pl:PlainL s.heap p its.toArray):p<s.heap.objs.size:=by
 obtain⟨o,n,e,_⟩:=pl;exact Heap.lt_size e
theorem mM(hc:X.calm=true):iK X (.builtin "sum") (λxs H Q=>∃(p:Addr) (ns:List Int),xs=[.ref p]/\SqL X.K H p (ns.map V.int)/\Q (.int ns.sum) H):=by
 intro pins s σ H xs us Q I r h;obtain⟨p,ns,rfl,hq,q⟩:=h;obtain⟨u,rfl,rx⟩:=vals1 r;cases rx;obtain⟨its,rv,pl,hz⟩:=I.list hq;have hl:=rv.length;rw[Zq]at hl;have hp:=AY pl;refine call_sum_walkG (wpAny_pyIter_list pl.isList ?_);refine⟨s.heap.objs.size,[s.heap.objs.size,p],[s.heap.objs.size],its.toArray.size,_,_,at0 ns,rfl,Walks.list (show X.A.in1.handled=none from I.ok.hd hc) _ p (Nat.ne_of_lt hp) its.toArray,rM pl,λb hb=>?_,λi v hv=>?_,λh' tk t' hk=>?_⟩
 ·have:=Heap.lt_size (Heap.get?_push_size s.heap (o:={ cls:=.type "list_iterator",data:=.fields #[.ref p,.int 0 0] }) rfl);simp only[Zn,List.not_mem_nil,or_false]at hb;rcases hb with rfl | rfl
  ·exact this
  ·exact Nat.lt_trans hp this
 ·have hi:its[i]?=some v:=by simpa using hv
  have hi2:i<ns.length:=by rw[hl];exact(Zj.mp hi).1
  obtain⟨u',hu,ru⟩:=rv.get (vN hi2);rw[hi]at hu;cases hu;exact ru
 ·refine⟨.int ns.sum,H,I.kept (h':=h') (t':=tk) λb o e=>?_,⟨t',?_⟩,q⟩
  ·refine hk b o ?_ (Heap.get?_push_of_some _ e);simp only[Zn,List.not_mem_nil,or_false];exact Nat.ne_of_lt (Heap.lt_size e)
  ·rw[List.size_toArray,<-hl,tV ns _ (Nat.le_refl _),Yw]
end
end L2
namespace L2
open PySem PySem.Spec PyProof.Rows
section
variable{X:Cx}
end
end L2
namespace L2
open PySem PySem.Spec PyProof.Rows
section
variable{X:Cx}
theorem GV(hc:X.calm=true):iK X (.builtin "min") (λxs H Q=>∃(p:Addr) (ns:List Int),xs=[.ref p]/\SqL X.K H p (ns.map V.int)/\0<ns.length/\∀m:Int,m∈ns->(∀x∈ns,m<=x)->Q (.int m) H):=by
 intro pins s σ H xs us Q I r h;obtain⟨p,ns,rfl,hq,h0,q⟩:=h;obtain⟨u,rfl,rx⟩:=vals1 r;cases rx;obtain⟨its,rv,pl,hz⟩:=I.list hq;have hl:=rv.length;rw[Zq]at hl;have hp:=AY pl;have hv:∀(i:Nat) (v:Value),its.toArray[i]?=some v->∃t,v=Value.int (at0 ns i) t:=λi v hv=>by
  have hi:its[i]?=some v:=by simpa using hv
  have hi2:i<ns.length:=by rw[hl];exact(Zj.mp hi).1
  obtain⟨u',hu,ru⟩:=rv.get (vN hi2);rw[hi]at hu;cases hu;exact ru
 have hb:=argBest_lt (at0 ns) (its.toArray.size-1);refine call_min_walk (wpAny_pyIter_list pl.isList ?_);refine⟨s.heap.objs.size,[s.heap.objs.size,p],[s.heap.objs.size],its.toArray.size,_,_,_,rfl,Walks.list (show X.A.in1.handled=none from I.ok.hd hc) _ p (Nat.ne_of_lt hp) its.toArray,rM pl,λb hb=>?_,by simp;lia,CmpOf.ints_lt (at0 ns) hv,λv h' tk hP hk=>?_⟩
 ·have:=Heap.lt_size (Heap.get?_push_size s.heap (o:={ cls:=.type "list_iterator",data:=.fields #[.ref p,.int 0 0] }) rfl);simp only[Zn,List.not_mem_nil,or_false]at hb;rcases hb with rfl | rfl
  ·exact this
  ·exact Nat.lt_trans hp this
 ·obtain⟨t,rfl⟩:=hv _ _ hP;have hsz:its.toArray.size=ns.length:=by simp[hl]
  refine⟨.int _,H,I.kept (h':=h') (t':=tk) λb o e=>?_,⟨t,rfl⟩,q _ (ND (by omega)) λx hx=>?_⟩
  ·refine hk b o ?_ (Heap.get?_push_of_some _ e);simp only[Zn,List.not_mem_nil,or_false];exact Nat.ne_of_lt (Heap.lt_size e)
  ·obtain⟨i,hi,rfl⟩:=List.getElem_of_mem hx;have:=hb.2 i (by lia);have e:at0 ns i=ns[i]:=by unfold at0;simp[List.getD,hi]
   rw[<-e];exact this
end
end L2
namespace L2
open PySem PySem.Spec PyProof.Rows
section
variable{X:Cx}
theorem zM:iK X (.builtin "sorted") (λxs H Q=>∃p ns,xs=[.ref p]/\SqL X.K H p (ns.map V.int)/\ns.length<64/\∀(l:Addr) (ns':List Int),H l=none->ns'.Perm ns->ns'.Pairwise (·<=·)->Q (.ref l) (upd H l (.lst (ns'.map V.int)))):=by
 intro pins s σ H xs us Q I r h;obtain⟨p,ns,rfl,hq,h64,q⟩:=h;obtain⟨u,rfl,rx⟩:=vals1 r;cases rx;obtain⟨its,r',pl,hz⟩:=I.list hq;have hlen:=r'.length;rw[Zq]at hlen;refine sorted_ints (ns:=ns) (vs:=its) pl.isList (intsAre_of r') (by lia) λout ns' a1 a2 a3=>?_;obtain⟨e,he⟩:=sortedAll_at s.heap its out;have rv:=jQ a1;refine⟨.ref (s.heap.objs.size+1),_,I.laid (t':=s.toks) (λ_ _=>sortedAll_old) (Nat.le_succ _) (show cG X.prog X.w _ _ _ (.lst (ns'.map V.int)) from⟨?_,out.toList,e,rv,he⟩),rfl,q _ ns' (I.hok.fresh (Nat.le_succ _)) a2 a3⟩;rw[Zq,a2.length_eq];exact Ys (by lia:ns.length<=64) (by decide)
end
end L2
namespace L2
open PySem PySem.Spec PyProof.Rows
section
variable{κ:Type}[DecidableEq κ]
def cJ(kvs:List (κ×V))(k:κ):Option V:=(kvs.find? λkv=>decide (kv.1=k)).map (·.2)
def putK(kvs:List (κ×V))(k:κ)(v:V):List (κ×V) :=
 if (kvs.any λkv=>decide (kv.1=k))=true then kvs.map (λkv=>if kv.1=k then (kv.1,v) else kv) else kvs++[(k,v)]
theorem dJ{p:κ×V}{r:List (κ×V)}{k:κ}(e:p.1=k):cJ (p::r) k=some p.2:=by simp[cJ,List.find?_cons,e]
theorem dM{p:κ×V}{r:List (κ×V)}{k:κ}(e:¬p.1=k):cJ (p::r) k=cJ r k:=by simp[cJ,List.find?_cons,e]
theorem oF(k:κ):∀kvs:List (κ×V),(kvs.any λkv=>decide (kv.1=k))=(cJ kvs k).isSome
 |[]=>rfl
 |p::r=>by
  rw[List.any_cons];by_cases e:p.1=k
  ·simp only[dJ e,decide_eq_true e,Bool.true_or,Option.isSome_some]
  ·rw[dM e,decide_eq_false e,Bool.false_or];exact oF k r
theorem AB(k j:κ)(y:V):∀kvs:List (κ×V),cJ (kvs.map λkv=>if kv.1=k then (kv.1,y) else kv) j=(cJ kvs j).map λx=>if j=k then y else x
 |[]=>rfl
 |p::r=>by
  have ih:=AB k j y r;rw[List.map_cons];by_cases h:p.1=k
  ·rw[if_pos h];by_cases e:p.1=j
   ·rw[dJ (p:=(p.1,y)) e,dJ e,Option.map_some,if_pos (e.symm.trans h)]
   ·rw[dM (p:=(p.1,y)) e,dM e,ih]
  ·rw[if_neg h];by_cases e:p.1=j
   ·rw[dJ (p:=p) e,dJ e,Option.map_some,if_neg (λz=>h (e.trans z))]
   ·rw[dM (p:=p) e,dM e,ih]
theorem wK(k j:κ)(y:V):∀kvs:List (κ×V),cJ kvs k=none->cJ (kvs++[(k,y)]) j=if j=k then some y else cJ kvs j
 |[],_=>by
  by_cases e:k=j
  ·rw[if_pos e.symm];exact dJ (p:=(k,y)) e
  ·rw[if_neg (λz=>e z.symm)];exact dM (p:=(k,y)) e
 |p::r,hn=>by
  rw[List.cons_append];have hk:¬p.1=k:=λz=>by rw[dJ z]at hn;cases hn
  rw[dM hk]at hn;have ih:=wK k j y r hn;by_cases e:p.1=j
  ·rw[dJ e,dJ e,if_neg (λz=>hk (e.trans z))]
  ·rw[dM e,dM e,ih]
theorem dB(kvs:List (κ×V))(k j:κ)(y:V):cJ (putK kvs k y) j=if j=k then some y else cJ kvs j:=by
 unfold putK;by_cases a:(kvs.any λkv=>decide (kv.1=k))=true
 ·rw[if_pos a,AB];rw[oF]at a;by_cases e:j=k
  ·obtain⟨x,hx⟩:=Option.isSome_iff_exists.mp a;rw[if_pos e,e,hx,Option.map_some,if_pos rfl]
  ·rw[if_neg e];cases cJ kvs j with
   |none=>rfl
   |some x=>rw[Option.map_some,if_neg e]
 ·rw[if_neg a];refine wK k j y kvs ?_;rw[oF]at a;cases q:cJ kvs k with
  |none=>rfl
  |some x=>rw[q]at a;exact(a rfl).elim
theorem bQ(kvs:List (κ×V))(k:κ)(v:V):(putK kvs k v).length<=kvs.length+1:=by
 unfold putK;split
 ·rw[Zq];lia
 ·rw[Zm,Yq,List.length_nil];lia
theorem qX.isSome_eq{o:Option V}{u:Option Value}(r:qX o u):o.isSome=u.isSome:=by
 cases o with
 |none=>cases u with
  |none=>rfl
  |some _=>exact(show False from r).elim
 |some _=>cases u with
  |none=>exact(show False from r).elim
  |some _=>rfl
theorem qX.getD{o:Option V}{u:Option Value}{d:V}{d':Value}(r:qX o u)(rd:RelV d d'):RelV (o.getD d) (u.getD d'):=by
 cases o with
 |none=>cases u with
  |none=>exact rd
  |some _=>exact(show False from r).elim
 |some _=>cases u with
  |none=>exact(show False from r).elim
  |some _=>exact r
theorem KV.val{kvs:List (κ×V)}{vs:List (κ×Value)}(r:KV kvs vs)(k:κ):qX (cJ kvs k) (valueAt vs k):=by
 unfold KV at r;induction r with
 |nil=>exact True.intro
 |@cons p q ps qs h t ih =>
  obtain⟨h1,h2⟩:=h;by_cases e:p.1=k
  ·have e':q.1=k:=h1.symm.trans e;have b:valueAt (q::qs) k=some q.2:=by simp[valueAt,List.find?_cons,e']
   rw[dJ e,b];exact h2
  ·have e':¬q.1=k:=λz=>e (h1.trans z);have b:valueAt (q::qs) k=valueAt qs k:=by simp[valueAt,List.find?_cons,e']
   rw[dM e,b];exact ih
theorem KV.any{kvs:List (κ×V)}{vs:List (κ×Value)}(r:KV kvs vs)(k:κ):(kvs.any λkv=>decide (kv.1=k))=vs.any λkv=>decide (kv.1=k):=by
 unfold KV at r;induction r with
 |nil=>rfl
 |cons h t ih=>rw[List.any_cons,List.any_cons,ih,h.1]
theorem KV.repl{kvs:List (κ×V)}{vs:List (κ×Value)}(r:KV kvs vs)(k:κ){y:V}{u:Value}(ry:RelV y u) :
  KV (kvs.map λkv=>if kv.1=k then (kv.1,y) else kv) (vs.map λkv=>if kv.1=k then (kv.1,u) else kv):=by
 unfold KV at r ⊢;induction r with
 |nil=>exact .nil
 |@cons p q ps qs h t ih =>
  rw[List.map_cons,List.map_cons];refine .cons ?_ ih;obtain⟨h1,h2⟩:=h;by_cases e:p.1=k
  ·rw[if_pos e,if_pos (h1.symm.trans e)];exact⟨h1,ry⟩
  ·rw[if_neg e,if_neg (λz=>e (h1.trans z))];exact⟨h1,h2⟩
theorem KV.put{kvs:List (κ×V)}{vs:List (κ×Value)}(r:KV kvs vs)(k:κ){y:V}{u:Value}(ry:RelV y u):KV (putK kvs k y) (stored vs k u):=by
 unfold putK stored;rw[r.any k];by_cases e:(vs.any λkv=>decide (kv.1=k))=true
 ·rw[if_pos e,if_pos e];exact r.repl k ry
 ·rw[if_neg e,if_neg e];exact Paired.snoc r ⟨rfl,ry⟩
theorem KV.keys{kvs:List (κ×V)}{vs:List (κ×Value)}(r:KV kvs vs):kvs.map (·.1)=vs.map (·.1):=by
 unfold KV at r;induction r with
 |nil=>rfl
 |cons h t ih=>rw[List.map_cons,List.map_cons,ih,h.1]
theorem KV.length{kvs:List (κ×V)}{vs:List (κ×Value)}(r:KV kvs vs):kvs.length=vs.length:=Paired.length r
end
theorem uG{P:Program}{w:World}{k:Key}{u:Value}(r:RelV (kV k) u):(cM P w).is k u=true:=by
 cases k with
 |inl i=>obtain⟨t,e⟩:=(show ∃t,u=Value.int i t from r);subst e;exact A6 P w i t
 |inr x=>obtain⟨t,e⟩:=(show ∃t,u=Value.str x t from r);subst e;exact A5 P w x t
theorem xM{P:Program}{w:World}:∀{ks:List Key}{us:List Value},bJ (ks.map kV) us->ItemsAre (cM P w) ks us
 |[],_,r=>by rw[List.map_nil]at r;cases r;exact .nil
 |k::ks,_,r=>by
  rw[List.map_cons]at r;cases r with
  |cons h t=>exact .cons (uG h) (xM t)
abbrev KT(H:Hp):List (List Key×V)->List (List Key×Addr×Value)->Prop:=Paired λp q=>p.1=q.1/\H q.2.1=some (.tup (p.1.map kV))/\RelV p.2 q.2.2
theorem KT.val{H:Hp}{kvs:List (List Key×V)}{xs:List (List Key×Addr×Value)}(r:KT H kvs xs)(k:List Key):qX (cJ kvs k) ((atKey xs k).map (·.2)):=by
 induction r with
 |nil=>exact True.intro
 |@cons p q ps qs h t ih =>
  obtain⟨h1,_,h2⟩:=h;by_cases e:p.1=k
  ·have e':q.1=k:=h1.symm.trans e;have b:atKey (q::qs) k=some q.2:=by simp[atKey,List.find?_cons,e']
   rw[dJ e,b];exact h2
  ·have e':¬q.1=k:=λz=>e (h1.trans z);have b:atKey (q::qs) k=atKey qs k:=by simp[atKey,List.find?_cons,e']
   rw[dM e,b];exact ih
theorem KT.repl{H:Hp}{kvs:List (List Key×V)}{xs:List (List Key×Addr×Value)}(r:KT H kvs xs)(k:List Key){y:V}{u:Value}(ry:RelV y u) :
  KT H (kvs.map λkv=>if kv.1=k then (kv.1,y) else kv) (xs.map (putAt k u)):=by
 induction r with
 |nil=>exact .nil
 |@cons p q ps qs h t ih =>
  rw[List.map_cons,List.map_cons];refine .cons ?_ ih;obtain⟨h1,h2,h3⟩:=h;unfold putAt;by_cases e:p.1=k
  ·rw[if_pos e,if_pos (h1.symm.trans e)];exact⟨h1,h2,ry⟩
  ·rw[if_neg e,if_neg (λz=>e (h1.trans z))];exact⟨h1,h2,h3⟩
theorem KT.put{H:Hp}{kvs:List (List Key×V)}{xs:List (List Key×Addr×Value)}(r:KT H kvs xs)(k:List Key){b:Addr}{y:V}{u:Value}(hb:H b=some (.tup (k.map kV)))(ry:RelV y u) :
  KT H (putK kvs k y) (storedH xs k b u):=by
 have e:(kvs.any λkv=>decide (kv.1=k))=(atKey xs k).isSome:=by
  rw[oF,(r.val k).isSome_eq,Option.isSome_map]
 unfold putK storedH;rw[e];by_cases q:(atKey xs k).isSome=true
 ·rw[if_pos q,if_pos q];exact r.repl k ry
 ·rw[if_neg q,if_neg q];exact Paired.snoc r ⟨rfl,hb,ry⟩
theorem KT.keeps{H H':Hp}{kvs:List (List Key×V)}{xs:List (List Key×Addr×Value)}(r:KT H kvs xs)(ht:∀b ys,H b=some (.tup ys)->H' b=some (.tup ys)):KT H' kvs xs :=
 Paired.mapP r λ_ _ z=>⟨z.1,ht _ _ z.2.1,z.2.2⟩
section
variable{P:Program}{w:World}{H:Hp}{h:Heap}{a:Addr}
theorem NT{u:HO}(ok:HOk P w H h)(e:Rd H a u):cG P w H h a u:=e.ok ok
theorem pH{kvs:List (Key×V)}(ok:HOk P w H h)(e:Rd H a (.dK kvs)):kvs.length<=ZW/\(a==sysModules)=false/\∃vs,KV kvs vs/\h.DictOf (cM P w) a vs :=
 show cG P w H h a (.dK kvs) from NT ok e
theorem NZ{kvs:List (Key×V)}(ok:HOk P w H h)(e:H a=some (.dK kvs)):kvs.length<=ZW/\(a==sysModules)=false/\∃vs,KV kvs vs/\h.DictOf (cM P w) a vs:=pH ok (.inl e)
theorem qQ{ks:List Key}(ok:HOk P w H h)(e:H a=some (.tup (ks.map kV))):(tupleKind (cM P w)).is h ks a:=by
 obtain⟨_,its,r,o,h1,h2,n,h3⟩:=(show cG P w H h a (.tup (ks.map kV)) from ok a _ e)
 exact⟨o,its.toArray,n,h1,h2,h3,by simpa using xM r⟩
theorem mY{kvs:List (List Key×V)}(ok:HOk P w H h)(e:Rd H a (.dT kvs)):kvs.length<=ZW/\(a==sysModules)=false /\
  ∃xs,KT H kvs xs/\h.DictOfH (tupleKind (cM P w)) a xs:=by
 obtain⟨z,y,xs,r,o,es,ep,h1,h2,h3,h4,h5⟩:=(show cG P w H h a (.dT kvs) from NT ok e)
 refine⟨z,y,xs,r,o,es,ep,h1,h2,h3,h4,λx hx=>?_,h5⟩;have all:∀{l:List (List Key×V)}{m:List (List Key×Addr×Value)},KT H l m->∀x∈m,(tupleKind (cM P w)).is h x.1 x.2.1:=by
  intro l m q;induction q with
  |nil=>intro x hx;exact nomatch hx
  |@cons p q ps qs hq t ih =>
   intro x hx;rcases Zn.mp hx with e | hx
   ·subst e;exact qQ ok (by rw[<-hq.1];exact hq.2.1)
   ·exact ih x hx
 exact all r x hx
theorem KO{kvs:List (List Key×V)}(ok:HOk P w H h)(e:H a=some (.dT kvs)):kvs.length<=ZW/\(a==sysModules)=false /\
  ∃xs,KT H kvs xs/\h.DictOfH (tupleKind (cM P w)) a xs:=mY ok (.inl e)
end
def iJ(H:Hp)(a:Addr)(y:V)(r:Option V):Prop :=
 (∃kvs k,Rd H a (.dK kvs)/\y=kV k/\r=cJ kvs k)\/∃kvs k b,Rd H a (.dT kvs)/\y=.ref b/\H b=some (.tup (k.map kV))/\r=cJ kvs k
def lW(H:Hp)(a:Addr)(y v:V)(H':Hp):Prop :=
 (∃kvs k,H a=some (.dK kvs)/\y=kV k/\kvs.length<ZW/\H'=upd H a (.dK (putK kvs k v))) \/
 ∃kvs k b,H a=some (.dT kvs)/\y=.ref b/\H b=some (.tup (k.map kV))/\kvs.length<ZW/\H'=upd H a (.dT (putK kvs k v))
theorem iJ.k{H:Hp}{a:Addr}{kvs:List (Key×V)}{k:Key}(e:H a=some (.dK kvs)):iJ H a (kV k) (cJ kvs k):=.inl ⟨kvs,k,.inl e,rfl,rfl⟩
theorem iJ.t{H:Hp}{a b:Addr}{kvs:List (List Key×V)}{k:List Key}(e:H a=some (.dT kvs))(eb:H b=some (.tup (k.map kV))):iJ H a (.ref b) (cJ kvs k):=.inr ⟨kvs,k,b,.inl e,rfl,eb,rfl⟩
theorem lW.k{H:Hp}{a:Addr}{kvs:List (Key×V)}{k:Key}{v:V}(e:H a=some (.dK kvs))(hl:kvs.length<ZW):lW H a (kV k) v (upd H a (.dK (putK kvs k v))):=.inl ⟨kvs,k,e,rfl,hl,rfl⟩
theorem lW.t{H:Hp}{a b:Addr}{kvs:List (List Key×V)}{k:List Key}{v:V}(e:H a=some (.dT kvs))(eb:H b=some (.tup (k.map kV)))(hl:kvs.length<ZW) :
  lW H a (.ref b) v (upd H a (.dT (putK kvs k v))):=.inr ⟨kvs,k,b,e,rfl,eb,hl,rfl⟩
section
variable{X:Cx}{pins:List (Addr×Obj)}{σ:St}{H:Hp}{s:Shared}{a:Addr}{y v:V}{u r:Value}{o:Option V}{A:Around}{E:Value->Shared->Prop}
theorem Inv.big(I:Inv X pins σ H s):sysModules<s.heap.objs.size:=by
 have h:ZV<s.heap.objs.size:=(I.mod.glob.keeps I.bk).lt;exact Nat.lt_trans (by decide) h
theorem GT{Q:Value->Shared->Prop}(hu:A.units+1<cLine)(I:Inv X pins σ H s)(g:iJ H a y (some v))(ry:RelV y u)(h:∀w' s',Inv X pins σ H s'->RelV v w'->Q w' s') :
  wpAny (model X.prog X.w) A (getItem (.ref a) u) Q E s:=by
 rcases g with⟨kvs,k,e,ey,l⟩ | ⟨kvs,k,b,e,ey,eb,l⟩
 ·subst ey;obtain⟨z,hd,vs,rel,dd⟩:=pH I.hok e;obtain⟨w',hw,rw'⟩:=qX.some_of (v:=v) (o:=valueAt vs k) (by rw[l];exact rel.val k);exact wpAny_getItem_of (uG ry) dd.mapOf hw (h w' _ (I.tok _) rw')
 ·subst ey;cases (show u=Value.ref b from ry);obtain⟨z,hd,xs,rel,dd⟩:=mY I.hok e;obtain⟨w',hw,rw'⟩:=qX.some_of (v:=v) (o:=(atKey xs k).map (·.2)) (by rw[l];exact rel.val k);obtain⟨p,hp,hp2⟩:=Xk.mp hw;refine wpAny_getItem_heap (tupleKind_room_in1 hu) (qQ I.hok eb) dd hp ?_;rw[hp2];exact h w' _ (I.tok _) rw'
theorem TM{Q:Value->Shared->Prop}(hu:A.units+1<cLine)(I:Inv X pins σ H s)(g:iJ H a y o)(ry:RelV y u)(h:∀s',Inv X pins σ H s'->Q (.bool o.isSome) s') :
  wpAny (model X.prog X.w) A (compareOp .In u (.ref a)) Q E s:=by
 rcases g with⟨kvs,k,e,ey,l⟩ | ⟨kvs,k,b,e,ey,eb,l⟩
 ·subst ey;obtain⟨z,hd,vs,rel,dd⟩:=pH I.hok e;refine wpAny_in_of (uG ry) hd dd.mapOf ?_;rw[<-(rel.val k).isSome_eq,<-l];exact h _ (I.tok _)
 ·subst ey;cases (show u=Value.ref b from ry);obtain⟨z,hd,xs,rel,dd⟩:=mY I.hok e;refine wpAny_in_heap (tupleKind_room_in1 hu) (qQ I.hok eb) hd dd ?_;have q:=(rel.val k).isSome_eq;rw[Option.isSome_map]at q;rw[<-q,<-l];exact h _ (I.tok _)
theorem M9{Q:Value->Shared->Prop}(hu:A.units+1<cLine)(I:Inv X pins σ H s)(g:iJ H a y o)(ry:RelV y u)(h:∀s',Inv X pins σ H s'->Q (.bool (!o.isSome)) s') :
  wpAny (model X.prog X.w) A (compareOp .NotIn u (.ref a)) Q E s:=by
 rcases g with⟨kvs,k,e,ey,l⟩ | ⟨kvs,k,b,e,ey,eb,l⟩
 ·subst ey;obtain⟨z,hd,vs,rel,dd⟩:=pH I.hok e;refine wpAny_notIn_of (uG ry) hd dd.mapOf ?_;rw[<-(rel.val k).isSome_eq,<-l];exact h _ (I.tok _)
 ·subst ey;cases (show u=Value.ref b from ry);obtain⟨z,hd,xs,rel,dd⟩:=mY I.hok e;refine wpAny_notIn_heap (tupleKind_room_in1 hu) (qQ I.hok eb) hd dd ?_;have q:=(rel.val k).isSome_eq;rw[Option.isSome_map]at q;rw[<-q,<-l];exact h _ (I.tok _)
theorem zL{h':Heap}{t':Nat}{ob:HO}(I:Inv X pins σ H s)(mu:Mut (H a))(hs:Heap.SameBut a s.heap h')(he:∃q,h'.get? a=some q)(new:cG X.prog X.w (upd H a ob) h' a ob) :
  Inv X pins σ (upd H a ob) { s with heap:=h',toks:=t' } :=
 I.write (x:=a) (e:=a) mu (.inl rfl) (λb q hb z=>(hs.2 b hb).trans z) he new
theorem KQ{P:Program}{w:World}{H':Hp}{h':Heap}{kvs:List (Key×V)}{vs:List (Key×Value)}(z:kvs.length<=ZW)(hd:(a==sysModules)=false)(rel:KV kvs vs)(dd:h'.DictOf (cM P w) a vs) :
  cG P w H' h' a (.dK kvs):=⟨z,hd,vs,rel,dd⟩
theorem GS{H':Hp}{Q:Unit->Shared->Prop}(hu:A.units+1<cLine)(I:Inv X pins σ H s)(g:lW H a y v H')(ry:RelV y u)(rv:RelV v r)(h:∀s',Inv X pins σ H' s'->Q () s') :
  wpAny (model X.prog X.w) A (setItem (.ref a) u r) Q E s:=by
 rcases g with⟨kvs,k,e,ey,l,eH⟩ | ⟨kvs,k,b,e,ey,eb,l,eH⟩
 ·subst ey eH;obtain⟨z,hd,vs,rel,dd⟩:=NZ I.hok e;have hz:vs.length<=ZW:=by rw[<-rel.length];exact z
  have hl:(putK kvs k v).length<=ZW:=by have:=bQ kvs k v;lia
  refine wpAny_setItem_pairs (hsz:=hz) (uG ry) dd λh' dd' hs=>h _ ?_;have he:∃q,h'.get? a=some q:=let⟨q,_,_,hq,_⟩:=dd';⟨q,hq⟩;exact zL I (by rw[e];exact True.intro) hs he (KQ hl hd (rel.put k rv) dd')
 ·subst ey eH;cases (show u=Value.ref b from ry);obtain⟨z,hd,xs,rel,dd⟩:=KO I.hok e;have hz:xs.length<=ZW:=by rw[<-Paired.length rel];exact z
  have hl:(putK kvs k v).length<=ZW:=by have:=bQ kvs k v;lia
  refine wpAny_setItem_heap (hsz:=hz) (tupleKind_room_in1 hu) (qQ I.hok eb) dd λh' dd' hs=>h _ ?_;obtain⟨q,es,ep,hq,h2,h3,h4,_,h5⟩:=dd';refine zL I (by rw[e];exact True.intro) hs ⟨q,hq⟩ ⟨hl,hd,_,(rel.put k eb rv).keeps λc ys ec=>?_,q,es,ep,hq,h2,h3,h4,h5⟩;rw[aH (lN ec e (λz=>nomatch z))];exact ec
end
section
variable{X:Cx}{pins:List (Addr×Obj)}{σ:St}{H:Hp}{s:Shared}{a:Addr}{kvs:List (Key×V)}{k:Key}{u:Value}{A:Around}{E:Value->Shared->Prop}
theorem R0{Q:Value->Shared->Prop}(I:Inv X pins σ H s)(e:Rd H a (.dK kvs))(h:∀t s',Inv X pins σ H s'->Q (.int kvs.length t) s'):wpAny (model X.prog X.w) A (call (.builtin "len") [.ref a]) Q E s:=by
 obtain⟨z,hd,vs,rel,dd⟩:=pH I.hok e;refine call_len_dict hd dd (by rw[<-rel.length];rw[sizeLine_eq]at z;lia) ?_;rw[<-rel.length];exact h _ _ (I.tok _)
end
def R8(i:Expr):Prop:=∀ov iv,subscripted i false ov iv=operate [ov,iv] (getItem ov iv)
theorem LO{prog:Program}{w:World}{A:Around}{E:Value->Shared->Prop}{s:Shared}{env:Env}{value slice:Expr}{pos:Pos}{T id:String}{Q:Value->Shared->Prop}
  (hl:typeLookup (.type T) "__getitem__" = pure (some (.builtin id))) (hs:R8 slice)
  (h:wpAny (model prog w) A (eval value env) (λo s₁=>wpAny (model prog w) A (eval slice env) (λi s₂=>s₂.TypeIs o T/\wpAny (model prog w) A (getItem o i) Q E s₂) E s₁) E s) :
  wpAny (model prog w) A (eval (.Subscript value slice pos) env) Q E s:=by
 refine Subscript_ (ZX h (λo s₁ h₁=>ZX h₁ (λi s₂ h₂=>?_) λ_ _ x=>x) λ_ _ x=>x);obtain⟨hT,h₂⟩:=h₂;unfold subscriptTail;refine ZZ ?_;rw[getitemInPython_of_ne hT.not_modules];refine ZZ (wpAny_specialOf hT hl ?_);have fin:wpAny (model prog w) A (subscripted slice false o i) (λr s₃=>wpAny (model prog w) A (letTemporaryGo value o r >>= λ_=>pure r) Q E s₃) E s₂:=by
  rw[hs o i];exact wpAny_operating (ZX h₂ (λr s₃ h₃=>ZZ (wpAny_letTemporaryGo (ZY h₃))) λ_ _ x=>x)
 first
  |exact ZY (ZZ fin)
  |exact ZZ (ZY (ZZ fin))
  |exact ZZ fin
theorem BW{X:Cx}{pins:List (Addr×Obj)}{σ:St}{H:Hp}{s:Shared}{a:Addr}{y:V}{o:Option V}(I:Inv X pins σ H s)(g:iJ H a y o):s.TypeIs (.ref a) "dict":=by
 rcases g with⟨kvs,k,e,_,_⟩ | ⟨kvs,k,b,e,_,_,_⟩
 ·obtain⟨_,_,vs,_,dd⟩:=pH I.hok e;exact dd.typeIs
 ·obtain⟨_,_,xs,_,dd⟩:=mY I.hok e;exact dd.typeIs
def Q2(td ty:TE):TE:=λσ H Q=>td σ H λx H1=>ty σ H1 λy H2=>∃a v,x=.ref a/\iJ H2 a y (some v)/\Q v H2
def SK(ty td:TE):TE:=λσ H Q=>ty σ H λy H1=>td σ H1 λx H2=>∃a o,x=.ref a/\iJ H2 a y o/\Q (.bl o.isSome) H2
def LM(ty td:TE):TE:=λσ H Q=>ty σ H λy H1=>td σ H1 λx H2=>∃a o,x=.ref a/\iJ H2 a y o/\Q (.bl (!o.isSome)) H2
def RE(td ty tv:TE):TS:=λD σ H=>tv σ H λv H1=>td σ H1 λx H2=>ty σ H2 λy H3=>∃a H4,x=.ref a/\lW H3 a y v H4/\D.nx σ H4
section
variable{X:Cx}{o i e value:Expr}{pos pos' tpos:Pos}{td ty tv:TE}
theorem oT(hu:X.A.units+1<cLine)(ho:PE X o td)(hi:PE X i ty)(hs:R8 i):PE X (.Subscript o i pos) (Q2 td ty):=by
 intro pins s σ H Q I h;refine LO PySem.F.slot_dict_getitem.lookup hs (thn (ho pins s σ H _ I h) λu s1 ⟨x,H1,I1,rx,q1⟩=>thn (hi pins s1 σ H1 _ I1 q1) λiv s2 ⟨y,H2,I2,ry,a,v,ex,g,q2⟩=>?_);subst ex;obtain rfl:u=Value.ref a:=rx;exact⟨BW I2 g,GT hu I2 g ry λw' s3 I3 rw'=>⟨v,H2,I3,rw',q2⟩⟩
theorem C3(hu:X.A.units+1<cLine)(hi:PE X i ty)(ho:PE X o td):PC X .In i o (SK ty td):=by
 intro pins s σ H Q I h;refine thn (hi pins s σ H _ I h) λiv s1 ⟨y,H1,I1,ry,q1⟩=>thn (ho pins s1 σ H1 _ I1 q1) λu s2 ⟨x,H2,I2,rx,a,ov,ex,g,q2⟩=>?_;subst ex;obtain rfl:u=Value.ref a:=rx;exact TM hu I2 g ry λs3 I3=>⟨.bl ov.isSome,H2,I3,rfl,q2⟩
theorem F7(hu:X.A.units+1<cLine)(hi:PE X i ty)(ho:PE X o td):PC X .NotIn i o (LM ty td):=by
 intro pins s σ H Q I h;refine thn (hi pins s σ H _ I h) λiv s1 ⟨y,H1,I1,ry,q1⟩=>thn (ho pins s1 σ H1 _ I1 q1) λu s2 ⟨x,H2,I2,rx,a,ov,ex,g,q2⟩=>?_;subst ex;obtain rfl:u=Value.ref a:=rx;exact M9 hu I2 g ry λs3 I3=>⟨.bl (!ov.isSome),H2,I3,rfl,q2⟩
theorem kB(hu:X.A.units+1<cLine)(ho:PE X o td)(hi:PE X i ty)(hv:PE X value tv)(hs:swapsWith value (some (.Subscript o i pos')) pos.line X.env=pure false) :
  PS X (.Assign [.Subscript o i pos'] value pos) (RE td ty tv):=by
 intro pins s σ H D I h;refine wpAny_Assign_Subscript (thn (hv pins s σ H _ I h) λr s1 ⟨v,H1,I1,rv,q1⟩=>thn (ho pins s1 σ H1 _ I1 q1) λu s2 ⟨x,H2,I2,rx,q2⟩=>thn (hi pins s2 σ H2 _ I2 q2) λiv s3 ⟨y,H3,I3,ry,a,H4,ex,g,q3⟩=>?_) hs;subst ex;obtain rfl:u=Value.ref a:=rx;exact GS hu I3 g ry rv λs4 I4=>⟨σ,H4,I4,q3⟩
end
theorem KR{P:Program}{w:World}{H:Hp}(h:Heap)(hb:sysModules<h.objs.size):cG P w H (h.push { cls:=.type "dict",data:=.dict #[] }) h.objs.size (.dK []) :=
 ⟨Nat.zero_le _,beq_eq_false_iff_ne.mpr (Ne.symm (Nat.ne_of_lt hb)),[],.nil,Heap.DictOf.new h⟩
theorem KP{P:Program}{w:World}{H:Hp}(h:Heap)(hb:sysModules<h.objs.size):cG P w H (h.push { cls:=.type "dict",data:=.dict #[] }) h.objs.size (.dT []) :=
 ⟨Nat.zero_le _,beq_eq_false_iff_ne.mpr (Ne.symm (Nat.ne_of_lt hb)),[],.nil,_,#[],0,Heap.get?_push_size _ rfl,⟨rfl,rfl,rfl⟩,rfl,rfl,List.nodup_nil⟩
def OJ:TE:=λ_ H Q=>∀p,H p=none->Q (.ref p) (upd H p (.dT []))
section
variable{X:Cx}{pos:Pos}
theorem oS:PE X (.Dict [] [] pos) OJ:=λpins s σ H Q I h =>
 wpAny_Dict_empty ⟨.ref s.heap.objs.size,_,I.laid (a:=s.heap.objs.size) (o:=.dT []) (t':=s.toks) (λ_ _ q=>Heap.get?_push_of_some _ q) (Nat.le_refl _) (KP s.heap I.big),rfl,h _ (I.hok.fresh (Nat.le_refl _))⟩
end
end L2
namespace L2
open PySem PySem.Spec PyProof.Rows
theorem qK(its:List Value):∀k,k<=its.length->((List.range k).map λj:Nat=>(((its.length:Int)-1)+-1*(j:Int)).toNat).filterMap (its.toArray[·]?)=its.reverse.take k
 |0,_=>by simp
 |k+1,h=>by
  have e:(((its.length:Int)-1)+-1*(k:Int)).toNat=its.length-1-k:=by lia
  have hk:its.length-1-k<its.length:=by omega
  rw[List.range_succ,Zt,List.filterMap_append,qK its k (by lia),List.take_add_one,List.getElem?_reverse (by lia)];congr 1;simp only[List.map_cons,List.map_nil,e];rw[Zz hk];simp[hk]
theorem wA(its:List Value):slicePick its.toArray none none (some (-1))=its.reverse.toArray:=by
 have hb:sliceBounds none none (some (-1)) its.toArray.size=((its.length:Int)-1,-1,-1):=by
  simp only[sliceBounds,Option.getD_some,List.size_toArray,show ¬((-1:Int)>0) by decide,if_false]
 have hs:sliceRange ((its.length:Int)-1) (-1) (-1)=(List.range its.length).map λj:Nat=>(((its.length:Int)-1)+-1*(j:Int)).toNat:=by
  unfold sliceRange;simp only[show ¬((-1:Int)>0) by decide,if_false];have e:(if (its.length:Int)-1 > -1 then ((its.length:Int)-1 - -1 - -1-1) / - -1 else 0)=(its.length:Int):=by
   split
   ·have:((its.length:Int)-1 - -1 - -1-1)=(its.length:Int):=by lia
    rw[this,show(- -1:Int)=1 by decide,Int.ediv_one]
   ·lia
  rw[e,Int.toNat_natCast]
 unfold slicePick;rw[hb];show((sliceRange ((its.length:Int)-1) (-1) (-1)).filterMap (its.toArray[·]?)).toArray=_;rw[hs,qK its _ (Nat.le_refl _),List.take_of_length_le (by simp)]
theorem tD(its:List Value):slicePick its.toArray none (some 0) (some (-1))=(its.drop 1).reverse.toArray:=by
 have hb:sliceBounds none (some 0) (some (-1)) its.toArray.size=((its.length:Int)-1,max (-1) (min 0 ((its.length:Int)-1)),-1):=by
  simp only[sliceBounds,Option.getD_some,List.size_toArray,show ¬((-1:Int)>0) by decide,if_false,show ¬((0:Int)<0) by decide]
 have hs:sliceRange ((its.length:Int)-1) (max (-1) (min 0 ((its.length:Int)-1))) (-1)=(List.range (its.length-1)).map λj:Nat=>(((its.length:Int)-1)+-1*(j:Int)).toNat:=by
  unfold sliceRange;simp only[show ¬((-1:Int)>0) by decide,if_false];have e:(if (its.length:Int)-1>max (-1) (min 0 ((its.length:Int)-1)) then ((its.length:Int)-1-max (-1) (min 0 ((its.length:Int)-1)) - -1-1) / - -1 else 0)=((its.length-1:Nat):Int):=by
   rw[show(- -1:Int)=1 by decide];split
   ·rw[Int.ediv_one];lia
   ·omega
  rw[e,Int.toNat_natCast]
 unfold slicePick;rw[hb];show((sliceRange ((its.length:Int)-1) (max (-1) (min 0 ((its.length:Int)-1))) (-1)).filterMap (its.toArray[·]?)).toArray=_;rw[hs,qK its _ (by omega),List.reverse_drop]
section
variable{X:Cx}{e ste:Expr}{te:TE}{lo hi:Option Expr}{tl th tk:TO}{pos p2:Pos}
def SU(K:PySem.W.Frag):V->Option Int->Option Int->Option Int->Hp->VK->Prop:=λx lo hi st H Q=>∃a xs k,x=.ref a/\SqL K H a xs/\lo=none/\st=some (-1)/\((hi=none/\k=0)\/(hi=some 0/\k=1))/\∀p,H p=none->Q (.ref p) (upd H p (.lst (xs.drop k).reverse))
def SE(K:PySem.W.Frag)(te:TE)(tl th tk:TO):TE:=λσ H Q=>te σ H λx H1=>tl σ H1 λl H2=>th σ H2 λu H3=>tk σ H3 λk H4=>SU K x l u k H4 Q
theorem F6(he:PE X e te)(hl:PO X lo tl)(hu:PO X hi th)(hk:PO X (some ste) tk):PE X (.Subscript e (.Slice lo hi (some ste) p2) pos) (SE X.K te tl th tk):=by
 intro pins s σ H Q I h;refine Subscript_ (thn (he pins s σ H _ I h) λv s1 ⟨x,H1,I1,r1,q1⟩=>?_);refine wpAny_Slice (thn (hl pins s1 σ H1 _ I1 q1) λvl s2 ⟨l,H2,I2,pl,q2⟩=>thn (hu pins s2 σ H2 _ I2 q2) λvu s3 ⟨u,H3,I3,pu,q3⟩=>thn (hk pins s3 σ H3 _ I3 q3) λvk s4 ⟨k,H4,I4,pk,q4⟩=>?_);have I5:Inv X pins σ H4 { s4 with heap:=s4.heap.push { cls:=.type "slice",data:=.fields #[vl,vu,vk] } }:=I4.kept (t':=s4.toks) λb ob q=>Heap.get?_push_of_some _ q;obtain⟨a,xs,n,rfl,hx,rfl,rfl,hh,q⟩:=q4;cases r1;obtain⟨its,r,ht,hz⟩:=I5.list hx;have hlen:=r.length;show wpAny (model X.prog X.w) X.A (subscriptTail e (.Slice lo hi (some ste) p2) (.ref a) (.ref s4.heap.objs.size)) (EP X pins σ Q) X.xe { s4 with heap:=s4.heap.push { cls:=.type "slice",data:=.fields #[vl,vu,vk] } };refine tail_any (ops:=[.ref a,.ref s4.heap.objs.size]) ht.isList.typeIs slot_list_getitem.lookup (wpAny_getItem_list_slice ht.isList (Heap.IsSliceOf.new ..) pl pu pk (by simp) ?_ (by rw[List.size_toArray]<;>lia)) (by with_unfolding_all rfl);have eq:slicePick its.toArray none u (some (-1))=((its.drop n).reverse).toArray:=by
  rcases hh with⟨rfl,rfl⟩ | ⟨rfl,rfl⟩
  ·rw[wA,List.drop_zero]
  ·exact tD its
 rw[eq];refine⟨.ref _,_,I5.laid (o:=.lst (xs.drop n).reverse) (λb ob q=>Heap.get?_push_of_some _ q) (Nat.le_refl _) ?_,rfl,q _ (I5.hok.fresh (Nat.le_refl _))⟩;exact⟨by rw[Yr,Yf];omega,_,0,(r.drop n).reverse,Heap.get?_push_size _ rfl⟩
end
theorem sJ{α:Type}(d:List Nat)(F:Nat->α):(List.range d.length).map (λi=>F (d.getD i 0))=d.map F:=by
 apply Yp;intro i;by_cases h:i<d.length
 ·rw[Zk,Zk,Yv h,Zz h];simp[List.getD,h]
 ·rw[Zr (by simp;lia),Zr (by simp;lia)]
end L2
namespace L2
open PySem PyProof.Rows
theorem pW{l:List Nat}{i:Nat}{x:V}(h:(vns l)[i]?=some x):i<l.length/\x=vn (l.getD i 0):=by
 rw[Zk]at h;obtain⟨y,h1,h2⟩:=Xk.mp h;obtain⟨hi,rfl⟩:=Zj.mp h1;exact⟨hi,by rw[<-h2];simp[List.getD,hi]⟩
end L2
namespace PySem
set_option maxRecDepth 100000
namespace F
end F
section
variable{prog:Program}{w:World}{A:Around}{E:Value->Shared->Prop}{s:Shared}
end
section
variable{prog:Program}{w:World}{A:Around}{s:Shared}
end
section
variable{prog:Program}{w:World}{A:Around}{E:Value->Shared->Prop}{s:Shared}
end
end PySem
namespace L2
open PySem PySem.Spec PyProof.Rows
section
variable{X:Cx}{e:Expr}{te:TE}{p p2 pos pos2:Pos}
end
end L2
namespace L2
open PySem PySem.Spec PyProof.Rows
section
variable{X:Cx}{K:PySem.W.Frag}{e ste:Expr}{te:TE}{lo hi:Option Expr}{tl th tk:TO}{p p2 pos pos2:Pos}
end
end L2
namespace SO
open PySem PyProof PyProof.Rows
structure Kept(k:SortKind)(z:Array Keyed)(t:SortSt):Prop where
 kd:kindOf t=k
 pm:(arrOf t).Perm z
 nf:failedOf t=none
 np:pendingOf t=#[]
def rk(ρ:Keyed->Int)(xs:Array Keyed)(i:Nat):Int:=(xs[i]?.map ρ).getD 0
def Up(ρ:Keyed->Int)(xs:Array Keyed)(m:Nat):Prop:=∀i j,i<=j->j<m->rk ρ xs i<=rk ρ xs j
def Dn(ρ:Keyed->Int)(xs:Array Keyed)(m:Nat):Prop:=∀i j,i<=j->j<m->rk ρ xs j<=rk ρ xs i
theorem AO{ρ:Keyed->Int}{xs ys:Array Keyed}{i j:Nat}(e:xs[i]?=ys[j]?):rk ρ xs i=rk ρ ys j:=by
 simp only[rk,e]
theorem wZ{ρ:Keyed->Int}{xs:Array Keyed}{a d:Nat}(ha:a<xs.size)(hd:d<=a)(i:Nat) :
  rk ρ (bubble xs a d) i=if i=a-d then rk ρ xs a else if a-d<i/\i<=a then rk ρ xs (i-1) else rk ρ xs i:=by
 have e:=getElem?_bubble ha d hd i;split
 ·next q=>rw[if_pos q]at e;exact AO e
 ·next q =>
  rw[if_neg q]at e;split
  ·next q2=>rw[if_pos q2]at e;exact AO e
  ·next q2=>rw[if_neg q2]at e;exact AO e
theorem qI{ρ:Keyed->Int}{xs:Array Keyed}{a b:Nat}(hb:b<=xs.size)(i:Nat) :
  rk ρ (mirror xs a b ((b-a) / 2)) i=if a<=i/\i<b then rk ρ xs (a+b-1-i) else rk ρ xs i:=by
 have e:=getElem?_mirror_all (i:=a) hb i;split
 ·next q=>rw[if_pos q]at e;exact AO e
 ·next q=>rw[if_neg q]at e;exact AO e
theorem tS{ρ:Keyed->Int}{xs:Array Keyed}{a b:Nat}(hb:b<=xs.size)
  (h:∀i,a<=i->i<b->rk ρ xs i=rk ρ xs (b-1)) (i:Nat):rk ρ (mirror xs a b ((b-a) / 2)) i=rk ρ xs i:=by
 rw[qI hb];by_cases q:a<=i/\i<b
 ·rw[if_pos q];have h1:=h (a+b-1-i) (by omega) (by omega);have h2:=h i q.1 q.2
  lia
 ·rw[if_neg q]
def Tells(M:Model)(A:Around)(E:Value->Shared->Prop)(s:Shared)(k:SortKind)(z:Array Keyed)(ρ:Keyed->Int):Prop :=
 ∀(p q:Keyed) (t:SortSt) (Q:Option Bool->SortSt->Prop),p∈z.toList->q∈z.toList->kindOf t=k ->
  Q (some (decide (ρ p<ρ q))) t->wpS M A E s (lt' p q) Q t
section
variable{M:Model}{A:Around}{E:Value->Shared->Prop}{s:Shared}{k:SortKind}{z:Array Keyed}{ρ:Keyed->Int}
theorem Kept.len{t:SortSt}(h:Kept k z t):(arrOf t).size=z.size:=h.pm.size_eq
theorem Kept.put{t:SortSt}(h:Kept k z t){xs:Array Keyed}(q:xs.Perm (arrOf t)):Kept k z (setArr t xs) :=
 ⟨h.kd,q.trans h.pm,h.nf,h.np⟩
theorem Kept.nth{t:SortSt}(h:Kept k z t){i:Nat}(hi:i<z.size) :
  ∃p,(arrOf t)[i]?=some p/\p∈z.toList/\rk ρ (arrOf t) i=ρ p:=by
 have hi':i<(arrOf t).size:=by rw[h.len];exact hi
 have e:(arrOf t)[i]?=some (arrOf t)[i]:=getElem?_pos _ i hi';refine⟨_,e,(Array.perm_iff_toList_perm.mp h.pm).mem_iff.mp (by simp),?_⟩;simp[rk,e]
theorem less(T:Tells M A E s k z ρ){t:SortSt}(h:Kept k z t){i j:Nat}(hi:i<z.size)(hj:j<z.size){Q:Option Bool->SortSt->Prop}
  (q:Q (some (decide (rk ρ (arrOf t) i<rk ρ (arrOf t) j))) t):wpS M A E s (ltAt' i j) Q t:=by
 obtain⟨a,ea,ma,ra⟩:=h.nth (ρ:=ρ) hi;obtain⟨b,eb,mb,rb⟩:=h.nth (ρ:=ρ) hj;rw[ra,rb]at q;rw[ltAt'_eq];refine wpS_bind (wpS_get ?_);have e1:elem' (arrOf t) i=pure a:=by rw[elem'_eq,ea]
 have e2:elem' (arrOf t) j=pure b:=by rw[elem'_eq,eb]
 show wpS M A E s (elem' (arrOf t) i >>= λu=>elem' (arrOf t) j >>= λv=>lt' u v) Q t;rw[e1,e2];exact wpS_bind (wpS_pure (wpS_bind (wpS_pure (T a b t Q ma mb h.kd q))))
def Slot(ρ:Keyed->Int)(xs:Array Keyed)(m l r:Nat):Prop :=
 l<=r/\r<=m/\(∀i,i<l->rk ρ xs i<=rk ρ xs m)/\(∀i,r<=i->i<m->rk ρ xs m<rk ρ xs i)
theorem Up.slotted{xs:Array Keyed}{m l:Nat}(hm:m<xs.size)(hu:Up ρ xs m)(h:Slot ρ xs m l l):Up ρ (bubble xs m (m-l)) (m+1):=by
 obtain⟨_,h2,h3,h4⟩:=h;intro i j hij hj;have el:m-(m-l)=l:=by lia
 rw[wZ hm (by lia),wZ hm (by lia),el];by_cases c1:i<l
 ·rw[if_neg (by lia),if_neg (by lia)];by_cases c2:j=l
  ·rw[if_pos c2];exact h3 i c1
  ·rw[if_neg c2];by_cases c3:l<j/\j<=m
   ·rw[if_pos c3];exact hu _ _ (by lia) (by omega)
   ·rw[if_neg c3];exact hu _ _ hij (by lia)
 ·by_cases c2:j=l
  ·have:i=l:=by lia
   rw[if_pos c2,if_pos this];exact Int.le_refl _
  ·rw[if_neg c2,if_pos (show l<j/\j<=m by lia)];by_cases c3:i=l
   ·rw[if_pos c3];exact Int.le_of_lt (h4 _ (by lia) (by lia))
   ·rw[if_neg c3,if_pos (by lia)];exact hu _ _ (by omega) (by lia)
theorem J4(T:Tells M A E s k z ρ){t:SortSt}{n d:Nat}(hn:n<=z.size)(hd:d<=n)(hK:Kept k z t)(hu:Up ρ (arrOf t) d)
  {Q:Bool->SortSt->Prop}(q:∀t',Kept k z t'->Up ρ (arrOf t') n->Q true t'):wpS M A E s (binarySort' 0 n d) Q t:=by
 rw[binarySort'_eq];simp only[Nat.zero_add];refine wpS_bind (wpS_mono (wpS_forRange (Q:=λc t'=>c=(none,())/\Kept k z t'/\Up ρ (arrOf t') n)
  (λm c t'=>c=(none,())/\Kept k z t'/\Up ρ (arrOf t') (min m n)) ?_ ?_ ?_) λc t' h=>by obtain⟨rfl,a,b⟩:=h;exact wpS_pure (q t' a b))
 ·rintro m c t' h1 h2 ⟨rfl,hK',hu'⟩;rw[Nat.min_eq_left (by lia)]at hu';have hm:m<z.size:=by lia
  have hm':m<(arrOf t').size:=by rw[hK'.len];exact hm
  refine wpS_bind (wpS_mono (wpS_forRange (Q:=λc t2=>t2=t'/\∃l,c=(none,l,l)/\Slot ρ (arrOf t') m l l)
   (λx c t2=>t2=t'/\∃l r,c=(none,l,r)/\r-l<=m-x/\Slot ρ (arrOf t') m l r) ?_ ?_ ?_) ?_)
  ·rintro x c t2 _ hx ⟨rfl,l,r,rfl,hs,hS⟩;dsimp only;obtain⟨s1,s2,s3,s4⟩:=hS;by_cases hlr:l>=r
   ·rw[if_pos hlr];exact wpS_pure ⟨rfl,l,by rw[show r=l by lia],Nat.le_refl _,by lia,s3,λi a b=>s4 i (by lia) b⟩
   ·rw[if_neg hlr];refine wpS_bind (less T hK' hm (show(l+r) / 2<z.size by lia) ?_);by_cases hc:rk ρ (arrOf t2) m<rk ρ (arrOf t2) ((l+r) / 2)
    ·rw[decide_eq_true hc];simp only[if_true];refine wpS_pure ⟨rfl,l,(l+r) / 2,rfl,by omega,by lia,by lia,s3,λi a b=>?_⟩;exact Int.lt_of_lt_of_le hc (hu' _ _ a b)
    ·rw[decide_eq_false hc];simp only[Bool.false_eq_true,if_false];refine wpS_pure ⟨rfl,(l+r) / 2+1,r,rfl,by omega,by lia,by lia,λi a=>?_,s4⟩;have:=hu' i ((l+r) / 2) (by lia) (by lia)
     lia
  ·rintro c t2 ⟨rfl,l,r,rfl,hs,hS⟩;have e:r=l:=by have:=hS.1;lia
   subst e;exact⟨rfl,_,rfl,hS⟩
  ·exact⟨rfl,0,m,rfl,by lia,by lia,by lia,λi a=>by lia,λi a b=>by lia⟩
  ·rintro c t2 ⟨rfl,l,rfl,hS⟩;dsimp only;rw[moveDown'_eq];refine wpS_bind (wpS_modify (wpS_pure ⟨rfl,hK'.put (bubble_perm _ _ _),?_⟩));rw[Nat.min_eq_left (by lia)];exact hu'.slotted hm' hS
 ·rintro c t' ⟨e,hK',hu'⟩;refine⟨e,hK',?_⟩
  rwa [show min (max (max d 1) n) n=n by lia]at hu'
 ·refine⟨rfl,hK,λi j hij hj=>?_⟩;by_cases hd0:d=0
  ·rw[show i=j by lia];exact Int.le_refl _
  ·exact hu i j hij (by lia)
end
end SO
namespace SO
open PySem PyProof PyProof.Rows
section
variable{prog:Program}{w:World}{A:Around}{E:Value->Shared->Prop}{s:Shared}{k:SortKind}{z:Array Keyed}{ρ:Keyed->Int}
theorem Up.one(xs:Array Keyed){m:Nat}(h:m<=1):Up ρ xs m:=λi j a b=>by
 rw[show i=j by lia];exact Int.le_refl _
theorem Up.more{xs:Array Keyed}{m:Nat}(hu:Up ρ xs m)(h:¬rk ρ xs m<rk ρ xs (m-1)):Up ρ xs (m+1):=by
 intro i j a b;by_cases c:j<m
 ·exact hu i j a c
 ·rw[show j=m by lia];by_cases c2:i=m
  ·rw[c2];exact Int.le_refl _
  ·have:=hu i (m-1) (by lia) (by lia);lia
theorem Dn.more{xs:Array Keyed}{m:Nat}(hu:Dn ρ xs m)(h:rk ρ xs m<=rk ρ xs (m-1)):Dn ρ xs (m+1):=by
 intro i j a b;by_cases c:j<m
 ·exact hu i j a c
 ·rw[show j=m by lia];by_cases c2:i=m
  ·rw[c2];exact Int.le_refl _
  ·have:=hu i (m-1) (by lia) (by lia);lia
theorem Dn.same{xs ys:Array Keyed}{m:Nat}(hu:Dn ρ xs m)(h:∀i,rk ρ ys i=rk ρ xs i):Dn ρ ys m:=λi j a b=>by
 rw[h,h];exact hu i j a b
theorem Dn.turned{xs:Array Keyed}{m:Nat}(hm:m<=xs.size)(hu:Dn ρ xs m):Up ρ (mirror xs 0 m ((m-0) / 2)) m:=λi j a b=>by
 rw[qI hm,qI hm,if_pos (by lia),if_pos (by lia)];exact hu _ _ (by omega) (by omega)
theorem rising(T:Tells (model prog w) A E s k z ρ){t:SortSt}{a n:Nat}(hn:n<=z.size)(h1:1<=a)(h2:a<=n)(hK:Kept k z t)(hu:Up ρ (arrOf t) a)
  {Q:AscSt->SortSt->Prop}
  (q:∀m,a<=m->m<=n->Up ρ (arrOf t) m->(m=n\/rk ρ (arrOf t) m<rk ρ (arrOf t) (m-1))->Q (none,m) t) :
  wpS (model prog w) A E s (ascLoop a n) Q t:=by
 unfold ascLoop;refine wpS_forRange (λx c t'=>c=(none,x)/\t'=t/\Up ρ (arrOf t) x) ?_ ?_ ⟨rfl,rfl,hu⟩
 ·rintro x c t' g1 g2 ⟨rfl,rfl,hx⟩;dsimp only;refine wpS_bind (less T hK (show x<z.size by lia) (show x-1<z.size by lia) ?_);by_cases c:rk ρ (arrOf t') x<rk ρ (arrOf t') (x-1)
  ·rw[decide_eq_true c];simp only[if_true];exact wpS_pure (q x g1 (by lia) hx (Or.inr c))
  ·rw[decide_eq_false c];simp only[Bool.false_eq_true,if_false];exact wpS_pure ⟨rfl,rfl,hx.more c⟩
 ·rintro c t' ⟨rfl,rfl,hx⟩;have e:max a n=n:=by lia
  rw[e]at hx ⊢;exact q n h2 (Nat.le_refl _) hx (Or.inl rfl)
def Flat(ρ:Keyed->Int)(xs:Array Keyed)(m e:Nat):Prop:=e+1<=m/\∀i,m-(e+1)<=i->i<m->rk ρ xs i=rk ρ xs (m-1)
theorem Flat.nought(xs:Array Keyed){m:Nat}(h:1<=m):Flat ρ xs m 0:=⟨h,λi a b=>by rw[show i=m-1 by lia]⟩
theorem Flat.more{xs:Array Keyed}{m e:Nat}(h:Flat ρ xs m e)(g:rk ρ xs m=rk ρ xs (m-1)):Flat ρ xs (m+1) (e+1) :=
 ⟨by have:=h.1;lia,λi a b=>by
  rw[show m+1-1=m by lia];by_cases c:i=m
  ·rw[c]
  ·rw[g];exact h.2 i (by lia) (by lia)⟩
theorem back(T:Tells (model prog w) A E s k z ρ){t:SortSt}{m n:Nat}(hn:n<=z.size)(h1:1<=m)(h2:m<=n)(hK:Kept k z t)(hd:Dn ρ (arrOf t) m)
  {Q:Option Nat->SortSt->Prop}(q:∀m' t',1<=m'->m'<=n->Kept k z t'->Up ρ (arrOf t') m'->Q (some m') t') :
  wpS (model prog w) A E s (tail3 m n) Q t:=by
 unfold tail3;have hs:m<=(arrOf t).size:=by rw[hK.len];lia
 refine wpS_bind (wpS_reverse ?_);have hK':=hK.put (mirror_perm (arrOf t) 0 m ((m-0) / 2));refine wpS_bind (rising T hn h1 h2 hK' (hd.turned hs) λm' g1 g2 g3 _=>?_);exact wpS_pure (q m' _ (by lia) g2 hK' g3)
theorem M6(T:Tells (model prog w) A E s k z ρ){t:SortSt}{m n:Nat}(hn:n<=z.size)(h1:1<=m)(h2:m<=n)(hK:Kept k z t)(hd:Dn ρ (arrOf t) m)
  {Q:DescSt->SortSt->Prop}
  (q:∀m' e t',1<=m'->m'<=n->Kept k z t'->Dn ρ (arrOf t') m'->Flat ρ (arrOf t') m' e->Q (none,m',e) t') :
  wpS (model prog w) A E s (descLoop m n) Q t:=by
 unfold descLoop;refine wpS_forRange (λx c t'=>∃e,c=(none,x,e)/\Kept k z t'/\Dn ρ (arrOf t') x/\Flat ρ (arrOf t') x e) ?_ ?_ ⟨0,rfl,hK,hd,Flat.nought _ h1⟩
 ·rintro x c t' g1 g2 ⟨e,rfl,hK',hx,hF⟩;dsimp only;have hs:x<=(arrOf t').size:=by rw[hK'.len];lia
  refine wpS_bind (less T hK' (show x<z.size by lia) (show x-1<z.size by lia) ?_);by_cases c:rk ρ (arrOf t') x<rk ρ (arrOf t') (x-1)
  ·rw[decide_eq_true c];simp only[if_true];have hm:=hx.more (Int.le_of_lt c);by_cases c2:e>0
   ·rw[if_pos c2];refine wpS_bind (wpS_reverse (wpS_pure ⟨0,rfl,hK'.put (mirror_perm _ _ _ _),hm.same (tS hs hF.2),Flat.nought _ (by lia)⟩))
   ·rw[if_neg c2];exact wpS_pure ⟨0,rfl,hK',hm,Flat.nought _ (by lia)⟩
  ·rw[decide_eq_false c];simp only[Bool.false_eq_true,if_false];refine wpS_bind (less T hK' (show x-1<z.size by lia) (show x<z.size by lia) ?_);by_cases c2:rk ρ (arrOf t') (x-1)<rk ρ (arrOf t') x
   ·rw[decide_eq_true c2];simp only[if_true];exact wpS_pure (q x e t' (by lia) (by lia) hK' hx hF)
   ·rw[decide_eq_false c2];simp only[Bool.false_eq_true,if_false];have e2:rk ρ (arrOf t') x=rk ρ (arrOf t') (x-1):=by lia
    exact wpS_pure ⟨e+1,rfl,hK',hx.more (by lia),hF.more e2⟩
 ·rintro c t' ⟨e,rfl,hK',hx,hF⟩;have e2:max m n=n:=by lia
  rw[e2]at hx hF ⊢;exact q n e t' (by lia) (Nat.le_refl _) hK' hx hF
theorem KJ(T:Tells (model prog w) A E s k z ρ){t:SortSt}{m n:Nat}(hn:n<=z.size)(h2:m+1<=n)(hK:Kept k z t)(hd:Dn ρ (arrOf t) (m+1))
  {Q:Option Nat->SortSt->Prop}(q:∀m' t',1<=m'->m'<=n->Kept k z t'->Up ρ (arrOf t') m'->Q (some m') t') :
  wpS (model prog w) A E s (descPart m n) Q t:=by
 unfold descPart;refine wpS_bind (wpS_lift (wpAny_rule ⟨rfl,?_⟩));refine wpS_bind (M6 T hn (by lia) h2 hK hd λm' e t' g1 g2 g3 g4 g5=>?_);dsimp only;have hs:m'<=(arrOf t').size:=by rw[g3.len];lia
 by_cases c:e>0
 ·rw[if_pos c];exact wpS_bind (wpS_reverse (back T hn g1 g2 (g3.put (mirror_perm _ _ _ _)) (g4.same (tS hs g5.2)) q))
 ·rw[if_neg c];exact back T hn g1 g2 g3 g4 q
theorem run(T:Tells (model prog w) A E s k z ρ){t:SortSt}{n:Nat}(hn:n<=z.size)(h1:1<=n)(hK:Kept k z t)
  {Q:Option Nat->SortSt->Prop}(q:∀m' t',1<=m'->m'<=n->Kept k z t'->Up ρ (arrOf t') m'->Q (some m') t') :
  wpS (model prog w) A E s (countRun' 0 n) Q t:=by
 rw[countRun0_eq];refine wpS_bind (rising T hn (Nat.le_refl 1) h1 hK (Up.one _ (Nat.le_refl 1)) λm g1 g2 g3 g4=>?_);dsimp only;by_cases c:m=n
 ·rw[if_pos (by simpa using c)];exact wpS_pure (q m t g1 g2 hK g3)
 rw[if_neg (by simpa using c)];have lt:=g4.resolve_left c;have hs:m<=(arrOf t).size:=by rw[hK.len];lia
 by_cases c2:m>1
 ·rw[if_pos c2];refine wpS_bind (less T hK (show 0<z.size by lia) (show m-1<z.size by lia) ?_);by_cases c3:rk ρ (arrOf t) 0<rk ρ (arrOf t) (m-1)
  ·rw[decide_eq_true c3];simp only[if_true];exact wpS_pure (q m t g1 g2 hK g3)
  ·rw[decide_eq_false c3];simp only[Bool.false_eq_true,if_false];have lev:∀i,0<=i->i<m->rk ρ (arrOf t) i=rk ρ (arrOf t) (m-1):=λi _ b=>by
    have a1:=g3 0 i (by lia) b;have a2:=g3 i (m-1) (by lia) (by lia)
    lia
   have hd:Dn ρ (arrOf t) m:=λi j a b=>by
    rw[lev i (by lia) (by lia),lev j (by lia) b];exact Int.le_refl _
   exact wpS_bind (wpS_reverse (KJ T hn (by lia) (hK.put (mirror_perm _ _ _ _)) ((hd.more (Int.le_of_lt lt)).same (tS hs lev)) q))
 ·rw[if_neg c2];have e:m=1:=by lia
  have hd:Dn ρ (arrOf t) m:=λi j a b=>by rw[show i=j by lia];exact Int.le_refl _
  exact KJ T hn (by lia) hK (hd.more (Int.le_of_lt lt)) q
end
end SO
namespace SO
open PySem PyProof PyProof.Rows
section
variable{prog:Program}{w:World}{A:Around}{E:Value->Shared->Prop}{s:Shared}{k:SortKind}{z:Array Keyed}{ρ:Keyed->Int}
def LC(ρ:Keyed->Int)(z:Array Keyed)(t:SortSt):Prop :=
 (arrOf t).Perm z/\Up ρ (arrOf t) z.size/\failedOf t=none/\(pendingOf t).size<=1
theorem Kept.ended{t:SortSt}(h:Kept k z t)(hu:Up ρ (arrOf t) z.size)(x:Nat×Nat×Nat):LC ρ z (setPending t ((pendingOf t).push x)):=by
 refine⟨h.pm,hu,h.nf,?_⟩;show((pendingOf t).push x).size<=1;rw[h.np];exact Nat.le_refl 1
theorem ordered(T:Tells (model prog w) A E s k z ρ){t:SortSt}(h2:2<=z.size)(h64:z.size<64)(hK:Kept k z t)
  {Q:Unit->SortSt->Prop}(q:∀t',(arrOf t').Perm z->failedOf t'=none->Up ρ (arrOf t') z.size->Q () t') :
  wpS (model prog w) A E s sortRuns' Q t:=by
 have least:minRun' z.size z.size 0=z.size:=by
  cases e:z.size with
  |zero=>lia
  |succ f=>rw[e]at h64;rw[minRun'_succ,if_pos h64]
 rw[sortRuns'_eq];refine wpS_bind (wpS_get ?_);dsimp only;simp only[hK.len,least];refine wpS_bind (wpS_mono (wpS_forRange (Q:=λc t'=>c=(none,z.size)/\LC ρ z t')
  (λx c t'=>(x=0/\c=(none,0)/\Kept k z t')\/(0<x/\c=(none,z.size)/\LC ρ z t')) ?_ ?_ ?_) ?_)
 ·rintro x c t' _ hx (⟨rfl,rfl,hK'⟩ | ⟨g,rfl,hE⟩)
  ·dsimp only;rw[if_neg (by lia)];simp only[Nat.sub_zero,Nat.min_self,Nat.zero_add];refine wpS_bind (run T (Nat.le_refl _) (by lia) hK' λm t2 g1 g2 g3 g4=>?_);dsimp only;by_cases c:m<z.size
   ·rw[if_pos c];refine wpS_bind (wpS_lift (wpAny_rule ⟨rfl,?_⟩));refine wpS_bind (J4 T (Nat.le_refl _) g2 g3 g4 λt3 g5 g6=>?_);simp only[Bool.not_true,Bool.false_eq_true,if_false];refine wpS_bind (wpS_get ?_);have e:(pendingOf t3).back?=none:=by rw[g5.np];rfl
    rw[e];exact wpS_bind (wpS_modify (wpS_pure (Or.inr ⟨by lia,rfl,g5.ended g6 _⟩)))
   ·rw[if_neg c];have e1:m=z.size:=by lia
    subst e1;refine wpS_bind (wpS_get ?_);have e:(pendingOf t2).back?=none:=by rw[g3.np];rfl
    rw[e];exact wpS_bind (wpS_modify (wpS_pure (Or.inr ⟨by lia,rfl,g3.ended g4 _⟩)))
  ·dsimp only;rw[if_pos (Nat.le_refl _)];exact wpS_pure ⟨rfl,hE⟩
 ·rintro c t' (⟨g,_,_⟩ | ⟨_,e,hE⟩)
  ·lia
  ·exact⟨e,hE⟩
 ·exact Or.inl ⟨rfl,rfl,hK⟩
 ·rintro c t' ⟨rfl,hE⟩;dsimp only;refine wpS_bind (wpS_mono (wpS_forRange (Q:=λc t2=>c=(none,())/\t2=t') (λ_ c t2=>c=(none,())/\t2=t') ?_ (λ_ _ h=>h) ⟨rfl,rfl⟩) ?_)
  ·rintro x c t2 _ _ ⟨rfl,rfl⟩;refine wpS_bind (wpS_get ?_);rw[if_pos hE.2.2.2];exact wpS_pure ⟨rfl,rfl⟩
  ·rintro c t2 ⟨rfl,rfl⟩;exact wpS_pure (q _ hE.1 hE.2.2.1 hE.2.1)
def sE(h:Heap)(a:Addr)(vs:List Value):Heap :=
 ((h.update a (Obj.mapSeq λ_=>#[])).push (seqObj "tuple" vs.toArray 0)).push (seqObj "list" #[] 0)
abbrev dC(vs:List Value):Array Keyed:=vs.toArray.zip vs.toArray
theorem gY(vs:List Value):(dC vs).size=vs.length:=by simp[dC]
theorem FW{a:Addr}{vs:List Value}{n:Nat}{P:Fin->Shared->Prop}(ho:s.heap.get? a=some (seqObj "list" vs.toArray n))(h64:vs.length<64)
  (hk:2<=vs.length->∀{Q:SortKind->Shared->Prop},Q k { s with heap:=sE s.heap a vs }->wpAny (model prog w) A (keyKind' vs.toArray) Q E { s with heap:=sE s.heap a vs })
  (T:Tells (model prog w) A (λ_ _=>False) { s with heap:=sE s.heap a vs } k (dC vs) ρ)
  (h:∀xs:Array Keyed,xs.Perm (dC vs)->Up ρ xs vs.length->P (.done (.ret .none)) { s with heap:=sortedHeap s.heap a vs (xs.map (·.2)) }) :
  wpAny (model prog w) A (Builtin.«list.sort» ⟨[.ref a],[]⟩) P E s:=by
 have ha:a<s.heap.objs.size:=Heap.lt_size ho;obtain⟨n1,ho1⟩:∃n1,(s.heap.update a (Obj.mapSeq λ_=>#[])).get? a=some (seqObj "list" #[] n1):=⟨_,get?_update_seq ho (λ_=>#[])⟩
 have ho2:(sE s.heap a vs).get? a=some (seqObj "list" #[] n1):=Heap.get?_push_of_some _ (Heap.get?_push_of_some _ ho1);have room:∀xs:Array Keyed,xs.Perm (dC vs)->(xs.map (·.2)).size<=ZW+1:=λxs p=>by
  rw[Array.size_map,p.size_eq,gY,sizeLine_eq];lia
 rw[list_sort_plain];refine ZZ (listItems_at ho rfl ?_);refine ZZ (listUpdate_at ho rfl ?_);refine ZZ (seqEpoch_at ho1 rfl ?_);refine ZZ (wpAny_newTuple ?_);refine ZZ (wpAny_newList ?_);refine ZU ?_;show wpAny (model prog w) A _ P E { s with heap:=sE s.heap a vs };dsimp only;have last:∀t:SortSt,(arrOf t).Perm (dC vs)->failedOf t=none->Up ρ (arrOf t) vs.length ->
   wpAny (model prog w) A (do
    let out:=(arrOf t).map (·.2)
    let touched:=(<-seqEpoch a) != n1
    Builtin.List.listUpdate (.ref a) λ_=>out
    if let some e:=failedOf t then rule "list.sort.comparison-raised";throw e
    if touched then rule "list.sort.modified";raiseError "ValueError" "list modified during sort"
    ret .none) P E { s with heap:=sE s.heap a vs }:=by
  intro t p f u;refine ZZ (seqEpoch_at ho2 rfl ?_);refine ZZ (listUpdate_at ho2 rfl ?_ (hsz2:=room _ p));rw[f];simp only[bne_self_eq_false,Bool.false_eq_true,if_false];exact ZY (h _ p u)
 by_cases c:vs.length<2
 ·have c':vs.toArray.size<2:=by simpa using c
  rw[if_pos c',if_pos c'];refine ZZ (ZY ?_);rw[StateT.run_pure];refine ZZ (ZY ?_);exact last (SortSt.mk' general' (dC vs) #[] 7 none) (Array.Perm.refl _) rfl (Up.one _ (by lia))
 ·have c':¬vs.toArray.size<2:=by simpa using c
  rw[if_neg c',if_neg c'];refine ZZ (hk (by lia) ?_);refine ZZ (ZX (ordered (Q:=λ_ t=>(arrOf t).Perm (dC vs)/\failedOf t=none/\Up ρ (arrOf t) (dC vs).size) T
   (t:=SortSt.mk' k (dC vs) #[] 7 none) (by rw[gY];lia) (by rw[gY];exact h64) ⟨rfl,Array.Perm.refl _,rfl,rfl⟩
   λt' a1 a2 a3=>⟨a1,a2,a3⟩) ?_ λ_ _ e=>e.elim)
  rintro⟨⟨⟩,t⟩ s' ⟨rfl,p,f,u⟩;rw[gY]at u;exact last t p f u
def ahead(h:Heap)(vs:List Value):Heap :=
 ((h.push (seqObj "list" #[] 0)).update h.objs.size (Obj.mapSeq (·++vs.toArray))).push (seqObj "list" vs.toArray 0)
theorem AH{l:Addr}{vs:List Value}{Q:Value->Shared->Prop}(hl:s.heap.IsList l vs.toArray)(h64:vs.length<64)
  (hk:2<=vs.length->∀{E:Value->Shared->Prop}{Q:SortKind->Shared->Prop},Q k { s with heap:=sE (ahead s.heap vs) (s.heap.objs.size+1) vs } ->
   wpAny (model prog w) A.in1.in1 (keyKind' vs.toArray) Q E { s with heap:=sE (ahead s.heap vs) (s.heap.objs.size+1) vs })
  (T:Tells (model prog w) A.in1.in1 (λ_ _=>False) { s with heap:=sE (ahead s.heap vs) (s.heap.objs.size+1) vs } k (dC vs) ρ)
  (h:∀xs:Array Keyed,xs.Perm (dC vs)->Up ρ xs vs.length->Q (.ref (s.heap.objs.size+1)) { s with heap:=sortedAll s.heap vs (xs.map (·.2)) }) :
  wpAny (model prog w) A (call (.builtin "sorted") [.ref l]) Q E s:=by
 have sz:((s.heap.push (seqObj "list" #[] 0)).update s.heap.objs.size (Obj.mapSeq (·++vs.toArray))).objs.size=s.heap.objs.size+1:=by
  rw[Heap.size_update,size_push']
 have ho:(ahead s.heap vs).get? (s.heap.objs.size+1)=some (seqObj "list" vs.toArray 0):=by
  unfold ahead;rw[<-sz];exact Heap.get?_push_size _ rfl
 refine Calls.call_function_entry kind_sorted plain_sorted entry_sorted (args_sorted1 _) ?_;unfold Builtin.«sorted»;refine ZZ (m:=checkCount "sorted" 1 1 _) (ZY ?_);refine ZZ (collect_list hl ?_);refine ZZ (wpAny_newList ?_);rw[sz];show wpAny (model prog w) _ _ _ _ { s with heap:=ahead s.heap vs };refine ZZ (ZU (wpAny_call_entry slot_list_sort ⟨_,ho,rfl⟩ entry_list_sort
  (FW (s:={ s with heap:=ahead s.heap vs }) (k:=k) (ρ:=ρ) ho h64 (λg _ q=>hk g q) T λxs p u=>⟨_,rfl,?_⟩) (args_list_sort _)))
 exact ZY ⟨_,rfl,h xs p u⟩
end
end SO
namespace SO
def lx:List Int->List Int->Bool
 |[],[]=>false
 |[],_::_=>true
 |_::_,[]=>false
 |a::x,b::y=>if a=b then lx x y else decide (a<b)
theorem EO:∀x:List Int,lx x x=false
 |[]=>rfl
 |a::x=>by unfold lx;rw[if_pos rfl];exact EO x
theorem uB:∀x y u:List Int,lx x y=true->lx y u=true->lx x u=true
 |[],[],_,h,_=>by simp[lx]at h
 |[],_::_,[],_,h=>by simp[lx]at h
 |[],_::_,_::_,_,_=>rfl
 |_::_,[],_,h,_=>by simp[lx]at h
 |_::_,_::_,[],_,h=>by simp[lx]at h
 |a::x,b::y,c::u,h1,h2=>by
  unfold lx at h1 h2 ⊢;by_cases e1:a=b
  ·rw[if_pos e1]at h1;by_cases e2:b=c
   ·rw[if_pos e2]at h2;rw[if_pos (e1.trans e2)];exact uB x y u h1 h2
   ·rw[if_neg e2]at h2;rw[if_neg (by lia)];rw[e1];exact h2
  ·rw[if_neg e1]at h1;have l1:=of_decide_eq_true h1;by_cases e2:b=c
   ·rw[if_neg (by lia)];exact decide_eq_true (by lia)
   ·rw[if_neg e2]at h2;have l2:=of_decide_eq_true h2;rw[if_neg (by lia)];exact decide_eq_true (by lia)
theorem A8:∀x y:List Int,lx x y=false->lx y x=false->x=y
 |[],[],_,_=>rfl
 |[],_::_,h,_=>by simp[lx]at h
 |_::_,[],_,h=>by simp[lx]at h
 |a::x,b::y,h1,h2=>by
  unfold lx at h1 h2;by_cases e:a=b
  ·rw[if_pos e]at h1;rw[if_pos e.symm]at h2;rw[e,A8 x y h1 h2]
  ·rw[if_neg e]at h1;rw[if_neg (λg=>e g.symm)]at h2;have l1:=of_decide_eq_false h1;have l2:=of_decide_eq_false h2;lia
def place(L:List (List Int))(x:List Int):Nat:=L.countP λy=>lx y x
theorem IS(L:List (List Int)){x y:List Int}(h:lx x y=true):place L x<=place L y :=
 List.countP_mono_left λu _ g=>uB u x y g h
theorem place_lt:∀(L:List (List Int)) {x y:List Int},x∈L->lx x y=true->place L x<place L y
 |[],_,_,m,_=>by cases m
 |u::L,x,y,m,h=>by
  unfold place;rw[List.countP_cons,List.countP_cons];have a:=IS L h;unfold place at a;by_cases e:u=x
  ·subst e;rw[EO,h];simp;lia
  ·have b:=place_lt L (x:=x) (y:=y) (by cases m with | head=>exact absurd rfl e | tail _ g=>exact g) h;unfold place at b;by_cases g:lx u x=true
   ·rw[g,uB _ _ _ g h];simp;lia
   ·have g':lx u x=false:=by simpa using g
    rw[g'];simp;lia
theorem w9(L:List (List Int)){x y:List Int}(hx:x∈L)(hy:y∈L):decide ((place L x:Int)<place L y)=lx x y:=by
 cases h:lx x y with
 |true=>exact decide_eq_true (by have:=place_lt L hx h;lia)
 |false =>
  refine decide_eq_false ?_;cases g:lx y x with
  |true=>have:=place_lt L hy g;lia
  |false=>rw[A8 x y h g];lia
end SO
namespace SO
open PySem PyProof PyProof.Rows
section
variable{prog:Program}{w:World}{A:Around}{E:Value->Shared->Prop}{s:Shared}
theorem MH(b:Bool){x y:Int}{t u:Tok}{Q:Bool->Shared->Prop}(h:Q (decide (x<y)) s):wpAny (model prog w) A (oneLt' b (.int x t) (.int y u)) Q E s:=by
 cases b with
 |true=>exact oneLt_int h
 |false=>exact PySem.W.kat_one _ _ (wpAny_lt_int h)
theorem A9{b fin:Bool}{Q:Bool->Shared->Prop}:∀{xs ys:List Value}{ns ms:List Int}(i:Nat),IntsAre xs ns->IntsAre ys ms ->
  fin=decide (ns.length<ms.length)->Q (lx ns ms) s->PySem.W.KatLex prog w A b fin Q (xs.zip ys) i s
 |_,_,_,_,i,.nil,.nil,e,q=>by subst e;exact PySem.W.kat_nil q
 |_,_,_,_,i,.nil,.cons _ _ _,e,q=>by
  subst e;refine PySem.W.kat_nil ?_;rw[decide_eq_true (by simp)];exact q
 |_,_,_,_,i,.cons _ _ _,.nil,e,q=>by
  subst e;refine PySem.W.kat_nil ?_;rw[decide_eq_false (by simp)];exact q
 |_,_,_,_,i,.cons (vs:=xs) (ns:=ns) n t hx,.cons (vs:=ys) (ns:=ms) m u hy,e,q=>by
  rw[List.zip_cons_cons];refine PySem.W.kat_cons (wpAny_eqBool_int ?_);unfold lx at q;by_cases c:n=m
  ·rw[if_pos c]at q;rw[show(n==m)=true by simpa using c];refine PySem.W.kat_yes (A9 (i+1) hx hy ?_ q);rw[e];simp
  ·rw[if_neg c]at q;rw[show(n==m)=false by simpa using c];exact PySem.W.kat_no (MH _ q)
def DS(h:Heap)(vs:List Value)(kf:Value->List Int):Prop :=
 ∀v∈vs,∃a o xs n,v=.ref a/\h.get? a=some o/\o.cls=.type "tuple"/\o.data=.seq xs n/\IntsAre xs.toList (kf v)
def rank(vs:List Value)(kf:Value->List Int)(p:Keyed):Int:=place (vs.map kf) (kf p.1)
theorem mD{vs:List Value}{p:Keyed}(h:p∈(dC vs).toList):p.1∈vs:=by
 have:p∈vs.zip vs:=by simpa[dC] using h
 exact(List.of_mem_zip (a:=p.1) (b:=p.2) this).1
theorem uL{xs:List Value}{ns:List Int}(h:IntsAre xs ns):xs.length=ns.length:=by
 induction h with
 |nil=>rfl
 |cons _ _ _ ih=>simp[ih]
theorem CL{vs:List Value}{kf:Value->List Int}{b:Bool}(h:DS s.heap vs kf):Tells (model prog w) A E s (tuples' b) (dC vs) (rank vs kf):=by
 intro p q t Q hp hq hk hQ;have mp:=mD hp;have mq:=mD hq;obtain⟨a,o,xs,n,e1,g1,_,d1,i1⟩:=h _ mp;obtain⟨a',o',xs',n',e2,g2,_,d2,i2⟩:=h _ mq;have r:decide (rank vs kf p<rank vs kf q)=lx (kf p.1) (kf q.1):=w9 _ (Ym mp) (Ym mq);rw[r]at hQ;rw[lt'_eq];refine wpS_bind (wpS_get ?_);rw[hk,e1,e2];refine wpS_bind (wpS_lift (wpAny_attempt (PySem.W.kat_lt g1 d1 g2 d2 (A9 0 i1 i2 ?_ ⟨rfl,?_⟩))))
 ·have l1:=uL i1;have l2:=uL i2;simp only[Array.length_toList]at l1 l2;rw[l1,l2]
 ·exact wpS_pure hQ
end
end SO
namespace SO
open PySem PyProof PyProof.Rows
open AutoSeq1 (wpAny_loadPart')
theorem EY:∀{xs:List Value}{ns:List Int},IntsAre xs ns->∀i,i<xs.length->∃n t,xs[i]?=some (.int n t)/\ns[i]?=some n
 |_,_,.nil,i,h=>by simp at h
 |_,_,.cons n t _,0,_=>⟨n,t,rfl,rfl⟩
 |_,_,.cons _ _ r,i+1,h=>by
  obtain⟨n,t,e1,e2⟩:=EY r i (by simpa using h);exact⟨n,t,by simpa using e1,by simpa using e2⟩
section
variable{prog:Program}{w:World}{A:Around}{E:Value->Shared->Prop}{s:Shared}
end
end SO
namespace SO
open PySem PyProof PyProof.Rows
theorem zU:∀vs:List Value,vs.zip vs=vs.map λv=>(v,v)
 |[]=>rfl
 |v::vs=>by rw[List.zip_cons_cons,zU vs];rfl
theorem rA(vs:List Value):(dC vs).toList=vs.map λv=>(v,v):=by
 rw[<-zU];simp[dC]
theorem twice{vs:List Value}{q:Keyed}(h:q∈(dC vs).toList):q.2=q.1:=by
 rw[rA]at h;obtain⟨v,_,rfl⟩:=Zh.mp h;rfl
theorem B6{vs:List Value}{kf:Value->List Int}{xs:Array Keyed}(p:xs.Perm (dC vs))(u:Up (rank vs kf) xs vs.length) :
  (xs.map (·.2)).toList.Perm vs/\(xs.map (·.2)).toList.Pairwise λa b=>lx (kf b) (kf a)=false:=by
 have pl:=Array.perm_iff_toList_perm.mp p;constructor
 ·have e:=pl.map (·.2);rw[rA,Yb]at e;have e2:vs.map ((λq:Keyed=>q.2)∘λv=>(v,v))=vs:=by
   have:((λq:Keyed=>q.2)∘λv:Value=>(v,v))=id:=rfl;rw[this,List.map_id]
  rw[e2]at e;rw[Array.toList_map];exact e
 ·rw[Array.toList_map,List.pairwise_map,List.pairwise_iff_getElem];intro i j hi hj hij;have z:xs.size=vs.length:=by rw[p.size_eq,gY]
  have hi':i<xs.size:=by simpa using hi
  have hj':j<xs.size:=by simpa using hj
  have r:=u i j (by lia) (by lia);have mi:xs[i]∈(dC vs).toList:=pl.mem_iff.mp (by simp);have mj:xs[j]∈(dC vs).toList:=pl.mem_iff.mp (by simp);have ri:rk (rank vs kf) xs i=rank vs kf xs[i]:=by simp[rk,hi']
  have rj:rk (rank vs kf) xs j=rank vs kf xs[j]:=by simp[rk,hj']
  rw[ri,rj]at r;have t:=w9 (vs.map kf) (x:=kf xs[j].1) (y:=kf xs[i].1) (Ym (mD mj)) (Ym (mD mi));rw[decide_eq_false (by unfold rank at r;lia)]at t;simp only[Array.getElem_toList];rw[twice mi,twice mj];exact t.symm
theorem GY{h:Heap}{vs:List Value}{b:Addr}{o:Obj}(hb:h.get? b=some o):(sE (ahead h vs) (h.objs.size+1) vs).get? b=some o:=by
 have lt:=Heap.lt_size hb;unfold sE ahead;refine Heap.get?_push_of_some _ (Heap.get?_push_of_some _ ?_);rw[Heap.get?_update_ne _ _ _ _ (Nat.ne_of_lt (Xq lt))];refine Heap.get?_push_of_some _ ?_;rw[Heap.get?_update_ne _ _ _ _ (Nat.ne_of_lt lt)];exact Heap.get?_push_of_some _ hb
section
variable{prog:Program}{w:World}{A:Around}{E:Value->Shared->Prop}{s:Shared}
theorem DS.mono{h h':Heap}{vs:List Value}{kf:Value->List Int}(H:DS h vs kf)(g:∀b o,h.get? b=some o->h'.get? b=some o):DS h' vs kf:=λv m=>by
 obtain⟨a,o,xs,n,e,g1,r⟩:=H v m;exact⟨a,o,xs,n,e,g _ _ g1,r⟩
end
end SO
namespace L2
open PySem PySem.Spec PyProof.Rows
section
variable{X:Cx}
theorem wJ:∀{ps:List Addr}{us:List Value},bJ (ps.map V.ref) us->us=ps.map Value.ref
 |[],us,r=>by rw[List.map_nil]at r;cases r;rfl
 |p::ps,us,r=>by
  rw[List.map_cons]at r;cases r with
  |cons a b =>
   rw[wJ b];cases a;rfl
theorem w6:∀(ps:List Addr),bJ (ps.map V.ref) (ps.map Value.ref)
 |[]=>.nil
 |_::ps=>.cons rfl (w6 ps)
def keyOf(kf:Addr->List Int):Value->List Int
 |.ref a=>kf a
 |_=>[]
theorem F0{ps:List Addr}{us:List Value}(h:us.Perm (ps.map Value.ref)):∃ps':List Addr,us=ps'.map Value.ref/\ps'.Perm ps:=by
 have e:us=(us.map λu=>match u with | .ref a=>a | _=>0).map Value.ref:=by
  rw[Yb];refine(List.map_id us).symm.trans (Yn λu m=>?_);obtain⟨a,_,rfl⟩:=Zh.mp (h.mem_iff.mp m);rfl
 refine⟨_,e,?_⟩;have g:=h.map λu:Value=>match u with | .ref a=>a | _=>0
 rw[Yb]at g;have i:((λu:Value=>match u with | .ref a=>a | _=>0)∘Value.ref)=id:=rfl;rw[i,List.map_id]at g;exact g
end
end L2
namespace SO
open PySem PyProof PyProof.Rows
section
variable{prog:Program}{w:World}{A:Around}{E:Value->Shared->Prop}{s:Shared}
theorem KI{h:Heap}{kf:Value->List Int}:∀{vs:List Value},DS h vs kf->(∀v∈vs,kf v≠[]) ->
  ∃fs:List Value,PySem.W.KatTups h vs fs/\fs.length=vs.length/\∀f∈fs,∃n t,f=.int n t
 |[],_,_=>⟨[],PySem.W.KatTups.nil,rfl,λ_ m=>by cases m⟩
 |v::vs,H,ne=>by
  obtain⟨fs,k,l,g⟩:=KI (vs:=vs) (λu m=>H u (.tail _ m)) λu m=>ne u (.tail _ m);obtain⟨a,o,xs,n,e,g1,c,d,i⟩:=H v (.head _);have hz:0<xs.toList.length:=by
   rw[uL i];exact List.length_pos_iff.mpr (ne v (.head _))
  obtain⟨n0,t0,e0,_⟩:=EY i 0 hz;subst e;refine⟨.int n0 t0::fs,PySem.W.KatTups.cons g1 c d (by simpa using e0) k,by simp[l],λf m=>?_⟩;cases m with
  |head=>exact⟨n0,t0,rfl⟩
  |tail _ m=>exact g f m
theorem AG{l:Addr}{vs:List Value}{kf:Value->List Int}{Q:Value->Shared->Prop}(hl:s.heap.IsList l vs.toArray)(h64:vs.length<64)
  (H:DS s.heap vs kf) (ne:∀v∈vs,kf v≠[])
  (h:∀out:Array Value,out.toList.Perm vs->(out.toList.Pairwise λa b=>lx (kf b) (kf a)=false)->Q (.ref (s.heap.objs.size+1)) { s with heap:=sortedAll s.heap vs out }) :
  wpAny (model prog w) A (call (.builtin "sorted") [.ref l]) Q E s:=by
 have H':DS (sE (ahead s.heap vs) (s.heap.objs.size+1) vs) vs kf:=H.mono λ_ _=>GY;refine AH (k:=tuples' true) (ρ:=rank vs kf) hl h64 (λh2 _ _ q=>?_) (CL H') λxs p u=>h _ (B6 p u).1 (B6 p u).2;obtain⟨fs,k,lf,g⟩:=KI H' ne;refine PySem.W.kat_kind (T:=Value.type "int") k (by lia) (λv m=>?_) (by decide) q;obtain⟨n,t,rfl⟩:=g v m;exact .now
end
end SO
namespace L2
open PySem PySem.Spec PyProof.Rows
section
variable{X:Cx}
theorem pL:iK X (.builtin "sorted") (λxs H Q=>∃(p:Addr) (ps:List Addr) (kf:Addr->List Int),xs=[.ref p]/\SqL X.K H p (ps.map V.ref)/\(∀q∈ps,kf q≠[]/\SqT X.K H q ((kf q).map V.int))/\ps.length<64 /\
  ∀(l:Addr) (ps':List Addr),H l=none->ps'.Perm ps->(ps'.Pairwise λa b=>SO.lx (kf b) (kf a)=false)->Q (.ref l) (upd H l (.lst (ps'.map V.ref)))):=by
 intro pins s σ H xs us Q I r h;obtain⟨p,ps,kf,rfl,hq,hk,h64,q⟩:=h;obtain⟨u,rfl,rx⟩:=vals1 r;cases rx;obtain⟨its,r',pl,hz⟩:=I.list hq;have ei:=wJ r';subst ei;refine SO.AG (kf:=keyOf kf) pl.isList (by rw[Zq];exact h64) (λv m=>?_) (λv m=>?_) λout a1 a2=>?_
 ·obtain⟨a,ma,rfl⟩:=Zh.mp m;obtain⟨its',r2,⟨o,g1,c1,n,d1⟩,_⟩:=I.tuple (hk a ma).2;exact⟨a,o,its'.toArray,n,rfl,g1,c1,d1,(show IntsAre its' (kf a) from intsAre_of r2)⟩
 ·obtain⟨a,ma,rfl⟩:=Zh.mp m;exact(hk a ma).1
 ·obtain⟨ps',e1,e2⟩:=F0 a1;rw[e1,List.pairwise_map]at a2;obtain⟨e,he⟩:=sortedAll_at s.heap (ps.map Value.ref) out;refine⟨.ref (s.heap.objs.size+1),_,I.laid (t':=s.toks) (λ_ _=>sortedAll_old) (Nat.le_succ _) (show cG X.prog X.w _ _ _ (.lst (ps'.map V.ref)) from⟨?_,out.toList,e,?_,he⟩),rfl,q _ ps' (I.hok.fresh (Nat.le_succ _)) e2 a2⟩
  ·rw[Zq,e2.length_eq];exact Ys (by lia:ps.length<=64) (by decide)
  ·rw[e1];exact w6 ps'
end
end L2
namespace SO
open PySem PyProof PyProof.Rows
section
variable{prog:Program}{w:World}{A:Around}{E:Value->Shared->Prop}{s:Shared}{k:SortKind}{ρ:Keyed->Int}
end
end SO
namespace L2
open PySem PySem.Spec PyProof.Rows
section
variable{X:Cx}
end
end L2
namespace SO
open PySem PyProof PyProof.Rows
section
variable{prog:Program}{w:World}{A:Around}{E:Value->Shared->Prop}{s:Shared}
end
end SO
namespace L2
open PySem PySem.Spec PyProof.Rows
section
variable{X:Cx}
theorem MZ{P:Program}{w:World}{n:Int}{v:Value}(h:(cM P w).is (.inl n) v=true):∃t,v=.int n t:=by
 rcases cY (show uF (.inl n) v=true from h) with⟨i,t,e,rfl⟩ | ⟨x,t,e,_⟩
 ·cases e;exact⟨t,rfl⟩
 ·cases e
theorem GI{P:Program}{w:World}{kvs:List (Key×V)}{vs:List (Key×Value)}(r:KV kvs vs){ns:List Int}(hn:kvs.map (·.1)=ns.map Sum.inl){us:List Value}(hl:us.length=vs.length)
  (hu:∀(i:Nat) v,us[i]?=some v->∃k x,vs[i]?=some (k,x)/\(cM P w).is k v=true):bJ (ns.map V.int) us/\us.length=ns.length:=by
 have e1:ns.length=us.length:=by
  have:=congrArg List.length hn;simp only[Zq]at this;rw[hl,<-r.length,this]
 refine⟨yO (by rw[Zq];exact e1) λj x u hx hu'=>?_,e1.symm⟩;obtain⟨k,y,h1,h2⟩:=hu j u hu';have e2:=r.keys;have e3:(vs.map (·.1))[j]?=some k:=by rw[Zk,h1];rfl
 rw[<-e2,hn,Zk]at e3;obtain⟨n,q1,q2⟩:=Xk.mp e3;subst q2;rw[Zk,q1]at hx;cases hx;exact MZ h2
theorem zN(hc:X.calm=true):iK X (.builtin "sorted") (λxs H Q=>∃(d:Addr) (kvs:List (Key×V)) (ns:List Int),xs=[.ref d]/\Rd H d (.dK kvs)/\kvs.map (·.1)=ns.map Sum.inl/\ns.length<64 /\
  ∀(l:Addr) (ns':List Int),H l=none->ns'.Perm ns->ns'.Pairwise (·<=·)->Q (.ref l) (upd H l (.lst (ns'.map V.int)))):=by
 intro pins s σ H xs us Q I r h;obtain⟨d,kvs,ns,rfl,hd,hn,h64,q⟩:=h;obtain⟨u,rfl,rx⟩:=vals1 r;cases rx;obtain⟨hz,ne,vs,kv,dd⟩:=pH I.hok hd;obtain⟨ep,hat⟩:=dd.dictAt;have hlen:=kv.length;refine Calls.call_function_entry kind_sorted plain_sorted entry_sorted (args_sorted1 _) ?_;unfold Builtin.«sorted»;refine ZZ (m:=checkCount "sorted" 1 1 _) (ZY ?_);refine ZZ (PySem.W.kdu_collect (PySem.W.kdl_dict (kvs:=vs) (ep:=ep) ne) (I.ok.hd hc) hat (by lia) λh' tk acc hk it=>?_);obtain⟨hv,hl⟩:=GI kv hn (us:=acc.toList) (by rw[Array.length_toList];exact it.1) λi v hi=>it.2 i v (by rw[<-Array.getElem?_toList];exact hi);have hl':acc.toList.length<64:=by lia
 have hz':acc.toList.length<=ZW:=Ys (by lia:acc.toList.length<=64) (by decide);refine ZZ (wpAny_newList ?_ hz');have ho:(h'.push (seqObj "list" acc.toList.toArray 0)).get? h'.objs.size=some (seqObj "list" acc.toList.toArray 0):=Heap.get?_push_size _ rfl;refine ZZ (ZU (wpAny_call_entry slot_list_sort ⟨_,ho,rfl⟩ entry_list_sort
  (list_sort_tree (s:={ s with heap:=h'.push (seqObj "list" acc.toList.toArray 0),toks:=tk }) ho (intsAre_of hv) hl' λout ns' a1 a2 a3=>⟨_,rfl,?_⟩) (args_list_sort _)))
 refine ZY ⟨_,rfl,?_⟩;have I1:Inv X pins σ H { s with heap:=h',toks:=tk }:=I.kept hk;obtain⟨e,he⟩:=sortedHeap_at (out:=out) ho;refine⟨.ref h'.objs.size,_,I1.laid (t':=tk) (λb o eb=>?_) (Nat.le_refl _) (show cG X.prog X.w _ _ _ (.lst (ns'.map V.int)) from⟨?_,out.toList,e,jQ a1,he⟩),rfl,q _ ns' I1.fresh a2 a3⟩
 ·have hlt:=Heap.lt_size eb;show(sortedHeap _ _ _ _).get? b=_;rw[sortedHeap_old (Nat.ne_of_lt hlt) (by rw[Heap.size_push];exact Xq hlt)];exact Heap.get?_push_of_some _ eb
 ·rw[Zq,a2.length_eq];exact Ys (by lia:ns.length<=64) (by decide)
end
end L2
namespace L2
open PySem PySem.Spec PyProof.Rows
section
variable{X:Cx}
end
end L2
namespace L2
open PySem PySem.Spec PyProof.Rows
section
variable{X:Cx}{pins:List (Addr×Obj)}{σ:St}{H:Hp}{s:Shared}{h':Heap}
end
section
variable{X:Cx}
end
end L2
namespace L2
open PySem PySem.Spec PyProof.Rows
end L2
namespace L2
open PySem PyProof.Rows
end L2
namespace SO
open PySem PyProof PyProof.Rows
section
variable{prog:Program}{w:World}{A:Around}{E:Value->Shared->Prop}{s:Shared}
theorem MS{xl yl:List Int}{a b:Addr}{oa ob:Obj}{xs ys:Array Value}{na nb:Nat}{P:Fin->Shared->Prop}(hoa:s.heap.get? a=some oa)(hda:oa.data=.seq xs na)(hob:s.heap.get? b=some ob)(hcb:ob.cls=.type "tuple")(hdb:ob.data=.seq ys nb)
  (hia:IntsAre xs.toList xl) (hib:IntsAre ys.toList yl) (h:∀c,P (.done (.ret (.bool c))) s) :
  wpAny (model prog w) A (Builtin.«tuple.__lt__» ⟨[.ref a,.ref b],[]⟩) P E s:=by
 have hTb:s.TypeIs (.ref b) "tuple":=⟨ob,hob,hcb⟩
 show wpAny _ _ (isInstance (.ref b) (.type "tuple") >>= _) _ _ s;refine ZZ (wpAny_isInstance hTb isSubtype_tuple_tuple ?_);simp only[Bool.not_true,Bool.false_eq_true,if_false];refine ZZ (wpAny_tupleItemsOf hoa hda (ZZ (wpAny_tupleItemsOf hob hdb (ZZ ?_))));refine wpAny_forIn_list _ (λrest r s'=>r.1=none/\s'=s/\∃x' y' xs' ys',rest=List.zip xs' ys'/\IntsAre xs' x'/\IntsAre ys' y') _ ?_ ?_ _ _ ⟨rfl,rfl,xl,yl,xs.toList,ys.toList,rfl,hia,hib⟩
 ·rintro⟨u,v⟩ rest r s' ⟨hr,rfl,x',y',xs',ys',hz,hx',hy'⟩;cases hx' with
  |nil=>simp at hz
  |@cons k1 t1 xs'' x'' hx'' =>
   cases hy' with
   |nil=>simp at hz
   |@cons k2 t2 ys'' y'' hy'' =>
    simp only[List.zip_cons_cons,List.cons.injEq,Prod.mk.injEq]at hz;obtain⟨⟨rfl,rfl⟩,rfl⟩:=hz;refine ZZ (wpAny_eqBool_int ?_);by_cases hk:k1=k2
    ·rw[show(k1==k2)=true by simpa using hk];simp only[Bool.not_true,Bool.false_eq_true,if_false];exact ZY ⟨rfl,rfl,x'',y'',xs'',ys'',rfl,hx'',hy''⟩
    ·rw[show(k1==k2)=false by simpa using hk];simp only[Bool.not_false,if_true];refine ZZ (wpAny_rule (ZZ (show wpAny _ _ (compareOp .Lt (.int k1 t1) (.int k2 t2)) _ _ _ from PyProof.Rows.lt_int ?_)));exact ZZ (ZY (ZY (ZY (h _))))
 ·rintro⟨r1,r2⟩ s' ⟨hr,rfl,x',y',xs',ys',hz,hx',hy'⟩;simp only at hr;subst hr;exact ZY (h _)
theorem MR{xl yl:List Int}{a b:Addr}{oa ob:Obj}{xs ys:Array Value}{na nb:Nat}{Q:Value->Shared->Prop}(hu:A.units<cLine)(hoa:s.heap.get? a=some oa)(hca:oa.cls=.type "tuple")(hda:oa.data=.seq xs na)(hob:s.heap.get? b=some ob)(hcb:ob.cls=.type "tuple")(hdb:ob.data=.seq ys nb)
  (hia:IntsAre xs.toList xl) (hib:IntsAre ys.toList yl) (h:∀c,Q (.bool c) s):wpAny (model prog w) A (richCompare .Lt (.ref a) (.ref b)) Q E s :=
 wpAny_richCompare_same_room (op:=.Lt) (T:="tuple") ⟨oa,hoa,hca⟩ ⟨ob,hob,hcb⟩ PySem.F.slot_tuple_lt
  (wpAny_call_entry PySem.F.slot_tuple_lt ⟨oa,hoa,hca⟩ PySem.F.entry_tuple_lt (MS hoa hda hob hcb hdb hia hib λc=>⟨_,rfl,(λz=>by cases z),h c⟩) (PySem.F.args_tuple_lt_2 _ _)) hu
end
section
variable{prog:Program}{w:World}{A:Around}{E:Value->Shared->Prop}{s:Shared}{d it:Addr}{o:Obj}{es:Array DictEntry}{ep i:Nat}
theorem BG{Q:Value->Shared->Prop}(ho:s.heap.get? d=some o)(hx:o.ExactDict)(hdat:o.data=.dict es ep)(hd:(d==sysModules)=false)
  (hQ:Q (.ref s.heap.objs.size) { s with heap:=s.heap.push { cls:=.type "dict_keyiterator",data:=.fields #[.ref d,.int 0 0,.int es.size 0,.int ep 0] } }):wpAny (model prog w) A (pyIter (.ref d)) Q E s:=by
 have hT:s.TypeIs (.ref d) "dict":=⟨o,ho,hx.1⟩
 have nd:¬((d==sysModules)=true):=by rw[hd];exact Bool.false_ne_true
 refine wpAny_pyIter_slot hT F.slot_dict_iter (wpAny_call_entry F.slot_dict_iter hT F.entry_dict_iter ?_ (F.args_dict_iter_1 _));unfold Builtin.«dict.__iter__» Builtin.Dict.dictSlotNone;refine ZZ (ZZ (wpAny_notOrdered_dict hT ?_));refine(show wpAny _ _ (pure (Value.ref d)) _ _ s from ZY ?_);refine(show wpAny _ _ (Builtin.Dict.showsAll d >>= _) _ _ s from ?_);unfold Builtin.Dict.showsAll;rw[if_neg nd];refine ZZ (ZY (ZZ (wpAny_dictEntries ho hdat (ZZ (wpAny_dictEpoch ho hdat ?_)))));refine ZZ (wpAny_newObj_type (ZY ⟨_,rfl,"dict_keyiterator",_,⟨_,Heap.get?_push_size _ rfl,rfl⟩,F.slot_dict_keyiterator_next.lookup,?_⟩));simpa[rawInt] using hQ
theorem A3{Q:Option Value->Shared->Prop}(hit:s.heap.IsKeyIter it d i es.size ep)(hod:s.heap.get? d=some o)(hdd:o.data=.dict es ep)(hi:i<es.size)
  (hQ:∀h',h'.IsKeyIter it d (i+1) es.size ep->Heap.SameBut it s.heap h'->Q (some es[i].key) { s with heap:=h' }):wpAny (model prog w) A (pyNext (.ref it)) Q E s:=by
 obtain⟨q,ho,hc,hd⟩:=id hit;have hown:Builtin.Dict_items.ownsTuple "dict_keyiterator" = false:=by decide
 unfold pyNext;refine ZZ (wpAny_attempt (wpAny_callSpecial?_slot (name:=Str.ofString "__next__") hit.typeIs F.slot_dict_keyiterator_next
  (wpAny_call_entry F.slot_dict_keyiterator_next hit.typeIs F.entry_dict_keyiterator_next (ZZ (ZY (ZZ (ZZ ?_)))) (F.args_dict_keyiterator_next_1 _))))
 first | refine ZZ (wpAny_typeNameOfWhole_keyiter hit.typeIs (ZY (ZZ (wpAny_fieldsOf ho hd ?_)))) | refine ZZ (wpAny_typeNameOf_keyiter hit.typeIs (ZY (ZZ (wpAny_fieldsOf ho hd ?_))))
 simp only[hown,Bool.false_eq_true,if_false];refine(show wpAny _ _ (if (Value.ref d==Value.none)=true then _ else _) _ _ s from ?_);rw[if_neg (λz:(Value.ref d==Value.none)=true=>Bool.false_ne_true z)];refine ZZ (ZY (ZZ (wpAny_dictEntries hod hdd ?_)));rw[if_neg (by simp)];refine ZZ (ZY (ZZ (wpAny_dictEpoch hod hdd ?_)));rw[if_neg (by simp)];refine ZY ?_;simp only[show ¬((i:Int)<0) by lia,if_false,Int.toNat_natCast,Array.getElem?_eq_getElem hi];refine ZZ ?_
 first | refine ZZ (wpAny_typeNameOfWhole_keyiter hit.typeIs (ZY (ZZ (wpAny_isOneOf_keyiter hit.typeIs ?_)))) | refine ZZ (wpAny_typeNameOf_keyiter hit.typeIs (ZY (ZZ (wpAny_isOneOf_keyiter hit.typeIs ?_))))
 refine(show wpAny _ _ (setField (.ref it) 1 (rawInt ((i:Int)+1)) >>= _) _ _ s from ZZ (wpAny_setField ho hd (by simp) ?_));have hit':(s.heap.update it (Obj.mapFields (·.setIfInBounds 1 (rawInt ((i:Int)+1))))).IsKeyIter it d (i+1) es.size ep :=
  ⟨_,Heap.get?_update_self _ ho (Obj.isFreed_of_fields (Obj.data_mapFields hd _)),(Obj.cls_mapFields ..).trans hc,by rw[Obj.data_mapFields hd];simp[rawInt]⟩
 refine ZZ (ZU (ZZ (wpAny_isOneOf_keyiter (s:={ s with heap:=s.heap.update it (Obj.mapFields (·.setIfInBounds 1 (rawInt ((i:Int)+1)))) }) hit'.typeIs ?_)));refine(show wpAny _ _ (pure es[i].key) _ _ _ from ?_);exact ZY (ZY ⟨_,rfl,ZY (hQ _ hit' (Heap.SameBut.update ..))⟩)
theorem E5{Q:Option Value->Shared->Prop}(hh:A.handled=none)(hit:s.heap.IsKeyIter it d i es.size ep)(hod:s.heap.get? d=some o)(hdd:o.data=.dict es ep)(hi:es.size<=i)
  (hQ:∀h',Heap.ExtBut it s.heap h'->Q none { s with heap:=h' }):wpAny (model prog w) A (pyNext (.ref it)) Q E s:=by
 obtain⟨q,ho,hc,hd⟩:=id hit;have hown:Builtin.Dict_items.ownsTuple "dict_keyiterator" = false:=by decide
 unfold pyNext;refine ZZ (wpAny_attempt (wpAny_callSpecial?_slot (name:=Str.ofString "__next__") hit.typeIs F.slot_dict_keyiterator_next
  (wpAny_call_entry F.slot_dict_keyiterator_next hit.typeIs F.entry_dict_keyiterator_next (ZZ (ZY (ZZ (ZZ ?_)))) (F.args_dict_keyiterator_next_1 _))))
 first | refine ZZ (wpAny_typeNameOfWhole_keyiter hit.typeIs (ZY (ZZ (wpAny_fieldsOf ho hd ?_)))) | refine ZZ (wpAny_typeNameOf_keyiter hit.typeIs (ZY (ZZ (wpAny_fieldsOf ho hd ?_))))
 simp only[hown,Bool.false_eq_true,if_false];refine(show wpAny _ _ (if (Value.ref d==Value.none)=true then _ else _) _ _ s from ?_);rw[if_neg (λz:(Value.ref d==Value.none)=true=>Bool.false_ne_true z)];refine ZZ (ZY (ZZ (wpAny_dictEntries hod hdd ?_)));rw[if_neg (by simp)];refine ZZ (ZY (ZZ (wpAny_dictEpoch hod hdd ?_)));rw[if_neg (by simp)];refine ZY ?_;simp only[show ¬((i:Int)<0) by lia,if_false,Int.toNat_natCast,Array.getElem?_eq_none hi];refine ZZ ?_
 first | refine ZZ (wpAny_typeNameOfWhole_keyiter hit.typeIs (ZY ?_)) | refine ZZ (wpAny_typeNameOf_keyiter hit.typeIs (ZY ?_))
 refine(show wpAny _ _ (setField (.ref it) 0 .none >>= _) _ _ s from ZZ (wpAny_setField ho hd (by simp) ?_));refine(show wpAny _ _ (newExc (.type "StopIteration") [] >>= _) _ _ _ from ZZ ?_);simp only[newExc,newTuple];refine ZZ (wpAny_newObj_type (ZZ (m:=firstArgMember _ _) (wpAny_of_eq (a:=Value.none) (by first | rfl | (simp only[firstArgMember];rfl)) ?_)) (by size_fits));refine wpAny_newObj_type ?_ (by size_fits);simp only[raiseNew];refine ZZ (wpAny_handled ?_);rw[show A.in1.handled=none from hh];refine ZZ (ZY (wpAny_throw ?_));refine ZZ (wpAny_isInstance (T:="StopIteration") (b:=true) ⟨_,Heap.get?_push_size _ rfl,rfl⟩ isSubtype_stop ?_);exact ZY (hQ _ (((Heap.SameBut.update ..).extBut.push _).push _))
theorem HG(hh:A.handled=none)(hne:d≠it)(hdd:o.data=.dict es ep) :
  Walks prog w A it [it,d] [it] es.size (λi v=>∃e,es[i]?=some e/\v=e.key) (λi h=>h.IsKeyIter it d i es.size ep/\h.get? d=some o) where
 sub:=λb hb=>by simp at hb;simp[hb]
 frame:=λ_ _ _ st hk=>⟨st.1.at λo e=>hk it (by simp) o e,hk d (by simp) o st.2⟩
 item:=λi s Q E hi st hQ=>A3 st.1 st.2 hdd hi λh' hit' hs' =>
  hQ _ h' s.toks ⟨es[i],by simp[hi],rfl⟩ ⟨hit',hs'.extBut d o hne st.2⟩ λb o hb e=>hs'.extBut b o (λh=>hb (by simp[h])) e
 done:=λs Q E st hQ=>E5 hh st.1 st.2 hdd (Nat.le_refl _) λh' he'=>hQ h' s.toks λb o hb e=>he' b o (λh=>hb (by simp[h])) e
 self:=λ_ _ _ _ st hQ=>wpAny_pyIter_keyiter st.1 hQ
end
def Old(wr:List Addr)(g h:Heap):Prop:=∀b o,b∉wr->g.get? b=some o->h.get? b=some o
section
variable{prog:Program}{w:World}{A:Around}{R:Result->Shared->Prop}{I:Addr}{fp wr:List Addr}{n:Nat}{P:Nat->Value->Prop}{St:Nat->Heap->Prop}
def N5(prog:Program)(w:World)(A:Around)(wr:List Addr)(g:Heap)(P:Nat->Value->Prop):Prop :=
 ∀u v (s:Shared) (Q:Value->Shared->Prop) (E:Value->Shared->Prop),(∃i,P i u)->(∃i,P i v)->Old wr g s.heap->(∀c,Q (.bool c) s)->wpAny (model prog w) A (richCompare .Lt u v) Q E s
theorem Old.upd{g h:Heap}{S:Addr}{f:Obj->Obj}(hg:g.get? S=none)(h1:Old wr g h):Old wr g (h.update S f):=λb o hb e =>
 (Heap.get?_update_other _ _ (λz=>by subst z;rw[hg]at e;cases e)).trans (h1 b o hb e)
theorem DG(W:Walks prog w A.in1 I fp wr n P St){g:Heap}(hc:N5 prog w A.in1 wr g P){S:Addr}(hS:S∉fp)(hg:g.get? S=none) :
  ∀(k j:Nat) (s:Shared) (vb:Value) (c:Nat),n-j=k->j<=n->St j s.heap->(∃i,P i vb)->Old wr g s.heap->s.heap.get? S=some { cls:=.type "list",dict:=none,data:=.seq #[vb,vb] c,slots:=#[] } ->
  (∀v h' tk,(∃i,P i v)->Old wr g h'->R (.ok (.ret v)) { s with heap:=h',toks:=tk })->codeAny (model prog w) A (.builtin "min.loop" ⟨[.ref I,.none,.ref S],[]⟩) R s:=by
 have hSw:S∉wr:=λh=>hS (W.sub _ h);have nm:(toString "min"++toString ".loop" : String)="min.loop":=by decide
 intro k;induction k with
 |zero =>
  intro j s vb c hk hj hst hb hO hs hR;have e:j=n:=by lia
  subst e;refine codeAny_builtin F.entry_min_loop ?_;rw[Around.under_plainId F.plain_min_loop _];refine(show wpAny _ A.in1 (seqItems? (.ref S) >>= _) _ _ s from ZZ (wpAny_seqItems hs rfl ?_));refine(show wpAny _ A.in1 (tryCatch (pyNext (.ref I)) _ >>= _) _ _ s from ZZ (wpAny_tryCatch (W.done s _ _ hst λh' tk hk'=>?_)));refine(show wpAny _ A.in1 (updateSeq S (λ_=>#[]) >>= _) _ _ _ from ZZ ?_);exact wpAny_updateSeq (hk' S _ hSw hs) rfl (ZZ (wpAny_letGo (ZY (hR vb _ tk hb (Old.upd hg λb o hb e=>hk' b o hb (hO b o hb e))))))
 |succ k ih =>
  intro j s vb c hk hj hst hb hO hs hR;have hlt:j<n:=by omega
  refine codeAny_builtin F.entry_min_loop ?_;rw[Around.under_plainId F.plain_min_loop _];refine(show wpAny _ A.in1 (seqItems? (.ref S) >>= _) _ _ s from ZZ (wpAny_seqItems hs rfl ?_));refine(show wpAny _ A.in1 (tryCatch (pyNext (.ref I)) _ >>= _) _ _ s from ZZ (wpAny_tryCatch (W.item j s _ _ hlt hst λv h' tk hP hst' hk'=>?_)));have hs':=hk' S _ hSw hs;have hO':Old wr g h':=λb o hb e=>hk' b o hb (hO b o hb e);refine(show wpAny _ A.in1 (tryCatch (holding [v,v] (richCompare .Lt v vb >>= _)) _ >>= _) _ _ _ from ZZ (wpAny_tryCatch (ZU (ZZ (hc v vb _ _ _ ⟨_,hP⟩ hb hO' λc=>?_)))));refine ZZ (ZU (wpAny_truthy_bool (ZZ (wpAny_letGo (ZY ?_)))));cases c with
  |true =>
   simp only[if_true];refine ZZ (wpAny_updateSeq hs' rfl (ZZ (wpAny_letGo ?_)));rw[nm];refine ZY ⟨plainId_quiet F.plain_min_loop _,ih (j+1) _ v _ (by omega) hlt (W.frame _ _ _ hst' λb hbf o e=>?_) ⟨_,hP⟩ (Old.upd hg hO') (Heap.get?_update_self _ hs' rfl) hR⟩;exact(Heap.get?_update_other _ _ (λh:S=b=>hS (by rw[h];exact hbf))).trans e
  |false =>
   simp only[Bool.false_eq_true,if_false];refine ZZ (wpAny_letGo ?_);rw[nm];exact ZY ⟨plainId_quiet F.plain_min_loop _,ih (j+1) _ vb _ (by omega) hlt hst' hb hO' hs' hR⟩
theorem DH{E:Value->Shared->Prop}{s:Shared}{x:Value}{Q:Value->Shared->Prop}
  (h:wpAny (model prog w) A.in1 (pyIter x) (λit s₂=>∃I fp wr n P St,it=.ref I/\Walks prog w A.in1 I fp wr n P St/\St 0 s₂.heap/\(∀b∈fp,b<s₂.heap.objs.size)/\0<n/\N5 prog w A.in1 wr s₂.heap P /\
   ∀v h' tk,(∃i,P i v)->Old wr s₂.heap h'->Q v { s₂ with heap:=h',toks:=tk }) E s) :
  wpAny (model prog w) A (call (.builtin "min") [x]) Q E s:=by
 have nm:(toString "min"++toString ".loop" : String)="min.loop":=by decide
 refine call_function_tree F.kind_min F.plain_min F.entry_min (F.args_min1 _) ?_;refine(show wpAny _ A.in1 (Builtin.Builtins.bindParams "min" ["key","default"] 0 ⟨[],[]⟩ >>= _) _ _ s from ZZ (wpAny_of_eq (show Builtin.Builtins.bindParams "min" ["key","default"] 0 ⟨[],[]⟩=pure [none,none] from rfl) ?_));refine ZZ (ZY (ZZ (ZX h (λit s₂ h₂=>?_) λ_ _ e=>e)));obtain⟨I,fp,wr,n,P,St,rfl,W,hst,hfp,hn,hc,hQ⟩:=h₂;refine ZZ (wpAny_newObj_type ?_);have hSf:s₂.heap.objs.size∉fp:=λhm=>Nat.lt_irrefl _ (hfp _ hm);have hg:s₂.heap.get? s₂.heap.objs.size=none:=by
  cases e:s₂.heap.get? s₂.heap.objs.size with
  |none=>rfl
  |some o=>exact absurd (Heap.lt_size e) (Nat.lt_irrefl _)
 have hSw:s₂.heap.objs.size∉wr:=λh=>hSf (W.sub _ h);rw[nm];refine ZY ⟨plainId_quiet F.plain_min_loop _,?_⟩;refine codeAny_builtin F.entry_min_loop ?_;rw[Around.under_plainId F.plain_min_loop _];refine(show wpAny _ A.in1 (seqItems? (.ref s₂.heap.objs.size) >>= _) _ _ _ from ZZ (wpAny_seqItems (Heap.get?_push_size _ rfl) rfl ?_));refine(show wpAny _ A.in1 (tryCatch (pyNext (.ref I)) _ >>= _) _ _ _ from ZZ (wpAny_tryCatch (W.item 0 _ _ _ hn (W.frame _ _ _ hst λb _ o e=>Heap.get?_push_of_some _ e) λv h' tk hP hst' hk'=>?_)));have hs':=hk' _ _ hSw (Heap.get?_push_size _ rfl);refine(show wpAny _ A.in1 (updateSeq s₂.heap.objs.size (λ_=>#[v,v]) >>= _) _ _ _ from ZZ (wpAny_updateSeq hs' rfl ?_));rw[nm];refine ZY ⟨plainId_quiet F.plain_min_loop _,DG W hc hSf hg _ 1 _ v _ rfl hn (W.frame _ _ _ hst' λb hbf o e=>?_) ⟨_,hP⟩ (Old.upd hg λb o hb e=>hk' b o hb (Heap.get?_push_of_some _ e)) (Heap.get?_update_self _ hs' rfl) hQ⟩;exact(Heap.get?_update_other _ _ (λh:s₂.heap.objs.size=b=>hSf (by rw[h];exact hbf))).trans e
end
end SO
namespace SO
open PySem PyProof PyProof.Rows
section
variable{prog:Program}{w:World}{A:Around}{E:Value->Shared->Prop}{s:Shared}{a b:Addr}{oa ob:Obj}{es es':Array DictEntry}{ep ep':Nat}
theorem M7{Q:Value->Shared->Prop}(hu:A.units<cLine)(ha:(a==sysModules)=false)(hb:(b==sysModules)=false)(hoa:s.heap.get? a=some oa)(hxa:oa.ExactDict)(hda:oa.data=.dict es ep)(hob:s.heap.get? b=some ob)(hxb:ob.ExactDict)
  (hdb:ob.data=.dict es' ep') (he:es'.size=0) (h:Q (.bool (decide (es.size=0))) s):wpAny (model prog w) A (compareOp .Eq (.ref a) (.ref b)) Q E s:=by
 have ta:s.TypeIs (.ref a) "dict":=⟨oa,hoa,hxa.1⟩
 have tb:s.TypeIs (.ref b) "dict":=⟨ob,hob,hxb.1⟩
 have na:¬((a==sysModules)=true):=by rw[ha];exact Bool.false_ne_true
 have nb:¬((b==sysModules)=true):=by rw[hb];exact Bool.false_ne_true
 refine wpAny_richCompare_same_room (op:=.Eq) ta tb PySem.F.slot_dict_eq (wpAny_call_entry PySem.F.slot_dict_eq ta PySem.F.entry_dict_eq ?_ (PySem.F.args_dict_eq_2 _ _)) hu;refine(show wpAny _ _ (Builtin.Dict.dictSlotArgs "__eq__" ⟨[.ref a,.ref b],[]⟩ >>= _) _ _ s from ZZ ?_);unfold Builtin.Dict.dictSlotArgs;refine ZZ (wpAny_notOrdered_dict ta ?_);refine(show wpAny _ _ (pure (Value.ref a,Value.ref b)) _ _ s from ZY ?_);refine ZZ (wpAny_isInstance (T:="dict") tb PySem.F.sub_dict_dict ?_);simp only[Bool.not_true,Bool.false_eq_true,if_false];refine ZZ (ZY (ZZ (ZY (ZZ ?_))));unfold Builtin.Dict.samePairs Builtin.Dict.showsAll;rw[if_neg na,if_neg nb];refine ZZ (ZY (ZZ (ZY (ZZ (wpAny_dictEntries hoa hda ?_)))));dsimp only;refine ZZ (wpAny_dictEntries hob hdb ?_);by_cases hz:es.size=0
 ·rw[if_neg (by rw[hz,he];simp)];refine ZZ (wpAny_dictEpoch hoa hda (ZZ ?_));rw[Std.Legacy.Range.forIn_eq_forIn_range'];simp only[Std.Legacy.Range.size,Nat.sub_zero,Nat.add_sub_cancel,Nat.div_one,hz,List.range'_zero,List.forIn_nil];refine ZY (ZY (ZY ⟨_,rfl,(λx=>nomatch x),?_⟩));rw[decide_eq_true hz]at h;exact h
 ·rw[if_pos (by rw[he];simpa using hz)];refine ZZ (wpAny_rule (ZY (ZY ⟨_,rfl,(λx=>nomatch x),?_⟩)));rw[decide_eq_false hz]at h;exact h
end
end SO
namespace L2
open PySem PySem.Spec PyProof.Rows
section
variable{X:Cx}
def O0:V->List V->Hp->VK->Prop:=λx vs H Q=>∃(l:Addr) (ns:List Int) (k:Int),x=.ref l/\vs=[.int k]/\H l=some (.lst (ns.map V.int))/\Q (.int (ns.count k:Nat)) H
theorem A4:MtM X "list.count" O0:=by
 intro pins s σ H x vs v us Q I rx rv h;obtain⟨l,ns,k,rfl,rfl,hH,q⟩:=h;cases rx;obtain⟨u,rfl,t,rfl⟩:=rv.one;obtain⟨z,its,n,r,hl,e⟩:=I.lstM hH;exact count_list_ints ⟨_,e,rfl,n,rfl⟩ (intsAre_of r) ⟨.int _,H,I.tok _,⟨_,rfl⟩,q⟩
def SY:R2:=λx y H Q=>∃(a b:Addr) (kvs:List (List Key×V)),x=.ref a/\y=.ref b/\Rd H a (.dT kvs)/\Rd H b (.dT [])/\Q (.bl (decide (kvs.length=0))) H
theorem PL(hu:X.A.units<cLine):OpR X (compareOp .Eq) SY:=by
 intro pins s σ H x y v u Q I rx ry h;obtain⟨a,b,kvs,rfl,rfl,ha,hb,q⟩:=h;cases rx;cases ry;obtain⟨_,na,xs,ra,oa,es,ep,ga,xa,da,ea,_⟩:=mY I.hok ha;obtain⟨_,nb,ys,rb,ob,es',ep',gb,xb,db,eb,_⟩:=mY I.hok hb;cases rb;have h1:es.size=kvs.length:=by rw[size_of_entries ea,<-Paired.length ra]
 refine SO.M7 hu na nb ga xa da gb xb db (size_of_entries eb) ⟨.bl _,H,I,rfl,?_⟩;rw[h1];exact q
theorem J1{H:Hp}:∀{kvs:List (List Key×V)}{xs:List (List Key×Addr×Value)}{i:Nat}{q:List Key×Addr×Value},KT H kvs xs->xs[i]?=some q->∃p,kvs[i]?=some p/\p.1=q.1/\H q.2.1=some (.tup (p.1.map kV))/\RelV p.2 q.2.2
 |_,_,_,_,.nil,e=>by simp at e
 |_,_,0,_,.cons (a:=p) r _,e=>by
  simp at e;subst e;exact⟨p,rfl,r⟩
 |_,_,i+1,q,.cons _ t,e=>by
  obtain⟨p,h1,h2⟩:=J1 (i:=i) (q:=q) t (by simpa using e);exact⟨p,by simpa using h1,h2⟩
theorem kt_at{P:Program}{w:World}{H:Hp}{kvs:List (List Key×V)}{xs:List (List Key×Addr×Value)}{es:Array DictEntry}{i:Nat}{e:DictEntry}(r:KT H kvs xs)(ee:es.toList=xs.map (entryOfKey (tupleKind (cM P w))))(h:es[i]?=some e) :
  ∃(p:List Key×V) (b:Addr),kvs[i]?=some p/\e.key=.ref b/\H b=some (.tup (p.1.map kV)):=by
 rw[entry_at ee]at h;obtain⟨q,h1,rfl⟩:=Xk.mp h;obtain⟨p,g1,_,g3,_⟩:=J1 r h1;exact⟨p,q.2.1,g1,rfl,g3⟩
theorem GU(hc:X.calm=true)(hu:X.A.in1.units<cLine):iK X (.builtin "min") (λxs H Q=>∃(d:Addr) (kvs:List (List Key×V)),xs=[.ref d]/\H d=some (.dT kvs)/\0<kvs.length/\(∀p∈kvs,∃ns:List Int,p.1.map kV=ns.map V.int) /\
  ∀(p:List Key×V) (b:Addr),p∈kvs->H b=some (.tup (p.1.map kV))->Q (.ref b) H):=by
 intro pins s σ H xs us Q I r h;obtain⟨d,kvs,rfl,hd,h0,hn,q⟩:=h;obtain⟨u,rfl,rx⟩:=vals1 r;cases rx;obtain⟨_,nd,ys,rk,o,es,ep,go,xo,dat,ee,_⟩:=KO I.hok hd;have hsz:es.size=kvs.length:=by rw[size_of_entries ee,<-Paired.length rk]
 have hlt:=Heap.lt_size go;refine SO.DH (SO.BG go xo dat nd ?_);refine⟨s.heap.objs.size,_,[s.heap.objs.size],es.size,_,_,rfl,SO.HG (A:=X.A.in1) (show X.A.in1.handled=none from I.ok.hd hc) (Nat.ne_of_lt hlt) dat,⟨⟨_,Heap.get?_push_size _ rfl,rfl,rfl⟩,Heap.get?_push_of_some _ go⟩,λb hb=>?_,by lia,?_,λv h' tk hv hk=>?_⟩
 ·have hp:=Heap.lt_size (Heap.get?_push_size s.heap (o:={ cls:=.type "dict_keyiterator",data:=.fields #[.ref d,.int 0 0,.int es.size 0,.int ep 0] }) rfl);simp only[Zn,List.not_mem_nil,or_false]at hb;rcases hb with rfl | rfl
  ·exact hp
  ·exact Nat.lt_trans hlt hp
 ·rintro u v s' Q' E' ⟨i,e,he,rfl⟩ ⟨j,f,hf,rfl⟩ hO hq;obtain⟨p1,b1,g1,k1,t1⟩:=kt_at rk ee he;obtain⟨p2,b2,g2,k2,t2⟩:=kt_at rk ee hf;rw[k1,k2];obtain⟨n1,e1⟩:=hn p1 (Zg g1);obtain⟨n2,e2⟩:=hn p2 (Zg g2);rw[e1]at t1;rw[e2]at t2;obtain⟨its1,r1,⟨o1,z1,c1,m1,d1⟩,_⟩:=I.tuple (SqT.of t1);obtain⟨its2,r2,⟨o2,z2,c2,m2,d2⟩,_⟩:=I.tuple (SqT.of t2);have old:∀{b:Addr}{o:Obj},s.heap.get? b=some o->s'.heap.get? b=some o:=λ{b o} e=>hO b o (by simp only[Zn,List.not_mem_nil,or_false];exact Nat.ne_of_lt (Heap.lt_size e)) (Heap.get?_push_of_some _ e);exact SO.MR (A:=X.A.in1) hu (old z1) c1 d1 (old z2) c2 d2 (intsAre_of r1) (intsAre_of r2) hq
 ·obtain⟨i,e,he,rfl⟩:=hv;obtain⟨p,b,g1,k1,t1⟩:=kt_at rk ee he;rw[k1];refine⟨.ref b,H,I.kept (h':=h') (t':=tk) λc o e=>hk c o ?_ (Heap.get?_push_of_some _ e),rfl,q p b (Zg g1) t1⟩;simp only[Zn,List.not_mem_nil,or_false];exact Nat.ne_of_lt (Heap.lt_size e)
theorem Inv.freezeT{pins:List (Addr×Obj)}{σ:St}{H:Hp}{s:Shared}{d:Addr}{kvs:List (List Key×V)}{o:Obj}(I:Inv X pins σ H s)(hd:H d=some (.dT kvs))(ho:s.heap.get? d=some o):Inv X pins σ (upd H d (.frz o (.dT kvs))) s:=by
 have ne:∀b u,H b=some u->(∀z,u≠.dT z)->b≠d:=λb u e z q=>by subst q;rw[hd]at e;cases e;exact z _ rfl
 refine I.step (h':=s.heap) (g':=s.gens) (d':=s.drawn) (t':=s.toks) (ch:=[]) (λ_ z=>nomatch z) (λb o' _ _ _ e _=>e) (λb o' _ _ _ e _=>⟨o'.slots,e⟩) (λb o' _ _ e=>?_) (λb o' _ e=>⟨o',e⟩) (λb xs e=>?_) (λb ob u e=>?_) (λb ps e=>⟨#[],?_⟩) (λm h=>h) (λb u e=>?_) I.bare
 ·rw[aH (λq=>by subst q;rw[hd]at e;cases e)];exact e
 ·rw[aH (ne b _ e λz q=>by cases q)];exact e
 ·rw[aH (ne b _ e λz q=>by cases q)];exact e
 ·rw[aH (ne b _ e λz q=>by cases q),e];simp
 ·by_cases hb:b=d
  ·subst hb;rw[aB]at e;cases e;refine⟨ho,(I.hok _ _ hd).stay (λc v _ q=>q) (λc q=>?_) λc xs q=>?_⟩
   ·rw[aH (ne c _ q λz q'=>by cases q')];exact q
   ·rw[aH (ne c _ q λz q'=>by cases q')];exact q
  ·rw[aH hb]at e;exact(I.hok b u e).stay (λc v _ q=>q) (λc q=>by rw[aH (ne c _ q λz q'=>by cases q')];exact q) λc xs q=>by rw[aH (ne c _ q λz q'=>by cases q')];exact q
def ItK(d:Addr)(o:Obj)(kvs:List (List Key×V)):It :=
 ⟨λi H=>H d=some (.frz o (.dT kvs))/\i<kvs.length,λi H v H'=>H'=H/\∃T p,kvs[i]?=some p/\v=.ref T/\H T=some (.tup (p.1.map kV)),λi H=>H d=some (.frz o (.dT kvs))/\kvs.length<=i⟩
theorem FP{P:Program}{w:World}{K:PySem.W.Frag}{tg:Expr}(d it:Addr)(o:Obj)(kvs:List (List Key×V)){es:Array DictEntry}{ep:Nat}(hdat:o.data=.dict es ep)(hsz:es.size=kvs.length) :
  Turn P w K tg (ItK d o kvs) [it] it (λi h=>h.IsKeyIter it d i es.size ep) where
 mem:=by simp
 obj:=λi h st b hb=>by
  have e':=Zb.mp hb;subst e';obtain⟨q,e,c,dd⟩:=st;exact⟨q,e,λv z=>by rw[dd]at z;cases z⟩
 keep:=λi h h' st k=>st.at λo e=>k it (by simp) o e
 item:=by
  intro X hP hw hK hc i pins s σ H E I hf st hg;subst hP hw hK;obtain⟨hfz,hi⟩:=hg;have ho:s.heap.get? d=some o:=(show cG X.prog X.w H s.heap d (.frz o (.dT kvs)) from I.hok d _ hfz).1;obtain⟨_,_,xs,rk,o',es',ep',ho',_,hd',ee,_⟩:=mY I.hok (Or.inr ⟨o,hfz⟩);rw[ho]at ho';cases ho';rw[hdat]at hd';cases hd';have hi':i<es.size:=by lia
  obtain⟨f0,f1,f2,f3,f4,f5⟩:=hf it (by simp);obtain⟨p,b,g1,k1,t1⟩:=kt_at rk ee (Array.getElem?_eq_getElem hi');refine SO.A3 st ho hdat hi' λh' st' sb=>?_;rw[k1];have I1:Inv X pins σ H { s with heap:=h' }:=I.turned (t':=s.toks) (λb o hb e=>(sb.2 b hb).trans e) f0 f1 f3 f4 f5;obtain⟨q,e,c,dd⟩:=id st';exact⟨_,rfl,KC (s:={ s with heap:=h' }) e c dd (by decide) ⟨.ref b,H,I1,rfl,⟨rfl,b,p,g1,rfl,t1⟩,st',λb hb=>(hf b hb).1⟩⟩
 done:=by
  intro X hP hw hK hc i pins s σ H E I hf st hg;subst hP hw hK;obtain⟨hfz,hi⟩:=hg;have ho:s.heap.get? d=some o:=(show cG X.prog X.w H s.heap d (.frz o (.dT kvs)) from I.hok d _ hfz).1;obtain⟨f0,f1,f2,f3,f4,f5⟩:=hf it (by simp);exact SO.E5 (I.ok.hd hc) st ho hdat (by lia) λh' eb=>⟨rfl,I.turned (t':=s.toks) (λb o hb e=>eb b o hb e) f0 f1 f3 f4 f5⟩
 self:=λ_ _ _ _ _ st h=>wpAny_pyIter_keyiter st h
def RU(tl:TE):TI:=λσ H R=>tl σ H λx H1=>∃(d:Addr) (kvs:List (List Key×V)),x=.ref d/\H1 d=some (.dT kvs)/\∀o,R (ItK d o kvs) (upd H1 d (.frz o (.dT kvs)))
theorem MC{tg l:Expr}{tl:TE}(hl:PE X l tl):PI X tg l (RU tl):=by
 intro pins s σ H R I h;refine thn (hl pins s σ H _ I h) λv s1 ⟨x,H1,I1,r1,d,kvs,ex,hd,q⟩=>?_;subst ex;cases r1;obtain⟨_,nd,ys,rk,o,es,ep,go,xo,dat,ee,_⟩:=KO I1.hok hd;have hsz:es.size=kvs.length:=by rw[size_of_entries ee,<-Paired.length rk]
 refine SO.BG go xo dat nd ?_;have I2:=I1.freezeT hd go;refine⟨s1.heap.objs.size,[s1.heap.objs.size],_,_,_,rfl,I2.kept (t':=s1.toks) λb o e=>Heap.get?_push_of_some _ e,FP d _ o kvs dat hsz,⟨_,Heap.get?_push_size _ rfl,rfl,rfl⟩,λb hb=>?_,q o⟩;have e':=Zb.mp hb;subst e';exact I2.fpOk (Nat.le_refl _) (I2.hok.fresh (Nat.le_refl _))
end
theorem KF{d:Addr}{o:Obj}{kvs:List (List Key×V)}{g:TG}{tb:TS}{D:Ends}{σ:St}{H:Hp}(Pv:Nat->St->Hp->Prop)(h0:Pv 0 σ H)(hl:∀i σ H,i<=kvs.length->Pv i σ H->H d=some (.frz o (.dT kvs)))
  (hs:∀(i:Nat) p σ H T,kvs[i]?=some p->Pv i σ H->H T=some (.tup (p.1.map kV))->g (.ref T) σ H λσ2 H2=>tb { D with nx:=Pv (i+1),ct:=Pv (i+1),bk:=D.nx } σ2 H2) (hd:∀σ H,Pv kvs.length σ H->D.nx σ H) :
  ∃W:Nat->Nat->St->Hp->Prop,(∃m,W 0 m σ H)/\∀i m σ H,W i m σ H ->
   ((ItK d o kvs).stop i H/\D.nx σ H)\/((ItK d o kvs).go i H/\∃N:St->Hp->Prop,(∀σ' H',N σ' H'->∃m',m' < m/\W (i+1) m' σ' H')/\∀x H',(ItK d o kvs).yld i H x H'->g x σ H' λσ2 H2=>tb { D with nx:=N,ct:=N,bk:=D.nx } σ2 H2):=by
 refine⟨λi m σ H=>m=kvs.length-i/\i<=kvs.length/\Pv i σ H,⟨kvs.length,by simp,Nat.zero_le _,h0⟩,?_⟩;rintro i m σ H ⟨rfl,hi,p⟩;have q:=hl i σ H hi p;by_cases hlt:i<kvs.length
 ·refine .inr ⟨⟨q,hlt⟩,Pv (i+1),λσ' H' p'=>⟨kvs.length-(i+1),by omega,rfl,hlt,p'⟩,λx H' y=>?_⟩;obtain⟨rfl,T,kv,e,rfl,hT⟩:=y;exact hs i kv σ _ T e p hT
 ·have e:i=kvs.length:=by lia
  subst e;exact .inl ⟨⟨q,Nat.le_refl _⟩,hd σ H p⟩
end L2
namespace L2
open PySem PySem.Spec PyProof.Rows
structure M2(X:Cx)(o:Expr)(m:Str)(apos:Pos)(e f:Expr)(cpos:Pos):Prop where
 base:attributeBase o m X.env (eval o X.env)=eval o X.env
 few:((backTo cpos (starEach [e,f] X.env)).all (λx=>!x.1)&&(backToKw cpos (keywordEach [] X.env)).all (λx=>x.1.isSome)
  && decide (([e,f]:List Expr).length+([]:List Keyword).length+(if ([]:List Keyword).isEmpty then 0 else 1)<30))=true
 line:(apos.endLine==cpos.line)=true
 trees:backTo cpos (starEach [e,f] X.env)=[(false,eval e X.env),(false,eval f X.env)]
def IsD(H:Hp)(a:Addr):Prop:=(∃kvs,Rd H a (.dK kvs))\/∃kvs,Rd H a (.dT kvs)
theorem P8{X:Cx}{pins:List (Addr×Obj)}{σ:St}{H:Hp}{s:Shared}{a:Addr}(I:Inv X pins σ H s)(d:IsD H a) :
  s.TypeIs (.ref a) "dict"/\(∀b,Value.ref a=.ref b->∃ob,s.heap.get? b=some ob/\ob.dict=none)/\(a==sysModules)=false:=by
 rcases d with⟨kvs,e⟩ | ⟨kvs,e⟩
 ·obtain⟨_,hd,vs,_,dd⟩:=pH I.hok e;refine⟨dd.typeIs,λb q=>?_,hd⟩;cases q;obtain⟨ob,_,_,h1,h2,_⟩:=dd;exact⟨ob,h1,h2.2.1⟩
 ·obtain⟨_,hd,xs,_,dd⟩:=mY I.hok e;refine⟨dd.typeIs,λb q=>?_,hd⟩;cases q;obtain⟨ob,_,_,h1,h2,_⟩:=dd;exact⟨ob,h1,h2.2.1⟩
section
variable{X:Cx}{pins:List (Addr×Obj)}{σ:St}{H:Hp}{s:Shared}{a:Addr}{y d:V}{u r:Value}{o:Option V}{A:Around}{E:Value->Shared->Prop}
theorem QE{Q:Value->Shared->Prop}(hu:A.units+1<cLine)(I:Inv X pins σ H s)(g:iJ H a y o)(ry:RelV y u)(rd:RelV d r)(h:∀w' s',Inv X pins σ H s'->RelV (o.getD d) w'->Q w' s') :
  wpAny (model X.prog X.w) A (call (.builtin "dict.get") [.ref a,u,r]) Q E s:=by
 rcases g with⟨kvs,k,e,ey,l⟩ | ⟨kvs,k,b,e,ey,eb,l⟩
 ·subst ey;obtain⟨z,hd,vs,rel,dd⟩:=pH I.hok e;refine call_meetsIn PySem.F.slot_dict_get dd.typeIs PySem.F.entry_dict_get (PySem.F.args_dict_get_3 _ _ _) (meets_dict_get_default (cM X.prog X.w) a (uG ry) hd r) ⟨_,dd.mapOf,h _ _ (I.tok _) ?_⟩;rw[l];exact(rel.val k).getD rd
 ·subst ey;cases (show u=Value.ref b from ry);obtain⟨z,hd,xs,rel,dd⟩:=mY I.hok e;refine call_meetsIn PySem.F.slot_dict_get dd.typeIs PySem.F.entry_dict_get (PySem.F.args_dict_get_3 _ _ _) (meetsH_dict_get_default (tupleKind (cM X.prog X.w)) a b hd r) ⟨tupleKind_room_in1 hu,k,xs,qQ I.hok eb,dd,h _ _ (I.tok _) ?_⟩;rw[l];exact(rel.val k).getD rd
end
def OK(td ty tx:TE):TE:=λσ H Q=>td σ H λx H1=>∃a,x=.ref a/\IsD H1 a/\ty σ H1 λy H2=>tx σ H2 λz H3=>∃o,iJ H3 a y o/\Q (o.getD z) H3
section
variable{X:Cx}{o e f:Expr}{apos cpos:Pos}{td ty tx:TE}
theorem IW(hu:X.A.units+1<cLine)(ho:PE X o td)(he:PE X e ty)(hf:PE X f tx)(m:M2 X o "get" apos e f cpos):PE X (.Call (.Attribute o "get" apos) [e,f] [] cpos) (OK td ty tx):=by
 intro pins s σ H Q I h;refine wpAny_Call_method m.base m.few m.line PySem.F.plainAttrs_dict PySem.F.slot_dict_get PySem.F.type_dict_get (thn (ho pins s σ H _ I h) λu s1 ⟨x,H1,I1,rx,a,ex,d,q1⟩=>?_);subst ex;obtain rfl:u=Value.ref a:=rx;obtain⟨t1,t2,_⟩:=P8 I1 d;refine⟨t1,t2,?_⟩;rw[m.trees];refine Calls.callWith_builtin rfl (Calls.evalArgs_plain (Calls.spliced_cons (thn (he pins s1 σ H1 _ I1 q1) λiv s2 ⟨y,H2,I2,ry,q2⟩ =>
  Calls.spliced_cons (thn (hf pins s2 σ H2 _ I2 q2) λfv s3 ⟨z,H3,I3,rz,ov,g,q3⟩=>Calls.spliced_nil ?_))))
 exact QE hu I3 g ry rz λw' s4 I4 rw'=>⟨_,H3,I4,rw',q3⟩
end
end L2
namespace L2
open PySem PySem.Spec PyProof.Rows
def CM:List (TE×TE)->St->Hp->(List (V×V)->Hp->Prop)->Prop
 |[],_,H,Q=>Q [] H
 |(tk,tv)::r,σ,H,Q=>tk σ H λx H1=>tv σ H1 λy H2=>CM r σ H2 λps H3=>Q ((x,y)::ps) H3
abbrev VV:List (V×V)->List (Value×Value)->Prop:=Paired λp q=>RelV p.1 q.1/\RelV p.2 q.2
def PPs(X:Cx)(pos:Pos)(keys:List (Option Expr))(values:List Expr)(trs:List (TE×TE)):Prop :=
 ∀(pins:List (Addr×Obj)) (s:Shared) (σ:St) (H:Hp) (Q:List (V×V)->Hp->Prop),Inv X pins σ H s->CM trs σ H Q ->
  wpAny (model X.prog X.w) X.A (evalPairs (pairTrees keys values X.env pos)) (λvs s'=>∃ps H',Inv X pins σ H' s'/\VV ps vs/\Q ps H') X.xe s
theorem L9{X:Cx}{pos:Pos}:PPs X pos [] [] []:=λpins s σ H Q I h=>pairTrees_nil_walk ⟨[],H,I,.nil,h⟩
theorem IM{X:Cx}{pos:Pos}{k v:Expr}{ks:List (Option Expr)}{vs:List Expr}{tk tv:TE}{trs:List (TE×TE)}(hk:PE X k tk)(hv:PE X v tv)(hr:PPs X pos ks vs trs) :
  PPs X pos (some k::ks) (v::vs) ((tk,tv)::trs):=λpins s σ H Q I h =>
 pairTrees_cons_walk (thn (hk pins s σ H _ I h) λu s1 ⟨x,H1,I1,rx,q1⟩=>thn (hv pins s1 σ H1 _ I1 q1) λw2 s2 ⟨y,H2,I2,ry,q2⟩ =>
  thn (hr pins s2 σ H2 _ I2 q2) λws s3 ⟨ps,H3,I3,rel,q3⟩=>⟨(x,y)::ps,H3,I3,.cons ⟨rx,ry⟩ rel,q3⟩)
def qP(kvs more:List (Key×V)):List (Key×V):=more.foldl (λacc kv=>putK acc kv.1 kv.2) kvs
theorem KV.merge:∀{more:List (Key×V)}{rs:List (Key×Value)}{kvs:List (Key×V)}{vs:List (Key×Value)},KV more rs->KV kvs vs->KV (qP kvs more) (merged vs rs):=by
 intro more rs kvs vs r;unfold KV at r;induction r generalizing kvs vs with
 |nil=>intro q;exact q
 |@cons p q ps qs h t ih =>
  intro r0;have e:KV (putK kvs p.1 p.2) (stored vs q.1 q.2):=by
   have:=r0.put p.1 h.2;rw[<-h.1];exact this
  exact ih e
theorem mX:∀(more kvs:List (Key×V)),(qP kvs more).length<=kvs.length+more.length
 |[],kvs=>by show kvs.length<=kvs.length+0;lia
 |p::r,kvs=>by
  have h1:=mX r (putK kvs p.1 p.2);have h2:=bQ kvs p.1 p.2;show(qP (putK kvs p.1 p.2) r).length<=_;rw[Yq];lia
theorem vL{P:Program}{w:World}:∀{kvs:List (Key×V)}{ws:List (Value×Value)},VV (kvs.map λkv=>(kV kv.1,kv.2)) ws->∃rs,Carries (cM P w) ws rs/\KV kvs rs
 |[],_,r=>by rw[List.map_nil]at r;cases r;exact⟨[],True.intro,.nil⟩
 |p::kvs,_,r=>by
  rw[List.map_cons]at r;cases r with
  |@cons a b as bs h t =>
   obtain⟨rs,c,q⟩:=vL (P:=P) (w:=w) t;obtain⟨b1,b2⟩:=b;exact⟨(p.1,b2)::rs,⟨uG h.1,rfl,c⟩,.cons ⟨rfl,h.2⟩ q⟩
def Q1(trs:List (TE×TE)):TE:=λσ H Q=>∀p,H p=none->CM trs σ (upd H p (.dK [])) λps H2=>H2 p=some (.dK [])/\∃kvs:List (Key×V),ps=kvs.map (λkv=>(kV kv.1,kv.2))/\kvs.length<=15/\Q (.ref p) (upd H2 p (.dK (qP [] kvs)))
theorem ME{X:Cx}{pos:Pos}{keys:List (Option Expr)}{values:List Expr}{trs:List (TE×TE)}(h:PPs X pos keys values trs)(hall:keys.all (·.isSome)=true)(hl:keys.length=values.length)(h0:keys≠[])
  (h15:keys.length<=15):PE X (.Dict keys values pos) (Q1 trs):=by
 intro pins s σ H Q I q;have hn:=I.hok.fresh (Nat.le_refl s.heap.objs.size);have I1:=I.laid (a:=s.heap.objs.size) (o:=.dK []) (h':=s.heap.push { cls:=.type "dict",data:=.dict #[] }) (t':=s.toks) (λ_ _ q=>Heap.get?_push_of_some _ q) (Nat.le_refl _) (KR s.heap I.big);refine wpAny_Dict_walk (knd:=cM X.prog X.w) hall hl h0 h15 (thn (h pins _ σ _ _ I1 (q _ hn)) λws s2 ⟨ps,H2,I2,rel,e,kvs,ep,lk,q2⟩=>?_);subst ep;obtain⟨rs,c,rk⟩:=vL (P:=X.prog) (w:=X.w) rel;obtain⟨z,hd,vs0,r0,dd⟩:=NZ I2.hok e;cases r0;refine⟨rs,c,dd,λh' dd' hs=>⟨.ref s.heap.objs.size,_,?_,rfl,q2⟩⟩;have hz:(qP [] kvs).length<=ZW:=by
  have h1:=mX kvs [];rw[List.length_nil]at h1;rw[sizeLine_eq];lia
 have he:∃q,h'.get? s.heap.objs.size=some q:=let⟨q,_,_,hq,_⟩:=dd';⟨q,hq⟩;exact zL I2 (by rw[e];exact True.intro) hs he (KQ hz hd (rk.merge .nil) dd')
section
variable{X:Cx}
theorem GW:iK X (.builtin "len") (λxs H Q=>∃a kvs,xs=[V.ref a]/\H a=some (.dK kvs)/\Q (.int kvs.length) H):=by
 intro pins s σ H xs us Q I r h;obtain⟨a,kvs,rfl,ha,q⟩:=h;obtain⟨u,rfl,ru⟩:=vals1 r;cases ru;exact R0 I (.inl ha) λt s' I'=>⟨.int kvs.length,H,I',⟨t,rfl⟩,q⟩
end
end L2
namespace L2
open PySem PySem.Spec PyProof.Rows
section
variable{X:Cx}
def L5:V->List V->Hp->VK->Prop:=λx vs H Q=>∃(l:Addr) (ns:List Int) (v:Int),x=.ref l/\vs=[.int v]/\H l=some (.lst (ns.map V.int))/\v∈ns/\Q (vn (ns.idxOf v)) H
theorem qO:MtM X "list.index" L5:=by
 intro pins s σ H x vs v us Q I rx rv h;obtain⟨l,ns,k,rfl,rfl,hH,hm,q⟩:=h;cases rx;obtain⟨u,rfl,t,rfl⟩:=rv.one;obtain⟨z,its,n,r,hl,e⟩:=I.lstM hH;have hlen:its.length=ns.length:=by rw[<-hl];simp
 have hj:ns.idxOf k<ns.length:=List.idxOf_lt_length_of_mem hm;have item:∀(m:Nat) (hm:m<its.toArray.size),eqU (.int k) its.toArray[m]=(ns[m]'(by simpa[hlen] using hm)==k):=λm hm'=>by
  have hm2:m<ns.length:=by simpa[hlen] using hm'
  have hx:(ns.map V.int)[m]?=some (.int ns[m]):=by rw[Zk,Zz hm2];rfl
  obtain⟨u',hu',ru'⟩:=r.get hx;have e1:its.toArray[m]=u':=by
   have:its[m]?=some its.toArray[m]:=by simp at hm' ⊢
   rw[this]at hu';exact Option.some.inj hu'
  rw[e1,zK ru' rfl];rfl
 have hsm:((ns.idxOf k:Nat):Int)<2 ^ 63-1:=by
  have h1:=kG;have h2:(ns.map V.int).length=ns.length:=by simp
  lia
 refine call_meets F.slot_list_index ⟨_,e,rfl⟩ F.entry_list_index (F.args_list_index_2 _ _) (SeqAt.list_indexAt l its.toArray n none #[] (.int k t) (eqU (.int k)) (ns.idxOf k) (by simpa[hlen] using hj) hsm ?_ ?_) ⟨e,λy hy=>?_,?_⟩
 ·rw[item];simp
 ·intro m hm' hlt;rw[item];have:=List.not_of_lt_findIdx (p:=(·==k)) (xs:=ns) (i:=m) hlt;simpa using this
 ·have fl:(ns.map V.int).all lS=true:=by rw[List.all_eq_true];intro y hy;obtain⟨n,_,rfl⟩:=Zh.mp hy;rfl
  exact jB (x:=.int k) ⟨t,rfl⟩ rfl r fl y (by simpa using hy)
 ·exact⟨vn (ns.idxOf k),H,I.tok _,⟨_,rfl⟩,q⟩
end
end L2
namespace L2
open PySem PySem.Spec PyProof.Rows
def cD(H H':Hp):Prop:=∀b o,H b=some o->H' b=some o\/((∃ps,o=.tbl ps)/\∃ps,H' b=some (.tbl ps))
theorem aW.st{H H':Hp}(g:aW H H'):cD H H':=λb o h=>.inl (g b o h)
theorem cD.trans{H H1 H2:Hp}(a:cD H H1)(b:cD H1 H2):cD H H2:=λc o h=>by
 rcases a c o h with z | ⟨z1,ps,z2⟩
 ·exact b c o z
 ·rcases b c _ z2 with w | ⟨_,w⟩
  ·exact .inr ⟨z1,ps,w⟩
  ·exact .inr ⟨z1,w⟩
theorem cD.k{H H':Hp}(g:cD H H'){b:Addr}{o:HO}(n:∀ps,o≠.tbl ps)(h:H b=some o):H' b=some o:=(g b o h).resolve_right λ⟨⟨ps,z⟩,_⟩=>n ps z
theorem cD.l{H H':Hp}(g:cD H H'){b:Addr}{xs:List V}(h:H b=some (.lst xs)):H' b=some (.lst xs):=g.k (λ_ z=>by cases z) h
theorem cD.t{H H':Hp}(g:cD H H'){b:Addr}{xs:List V}(h:H b=some (.tup xs)):H' b=some (.tup xs):=g.k (λ_ z=>by cases z) h
theorem cD.free{H H':Hp}(g:cD H H'){l:Addr}(h:H' l=none):H l=none:=by
 cases q:H l with
 |none=>rfl
 |some o =>
  rcases g l o q with z | ⟨_,_,z⟩
  ·rw[h]at z;cases z
  ·rw[h]at z;cases z
def v8(c:Addr)(q:Str):HO:=.ext λh=>h.CodeRec (.ref c) q
def FnO(f:Addr)(o:Obj):HO:=.ext λh=>h.get? f=some o
def Tb(tp:Addr)(pos:Pos)(qual:Str)(H:Hp):Prop:=∃ps:Array Value,H tp=some (.tbl ps)/\TriplesOk ps.toList /\
 (codeAmong pos ps.toList=none\/∃c,codeAmong pos ps.toList=some (.ref c)/\H c=some (v8 c qual))
theorem Tb.same{tp:Addr}{pos:Pos}{qual:Str}{H H':Hp}(h:Tb tp pos qual H)(g:aW H H'):Tb tp pos qual H':=by
 obtain⟨ps,h1,h2,h3⟩:=h;refine⟨ps,g _ _ h1,h2,h3.imp id λ⟨c,e1,e2⟩=>⟨c,e1,g _ _ e2⟩⟩
abbrev GG(qual:Str)(params:Arguments)(body:Expr)(scope:Scope)(cl:List (Str×Addr))(pm:Value)(c:Addr)(ct:Value):Obj:=PySem.W.kla_obj "<lambda>" qual params body scope cl pm c ct
section
variable{X:Cx}{pins:List (Addr×Obj)}{σ:St}{H:Hp}{s:Shared}
def QZ(X:Cx)(tp:Addr)(params:Arguments)(body:Expr)(scope:Scope)(pos:Pos)(qual:Str):TE:=λ_ H Q=>Tb tp pos qual H /\
 ∀(f c:Addr) (ct:Value) (H1:Hp),cD H H1->Tb tp pos qual H1->H f=none->H1 f=some (FnO f (GG qual params body scope (fG X.env.cells scope.names []) ((X.mg "__name__").getD .none) c ct))->H1 c=some (v8 c qual)->Q (.ref f) H1
theorem KG{P:Program}{w:World}{H:Hp}{h:Heap}{f:Addr}{o:Obj}(e:h.get? f=some o):cG P w H h f (FnO f o):=⟨e,⟨o,e⟩,λ_ _ x k=>k _ x⟩
theorem K1{P:Program}{w:World}{H:Hp}{h:Heap}{c:Addr}{q:Str}(e:h.CodeRec (.ref c) q):cG P w H h c (v8 c q):=by
 refine⟨e,?_,λh1 h2 x k=>?_⟩
 ·obtain⟨c',o,vs,t,z,h1,_⟩:=e;cases z;exact⟨o,h1⟩
 ·obtain⟨c',o,vs,t,z,g1,g2⟩:=x;cases z;exact⟨c,o,vs,t,rfl,k _ g1,g2⟩
theorem PB{params:Arguments}{body:Expr}{scope:Scope}{pos:Pos}{cA tp:Addr}{qual:Str}(hq:X.env.qual++"<lambda>" = qual)(hcode:X.env.code=.ref cA)(C:PySem.W.CodeHd X.base cA tp)(hB:X.base.BuiltinsAt X.mg tp)
  (hfree:∀y∈scope.names,y.2=.free->X.env.kindOf y.1=some .cell\/X.env.kindOf y.1=some .free) (hdef:defaultsOf params X.env=([],[]):=by rfl) :
  PE X (.Lambda params body scope pos) (QZ X tp params body scope pos qual):=by
 subst hq;intro pins s σ H Q I h;obtain⟨⟨ps,h1,h2,h3⟩,q⟩:=h;have hcl:closureFor scope X.env=pure (fG X.env.cells scope.names []):=jN λy hy hk=>I.ok.has y.1 (hfree y hy hk);have hP:s.heap.get? tp=some (PySem.W.tabObj ps):=I.hok tp _ h1;have hns:=I.ok.mod.glob.keeps I.bk;have ntp:∀b,H b=none->b≠tp:=λb n z=>by rw[z,h1]at n;cases n
 have hgP:ZV≠tp:=by
  obtain⟨o,es,ep,e,_⟩:=I.ok.mod.glob;exact ntp _ (I.bs _ _ e).2
 have hB':s.heap.BuiltinsAt X.mg tp:=by
  obtain⟨bm,o,b1,b2,b3,b4,b5,b6⟩:=hB;exact⟨bm,o,b1,b2,b3,b4,I.bk _ _ b5,b6⟩
 refine PySem.W.kla_eval hdef ?_;rcases h3 with hn | ⟨c,hc,hcO⟩
 ·refine PySem.W.kla_makeFunction (mg:=X.mg) hcl I.ok.glob hns hcode (C.keeps I.bk) hP h2 hn hgP hB' λc ct h' tk hx hge hlt hrec htb=>?_;have fc:H c=none:=I.hok.fresh hge;have lf:s.heap.objs.size<=h'.objs.size:=Nat.le_of_lt (Yt hge hlt);have ff:H h'.objs.size=none:=I.hok.fresh lf;have cf:c≠h'.objs.size:=Nat.ne_of_lt hlt
  let o1:HO:=.tbl (ps++#[rawInt pos.line,rawInt pos.col,.ref c])
  let fo:=GG (X.env.qual++"<lambda>") params body scope (fG X.env.cells scope.names []) ((X.mg "__name__").getD .none) c ct
  let H1:Hp:=upd (upd (upd H tp o1) c (v8 c (X.env.qual++"<lambda>"))) h'.objs.size (FnO h'.objs.size fo)
  have ntc:tp≠c:=aN h1 fc;have ntf:tp≠h'.objs.size:=aN h1 ff;have old:∀b u,H b=some u->b≠tp->H1 b=some u:=λb u e n=>by
   show upd (upd (upd H tp o1) c _) h'.objs.size _ b=_;rw[aH (aN e ff),aH (aN e fc),aH n];exact e
  have at_t:H1 tp=some o1:=by
   show upd (upd (upd H tp o1) c _) h'.objs.size _ tp=_;rw[aH ntf,aH ntc,aB]
  have at_c:H1 c=some (v8 c (X.env.qual++"<lambda>")):=by
   show upd (upd (upd H tp o1) c _) h'.objs.size _ c=_;rw[aH cf,aB]
  have at_f:H1 h'.objs.size=some (FnO h'.objs.size fo):=aB;have k:∀b u,b≠tp->s.heap.get? b=some u->(h'.push fo).get? b=some u:=λb u n e=>Heap.get?_push_of_some _ (hx b u n e);have htb':(h'.push fo).get? tp=some (PySem.W.tabObj (ps++#[rawInt pos.line,rawInt pos.col,.ref c])):=Heap.get?_push_of_some _ htb;have un:Un X.fs [] H H1 s.heap (h'.push fo):=by
   refine⟨λb u e n _ _=>k b u (ntp b n) e,λb u e n _ _=>⟨u.slots,k b u (ntp b n) e⟩,λb u e n _=>?_,λb u e _=>?_,λb xs e=>old b _ e λz=>?_,λb u v e=>old b _ e λz=>?_,λb qs e=>?_⟩
   ·have l:=Heap.lt_size e;show upd (upd (upd H tp o1) c _) h'.objs.size _ b=_;rw[aH (Nat.ne_of_lt (YQ l lf)),aH (Nat.ne_of_lt (YQ l hge)),aH (ntp b n)];exact n
   ·by_cases z:b=tp
    ·rw[z];exact⟨_,htb'⟩
    ·exact⟨u,k b u z e⟩
   ·rw[z,h1]at e;cases e
   ·rw[z,h1]at e;cases e
   ·by_cases z:b=tp
    ·rw[z,h1]at e;cases e;rw[z];exact⟨_,at_t⟩
    ·exact⟨#[],by rw[old b _ e z];simp⟩
  have hok:HOk X.prog X.w H1 (h'.push fo):=λb u e=>by
   by_cases z1:b=h'.objs.size
   ·subst z1;rw[at_f]at e;cases e;exact KG (Heap.get?_push_size _ rfl)
   ·by_cases z2:b=c
    ·subst z2;rw[at_c]at e;cases e;refine K1 ?_;obtain⟨c',o,vs,t,z,g1,g2⟩:=hrec;exact⟨c',o,vs,t,z,Heap.get?_push_of_some _ g1,g2⟩
    ·by_cases z3:b=tp
     ·subst z3;rw[at_t]at e;cases e;exact htb'
     ·have e':H b=some u:=by
       have e2:upd (upd (upd H tp o1) c _) h'.objs.size _ b=some u:=e;rw[aH z1,aH z2,aH z3]at e2;exact e2
      refine(I.hok b u e').stay (λd v hd r=>k d v (λz=>?_) r) (λd r=>old d _ r λz=>?_) λd xs r=>old d _ r λz=>?_
      ·rcases hd with rfl | hd
       ·exact z3 z
       ·rw[z,h1]at hd;cases hd
      ·rw[z,h1]at r;cases r
      ·rw[z,h1]at r;cases r
  refine⟨.ref h'.objs.size,H1,I.un un hok,rfl,q _ c ct H1 (λb o e=>?_) ⟨_,at_t,?_,.inr ⟨c,?_,at_c⟩⟩ ff at_f at_c⟩
  ·by_cases z:b=tp
   ·rw[z,h1]at e;cases e;rw[z];exact .inr ⟨⟨_,rfl⟩,_,at_t⟩
   ·exact .inl (old b o e z)
  ·rw[Array.toList_append];exact TriplesOk_snoc _ _ _ _ h2
  ·rw[Array.toList_append];exact codeAmong_snoc _ h2 hn
 ·refine PySem.W.kla_makeFunctionHit (mg:=X.mg) hcl I.ok.glob hns hcode (C.keeps I.bk) hP h2 hc hB' λct h' tk hk lf=>?_;have ff:H h'.objs.size=none:=I.hok.fresh lf;have g:=aG ff (FnO h'.objs.size (GG (X.env.qual++"<lambda>") params body scope (fG X.env.cells scope.names []) ((X.mg "__name__").getD .none) c ct));exact⟨.ref h'.objs.size,_,I.laid (λb u e=>Heap.get?_push_of_some _ (hk b u e)) lf (KG (Heap.get?_push_size _ rfl)),rfl,q _ c ct _ g.st (Tb.same ⟨ps,h1,h2,.inr ⟨c,hc,hcO⟩⟩ g) ff aB (g _ _ hcO)⟩
end
end L2
namespace L2
open PySem PySem.Spec PyProof.Rows
section
variable{X:Cx}{pins:List (Addr×Obj)}{σ:St}{H:Hp}{s:Shared}
abbrev uE(X:Cx)(qual:Str)(scope:Scope)(L f c:Addr):Env:=PySem.W.envX qual scope L f (.ref c) (fG X.env.cells scope.names [])
def Cx.lam(X:Cx)(A:Around)(N:List Str)(qual:Str)(scope:Scope)(f c:Addr)(s:Shared)(H:Hp):Cx :=
 { prog:=X.prog,w:=X.w,K:=X.K,mg:=X.mg,base:=X.base,A:=A.deeper (uE X qual scope s.heap.objs.size f c),N:=N,s₀:=s,H₀:=H,env:=uE X qual scope s.heap.objs.size f c,outer:=X.stack,stack:=uE X qual scope s.heap.objs.size f c::X.stack,ex:=[],fn:=λ_=>false,calm:=true,pn:=[],xe:=λ_ _=>False }
theorem jI{x:Str}:∀{l:List (Str×NameKind)}{k:NameKind},l.lookup x=some k->(x,k)∈l
 |[],_,h=>by simp at h
 |(n,k')::r,k,h=>by
  rw[List.lookup_cons]at h;cases hb:x==n with
  |true=>rw[hb]at h;have e:=eq_of_beq hb;subst e;cases h;exact Zd
  |false=>rw[hb]at h;exact Zw _ (jI h)
theorem MX{A:Around}{k:Nat}{N':List Str}{js:List (Option Nat)}{qual:Str}{scope:Scope}{f c:Addr}{x:Str}{v:V}{u:Value}{m:Str->Option Value}{h1:Heap}{tk:Nat}(I:Inv X pins σ H s)(hr:eR k A)(hA:A.frames=some X.stack)
  (hk:scope.kind=.function) (hcell:∀y∈scope.names,y.2≠.cell) (hfree:∀y∈scope.names,y.2=.free->X.env.kindOf y.1=some .cell\/X.env.kindOf y.1=some .free)
  (hjs:zG X.N scope (x::N') (none::js)=true) (hx:scope.names.lookup x=some .local) (hm:m x=some u) (rv:RelV v u) (hns:h1.Ns s.heap.objs.size m) (hsb:∀b o,s.heap.get? b=some o->h1.get? b=some o) :
  Inv (X.lam A (x::N') qual scope f c s H) [] (some v::inner js σ) H { s with heap:=h1,toks:=tk }:=by
 have incl:∀{y d},(fG X.env.cells scope.names []).lookup y=some d->X.env.cells.lookup y=some d:=λ{y d} q=>by
  rcases sR _ _ q with z | z
  ·simp at z
  ·exact z
 have inn:∀{y:Str},(y,NameKind.free)∈scope.names->∃d,(fG X.env.cells scope.names []).lookup y=some d:=λ{y} q=>vK _ _ _ (.inl ⟨q,I.ok.has y (hfree _ q rfl)⟩);have noA:∀b:Addr,b∉(X.lam A (x::N') qual scope f c s H).ex:=λb z=>absurd (show b∈([]:List Addr) from z) (by simp);refine⟨⟨I.ok.mod,hk,rfl,rfl,Nat.le_refl _,λy z d e1 e2=>I.ok.inj y z d (incl e1) (incl e2),λy hy=>?_,λy d hy _=>absurd hy Bool.false_ne_true,λ_=>hr.hd,Around.frames_deeper hA,.inr ⟨rfl,rfl⟩,λb z=>absurd z (noA b),I.bs,Ys I.ok.bsz I.sz,λb _ _=>noA b,λb z=>absurd z (noA b),I.stack,I.stkFree⟩,
  rfl,I.bare,Un.kept hsb,⟨m,hns,λi y w e1 e2 _=>?_⟩,λy d e=>?_,I.hok.fresh (Nat.le_refl _),λy d e=>I.freeC y d (incl e),λp hp=>absurd (show p∈([]:List (Addr×Obj)) from hp) (by simp),I.hok.kept hsb,?_⟩
 ·have hy:scope.names.lookup y=some .cell\/scope.names.lookup y=some .free:=hy;rcases hy with hy | hy
  ·exact absurd rfl (hcell _ (jI hy))
  ·exact inn (jI hy)
 ·cases i with
  |zero =>
   have e1:some x=some y:=e1;have e2:some (some v)=some (some w):=e2;cases e1;cases e2;exact⟨u,rv,.inl ⟨hx,hm⟩⟩
  |succ i =>
   have e2:(inner js σ)[i]?=some (some w):=e2;have e1:N'[i]?=some y:=e1;obtain⟨j,q1,q2⟩:=BJ e2;obtain⟨q3,q4⟩:=zF (Bool.and_eq_true_iff.mp hjs).2 e1 q1;have q5:=jI q4;have kf:=hfree _ q5 rfl;obtain⟨m0,hn0,hl0⟩:=id I.loc;obtain⟨u',r,lk⟩:=hl0 j y w q3 q2 (kf.elim (λz=>.inr (.inl z)) λz=>.inr (.inr z));refine⟨u',r,?_⟩;rcases lk with⟨z,_⟩ | ⟨_,d,hd,o,ho,hd'⟩
   ·rcases kf with kk | kk
    ·rw[kk]at z;cases z
    ·rw[kk]at z;cases z
   ·obtain⟨d',hc'⟩:=inn q5;have e:=incl hc';rw[hd]at e;cases e;exact .inr ⟨.inr q4,d,hc',o,hsb _ _ ho,hd'⟩
 ·obtain⟨w,o,ho,hd⟩:=I.cell y d (incl e);exact⟨w,o,hsb _ _ ho,hd⟩
 ·show(inner js σ).length+1=N'.length+1;unfold inner;rw[Zq,uH (Bool.and_eq_true_iff.mp hjs).2]
structure R9(X:Cx)(N':List Str)(js:List (Option Nat))(x:Str)(qual:Str)(params:Arguments)(body:Expr)(scope:Scope):Prop where
 kind:scope.kind=.function
 co:scope.isCoroutine=false
 gen:scope.isGenerator=false
 cell:∀y∈scope.names,y.2≠.cell
 free:∀y∈scope.names,y.2=.free->X.env.kindOf y.1=some .cell\/X.env.kindOf y.1=some .free
 js:zG X.N scope (x::N') (none::js)=true
 par:scope.names.lookup x=some .local
 bind:∀(cl:List (Str×Addr)) (pm cd ct u:Value),bindArgs (PySem.W.kla_fn "<lambda>" qual params body scope cl pm cd ct) ⟨[u],[]⟩=pure [(x,u)]
theorem LY{A:Around}{k:Nat}{N':List Str}{js:List (Option Nat)}{qual:Str}{params:Arguments}{body:Expr}{scope:Scope}{f c:Addr}{pm ct:Value}{x:Str}{v:V}{u:Value}{te:TE}{Q:VK}{E:Value->Shared->Prop}
  (S:R9 X N' js x qual params body scope) (hr:eR k A) (hA:A.frames=some X.stack) (I:Inv X pins σ H s) (hf:H f=some (FnO f (GG qual params body scope (fG X.env.cells scope.names []) pm c ct))) (hc:H c=some (v8 c qual)) (rv:RelV v u)
  (ht:PE (X.lam A (x::N') qual scope f c s H) body te) (hq:te (some v::inner js σ) H Q):wpAny (model X.prog X.w) A (call (.ref f) [u]) (EP X pins σ Q) E s:=by
 have go:s.heap.get? f=some (GG qual params body scope (fG X.env.cells scope.names []) pm c ct):=(I.hok f _ hf).1;have gc:s.heap.CodeRec (.ref c) qual:=(I.hok c _ hc).1;refine wpAny_call (codeAny_mono (?_:codeAny (model X.prog X.w) A (.call (.ref f) ⟨[u],[]⟩) (CR CX0 X.stack X.prog X.w H s Q E0) s) λr s' hz=>?_)
 ·refine PySem.W.kla_callFunE hr.depth go rfl S.co S.gen rfl gc ?_;rw[S.bind];refine ZY (wpAny_newFunctionEnv S.cell (λy hy=>?_) (λh₁ hns hsb=>⟨I.nolimit.fresh _ hsb,?_⟩) S.kind)
  ·have:y=(x,u):=by simpa using hy
   rw[this];exact S.par
  ·have hk1:∀b o,s.heap.get? b=some o->h₁.get? b=some o:=λb o e=>hsb.extBut b o (Nat.ne_of_lt (Heap.lt_size e)) (Heap.get?_push_of_some _ e);show codeAny _ _ (.expr body (uE X qual scope s.heap.objs.size f c)) _ _;have J:Inv (X.lam A (x::N') qual scope f c s H) [] (some v::inner js σ) H { s with heap:=h₁,toks:=s.toks+[(x,u)].length }:=MX I hr hA S.kind S.cell S.free S.js S.par (by simp) rv hns hk1;refine PySem.W.kla_codeExpr (ZX (ht [] _ _ H Q J hq) (λw s' hw=>?_) λe s' z=>z.elim);obtain⟨v',H',J',r',q'⟩:=hw;exact⟨v',H',J'.os,J'.bare,J'.base,J'.hok,r',q'⟩
 ·cases r with
  |error e=>exact False.elim hz
  |ok fl =>
   cases fl with
   |ret w=>exact I.after hz
   |next=>exact False.elim hz
   |brk=>exact False.elim hz
   |cont=>exact False.elim hz
end
end L2
namespace L2
open PySem PySem.Spec PyProof.Rows
section
variable{X:Cx}{pins:List (Addr×Obj)}{σ:St}{H:Hp}{s:Shared}
theorem RJ{d k:Addr}{od ok:Obj}(I:Inv X pins σ H s)(fd:lV X pins H d)(fk:lV X pins H k)(gd:s.heap.get? d=some od)(gk:s.heap.get? k=some ok)(nd:∀v,od.data≠.cell v)(nk:∀v,ok.data≠.cell v) :
  Inv X ((d,od)::(k,ok)::pins) σ H s:=I.pins_of λp hp=>by
 rcases Zn.mp hp with rfl | hp
 ·exact⟨gd,fd.1,fd.2.1,fd.2.2.1,nd⟩
 ·rcases Zn.mp hp with rfl | hp
  ·exact⟨gk,fk.1,fk.2.1,fk.2.2.1,nk⟩
  ·exact I.pin p (List.mem_append_right _ hp)
theorem HJ{p1 p2:Addr×Obj}(I:Inv X (p1::p2::pins) σ H s):Inv X pins σ H s:=I.pins_of λp hp=>I.pin p (List.mem_append_right _ (Zw _ (Zw _ hp)))
theorem IY{g:Int->Int}{its out:List Value}{ns:List Int}(hi:IntsAre its ns)(ko:KskOut false (ns.map g) its out):∃ns',IntsAre out ns'/\ns'.Perm ns/\ns'.Pairwise λx y=>g x<=g y:=by
 obtain⟨ps,hp,rfl,hs⟩:=ko;have rel:∀p∈ps,p.1=g (numOf p.2)/\p.2∈its:=λp m=>by
  have m':=hp.mem_iff.mp m;rw[<-hi.nums,Yb,List.zip_map_left]at m';obtain⟨⟨a,b⟩,hz,rfl⟩:=Zh.mp m';obtain⟨e,h2⟩:=mem_zip_self hz;have e:a=b:=e;subst e;exact⟨rfl,h2⟩
 refine⟨(ps.map Prod.snd).map numOf,intsAre_map _ λv hv=>?_,?_,?_⟩
 ·obtain⟨p,m,rfl⟩:=Zh.mp hv;exact hi.all _ (rel p m).2
 ·have h1:=(hp.map Prod.snd).map numOf;rw[List.map_snd_zip (by rw[Zq,hi.length];exact Nat.le_refl _),hi.nums]at h1;exact h1
 ·rw[Yb,List.pairwise_map];refine hs.imp_of_mem λ{p q} hp' hq h=>?_;have h:p.1<=q.1:=by simpa using h
  rw[(rel p hp').1,(rel q hq).1]at h;exact h
theorem TL{d k:Addr}{m:Str->Option Value}{h':Heap}{tk c:Nat}{out:List Value}{ns':List Int}(I:Inv X pins σ H s)(fd:lV X pins H d)(fk:lV X pins H k)(hm:s.heap.Ns X.env.locals m)(F:Fr X.base X.env.locals h' m)
  (N:News X.base X.env.locals h' ((d,seqObj "list" out.toArray c)::(mP X.base s.heap X.env.locals).filter λp=>decide (p.1≠k/\p.1≠d))) (hi:IntsAre out ns') (hl:ns'.length<64) :
  Inv X pins σ (upd H d (.lst (ns'.map V.int))) { s with heap:=h',toks:=tk }:=by
 have kp:∀b o,b≠X.env.locals->b≠k->b≠d->s.heap.get? b=some o->h'.get? b=some o:=λb o n1 n2 n3 e=>by
  cases q:X.base.get? b with
  |some u =>
   have z:=I.bk b u q;rw[e]at z;cases z;exact F.keep b _ q
  |none=>exact(N (b,o) (Zw _ (Yz.mpr ⟨A7 n1 q e,decide_eq_true ⟨n2,n3⟩⟩))).1
 have gd:h'.get? d=some (seqObj "list" out.toArray c):=(N _ Zd).1;have nd:∀b u,H b=some u->b≠d:=λb u e=>aN e fd.1;have cd:∀{b:Addr},b∉[k,d]->b≠k/\b≠d:=λ{b} h=>⟨λz=>h (by simp[z]),λz=>h (by simp[z])⟩
 refine I.step (g':=s.gens) (d':=s.drawn) (ch:=[k,d]) (λb hb=>?_) (λb o n1 _ hc e _=>kp b o n1 (cd hc).1 (cd hc).2 e) (λb o n1 _ hc e _=>⟨o.slots,kp b o n1 (cd hc).1 (cd hc).2 e⟩) (λb o hc _ n=>by rw[aH (cd hc).2];exact n)
  (λb o hc e=>?_) (λb xs e=>by rw[aH (nd _ _ e)];exact e) (λb o u e=>by rw[aH (nd _ _ e)];exact e) (λb ps e=>⟨#[],by rw[aH (nd _ _ e),e];simp⟩) (λm' hm'=>?_) (λb u e=>?_) I.bare
 ·have hb:b=k\/b=d:=by simpa using hb
  rcases hb with rfl | rfl
  ·exact⟨fk.2.2.2.1,fk.2.1,fk.2.2.2.2.1,fk.2.2.2.2.2⟩
  ·exact⟨fd.2.2.2.1,fd.2.1,fd.2.2.2.2.1,fd.2.2.2.2.2⟩
 ·by_cases z:b=X.env.locals
  ·obtain⟨o',_,_,g1,_⟩:=F.ns;rw[z];exact⟨o',g1⟩
  ·exact⟨o,kp b o z (cd hc).1 (cd hc).2 e⟩
 ·rw[hm'.eq_nsMap,<-hm.eq_nsMap];exact F.ns
 ·by_cases z:b=d
  ·subst z;rw[aB]at e;cases e;exact⟨by rw[Zq];exact Ys (Nat.le_of_lt hl) (by decide),out,c,jQ hi,gd⟩
  ·rw[aH z]at e;have nl:∀b u,H b=some u->b≠X.env.locals:=λb u e z=>by rw[z,I.free]at e;cases e
   have nk:∀b u,H b=some u->b≠k:=λb u e=>aN e fk.1;refine(I.hok b u e).stay (λx v hx r=>?_) (λx r=>by rw[aH (nd _ _ r)];exact r) λx xs r=>by rw[aH (nd _ _ r)];exact r
   rcases hx with rfl | hx
   ·exact kp x v (nl _ _ e) (nk _ _ e) z r
   ·exact kp x v (nl _ _ hx) (nk _ _ hx) (nd _ _ hx) r
end
end L2
namespace L2
open PySem PySem.Spec PyProof.Rows
section
variable{X:Cx}{pins:List (Addr×Obj)}{σ:St}{H:Hp}{s:Shared}
theorem FX{f d k:Addr}{e1:Nat}{its:List Value}{ns:List Int}{g:Int->Int}{R:PySem.Fin->Shared->Prop}{E:Value->Shared->Prop}(hdk:k≠d)(fd:lV X pins H d)(fk:lV X pins H k)(hi:IntsAre its ns)(h64:ns.length<64)
  (I:Inv X ((d,seqObj "list" #[] e1)::(k,seqObj "list" #[] 0)::pins) σ H s)
  (turn:∀(n:Int) (t:Tok) (pins':List (Addr×Obj)) (s':Shared),n∈ns->Inv X pins' σ H s'->wpAny (model X.prog X.w) X.A.in1.in1 (call (.ref f) [.int n t]) (EP X pins' σ λw H'=>H'=H/\w=.int (g n)) (λ_ _=>False) s')
  (done:∀(ns':List Int) (s':Shared),ns'.Perm ns->(ns'.Pairwise λx y=>g x<=g y)->Inv X pins σ (upd H d (.lst (ns'.map V.int))) s'->R (.done (.ret .none)) s') :
  wpAny (model X.prog X.w) X.A.in1.in1 (ksk_rest d (.ref f) false its.toArray e1 (.ref k)) R E s:=by
 have hlen:=hi.length;have ncl:∀(xs:Array Value) (n:Nat) (v:Option Value),(seqObj "list" xs n).data≠.cell v:=λxs n v z=>by cases z
 unfold ksk_rest;refine ZZ (wpAny_rule ?_);rw[List.forIn_toArray];refine ZZ (ksk_fold (λi s'=>∃(kA:Array Value) (e:Nat),Inv X ((d,seqObj "list" #[] e1)::(k,seqObj "list" kA e)::pins) σ H s'/\IntsAre kA.toList ((ns.map g).take i)) its 0 s ⟨#[],0,I,by simpa using IntsAre.nil⟩ (λj x s' hx hJ=>?_) λs' hJ=>?_)
 ·obtain⟨kA,e,I',hk⟩:=hJ;rw[Nat.zero_add]at hk ⊢;have hj:j<its.length:=(Zj.mp hx).1;obtain⟨n,hn⟩:∃n,ns[j]?=some n:=⟨_,Zz (by lia)⟩
  obtain⟨t,ht⟩:=hi.get j n hn;rw[hx]at ht;cases ht;have hz:kA.size<=64:=by
   have q:=hk.length;rw[Array.length_toList,Yx,Zq]at q
   lia
  refine ZZ (wpAny_attempt (ZX (turn n t _ s' (Zg hn) I') (λv s2 hv=>?_) λ_ _ z=>z.elim));obtain⟨w,H',I2,rw',rfl,rfl⟩:=hv;obtain⟨t2,rfl⟩:∃t2,v=.int (g n) t2:=rw';have nk:=I2.pin (k,seqObj "list" kA e) (List.mem_append_right _ (Zw _ Zd));have nd:=I2.pin (d,seqObj "list" #[] e1) (List.mem_append_right _ Zd);have sb:=Heap.SameBut.update s2.heap k (Obj.mapSeq (·.push (.int (g n) t2)));obtain⟨e',he'⟩:∃e',(s2.heap.update k (Obj.mapSeq (·.push (.int (g n) t2)))).get? k=some (seqObj "list" (kA.push (.int (g n) t2)) e'):=⟨_,get?_update_seq nk.1 _⟩
  refine ZZ (listUpdate_at nk.1 rfl (ZY ⟨rfl,kA.push (.int (g n) t2),e',?_,?_⟩) (Ys hz (by decide)) (by rw[Array.size_push];exact Ys (Nat.succ_le_succ hz) (by decide)))
  ·refine RJ ((HJ I2).turned (it:=k) (λb o nb eb=>(sb.2 b nb).trans eb) fk.1 fk.2.1 fk.2.2.2.1 fk.2.2.2.2.1 fk.2.2.2.2.2) fd fk ((sb.2 d (Ne.symm hdk)).trans nd.1) he' (ncl _ _) (ncl _ _)
  ·have e3:(ns.map g).take (j+1)=(ns.map g).take j++[g n]:=by rw[List.take_add_one,Zk,hn];rfl
   rw[Array.toList_push,e3];exact ksk_snoc hk
 ·obtain⟨kA,e,I',hk⟩:=hJ;have hk:IntsAre kA.toList (ns.map g):=by
   rw[Nat.zero_add,List.take_of_length_le (by rw[Zq];lia)]at hk;exact hk
  have nk:=I'.pin (k,seqObj "list" kA e) (List.mem_append_right _ (Zw _ Zd));have nd:=I'.pin (d,seqObj "list" #[] e1) (List.mem_append_right _ Zd);obtain⟨m,F⟩:=I'.fr;have nb:∀b,b=k\/b=d->X.base.get? b=none:=λb hb=>by
   cases q:X.base.get? b with
   |none=>rfl
   |some o =>
    have l:=YQ (Heap.lt_size q) I'.ok.bsz;have:b∈X.ex\/X.s₀.heap.objs.size<=b:=by rcases hb with rfl | rfl;exact fk.2.2.2.1;exact fd.2.2.2.1
    rcases this with z | z
    ·exact absurd z (I'.ok.noex b o q)
    ·exact absurd (YQ l z) (Nat.lt_irrefl _)
  refine ZZ (listItems_at nk.1 rfl (ksk_end_ (news:=(mP X.base s'.heap X.env.locals).filter λp=>decide (p.1≠k/\p.1≠d)) (e:=e) F (λp hp=>?_) hdk (λp hp=>?_) (λp hp=>?_) hk (by rw[Zq,hlen]) (by lia) λh' tk out c F' N' ko=>?_))
  ·rcases Zf.mp hp with hp | hp
   ·exact JT p (Yz.mp hp).1
   ·rcases Zn.mp hp with rfl | hp
    ·exact⟨nk.1,nk.2.2.1,nb _ (.inl rfl)⟩
    ·rw[Zb.mp hp];exact⟨nd.1,nd.2.2.1,nb _ (.inr rfl)⟩
  ·exact(of_decide_eq_true (Yz.mp hp).2).1
  ·exact(of_decide_eq_true (Yz.mp hp).2).2
  ·obtain⟨ns',a1,a2,a3⟩:=IY hi ko;have N2:News X.base X.env.locals h' ((d,seqObj "list" out.toList.toArray c)::(mP X.base s'.heap X.env.locals).filter λp=>decide (p.1≠k/\p.1≠d)):=by rw[Array.toArray_toList];exact N'
   exact done ns' _ a2 a3 (TL (tk:=tk) (HJ I') fd fk F.ns F' N2 a1 (by rw[a2.length_eq];exact h64))
theorem HY{f l:Addr}{ns:List Int}{g:Int->Int}{Q:VK}{E:Value->Shared->Prop}(I:Inv X pins σ H s)(hl:SqL X.K H l (ns.map V.int))(h64:ns.length<64)
  (turn:∀(n:Int) (t:Tok) (pins':List (Addr×Obj)) (s':Shared),n∈ns->Inv X pins' σ H s'->wpAny (model X.prog X.w) X.A.in1.in1 (call (.ref f) [.int n t]) (EP X pins' σ λw H'=>H'=H/\w=.int (g n)) (λ_ _=>False) s')
  (done:∀(d:Addr) (ns':List Int),H d=none->ns'.Perm ns->(ns'.Pairwise λx y=>g x<=g y)->Q (.ref d) (upd H d (.lst (ns'.map V.int)))) :
  wpAny (model X.prog X.w) X.A (call (.builtin "sorted") [.ref l] [("key",.ref f)]) (EP X pins σ Q) E s:=by
 obtain⟨its,r',pl,hz⟩:=I.list hl;have hi:IntsAre its ns:=intsAre_of r';have hlen:=hi.length;have h6:its.length<=64:=by lia
 have ncl:∀(xs:Array Value) (n:Nat) (v:Option Value),(seqObj "list" xs n).data≠.cell v:=λxs n v z=>by cases z
 have hsz:((s.heap.push (seqObj "list" #[] 0)).update s.heap.objs.size (Obj.mapSeq (·++its.toArray))).objs.size=s.heap.objs.size+1:=by rw[Heap.size_update,size_push']
 generalize hA:(s.heap.push (seqObj "list" #[] 0)).update s.heap.objs.size (Obj.mapSeq (·++its.toArray))=hp at hsz;have kA:∀b o,s.heap.get? b=some o->hp.get? b=some o:=λb o q=>by
  have l:=Heap.lt_size q;rw[<-hA,Heap.get?_update_ne _ _ _ _ (Nat.ne_of_lt l)];exact Heap.get?_push_of_some _ q
 have gL:(hp.push (seqObj "list" its.toArray 0)).get? (s.heap.objs.size+1)=some (seqObj "list" its.toArray 0):=by rw[<-hsz];exact Heap.get?_push_size _ rfl
 refine call_function_entry_kw kind_sorted plain_sorted entry_sorted (ksk_s1 _ _) ?_;unfold Builtin.«sorted»;refine ZZ (m:=checkCount "sorted" 1 1 _) (ZY (ZZ (collect_list pl.isList (ZZ (wpAny_newList ?_ (Ys h6 (by decide)))) (Ys h6 (by decide)))));rw[hA];show wpAny _ _ _ _ _ { s with heap:=hp.push (seqObj "list" its.toArray 0) };rw[hsz];refine ZZ (ZU (wpAny_call_entry_kw slot_list_sort ⟨_,gL,rfl⟩ entry_list_sort ?_ (ksk_l1 _ _)));show wpAny (model X.prog X.w) X.A.in1.in1 (Builtin.«list.sort» ⟨[.ref (s.heap.objs.size+1)],[(Str.ofString "key",.ref f)]⟩) _ _ _;rw[ksk_t1];unfold ksk_tree;refine ZZ (listItems_at gL rfl (ZZ (listUpdate_at gL rfl ?_ (by rw[List.size_toArray];exact Ys h6 (by decide)) (Nat.zero_le _))));obtain⟨e1,g1⟩:∃e1,((hp.push (seqObj "list" its.toArray 0)).update (s.heap.objs.size+1) (Obj.mapSeq λ_=>(#[]:Array Value))).get? (s.heap.objs.size+1)=some (seqObj "list" #[] e1):=⟨_,get?_update_seq gL λ_=>#[]⟩
 have sz1:((hp.push (seqObj "list" its.toArray 0)).update (s.heap.objs.size+1) (Obj.mapSeq λ_=>(#[]:Array Value))).objs.size=s.heap.objs.size+2:=by rw[Heap.size_update,size_push',hsz]
 have k1:∀b o,s.heap.get? b=some o->((hp.push (seqObj "list" its.toArray 0)).update (s.heap.objs.size+1) (Obj.mapSeq λ_=>(#[]:Array Value))).get? b=some o:=λb o q=>by
  have l:=Heap.lt_size q;rw[Heap.get?_update_ne _ _ _ _ (Nat.ne_of_lt (Xq l))];exact Heap.get?_push_of_some _ (kA b o q)
 generalize (hp.push (seqObj "list" its.toArray 0)).update (s.heap.objs.size+1) (Obj.mapSeq λ_=>(#[]:Array Value))=hq at g1 sz1 k1;refine ZZ (seqEpoch_at g1 rfl (ZZ (wpAny_newTuple (ZZ (wpAny_newList (ZU ?_) (Nat.zero_le _))) (Ys h6 (by decide)))));have sz2:(hq.push (seqObj "tuple" its.toArray 0)).objs.size=s.heap.objs.size+3:=by rw[size_push',sz1]
 show wpAny _ _ (ksk_rest (s.heap.objs.size+1) (.ref f) false its.toArray e1 (.ref (hq.push (seqObj "tuple" its.toArray 0)).objs.size)) _ _ { s with heap:=(hq.push (seqObj "tuple" its.toArray 0)).push (seqObj "list" #[] 0) };rw[sz2];have gk:((hq.push (seqObj "tuple" its.toArray 0)).push (seqObj "list" #[] 0)).get? (s.heap.objs.size+3)=some (seqObj "list" #[] 0):=by rw[<-sz2];exact Heap.get?_push_size _ rfl
 have fD:=I.fpOk (H':=H) (b:=s.heap.objs.size+1) (Nat.le_add_right _ _) (I.hok.fresh (Nat.le_add_right _ _));have fK:=I.fpOk (H':=H) (b:=s.heap.objs.size+3) (Nat.le_add_right _ _) (I.hok.fresh (Nat.le_add_right _ _));have I0:Inv X pins σ H { s with heap:=(hq.push (seqObj "tuple" its.toArray 0)).push (seqObj "list" #[] 0),toks:=s.toks }:=I.kept λb o q=>Heap.get?_push_of_some _ (Heap.get?_push_of_some _ (k1 b o q));refine FX (g:=g) (show s.heap.objs.size+3≠s.heap.objs.size+1 by lia) fD fK hi h64 (RJ I0 fD fK (Heap.get?_push_of_some _ (Heap.get?_push_of_some _ g1)) gk (ncl _ _) (ncl _ _)) turn λns' s' p1 p2 I9=>⟨_,rfl,ZY ⟨_,rfl,?_⟩⟩
 exact⟨.ref (s.heap.objs.size+1),_,I9,rfl,done _ ns' fD.1 p1 p2⟩
end
end L2
namespace L2
open PySem PySem.Spec PyProof.Rows
theorem cD.seq{K:PySem.W.Frag}{H H':Hp}{a:Addr}{xs:List V}(e:cD H H')(h:SqL K H a xs):SqL K H' a xs:=by
 rcases h with(h | ⟨o,h⟩) | h
 ·exact .inl (.inl (e.l h))
 ·exact .inl (.inr ⟨o,e.k (λ_ z=>by cases z) h⟩)
 ·exact .inr h
section
variable{X:Cx}
def OH(K:PySem.W.Frag)(tp:Addr)(wD:Pos)(qual:Str)(js:List (Option Nat))(ta:TA)(te:TE):TE:=λσ H Q=>ta σ H λvs H1=>Tb tp wD qual H1/\∃(l:Addr) (ns:List Int) (g:Int->Int),vs=[.ref l]/\SqL K H1 l (ns.map V.int)/\ns.length<64 /\
 ∀H2,cD H1 H2->Tb tp wD qual H2->(∀n∈ns,te (some (.int n)::inner js σ) H2 λw H'=>H'=H2/\w=.int (g n)) /\
  ∀(d:Addr) (ns':List Int),H2 d=none->ns'.Perm ns->(ns'.Pairwise λx y=>g x<=g y)->Q (.ref d) (upd H2 d (.lst (ns'.map V.int)))
theorem C2{K:PySem.W.Frag}{p pos wD kpos:Pos}{e body:Expr}{params:Arguments}{scope:Scope}{cA tp:Addr}{qual:Str}{N':List Str}{js:List (Option Nat)}{x:Str}{k:Nat}{ta:TA}{te:TE}(hK:X.K=K)(hr:eR (k+3) X.A)(hq:X.env.qual++"<lambda>" = qual)(hcode:X.env.code=.ref cA)
  (C:PySem.W.CodeHd X.base cA tp) (hB:X.base.BuiltinsAt X.mg tp) (S:R9 X N' js x qual params body scope) (hg:Gl X "sorted") (hm:X.mg "sorted" = none) (ha:PA X [e] ta)
  (hb:∀(f c:Addr) (s:Shared) (H:Hp),eR k (X.A.in1.in1.deeper (uE X qual scope s.heap.objs.size f c))->PE (X.lam X.A.in1.in1 (x::N') qual scope f c s H) body te) (hdef:defaultsOf params X.env=([],[]):=by rfl)
  (he:backTo pos (starEach [e] X.env)=(false,eval e X.env)::backTo pos (starEach [] X.env):=by rfl) (hpl:(backTo pos (starEach [e] X.env)).any (·.1)=false:=by rfl) :
  PE X (.Call (.Name "sorted" p) [e] [⟨some "key",.Lambda params body scope wD,kpos⟩] pos) (OH K tp wD qual js ta te):=by
 subst hK;intro pins s σ H Q I h;refine wpAny_Call_Name_kw (nS I hg hm boot_sorted ?_ (by decide) (by decide));refine callWith_kw (thn (ha pos pins s σ H _ I h) λus s1 ⟨vs,H1,I1,r1,tb,l,ns,g,hv,hl,h64,q⟩=>?_) he hpl rfl rfl;have hkw:PK X [⟨some "key",.Lambda params body scope wD,kpos⟩] (oH (QZ X tp params body scope wD qual) FR):=MB (PB hq hcode C hB S.free hdef) O3;refine thn (hkw pos pins s1 σ H1 (λzs H2=>∃(f c:Addr) (ct:Value),zs=[.ref f]/\cD H1 H2/\Tb tp wD qual H2/\H2 f=some (FnO f (GG qual params body scope (fG X.env.cells scope.names []) ((X.mg "__name__").getD .none) c ct))/\H2 c=some (v8 c qual)) I1
  ⟨tb,λf c ct H2 g1 g2 _ g4 g5=>⟨f,c,ct,rfl,g1,g2,g4,g5⟩⟩) λws s2 ⟨zs,H2,I2,rz,f,c,ct,ez,g1,g2,g4,g5⟩=>?_
 subst hv;subst ez;obtain⟨u,rfl,ru⟩:=vals1 r1;cases ru;obtain⟨w,rfl,rw'⟩:=vals1 rz;cases rw';obtain⟨ht,hd⟩:=q H2 g1 g2;have hrA:eR (k+1) X.A.in1.in1:=(eR.in1 (k:=k+1) (eR.in1 (k:=k+2) hr))
 refine HY (g:=g) I2 (g1.seq hl) h64 (λn t pins' s' hn I'=>?_) hd;exact LY (v:=.int n) S hrA I'.ok.frames I' g4 g5 ⟨t,rfl⟩ (hb f c s' H2 (hrA.deeper _)) (ht n hn)
end
end L2
namespace L2
open PySem PySem.Spec PyProof.Rows
theorem GF{P:Program}{w:World}{K:PySem.W.Frag}{mg mb:Str->Option Value}{k:Nat}{fa a cA tp:Addr}{fd:FuncData}{x:Str}{sp:Sp}{s₁:Shared}{vs:List Value}{ns:List Int}
  (KX:K.In s₁.heap) (hns:s₁.heap.Ns ZV mg) (hb:s₁.heap.Ns builtinsNs mb) (hbb:∀x:Str,x≠"__name__"->mb x=bootBuiltins x) (hlim:s₁.heap.NoLimit) (hg:s₁.gens=#[])
  (ha:s₁.heap.get? a=some { cls:=.type "list",data:=.seq vs.toArray }) (hi:IntsAre vs ns) (hl:ns.length<=ZW) (hr:eR k callerA) (C:PySem.W.CodeHd s₁.heap cA tp) (hT:s₁.heap.get? tp=some (PySem.W.tabObj #[])) (hN:PySem.W.noTabs K=true) (hB:s₁.heap.BuiltinsAt mg tp)
  (F:∀base:Heap,K.In base->base.Ns ZV mg->PySem.W.CodeHd base cA tp->base.BuiltinsAt mg tp->cU P w K mg base CX0 k fa fd [x] sp) (hbind:∀(s:Shared) (u:Value),BindsTo s fd ⟨[u],[]⟩ [(x,u)])
  (hsp:∀H:Hp,H tp=some (.tbl #[])->SqL K H a (ns.map V.int)->sp [.ref a] H (λv _=>v=.bl true) λ_ _ _=>False) :
  codeAny (model P w) callerA (.call (.ref fa) ⟨[.ref a],[]⟩) (λr s'=>r=.ok (.ret (.bool true))/\OldK s₁.heap s'.heap/\s'.os=s₁.os/\AllBare s'.gens) s₁:=by
 have rv:=jQ hi;have lenV:=hi.length;have nta:tp≠a:=λz=>by rw[z,ha]at hT;cases hT
 have kt:K.lookup tp=none:=by
  cases q:K.lookup tp with
  |none=>rfl
  |some o =>
   have e:=KX _ _ q;rw[hT]at e;cases e;exact absurd (show false=true from List.all_eq_true.mp hN _ (PySem.W.mem_of_lookupK q)) Bool.false_ne_true
 have core:∀H:Hp,H tp=some (.tbl #[])->SqL K H a (ns.map V.int)->HOk P w H s₁.heap->(∀b,H b≠none->b=tp\/(b=a/\∃o xs,H b=some (.frz o (.lst xs))))->(H a≠none->K.lookup a=none) ->
   codeAny (model P w) callerA (.call (.ref fa) ⟨[.ref a],[]⟩) (λr s'=>r=.ok (.ret (.bool true))/\OldK s₁.heap s'.heap/\s'.os=s₁.os/\AllBare s'.gens) s₁:=by
  intro H ht hS hok hA hK;have nH:∀{b:Addr}{o:Obj},s₁.heap.get? b=some o->o.cls≠.none->o.cls≠.type "list"->H b=none:=λ{b o} e n1 n2=>by
   cases q:H b with
   |none=>rfl
   |some u =>
    rcases hA b (by rw[q];simp) with z | ⟨z,_⟩
    ·rw[z,hT]at e;cases e;exact absurd rfl n1
    ·rw[z,ha]at e;cases e;exact absurd rfl n2
  have nD:∀{b:Addr}{o:Obj}{es:Array DictEntry}{ep:Nat},s₁.heap.get? b=some o->o.data=.dict es ep->H b=none:=λ{b o es ep} e d=>by
   cases q:H b with
   |none=>rfl
   |some u =>
    rcases hA b (by rw[q];simp) with z | ⟨z,_⟩
    ·rw[z,hT]at e;cases e;cases d
    ·rw[z,ha]at e;cases e;cases d
  have nsK:∀{b:Addr}{m:Str->Option Value},s₁.heap.Ns b m->(wG s₁.heap H).Ns b m:=λ{b m} ⟨o,es,ep,e,d,r⟩=>⟨o,es,ep,pD e (nD e d),d,r⟩
  have hKb:K.In (wG s₁.heap H):=λb o e=>pD (KX b o e) (by
   cases q:H b with
   |none=>rfl
   |some u =>
    rcases hA b (by rw[q];simp) with z | ⟨z,_⟩
    ·rw[z,kt]at e;cases e
    ·subst z;rw[hK (by rw[q];simp)]at e;cases e)
  have hC:PySem.W.CodeHd (wG s₁.heap H) cA tp:=by
   obtain⟨o,vs',file,tf,flags,tg,inF,text,tt,e1,e2,r⟩:=C;exact⟨o,vs',file,tf,flags,tg,inF,text,tt,pD e1 (nH e1 (by rw[e2];intro z;cases z) (by rw[e2];simp)),e2,r⟩
  have hB':(wG s₁.heap H).BuiltinsAt mg tp:=by
   obtain⟨bm,o,b1,b2,b3,b4,b5,b6,r⟩:=hB;exact⟨bm,o,b1,b2,b3,b4,pD b5 (nH b5 (by rw[b6];intro z;cases z) (by rw[b6];simp)),b6,r⟩
  have hM:Mod K mg (wG s₁.heap H):=⟨hKb,nsK hns,⟨mb,nsK hb,hbb⟩,let⟨mc,h1,h2⟩:=hlim;⟨mc,nsK h1,h2⟩⟩
  have e0:NJ P w K mg (wG s₁.heap H) callerA [] s₁ H:=⟨rfl,hM,λb o e=>MP e,Nat.le_of_eq (GR _ _),trivial,λb hb=>absurd (show b∈([]:List Addr) from hb) (by simp),hok,.of_eq hg⟩
  refine codeAny_mono ((F _ hKb (nsK hns) hC hB').run callerA [] s₁ H ⟨[.ref a],[]⟩ [.ref a] [.ref a] _ _ hr e0 (hbind s₁ (.ref a)) (.cons rfl .nil) (hsp H ht hS)) λr s' h=>?_;cases r with
  |error e=>exact False.elim h
  |ok fl =>
   cases fl with
   |next=>exact False.elim h
   |brk=>exact False.elim h
   |cont=>exact False.elim h
   |ret u =>
    obtain⟨v,H',os,bare,un,hok',r',q⟩:=h;have q':v=.bl true:=q;subst q';obtain rfl:u=Value.bool true:=r';have kp:∀b o,b≠tp->s₁.heap.get? b=some o->s'.heap.get? b=some o:=λb o n e=>by
     cases q:H b with
     |none=>exact un.keep b o e q (by intro z;exact absurd (show b∈([]:List Addr) from z) (by simp)) (by simp)
     |some u =>
      rcases hA b (by rw[q];simp) with z | ⟨z,ob,xs,z2⟩
      ·exact absurd z n
      ·have z3:=un.frzs b ob _ z2;obtain⟨e1,_⟩:=hok b _ z2;obtain⟨e2,_⟩:=hok' b _ z3;rw[e]at e1;cases e1;exact e2
    obtain⟨more,hm⟩:=un.tbls tp _ ht;have gm:s'.heap.get? tp=some (PySem.W.tabObj (#[]++more)):=hok' tp _ hm;refine⟨rfl,⟨λb o e=>?_,λb o e=>?_⟩,os,bare⟩
    ·by_cases z:b=tp
     ·subst z;rw[hT]at e;cases e;exact .inr (.inl ⟨(C.tab hT).isCodeTable,rfl,_,more,rfl,gm⟩)
     ·exact .inl (kp b o z e)
    ·by_cases z:b=tp
     ·subst z;exact⟨_,gm⟩
     ·exact⟨o,kp b o z e⟩
 cases hk:K.lookup a with
 |some o =>
  have e:=KX a o hk;rw[ha]at e;cases e;refine core (λb=>if b=tp then some (.tbl #[]) else none) (if_pos rfl) (.inr ⟨_,vs.toArray,_,hk,rfl,rfl,rfl,by rw[List.size_toArray,lenV];exact hl,by simpa using rv⟩) (λb u z=>?_) (λb z=>?_) λz=>absurd (if_neg (Ne.symm nta)) z
  ·by_cases h1:b=tp
   ·have z':=(if_pos h1).symm.trans z;cases z';subst h1;exact hT
   ·have z':=(if_neg h1).symm.trans z;cases z'
  ·by_cases h1:b=tp
   ·exact .inl h1
   ·exact absurd (if_neg h1) z
 |none =>
  let so:Obj:={ cls:=.type "list",data:=.seq vs.toArray }
  let H0:Hp:=λb=>if b=tp then some (.tbl #[]) else if b=a then some (.frz so (.lst (ns.map V.int))) else none
  have at_a:H0 a=some (.frz so (.lst (ns.map V.int))):=(if_neg (Ne.symm nta)).trans (if_pos rfl);refine core H0 (if_pos rfl) (.inl (.inr ⟨so,at_a⟩)) (λb u z=>?_) (λb z=>?_) λ_=>hk
  ·by_cases h1:b=tp
   ·have z':=(if_pos h1).symm.trans z;cases z';subst h1;exact hT
   ·by_cases h2:b=a
    ·subst h2;rw[at_a]at z;cases z;exact⟨ha,by rw[Zq];exact hl,vs,_,rv,ha⟩
    ·have z':=((if_neg h1).trans (if_neg h2)).symm.trans z;cases z'
  ·by_cases h1:b=tp
   ·exact .inl h1
   ·by_cases h2:b=a
    ·subst h2;exact .inr ⟨rfl,_,_,at_a⟩
    ·exact absurd ((if_neg h1).trans (if_neg h2)) z
theorem HI{l:PySem.W.OpenLaw}{n k:Nat}{q:Program}{loose:List Str}{XP:(Str->Option Value)->Heap->Prop}{YP:World->Heap->Prop}{d dm:DefRec}{K:Params->PySem.W.Frag}{sp:Addr->PySem.W.Frag->Sp}{x nm:Str}
  (hn:l.most=some n) (hn2:n<=ZW) (hdf:d.params.defaults=[]) (hr:eR k callerA) (hf:(recsOf q).find? (λe=>e.name==nm)=some dm) (hN:∀w:World,PySem.W.noTabs (K w.params)=true)
  (hY:∀(w:World) (h:Heap),YP w h->(K w.params).In h)
  (F:∀(w:World) (mg:Str->Option Value) (fa:Addr) (h:Heap),(K w.params).In h->h.Ns ZV mg->mg d.name=some (.ref fa) ->
   ∃(fd:FuncData) (cA tp:Addr),(∀(s:Shared) (u:Value),BindsTo s fd ⟨[u],[]⟩ [(x,u)])/\PySem.W.tabIn (K w.params) nm=some (cA,tp) /\
    ∀base:Heap,(K w.params).In base->base.Ns ZV mg->PySem.W.CodeHd base cA tp->base.BuiltinsAt mg tp->cU l.prog w (K w.params) mg base CX0 k fa fd [x] (sp tp (K w.params)))
  (hsp:∀(tp:Addr) (K:PySem.W.Frag) (H:Hp) (a:Addr) (ns:List Int),ns.length<=n->H tp=some (.tbl #[])->SqL K H a (ns.map V.int)->sp tp K [.ref a] H (λv _=>v=.bl true) λ_ _ _=>False) :
  PySem.W.WalkO q loose XP YP l.row.toRowW d [] (λf vs=>PySem.call f vs):=by
 refine Att.B8 hn hdf λw s₀ s₁ mg mb fa o pm cd doc a vs ns G Y ho hd hcd hmg hobj hints hlen hg=>?_;have KX:=hY w _ Y;obtain⟨fd,cA,tp,hb,ht,hF⟩:=F w mg fa _ KX G.T.g hmg;obtain⟨hC,hT⟩:=PySem.W.tab_of G.T KX hf ht;have hB:s₁.heap.BuiltinsAt mg tp:=by
  obtain⟨bm,ob,b1,b2,b3,b4,b5,b6⟩:=G.T.bmain;refine⟨bm,ob,b1,b2,λz=>?_,λz=>?_,b3,b4,b5,b6⟩
  ·obtain⟨o',es,ep,e,d',_⟩:=G.T.g;rw[z,e]at b3;cases b3;rw[d']at b6;cases b6
  ·rw[z,hT]at b3;cases b3;cases b4
 exact GF KX G.T.g G.T.b G.T.builtins G.T.nolimit hg hobj hints (Ys hlen hn2) hr hC hT (hN w) hB hF hb λH h1 hS=>hsp tp _ H a ns hlen h1 hS
theorem OE{K:PySem.W.Frag}{x:Str}{f c tp:Addr}{oc oc':Value}{od od':Option Addr}{fd:FuncData}{sl sl':Array (Option Value)}{vs:Array Value}(a:PySem.W.nsIn K ZV x=some (some (.ref f)))(l:K.lookup f=some ⟨oc,od,.func fd,sl⟩)(hc:fd.code=.ref c)
  (lc:K.lookup c=some ⟨oc',od',.fields vs,sl'⟩) (hv:vs[11]?=some (.ref tp)):PySem.W.tabIn K x=some (c,tp):=by
 unfold PySem.W.tabIn;simp only[a,l,hc,lc,hv]
structure G2(K:PySem.W.Frag)(x qual:Str)(st:Stmt)(f:Addr)(fd:FuncData)(cA:Addr):Prop where
 ex:∃(oc:Value) (od:Option Addr) (kV doc pm:Value) (an:Option Addr) (ct:Value) (osl:Array (Option Value)),
  fd=PySem.W.fnOf x qual (jK st) (gX st) (aP st) .none kV doc pm an (.ref cA) ct/\K.lookup f=some ⟨oc,od,.func fd,osl⟩/\PySem.W.codeIn K (.ref cA) qual=true
theorem G2.ok{P:Program}{w:World}{K:PySem.W.Frag}{mg:Str->Option Value}{base:Heap}{x qual:Str}{st:Stmt}{f cA:Addr}{fd:FuncData}{N ps:List Str}{k:Nat}{sp:Sp}(F:G2 K x qual st f fd cA)(S:a5 N ps (aP st))(len:∀vs H Q E,sp vs H Q E->vs.length=ps.length)
  (hbody:∀(A:Around) (outer:List Env) (s:Shared) (H:Hp) (vs:List V) (Q:VK) (E:XK),eR k (A.deeper (envOfC qual (aP st) s.heap.objs.size f (.ref cA)))->sp vs H Q E ->
   ∃t,PSs (DO CX0 P w K mg base N qual (aP st) f (.ref cA) A outer s H E).nox (gX st) t/\t { nx:=λ_ H'=>Q .non H',rt:=Q } (start N vs) H):cU P w K mg base CX0 (k+1) f fd ps sp:=by
 obtain⟨oc,od,kV,doc,pm,an,ct,osl,rfl,lk,hcd⟩:=F.ex;refine NX lk hcd S len λA outer s H vs Q E hr hsp=>?_;obtain⟨t,h,q⟩:=hbody A outer s H vs Q E hr hsp;exact⟨t,h.nox,q⟩
theorem G2.of{K:PySem.W.Frag}{mg:Str->Option Value}{x:Str}{st:Stmt}{f fM cA:Addr}{fd fdM:FuncData}{oc:Value}{od:Option Addr}{sl:Array (Option Value)}(F:Fun K x x st f fd)(m:mg x=some (.ref f))(m':mg x=some (.ref fM))(l:K.lookup fM=some ⟨oc,od,.func fdM,sl⟩)(h:fdM.code=.ref cA):G2 K x x st f fd cA:=by
 rw[m]at m';cases m';obtain⟨⟨oc',od',kV,doc,pm,an,cdv,ct,osl,rfl,lk,hcd⟩,_⟩:=F;rw[lk]at l;cases l;have e:cdv=.ref cA:=h;subst e;exact⟨_,_,kV,doc,pm,an,ct,_,rfl,lk,hcd⟩
section
variable{X:Cx}
theorem vM(hc:X.calm=true):iK X (.type "list") (λxs H Q=>∃(p:Addr) (n:Nat),xs=[.ref p]/\H p=some (.rng 0 n)/\n<=1000000/\∀l,H l=none->Q (.ref l) (upd H l (.lst (vns (List.range n))))):=by
 intro pins s σ H xs us Q I r h;obtain⟨p,n,rfl,hp,hn,q⟩:=h;obtain⟨u,rfl,rx⟩:=vals1 r;cases rx;obtain⟨t,u,v,e⟩:=(show cG X.prog X.w H s.heap p (.rng 0 n) from I.hok p _ hp)
 have hsz:Builtin.Range.rangeSize 0 (n:Int) 1=n:=by rw[rangeSize_one];split<;>lia
 refine call_list_range (I.ok.hd hc) (show IsRange s.heap p 0 n 1 t u v from e) (small_one (by lia) (by lia) (by lia) (by lia)) hsz (by lia) λh' tk acc c' k e' it=>?_;have hv:bJ (vns (List.range n)) acc.toList:=by
  refine yO (by simp[it.1]) λj x u hx hu=>?_;rw[Zk]at hx;obtain⟨m,hm,rfl⟩:=Xk.mp hx;obtain⟨hj,rfl⟩:=Zj.mp hm;obtain⟨t,rfl⟩:=it.2 j u (by simpa using hu);exact⟨t,by simp⟩
 exact⟨.ref s.heap.objs.size,_,I.laid (t':=tk) k (Nat.le_refl _) (show cG X.prog X.w _ h' _ (.lst (vns (List.range n))) from⟨by simp;exact Ys hn (by decide),acc.toList,c',hv,by rw[e']⟩),rfl,q _ I.fresh⟩
end
end L2
namespace AW
abbrev Ts:=List (Int×Int)
abbrev Os:=List (List Int)
def plc(ts:Ts)(e:Nat):Int:=((ts[e / 2]?).map λt=>if e%2=0 then t.1 else t.2).getD (-1)
def InW(m:Int)(ts:Ts):Prop:=∀t∈ts,(0<=t.1/\t.1<m)/\0<=t.2/\t.2<m
def all2(ts:Ts):List Int:=(List.range (2*ts.length)).map λn:Nat=>(n:Int)
def endsAt(ts:Ts)(p:Int):List Int:=(all2 ts).filter λe=>plc ts e.toNat==p
theorem JV{ts:Ts}{e:Int}:e∈all2 ts↔0<=e/\e<2*ts.length:=by
 unfold all2;rw[Zh];constructor
 ·rintro⟨n,hn,rfl⟩;have:=Zs.mp hn
  lia
 ·rintro⟨h0,h1⟩;exact⟨e.toNat,Zs.mpr (by lia),by lia⟩
theorem MA{ts:Ts}{t:Int×Int}{e:Nat}(h:e<2*ts.length):plc (ts++[t]) e=plc ts e:=by
 unfold plc;rw[Zx (by lia)]
theorem IR(ts:Ts)(t:Int×Int):plc (ts++[t]) (2*ts.length)=t.1:=by
 unfold plc;rw[show 2*ts.length / 2=ts.length by lia,Yy];show(if 2*ts.length%2=0 then t.1 else t.2)=t.1;rw[if_pos (by lia)]
theorem IQ(ts:Ts)(t:Int×Int):plc (ts++[t]) (2*ts.length+1)=t.2:=by
 unfold plc;rw[show(2*ts.length+1) / 2=ts.length by lia,Yy];show(if (2*ts.length+1)%2=0 then t.1 else t.2)=t.2;rw[if_neg (by lia)]
theorem GX(ts:Ts)(t:Int×Int):all2 (ts++[t])=all2 ts++[(2*ts.length:Int),2*ts.length+1]:=by
 unfold all2;rw[Zm,show 2*(ts.length+[t].length)=2*ts.length+1+1 by simp;lia,List.range_succ,List.range_succ];simp
theorem BV(ts:Ts)(t:Int×Int)(p:Int):endsAt (ts++[t]) p=endsAt ts p++((if t.1=p then [(2*ts.length:Int)] else [])++if t.2=p then [(2*ts.length+1:Int)] else []):=by
 unfold endsAt;rw[GX,List.filter_append];congr 1
 ·refine List.filter_congr λe he=>?_;obtain⟨h0,h1⟩:=JV.mp he;rw[MA (by lia)]
 ·have e0:plc (ts++[t]) (2*(ts.length:Int)).toNat=t.1:=by rw[show(2*(ts.length:Int)).toNat=2*ts.length by lia,IR]
  have e1:plc (ts++[t]) (2*(ts.length:Int)+1).toNat=t.2:=by rw[show(2*(ts.length:Int)+1).toNat=2*ts.length+1 by lia,IQ]
  simp only[List.filter_cons,List.filter_nil,e0,e1,beq_iff_eq];by_cases h1:t.1=p<;>by_cases h2:t.2=p<;>simp[h1,h2]
end AW
namespace TU
open MM
def tab:Nat:=68056125952849030505197046069070090834
noncomputable def fT{α:Type}(n:Nat)(k:Nat->α):α:=Nat.rec (k 0) (λm _=>k (Nat.succ m)) n
theorem fS{α:Type}(n:Nat)(k:Nat->α):fT n k=k n:=by cases n<;>rfl
def nq(a d:Nat):Nat :=
 bif Nat.beq (Nat.mod d 4) 0 then Nat.add d 4 else bif Nat.beq (Nat.mod d 4) 1 then Nat.sub (Nat.add d (Nat.mul 4 a)) 1 else bif Nat.beq (Nat.mod d 4) 2 then Nat.sub d 6 else Nat.sub d (Nat.add 3 (Nat.mul 4 a))
def nhd(D q h:Nat):Nat:=Nat.land (Nat.shiftRight tab (Nat.mul 2 (Nat.add (Nat.mul 16 h) (Nat.land (Nat.shiftRight D q) 15)))) 3
noncomputable def go(a D d0:Nat)(n:Nat):Nat->Nat->Nat->(Nat->Nat->Bool)->Bool:=Nat.rec (λ_ _ _ _=>false) (λ_ ih d t V k =>
  fT (nq a d) λq=>fT (nhd D q (Nat.mod d 4)) λh=>fT (Nat.add q h) λd' =>
  fT (Nat.sub (Nat.add t (Nat.mod (Nat.sub (Nat.add h 6) (Nat.mod d 4)) 4)) 2) λt'=>fT (Nat.xor V (Nat.shiftLeft 1 d)) λV' =>
  bif Nat.beq d' d0 then k t' V' else ih d' t' V' k) n
noncomputable def wC(a D:Nat)(n:Nat):Nat->Nat->Bool:=Nat.rec (λ_ _=>false) (λ_ ih V m=>bif Nat.beq V 0 then Nat.beq m 1 else
  fT (Nat.log2 V) λd0=>bif Nat.beq (Nat.land (Nat.shiftRight D d0) 1) 1 then go a D d0 40 d0 100 V λt V'=>bif Nat.beq t 104 then ih V' m else bif Nat.beq t 96 then bif Nat.beq m 0 then ih V' 1 else false else false else false) n
def pE(a D R:Nat):Nat :=
 Nat.lor R (Nat.lor (Nat.lor (Nat.shiftLeft (Nat.land R D) 4) (Nat.shiftLeft (Nat.land R (Nat.shiftRight D 1)) (Nat.mul 4 a))) (Nat.lor (Nat.shiftRight (Nat.land R (Nat.shiftRight D 2)) 4) (Nat.shiftRight (Nat.land R (Nat.shiftRight D 3)) (Nat.mul 4 a))))
noncomputable def fl(a D n:Nat):Nat->(Nat->Bool)->Bool:=Nat.rec (λR k=>k R) (λ_ ih R k=>fT (pE a D R) λR'=>bif Nat.beq R' R then k R else ih R' k) n
def P4:Nat:=0x1111111111
noncomputable def chk(a D:Nat):Bool:=bif Nat.beq D 0 then true else
 fT (Nat.land (Nat.lor (Nat.lor D (Nat.shiftRight D 1)) (Nat.lor (Nat.shiftRight D 2) (Nat.shiftRight D 3))) P4) λT =>
 fl a D 12 (Nat.shiftLeft 1 (Nat.log2 T)) λR=>bif Nat.beq (Nat.land T R) T then wC a D 14 D 0 else Nat.beq (pE a D R) R
def nx(a D d:Nat):Nat:=nq a d+nhd D (nq a d) (d%4)
def tau(a D d:Nat):Int:=(((nhd D (nq a d) (d%4)+6-d%4)%4:Nat):Int)-2
def sm(f:Nat->Nat)(g:Nat->Int)(d:Nat):Nat->Int
 |0=>0
 |n+1=>sm f g d n+g (iter f n d)
theorem fQ(f:Nat->Nat)(d:Nat)(n:Nat):iter f n (f d)=iter f (n+1) d:=by
 have:=b7 f d 1 n;rw[Nat.add_comm 1 n]at this;exact this.symm
theorem yT(f:Nat->Nat)(g:Nat->Int)(d:Nat):∀n,sm f g d (n+1)=g d+sm f g (f d) n
 |0=>by show 0+g d=g d+0;lia
 |n+1=>by
  show sm f g d (n+1)+g (iter f (n+1) d)=g d+(sm f g (f d) n+g (iter f n (f d)))
  rw[yT f g d n,fQ];lia
def mS(f:Nat->Nat)(g:Nat->Int)(d:Nat)(x:Int):Prop:=∃n,m8 f d n/\sm f g d n=x
theorem mS.next{f:Nat->Nat}{g:Nat->Int}{d:Nat}{x:Int}(h:mS f g d x):mS f g (f d) x:=by
 obtain⟨n,⟨h0,h1,h2⟩,e⟩:=h;have key:∀j,iter f j (f d)=f d->iter f j d=d:=λj q=>by
  have e1:iter f n (f (iter f j d))=iter f n (f d):=by
   have:f (iter f j d)=f d:=by show iter f (j+1) d=f d;rw[<-fQ];exact q
   rw[this]
  rw[fQ,fQ]at e1;have e2:∀y,iter f (n+1) y=f (iter f n y):=λ_=>rfl;have e3:iter f n (iter f j d)=iter f j (iter f n d):=by rw[<-b7,<-b7,Nat.add_comm]
  have e4:iter f (n-1) (iter f (j+1) d)=iter f (n-1) (iter f 1 d):=by
   have:iter f (j+1) d=iter f 1 d:=by rw[<-fQ];exact q
   rw[this]
  rw[<-b7,<-b7,show j+1+(n-1)=n+j by lia,show 1+(n-1)=n by lia,h1,b7,h1]at e4;exact e4
 refine⟨n,⟨h0,?_,λj j0 jn q=>h2 j j0 jn (key j q)⟩,?_⟩
 ·rw[fQ];show f (iter f n d)=f d;rw[h1]
 ·have a1:=yT f g d n;have a2:sm f g d (n+1)=sm f g d n+g (iter f n d):=rfl;rw[h1]at a2
  lia
theorem mS.iter{f:Nat->Nat}{g:Nat->Int}{d:Nat}{x:Int}(h:mS f g d x):∀i,mS f g (iter f i d) x
 |0=>h
 |i+1=>(h.iter i).next
theorem mS.uniq{f:Nat->Nat}{g:Nat->Int}{d:Nat}{x y:Int}(h:mS f g d x)(h':mS f g d y):x=y:=by
 obtain⟨n,r,e⟩:=h;obtain⟨n',r',e'⟩:=h';rw[<-e,<-e',tQ r r']
theorem zP{a b:Nat}(h:Nat.beq a b=true):a=b:=Nat.eq_of_beq_eq_true h
theorem R4{a b:Nat}(h:Nat.beq a b=false):a≠b:=Nat.ne_of_beq_eq_false h
theorem NW{a D d0:Nat}{k:Nat->Nat->Bool}:∀{n d t V:Nat},2*n<=t->go a D d0 n d t V k=true->∃m t' V':Nat,0<m/\iter (nx a D) m d=d0/\(∀i,0<i->i<m->iter (nx a D) i d≠d0)/\(t':Int)=t+sm (nx a D) (tau a D) d m/\k t' V'=true/\∀e,V.testBit e=true->V'.testBit e=true\/∃i,i<m/\iter (nx a D) i d=e
 |0,_,_,_,_,h=>by cases h
 |n+1,d,t,V,ht,h=>by
  have h':(fT (nq a d) λq=>fT (nhd D q (Nat.mod d 4)) λh=>fT (Nat.add q h) λd' =>
   fT (Nat.sub (Nat.add t (Nat.mod (Nat.sub (Nat.add h 6) (Nat.mod d 4)) 4)) 2) λt'=>fT (Nat.xor V (Nat.shiftLeft 1 d)) λV' =>
   bif Nat.beq d' d0 then k t' V' else go a D d0 n d' t' V' k)=true:=h
  rw[fS,fS,fS,fS,fS]at h';have h2:(bif Nat.beq (nx a D d) d0 then k (t+(nhd D (nq a d) (d%4)+6-d%4)%4-2) (V ^^^ (1 <<< d)) else go a D d0 n (nx a D d) (t+(nhd D (nq a d) (d%4)+6-d%4)%4-2) (V ^^^ (1 <<< d)) k)=true:=h';have et:((t+(nhd D (nq a d) (d%4)+6-d%4)%4-2:Nat):Int)=t+tau a D d:=by unfold tau;lia
  have cov:∀e,V.testBit e=true->(V ^^^ (1 <<< d)).testBit e=true\/d=e:=λe he=>by
   by_cases z:d=e
   ·exact .inr z
   ·refine .inl ?_;rw[Nat.testBit_xor,he,Nat.one_shiftLeft,Nat.testBit_two_pow_of_ne z];rfl
  cases c:Nat.beq (nx a D d) d0 with
  |true =>
   rw[c]at h2;refine⟨1,_,_,Nat.one_pos,zP c,λi i0 i1=>by lia,?_,h2,λe he=>?_⟩
   ·rw[et];show _=(t:Int)+(0+tau a D d);lia
   ·rcases cov e he with z | z
    ·exact .inl z
    ·exact .inr ⟨0,Nat.one_pos,z⟩
  |false =>
   rw[c]at h2;obtain⟨m,t',V',m0,e1,e2,e3,e4,e5⟩:=NW (by omega) h2;refine⟨m+1,t',V',by lia,by rw[<-fQ];exact e1,λi i0 im=>?_,?_,e4,λe he=>?_⟩
   ·obtain⟨j,rfl⟩:∃j,i=j+1:=⟨i-1,by lia⟩
    rw[<-fQ];by_cases z:j=0
    ·subst z;exact R4 c
    ·exact e2 j (by lia) (by lia)
   ·rw[e3,et,yT];lia
   ·rcases cov e he with z | z
    ·rcases e5 e z with y | ⟨i,hi,y⟩
     ·exact .inl y
     ·exact .inr ⟨i+1,by lia,by rw[<-fQ];exact y⟩
    ·exact .inr ⟨0,by lia,z⟩
def K8(f:Nat->Nat)(g:Nat->Int)(D V:Nat):Prop:=∃s,D.testBit s=true/\mS f g s (-4)/\∀d,V.testBit d=true->mS f g d 4\/∃i,iter f i s=d
theorem zB{a D:Nat}:∀{n V m:Nat},wC a D n V m=true->m<=1->(m=1->∀d,V.testBit d=true->mS (nx a D) (tau a D) d 4)/\(m=0->K8 (nx a D) (tau a D) D V)
 |0,_,_,h,_=>by cases h
 |n+1,V,m,h,hm=>by
  have h':(bif Nat.beq V 0 then Nat.beq m 1 else
   fT (Nat.log2 V) λd0=>bif Nat.beq (Nat.land (Nat.shiftRight D d0) 1) 1 then go a D d0 40 d0 100 V λt V'=>bif Nat.beq t 104 then wC a D n V' m else bif Nat.beq t 96 then bif Nat.beq m 0 then wC a D n V' 1 else false else false else false)=true:=h
  rw[fS]at h';cases c:Nat.beq V 0 with
  |true =>
   rw[c]at h';have em:=zP h';refine⟨λ_ d hd=>?_,λz=>by lia⟩;rw[zP c,Nat.zero_testBit]at hd;cases hd
  |false =>
   rw[c]at h';have h1:(bif Nat.beq (Nat.land (Nat.shiftRight D V.log2) 1) 1 then go a D V.log2 40 V.log2 100 V λt V'=>bif Nat.beq t 104 then wC a D n V' m else bif Nat.beq t 96 then bif Nat.beq m 0 then wC a D n V' 1 else false else false else false)=true:=h';cases cb:Nat.beq (Nat.land (Nat.shiftRight D V.log2) 1) 1 with
   |false=>rw[cb]at h1;cases h1
   |true =>
   rw[cb]at h1;have hs:D.testBit V.log2=true:=by
    have e:=zP cb;show(1 &&& (D >>> V.log2) != 0)=true;rw[Nat.and_comm];have e':(D >>> V.log2) &&& 1=1:=e;rw[e'];rfl
   obtain⟨l,t,V',l0,e1,e2,e3,e4,e5⟩:=NW (n:=40) (t:=100) (by decide) (show go a D V.log2 40 V.log2 100 V _=true from h1);have on:mS (nx a D) (tau a D) V.log2 ((t:Int)-100):=⟨l,⟨l0,e1,e2⟩,by lia⟩
   cases c1:Nat.beq t 104 with
   |true =>
    rw[c1]at e4;have ih:=zB e4 hm;rw[zP c1]at on;have four:∀i,mS (nx a D) (tau a D) (iter (nx a D) i V.log2) 4:=λi=>on.iter i;refine⟨λz d hd=>?_,λz=>?_⟩
    ·rcases e5 d hd with y | ⟨i,_,rfl⟩
     ·exact ih.1 z d y
     ·exact four i
    ·obtain⟨s,sb,hs,hall⟩:=ih.2 z;refine⟨s,sb,hs,λd hd=>?_⟩;rcases e5 d hd with y | ⟨i,_,rfl⟩
     ·exact hall d y
     ·exact .inl (four i)
   |false =>
    rw[c1]at e4;cases c2:Nat.beq t 96 with
    |false=>rw[c2]at e4;cases e4
    |true =>
     rw[c2]at e4;cases c3:Nat.beq m 0 with
     |false=>rw[c3]at e4;cases e4
     |true =>
      rw[c3]at e4;have m0:=zP c3;have ih:=(zB e4 (Nat.le_refl 1)).1 rfl;rw[zP c2]at on;refine⟨λz=>by lia,λ_=>⟨V.log2,hs,on,λd hd=>?_⟩⟩;rcases e5 d hd with y | ⟨i,_,rfl⟩
      ·exact .inl (ih d y)
      ·exact .inr ⟨i,rfl⟩
def eps(a b:Nat):List (Nat×Nat):=(List.range (a*b)).flatMap λp=>(if p%a+1<a then [(4*p,4*(p+1)+2)] else [])++(if p / a+1<b then [(4*p+1,4*(p+a)+3)] else [])
noncomputable def kQ(a:Nat):List (Nat×Nat)->Nat->Bool:=List.rec (λD=>chk a D) (λe _ ih D=>bif ih D then fT (Nat.lor D (Nat.lor (Nat.pow 2 e.1) (Nat.pow 2 e.2))) ih else false)
def mkD(S:Nat×Nat->Bool):List (Nat×Nat)->Nat->Nat
 |[],D=>D
 |e::es,D=>mkD S es (if S e=true then D ||| (2 ^ e.1 ||| 2 ^ e.2) else D)
theorem zR{a:Nat}(S:Nat×Nat->Bool):∀{es:List (Nat×Nat)}{D:Nat},kQ a es D=true->chk a (mkD S es D)=true
 |[],D,h=>h
 |e::es,D,h=>by
  have h':(bif kQ a es D then fT (Nat.lor D (Nat.lor (Nat.pow 2 e.1) (Nat.pow 2 e.2))) (kQ a es) else false)=true:=h;rw[fS]at h';cases c:kQ a es D with
  |false=>rw[c]at h';cases h'
  |true =>
   rw[c]at h';show chk a (mkD S es _)=true;split
   ·exact zR S (show kQ a es (D ||| (2 ^ e.1 ||| 2 ^ e.2))=true from h')
   ·exact zR S c
theorem EN{S:Nat×Nat->Bool}{i:Nat}:∀{es:List (Nat×Nat)}{D:Nat},(mkD S es D).testBit i=true↔D.testBit i=true\/∃e∈es,S e=true/\(e.1=i\/e.2=i)
 |[],D=>by simp[mkD]
 |e::es,D=>by
  show(mkD S es _).testBit i=true↔_;rw[EN];by_cases c:S e=true
  ·rw[if_pos c,Nat.testBit_or,Nat.testBit_or,Nat.testBit_two_pow,Nat.testBit_two_pow];simp only[Bool.or_eq_true,decide_eq_true_eq,Zn];constructor
   ·rintro((h | h) | ⟨x,hx,h⟩)
    ·exact .inl h
    ·exact .inr ⟨e,.inl rfl,c,h⟩
    ·exact .inr ⟨x,.inr hx,h⟩
   ·rintro(h | ⟨x,rfl | hx,h1,h⟩)
    ·exact .inl (.inl h)
    ·exact .inl (.inr h)
    ·exact .inr ⟨x,hx,h1,h⟩
  ·rw[if_neg c];simp only[Zn];constructor
   ·rintro(h | ⟨x,hx,h⟩)
    ·exact .inl h
    ·exact .inr ⟨x,.inr hx,h⟩
   ·rintro(h | ⟨x,rfl | hx,h1,h⟩)
    ·exact .inl h
    ·exact absurd h1 c
    ·exact .inr ⟨x,hx,h1,h⟩
structure Stp(a b:Nat)(W:Nat->Nat->Option Nat):Prop where
 h4:∀{p h q},W p h=some q->h<4
 sym:∀{p h q},W p h=some q->W q ((h+2)%4)=some p
 e:∀{p q},W p 0=some q->p<a*b/\p%a+1<a/\q=p+1
 n:∀{p q},W p 1=some q->p<a*b/\p / a+1<b/\q=p+a
def DW(a b:Nat)(W:Nat->Nat->Option Nat):Nat:=mkD (λe=>(W (e.1 / 4) (e.1%4)).isSome) (eps a b) 0
section
variable{a b:Nat}{W:Nat->Nat->Option Nat}
theorem oX{x y:Nat}:(x,y)∈eps a b↔∃p,p<a*b/\((p%a+1<a/\x=4*p/\y=4*(p+1)+2)\/(p / a+1<b/\x=4*p+1/\y=4*(p+a)+3)):=by
 unfold eps;rw[Yk];constructor
 ·rintro⟨p,hp,h⟩;refine⟨p,Zs.mp hp,?_⟩;rcases Zf.mp h with h | h
  ·split at h
   ·rename_i c
    have:=Zb.mp h;cases this;exact .inl ⟨c,rfl,rfl⟩
   ·cases h
  ·split at h
   ·rename_i c
    have:=Zb.mp h;cases this;exact .inr ⟨c,rfl,rfl⟩
   ·cases h
 ·rintro⟨p,hp,h⟩;refine⟨p,Zs.mpr hp,?_⟩;rcases h with⟨c,rfl,rfl⟩ | ⟨c,rfl,rfl⟩
  ·rw[if_pos c];exact List.mem_append_left _ (.head _)
  ·rw[if_pos c];exact List.mem_append_right _ (.head _)
theorem nV(s:Stp a b W)(i:Nat):(DW a b W).testBit i=true↔(W (i / 4) (i%4)).isSome=true:=by
 unfold DW;rw[EN];constructor
 ·rintro(h | ⟨⟨x,y⟩,hm,hs,h⟩)
  ·rw[Nat.zero_testBit]at h;cases h
  ·obtain⟨q,hq⟩:=Option.isSome_iff_exists.mp hs;rcases h with h | h
   ·have:x=i:=h;rw[<-this,hq];rfl
   ·have hy:y=i:=h;obtain⟨p,hp,⟨c,rfl,rfl⟩ | ⟨c,rfl,rfl⟩⟩:=oX.mp hm
    ·have hq':W p 0=some q:=by
      have e1:(4*p) / 4=p:=by lia
      have e2:(4*p)%4=0:=by lia
      have:=hq;dsimp only at this;rw[e1,e2]at this;exact this
     have e:=(s.e hq').2.2;have:=s.sym hq';rw[<-hy,show(4*(p+1)+2) / 4=p+1 by lia,show(4*(p+1)+2)%4=(0+2)%4 by lia,<-e,this];rfl
    ·have hq':W p 1=some q:=by
      have e1:(4*p+1) / 4=p:=by lia
      have e2:(4*p+1)%4=1:=by lia
      have:=hq;dsimp only at this;rw[e1,e2]at this;exact this
     have e:=(s.n hq').2.2;have:=s.sym hq';rw[<-hy,show(4*(p+a)+3) / 4=p+a by lia,show(4*(p+a)+3)%4=(1+2)%4 by lia,<-e,this];rfl
 ·intro h;obtain⟨q,hq⟩:=Option.isSome_iff_exists.mp h;refine .inr ?_;have h4:=s.h4 hq;have ei:i=4*(i / 4)+i%4:=by lia
  generalize hp:i / 4=p at hq ei;generalize hh:i%4=k at hq ei h4;have:k=0\/k=1\/k=2\/k=3:=by lia
  rcases this with rfl | rfl | rfl | rfl
  ·obtain⟨l1,l2,l3⟩:=s.e hq;exact⟨(4*p,4*(p+1)+2),oX.mpr ⟨p,l1,.inl ⟨l2,rfl,rfl⟩⟩,by show(W (4*p / 4) (4*p%4)).isSome=true;rw[show 4*p / 4=p by lia,show 4*p%4=0 by lia,hq];rfl,.inl (by show 4*p=i;lia)⟩
  ·obtain⟨l1,l2,l3⟩:=s.n hq;exact⟨(4*p+1,4*(p+a)+3),oX.mpr ⟨p,l1,.inr ⟨l2,rfl,rfl⟩⟩,by show(W ((4*p+1) / 4) ((4*p+1)%4)).isSome=true;rw[show(4*p+1) / 4=p by lia,show(4*p+1)%4=1 by lia,hq];rfl,.inl (by show 4*p+1=i;lia)⟩
  ·have hs:=s.sym hq;obtain⟨l1,l2,l3⟩:=s.e hs;exact⟨(4*q,4*(q+1)+2),oX.mpr ⟨q,l1,.inl ⟨l2,rfl,rfl⟩⟩,by show(W (4*q / 4) (4*q%4)).isSome=true;rw[show 4*q / 4=q by lia,show 4*q%4=(2+2)%4 by lia,hs];rfl,.inr (by show 4*(q+1)+2=i;lia)⟩
  ·have hs:=s.sym hq;obtain⟨l1,l2,l3⟩:=s.n hs;exact⟨(4*q+1,4*(q+a)+3),oX.mpr ⟨q,l1,.inr ⟨l2,rfl,rfl⟩⟩,by show(W ((4*q+1) / 4) ((4*q+1)%4)).isSome=true;rw[show(4*q+1) / 4=q by lia,show(4*q+1)%4=(3+2)%4 by lia,hs];rfl,.inr (by show 4*(q+a)+3=i;lia)⟩
def Cnn(W:Nat->Nat->Option Nat):Prop:=∀S:Nat->Prop,(∀p h q,S p->W p h=some q->S q)->∀p h q p' h' q',W p h=some q->W p' h'=some q'->S p->S p'
theorem NY{D:Nat}{k:Nat->Bool}:∀{n R:Nat},fl a D n R k=true->∃R',k R'=true/\∀i,R.testBit i=true->R'.testBit i=true
 |0,R,h=>⟨R,h,λ_ z=>z⟩
 |n+1,R,h=>by
  have h':(fT (pE a D R) λR'=>bif Nat.beq R' R then k R else fl a D n R' k)=true:=h;rw[fS]at h';cases c:Nat.beq (pE a D R) R with
  |true=>rw[c]at h';exact⟨R,h',λ_ z=>z⟩
  |false =>
   rw[c]at h';obtain⟨R',e1,e2⟩:=NY (show fl a D n (pE a D R) k=true from h');refine⟨R',e1,λi hi=>e2 i ?_⟩;show(R ||| _).testBit i=true;rw[Nat.testBit_or,hi];rfl
theorem KH(s:Stp a b W){R:Nat}(h:pE a (DW a b W) R=R){p k q:Nat}(hp:R.testBit (4*p)=true)(hw:W p k=some q):R.testBit (4*q)=true:=by
 have bit:∀{x k:Nat},k<4->(W x k).isSome=true->(DW a b W).testBit (4*x+k)=true:=λ{x k} hk hx=>(nV s _).mpr (by rw[show(4*x+k) / 4=x by lia,show(4*x+k)%4=k by lia];exact hx);have hb:=bit (s.h4 hw) (by rw[hw];rfl);have h4:=s.h4 hw;rw[<-h];show(R ||| ((((R &&& DW a b W) <<< 4) ||| ((R &&& (DW a b W >>> 1)) <<< (4*a))) ||| (((R &&& (DW a b W >>> 2)) >>> 4) ||| ((R &&& (DW a b W >>> 3)) >>> (4*a))))).testBit (4*q)=true;simp only[Nat.testBit_or,Nat.testBit_and,Nat.testBit_shiftLeft,Nat.testBit_shiftRight,Bool.or_eq_true,Xx,decide_eq_true_eq];have:k=0\/k=1\/k=2\/k=3:=by lia
 rcases this with rfl | rfl | rfl | rfl
 ·obtain⟨_,_,rfl⟩:=s.e hw;refine .inr (.inl (.inl ⟨by lia,?_⟩));rw[show 4*(p+1)-4=4*p by lia];exact⟨hp,hb⟩
 ·obtain⟨_,_,rfl⟩:=s.n hw;refine .inr (.inl (.inr ⟨by lia,?_⟩));rw[show 4*(p+a)-4*a=4*p by lia];exact⟨hp,by rw[Nat.add_comm];exact hb⟩
 ·obtain⟨_,_,e⟩:=s.e (s.sym hw);refine .inr (.inr (.inl ?_));rw[show 4+4*q=4*p by lia];exact⟨hp,by rw[Nat.add_comm];exact hb⟩
 ·obtain⟨_,_,e⟩:=s.n (s.sym hw);refine .inr (.inr (.inr ?_));rw[show 4*a+4*q=4*p by lia];exact⟨hp,by rw[Nat.add_comm];exact hb⟩
end
end TU
namespace TU
open MM
section
variable{a b:Nat}{W:Nat->Nat->Option Nat}
theorem LA{i:Nat}(h:P4.testBit i=true):i%4=0/\i<40:=by
 have lt:i<40:=by
  rcases Xj i 40 with z | z
  ·exact z
  ·rw[Nat.testBit_lt_two_pow (YQ (show P4<2 ^ 40 by decide) (Nat.pow_le_pow_right (by decide) z))]at h;cases h
 have:∀j:Fin 40,P4.testBit j.1=true->j.1%4=0:=by decide
 exact⟨this ⟨i,lt⟩ h,lt⟩
theorem R7{p:Nat}(h:p<10):P4.testBit (4*p)=true:=by
 have:∀j:Fin 10,P4.testBit (4*j.1)=true:=by decide
 exact this ⟨p,h⟩
theorem Stp.lt(s:Stp a b W){p h q:Nat}(hw:W p h=some q):p<a*b:=by
 have h4:=s.h4 hw;have:h=0\/h=1\/h=2\/h=3:=by lia
 rcases this with rfl | rfl | rfl | rfl
 ·exact(s.e hw).1
 ·exact(s.n hw).1
 ·obtain⟨l1,l2,rfl⟩:=s.e (s.sym hw);have ha:0<a:=by lia
  have:q / a<b:=Nat.div_lt_of_lt_mul l1;have e:=Nat.div_add_mod q a;have:a*(q / a)+a<=a*b:=by
   have:=Nat.mul_le_mul_left a (show q / a+1<=b by lia);rw[Nat.mul_add,Nat.mul_one]at this;exact this
  lia
 ·obtain⟨l1,l2,rfl⟩:=s.n (s.sym hw);have ha:0<a:=Nat.pos_of_ne_zero λz=>by subst z;lia
  have e:=Nat.div_add_mod q a;have lm:=Nat.mod_lt q ha;have:a*(q / a)+a+a<=a*b:=by
   have:=Nat.mul_le_mul_left a (show q / a+1+1<=b by lia);rw[Nat.mul_add,Nat.mul_add,Nat.mul_one]at this;exact this
  lia
theorem LJ(s:Stp a b W)(hall:kQ a (eps a b) 0=true)(h10:a*b<=10)(cn:Cnn W)(ne:∃p h q,W p h=some q):K8 (nx a (DW a b W)) (tau a (DW a b W)) (DW a b W) (DW a b W):=by
 have hc:chk a (DW a b W)=true:=zR _ hall;generalize hT:(((DW a b W ||| (DW a b W >>> 1)) ||| ((DW a b W >>> 2) ||| (DW a b W >>> 3))) &&& P4)=T;have hc':(bif Nat.beq (DW a b W) 0 then true else fT (((DW a b W ||| (DW a b W >>> 1)) ||| ((DW a b W >>> 2) ||| (DW a b W >>> 3))) &&& P4) λT=>fl a (DW a b W) 12 (Nat.shiftLeft 1 (Nat.log2 T)) λR=>bif Nat.beq (Nat.land T R) T then wC a (DW a b W) 14 (DW a b W) 0 else Nat.beq (pE a (DW a b W) R) R)=true:=hc;rw[fS,hT]at hc';have bit:∀{x k q:Nat},W x k=some q->(DW a b W).testBit (4*x+k)=true:=λ{x k q} hx=>(nV s _).mpr (by have:=s.h4 hx;rw[show(4*x+k) / 4=x by lia,show(4*x+k)%4=k by lia,hx];rfl);have Tb:∀p,T.testBit (4*p)=true↔p<10/\∃h q,W p h=some q:=λp=>by
  rw[<-hT];simp only[Nat.testBit_and,Nat.testBit_or,Nat.testBit_shiftRight,Xx,Bool.or_eq_true];constructor
  ·rintro⟨h,hp⟩;refine⟨by have:=(LA hp).2;lia,?_⟩;have get:∀{k},k<4->(DW a b W).testBit (4*p+k)=true->∃h q,W p h=some q:=λ{k} hk z=>by
    have:=(nV s _).mp z;rw[show(4*p+k) / 4=p by lia,show(4*p+k)%4=k by lia]at this;obtain⟨q,hq⟩:=Option.isSome_iff_exists.mp this;exact⟨k,q,hq⟩
   rcases h with(h | h) | (h | h)
   ·exact get (k:=0) (by lia) h
   ·exact get (k:=1) (by lia) (by rw[Nat.add_comm];exact h)
   ·exact get (k:=2) (by lia) (by rw[Nat.add_comm];exact h)
   ·exact get (k:=3) (by lia) (by rw[Nat.add_comm];exact h)
  ·rintro⟨hp,h,q,hw⟩;refine⟨?_,R7 hp⟩;have h4:=s.h4 hw;have hb:=bit hw;have:h=0\/h=1\/h=2\/h=3:=by lia
   rcases this with rfl | rfl | rfl | rfl
   ·exact .inl (.inl hb)
   ·exact .inl (.inr (by rw[Nat.add_comm];exact hb))
   ·exact .inr (.inl (by rw[Nat.add_comm];exact hb))
   ·exact .inr (.inr (by rw[Nat.add_comm];exact hb))
 have Tm:∀{i},T.testBit i=true->i%4=0:=λ{i} h=>by
  rw[<-hT,Nat.testBit_and,Xx]at h;exact(LA h.2).1
 obtain⟨p0,h0,q0,w0⟩:=ne;have D0:DW a b W≠0:=λz=>by have:=bit w0;rw[z,Nat.zero_testBit]at this;cases this
 have t0:=(Tb p0).mpr ⟨by have:=s.lt w0;lia,h0,q0,w0⟩;have T0:T≠0:=λz=>by rw[z,Nat.zero_testBit]at t0;cases t0
 cases c:Nat.beq (DW a b W) 0 with
 |true=>exact absurd (zP c) D0
 |false =>
  rw[c]at hc';obtain⟨R,e1,e2⟩:=NY (k:=λR=>bif Nat.beq (Nat.land T R) T then wC a (DW a b W) 14 (DW a b W) 0 else Nat.beq (pE a (DW a b W) R) R) (show fl a (DW a b W) 12 (Nat.shiftLeft 1 (Nat.log2 T)) (λR=>bif Nat.beq (Nat.land T R) T then wC a (DW a b W) 14 (DW a b W) 0 else Nat.beq (pE a (DW a b W) R) R)=true from hc');cases c1:Nat.beq (Nat.land T R) T with
  |true =>
   rw[c1]at e1;exact(zB (show wC a (DW a b W) 14 (DW a b W) 0=true from e1) (by lia)).2 rfl
  |false =>
   rw[c1]at e1;have cl:=zP e1;refine absurd ?_ (R4 c1);have lg:T.testBit T.log2=true:=Nat.testBit_log2 T0;obtain⟨m,em⟩:∃m,T.log2=4*m:=⟨T.log2 / 4,by have:=Tm lg;lia⟩
   have hR0:R.testBit (4*m)=true:=e2 _ (by show(1 <<< T.log2).testBit (4*m)=true;rw[Nat.one_shiftLeft,em,Nat.testBit_two_pow_self]);rw[em]at lg;obtain⟨_,hm,qm,wm⟩:=(Tb m).mp lg;refine Nat.eq_of_testBit_eq λi=>?_;show(T &&& R).testBit i=_;rw[Nat.testBit_and];cases ct:T.testBit i with
   |false=>rfl
   |true =>
    obtain⟨p,ep⟩:∃p,i=4*p:=⟨i / 4,by have:=Tm ct;lia⟩
    rw[ep]at ct;obtain⟨_,hh,qq,ww⟩:=(Tb p).mp ct;have:=cn (λx=>R.testBit (4*x)=true) (λx h q hx hw=>KH s cl hx hw) m hm qm p hh qq wm ww hR0;rw[ep,this];rfl
def nh(W:Nat->Nat->Option Nat)(q h:Nat):Nat :=
 if (W q ((h+1)%4)).isSome=true then (h+1)%4 else if (W q h).isSome=true then h else if (W q ((h+3)%4)).isSome=true then (h+3)%4 else (h+2)%4
def QR:Bool:=(List.range 4).all λh=>(List.range 16).all λm=>((tab >>> (2*(16*h+m))) &&& 3)==(if m.testBit ((h+1)%4)=true then (h+1)%4 else if m.testBit h=true then h else if m.testBit ((h+3)%4)=true then (h+3)%4 else (h+2)%4)
theorem OD{h m:Nat}(hh:h<4)(hm:m<16):((tab >>> (2*(16*h+m))) &&& 3)=(if m.testBit ((h+1)%4)=true then (h+1)%4 else if m.testBit h=true then h else if m.testBit ((h+3)%4)=true then (h+3)%4 else (h+2)%4):=by
 have:QR=true:=by decide +kernel
 unfold QR at this;rw[List.all_eq_true]at this;have:=this h (Zs.mpr hh);rw[List.all_eq_true]at this;exact beq_iff_eq.mp (this m (Zs.mpr hm))
theorem RP(s:Stp a b W){p h q:Nat}(hw:W p h=some q):nq a (4*p+h)=4*q:=by
 have h4:=s.h4 hw;have md:Nat.mod (4*p+h) 4=h:=by show(4*p+h)%4=h;lia
 unfold nq;rw[md];have:h=0\/h=1\/h=2\/h=3:=by lia
 rcases this with rfl | rfl | rfl | rfl
 ·obtain⟨_,_,rfl⟩:=s.e hw;show 4*p+0+4=_;lia
 ·obtain⟨_,_,rfl⟩:=s.n hw;show 4*p+1+4*a-1=_;lia
 ·obtain⟨_,_,e⟩:=s.e (s.sym hw);show 4*p+2-6=_;lia
 ·obtain⟨_,_,e⟩:=s.n (s.sym hw);show 4*p+3-(3+4*a)=_;lia
theorem PV(s:Stp a b W){q h:Nat}(hh:h<4):nhd (DW a b W) (4*q) h=nh W q h:=by
 show((tab >>> (2*(16*h+((DW a b W >>> (4*q)) &&& 15)))) &&& 3)=_;have hm:(DW a b W >>> (4*q)) &&& 15<16:=Yt Nat.and_le_right (by decide);rw[OD hh hm];have bit:∀{k},k<4->((DW a b W >>> (4*q)) &&& 15).testBit k=(W q k).isSome:=λ{k} hk=>by
  have e15:(15:Nat).testBit k=true:=by
   have:∀j:Fin 4,(15:Nat).testBit j.1=true:=by decide
   exact this ⟨k,hk⟩
  rw[Nat.testBit_and,Nat.testBit_shiftRight,e15,Bool.and_true];have:=nV s (4*q+k);rw[show(4*q+k) / 4=q by lia,show(4*q+k)%4=k by lia]at this;exact Xy.mpr this
 rw[bit (Nat.mod_lt _ (by decide)),bit hh,bit (Nat.mod_lt _ (by decide))];rfl
theorem JP(s:Stp a b W){p h q:Nat}(hw:W p h=some q):nx a (DW a b W) (4*p+h)=4*q+nh W q h/\tau a (DW a b W) (4*p+h)=(((nh W q h+6-h)%4:Nat):Int)-2:=by
 have h4:=s.h4 hw;unfold nx tau;rw[RP s hw,show(4*p+h)%4=h by lia,PV s h4];exact⟨rfl,rfl⟩
end
theorem g33:kQ 3 (eps 3 3) 0=true:=by decide +kernel
theorem g52:kQ 5 (eps 5 2) 0=true:=by decide +kernel
theorem g25:kQ 2 (eps 2 5) 0=true:=by decide +kernel
theorem g42:kQ 4 (eps 4 2) 0=true:=by decide +kernel
theorem g22:kQ 2 (eps 2 2) 0=true:=by decide +kernel
theorem g32:kQ 3 (eps 3 2) 0=true:=by decide +kernel
theorem g21:kQ 2 (eps 2 1) 0=true:=by decide +kernel
theorem g14:kQ 1 (eps 1 4) 0=true:=by decide +kernel
end TU
namespace L2
open PySem PySem.Spec PyProof.Rows
theorem scm{N P:List Str}{sc:Scope}(a:sc.kind=.function:=by rfl)(b:sc.isCoroutine=false:=by rfl)(c:sc.isGenerator=false:=by rfl)(d:N.Nodup:=by decide +kernel)(e:N.take P.length=P:=by rfl)(f:∀x∈P,sc.names.lookup x=some .local\/sc.names.lookup x=some .cell:=by decide +kernel)(g:∀y∈sc.names,y.2≠.free:=by decide +kernel):a5 N P sc:=⟨a,b,c,d,e,f,g⟩
structure Fn4(K:PySem.W.Frag)(mg:Str->Option Value)(x:Str)(s:Stmt)(ps:List Str)(a:Addr)(d:FuncData):Prop where
 F:Fun K x x s a d
 m:mg x=some (.ref a)
 k:PySem.W.keepIn K (.ref a)=true
 b:Binds K d ps []
abbrev FnX(K:PySem.W.Frag)(x:Str)(s:Stmt):Prop:=∃f:Addr,PySem.W.nsIn K ZV x=some (some (.ref f))/\∃(oc:Value) (od:Option Addr) (kV dc pm:Value) (an:Option Addr) (cd ct:Value) (sl:Array (Option Value)),K.lookup f=some ⟨oc,od,.func (PySem.W.fnOf x x (jK s) (gX s) (aP s) .none kV dc pm an cd ct),sl⟩/\PySem.W.codeIn K cd x=true/\PySem.W.keepIn K (.ref f)=true
theorem cC{K:PySem.W.Frag}{mg:Str->Option Value}{h:Heap}{x:Str}{s:Stmt}{ps:List Str}(X:K.In h)(G:h.Ns ZV mg)(e:FnX K x s)(hb:∀(kV doc pm:Value) (an:Option Addr) (cdv ct:Value) (us:List Value),us.length=ps.length->bindArgs (PySem.W.fnOf x x (jK s) (gX s) (aP s) .none kV doc pm an cdv ct) ⟨us,[]⟩=pure (ps.zip us)):∃f d,Fn4 K mg x s ps f d:=by
 obtain⟨f,a,oc,od,kV,dc,pm,an,cd,ct,sl,l,c,k⟩:=e;have F:=KD (st:=s) l c k;exact⟨f,_,F,PySem.W.mg_of X G a,k,F.binds hb⟩
theorem QB{K:PySem.W.Frag}{mg:Str->Option Value}{h:Heap}{x:Str}{s:Stmt}{ps:List Str}(X:K.In h)(G:h.Ns ZV mg)(e:FnX K x s)(hb:∀(kV doc pm:Value) (an:Option Addr) (cdv ct:Value) (us:List Value),us.length=ps.length->bindArgs (PySem.W.fnOf x x (jK s) (gX s) (aP s) .none kV doc pm an cdv ct) ⟨us,[]⟩=pure (ps.zip us)):∃f d,Fn4 K mg x s ps f d/\∀(s:Shared) (us:List Value),us.length=ps.length->BindsTo s d ⟨us,[]⟩ (ps.zip us):=by
 obtain⟨f,a,oc,od,kV,dc,pm,an,cd,ct,sl,l,c,k⟩:=e;have F:=KD (st:=s) l c k;exact⟨f,_,⟨F,PySem.W.mg_of X G a,k,F.binds hb⟩,λs us hl=>.of_eq (hb _ _ _ _ _ _ us hl)⟩
theorem bH{X:Cx}{CX:CXT}{k:Nat}{f:Addr}{fd:FuncData}{ps:List Str}{sp:Sp}{E:XK}{x:Str}{p pos:Pos}{e:Expr}{es:List Expr}{s:Stmt}{t:TA}(F:cU X.prog X.w X.K X.mg X.base CX k f fd ps sp){j:Nat}(hr:eR j X.A)(c:Fn4 X.K X.mg x s ps f fd)(hx:zS CX X E)
  (ha:PA X (e::es) t) (hj:k<=j:=by decide) (hg:Gl X x:=by rfl) (hdb:(x==("__debug__" : Str))=false:=by decide) (he:starEach (e::es) X.env=(false,eval e X.env)::starEach es X.env:=by rfl) (hpl:(backTo pos (starEach es X.env)).any (·.1)=false:=by rfl) :
  PE X (.Call (.Name x p) (e::es) [] pos) (NP sp [] E t):=EK F (hr.mono hj) hg c.m c.k c.b .nil hx ha hdb he hpl
structure Mth(T:String)(name:Str)(id:String):Prop where
 a:PlainAttrs T
 b:Slot T name id
 c:typeOf (.builtin id)=pure (.type "method_descriptor")
theorem mAp:Mth "list" "append" "list.append":=⟨PySem.F.plainAttrs_list,PySem.F.slot_list_append,PySem.F.type_list_append⟩
theorem mSp:Mth "str" "split" "str.split":=⟨PySem.F.plainAttrs_str,PySem.F.slot_str_split,PySem.F.type_str_split⟩
theorem mJn:Mth "str" "join" "str.join":=⟨PySem.F.plainAttrs_str,PySem.F.slot_str_join,PySem.F.type_str_join⟩
theorem mCo:Mth "str" "count" "str.count":=⟨PySem.F.plainAttrs_str,PySem.F.slot_str_count,PySem.F.type_str_count⟩
theorem fN{X:Cx}{o e:Expr}{es:List Expr}{to:TE}{t:TA}{name:Str}{apos cpos:Pos}{T id:String}{r:V->List V->Hp->VK->Prop}(M:Mth T name id)(hm:MtR X id r)(ho:PE X o to)(ha:PA X (e::es) t)
  (hbase:attributeBase o name X.env (eval o X.env)=eval o X.env:=by rfl)
  (hfew:((backTo cpos (starEach (e::es) X.env)).all (λx=>!x.1)&&(backToKw cpos (keywordEach [] X.env)).all (λx=>x.1.isSome)
   && decide ((e::es).length+([]:List Keyword).length+(if ([]:List Keyword).isEmpty then 0 else 1)<30))=true:=by rfl)
  (hline:(apos.endLine==cpos.line)=true:=by rfl) (hs:starEach (e::es) X.env=(false,eval e X.env)::starEach es X.env:=by rfl) (hplain:(backTo cpos (starEach es X.env)).any (·.1)=false:=by rfl) :
  PE X (.Call (.Attribute o name apos) (e::es) [] cpos) (tBM X.K T r to t):=lH M.a M.b M.c hm ho ha hbase hfew hline hs hplain
theorem aU{X:Cx}{pos:Pos}(i:Nat){x:Str}{e:Expr}{te:TE}{pos':Pos}(hN:X.N.Nodup)(he:PE X e te)(hi:X.N[i]?=some x:=by rfl)(hx:Loc X.env.scope x:=by first | exact Or.inl rfl | exact Or.inr rfl)(hs:swapsWith e (some (.Name x pos')) pos.line X.env=pure false:=by rfl)(hf:X.fn x=true\/X.env.scope.names.lookup x=some .local:=by first | exact .inl rfl | exact .inr rfl | assumption) :
  PS X (.Assign [.Name x pos'] e pos) (LN te (uM i)):=IG hN hi hx he hs hf
end L2
namespace K36
open PySem L2
def top(i:Nat):Stmt:=PySem.Challenge.pw_fewbends_k36_corners_and_outer_land.main.body.getD i (.Pass ⟨0,0,0,0⟩)
abbrev nF:Stmt:=top 2
theorem AK:a5 ["head"] ["head"] (aP nF):=scm
abbrev jM:Stmt:=top 3
theorem kZ:a5 ["heads","end","head"] ["heads","end"] (aP jM):=scm
abbrev fZ:Stmt:=top 4
theorem oJ:a5 ["head","onward"] ["head","onward"] (aP fZ):=scm
abbrev gG:Stmt:=top 6
theorem jH:a5 ["many","ties","ends","number","tie"] ["many","ties"] (aP gG):=scm
abbrev k7:Stmt:=top 7
theorem yV:a5 ["end"] ["end"] (aP k7):=scm
abbrev nC:Stmt:=top 8
theorem AJ:a5 ["web","end"] ["web","end"] (aP nC):=scm
abbrev qH:Stmt:=top 9
theorem CZ:a5 ["web","end"] ["web","end"] (aP qH):=scm
abbrev tO:Stmt:=top 10
theorem wY:a5 ["web","end","order"] ["web","end"] (aP tO):=scm
abbrev yX:Stmt:=top 11
theorem AL:a5 ["web","told","seen","first","land","end"] ["web"] (aP yX):=scm
abbrev lD:Stmt:=top 12
theorem oM:a5 ["web","first","land","end"] ["web","first"] (aP lD):=scm
abbrev nG:Stmt:=top 14
theorem AM:a5 ["land","corners","lefts"] ["land","corners","lefts"] (aP nG):=scm
abbrev lB:Stmt:=top 16
theorem oK:a5 ["laid","corners","lefts"] ["laid"] (aP lB):=scm
abbrev oP:Stmt:=top 17
theorem wQ:a5 ["laid","ends_at","orders"] ["laid"] (aP oP):=scm
abbrev j9:Stmt:=top 18
theorem mV:a5 ["laid","web","corners","end","back"] ["laid"] (aP j9):=scm
abbrev nE:Stmt:=top 19
theorem rE:a5 ["laid","sums"] ["laid"] (aP nE):=scm
abbrev lF:Stmt:=top 21
theorem yW:a5 ["_law_script","_law_k"] ["_law_script","_law_k"] (aP lF):=scm
abbrev yZ:Stmt:=top 22
theorem AN:a5 ["_law_cell","_law_k","_law_again","_law_number"] ["_law_cell","_law_k"] (aP yZ):=scm
abbrev nJ:Stmt:=top 23
theorem rG:a5 ["_law_number","_law_many","_law_told","_law_k"] ["_law_number","_law_many"] (aP nJ):=scm
abbrev qE:Stmt:=top 24
theorem CY:a5 ["_law_end"] ["_law_end"] (aP qE):=scm
abbrev qC:Stmt:=top 25
theorem CW:a5 ["_law_ties","_law_end"] ["_law_ties","_law_end"] (aP qC):=scm
abbrev nN:Stmt:=top 26
theorem rL:a5 ["_law_ties","_law_orders_here","_law_end","_law_order"] ["_law_ties","_law_orders_here","_law_end"] (aP nN):=scm
abbrev qF:Stmt:=top 27
theorem tG:a5 ["_law_ties","_law_orders_here","_law_told","_law_left","_law_land","_law_here"] ["_law_ties","_law_orders_here"] (aP qF):=scm
abbrev yY:Stmt:=top 28
theorem IB:a5 ["_law_land","_law_corners","_law_lefts"] ["_law_land","_law_corners","_law_lefts"] (aP yY):=scm
abbrev tL:Stmt:=top 29
theorem wV:a5 ["_law_size","_law_point","_law_head","_law_x","_law_y"] ["_law_size","_law_point","_law_head"] (aP tL):=scm
abbrev tJ:Stmt:=top 30
theorem wR:a5 ["_law_script","_law_size","_law_found","_law_k","_law_other_here","_law_number","_law_come","_law_at","_law_head","_law_kept","_law_spot"] ["_law_script","_law_size"] (aP tJ):=scm
abbrev qB:Stmt:=top 31
theorem tE:a5 ["_law_script","_law_ways_here","_law_come","_law_found","_law_point","_law_many"] ["_law_script","_law_ways_here","_law_come"] (aP qB):=scm
abbrev tM:Stmt:=top 32
theorem wW:a5 ["_law_ways_here","_law_places","_law_point","_law_head","_law_gone","_law_line_here","_law_here","_law_back"] ["_law_ways_here","_law_places","_law_point","_law_head","_law_gone"] (aP tM):=scm
abbrev j7:Stmt:=top 33
theorem mT:a5 ["_law_line_here","_law_kept","_law_k","_law_row"] ["_law_line_here"] (aP j7):=scm
abbrev j8:Stmt:=top 34
theorem mU:a5 ["_law_line_here","_law_found","_law_k","_law_one","_law_other_here","_law_both"] ["_law_line_here"] (aP j8):=scm
abbrev qG:Stmt:=top 35
theorem tH:a5 ["_law_lines","_law_found","_law_line_here","_law_some"] ["_law_lines"] (aP qG):=scm
abbrev lE:Stmt:=top 36
theorem oO:a5 ["_law_script","_law_sizes","_law_size","_law_ways_here","_law_come","_law_places","_law_xs","_law_ys","_law_k","_law_gone","_law_ties","_law_lines","_law_place_here","_law_point","_law_head","_law_line_here","_law_spots_here","_law_heads_here","_law_orders_here","_law_own","_law_row","_law_at"] ["_law_script"] (aP lE):=scm
abbrev tK:Stmt:=top 37
theorem wU:a5 ["_law_web","_law_drawing","_law_heads_here","_law_corners","_law_end","_law_lefts","_law_line_here","_law_some","_law_found"] ["_law_web","_law_drawing"] (aP tK):=scm
abbrev qD:Stmt:=top 38
theorem tF:a5 ["_law_web","_law_shape"] ["_law_web","_law_shape"] (aP qD):=scm
abbrev nI:Stmt:=top 39
theorem rF:a5 ["_law_web","_law_shape","_law_cell","_law_many","_law_corners","_law_lefts","_law_k","_law_number","_law_end","_law_other_here","_law_ahead","_law_back"] ["_law_web","_law_shape","_law_cell","_law_many"] (aP nI):=scm
abbrev iM:Stmt:=top 40
theorem jR:a5 ["_law_web","_law_shape","_law_corners","_law_lefts","_law_found","_law_end","_law_come"] ["_law_web","_law_shape"] (aP iM):=scm
abbrev tN:Stmt:=top 41
theorem wX:a5 ["_law_web","_law_shape","_law_begun","_law_many","_law_ties","_law_heads_here","_law_owners","_law_tie","_law_one","_law_other_here","_law_head","_law_turn"] ["_law_web","_law_shape"] (aP tN):=scm
abbrev nK:Stmt:=top 42
theorem rH:a5 ["_law_script","_law_web","_law_drawing","_law_shape","_law_outer_here","_law_more"] ["_law_script"] (aP nK):=scm
abbrev qA:Stmt:=top 43
theorem CV:a5 ["_law_found"] ["_law_found"] (aP qA):=scm
abbrev nL:Stmt:=top 44
theorem rJ:a5 ["_law_laid_here","_law_rows","_law_end"] ["_law_laid_here"] (aP nL):=scm
abbrev nM:Stmt:=top 45
theorem rK:a5 ["_law_laid_here","_law_orders_here","_law_end","_law_after","_law_back"] ["_law_laid_here","_law_orders_here","_law_end"] (aP nM):=scm
abbrev IC:Stmt:=top 46
theorem IA:a5 ["_law_script","_law_web","_law_outer_here","_law_shape","_law_laid_here","_law_orders_here","_law_corners","_law_sums","_law_handed","_law_again","_law_found","_law_told","_law_number"] ["_law_script"] (aP IC):=scm
set_option genInjectivity false in
structure Adr where
 cA:Addr
 tp:Addr
 eJ:Tok
 vS:Addr
 u7:FuncData
 m7:Addr
 mZ:FuncData
 j4:Addr
 jX:FuncData
 j5:Addr
 jY:FuncData
 rX:Addr
 rQ:FuncData
 vQ:Addr
 u5:FuncData
 yK:Addr
 x5:FuncData
 CF:Addr
 B2:FuncData
 FI:Addr
 E9:FuncData
 rZ:Addr
 rS:FuncData
 vU:Addr
 vA:FuncData
 rY:Addr
 rR:FuncData
 vT:Addr
 u9:FuncData
 pR:Addr
 pK:FuncData
 vR:Addr
 u6:FuncData
 r8:Addr
 rV:FuncData
 FK:Addr
 FB:FuncData
 vW:Addr
 vC:FuncData
 yH:Addr
 xX:FuncData
 yF:Addr
 xV:FuncData
 v5:Addr
 vG:FuncData
 yI:Addr
 xY:FuncData
 FJ:Addr
 FA:FuncData
 CB:Addr
 BZ:FuncData
 B9:Addr
 BX:FuncData
 yE:Addr
 xU:FuncData
 CC:Addr
 B0:FuncData
 pP:Addr
 pI:FuncData
 pQ:Addr
 pJ:FuncData
 yJ:Addr
 xZ:FuncData
 r6:Addr
 rT:FuncData
 CA:Addr
 BY:FuncData
 yG:Addr
 xW:FuncData
 vV:Addr
 vB:FuncData
 kO:Addr
 kN:FuncData
 CD:Addr
 B1:FuncData
 vX:Addr
 vD:FuncData
 yB:Addr
 xT:FuncData
 vY:Addr
 vE:FuncData
 vZ:Addr
 vF:FuncData
 N4:Addr
 N3:FuncData
structure Txt(K:PySem.W.Frag)(mg:Str->Option Value)(t:Adr):Prop where
 uS:Fn4 K mg "opposite" nF ["head"] t.vS t.u7
 dZ:Fn4 K mg "end_heading" jM ["heads","end"] t.m7 t.mZ
 jV:Fn4 K mg "quarters_right" fZ ["head","onward"] t.j4 t.jX
 jW:Fn4 K mg "ends_at_places" gG ["many","ties"] t.j5 t.jY
 iF:Fn4 K mg "other_end" k7 ["end"] t.rX t.rQ
 uQ:Fn4 K mg "place_of" nC ["web","end"] t.vQ t.u5
 xS:Fn4 K mg "goes_to" qH ["web","end"] t.yK t.x5
 pG:Fn4 K mg "behind" tO ["web","end"] t.CF t.B2
 E2:Fn4 K mg "lands" yX ["web"] t.FI t.E9
 rO:Fn4 K mg "land_from" lD ["web","first"] t.rZ t.rS
 uU:Fn4 K mg "land_sum" nG ["land","corners","lefts"] t.vU t.vA
 rN:Fn4 K mg "land_sums" lB ["laid"] t.rY t.rR
 uT:Fn4 K mg "map_of" oP ["laid"] t.vT t.u9
 kJ:Fn4 K mg "corners_of" j9 ["laid"] t.pR t.pK
 uR:Fn4 K mg "outer_of" nE ["laid"] t.vR t.u6
 bX:Fn4 K mg "_law_cell_at" lF ["_law_script","_law_k"] t.r8 t.rV
 eE:Fn4 K mg "_law_mix" yZ ["_law_cell","_law_k"] t.FK t.FB
 uW:Fn4 K mg "_law_turned" nJ ["_law_number","_law_many"] t.vW t.vC
 eP:Fn4 K mg "_law_other" qE ["_law_end"] t.yH t.xX
 mJ:Fn4 K mg "_law_place" qC ["_law_ties","_law_end"] t.yF t.xV
 eX:Fn4 K mg "_law_behind" nN ["_law_ties","_law_orders_here","_law_end"] t.v5 t.vG
 qS:Fn4 K mg "_law_lands" qF ["_law_ties","_law_orders_here"] t.yI t.xY
 E3:Fn4 K mg "_law_sum" yY ["_law_land","_law_corners","_law_lefts"] t.FJ t.FA
 BQ:Fn4 K mg "_law_near" tL ["_law_size","_law_point","_law_head"] t.CB t.BZ
 BO:Fn4 K mg "_law_ways" tJ ["_law_script","_law_size"] t.B9 t.BX
 xQ:Fn4 K mg "_law_spots" qB ["_law_script","_law_ways_here","_law_come"] t.yE t.xU
 BR:Fn4 K mg "_law_line" tM ["_law_ways_here","_law_places","_law_point","_law_head","_law_gone"] t.CC t.B0
 pF:Fn4 K mg "_law_turns_of" j7 ["_law_line_here"] t.pP t.pI
 kI:Fn4 K mg "_law_heads_on" j8 ["_law_line_here"] t.pQ t.pJ
 qT:Fn4 K mg "_law_heads" qG ["_law_lines"] t.yJ t.xZ
 rP:Fn4 K mg "_law_picture" lE ["_law_script"] t.r6 t.rT
 BP:Fn4 K mg "_law_read" tK ["_law_web","_law_drawing"] t.CA t.BY
 xR:Fn4 K mg "_law_outer" qD ["_law_web","_law_shape"] t.yG t.xW
 uV:Fn4 K mg "_law_walked" nI ["_law_web","_law_shape","_law_cell","_law_many"] t.vV t.vB
 kM:Fn4 K mg "_law_first_heads" iM ["_law_web","_law_shape"] t.kO t.kN
 BS:Fn4 K mg "_law_laid" tN ["_law_web","_law_shape"] t.CD t.B1
 uX:Fn4 K mg "_law_shaped" nK ["_law_script"] t.vX t.vD
 xP:Fn4 K mg "_law_whole" qA ["_law_found"] t.yB t.xT
 uY:Fn4 K mg "_law_orders" nL ["_law_laid_here"] t.vY t.vE
 uZ:Fn4 K mg "_law_corner" nM ["_law_laid_here","_law_orders_here","_law_end"] t.vZ t.vF
 RZ:Fn4 K mg "law" IC ["_law_script"] t.N4 t.N3
 N6:mg "bool" = none
 kS:mg "enumerate" = none
 zV:mg "int" = none
 iP:mg "isinstance" = none
 eA:mg "len" = none
 m9:mg "list" = none
 NM:mg "min" = none
 bV:mg "range" = none
 kR:mg "sorted" = none
 DU:mg "sum" = none
 LD:mg "tuple" = none
 cZ:mg "QUARTERS_ROUND" = some (.int 4 t.eJ)
 FC:G2 K "map_of" "map_of" oP t.vT t.u9 t.cA
end K36
abbrev K36.lawK:Nat:=60
namespace L2
open PySem PyProof.Rows
def TsI(H:Hp)(a:Addr)(ts:AW.Ts):Prop:=∃tr:List Addr,H a=some (.lst (tr.map V.ref))/\tr.length=ts.length/\∀(i:Nat) t,ts[i]?=some t->∃r,tr[i]?=some r/\H r=some (.tup [.int t.1,.int t.2])
def OsI(H:Hp)(a:Addr)(os:AW.Os):Prop:=∃tr:List Addr,H a=some (.lst (tr.map V.ref))/\tr.length=os.length/\∀(i:Nat) l,os[i]?=some l->∃r,tr[i]?=some r/\H r=some (.lst (l.map V.int))
theorem TsI.nth{H:Hp}{a:Addr}{ts:AW.Ts}{tr:List Addr}(h1:tr.length=ts.length)(h2:∀(i:Nat) t,ts[i]?=some t->∃r,tr[i]?=some r/\H r=some (.tup [.int t.1,.int t.2])){i:Nat}{x:V}(hx:(tr.map V.ref)[i]?=some x) :
  ∃t r,ts[i]?=some t/\x=.ref r/\H r=some (.tup [.int t.1,.int t.2]):=by
 rw[Zk]at hx;cases e:ts[i]? with
 |none =>
  have:tr[i]?=none:=Zr (by rw[h1];exact List.getElem?_eq_none_iff.mp e);rw[this]at hx;cases hx
 |some t =>
  obtain⟨r,q1,q2⟩:=h2 i t e;rw[q1]at hx;cases hx;exact⟨t,r,rfl,rfl,q2⟩
structure iI(H H':Hp)(r:Addr)(rr:List Addr)(ls:List (List V)):Prop where
 at_:H' r=some (.lst (rr.map V.ref))
 len:rr.length=ls.length
 row:∀(i:Nat) l,ls[i]?=some l->∃x,rr[i]?=some x/\H' x=some (.lst l)
 nd:rr.Nodup
 nin:r∉rr
 new:H r=none
 news:∀x∈rr,H x=none
theorem iI.keep{H H' H2:Hp}{r:Addr}{rr:List Addr}{ls:List (List V)}(n:iI H H' r rr ls)(g:aW H' H2):iI H H2 r rr ls :=
 ⟨g _ _ n.at_,n.len,λi l h=>let⟨x,h1,h2⟩:=n.row i l h;⟨x,h1,g _ _ h2⟩,n.nd,n.nin,n.new,n.news⟩
theorem aW.fresh{H H':Hp}(g:aW H H'){x:Addr}(hx:H x=none)(o:HO):aW H (upd H' x o):=λb u h=>by rw[aH (aN h hx)];exact g _ _ h
theorem iI.set{H0 H:Hp}{o x:Addr}{rr:List Addr}{ls:List (List V)}(n:iI H0 H o rr ls){p:Nat}{l:List V}(hx:rr[p]?=some x):iI H0 (upd H x (.lst l)) o rr (ls.set p l) where
 at_:=by rw[aH (show o≠x from λz=>n.nin (z▸Zg hx))];exact n.at_
 len:=by rw[List.length_set];exact n.len
 row:=λi m h=>by
  by_cases e:p=i
  ·subst e;have hp:p<ls.length:=n.len▸(Zj.mp hx).1;rw[List.getElem?_set_self hp]at h;cases h;exact⟨x,hx,aB⟩
  ·rw[List.getElem?_set_ne e]at h;obtain⟨y,h1,h2⟩:=n.row i m h;refine⟨y,h1,?_⟩;have ne:y≠x:=by
    rintro rfl;obtain⟨a1,b1⟩:=Zj.mp h1;obtain⟨a2,b2⟩:=Zj.mp hx;exact e ((List.getElem_inj n.nd).mp (b2.trans b1.symm))
   rw[aH ne];exact h2
 nd:=n.nd
 nin:=n.nin
 new:=n.new
 news:=n.news
theorem iI.os{H H':Hp}{r:Addr}{rr:List Addr}{os:AW.Os}(n:iI H H' r rr (os.map λl=>l.map V.int)):OsI H' r os :=
 ⟨rr,n.at_,by rw[n.len,Zq],λi l h=>n.row i _ (by rw[Zk,h];rfl)⟩
theorem qV{J:It}{js:List (Option Nat)}{σ:St}{H1:Hp}{R:Hp->Prop}{D:Addr}{g:TG}{te:TE}(n:Nat)(fs:Nat->List V)(hD:H1 D=none)(hn:n<=100000)
  (go:∀i H',i<n->aW H1 H'->J.go i H') (stop:∀H',aW H1 H'->J.stop n H')
  (hs:∀i H' x H'' (k:V->Hp->Prop),i<n->aW H1 H'->J.yld i H' x H''->(∀a H4,H' a=none->aW H' H4->H4 a=some (.lst (fs i))->k (.ref a) H4)->g x (inner js σ) H'' λσ2 H2=>Fills (inner js σ) σ2/\te σ2 H2 k)
  (hd:∀(rr:List Addr) H',iI H1 H' D rr ((List.range n).map fs)->aW H1 H'->R H') :
  ∃W:Nat->Nat->List V->Hp->Prop,(∃m,W 0 m [] (upd H1 D (.lst []))) /\
   ∀i m ys H,W i m ys H->(J.stop i H/\R H)\/(J.go i H/\∃N:List V->Hp->Prop,(∀ys' H',N ys' H'->∃m',m' < m/\W (i+1) m' ys' H')/\∀x H',J.yld i H x H'->g x (inner js σ) H' λσ2 H2=>Fills (inner js σ) σ2/\rB σ2 H2 λb H3 =>
    if b=true then te σ2 H3 λy H4=>H4 D=some (.lst ys)/\ys.length<ZW/\N (ys++[y]) (upd H4 D (.lst (ys++[y]))) else N ys H3):=by
 refine comp_map n (λi ys H'=>∃rr:List Addr,ys=rr.map V.ref/\iI H1 H' D rr ((List.range i).map fs)/\aW H1 H') ⟨[],rfl,⟨aB,rfl,λi l h=>by simp at h,List.nodup_nil,by simp,hD,by simp⟩,aG hD _⟩ ?_ ?_
 ·rintro i ys H' hi ⟨rr,rfl,w,g1⟩;have hl:rr.length=i:=by rw[w.len];simp
  refine⟨go i H' hi g1,λx H'' hy=>hs i H' x H'' _ hi g1 hy λa H4 ha g4 e4=>⟨g4 _ _ w.at_,?_,rr++[a],?_,?_,?_⟩⟩
  ·rw[Zq,hl];exact YQ hi (Ys hn (by decide))
  ·rw[Zt];rfl
  ·have aD:a≠D:=λz=>by rw[z,w.at_]at ha;cases ha
   have ain:a∉rr:=λz=>by
    obtain⟨j,hj,e⟩:=Yg.mp z;have hj':j<((List.range i).map fs).length:=w.len▸hj;obtain⟨y,h1,h2⟩:=w.row j _ (Zz hj');rw[Zz hj,e]at h1;cases h1;rw[ha]at h2;cases h2
   refine⟨by rw[Zt];exact aB,by simp[hl],λj l h=>?_,?_,?_,hD,?_⟩
   ·by_cases hj:j<i
    ·have e:((List.range (i+1)).map fs)[j]?=((List.range i).map fs)[j]?:=by simp[hj,Xq hj]
     rw[e]at h;obtain⟨y,h1,h2⟩:=w.row j l h;have yD:y≠D:=λz=>w.nin (z▸Zg h1);exact⟨y,by rw[Zx (by lia)];exact h1,by rw[aH yD];exact g4 _ _ h2⟩
    ·have hj2:j=i:=by
      have:=(Zj.mp h).1;simp at this;lia
     subst hj2;have e:l=fs j:=by simpa using h.symm
     subst e;exact⟨a,by rw[<-hl,Yy],by rw[aH aD];exact e4⟩
   ·rw[List.nodup_append];refine⟨w.nd,by simp,λb hb c hc z=>?_⟩;have e:c=a:=by simpa using hc
    subst e;subst z;exact ain hb
   ·intro z;rcases Zf.mp z with z | z
    ·exact w.nin z
    ·exact aD (Zb.mp z).symm
   ·intro y hy;rcases Zf.mp hy with z | z
    ·exact w.news y z
    ·rw[Zb.mp z];exact g1.free ha
  ·exact(g1.trans g4).fresh hD _
 ·rintro ys H' ⟨rr,rfl,w,g1⟩;exact⟨stop H' g1,hd rr H' w g1⟩
theorem iI.item{H0 H:Hp}{o:Addr}{rr:List Addr}{n:Nat}{f:Nat->List V}(w:iI H0 H o rr ((List.range n).map f)){p:Nat}(hp:p<n) :
  ∃x,rr[p]?=some x/\H x=some (.lst (f p))/\H0 x=none/\atI (rr.map V.ref) (p:Int)=some (.ref x):=by
 obtain⟨x,h1,h2⟩:=w.row p (f p) (by simp[hp]);exact⟨x,h1,h2,w.news x (Zg h1),cE (by rw[Zk,h1];rfl)⟩
theorem set_range{n p:Nat}{f:Nat->List V}{v:List V}:((List.range n).map f).set p v=(List.range n).map λi=>if i=p then v else f i:=by
 refine Yp λi=>?_;rw[List.getElem?_set];by_cases e:p=i
 ·subst e;by_cases h:p<n<;>simp[h]
 ·rw[if_neg e];by_cases h:i<n
  ·simp[h,Ne.symm e]
  ·simp[h]
theorem iI.put{H0 H:Hp}{o x:Addr}{rr:List Addr}{n p:Nat}{f:Nat->List V}(w:iI H0 H o rr ((List.range n).map f))(hx:rr[p]?=some x)(l:List V) :
  iI H0 (upd H x (.lst l)) o rr ((List.range n).map λi=>if i=p then l else f i):=by
 rw[<-set_range];exact w.set hx
end L2
namespace AW
end AW
variable{P:PySem.Program}{w:PySem.World}{K:PySem.W.Frag}{mg:PySem.Str->Option PySem.Value}{base:PySem.Heap}{t:K36.Adr}
namespace K36
open PySem L2 PyProof.Rows
def RA:Sp:=λvs H Q _=>∃(m:Nat) (a:Addr) (ts:AW.Ts),vs=[vn m,.ref a]/\TsI H a ts/\AW.InW m ts/\m<=45000/\ts.length<=45000 /\
 ∀(r:Addr) (H':Hp),aW H H'->OsI H' r ((List.range m).map λp:Nat=>AW.endsAt ts p)->Q (.ref r) H'
theorem PR(T:Txt K mg t):cU P w K mg base CX0 1 t.j5 t.jY ["many","ties"] RA:=by
 refine T.jW.F.ok jH (λvs H Q E h=>?_) (λcdv A outer s H vs Q E hr h=>?_)
 ·obtain⟨m,a,ts,rfl,_⟩:=h;rfl
 obtain⟨m,a,ts,rfl,⟨tr,e1,e2,e3⟩,hw,hm,hl,q⟩:=h;have nd:=jH.nd;have nd_place:(["place"]:List Str).Nodup:=by decide
 refine⟨_,(aF (dD (i:=2) nd rfl (Or.inl rfl)  (N':=["place"]) (js:=[none]) rfl (bP rfl T.bV (aA (pv 0) aE)) (λ_ _ _ _ _=>(aQ (i:=0) nd_place rfl (Or.inl rfl))) (λ_ _ _ _ _=>dE) (λ_ _ _ _ _=>(bZ aE)))
  (aF (cR PassesOwn.never rfl (zA rfl T.kS (aA (pv 1) aE)) (kD rfl (bY (aQ (i:=3) nd rfl (Or.inl rfl)) (bY (aQ (i:=4) nd rfl (Or.inl rfl)) gN))) (aF (bM (fN mAp bA (aL aR (pv 2) (aL aZ (pv 4) aC (λ_ _=>rfl)) (λ_ _=>rfl)) (aA (aJ cS aC (pv 3)) aE)))
  (aK (bM (fN mAp bA (aL aR (pv 2) (aL aZ (pv 4) aC (λ_ _=>rfl)) (λ_ _=>rfl)) (aA (aJ bD (aJ cS aC (pv 3)) aC) aE))))))
  (aK (bE (pv 2))))),?_⟩
 refine(sG _ rfl (m:Int) rfl (by lia) (by lia) (λD hD=>?_));refine qV m (λ_=>[]) hD (by lia) (λi H' hi g2=>?_) (λH' g2=>?_) ?_ ?_
 ·show i<((m:Int)-0).toNat;lia
 ·show((m:Int)-0).toNat<=m;lia
 ·rintro i H' x H'' k hi g2 hy hk;obtain⟨e,y⟩:=hy;subst e;exact⟨(Fills.refl _).set _ rfl,(by show 0<=ZW;decide),λl hl'=>hk l _ hl' (aG hl' _) aB⟩
 ·intro rr H1 w1 g1
  let F:Nat->Nat->List V:=λk p=>(AW.endsAt (ts.take k) p).map V.int
  refine(dI _ rfl a rfl ⟨_,SqL.of (g1 _ _ e1)⟩ (uN (K:=K) (a:=a) (xs:=tr.map V.ref) (λk σ H'=>(∃v3 v4,σ=[some (vn m),some (.ref a),some (.ref D),v3,v4])/\iI H H' D rr ((List.range m).map (F k))/\aW H H') ⟨⟨_,_,rfl⟩,?_,g1⟩ ?_ ?_ ?_))
  ·have e:F 0=λ_=>[]:=by funext p;show(AW.endsAt (ts.take 0) p).map V.int=[];rw[List.take_zero];rfl
   rw[e];exact w1
  ·rintro i σ H' hi ⟨_,_,g2⟩;exact SqL.of (g2 _ _ e1)
  ·rintro i x σ H' Tp hx ⟨⟨v3,v4,rfl⟩,w2,g2⟩ hTp;obtain⟨⟨u,v⟩,r,et,rfl,er⟩:=TsI.nth (a:=a) e2 e3 hx;obtain⟨⟨u0,u1⟩,v0,v1⟩:=hw _ (Zg et);obtain⟨p1,rfl⟩:=Int.eq_ofNat_of_zero_le u0;obtain⟨p2,rfl⟩:=Int.eq_ofNat_of_zero_le v0;have u1:p1<m:=Int.ofNat_lt.mp u1;have v1:p2<m:=Int.ofNat_lt.mp v1;have hi:i<ts.length:=(Zj.mp et).1;have g3:=g2.trans (aG hTp (.tup [vn i,.ref r]));have w3:=w2.keep (aG hTp (.tup [vn i,.ref r]));have small:∀(k p:Nat),(F k p).length<ZW:=λk p=>by
    show((AW.endsAt (ts.take k) p).map V.int).length<ZW;have h1:(AW.endsAt (ts.take k) p).length<=(AW.all2 (ts.take k)).length:=List.length_filter_le ..;have h2:(AW.all2 (ts.take k)).length<=90000:=by unfold AW.all2;rw[Zq,Yj,Yx];lia
    rw[Zq];exact Yt (Ys h1 h2) (by decide)
   refine(aY Tp _ rfl (SqT.of aB) rfl (hG _ _ rfl _ _ rfl rfl ?_));obtain⟨x1,a1,b1,c1,d1⟩:=w3.item u1;refine⟨_,rfl,(aI _ rfl r _ _ _ rfl ⟨ rfl,(iC (SqT.of (g3 _ _ er)) rfl D _ _ _ rfl (yM rfl (SqL.of w3.at_) d1 (.inl ⟨rfl,_,SqL.of b1⟩) _ rfl (aY _ _ rfl rfl (.inl ⟨by decide,by decide⟩) (bB x1 _ _ rfl rfl b1 (small i p1) ?_))))⟩)⟩;have w4:=w3.put a1 (F i p1++[V.int (2*(i:Int))]);have g4:=g3.fresh c1 (.lst (F i p1++[V.int (2*(i:Int))]));obtain⟨x2,a2,b2,c2,d2⟩:=w4.item v1;refine⟨_,rfl,(aI _ rfl r _ _ _ rfl ⟨ rfl,(iC (SqT.of (g4 _ _ er)) rfl D _ _ _ rfl (yM rfl (SqL.of w4.at_) d2 (.inl ⟨rfl,_,SqL.of b2⟩) _ rfl (aY _ _ rfl rfl (.inl ⟨by decide,by decide⟩) ⟨ _,(fI _ rfl rfl x2 _ _ rfl (jL rfl b2 ?_ ⟨_,_,rfl⟩ ?_ (g4.fresh c2 _)))⟩)))⟩)⟩
   ·show(if p2=p1 then F i p1++[V.int (2*(i:Int))] else F i p2).length<ZW;have h1:=small i p1;have h2:=small i p2;split
    ·rw[Zm];have h3:(AW.endsAt (ts.take i) p1).length<=(AW.all2 (ts.take i)).length:=List.length_filter_le ..;have h4:(AW.all2 (ts.take i)).length<=90000:=by unfold AW.all2;rw[Zq,Yj,Yx];lia
     have h5:(F i p1).length=(AW.endsAt (ts.take i) p1).length:=Zq ..;exact Yt (show _<=90001 by rw[h5];simp;lia) (by decide)
    ·exact h2
   ·have w5:=w4.put a2 ((if p2=p1 then F i p1++[V.int (2*(i:Int))] else F i p2)++[V.int (2*(i:Int)+1)]);have e:(λj=>if j=p2 then (if p2=p1 then F i p1++[V.int (2*(i:Int))] else F i p2)++[V.int (2*(i:Int)+1)] else if j=p1 then F i p1++[V.int (2*(i:Int))] else F i j)=F (i+1):=by
     funext j
     have ht:ts.take (i+1)=ts.take i++[((p1:Int),(p2:Int))]:=by rw[List.take_add_one,et];rfl
     have hlt:(ts.take i).length=i:=by rw[Yx];lia
     show _=(AW.endsAt (ts.take (i+1)) j).map V.int;rw[ht,AW.BV,hlt,Zt,Zt];have c1:((p1:Int)=(j:Int))↔(j=p1):=by lia
     have c2:((p2:Int)=(j:Int))↔(j=p2):=by lia
     simp only[c1,c2];by_cases k2:j=p2
     ·subst k2;by_cases k1:j=p1
      ·subst k1;simp[F]
      ·simp[F,k1]
     ·by_cases k1:j=p1
      ·subst k1;simp[F,k2]
      ·simp[F,k1,k2]
    rw[e]at w5;exact w5
  ·rintro σ H' ⟨⟨v3,v4,rfl⟩,w2,g2⟩;refine⟨_,rfl,q D H' g2 ?_⟩;have e:F (tr.map V.ref).length=λp:Nat=>(AW.endsAt ts p).map V.int:=by funext p;show(AW.endsAt (ts.take _) p).map V.int=_;rw[Zq,e2,Yw]
   rw[e]at w2;refine iI.os (rr:=rr) (H:=H) ?_;rw[Yb];exact w2
def OV(K:PySem.W.Frag):Sp:=λvs H Q _=>∃(a:Addr) (ns:List Int) (k:Int),vs=[.ref a,.int k]/\SqL K H a (ns.map V.int)/\0<=k/\∀c:Int,Q (.int c) H
theorem QK{ns:List Int}{k:Int}(h0:0<=k)(h:k<(ns.length:Int)):∃v:Int,atI (ns.map V.int) k=some (.int v):=by
 have hk:k.toNat<ns.length:=by lia
 have ek:k=((k.toNat:Nat):Int):=by lia
 have q:atI (ns.map V.int) ((k.toNat:Nat):Int)=some (.int ns[k.toNat]):=cE (by rw[Zk,Zz hk]<;>rfl);rw[<-ek]at q;exact⟨_,q⟩
theorem eK(T:Txt K mg t):cU P w K mg base CX0 1 t.r8 t.rV ["_law_script","_law_k"] (OV K):=by
 refine T.bX.F.ok yW (λvs H Q E h=>?_) (λcdv A outer s H vs Q E hr h=>?_)
 ·obtain⟨a,ns,k,rfl,_⟩:=h;rfl
 obtain⟨a,ns,k,rfl,hS,h0,q⟩:=h;refine⟨_,(aF (fL (bF tZ (pv 1) (a7 a4 rfl T.eA PySem.boot_len (aA (pv 0) aE)) (bO _)) (aK (bE (aL aR (pv 0) (pv 1) (λ_ _=>rfl)))) dA)
  (aK (bE aC))),?_⟩
 refine(bS _ rfl _ rfl a _ rfl (iB (.inl hS) _ _ rfl rfl _ rfl ?_));refine uJ (λc=>?_) (λc=>?_)
 ·have c':k<(((ns.map V.int).length:Nat):Int):=of_decide_eq_true c;rw[Zq]at c';obtain⟨v,hv⟩:=QK h0 c';exact⟨_,rfl,(aI _ rfl a _ _ _ rfl ⟨ rfl,hS,hv,q v⟩)⟩
 ·exact q 0
def Q7:Sp:=λvs H Q _=>∃c k:Int,vs=[.int c,.int k]/\0<=k/\k<=1000/\∀m:Int,0<=m->m<1000000000->Q (.int m) H
theorem gI(T:Txt K mg t):cU P w K mg base CX0 1 t.FK t.FB ["_law_cell","_law_k"] Q7:=by
 refine T.eE.F.ok AN (λvs H Q E h=>?_) (λcdv A outer s H vs Q E hr h=>?_)
 ·obtain⟨a,k,rfl,_⟩:=h;rfl
 obtain⟨c,k,rfl,h0,h1,q⟩:=h;have nd:=AN.nd;refine⟨_,(aF (fL (bF JD (pv 0) (aJ C4 aC aC) (bO _)) (aF (cR PassesOwn.never rfl (bP rfl T.bV (aA (pv 1) aE)) (aQ (i:=2) nd rfl (Or.inl rfl)) (aK (aU 0 nd (aJ dG (pv 0) (aJ C4 aC aC)))))
  (aK (bE (aJ bG (pv 0) (aJ C4 aC aC))))) dA)
  (aF (aU 3 nd (aJ bG (aJ cS (aJ bD (aJ bD (aJ bG (pv 0) aC) (aJ cS (aJ cS (pv 1) (pv 1)) aC)) (pv 1)) aC) aC))
  (aF (aU 3 nd (aJ bG (aJ cS (pv 3) (pv 3)) aC))
  (aK (bE (aJ dG (aJ bG (aJ cS (pv 3) (aJ bD (pv 3) aC)) aC) aC)))))),?_⟩
 have p18:QN 10 18:=⟨by decide,by decide,by decide⟩
 have p6:QN 10 6:=⟨by decide,by decide,by decide⟩
 refine(bT _ rfl _ _ rfl rfl p18 (lX _ _ rfl rfl _ rfl ?_));refine uJ (λ_=>?_) (λ_=>?_)
 ·refine(sG _ rfl k rfl (by lia) (by lia) (cI (lo:=0) (n:=k.toNat) (λ_ σ H'=>H'=H/\∃(c':Int) (o:Option V),σ=[some (.int c'),some (.int k),o,none]) ⟨rfl,c,none,rfl⟩ ?_ ?_))
  ·rintro i σ H' hi ⟨rfl,c',o,rfl⟩;exact(bT _ rfl _ _ rfl rfl p6 (bR _ _ rfl rfl ⟨by decide,by decide⟩ rfl ⟨ _,_,rfl⟩))
  ·rintro σ H' ⟨rfl,c',o,rfl⟩;refine(bT _ rfl _ _ rfl rfl p6 (aY _ _ rfl rfl (by show(0:Int)<10 ^ 6;decide) (q _ (Xv _ (by decide)) ?_)));exact Int.lt_trans (Xw _ (by decide)) (by decide)
 ·refine(bT _ rfl _ _ rfl rfl (by show(0:Int)<1000003;decide) (bS _ rfl _ rfl _ _ rfl (sX rfl (.inl ⟨by lia,by lia⟩) _ _ rfl rfl (.inr ⟨by decide,by decide⟩) (lX _ _ rfl rfl _ rfl (hU _ _ rfl rfl _ _ rfl (sX rfl (.inr ⟨by decide,by decide⟩) _ _ rfl rfl (by show(0:Int)<2147483629;decide) ?_))))));have b1:∀x:Int,0<=x%2147483629/\x%2147483629<2147483629:=λx=>⟨Xv _ (by decide),Xw _ (by decide)⟩
  have b2:∀x:Int,0<=x%2147483587/\x%2147483587<2147483587:=λx=>⟨Xv _ (by decide),Xw _ (by decide)⟩
  have b3:∀x:Int,0<=x%2147483579/\x%2147483579<2147483579:=λx=>⟨Xv _ (by decide),Xw _ (by decide)⟩
  generalize hn1:((c%1000003+k*k*7919+k)*48271%2147483629:Int)=n1;have r1:=b1 ((c%1000003+k*k*7919+k)*48271);rw[hn1]at r1;refine(bS _ rfl _ rfl _ _ rfl (sX rfl (.inl ⟨by lia,by lia⟩) _ _ rfl rfl (by show(0:Int)<2147483587;decide) ?_));have r2:=b2 (n1*n1);generalize n1*n1%2147483587=n2 at r2 ⊢;refine(bS _ rfl _ rfl _ _ rfl (gK rfl _ _ rfl rfl (.inl ⟨by lia,by lia⟩) (aY _ _ rfl rfl (by show(0:Int)<2147483579;decide) (aY _ _ rfl rfl ⟨by decide,by decide⟩ ?_))));have r3:=b3 (n2*(n2+2));generalize n2*(n2+2)%2147483579=n3 at r3 ⊢;exact q _ (by lia) (by lia)
def NR:Sp:=λvs H Q _=>∃e:Nat,vs=[vn e]/\Q (vn (MM.oth e)) H
theorem fC(T:Txt K mg t):cU P w K mg base CX0 1 t.yH t.xX ["_law_end"] NR:=by
 refine T.eP.F.ok CY (λvs H Q E h=>?_) (λcdv A outer s H vs Q E hr h=>?_)
 ·obtain⟨e,rfl,_⟩:=h;rfl
 obtain⟨e,rfl,q⟩:=h;refine⟨_,(aK (bE (aJ cH (aJ bD (pv 0) aC) (aJ cS aC (aJ bG (pv 0) aC))))),?_⟩;refine(a9 _ rfl _ _ rfl rfl (bT _ rfl _ _ rfl rfl (by show(0:Int)<2;decide) (aY _ _ rfl rfl (.inl ⟨by decide,by decide⟩) ⟨ _,_,rfl,rfl,?_⟩)));have e1:(e:Int)+1-2*((e:Int)%2)=((MM.oth e:Nat):Int):=by unfold MM.oth;split<;>lia
 show Q (.int ((e:Int)+1-2*((e:Int)%2))) H;rw[e1];exact q
def LR:Sp:=λvs H Q _=>∃(a:Addr) (ts:MM.aS) (e:Nat),vs=[.ref a,vn e]/\kK H a ts/\e<2*ts.length/\Q (vn (MM.place ts e)) H
theorem FG{x y:Nat}(e:Nat):atI [vn x,vn y] ((e:Int)%2)=some (vn (if e%2=0 then x else y)):=by
 rcases Nat.mod_two_eq_zero_or_one e with h | h
 ·rw[show(e:Int)%2=0 by lia,if_pos h];rfl
 ·rw[show(e:Int)%2=1 by lia,if_neg (by lia)];rfl
theorem qM(T:Txt K mg t):cU P w K mg base CX0 1 t.yF t.xV ["_law_ties","_law_end"] LR:=by
 refine T.mJ.F.ok CW (λvs H Q E h=>?_) (λcdv A outer s H vs Q E hr h=>?_)
 ·obtain⟨a,ts,e,rfl,_⟩:=h;rfl
 obtain⟨a,ts,e,rfl,ht,he,q⟩:=h;refine⟨_,(aK (bE (aL uI (aL aR (pv 0) (aJ dG (pv 1) aC) (λ_ _=>rfl)) (aJ bG (pv 1) aC) (λ_ _=>rfl)))),?_⟩;obtain⟨xs,r,h1,h2,h3,h4⟩:=ht.item (i:=e / 2) (by lia);refine(bS _ rfl _ rfl _ _ rfl (iC rfl ⟨by decide,by decide⟩ a xs _ _ rfl ⟨ rfl,SqL.of h1,(by show atI xs ((e:Int) / 2)=_;rw[show(e:Int) / 2=((e / 2:Nat):Int) by lia];exact h3),?_⟩));refine(bT _ rfl _ _ rfl rfl (by show(0:Int)<2;decide) (.inr (.inl (aO r _ _ _ rfl rfl (SqT.of h4) ⟨ FG e,?_⟩))));unfold MM.place at q;split
 ·rename_i h;rw[if_pos h]at q;exact q
 ·rename_i h;rw[if_neg h]at q;exact q
def RC:Sp:=λvs H Q _=>∃(a o:Addr) (ts:MM.aS) (os:MM.bI) (e:Nat),vs=[.ref a,.ref o,vn e]/\kK H a ts/\qZ H o os/\MM.Good ts os/\e<2*ts.length/\Q (vn (MM.behind ts os e)) H
theorem gJ(T:Txt K mg t):cU P w K mg base CX0 2 t.v5 t.vG ["_law_ties","_law_orders_here","_law_end"] RC:=by
 refine T.eX.F.ok rL (λvs H Q E h=>?_) (λcdv A outer s H vs Q E hr h=>?_)
 ·obtain⟨a,o,ts,os,e,rfl,_⟩:=h;rfl
 obtain⟨a,o,ts,os,e,rfl,ht,ho,g,he,q⟩:=h;have nd:=rL.nd;refine⟨_,(aF (aU 3 nd (aL aR (pv 1) (bH (qM T) hr T.mJ aX (aA (pv 0) (aA (bH (fC T) hr T.eP aX (aA (pv 2) aE)) aE))) (λ_ _=>rfl)))
  (aK (bE (aL aR (pv 3) (aJ cH (lH PySem.F.plainAttrs_list PySem.F.slot_list_index PySem.F.type_list_index oW (pv 3) (aA (bH (fC T) hr T.eP aX (aA (pv 2) aE)) aE)) aC) (λ_ _=>rfl))))),?_⟩
 have hp:=g.g.has (MM.oth e) (MM.b9 he);obtain⟨xs,r,h1,h2,h3,h4⟩:=ho.item hp.1;refine(cQ _ rfl _ rfl _ rfl (cW e rfl a ts (MM.oth e) rfl ht (nY (MM.b9 he) o xs _ _ rfl rfl ⟨ SqL.of h1,h3,?_⟩)));refine(iV _ rfl _ rfl (.inl ⟨rfl,_,SqL.of h4⟩) _ rfl (cW e rfl r _ _ rfl rfl (nZ h4 hp.2 _ _ rfl rfl (aO r _ _ _ rfl rfl (SqL.of h4) ⟨ FF hp.2,q⟩))))
end K36
namespace L2
open PySem PyProof.Rows
structure fX(H H':Hp)(r:Addr)(rr:List Addr)(ls:MM.bI):Prop where
 at_:H' r=some (.lst (rr.map V.ref))
 len:rr.length=ls.length
 row:∀(i:Nat) l,ls[i]?=some l->∃x,rr[i]?=some x/\H' x=some (.lst (vns l))
 nd:rr.Nodup
 nin:r∉rr
 new:H r=none
 news:∀x∈rr,H x=none
theorem fX.keep{H H' H2:Hp}{r:Addr}{rr:List Addr}{ls:MM.bI}(n:fX H H' r rr ls)(g:∀b o,b=r\/b∈rr->H' b=some o->H2 b=some o):fX H H2 r rr ls :=
 ⟨g _ _ (.inl rfl) n.at_,n.len,λi l h=>by obtain⟨x,h1,h2⟩:=n.row i l h;exact⟨x,h1,g _ _ (.inr (Zg h1)) h2⟩,n.nd,n.nin,n.new,n.news⟩
theorem fX.ex{H H':Hp}{r:Addr}{rr:List Addr}{ls:MM.bI}(n:fX H H' r rr ls){x:Addr}(hx:x∈rr):∃l,H' x=some (.lst (vns l)):=by
 obtain⟨i,hi,rfl⟩:=Yg.mp hx;have hi':i<ls.length:=by rw[<-n.len];exact hi
 obtain⟨y,h1,h2⟩:=n.row i (ls[i]'hi') (Zz hi');rw[Zz hi]at h1;cases h1;exact⟨_,h2⟩
theorem fX.push{H H' H2:Hp}{r x:Addr}{rr:List Addr}{ls:MM.bI}{l:List Nat}(n:fX H H' r rr ls)(hx:H x=none)(hxr:x∉rr)(hxn:x≠r)(at2:H2 r=some (.lst ((rr++[x]).map V.ref)))(ax:H2 x=some (.lst (vns l)))
  (g:∀b o,b∈rr->H' b=some o->H2 b=some o):fX H H2 r (rr++[x]) (ls++[l]) where
 at_:=at2
 len:=by rw[Zm,Zm,n.len];rfl
 row:=λi m h=>by
  rcases Xj i ls.length with q | q
  ·rw[Zx q]at h;obtain⟨y,h1,h2⟩:=n.row i m h;exact⟨y,by rw[Zx (by rw[n.len];exact q)];exact h1,g _ _ (Zg h1) h2⟩
  ·have hi:i=ls.length:=by
    obtain⟨z,_⟩:=Zj.mp h;rw[Zm]at z;simp at z
    lia
   subst hi;rw[Yy]at h;cases h;exact⟨x,by rw[<-n.len,Yy],ax⟩
 nd:=by
  rw[List.nodup_append];refine⟨n.nd,by simp,λa ha b hb z=>?_⟩;have e:b=x:=by simpa using hb
  subst e;subst z;exact hxr ha
 nin:=λz=>by
  rcases Zf.mp z with z | z
  ·exact n.nin z
  ·have e:r=x:=by simpa using z
   exact hxn e.symm
 new:=n.new
 news:=λy hy=>by
  rcases Zf.mp hy with z | z
  ·exact n.news y z
  ·have e:y=x:=by simpa using z
   subst e;exact hx
theorem sH(l m:List Nat):vns (l++m)=vns l++vns m:=Zt
theorem jJ(x:Nat)(l:List Nat):inV (vn x) (vns l)=decide (x∈l):=by
 unfold inV;rw[Xy,List.any_eq_true,decide_eq_true_iff];constructor
 ·rintro⟨y,hy,h⟩;obtain⟨n,hn,rfl⟩:=Zh.mp hy;have h':((n:Int)==(x:Int))=true:=h;have:n=x:=by have:=beq_iff_eq.mp h';lia
  subst this;exact hn
 ·intro h;exact⟨vn x,Zh.mpr ⟨x,h,rfl⟩,by show((x:Int)==(x:Int))=true;simp⟩
theorem iD(l:List Nat):(vns l).all lS=true:=by rw[List.all_eq_true];intro y hy;obtain⟨n,_,rfl⟩:=Zh.mp hy;rfl
theorem mO{K:PySem.W.Frag}{H:Hp}:∀l:List Nat,Bds K H (vns l) (l.map λn:Nat=>PyData.int (n:Int))
 |[]=>.nil
 |n::l=>.cons (.int n) (mO l)
theorem jG(l:List Nat):SeqAt.shaped (.list (l.map λn:Nat=>PyData.int (n:Int)))=true:=by
 have e:(l.map λn:Nat=>PyData.int (n:Int))=(l.map λn:Nat=>(n:Int)).map PyData.int:=by rw[Yb];rfl
 rw[e];generalize (l.map λn:Nat=>(n:Int))=ns;simp[SeqAt.shaped,PyData.canLay0,PyData.canLayAll0,PyData.depth,PyData.depthAll,PySem.W.ke_canLayAll0,PySem.W.ke_depthAll]
theorem BU(l m:List Nat):PyData.eqv (.list (l.map λn:Nat=>PyData.int (n:Int))) (.list (m.map λn:Nat=>PyData.int (n:Int)))=decide (l=m):=by
 have e:∀l:List Nat,(l.map λn:Nat=>PyData.int (n:Int))=(l.map λn:Nat=>(n:Int)).map PyData.int:=λl=>by rw[Yb];rfl
 rw[e,e];unfold PyData.eqv;rw[PySem.W.ked_eqvAll];have inj:∀l m:List Nat,(l.map λn:Nat=>(n:Int))=(m.map λn:Nat=>(n:Int))->l=m:=by
  intro l;induction l with
  |nil=>intro m h;cases m with
   |nil=>rfl
   |cons _ _=>simp at h
  |cons a l ih=>intro m h;cases m with
   |nil=>simp at h
   |cons b m =>
    simp only[List.map_cons,List.cons.injEq]at h;rw[ih m h.2,show a=b by lia]
 by_cases h:l=m
 ·subst h;simp
 ·rw[decide_eq_false h,decide_eq_false (λz=>h (inj l m z))]
end L2
namespace K36
open PySem L2 PyProof.Rows
def HW:Sp:=λvs H Q _=>∃(a o:Addr) (ts:MM.aS) (os:MM.bI),vs=[.ref a,.ref o]/\kK H a ts/\qZ H o os/\MM.Good ts os/\ts.length<=45000 /\
 ∀(r:Addr) (rr:List Addr) (H':Hp),aW H H'->fX H H' r rr (MM.cX (MM.behind ts os) (2*ts.length))->Q (.ref r) H'
theorem xF(T:Txt K mg t):cU P w K mg base CX0 3 t.yI t.xY ["_law_ties","_law_orders_here"] HW:=by
 refine T.qS.F.ok tG (λvs H Q E h=>?_) (λcdv A outer s H vs Q E hr h=>?_)
 ·obtain⟨a,o,ts,os,rfl,_⟩:=h;rfl
 obtain⟨a,o,ts,os,rfl,ht,ho,g,h500,q⟩:=h;have nd:=tG.nd;have nd_l_end_l_land:(["_law_end","_law_land"]:List Str).Nodup:=by decide
 refine⟨_,(aF (aU 2 nd (bZ aE))
  (aF (aU 3 nd (dP (vM rfl) rfl T.m9 boot_list (aA (dP B7 rfl T.bV boot_range (aA (aJ cS aC (a7 a4 rfl T.eA PySem.boot_len (aA (pv 0) aE))) aE)) aE)))
  (aF (jS PassesOwn.never (bF (C5 hr.units) (pv 3) (bZ aE) (bO _)) (aF (aU 4 nd (bZ (aA (aL aR (pv 3) aC (λ_ _=>rfl)) aE)))
  (aF (aU 5 nd (bH (gJ T) hr T.eX aX (aA (pv 0) (aA (pv 1) (aA (aL aR (pv 3) aC (λ_ _=>rfl)) aE)))))
  (aF (jS PassesOwn.never (bF xE (pv 5) (aL aR (pv 4) aC (λ_ _=>rfl)) (bO _)) (aF (bM (fN mAp bA (pv 4) (aA (pv 5) aE)))
  (aK (aU 5 nd (bH (gJ T) hr T.eX aX (aA (pv 0) (aA (pv 1) (aA (pv 5) aE))))))))
  (aF (bM (fN mAp bA (pv 2) (aA (pv 4) aE)))
  (aK (dD (i:=3) nd rfl (Or.inl rfl)  (N':=["_law_end","_law_land"]) (js:=[none,some 4]) rfl (cK (pv 3)) (λ_ _ _ _ _=>(aQ (i:=0) nd_l_end_l_land rfl (Or.inl rfl))) (λ_ _ _ _ _=>(tX (bF (GH (K:=K) rfl) (pv 0) (pv 1) rfl))) (λ_ _ _ _ _=>(pv 0)))))))))
  (aK (bE (pv 2)))))),?_⟩
 have m:=g.maps;obtain⟨tr0,hta,htl,_⟩:=id ht;refine⟨(by show 0<=ZW;decide),λtr htr=>?_⟩;have g1:=aG htr (.lst []);refine(a9 _ rfl a _ rfl (.inl (SqL.of (g1 _ _ hta))) (hV _ _ rfl rfl (.inl ⟨by decide,by decide⟩) _ rfl (λp hp=>?_)));have e2:(2:Int)*((tr0.map V.ref).length:Nat)=((2*ts.length:Nat):Int):=by rw[Zq,htl];push_cast;rfl
 rw[e2]at *;have g2:=aG hp (.rng 0 ((2*ts.length:Nat):Int));refine(aY p (2*ts.length) rfl aB (by lia) (λlr hlr=>?_));have g3:=aG hlr (.lst (vns (List.range (2*ts.length))));have ntl:tr≠lr:=aN (g2 _ _ aB) hlr;generalize hf:MM.behind ts os=f at m q;generalize hN:2*ts.length=N at m q hlr g3 g2 hp;have n0:fX H (upd (upd (upd H tr (.lst [])) p (.rng 0 (N:Int))) lr (.lst (vns (List.range N)))) tr [] [] :=
  ⟨g3 _ _ (g2 _ _ aB),rfl,λi l h=>by simp at h,List.nodup_nil,by simp,htr,λx hx=>by cases hx⟩
 refine⟨λk σ H1=>∃(lr:Addr) (left:List Nat) (rr:List Addr) (done:MM.bI) (o4 o5:Option V),k=left.length/\σ=[some (.ref a),some (.ref o),some (.ref tr),some (.ref lr),o4,o5]/\aW H H1/\H1 lr=some (.lst (vns left)) /\
  fX H H1 tr rr done/\lr≠tr/\done++MM.lf f left=MM.cX f N/\(∀x∈left,x<N)/\left.length<=N,(fH _ lr (List.range N) ([]) ([]) none none (dX rfl rfl ((g1.trans g2).trans g3) aB n0 (Ne.symm ntl) rfl ⟨ λx hx=>Zs.mp hx,by simp⟩)),?_⟩
 clear n0 g3 g2 hp hlr ntl lr p g1;rintro k σ H1 ⟨lr,left,rr,done,o4,o5,rfl,rfl,g1,el,n1,nlt,eq,hlt,hll⟩;refine⟨_,rfl,(by show 0<=ZW;decide),λp hp=>?_⟩;have gp:=aG hp (.lst []);refine(bR _ _ (.lst (SqL.of (gp _ _ el)) (mO left)) (.lst (SqL.of aB) (mO [])) (jG left) (jG []) ⟨ _,rfl,?_⟩);rw[BU];have n2:fX H (upd H1 p (.lst [])) tr rr done:=n1.keep λb o' _ h=>gp _ _ h;have g2:=g1.trans gp;have el2:=gp _ _ el;generalize upd H1 p (.lst [])=H2 at n2 g2 el2 gp;clear hp;cases left with
 |nil =>
  refine cF rfl ?_;rw[MM.JY,List.append_nil]at eq;exact⟨_,rfl,q tr rr H2 g2 (eq▸n2)⟩
 |cons e r =>
  refine dY (by simp) ?_;have heN:e<N:=hlt e Zd;obtain⟨rd,rdN⟩:=MM.eZ m heN;have hdl:done.length<=N:=by
   have h1:=MM.uD m _ (List.range N) (Nat.le_refl _) (λx hx=>Zs.mp hx);have h2:(done++MM.lf f (e::r)).length=(MM.cX f N).length:=by rw[eq]
   rw[Zm]at h2;unfold MM.cX at h2;rw[Yj]at h1
   lia
  have p1:atI (vns (e::r)) 0=some (vn e):=lT (l:=e::r) (j:=0) (by simp) rfl;refine⟨_,λσ' H' h=>h,?_⟩;refine(aI _ rfl lr _ _ _ rfl ⟨ rfl,SqL.of el2,p1,(by show 1<=ZW;decide),λla hla=>?_⟩);have g3:=aG hla (.lst [vn e]);have nla:la≠tr/\la≠lr/\la∉rr:=by
   refine⟨(aN n2.at_ hla).symm,(aN el2 hla).symm,λz=>?_⟩;obtain⟨l,hl⟩:=n2.ex z;rw[hla]at hl;cases hl
  refine(cQ _ rfl _ rfl _ rfl (aO lr _ _ _ rfl rfl (SqL.of (g3 _ _ el2)) (iA p1 a o ts os e rfl ⟨ (g2.trans g3).ts ht,(g2.trans g3).os ho,g,by rw[hN];exact heN,?_⟩)));rw[hf];refine⟨λk σ H4=>∃j,k=MM.per f e-j/\0<j/\j<=MM.per f e/\σ=[some (.ref a),some (.ref o),some (.ref tr),some (.ref lr),some (.ref la),some (vn (MM.iter f j e))]/\(∀b o,b≠la->H2 b=some o->H4 b=some o)/\H4 la=some (.lst (vns (MM.path f e j))),
   (cO _ 1 rfl Nat.one_pos rd.1 rfl (λb o' hb h=>g3 _ _ h) aB),?_⟩
  rintro k σ H4 ⟨j,rfl,hj0,hj,rfl,b4,e4⟩;have hH:∀b o',H b=some o'->H4 b=some o':=λb o' h=>b4 b o' (aN (g2 _ _ h) hla) (g2 _ _ h);have p0:atI (vns (MM.path f e j)) 0=some (vn e):=by
   have hl:0<(MM.path f e j).length:=by rw[MM.lJ];exact hj0
   refine(lT hl (k:=0) rfl).trans ?_;congr 2;unfold MM.path;simp[List.getD,hj0];rfl
  refine⟨_,rfl,(aI _ rfl la _ _ _ rfl (yM rfl (SqL.of e4) p0 rfl _ rfl ?_))⟩;by_cases hc:MM.iter f j e=e
  ·refine cF (by rw[hc];simp) ?_;have ej:j=MM.per f e:=by
    rcases Xj j (MM.per f e) with z | z
    ·exact absurd hc (rd.2.2 j hj0 z)
    ·lia
   subst ej;have n4:fX H H4 tr rr done:=n2.keep λb o' hb h=>b4 b o' (by rcases hb with rfl | hb;exact Ne.symm nla.1;rintro rfl;exact nla.2.2 hb) h;refine(eQ _ rfl (.inl ⟨rfl,_,SqL.of n4.at_⟩) _ rfl (bB tr _ _ rfl rfl n4.at_ ?_ ?_))
   ·rw[Zq,n4.len];exact Yt (by lia:done.length<=90000) (by decide)
   have el5:(upd H4 tr (.lst (rr.map V.ref++[.ref la]))) lr=some (.lst (vns (e::r))):=by rw[aH nlt];exact b4 _ _ (Ne.symm nla.2.1) el2
   have la5:(upd H4 tr (.lst (rr.map V.ref++[.ref la]))) la=some (.lst (vns (MM.aT f e))):=by rw[aH nla.1];exact e4
   have hH5:aW H (upd H4 tr (.lst (rr.map V.ref++[.ref la]))):=λb o' h=>by rw[aH (aN h htr)];exact hH b o' h
   have n5:fX H (upd H4 tr (.lst (rr.map V.ref++[.ref la]))) tr (rr++[la]) (done++[MM.aT f e]) :=
    n4.push (g2.free hla) nla.2.2 nla.1 (by rw[aB,Zt];rfl) la5 λb o' hb h=>by rw[aH (show b≠tr from λz=>n4.nin (z▸hb))];exact h
   generalize upd H4 tr (.lst (rr.map V.ref++[.ref la]))=H5 at el5 la5 hH5 n5;refine(dI _ rfl lr rfl ⟨_,SqL.of el5⟩ (λD hD=>?_));refine sQ (e::r).length (λi ys H'=>ys=vns (((e::r).take i).filter λx=>decide (x∉MM.aT f e))/\H'=upd H5 D (.lst ys)) ⟨by simp,rfl⟩ ?_ ?_
   ·rintro i ys H' hi ⟨rfl,rfl⟩;have gD:=aG hD (.lst (vns (((e::r).take i).filter λx=>decide (x∉MM.aT f e))));have hx:(vns (e::r))[i]?=some (vn (e::r)[i]):=by rw[Zk,Zz hi];rfl
    refine⟨⟨_,_,SqL.of (gD _ _ el5),hx⟩,?_⟩;rintro x' H'' ⟨rfl,hx'⟩;have e6:=hx' _ (SqL.of (gD _ _ el5));rw[hx]at e6;cases e6;refine⟨(Fills.refl _).set _ rfl,?_⟩;refine(bS _ rfl _ rfl la _ rfl (bU (.inl (SqL.of (gD _ _ la5))) rfl (iD _) _ rfl ?_));rw[jJ];have ts1:=take_succ_filter (λx=>decide (x∉MM.aT f e)) (e::r) i _ (Zz hi);have hfl:((List.take i (e::r)).filter λx=>decide (x∉MM.aT f e)).length<=90000:=by
     have h1:=List.length_filter_le (λx=>decide (x∉MM.aT f e)) (List.take i (e::r));have h2:(List.take i (e::r)).length<=(e::r).length:=List.length_take_le' _ _
     lia
    by_cases hxm:(e::r)[i]∈MM.aT f e
    ·refine cF (by simp[hxm]) ?_;rw[ts1,if_neg (by simp[hxm]),List.append_nil];exact⟨rfl,rfl⟩
    ·refine dY (by simp[hxm]) ?_;refine(sU _ rfl aB ?_ ?_ ?_)
     ·rw[Zq];exact Yt hfl (by decide)
     ·rw[ts1,if_pos (by simp[hxm]),sH];rfl
     ·rw[fJ]
   ·rintro ys H' ⟨rfl,rfl⟩;have gD:=aG hD (.lst (vns (((e::r).take (e::r).length).filter λx=>decide (x∉MM.aT f e))));refine⟨⟨_,SqL.of (gD _ _ el5),by rw[Zq];exact Nat.le_refl _⟩,?_⟩;have sh:=MM.dS m heN r;refine⟨_,?_,(cN D _ (rr++[la]) (done++[MM.aT f e]) _ _ rfl (dX rfl (hH5.trans gD) aB (n5.keep λb o' _ h=>gD _ _ h) ((aN n5.at_ hD).symm) ?_ ?_ ?_))⟩
    ·rw[Yw];simp only[Yq];lia
    ·rw[Yw,Yd];rw[MM.oY m hlt]at eq;exact eq
    ·intro x hx;rw[Yw]at hx;exact hlt x (Yz.mp hx).1
    ·rw[Yw];simp only[Yq]at hll;lia
  ·refine dY (by simp;lia) ?_;have hjp:=MM.tR rd hj0 hj hc;refine⟨_,λσ' H' h=>h,?_⟩;refine(eQ _ rfl (.inl ⟨rfl,_,SqL.of e4⟩) _ rfl (bB la _ _ rfl rfl e4 ?_ ?_))
   ·rw[Zq,MM.lJ];exact Yt (by lia:j<=90000) (by decide)
   have e7:vns (MM.path f e j)++[vn (MM.iter f j e)]=vns (MM.path f e (j+1)):=by rw[MM.mB,sH];rfl
   rw[e7];have hH5:aW H (upd H4 la (.lst (vns (MM.path f e (j+1))))):=λb o' h=>by rw[aH (aN (g2 _ _ h) hla)];exact hH b o' h
   refine(cQ _ rfl _ rfl _ rfl (cV a o ts os (MM.iter f j e) rfl (hH5.ts ht) ⟨ hH5.os ho,g,by rw[hN];exact MM.dH m heN j,?_⟩));rw[hf];exact(zW (MM.per f e-(j+1)) (by lia) (j+1) rfl (by lia) (by lia) rfl ⟨ λb o' hb h=>by rw[aH hb];exact b4 b o' hb h,aB⟩)
end K36
namespace MM
theorem GP{l:List Nat}{i x y:Nat}:y∈L2.iO l i x↔y=x\/y∈l:=by
 unfold L2.iO;rw[Zf,Zn];have h:y∈l↔y∈l.take i\/y∈l.drop i:=by rw[<-Zf,List.take_append_drop]
 rw[h];constructor
 ·rintro(h | h | h)
  ·exact .inr (.inl h)
  ·exact .inl h
  ·exact .inr (.inr h)
 ·rintro(h | h | h)
  ·exact .inr (.inl h)
  ·exact .inl h
  ·exact .inr (.inr h)
theorem BI{l:List Nat}(nd:l.Nodup){i x:Nat}(h:x∉l):(L2.iO l i x).Nodup:=by
 unfold L2.iO;have p:(l.take i++x::l.drop i).Perm (x::l):=by
  have q:=List.perm_middle (a:=x) (l₁:=l.take i) (l₂:=l.drop i);rw[List.take_append_drop]at q;exact q
 exact(p.nodup_iff).mpr (List.nodup_cons.mpr ⟨h,nd⟩)
theorem GQ{α:Type}(l:List α)(i:Nat)(x:α):(L2.iO l i x).length=l.length+1:=by
 unfold L2.iO;rw[Zm,Yq,<-Nat.add_assoc,<-Zm,List.take_append_drop]
theorem GO(l:List Nat)(i x:Nat):L2.iO (L2.vns l) i (L2.vn x)=L2.vns (L2.iO l i x):=by
 unfold L2.iO L2.vns;rw[Zt,List.map_cons,List.map_take,List.map_drop]
end MM
namespace K36
open PySem L2 PyProof.Rows
def HU:Sp:=λvs H Q _=>∃(num:Int) (n:Nat),vs=[.int num,vn n]/\0<=num/\n<=400/\∀(r:Addr) (ps:List Nat),H r=none->ps.Nodup->(∀x∈ps,x<n)->ps.length=n->Q (.ref r) (upd H r (.lst (vns ps)))
theorem DA(T:Txt K mg t):cU P w K mg base CX0 1 t.vW t.vC ["_law_number","_law_many"] HU:=by
 refine T.uW.F.ok rG (λvs H Q E h=>?_) (λcdv A outer s H vs Q E hr h=>?_)
 ·obtain⟨num,n,rfl,_⟩:=h;rfl
 obtain⟨num,n,rfl,h0,hn,q⟩:=h;have nd:=rG.nd;refine⟨_,(aF (aU 2 nd (bZ aE))
  (aF (cR PassesOwn.never rfl (bP rfl T.bV (aA (pv 1) aE)) (aQ (i:=3) nd rfl (Or.inl rfl)) (aF (bM (lH PySem.F.plainAttrs_list PySem.F.slot_list_insert PySem.F.type_list_insert GC (pv 2) (aA (aJ bG (pv 0) (aJ bD (pv 3) aC)) (aA (pv 3) aE))))
  (aK (aU 0 nd (aJ dG (pv 0) (aJ bD (pv 3) aC))))))
  (aK (bE (pv 2))))),?_⟩
 refine⟨(by show 0<=ZW;decide),λr hr0=>?_⟩;refine(sG _ rfl n rfl (by lia) (by lia) (cI (lo:=0) (n:=(n:Int).toNat) (λi σ H'=>∃(num':Int) (ps:List Nat) (o:Option V),0<=num'/\σ=[some (.int num'),some (vn n),some (.ref r),o]/\H'=upd H r (.lst (vns ps))/\ps.Nodup/\(∀x∈ps,x<i)/\ps.length=i)
  (bB num ([]) none h0 rfl rfl List.nodup_nil ⟨ (λx hx=>by cases hx),rfl⟩) ?_ ?_))
 ·rintro i σ H' hi ⟨num',ps,o,h0',rfl,rfl,hnd,hlt,hl⟩;have hi':i<400:=by lia
  have e1:num' % (0+(i:Int)+1)=(((num' % (0+(i:Int)+1)).toNat:Nat):Int):=by
   have:=Xv num' (show(0+(i:Int)+1)≠0 by lia)
   lia
  have e2:(num' % (0+(i:Int)+1)).toNat<=i:=by
   have:=Xw num' (show 0<(0+(i:Int)+1) by lia)
   lia
  refine(c9 _ rfl (.inl ⟨rfl,_,SqL.of aB⟩) _ rfl _ rfl (hU _ _ rfl rfl _ _ rfl ⟨ rfl,(by show(0:Int)<0+(i:Int)+1;lia),(aI _ rfl r _ ((num' % (0+(i:Int)+1)).toNat) (vn i) rfl ⟨ ?_,aB,?_,?_,?_⟩)⟩))
  ·show[V.int (num' % (0+(i:Int)+1)),V.int (0+(i:Int))]=[V.int (((num' % (0+(i:Int)+1)).toNat:Nat):Int),V.int (i:Int)]
   rw[<-e1,Int.zero_add]
  ·rw[Zq];lia
  ·rw[Zq];exact Yt (by lia:ps.length<=1000) (by decide)
  refine(bS _ rfl _ rfl _ _ rfl (gK rfl _ _ rfl rfl ⟨by show(0:Int)<0+(i:Int)+1;lia,by show 0+(i:Int)+1<1073741824;lia⟩ ?_));refine(bB _ (iO ps (num' % (0+(i:Int)+1)).toNat i) _ ?_ rfl ?_ ?_ ⟨ ?_,?_⟩)
  ·exact Int.ediv_nonneg h0' (by lia)
  ·rw[fJ,MM.GO]
  ·exact MM.BI hnd λz=>Nat.lt_irrefl _ (hlt i z)
  ·intro x hx;rcases MM.GP.mp hx with rfl | hx
   ·lia
   ·have:=hlt x hx;lia
  ·rw[MM.GQ,hl]
 ·rintro σ H' ⟨num',ps,o,h0',rfl,rfl,hnd,hlt,hl⟩;exact⟨_,rfl,q r ps hr0 hnd (λx hx=>by have:=hlt x hx;lia) (by lia)⟩
end K36
namespace MM
theorem PY(pick:Int){n:Nat}(h:0<n):∃i:Nat,i<n/\pick%(n:Int)=(i:Int):=by
 have h1:=Xv pick (show(n:Int)≠0 by lia);have h2:=Xw pick (show 0<(n:Int) by lia);exact⟨(pick%(n:Int)).toNat,by lia,by lia⟩
end MM
namespace L2
open PySem PyProof.Rows
end L2
namespace MM
theorem GL(f:Nat->Nat)(x n:Nat):iter f (n+1) x=iter f n (f x):=by
 rw[Nat.add_comm,b7];rfl
def Cn(f:Nat->Nat)(N:Nat):Prop:=∀S:Nat->Prop,(∀x,x<N->S x->S (f x))->(∀x,x<N->S x->S (oth x))->∀x y,x<N->y<N->S x->S y
def NK(ts:aS)(os:bI):Prop:=Cn (behind ts os) (2*ts.length)
theorem l7{l:List Nat}(nd:l.Nodup){k y:Nat}(h:l[k]?=some y):aV l y=l.getD (if k=0 then l.length-1 else k-1) 0:=by
 obtain⟨hk,e⟩:=Zj.mp h;have hm:y∈l:=Zg h;have h1:=List.idxOf_lt_length_of_mem hm;have e2:l[l.idxOf y]=l[k]:=(List.getElem_idxOf h1).trans e.symm;have e3:l.idxOf y=k:=(List.getElem_inj nd).mp e2;unfold aV;rw[e3];congr 1;split
 ·rename_i z;subst z;rw[Nat.zero_add];exact Nat.mod_eq_of_lt (by omega)
 ·have:k+l.length-1=(k-1)+l.length:=by lia
  rw[this,Nat.add_mod_right];exact Nat.mod_eq_of_lt (by omega)
noncomputable def PX(ts:aS)(os:bI):Nat:=(cX (behind ts os) (2*ts.length)).length
theorem SN{f:Nat->Nat}{N:Nat}(m:fV f N){y:Nat}(hy:y<N):∃x,x<N/\f x=y:=by
 obtain⟨k,h0,_,h⟩:=rW m hy;refine⟨iter f (k-1) y,dH m hy _,?_⟩;have e:k=(k-1)+1:=by lia
 rw[e]at h;exact h
def Rot(l m:List Nat):Prop:=∃k,l=m.drop k++m.take k
theorem Rot.perm{l m:List Nat}(h:Rot l m):l.Perm m:=by
 obtain⟨k,rfl⟩:=h;have:=(List.perm_append_comm:(m.drop k++m.take k).Perm (m.take k++m.drop k))
 rwa [List.take_append_drop]at this
theorem IJ{a:Nat}{t:List Nat}(nd:(a::t).Nodup){x:Nat}(hx:x∈a::t):aV (t++[a]) x=aV (a::t) x:=by
 have nd2:(t++[a]).Nodup:=(List.perm_append_comm (l₁:=t) (l₂:=[a])).nodup_iff.mpr nd;rcases Zn.mp hx with rfl | hx
 ·cases t with
  |nil=>rfl
  |cons b t =>
   rw[l7 (k:=0) nd rfl,l7 (k:=(b::t).length) nd2 (by rw[Zy (Nat.le_refl _),Nat.sub_self];rfl),if_pos rfl,if_neg (show ¬(b::t).length=0 from Nat.succ_ne_zero _)];show(b::t++[x]).getD t.length 0=(b::t).getD t.length 0;rw[Zv,Zv,Zx (Nat.lt_succ_self _)]
 ·obtain⟨i,hi,ei⟩:=Yg.mp hx;have gx:t[i]?=some x:=by rw[Zz hi,ei]
  have g1:(t++[a])[i]?=some x:=by rw[Zx hi];exact gx
  rw[l7 nd2 g1,l7 (k:=i+1) nd gx,if_neg (Nat.succ_ne_zero i)];cases i with
  |zero =>
   rw[if_pos rfl,Zm];show(t++[a]).getD t.length 0=a;rw[Zv,Zy (Nat.le_refl _),Nat.sub_self];rfl
  |succ j =>
   rw[if_neg (Nat.succ_ne_zero j)];show(t++[a]).getD j 0=t.getD j 0;rw[Zv,Zv,Zx (Nat.lt_of_succ_lt hi)]
theorem tU{l:List Nat}(nd:l.Nodup){x k:Nat}(hx:x∈l):aV (l.drop k++l.take k) x=aV l x:=by
 induction k with
 |zero=>rw[List.drop_zero,List.take_zero,List.append_nil]
 |succ k ih =>
  rw[<-ih];have pm:(l.drop k++l.take k).Perm l:=Rot.perm ⟨k,rfl⟩;rcases Xj k l.length with h | h
  ·have e:l.drop k=l[k]::l.drop (k+1):=List.drop_eq_getElem_cons h;have n2:=pm.nodup_iff.mpr nd;have m2:=pm.mem_iff.mpr hx;rw[e]at n2 m2;rw[List.take_succ_eq_append_getElem h,<-Yd,e];exact IJ n2 m2
  ·rw[List.drop_eq_nil_of_le h,List.take_of_length_le h,List.drop_eq_nil_of_le (Nat.le_succ_of_le h),List.take_of_length_le (Nat.le_succ_of_le h)]
def Flat(ts:aS)(os:bI):Prop:=os.length+PX ts os=ts.length+2
structure FC(ts:aS)(os:bI):Prop where
 flat:Flat ts os
 conn:NK ts os
theorem DI{f:Nat->Nat}{N:Nat}(m:fV f N):(cX f N).flatten.Perm (List.range N):=by
 have one:=λ{x:Nat}(hx:x<N)=>uC m _ (List.range N) (Nat.le_refl _) (λz hz=>Zs.mp hz) x (Zs.mpr hx);have mem:=λ(d:List Nat) (hd:d∈cX f N)=>kH m _ (List.range N) (Nat.le_refl _) (λz hz=>Zs.mp hz) d hd;have lt:∀d∈cX f N,∀x∈d,x<N:=λd hd x hx=>by
  obtain⟨e,he,rfl⟩:=mem d hd;exact eO m (Zs.mp he) x hx
 refine(List.perm_ext_iff_of_nodup ?_ List.nodup_range).mpr λx=>?_
 ·rw[List.nodup_iff_pairwise_ne,List.pairwise_flatten];refine⟨λd hd=>?_,?_⟩
  ·obtain⟨e,he,rfl⟩:=mem d hd;have:=eG m (Zs.mp he)
   rwa [List.nodup_iff_pairwise_ne]at this
  ·rw[List.pairwise_iff_getElem];intro i j hi hj hij x hx y hy e;subst e;obtain⟨k,d,_,_,h3⟩:=one (lt _ (Zp hi) x hx);have e1:=h3 i _ (Zz hi) hx;have e2:=h3 j _ (Zz hj) hy
   lia
 ·rw[List.mem_flatten,Zs];constructor
  ·rintro⟨d,hd,hx⟩;exact lt d hd x hx
  ·intro hx;obtain⟨k,d,h1,h2,_⟩:=one hx;exact⟨d,Zg h1,h2⟩
def su(l:List Nat)(f:Nat->Int):Int:=(l.map f).sum
theorem iL(f:Nat->Int):su [] f=0:=rfl
theorem bK(x:Nat)(l:List Nat)(f:Nat->Int):su (x::l) f=f x+su l f:=by unfold su;rw[List.map_cons,List.sum_cons]
theorem kX(f:Nat->Int):∀a b:List Nat,su (a++b) f=su a f+su b f
 |[],b=>by rw[iL,List.nil_append];lia
 |x::a,b=>by rw[List.cons_append,bK,bK,kX f a b];lia
theorem gM{f:Nat->Int}{a b:List Nat}(h:a.Perm b):su a f=su b f:=by
 induction h with
 |nil=>rfl
 |cons x _ ih=>rw[bK,bK,ih]
 |swap x y l=>rw[bK,bK,bK,bK];lia
 |trans _ _ h1 h2=>exact h1.trans h2
theorem eT{f g:Nat->Int}:∀{l:List Nat},(∀x∈l,f x=g x)->su l f=su l g
 |[],_=>rfl
 |x::l,h=>by rw[bK,bK,h x Zd,eT λy hy=>h y (Zw _ hy)]
theorem sZ(f g:Nat->Int):∀l:List Nat,su l (λx=>f x+g x)=su l f+su l g
 |[]=>rfl
 |x::l=>by rw[bK,bK,bK,sZ f g l];lia
theorem pX(f g:Nat->Int):∀l:List Nat,su l (λx=>f x-g x)=su l f-su l g
 |[]=>rfl
 |x::l=>by rw[bK,bK,bK,pX f g l];lia
theorem AE(k:Int):∀l:List Nat,su l (λ_=>k)=k*(l.length:Int)
 |[]=>by rw[iL];simp
 |x::l=>by rw[bK,AE k l,Yq,Int.natCast_add,Int.mul_add];simp;lia
theorem CO(f:Nat->Int)(φ:Nat->Nat)(l:List Nat):su (l.map φ) f=su l λx=>f (φ x):=by unfold su;rw[Yb];rfl
theorem nB{e:Nat}(A:Int):∀{l:List Nat},l.Nodup->su l (λz=>if z=e then A else 0)=if e∈l then A else 0
 |[],_=>by rw[iL];simp
 |x::l,nd=>by
  have h:=List.nodup_cons.mp nd;rw[bK,nB A h.2];by_cases q:x=e
  ·subst q;simp[h.1]
  ·have q':¬e=x:=λz=>q z.symm;simp[q,q']
theorem wM{f:Nat->Int}:∀{l:List Nat},(∀x∈l,0<=f x)->0<=su l f
 |[],_=>by rw[iL];exact Int.le_refl _
 |x::l,h=>by
  have h1:=h x Zd;have h2:=wM (l:=l) λy hy=>h y (Zw _ hy);rw[bK];lia
theorem CN{f:Nat->Int}:∀{l:List Nat}{x:Nat},(∀x∈l,0<=f x)->x∈l->f x<=su l f
 |y::l,x,h,hx=>by
  rw[bK];have h1:=h y Zd;have h2:=wM (l:=l) λz hz=>h z (Zw _ hz);rcases Zn.mp hx with rfl | hx
  ·lia
  ·have:=CN (l:=l) (λz hz=>h z (Zw _ hz)) hx
   lia
theorem HM{f:Nat->Int}:∀{l:List Nat}{x y:Nat},(∀x∈l,0<=f x)->x∈l->y∈l->x≠y->f x+f y<=su l f
 |z::l,x,y,h,hx,hy,hne=>by
  rw[bK];have h1:=h z Zd;have h':∀w∈l,0<=f w:=λw hw=>h w (Zw _ hw);rcases Zn.mp hx with ex | hx1
  ·subst ex;rcases Zn.mp hy with ey | hy1
   ·exact absurd ey.symm hne
   ·have:=CN h' hy1;lia
  ·rcases Zn.mp hy with ey | hy1
   ·subst ey;have:=CN h' hx1;lia
   ·have:=HM h' hx1 hy1 hne;lia
theorem yP(f:Nat->Int):∀ll:List (List Nat),su ll.flatten f=(ll.map λd=>su d f).sum
 |[]=>rfl
 |d::ll=>by rw[List.flatten_cons,kX,yP f ll,List.map_cons,List.sum_cons]
theorem sN{a b:List Nat}(ha:a.Nodup)(hb:b.Nodup)(h:∀x,x∈a↔x∈b):a.Perm b:=(List.perm_ext_iff_of_nodup ha hb).mpr h
theorem IZ(T:Nat):((List.range (2*T)).map oth).Perm (List.range (2*T)):=by
 refine sN ?_ List.nodup_range λx=>?_
 ·rw[List.Nodup,List.pairwise_map];exact List.Pairwise.imp (λh z=>h (mC z)) (List.nodup_range (n:=2*T))
 ·rw[Zh,Zs];constructor
  ·rintro⟨y,hy,rfl⟩;exact b9 (Zs.mp hy)
  ·intro h;exact⟨oth x,Zs.mpr (b9 h),fO x⟩
theorem uO:∀(ll:List (List Nat)),(∀i,(row ll i).Nodup)->(∀i j x,x∈row ll i->x∈row ll j->i=j)->ll.flatten.Nodup
 |[],_,_=>List.nodup_nil
 |d::ll,h1,h2=>by
  rw[List.flatten_cons,List.nodup_append];refine⟨h1 0,uO ll (λi=>h1 (i+1)) (λi j x hi hj=>?_),λa ha b hb e=>?_⟩
  ·have:=h2 (i+1) (j+1) x hi hj;lia
  ·subst e;obtain⟨r,hr,hx⟩:=List.mem_flatten.mp hb;obtain⟨i,hi,rfl⟩:=Yg.mp hr;have:a∈row (d::ll) (i+1):=by
    unfold row;rw[Zv,List.getElem?_cons_succ,Zz hi];exact hx
   have:=h2 0 (i+1) a ha this
   lia
theorem F8{ts:aS}{os:bI}(g:Good ts os):os.flatten.Perm (List.range (2*ts.length)):=by
 refine sN (uO os g.g.nd λi j x hi hj=>?_) List.nodup_range λx=>?_
 ·rw[<-(g.g.ends i x hi).2,<-(g.g.ends j x hj).2]
 ·rw[Zs,List.mem_flatten];constructor
  ·rintro⟨r,hr,hx⟩;obtain⟨i,hi,rfl⟩:=Yg.mp hr;exact(g.g.ends i x (by unfold row;rw[Zv,Zz hi];exact hx)).1
  ·intro h;have q:=g.g.has x h;refine⟨os[place ts x],Zp q.1,?_⟩;have q2:=q.2;unfold row at q2;rw[Zv,Zz q.1]at q2;exact q2
def trm(c l:Nat->Int)(e:Nat):Int:=2-c e+l e-l (oth e)
noncomputable abbrev lls(ts:aS)(os:bI):List (List Nat):=cX (behind ts os) (2*ts.length)
structure Plc(ts:aS)(os:bI)(c:Nat->Int):Prop where
 lo:∀e,e<2*ts.length->1<=c e
 hi:∀e,e<2*ts.length->c e<=4
 at_:∀p,p<os.length->su (row os p) (λe=>c (oth e))=4
structure Shp(ts:aS)(os:bI)(o:Nat)(c l:Nat->Int):Prop where
 pl:Plc ts os c
 pos:∀e,e<2*ts.length->0<=l e
 ld:∀(k:Nat) (d:List Nat),(lls ts os)[k]?=some d->su d (trm c l)=if k=o then -4 else 4
theorem sY:∀(xs:List Int),(∀x∈xs,x=4)->xs.sum=4*(xs.length:Int)
 |[],_=>rfl
 |x::xs,h=>by
  rw[List.sum_cons,h x Zd,sY xs λy hy=>h y (Zw _ hy),Yq]
  lia
theorem D7:∀(xs:List Int) (o:Nat),o<xs.length->(∀k,k<xs.length->k≠o->xs.getD k 0=4)->xs.sum=4*(xs.length:Int)-4+xs.getD o 0
 |[],o,h,_=>by simp at h
 |x::xs,0,h,q=>by
  rw[List.sum_cons,sY xs,Yq]
  ·simp;lia
  ·intro y hy;obtain⟨i,hi,rfl⟩:=Yg.mp hy;have:=q (i+1) (by simp;lia) (by lia);rw[Zv,List.getElem?_cons_succ,Zz hi]at this;exact this
 |x::xs,o+1,h,q=>by
  have h0:=q 0 (by simp) (by lia);have e0:x=4:=by simpa using h0
  have ih:=D7 xs o (by simpa using h) λk hk hne=>by
   have:=q (k+1) (by simp;lia) (by lia);simpa using this
  rw[List.sum_cons,ih,Yq,e0];simp
  lia
theorem u4{z e:Nat}:oth z=e↔z=oth e:=⟨λh=>by rw[<-h,fO],λh=>by rw[h,fO]⟩
theorem qL(e:Nat):oth e≠e:=by unfold oth;split<;>lia
theorem AD{c l l':Nat->Int}{e:Nat}{x y:Int}{d:List Nat}(nd:d.Nodup)(h:∀z,l' z=l z+(if z=e then x else 0)+(if z=oth e then y else 0)):su d (trm c l')=su d (trm c l)+(if e∈d then x-y else 0)-(if oth e∈d then x-y else 0):=by
 have e1:∀z,trm c l' z=(trm c l z+(if z=e then x-y else 0))-(if z=oth e then x-y else 0):=λz=>by
  unfold trm;rw[h z,h (oth z)];have a1:(oth z=e)=(z=oth e):=propext u4;have a2:(oth z=oth e)=(z=e):=propext ⟨mC,λh=>by rw[h]⟩;simp only[a1,a2];by_cases q:z=e
  ·have q':¬z=oth e:=λz'=>qL e (by rw[<-z',q]);simp only[if_pos q,if_neg q']
   lia
  ·by_cases q':z=oth e
   ·simp only[if_neg q,if_pos q'];lia
   ·simp only[if_neg q,if_neg q'];lia
 rw[eT λz _=>e1 z,pX,sZ,nB _ nd,nB _ nd]
theorem CP{c c' l:Nat->Int}{a b:Nat}{d:List Nat}(nd:d.Nodup)(h:∀z,c' z=c z-(if z=a then 1 else 0)+(if z=b then 1 else 0)):su d (trm c' l)=su d (trm c l)+(if a∈d then 1 else 0)-(if b∈d then 1 else 0):=by
 have e1:∀z,trm c' l z=(trm c l z+(if z=a then 1 else 0))-(if z=b then 1 else 0):=λz=>by
  unfold trm;rw[h z]
  lia
 rw[eT λz _=>e1 z,pX,sZ,nB _ nd,nB _ nd]
theorem jC{ts:aS}{os:bI}(g:Good ts os){k:Nat}{d:List Nat}(h:(lls ts os)[k]?=some d):d.Nodup/\(∀x∈d,x<2*ts.length)/\(∀x,x<2*ts.length->(behind ts os x∈d↔x∈d))/\d≠[]:=by
 have m:=g.maps;obtain⟨e,he,rfl⟩:=kH m _ (List.range (2*ts.length)) (Nat.le_refl _) (λz hz=>Zs.mp hz) d (Zg h);have he:=Zs.mp he;refine⟨eG m he,eO m he,λx hx=>?_,λz=>?_⟩
 ·have h1:behind ts os x∈aT (behind ts os) x:=(dR m hx).mpr ⟨1,rfl⟩;have hb:=m.lt x hx;constructor
  ·intro q;exact eW m he q (mH m hx h1)
  ·intro q;exact eW m he q h1
 ·have:=l5 m he;rw[z]at this;cases this
theorem FN{ts:aS}{os:bI}{o:Nat}{c l l':Nat->Int}{e:Nat}(g:Good ts os)(s:Shp ts os o c l)(h:∀z,l' z=l z+(if z=e then 1 else 0)+(if z=oth e then 1 else 0)):Shp ts os o c l':=by
 refine⟨s.pl,λz hz=>?_,λk d hk=>?_⟩
 ·have:=s.pos z hz;rw[h z];split<;>split<;>lia
 ·rw[AD (jC g hk).1 h];have:=s.ld k d hk;simp only[Int.sub_self,ite_self]
  lia
theorem yN{ts:aS}{os:bI}{o:Nat}{c c' l l':Nat->Int}{e a:Nat}{b:Int}(g:Good ts os)(s:Shp ts os o c l)(he:e<2*ts.length)(ha:a<2*ts.length)(hb:behind ts os a=e)(h1:1<c (oth e))
  (hc:∀z,c' z=c z-(if z=oth e then 1 else 0)+(if z=a then 1 else 0)) (hl:∀z,l' z=l z+(if z=e then 1-b else 0)+(if z=oth e then -b else 0)) (hb0:b=if 0<l (oth e) then 1 else 0):Shp ts os o c' l':=by
 have ho:=b9 he;have hoa:=b9 ha;have pe:place ts e=place ts (oth a):=by rw[<-hb];exact(g.behind ha).2
 have in1:=g.g.has e he;have in2:=g.g.has (oth a) hoa;rw[<-pe]at in2;refine⟨⟨λz hz=>?_,λz hz=>?_,λp hp=>?_⟩,λz hz=>?_,λk d hk=>?_⟩
 ·have:=s.pl.lo z hz;rw[hc z];by_cases q:z=oth e
  ·subst q;rw[if_pos rfl];split<;>lia
  ·rw[if_neg q];split<;>lia
 ·have:=s.pl.hi z hz;rw[hc z];by_cases q:z=a
  ·by_cases q2:z=oth e
   ·rw[if_pos q,if_pos q2];lia
   ·rw[if_pos q,if_neg q2];have hs:=s.pl.at_ _ in1.1;have t:=HM (f:=λe=>c (oth e)) (l:=row os (place ts e)) (x:=e) (y:=oth a) (λx hx=>by
     have:=s.pl.lo (oth x) (b9 (g.g.ends _ x hx).1);show 0<=c (oth x)
     lia) in1.2 in2.2 (λz'=>q2 (by rw[q,z',fO]))
    rw[hs,fO]at t;rw[q]
    lia
  ·rw[if_neg q];split<;>lia
 ·have e1:∀z,c' (oth z)=(c (oth z)-(if z=e then 1 else 0))+(if z=oth a then 1 else 0):=λz=>by
   rw[hc (oth z)];have a1:(oth z=oth e)=(z=e):=propext ⟨mC,λh=>by rw[h]⟩;have a2:(oth z=a)=(z=oth a):=propext u4;simp only[a1,a2]
  rw[eT λz _=>e1 z,sZ,pX,nB _ (g.g.nd p),nB _ (g.g.nd p),s.pl.at_ p hp];have:(e∈row os p)=(oth a∈row os p):=propext ⟨λh=>by
   have:=(g.g.ends p e h).2;rw[<-this];exact in2.2,λh=>by
   have:=(g.g.ends p _ h).2;rw[<-this,<-pe];exact in1.2⟩
  simp only[this]
  lia
 ·have h0:=s.pos z hz;rw[hl z];by_cases q:z=oth e
  ·have q':¬z=e:=λz'=>qL e (by rw[<-q,z']);rw[if_neg q',if_pos q];rw[q]at h0 ⊢;rw[hb0];split<;>lia
  ·rw[if_neg q,hb0];by_cases q2:z=e
   ·rw[if_pos q2];split<;>lia
   ·rw[if_neg q2];lia
 ·have L:=jC g hk;have k1:=CP (l:=l') L.1 hc;have k2:=AD (c:=c) L.1 hl;rw[k1,k2];have k3:=s.ld k d hk;have k4:(a∈d)=(e∈d):=propext (by rw[<-hb];exact(L.2.2.1 a ha).symm);have k5:(1-b - -b)=1:=by lia
  simp only[k4,k5]
  lia
def Num(ts:aS)(os:bI)(nm:Nat->Nat):Prop:=∀(k:Nat) (d:List Nat) (x:Nat),(lls ts os)[k]?=some d->x∈d->nm x=k
theorem PU{ts:aS}{os:bI}(g:Good ts os):∃nm,Num ts os nm:=by
 have h:∀x:Nat,∃k:Nat,∀(j:Nat) (d:List Nat),(lls ts os)[j]?=some d->x∈d->j=k:=λx=>by
  by_cases hx:x<2*ts.length
  ·obtain⟨k,_,_,_,u⟩:=uC g.maps _ _ (Nat.le_refl _) (λy hy=>Zs.mp hy) x (Zs.mpr hx);exact⟨k,u⟩
  ·exact⟨0,λj d hj hd=>absurd ((jC g hj).2.1 x hd) hx⟩
 exact⟨λx=>Classical.choose (h x),λk d x hk hx=>(Classical.choose_spec (h x) k d hk hx).symm⟩
theorem JX{ts:aS}{os:bI}(g:Good ts os){k k':Nat}{d d':List Nat}{x:Nat}(h:(lls ts os)[k]?=some d)(hx:x∈d)(h':(lls ts os)[k']?=some d')(hx':x∈d'):k=k':=by
 obtain⟨nm,n⟩:=PU g;rw[<-n k d x h hx,<-n k' d' x h' hx']
theorem MT{ts:aS}{os:bI}(g:Good ts os):(lls ts os).length<=2*ts.length:=by
 have:=uD g.maps _ (List.range (2*ts.length)) (Nat.le_refl _) (λz hz=>Zs.mp hz);rw[Yj]at this;exact this
end MM
namespace L2
open PySem PyProof.Rows
theorem M0{n j:Nat}(h:j<n):ixN n (j:Int)=some j:=by
 unfold ixN;rw[if_pos (by lia),if_pos (by lia)];simp
end L2
namespace MM
theorem BM{α:Type}{l:List α}{i j:Nat}{x d:α}(h:i≠j):(l.set i x).getD j d=l.getD j d:=by
 rw[Zv,Zv,List.getElem?_set_ne h]
theorem wH{α:Type}{l:List α}{i:Nat}{x d:α}(h:i<l.length):(l.set i x).getD i d=x:=by
 rw[Zv,List.getElem?_set_self h];rfl
end MM
namespace L2
open PySem PyProof.Rows
def iH(H:Hp)(w:Addr)(n:Nat)(ts:MM.aS)(os:MM.bI):Prop:=∃tA oA:Addr,H w=some (.tup [vn n,.ref tA,.ref oA])/\kK H tA ts/\qZ H oA os
theorem aW.web{H H':Hp}(g:aW H H'){w:Addr}{n:Nat}{ts:MM.aS}{os:MM.bI}(h:iH H w n ts os):iH H' w n ts os:=by
 obtain⟨tA,oA,h1,h2,h3⟩:=h;exact⟨tA,oA,g _ _ h1,g.ts h2,g.os h3⟩
end L2
namespace K36
open PySem L2 PyProof.Rows
theorem oV(T:Txt K mg t):cU P w K mg base CX0 1 t.rX t.rQ ["end"] NR:=by
 refine T.iF.F.ok yV (λvs H Q E h=>?_) (λcdv A outer s H vs Q E hr h=>?_)
 ·obtain⟨e,rfl,_⟩:=h;rfl
 obtain⟨e,rfl,q⟩:=h;refine⟨_,(aK (bE (aJ PJ (pv 0) aC))),?_⟩;refine(a9 _ rfl _ _ rfl rfl ?_);have e1:Builtin.bitXor (e:Int) 1=((MM.oth e:Nat):Int):=by
  rw[PyProof.Rows.bitXor_and,PyProof.Rows.bitAnd_m1];unfold MM.oth;split<;>lia
 show Q (.int (Builtin.bitXor (e:Int) 1)) H;rw[e1];exact q
def HS:Sp:=λvs H Q _=>∃(wa:Addr) (n:Nat) (ts:MM.aS) (os:MM.bI) (e:Nat),vs=[.ref wa,vn e]/\iH H wa n ts os/\e<2*ts.length/\Q (vn (MM.place ts e)) H
theorem JI(T:Txt K mg t):cU P w K mg base CX0 1 t.vQ t.u5 ["web","end"] HS:=by
 refine T.uQ.F.ok AJ (λvs H Q E h=>?_) (λcdv A outer s H vs Q E hr h=>?_)
 ·obtain⟨wa,n,ts,os,e,rfl,_⟩:=h;rfl
 obtain⟨wa,n,ts,os,e,rfl,⟨tA,oA,hw,ht,ho⟩,he,q⟩:=h;refine⟨_,(aK (bE (aL uI (aL uI (aL aZ (pv 0) aC (λ_ _=>rfl)) (aJ dG (pv 1) aC) (λ_ _=>rfl)) (aJ bG (pv 1) aC) (λ_ _=>rfl)))),?_⟩;obtain⟨xs,r,h1,h2,h3,h4⟩:=ht.item (i:=e / 2) (by lia);refine(aI _ rfl wa _ _ (.ref tA) rfl (bU rfl (SqT.of hw) rfl _ rfl (aY _ _ rfl rfl ⟨by decide,by decide⟩ (.inl (aO tA xs _ _ rfl rfl (SqL.of h1) ⟨ (by show atI xs ((e:Int) / 2)=_;rw[show(e:Int) / 2=((e / 2:Nat):Int) by lia];exact h3),?_⟩)))));refine(bT _ rfl _ _ rfl rfl (by show(0:Int)<2;decide) (.inr (.inl (aO r _ _ _ rfl rfl (SqT.of h4) ⟨ FG e,?_⟩))));unfold MM.place at q;split
 ·rename_i h;rw[if_pos h]at q;exact q
 ·rename_i h;rw[if_neg h]at q;exact q
def OT:Sp:=λvs H Q _=>∃(wa:Addr) (n:Nat) (ts:MM.aS) (os:MM.bI) (e:Nat),vs=[.ref wa,vn e]/\iH H wa n ts os/\e<2*ts.length/\Q (vn (MM.place ts (MM.oth e))) H
theorem MO(T:Txt K mg t):cU P w K mg base CX0 2 t.yK t.x5 ["web","end"] OT:=by
 refine T.xS.F.ok CZ (λvs H Q E h=>?_) (λcdv A outer s H vs Q E hr h=>?_)
 ·obtain⟨wa,n,ts,os,e,rfl,_⟩:=h;rfl
 obtain⟨wa,n,ts,os,e,rfl,hw,he,q⟩:=h;refine⟨_,(aK (bE (bH (JI T) hr T.uQ aX (aA (pv 0) (aA (bH (oV T) hr T.iF aX (aA (pv 1) aE)) aE))))),?_⟩;exact(cQ _ rfl _ rfl e rfl (cV wa n ts os (MM.oth e) rfl hw ⟨ MM.b9 he,q⟩))
def HX:Sp:=λvs H Q _=>∃(wa:Addr) (n:Nat) (ts:MM.aS) (os:MM.bI) (e:Nat),vs=[.ref wa,vn e]/\iH H wa n ts os/\MM.Good ts os/\e<2*ts.length/\Q (vn (MM.behind ts os e)) H
theorem qN(T:Txt K mg t):cU P w K mg base CX0 3 t.CF t.B2 ["web","end"] HX:=by
 refine T.pG.F.ok wY (λvs H Q E h=>?_) (λcdv A outer s H vs Q E hr h=>?_)
 ·obtain⟨wa,n,ts,os,e,rfl,_⟩:=h;rfl
 obtain⟨wa,n,ts,os,e,rfl,hw,g,he,q⟩:=h;have nd:=wY.nd;refine⟨_,(aF (aU 2 nd (aL uI (aL aZ (pv 0) aC (λ_ _=>rfl)) (bH (MO T) hr T.xS aX (aA (pv 0) (aA (pv 1) aE))) (λ_ _=>rfl)))
  (aK (bE (aL aR (pv 2) (aJ cH (lH PySem.F.plainAttrs_list PySem.F.slot_list_index PySem.F.type_list_index oW (pv 2) (aA (bH (oV T) hr T.iF aX (aA (pv 1) aE)) aE)) aC) (λ_ _=>rfl))))),?_⟩
 obtain⟨tA,oA,hw1,ht,ho⟩:=id hw;have hp:=g.g.has (MM.oth e) (MM.b9 he);obtain⟨xs,r,h1,h2,h3,h4⟩:=ho.item hp.1;refine(aI _ rfl wa _ _ (.ref oA) rfl (n9 rfl (SqT.of hw1) rfl _ rfl _ rfl (cV wa n ts os e rfl hw ⟨ he,.inl (aO oA xs _ _ rfl rfl (SqL.of h1) ⟨ h3,?_⟩)⟩)));exact(iV _ rfl _ rfl (.inl ⟨rfl,_,SqL.of h4⟩) _ rfl (cW e rfl r _ _ rfl rfl (nZ h4 hp.2 _ _ rfl rfl (aO r _ _ _ rfl rfl (SqL.of h4) ⟨ FF hp.2,q⟩))))
def CS:Sp:=λvs H Q _=>∃(wa:Addr) (n:Nat) (ts:MM.aS) (os:MM.bI) (e:Nat),vs=[.ref wa,vn e]/\iH H wa n ts os/\MM.Good ts os/\ts.length<=45000/\e<2*ts.length/\∀r,H r=none->Q (.ref r) (upd H r (.lst (vns (MM.aT (MM.behind ts os) e))))
theorem AZ(T:Txt K mg t):cU P w K mg base CX0 4 t.rZ t.rS ["web","first"] CS:=by
 refine T.rO.F.ok oM (λvs H Q E h=>?_) (λcdv A outer s H vs Q E hr h=>?_)
 ·obtain⟨wa,n,ts,os,e,rfl,_⟩:=h;rfl
 obtain⟨wa,n,ts,os,e,rfl,hw,g,h500,he,q⟩:=h;have nd:=oM.nd;refine⟨_,(aF (aU 2 nd (bZ (aA (pv 1) aE)))
  (aF (aU 3 nd (bH (qN T) hr T.pG aX (aA (pv 0) (aA (pv 1) aE))))
  (aF (jS PassesOwn.never (bF xE (pv 3) (pv 1) (bO _)) (aF (bM (fN mAp bA (pv 2) (aA (pv 3) aE)))
  (aK (aU 3 nd (bH (qN T) hr T.pG aX (aA (pv 0) (aA (pv 3) aE)))))))
  (aK (bE (pv 2)))))),?_⟩
 have m:=g.maps;obtain⟨rd,rdN⟩:=MM.eZ m he;refine⟨_,rfl,(by show 1<=ZW;decide),λla hla=>?_⟩;have g1:=aG hla (.lst [vn e]);refine⟨_,rfl,_,(iA rfl wa n ts os e rfl ⟨ g1.web hw,g,he,?_⟩)⟩;generalize hf:MM.behind ts os=f at m rd rdN q;refine⟨λk σ H4=>∃j,k=MM.per f e-j/\0<j/\j<=MM.per f e/\σ=[some (.ref wa),some (vn e),some (.ref la),some (vn (MM.iter f j e))]/\H4=upd H la (.lst (vns (MM.path f e j))),(bR _ 1 rfl Nat.one_pos rd.1 rfl rfl),?_⟩;rintro k σ H4 ⟨j,rfl,hj0,hj,rfl,rfl⟩;refine(iV _ rfl _ rfl rfl _ rfl ?_);by_cases hc:MM.iter f j e=e
 ·refine cF (by rw[hc];simp) ?_;have ej:j=MM.per f e:=by
   rcases Xj j (MM.per f e) with z | z
   ·exact absurd hc (rd.2.2 j hj0 z)
   ·lia
  subst ej;exact⟨_,rfl,q la hla⟩
 ·refine dY (by simp;lia) ?_;have hjp:=MM.tR rd hj0 hj hc;refine⟨_,λσ' H' h=>h,?_⟩;refine(eQ _ rfl (.inl ⟨rfl,_,SqL.of aB⟩) _ rfl (bB la _ _ rfl rfl aB ?_ ?_))
  ·rw[Zq,MM.lJ];exact Yt (by lia:j<=90000) (by decide)
  have e7:vns (MM.path f e j)++[vn (MM.iter f j e)]=vns (MM.path f e (j+1)):=by rw[MM.mB,sH];rfl
  rw[e7,fJ];refine⟨_,rfl,_,(iA rfl wa n ts os (MM.iter f j e) rfl ⟨ (aG hla _).web hw,g,MM.dH m he j,?_⟩)⟩;rw[hf];exact(zW (MM.per f e-(j+1)) (by lia) (j+1) rfl (by lia) (by lia) rfl rfl)
end K36
namespace MM
theorem BN{p:Nat->Bool}{N i:Nat}(hi:i<N)(h0:∀j,j<i->p j=false)(h1:p i=true):∃r,(List.range N).filter p=i::r:=by
 have e:N=(i+1)+(N-(i+1)):=by omega
 rw[e,List.range_add,List.range_succ,List.filter_append,List.filter_append];have e1:(List.range i).filter p=[]:=by
  rw[List.filter_eq_nil_iff];intro a ha;rw[h0 a (Zs.mp ha)];exact Bool.false_ne_true
 rw[e1,List.nil_append,List.filter_cons,if_pos h1];exact⟨_,rfl⟩
end MM
namespace K36
open PySem L2 PyProof.Rows
def LV:Sp:=λvs H Q _=>∃(wa:Addr) (n:Nat) (ts:MM.aS) (os:MM.bI),vs=[.ref wa]/\iH H wa n ts os/\MM.Good ts os/\ts.length<=45000 /\
 ∀(r:Addr) (rr:List Addr) (H':Hp),aW H H'->fX H H' r rr (MM.cX (MM.behind ts os) (2*ts.length))->Q (.ref r) H'
theorem JN(T:Txt K mg t):cU P w K mg base CX0 5 t.FI t.E9 ["web"] LV:=by
 refine T.E2.F.ok AL (λvs H Q E h=>?_) (λcdv A outer s H vs Q E hr h=>?_)
 ·obtain⟨wa,n,ts,os,rfl,_⟩:=h;rfl
 obtain⟨wa,n,ts,os,rfl,hw,g,h500,q⟩:=h;have nd:=AL.nd;have nd_end:(["end"]:List Str).Nodup:=by decide
 refine⟨_,(aF (aU 1 nd (bZ aE))
  (aF (dD (i:=2) nd rfl (Or.inl rfl)  (N':=["end"]) (js:=[none]) rfl (bP rfl T.bV (aA (aJ cS aC (a7 a4 rfl T.eA PySem.boot_len (aA (aL aZ (pv 0) aC (λ_ _=>rfl)) aE))) aE)) (λ_ _ _ _ _=>(aQ (i:=0) nd_end rfl (Or.inl rfl))) (λ_ _ _ _ _=>dE) (λ_ _ _ _ _=>xD))
  (aF (cR PassesOwn.never rfl (bP rfl T.bV (aA (aJ cS aC (a7 a4 rfl T.eA PySem.boot_len (aA (aL aZ (pv 0) aC (λ_ _=>rfl)) aE))) aE)) (aQ (i:=3) nd rfl (Or.inl rfl)) (aK (fL (y4 (oR (aL aR (pv 2) (pv 3) (λ_ _=>rfl)) (λ_=>rfl))) (aF (aU 4 nd (bH (AZ T) hr T.rO aX (aA (pv 0) (aA (pv 3) aE))))
  (aF (cR PassesOwn.never rfl (cK (pv 4)) (aQ (i:=5) nd rfl (Or.inl rfl)) (aK (iY xD (nP (pv 2) (pv 5) set_list))))
  (aK (bM (fN mAp bA (pv 1) (aA (pv 4) aE)))))) dA)))
  (aK (bE (pv 1)))))),?_⟩
 have m:=g.maps;obtain⟨tA,oA,hw1,ht,ho⟩:=id hw;obtain⟨tr,tr1,tr2,tr3⟩:=id ht;have eN:(2:Int)*((tr.map V.ref).length:Nat)=((2*ts.length:Nat):Int):=by rw[Zq,tr2];push_cast;rfl
 refine⟨(by show 0<=ZW;decide),λD1 hD1=>?_⟩;have g1:=aG hD1 (.lst []);refine(aI _ rfl wa _ _ (.ref tA) rfl (bC rfl (SqT.of (g1 _ _ hw1)) rfl tA _ rfl (.inl (SqL.of (g1 _ _ tr1))) (hV _ _ rfl rfl (.inl ⟨by decide,by decide⟩) _ rfl ⟨ ?_,?_,λD2 hD2=>?_⟩)))
 ·show -(2 ^ 62)<=(2:Int)*((tr.map V.ref).length:Nat);lia
 ·show(2:Int)*((tr.map V.ref).length:Nat)<2 ^ 62;rw[eN];lia
 have eN2:((2:Int)*((tr.map V.ref).length:Nat)).toNat=2*ts.length:=by rw[eN];exact Int.toNat_natCast _
 generalize hf:MM.behind ts os=f at m q;generalize hN:2*ts.length=N at m q eN eN2;refine comp_map N (λi ys H'=>ys=(List.replicate i false).map V.bl/\H'=upd (upd H D1 (.lst [])) D2 (.lst ys)) ⟨rfl,rfl⟩ ?_ ?_
 ·rintro i ys H' hi ⟨rfl,rfl⟩;refine⟨(by show i<((2:Int)*((tr.map V.ref).length:Nat)).toNat;lia),?_⟩;rintro x H'' ⟨rfl,rfl⟩;refine⟨(Fills.refl _).set _ rfl,aB,?_,?_,?_⟩
  ·rw[Zq,List.length_replicate];exact YQ hi (Ys (by lia:N<=90000) (by decide))
  ·rw[List.replicate_succ',Zt];rfl
  ·rw[fJ]
 rintro ys H2 ⟨rfl,rfl⟩;refine⟨(by show((2:Int)*((tr.map V.ref).length:Nat)).toNat<=N;lia),?_⟩;have g2':=aG hD2 (.lst ((List.replicate N false).map V.bl));have g2:=g1.trans g2';have nD:D1≠D2:=aN aB hD2;have n0:fX H (upd (upd H D1 (.lst [])) D2 (.lst ((List.replicate N false).map V.bl))) D1 [] []:=⟨g2' _ _ aB,rfl,λi l h=>by simp at h,List.nodup_nil,by simp,hD1,λx hx=>by cases hx⟩
 have e0:(upd (upd H D1 (.lst [])) D2 (.lst ((List.replicate N false).map V.bl))) D2=some (.lst ((List.replicate N false).map V.bl)):=aB;have hD2H:H D2=none:=g1.free hD2;generalize upd (upd H D1 (.lst [])) D2 (.lst ((List.replicate N false).map V.bl))=H2 at g2 n0 e0;clear g2' hD2 g1;refine(aI _ rfl wa _ _ (.ref tA) rfl (bC rfl (SqT.of (g2 _ _ hw1)) rfl tA _ rfl (.inl (SqL.of (g2 _ _ tr1))) (hV _ _ rfl rfl (.inl ⟨by decide,by decide⟩) _ rfl ⟨ ?_,?_,?_⟩)))
 ·show -(2 ^ 62)<=(2:Int)*((tr.map V.ref).length:Nat);lia
 ·show(2:Int)*((tr.map V.ref).length:Nat)<2 ^ 62;rw[eN];lia
 refine cI (lo:=0) (n:=((2:Int)*((tr.map V.ref).length:Nat)).toNat) (λi σ H'=>∃(rr:List Addr) (done:MM.bI) (sn:List Bool) (o3 o4 o5:Option V),σ=[some (.ref wa),some (.ref D1),some (.ref D2),o3,o4,o5]/\aW H H'/\fX H H' D1 rr done/\D2∉rr /\
   H' D2=some (.lst (sn.map V.bl))/\sn.length=N/\done++MM.lf f ((List.range N).filter λx=>!sn.getD x false)=MM.cX f N/\∀j,j<i->sn.getD j false=true)
  (cN ([]) ([]) (List.replicate N false) none none none rfl (jF g2 n0 (by simp) e0 (by simp) ?_ (λj hj=>absurd hj (Nat.not_lt_zero _)))) ?_ ?_
 ·have e:(List.range N).filter (λx=>!(List.replicate N false).getD x false)=List.range N:=by
   rw[List.filter_eq_self];intro a ha;have:=Zs.mp ha;simp[Zv,List.getElem?_replicate,this]
  rw[e];rfl
 ·rintro i σ H3 hi ⟨rr,done,sn,o3,o4,o5,rfl,g3,n3,dr,es,sl,eq,hs⟩;rw[eN2]at hi;have hi0:(0:Int)+(i:Int)=(i:Int):=Int.zero_add _;rw[hi0];have hat:atI (sn.map V.bl) (i:Int)=some (.bl (sn.getD i false)):=cE (by rw[Zk,Zv,Zz (show i<sn.length by lia)];rfl);refine⟨_,rfl,(aI _ rfl D2 _ _ _ rfl (bU rfl (SqL.of es) hat _ rfl ?_))⟩;cases hb:sn.getD i false with
  |true =>
   refine cF rfl ?_;refine(cN rr done sn _ _ _ rfl (jF g3 n3 dr es sl eq (λj hj=>?_)));rcases Xj j i with z | z
   ·exact hs j z
   ·have:j=i:=by lia
    subst this;exact hb
  |false =>
   refine dY rfl ?_;refine⟨_,rfl,_,(iA rfl wa n ts os i rfl ⟨ g3.web hw,g,h500,by lia,λla hla=>?_⟩)⟩;rw[hf];have gl:=aG hla (.lst (vns (MM.aT f i)));have lanD1:la≠D1:=(aN n3.at_ hla).symm;have lanD2:la≠D2:=(aN es hla).symm;have lar:la∉rr:=λz=>by obtain⟨l,hl⟩:=n3.ex z;rw[hla]at hl;cases hl
   have hll:=MM.eO m hi;have lan:=MM.eG m hi;have lal:=(MM.BC m hi).2;have selfl:=MM.l5 m hi;refine(dI _ rfl la rfl ⟨_,SqL.of aB⟩ (jU (xs:=vns (MM.aT f i)) (λj σ H'=>∃(sn':List Bool) (o5:Option V),σ=[some (.ref wa),some (.ref D1),some (.ref D2),some (vn i),some (.ref la),o5]/\H'=upd (upd H3 la (.lst (vns (MM.aT f i)))) D2 (.lst (sn'.map V.bl))/\sn'.length=N /\
     ∀x,sn'.getD x false=(sn.getD x false||decide (x∈(MM.aT f i).take j)))
    (aY sn _ rfl ?_ sl (λx=>by simp)) (λj σ H' _ h=>by obtain⟨sn',o,_,rfl,_⟩:=h;exact SqL.of (by rw[aH lanD2];exact aB)) ?_ ?_))
   ·funext b
    by_cases hb':b=D2
    ·subst hb';rw[aB];exact gl _ _ es
    ·rw[aH hb']
   ·rintro j x σ H' hx ⟨sn',o,rfl,rfl,sl',hsn⟩;obtain⟨hj,ej⟩:=Zj.mp hx;rw[Zq]at hj;have ex:x=vn (MM.aT f i)[j]:=by rw[<-ej];simp
    subst ex;have hxN:=hll _ (Zp hj);refine⟨_,rfl,(aI _ rfl D2 _ _ ((MM.aT f i)[j]) rfl (bC rfl aB (M0 (by rw[Zq];lia)) (sn'.set (MM.aT f i)[j] true) _ rfl ?_ ⟨ by rw[List.length_set];exact sl',λy=>?_⟩))⟩
    ·rw[fJ,List.map_set]
    ·have hmem:y∈(MM.aT f i).take (j+1)↔y∈(MM.aT f i).take j\/y=(MM.aT f i)[j]:=by
      rw[List.take_add_one,Zz hj,Zf];simp
     by_cases hy:(MM.aT f i)[j]=y
     ·subst hy;rw[MM.wH (by lia)];simp[hmem]
     ·rw[MM.BM hy,hsn y];have:(y∈(MM.aT f i).take (j+1))=(y∈(MM.aT f i).take j):=by
       rw[eq_iff_iff,hmem];constructor
       ·rintro(z | z)
        ·exact z
        ·exact absurd z.symm hy
       ·exact .inl
      simp only[this]
   ·rintro σ H' ⟨sn',o,rfl,rfl,sl',hsn⟩;rw[Zq,Yw]at hsn;have n4:fX H (upd (upd H3 la (.lst (vns (MM.aT f i)))) D2 (.lst (sn'.map V.bl))) D1 rr done:=n3.keep λb u hb h=>by
     rw[aH (show b≠D2 by rcases hb with rfl | hb;exact nD;rintro rfl;exact dr hb)];exact gl _ _ h
    have g4:aW H (upd (upd H3 la (.lst (vns (MM.aT f i)))) D2 (.lst (sn'.map V.bl))):=λb u h=>by rw[aH (aN h hD2H)];exact gl _ _ (g3 _ _ h)
    have la4:(upd (upd H3 la (.lst (vns (MM.aT f i)))) D2 (.lst (sn'.map V.bl))) la=some (.lst (vns (MM.aT f i))):=by rw[aH lanD2];exact aB
    have es4:(upd (upd H3 la (.lst (vns (MM.aT f i)))) D2 (.lst (sn'.map V.bl))) D2=some (.lst (sn'.map V.bl)):=aB;generalize upd (upd H3 la (.lst (vns (MM.aT f i)))) D2 (.lst (sn'.map V.bl))=H4 at n4 g4 la4 es4;have hdl:done.length<=N:=by
     have h1:=MM.uD m _ (List.range N) (Nat.le_refl _) (λx hx=>Zs.mp hx);have h2:=congrArg List.length eq;rw[Zm]at h2;unfold MM.cX at h2;rw[Yj]at h1
     lia
    refine(eQ _ rfl (.inl ⟨rfl,_,SqL.of n4.at_⟩) _ rfl (bB D1 _ _ rfl rfl n4.at_ ?_ ?_))
    ·rw[Zq,n4.len];exact Yt (by lia:done.length<=90000) (by decide)
    have n5:=n4.push (x:=la) (l:=MM.aT f i) (H2:=upd H4 D1 (.lst (rr.map V.ref++[.ref la]))) (g3.free hla) lar lanD1 (by rw[aB,Zt];rfl) (by rw[aH lanD1];exact la4) λb u hb h=>by rw[aH (show b≠D1 from λz=>n4.nin (z▸hb))];exact h
    refine(cN (rr++[la]) (done++[MM.aT f i]) sn' _ _ _ rfl (jF ?_ n5 ?_ ?_ sl' ?_ (λj hj=>?_)))
    ·exact λb u h=>by rw[aH (aN h hD1)];exact g4 _ _ h
    ·intro z;rcases Zf.mp z with z | z
     ·exact dr z
     ·have:D2=la:=by simpa using z
      exact lanD2 this.symm
    ·rw[aH (Ne.symm nD)];exact es4
    ·obtain⟨r,hr'⟩:=MM.BN (p:=λx=>!sn.getD x false) hi (λj hj=>by rw[hs j hj];rfl) (by rw[hb];rfl);have e2:(List.range N).filter (λx=>!sn'.getD x false)=(i::r).filter λx=>decide (x∉MM.aT f i):=by
      rw[<-hr',List.filter_filter];refine List.filter_congr λx _=>?_;rw[hsn x];by_cases z:x∈MM.aT f i<;>simp[z]
     rw[hr',MM.oY m (λx hx=>by rw[<-hr']at hx;exact Zs.mp (Yz.mp hx).1)]at eq;rw[Yd,e2];exact eq
    ·rw[hsn j];rcases Xj j i with z | z
     ·rw[hs j z];rfl
     ·have:j=i:=by lia
      subst this;simp[selfl]
 ·rintro σ H3 ⟨rr,done,sn,o3,o4,o5,rfl,g3,n3,dr,es,sl,eq,hs⟩;rw[eN2]at hs;have e:(List.range N).filter (λx=>!sn.getD x false)=[]:=by
   rw[List.filter_eq_nil_iff];intro a ha;rw[hs a (Zs.mp ha)];exact Bool.false_ne_true
  rw[e,MM.JY,List.append_nil]at eq;exact⟨_,rfl,q D1 rr H3 g3 (eq▸n3)⟩
end K36
namespace MM
theorem BA{f:Nat->Nat}{N:Nat}(m:fV f N){x:Nat}(hx:x<N):∃(k:Nat) (d:List Nat),(cX f N)[k]?=some d/\x∈d/\∀(j:Nat) (d':List Nat),(cX f N)[j]?=some d'->x∈d'->j=k :=
 uC m _ _ (Nat.le_refl _) (λy hy=>Zs.mp hy) x (Zs.mpr hx)
end MM
namespace L2
open PySem PyProof.Rows
def dT(ts:MM.aS):List PyData:=ts.map λt=>.tuple [.int (t.1:Int),.int (t.2:Int)]
def dN(l:List Nat):List PyData:=l.map λn:Nat=>PyData.int (n:Int)
def dO(os:MM.bI):List PyData:=os.map λl=>.list (dN l)
theorem DR{K:PySem.W.Frag}{H:Hp}:∀(xs:List V) (ds:List PyData),xs.length=ds.length->(∀(i:Nat) x d,xs[i]?=some x->ds[i]?=some d->Bd K H x d)->Bds K H xs ds
 |[],[],_,_=>.nil
 |[],_::_,h,_=>by cases h
 |_::_,[],h,_=>by cases h
 |x::xs,d::ds,h,f=>.cons (f 0 x d rfl rfl) (DR xs ds (by simpa using h) λi x' d' h1 h2=>f (i+1) x' d' h1 h2)
theorem FE{K:PySem.W.Frag}{H:Hp}{a:Addr}{ts:MM.aS}(h:kK H a ts):Bd K H (.ref a) (.list (dT ts)):=by
 obtain⟨tr,h1,h2,h3⟩:=h;refine .lst (SqL.of h1) (DR _ _ (by unfold dT;rw[Zq,Zq,h2]) λi x d hx hd=>?_);unfold dT at hd;rw[Zk]at hx hd;cases ht:ts[i]? with
 |none=>rw[ht]at hd;cases hd
 |some u =>
  rw[ht]at hd;cases hd;obtain⟨r,q1,q2⟩:=h3 i u ht;rw[q1]at hx;cases hx;exact .tup (SqT.of q2) (.cons (.int _) (.cons (.int _) .nil))
theorem NA{K:PySem.W.Frag}{H:Hp}{a:Addr}{os:MM.bI}(h:qZ H a os):Bd K H (.ref a) (.list (dO os)):=by
 obtain⟨tr,h1,h2,h3⟩:=h;refine .lst (SqL.of h1) (DR _ _ (by unfold dO;rw[Zq,Zq,h2]) λi x d hx hd=>?_);unfold dO at hd;rw[Zk]at hx hd;cases ht:os[i]? with
 |none=>rw[ht]at hd;cases hd
 |some u =>
  rw[ht]at hd;cases hd;obtain⟨r,q1,q2⟩:=h3 i u ht;rw[q1]at hx;cases hx;exact .lst (SqL.of q2) (mO u)
theorem KW(l:List Nat):PyData.canLayAll0 (dN l)=true/\PyData.depthAll (dN l)<=2:=mG 2 λd hd=>by
 obtain⟨n,_,rfl⟩:=Zh.mp hd;exact⟨rfl,by simp[PyData.depth]⟩
theorem KU(ts:MM.aS):PyData.canLayAll0 (dT ts)=true/\PyData.depthAll (dT ts)<=3:=mG 3 λd hd=>by
 obtain⟨n,_,rfl⟩:=Zh.mp hd;exact⟨rfl,by simp[PyData.depth,PyData.depthAll]⟩
theorem QF(os:MM.bI):PyData.canLayAll0 (dO os)=true/\PyData.depthAll (dO os)<=3:=mG 3 λd hd=>by
 obtain⟨n,_,rfl⟩:=Zh.mp hd;exact⟨(KW n).1,by rw[PyData.depth];have:=(KW n).2;lia⟩
def dW(n:Nat)(ts:MM.aS)(os:MM.bI):PyData:=.tuple [.int (n:Int),.list (dT ts),.list (dO os)]
theorem K6{K:PySem.W.Frag}{H:Hp}{w:Addr}{n:Nat}{ts:MM.aS}{os:MM.bI}(h:iH H w n ts os):Bd K H (.ref w) (dW n ts os):=by
 obtain⟨tA,oA,h1,h2,h3⟩:=h;exact .tup (SqT.of h1) (.cons (.int _) (.cons (FE h2) (.cons (NA h3) .nil)))
theorem nA(n:Nat)(ts:MM.aS)(os:MM.bI):SeqAt.shaped (dW n ts os)=true:=by
 have h1:=KU ts;have h2:=QF os;have h:PyData.canLayAll0 [PyData.int (n:Int),.list (dT ts),.list (dO os)]=true/\PyData.depthAll [PyData.int (n:Int),.list (dT ts),.list (dO os)]<=4:=mG 4 λd hd=>by
  simp only[Zn,List.not_mem_nil,or_false]at hd;rcases hd with rfl | rfl | rfl
  ·exact⟨rfl,by simp[PyData.depth]⟩
  ·exact⟨h1.1,by rw[PyData.depth];lia⟩
  ·exact⟨h2.1,by rw[PyData.depth];lia⟩
 unfold SeqAt.shaped;rw[Xx];refine⟨h.1,decide_eq_true ?_⟩;unfold dW;rw[PyData.depth]
 lia
theorem LI(n:Nat)(ts:MM.aS)(os:MM.bI):PyData.eqv (dW n ts os) (dW n ts os)=true:=SeqAt.eqv_refl _ (SeqAt.canLay_of_shaped (nA n ts os))
theorem NB{rr:List Addr}{i:Nat}{x:Addr}(h:rr[i]?=some x):atI (rr.map V.ref) (i:Int)=some (.ref x):=cE (by rw[Zk,h];rfl)
end L2
namespace MM
theorem KB{ts:aS}{os:bI}(g:Good ts os):0<os.length:=by
 have:=(g.g.has 0 (by have:=g.one;lia)).1
 lia
end MM
namespace L2
open PySem PyProof.Rows
theorem iT{l:List Int}{j k:Nat}{v:Int}(h:j<l.length):at0 (l.set j v) k=if k=j then v else at0 l k:=by
 unfold at0;by_cases e:k=j
 ·subst e;rw[if_pos rfl,Zv,List.getElem?_set_self h];rfl
 ·rw[if_neg e,Zv,List.getElem?_set_ne (Ne.symm e),<-Zv]
theorem LZ(m:Nat)(c:Int):(List.range m).map (λ_=>V.int c)=(List.replicate m c).map V.int:=by
 apply Yp;intro i;by_cases h:i<m
 ·simp[h]
 ·simp[h]
theorem FH{m:Nat}{c:Int}{e:Nat}(h:e<m):at0 (List.replicate m c) e=c:=by unfold at0;simp[List.getD,h]
theorem lY{d:List Nat}{i:Nat}(h:i<d.length):(vns d)[i]?=some (vn (d.getD i 0)):=by
 rw[Zk,Zz h];simp[List.getD,h]
theorem getD_mem{d:List Nat}{i:Nat}(h:i<d.length):d.getD i 0∈d:=by simp[List.getD,h]
end L2
namespace K36
open PySem L2 PyProof.Rows
def Q5:Sp:=λvs H Q _=>∃(da ca la:Addr) (d:List Nat) (cs ls:List Int),vs=[.ref da,.ref ca,.ref la]/\H da=some (.lst (vns d))/\H ca=some (.lst (cs.map V.int))/\H la=some (.lst (ls.map V.int))/\(∀x∈d,x<cs.length/\x<ls.length/\MM.oth x<ls.length)/\d.length<=1000/\∀H',aW H H'->Q (.int (MM.su d (MM.trm (at0 cs) (at0 ls)))) H'
theorem ML(T:Txt K mg t):cU P w K mg base CX0 2 t.FJ t.FA ["_law_land","_law_corners","_law_lefts"] Q5:=by
 refine T.E3.F.ok IB (λvs H Q E h=>?_) (λcdv A outer s H vs Q E hr h=>?_)
 ·obtain⟨da,ca,la,d,cs,ls,rfl,_⟩:=h;rfl
 obtain⟨da,ca,la,d,cs,ls,rfl,hd,hc,hl,hb,h1000,q⟩:=h;have nd_l_end_l_lefts_l_corners:(["_law_end","_law_lefts","_law_corners"]:List Str).Nodup:=by decide
 refine⟨_,(aK (bE (a7 (mM rfl) rfl T.DU boot_sum (aA (dF (N':=["_law_end","_law_lefts","_law_corners"]) (js:=[none,some 2,some 1]) rfl (cK (pv 0)) (λ_ _ _ _ _=>(aQ (i:=0) nd_l_end_l_lefts_l_corners rfl (Or.inl rfl))) (λ_ _ _ _ _=>dE) (λ_ _ _ _ _=>(aJ cH (aJ bD (aJ cH aC (aL (cP (K:=K) rfl) (pv 2) (pv 0) (λ_ _=>rfl))) (aL (cP (K:=K) rfl) (pv 1) (pv 0) (λ_ _=>rfl))) (aL (cP (K:=K) rfl) (pv 1) (bH (fC T) hr T.eP aX (aA (pv 0) aE)) (λ_ _=>rfl))))) aE)))),?_⟩;refine(dI _ rfl da rfl ⟨_,SqL.of hd⟩ (λD hD=>?_));refine c7 d.length (λi=>.int (MM.trm (at0 cs) (at0 ls) (d.getD i 0))) hD (by lia) (λi H' hi g'=>⟨_,_,SqL.of (g' _ _ hd),lY hi⟩) (λH' g'=>⟨_,SqL.of (g' _ _ hd),by rw[Zq];exact Nat.le_refl _⟩) ?_ ?_
 ·rintro i H' x H'' k hi g' ⟨rfl,hx⟩ hk;have ex:=hx _ (SqL.of (g' _ _ hd));rw[lY hi]at ex;cases ex;obtain⟨b1,b2,b3⟩:=hb _ (getD_mem hi);exact(eF ((Fills.refl _).set _ rfl) _ rfl _ rfl (aO ca _ _ _ rfl rfl (SqL.of (g' _ _ hc)) (iB (a8 b1 rfl) _ _ rfl rfl _ rfl (aI _ rfl la _ _ _ rfl (bC rfl (SqL.of (g' _ _ hl)) (a8 b2 rfl) _ _ rfl rfl (cQ _ rfl _ rfl (d.getD i 0) rfl (aO la _ _ _ rfl rfl (SqL.of (g' _ _ hl)) (iW (a8 b3 rfl) _ _ rfl rfl (hk _ (aW.refl _))))))))))
 intro H2 g2 eD;rw[sJ d (λe=>V.int (MM.trm (at0 cs) (at0 ls) e)),show d.map (λe=>V.int (MM.trm (at0 cs) (at0 ls) e))=(d.map (MM.trm (at0 cs) (at0 ls))).map V.int by rw[Yb];rfl]at eD;exact⟨D,_,rfl,SqL.of eD,q H2 g2⟩
end K36
namespace L2
open PySem PySem.Spec PyProof.Rows
theorem aW.upd{H H':Hp}{l:Addr}{o:HO}(g:aW H H')(h:H l=none):aW H (upd H' l o):=λb u q=>by rw[aH (aN q h)];exact g b u q
theorem S9{k:Nat}{A:Around}(r:eR k A):A.in1.units<cLine:=by have:=r.un;show A.units+1<cLine;lia
theorem few{n:Nat}(h:n<=100000):n<=ZW:=Ys h (by decide)
theorem eV{n:Nat}(h:n<100000):n<ZW:=YQ h (by decide)
def Lst{α:Type}(R:Hp->V->α->Prop)(H:Hp)(l:Addr)(xs:List α):Prop:=∃vs,H l=some (.lst vs)/\vs.length=xs.length/\∀(i:Nat) v x,vs[i]?=some v->xs[i]?=some x->R H v x
section
variable{α:Type}{R:Hp->V->α->Prop}{H H':Hp}{l:Addr}{xs:List α}
theorem Lst.mono(h:Lst R H l xs)(g:aW H H')(m:∀v x,R H v x->R H' v x):Lst R H' l xs:=by
 obtain⟨vs,h1,h2,h3⟩:=h;exact⟨vs,g _ _ h1,h2,λi v x a b=>m v x (h3 i v x a b)⟩
theorem Lst.at(h:Lst R H l xs){i:Nat}{x:α}(hi:xs[i]?=some x):∃vs v,H l=some (.lst vs)/\vs.length=xs.length/\vs[i]?=some v/\R H v x:=by
 obtain⟨vs,h1,h2,h3⟩:=h;have hl:i<vs.length:=by rw[h2];exact(Zj.mp hi).1
 exact⟨vs,vs[i],h1,h2,Zz hl,h3 i _ x (Zz hl) hi⟩
theorem Lst.app{x:α}{v:V}{vs:List V}(h1:H' l=some (.lst (vs++[v])))(h2:vs.length=xs.length)(h3:∀(i:Nat) v x,vs[i]?=some v->xs[i]?=some x->R H' v x)(h4:R H' v x):Lst R H' l (xs++[x]):=by
 refine⟨_,h1,by simp[h2],λi u y a b=>?_⟩;rcases Xj i vs.length with z | z
 ·rw[Zx z]at a;rw[Zx (by lia)]at b;exact h3 i u y a b
 ·rw[Zy z]at a;rw[Zy (by lia)]at b;have hi:i-vs.length=0:=by
   have:=(Zj.mp a).1;simp at this;lia
  rw[hi]at a;rw[<-h2,hi]at b;simp at a b;subst a b;exact h4
end
abbrev Pt:=Int×Int
def qY(H:Hp)(v:V)(p:Pt):Prop:=∃a,v=.ref a/\H a=some (.tup [.int p.1,.int p.2])
abbrev nU(H:Hp)(l:Addr)(ps:List Pt):Prop:=Lst qY H l ps
def LB(H:Hp)(v:V)(ps:List Pt):Prop:=∃l,v=.ref l/\nU H l ps
abbrev G0(H:Hp)(l:Addr)(ll:List (List Pt)):Prop:=Lst LB H l ll
theorem qY.mono{H H':Hp}(g:aW H H')(v:V)(p:Pt)(h:qY H v p):qY H' v p:=let⟨a,e,q⟩:=h;⟨a,e,g _ _ q⟩
theorem aW.ps{H H':Hp}(g:aW H H'){l:Addr}{ps:List Pt}(h:nU H l ps):nU H' l ps:=h.mono g (qY.mono g)
theorem LB.mono{H H':Hp}(g:aW H H')(v:V)(ps:List Pt)(h:LB H v ps):LB H' v ps:=let⟨l,e,q⟩:=h;⟨l,e,g.ps q⟩
theorem aW.ls{H H':Hp}(g:aW H H'){l:Addr}{ll:List (List Pt)}(h:G0 H l ll):G0 H' l ll:=h.mono g (LB.mono g)
def pt(ps:List Pt)(i:Nat):Pt:=ps.getD i (0,0)
theorem tT{ps:List Pt}{i:Nat}(h:i<ps.length):ps[i]?=some (pt ps i):=by
 unfold pt;rw[Zz h];simp[List.getD,h]
theorem Lst.pt{H:Hp}{l:Addr}{ps:List Pt}(h:nU H l ps){i:Nat}(hi:i<ps.length):∃vs a,H l=some (.lst vs)/\vs.length=ps.length/\vs[i]?=some (.ref a)/\H a=some (.tup [.int (pt ps i).1,.int (pt ps i).2]):=by
 obtain⟨vs,v,h1,h2,h3,a,rfl,h4⟩:=h.at (tT hi);exact⟨vs,a,h1,h2,h3,h4⟩
def hd(p q:Pt):Int:=if p.2=q.2 then (if q.1<p.1 then 2 else 0) else (if q.2<p.2 then 3 else 1)
def NF(p q:Pt):Prop:=(p.2=q.2/\p.1≠q.1)\/(p.1=q.1/\p.2≠q.2)
def hds(ps:List Pt):List Int:=(List.range (ps.length-1)).map λk=>hd (pt ps k) (pt ps (k+1))
theorem zJ(ps:List Pt):(hds ps).length=ps.length-1:=by simp[hds]
def NH(ps:List Pt):Prop:=2<=ps.length/\ps.length<=1000/\∀k,k+1<ps.length->NF (pt ps k) (pt ps (k+1))
def E4(ps:List Pt):List Int:=[at0 (hds ps) 0,(at0 (hds ps) ((hds ps).length-1)+2)%4]
def lvs(ll:List (List Pt)):List Int:=ll.flatMap E4
theorem mF:∀ll:List (List Pt),(lvs ll).length=2*ll.length
 |[]=>rfl
 |ps::ll=>by
  have:=mF ll;unfold lvs at this ⊢;rw[List.flatMap_cons,Zm,this];simp[E4];lia
def dif(hs:List Int)(q:Int):List Int:=(List.range (hs.length-1)).map λk=>(at0 hs (k+1)-at0 hs k-q)%4
def cnt(ps:List Pt)(c:Int):Int:=((dif (hds ps) 0).count c:Nat)
def lfs(ll:List (List Pt)):List Int:=ll.flatMap λps=>[cnt ps 1,cnt ps 3]
def cns(ts:MM.aS)(os:MM.bI)(hs:List Int):List Int:=(List.range hs.length).map λe=>(at0 hs (MM.oth e)-at0 hs (MM.behind ts os e)-1)%4+1
theorem wL{α β:Type}(f:α->List β){l:List α}{i:Nat}{x:α}(h:l[i]?=some x):(l.take (i+1)).flatMap f=(l.take i).flatMap f++f x:=by
 rw[List.take_succ,h,List.flatMap_append];simp
theorem NC{ls:List Int}(h:0<ls.length):atI (ls.map V.int) (-1)=some (.int (at0 ls (ls.length-1))):=by
 unfold atI;have e:ixN (ls.map V.int).length (-1)=some (ls.length-1):=by
  unfold ixN;rw[Zq,if_neg (by decide),if_pos (by lia)];simp only[Option.some.injEq];lia
 rw[e];exact vN (by omega)
end L2
namespace MM
def Mir(f g:Nat->Nat)(N:Nat):Prop:=∀e,e<N->g (oth (f e))=oth e
theorem Mir.steps{f g:Nat->Nat}{N:Nat}(m:fV f N)(h:Mir f g N){e:Nat}(he:e<N):∀k,iter g k (oth (iter f k e))=oth e
 |0=>rfl
 |k+1=>by
  rw[GL g];show MM.iter g k (g (oth (f (MM.iter f k e))))=oth e;rw[h _ (dH m he k)];exact Mir.steps m h he k
theorem BB{ts:aS}{os:bI}(g:Good ts os){k:Nat}{d:List Nat}(h:(lls ts os)[k]?=some d){x:Nat}(hx:x∈d):∀y,y∈d↔y∈aT (behind ts os) x:=by
 have m:=g.maps;obtain⟨e,he,rfl⟩:=kH m _ (List.range (2*ts.length)) (Nat.le_refl _) (λz hz=>Zs.mp hz) d (Zg h);have he:=Zs.mp he;have hxN:=eO m he x hx;intro y;constructor
 ·intro hy;exact eW m hxN (mH m he hx) hy
 ·intro hy;exact eW m he hx hy
end MM
namespace TU
open MM
theorem AX{f:Nat->Nat}{l:List Nat}(s:l.Pairwise λx y=>f x<f y){y:Nat}(hy:y∈l) :
  (f (aV l y)<f y/\∀w∈l,f w<=f (aV l y)\/f y<=f w)\/(f y<=f (aV l y)/\∀w∈l,f y<=f w/\f w<=f (aV l y)):=by
 have hi:=List.idxOf_lt_length_of_mem hy;have gy:l[l.idxOf y]=y:=List.getElem_idxOf hi;have up:=List.pairwise_iff_getElem.mp s;have le:∀{i j:Nat}(h1:i<l.length) (h2:j<l.length),i<=j->f l[i]<=f l[j]:=λ{i j} h1 h2 h=>by
  rcases Nat.lt_or_eq_of_le h with z | z
  ·exact Nat.le_of_lt (up i j h1 h2 z)
  ·subst z;exact Nat.le_refl _
 have gp:∀{k:Nat}(hk:k<l.length),(l.idxOf y+l.length-1)%l.length=k->aV l y=l[k]:=λ{k} hk e=>by
  unfold aV;rw[e];simp[List.getD,hk]
 by_cases z:l.idxOf y=0
 ·have e:aV l y=l[l.length-1]:=gp (by omega) (by rw[z,Nat.zero_add];exact Nat.mod_eq_of_lt (by omega));refine .inr ?_;have g0:l[0]'(by lia)=y:=by simp only[z]at gy;exact gy
  have low:∀{j:Nat}(hj:j<l.length),f y<=f l[j]:=λ{j} hj=>by
   have:=le (show 0<l.length by lia) hj (Nat.zero_le j);rw[g0]at this;exact this
  rw[e];refine⟨low _,λw hw=>?_⟩;obtain⟨j,hj,rfl⟩:=Yg.mp hw;exact⟨low hj,le _ _ (by lia)⟩
 ·have e:aV l y=l[l.idxOf y-1]:=gp (by omega) (by rw[show l.idxOf y+l.length-1=(l.idxOf y-1)+l.length by lia,Nat.add_mod_right];exact Nat.mod_eq_of_lt (by omega));refine .inl ?_;rw[e];have lt:f l[l.idxOf y-1]<f y:=by
   have:=up (l.idxOf y-1) (l.idxOf y) (by omega) hi (by lia);rw[gy]at this;exact this
  refine⟨lt,λw hw=>?_⟩;obtain⟨j,hj,rfl⟩:=Yg.mp hw;rcases Xj j (l.idxOf y) with q | q
  ·exact .inl (le _ _ (by lia))
  ·refine .inr ?_;have:=le hi hj q;rw[gy]at this;exact this
theorem MQ{W:Nat->Nat->Option Nat}{q h:Nat}{f:Nat->Nat}{l:List Nat}(s:l.Pairwise λx y=>f x<f y)(f4:∀w∈l,f w<4)(ex:∀k,(W q k).isSome=true↔∃w∈l,f w=k)(hh:h<4){y:Nat}(hy:y∈l)(fy:f y=(h+2)%4):nh W q h=f (aV l y):=by
 have zm:=iZ hy;have z4:=f4 _ zm;have ez:(W q (f (aV l y))).isSome=true:=(ex _).mpr ⟨_,zm,rfl⟩;have N:∀{k},(W q k).isSome=true->(f (aV l y)<f y/\(k<=f (aV l y)\/f y<=k))\/(f y<=f (aV l y)/\f y<=k/\k<=f (aV l y)):=λ{k} hk=>by
  obtain⟨w,hw,rfl⟩:=(ex k).mp hk;rcases AX s hy with⟨a,b⟩ | ⟨a,b⟩
  ·exact .inl ⟨a,b w hw⟩
  ·exact .inr ⟨a,b w hw⟩
 generalize f (aV l y)=z at *;unfold nh;by_cases c1:(W q ((h+1)%4)).isSome=true
 ·rw[if_pos c1];have:=N c1;lia
 rw[if_neg c1];have n1:z≠(h+1)%4:=λe=>c1 (e▸ez);by_cases c2:(W q h).isSome=true
 ·rw[if_pos c2];have:=N c2;lia
 rw[if_neg c2];have n2:z≠h:=λe=>c2 (e▸ez);by_cases c3:(W q ((h+3)%4)).isSome=true
 ·rw[if_pos c3];have:=N c3;lia
 rw[if_neg c3];have n3:z≠(h+3)%4:=λe=>c3 (e▸ez);omega
theorem JR{W:Nat->Nat->Option Nat}{q h k:Nat}(hh:h<4)(hk:k<4)(ne:k≠(h+2)%4)(ex:∀j,(W q j).isSome=true↔j=(h+2)%4\/j=k):nh W q h=k:=by
 have ek:(W q k).isSome=true:=(ex k).mpr (.inr rfl);unfold nh;by_cases c1:(W q ((h+1)%4)).isSome=true
 ·rw[if_pos c1];have:=(ex _).mp c1;lia
 rw[if_neg c1];have n1:k≠(h+1)%4:=λe=>c1 (e▸ek);by_cases c2:(W q h).isSome=true
 ·rw[if_pos c2];have:=(ex _).mp c2;lia
 rw[if_neg c2];have n2:k≠h:=λe=>c2 (e▸ek);by_cases c3:(W q ((h+3)%4)).isSome=true
 ·rw[if_pos c3];have:=(ex _).mp c3;lia
 have n3:k≠(h+3)%4:=λe=>c3 (e▸ek);omega
structure Pct(W:Nat->Nat->Option Nat)(pl:List Nat)(ts:aS)(os:bI)(n:Nat->Nat)(pt hd:Nat->Nat->Nat):Prop where
 one:1<=ts.length
 n0:∀{e},e<2*ts.length->0<n e
 go:∀{e i},e<2*ts.length->i<n e->W (pt e i) (hd e i)=some (pt e (i+1))
 mid:∀{e i},e<2*ts.length->0<i->i<n e->pt e i∉pl
 on:∀{e i},e<2*ts.length->i+1<n e->hd e (i+1)≠(hd e i+2)%4
 at_:∀{e},e<2*ts.length->pl[place ts e]?=some (pt e 0)
 rn:∀{e},e<2*ts.length->n (oth e)=n e
 rp:∀{e i},e<2*ts.length->i<=n e->pt (oth e) i=pt e (n e-i)
 rh:∀{e i},e<2*ts.length->i<n e->hd (oth e) i=(hd e (n e-1-i)+2)%4
 inj:∀{e e'},e<2*ts.length->e' < 2*ts.length->pt e 0=pt e' 0->hd e 0=hd e' 0->e=e'
 sur:∀{p h q},p∈pl->W p h=some q->∃e,e<2*ts.length/\pt e 0=p/\hd e 0=h
 ol:os.length=pl.length
 row:∀{x},x<pl.length->∃l,Rot (row os x) l/\(l.Pairwise λe e'=>hd e 0<hd e' 0)/\∀e,e∈l↔e<2*ts.length/\place ts e=x
 pnd:pl.Nodup
 pne:∀{p},p∈pl->∃h q,W p h=some q
 two:∀{p h q},p∉pl->W p h=some q->∃h1 h2,h1≠h2/\∀k,(W p k).isSome=true↔k=h1\/k=h2
section
variable{a b:Nat}{W:Nat->Nat->Option Nat}{pl:List Nat}{ts:aS}{os:bI}{n:Nat->Nat}{pt hd:Nat->Nat->Nat}
theorem Pct.pidx(P:Pct W pl ts os n pt hd){e:Nat}(he:e<2*ts.length):place ts e<pl.length:=(Zj.mp (P.at_ he)).1
theorem Pct.same(P:Pct W pl ts os n pt hd){e e':Nat}(he:e<2*ts.length)(he':e' < 2*ts.length):place ts e=place ts e'↔pt e 0=pt e' 0:=by
 have h1:=P.at_ he;have h2:=P.at_ he';constructor
 ·intro z;rw[z,h2]at h1;exact(Option.some.inj h1).symm
 ·intro z;obtain⟨l1,g1⟩:=Zj.mp h1;obtain⟨l2,g2⟩:=Zj.mp h2;exact(List.getElem_inj P.pnd).mp (by rw[g1,g2,z])
theorem Pct.h4(P:Pct W pl ts os n pt hd)(s:Stp a b W){e i:Nat}(he:e<2*ts.length)(hi:i<n e):hd e i<4:=s.h4 (P.go he hi)
theorem AI{f:Nat->Nat}:∀{l:List Nat},(l.Pairwise λx y=>f x<f y)->(∀w∈l,f w<4)->l.length<=4:=λ{l} s h=>by
 have nd:(l.map f).Nodup:=List.pairwise_map.mpr (s.imp λz=>Nat.ne_of_lt z);have:=bW 4 (l.map f) nd λx hx=>by obtain⟨w,hw,rfl⟩:=Zh.mp hx;exact h w hw
 rw[Zq]at this;exact this
theorem Pct.good(P:Pct W pl ts os n pt hd)(s:Stp a b W):Good ts os:=by
 have out:∀{x},¬x<pl.length->MM.row os x=[]:=λ{x} h=>by unfold MM.row;simp[List.getD,P.ol,h]
 refine⟨⟨λp e he=>?_,λe he=>⟨by rw[P.ol];exact P.pidx he,?_⟩,λp=>?_,λp hp=>?_,λp=>?_⟩,P.one⟩
 ·by_cases c:p<pl.length
  ·obtain⟨l,r,_,m⟩:=P.row c;exact(m e).mp (r.perm.mem_iff.mp he)
  ·rw[out c]at he;cases he
 ·obtain⟨l,r,_,m⟩:=P.row (P.pidx he);exact r.perm.mem_iff.mpr ((m e).mpr ⟨he,rfl⟩)
 ·by_cases c:p<pl.length
  ·obtain⟨l,r,so,m⟩:=P.row c;exact r.perm.nodup_iff.mpr (so.imp λ{x y} z e=>by subst e;exact Nat.lt_irrefl _ z)
  ·rw[out c];exact List.nodup_nil
 ·rw[P.ol]at hp;obtain⟨l,r,so,m⟩:=P.row hp;have mem:pl[p]∈pl:=Zp hp;obtain⟨h,q,hw⟩:=P.pne mem;obtain⟨e,he,e1,e2⟩:=P.sur mem hw;have:place ts e=p:=by
   obtain⟨l1,g1⟩:=Zj.mp (P.at_ he);exact(List.getElem_inj P.pnd).mp (by rw[g1,e1])
  intro z;have:=r.perm.mem_iff.mpr ((m e).mpr ⟨he,this⟩);rw[z]at this;cases this
 ·by_cases c:p<pl.length
  ·obtain⟨l,r,so,m⟩:=P.row c;rw[r.perm.length_eq];exact AI so λw hw=>P.h4 s ((m w).mp hw).1 (P.n0 ((m w).mp hw).1)
  ·rw[out c];exact Nat.zero_le _
theorem Pct.step(P:Pct W pl ts os n pt hd)(s:Stp a b W){e i:Nat}(he:e<2*ts.length)(hi:i+1<n e) :
  nx a (DW a b W) (4*pt e i+hd e i)=4*pt e (i+1)+hd e (i+1)/\tau a (DW a b W) (4*pt e i+hd e i)=(((hd e (i+1)+6-hd e i)%4:Nat):Int)-2:=by
 have g1:=P.go he (show i<n e by lia);have g2:=P.go he hi;have b1:=s.sym g1;obtain⟨h1,h2,hne,ex⟩:=P.two (P.mid he (by lia) hi) g2;have m1:=(ex _).mp (by rw[g2];rfl);have m2:=(ex _).mp (by rw[b1];rfl);have on:=P.on he hi;have e:=JR (W:=W) (q:=pt e (i+1)) (s.h4 g1) (s.h4 g2) on λj=>by
  rw[ex j];constructor
  ·intro z;lia
  ·intro z;lia
 have:=JP s g1;rw[e]at this;exact this
theorem Pct.last(P:Pct W pl ts os n pt hd)(s:Stp a b W){e i:Nat}(he:e<2*ts.length)(hi:i+1=n e) :
  nx a (DW a b W) (4*pt e i+hd e i)=4*pt (behind ts os e) 0+hd (behind ts os e) 0/\tau a (DW a b W) (4*pt e i+hd e i)=(((hd (behind ts os e) 0+6-hd e i)%4:Nat):Int)-2:=by
 have g1:=P.go he (show i<n e by lia);have ho:=b9 he;have gd:=P.good s;have hb:=gd.behind he;have n0:=P.n0 he;have q0:pt (oth e) 0=pt e (i+1):=by rw[P.rp he (by lia),hi];rfl
 have h0:hd (oth e) 0=(hd e i+2)%4:=by rw[P.rh he n0,show n e-1-0=i by lia]
 have pb:pt (behind ts os e) 0=pt e (i+1):=by rw[<-q0];exact(P.same hb.1 ho).mp hb.2
 obtain⟨l,⟨k,r⟩,so,m⟩:=P.row (P.pidx ho);have ml:oth e∈l:=(m _).mpr ⟨ho,rfl⟩;have nd:l.Nodup:=so.imp λ{x y} z e=>by subst e;exact Nat.lt_irrefl _ z
 have eb:behind ts os e=aV l (oth e):=by unfold behind;rw[r];exact tU nd ml
 have pm:pt e (i+1)∈pl:=by rw[<-q0];exact Zg (P.at_ ho)
 have e1:=MQ (W:=W) (q:=pt e (i+1)) (h:=hd e i) so (λw hw=>P.h4 s ((m w).mp hw).1 (P.n0 ((m w).mp hw).1)) (λk=>by
  constructor
  ·intro z;obtain⟨q,hq⟩:=Option.isSome_iff_exists.mp z;obtain⟨w,hw,w1,w2⟩:=P.sur pm hq;exact⟨w,(m w).mpr ⟨hw,(P.same hw ho).mpr (by rw[w1,q0])⟩,w2⟩
  ·rintro⟨w,hw,rfl⟩;obtain⟨hw,hp⟩:=(m w).mp hw;have:=P.go hw (P.n0 hw);rw[(P.same hw ho).mp hp,q0]at this;rw[this];rfl) (s.h4 g1) ml h0
 rw[<-eb]at e1;have:=JP s g1;rw[e1,<-pb]at this;exact this
end
end TU
namespace TU
open MM
structure Tr(W:Nat->Nat->Option Nat)(pl:List Nat)(n:Nat)(pt hd:Nat->Nat):Prop where
 n0:0<n
 go:∀{i},i<n->W (pt i) (hd i)=some (pt (i+1))
 mid:∀{i},0<i->i<n->pt i∉pl
 on:∀{i},i+1<n->hd (i+1)≠(hd i+2)%4
 fst:pt 0∈pl
 lst:pt n∈pl
def Two(W:Nat->Nat->Option Nat)(pl:List Nat):Prop:=∀{p h q},p∉pl->W p h=some q->∃h1 h2,h1≠h2/\∀k,(W p k).isSome=true↔k=h1\/k=h2
section
variable{a b:Nat}{W:Nat->Nat->Option Nat}{pl:List Nat}{n n':Nat}{pt hd pt' hd':Nat->Nat}
theorem Tr.rev(t:Tr W pl n pt hd)(s:Stp a b W):Tr W pl n (λi=>pt (n-i)) (λi=>(hd (n-1-i)+2)%4) where
 n0:=t.n0
 go:=λ{i} hi=>by
  have:=s.sym (t.go (show n-1-i<n by omega));rw[show n-1-i+1=n-i by lia]at this;rw[show n-(i+1)=n-1-i by lia];exact this
 mid:=λ{i} h0 hi=>t.mid (by lia) (by omega)
 on:=λ{i} hi h=>by
  have:=t.on (i:=n-1-(i+1)) (by omega);rw[show n-1-(i+1)+1=n-1-i by lia]at this;have h4:=s.h4 (t.go (show n-1-i<n by omega));have h4':=s.h4 (t.go (show n-1-(i+1)<n by omega));omega
 fst:=by show pt (n-0)∈pl;rw[Nat.sub_zero];exact t.lst
 lst:=by show pt (n-n)∈pl;rw[Nat.sub_self];exact t.fst
theorem Tr.same(t:Tr W pl n pt hd)(t':Tr W pl n' pt' hd')(s:Stp a b W)(tw:Two W pl)(h0:pt 0=pt' 0)(h1:hd 0=hd' 0):∀i,i<=n->i<=n'/\pt i=pt' i/\(i<n->i<n'/\hd i=hd' i)
 |0,_=>⟨Nat.zero_le _,h0,λ_=>⟨t'.n0,h1⟩⟩
 |i+1,hi=>by
  obtain⟨_,e1,e2⟩:=t.same t' s tw h0 h1 i (by lia);obtain⟨l,e3⟩:=e2 (by lia);have g:=t.go (show i<n by lia);have g':=t'.go l;rw[e1,e3,g']at g;have e4:pt (i+1)=pt' (i+1):=(Option.some.inj g).symm;refine⟨l,e4,λhn=>?_⟩;have lt:i+1<n':=by
   rcases Xj (i+1) n' with z | z
   ·exact z
   ·exact absurd (by rw[e4,show i+1=n' by lia];exact t'.lst) (t.mid (by lia) hn)
  refine⟨lt,?_⟩;have g2:=t.go hn;have g2':=t'.go lt;have bk:=s.sym g';rw[e4]at g2;obtain⟨k1,k2,_,ex⟩:=tw (t'.mid (by lia) lt) g2';have m1:=(ex _).mp (by rw[g2];rfl);have m2:=(ex _).mp (by rw[g2'];rfl);have m3:=(ex _).mp (by rw[bk];rfl);have o1:=t.on hn;have o2:=t'.on lt;rw[e3]at o1
  lia
theorem Tr.det(t:Tr W pl n pt hd)(t':Tr W pl n' pt' hd')(s:Stp a b W)(tw:Two W pl)(h0:pt 0=pt' 0)(h1:hd 0=hd' 0):n=n'/\(∀i,i<=n->pt i=pt' i)/\∀i,i<n->hd i=hd' i:=by
 have A:=t.same t' s tw h0 h1;have B:=t'.same t s tw h0.symm h1.symm;have e:n=n':=Nat.le_antisymm (A n (Nat.le_refl _)).1 (B n' (Nat.le_refl _)).1;exact⟨e,λi hi=>(A i hi).2.1,λi hi=>((A i (by lia)).2.2 hi).2⟩
theorem Tr.self(t:Tr W pl n pt hd)(s:Stp a b W)(tw:Two W pl):¬(pt n=pt 0/\(hd (n-1)+2)%4=hd 0):=λ⟨h1,h2⟩=>by
 obtain⟨_,_,e⟩:=t.det (t.rev s) s tw (by show pt 0=pt (n-0);rw[Nat.sub_zero,h1]) (by show hd 0=(hd (n-1-0)+2)%4;rw[Nat.sub_zero,h2]);have n0:=t.n0;by_cases z:n%2=1
 ·have:=e (n / 2) (by lia);have h4:=s.h4 (t.go (show n / 2<n by lia));rw[show n-1-n / 2=n / 2 by lia]at this
  lia
 ·have:=e (n / 2) (by lia);rw[show n-1-n / 2=n / 2-1 by lia]at this;have on:=t.on (i:=n / 2-1) (by lia);rw[show n / 2-1+1=n / 2 by lia]at on;exact on this
def bk(n:Nat)(hd:Nat->Nat):Nat:=(hd (n-1)+2)%4
theorem Tr.meet(t:Tr W pl n pt hd)(t':Tr W pl n' pt' hd')(s:Stp a b W)(tw:Two W pl)(h:(pt n=pt' 0/\bk n hd=hd' 0)\/(pt n=pt' n'/\bk n hd=bk n' hd')):(pt 0=pt' 0/\hd 0=hd' 0)\/(pt 0=pt' n'/\hd 0=bk n' hd'):=by
 have n0:=t.n0;have n0':=t'.n0;have h4:=s.h4 (t.go n0);have h4':=s.h4 (t'.go n0');rcases h with⟨h1,h2⟩ | ⟨h1,h2⟩
 ·obtain⟨e,e1,e2⟩:=(t.rev s).det t' s tw (by show pt (n-0)=_;rw[Nat.sub_zero,h1]) (by show(hd (n-1-0)+2)%4=_;rw[Nat.sub_zero];exact h2);refine .inr ⟨?_,?_⟩
  ·have:=e1 n (Nat.le_refl _);rw[Nat.sub_self]at this;rw[this,e]
  ·have:=e2 (n-1) (by lia);rw[Nat.sub_self]at this;unfold bk;rw[<-e,<-this];lia
 ·obtain⟨e,e1,e2⟩:=(t.rev s).det (t'.rev s) s tw (by show pt (n-0)=pt' (n' - 0);rw[Nat.sub_zero,Nat.sub_zero,h1]) (by show(hd (n-1-0)+2)%4=(hd' (n' - 1-0)+2)%4;rw[Nat.sub_zero,Nat.sub_zero];exact h2);refine .inl ⟨?_,?_⟩
  ·have:=e1 n (Nat.le_refl _);rw[Nat.sub_self,e,Nat.sub_self]at this;exact this
  ·have:=e2 (n-1) (by lia);rw[Nat.sub_self,e,Nat.sub_self]at this
   lia
end
end TU
namespace TU
open MM
theorem HZ(f:Nat->Nat)(g:Nat->Int)(d m:Nat):∀k,sm f g d (m+k)=sm f g d m+sm f g (iter f m d) k
 |0=>by show sm f g d m=sm f g d m+0;lia
 |k+1=>by
  show sm f g d (m+k)+g (iter f (m+k) d)=sm f g d m+(sm f g (iter f m d) k+g (iter f k (iter f m d)))
  rw[HZ f g d m k,b7];lia
def sC(hd:Nat->Nat->Nat)(e:Nat):Nat->Int
 |0=>0
 |i+1=>sC hd e i+((((hd e (i+1)+6-hd e i)%4:Nat):Int)-2)
def cor(ts:aS)(os:bI)(hd:Nat->Nat->Nat)(e:Nat):Int:=((hd (oth e) 0:Int)-(hd (behind ts os e) 0:Int)-1)%4+1
section
variable{a b:Nat}{W:Nat->Nat->Option Nat}{pl:List Nat}{ts:aS}{os:bI}{n:Nat->Nat}{pt hd:Nat->Nat->Nat}{c l:Nat->Int}
def iG(pt hd:Nat->Nat->Nat)(e i:Nat):Nat:=4*pt e i+hd e i
theorem Pct.along(P:Pct W pl ts os n pt hd)(s:Stp a b W){e:Nat}(he:e<2*ts.length):∀{i},i<n e->iter (nx a (DW a b W)) i (iG pt hd e 0)=iG pt hd e i/\sm (nx a (DW a b W)) (tau a (DW a b W)) (iG pt hd e 0) i=sC hd e i
 |0,_=>⟨rfl,rfl⟩
 |i+1,hi=>by
  obtain⟨h1,h2⟩:=P.along s he (i:=i) (by lia);obtain⟨s1,s2⟩:=P.step s he hi;refine⟨?_,?_⟩
  ·show nx a (DW a b W) (iter (nx a (DW a b W)) i (iG pt hd e 0))=_;rw[h1];exact s1
  ·show sm _ _ _ i+tau a (DW a b W) (iter (nx a (DW a b W)) i (iG pt hd e 0))=sC hd e i+_;rw[h1,h2];unfold iG;rw[s2]
theorem Pct.line(P:Pct W pl ts os n pt hd)(s:Stp a b W)(hc:∀e,e<2*ts.length->c e=cor ts os hd e)(hl:∀e,e<2*ts.length->l e-l (oth e)=sC hd e (n e-1)){e:Nat}(he:e<2*ts.length) :
  iter (nx a (DW a b W)) (n e) (iG pt hd e 0)=iG pt hd (behind ts os e) 0/\sm (nx a (DW a b W)) (tau a (DW a b W)) (iG pt hd e 0) (n e)=trm c l e:=by
 have n0:=P.n0 he;obtain⟨h1,h2⟩:=P.along s he (i:=n e-1) (by omega);obtain⟨s1,s2⟩:=P.last s he (i:=n e-1) (by lia);obtain⟨m,em⟩:∃m,n e=m+1:=⟨n e-1,by lia⟩
 rw[em,Nat.add_sub_cancel]at h1 h2 s1 s2;rw[em];refine⟨?_,?_⟩
 ·show nx a (DW a b W) (iter (nx a (DW a b W)) m (iG pt hd e 0))=_;rw[h1];exact s1
 ·show sm _ _ _ m+tau a (DW a b W) (iter (nx a (DW a b W)) m (iG pt hd e 0))=_;rw[h1,h2];have hl':=hl e he;rw[em,Nat.add_sub_cancel]at hl';unfold iG;rw[s2];unfold trm;rw[hc e he];unfold cor;have h4:=P.h4 s he (i:=m) (by lia);have b4:=P.h4 s ((P.good s).maps.lt e he) (P.n0 ((P.good s).maps.lt e he));have e0:hd (oth e) 0=(hd e m+2)%4:=by rw[P.rh he n0,em,show m+1-1-0=m by lia]
  rw[e0]
  lia
def mQ(ts:aS)(os:bI)(n:Nat->Nat)(e:Nat):Nat->Nat
 |0=>0
 |j+1=>mQ ts os n e j+n (iter (behind ts os) j e)
theorem Pct.lines(P:Pct W pl ts os n pt hd)(s:Stp a b W)(hc:∀e,e<2*ts.length->c e=cor ts os hd e)(hl:∀e,e<2*ts.length->l e-l (oth e)=sC hd e (n e-1)){e:Nat}(he:e<2*ts.length) :
  ∀j,iter (nx a (DW a b W)) (mQ ts os n e j) (iG pt hd e 0)=iG pt hd (iter (behind ts os) j e) 0/\sm (nx a (DW a b W)) (tau a (DW a b W)) (iG pt hd e 0) (mQ ts os n e j)=sm (behind ts os) (trm c l) e j
 |0=>⟨rfl,rfl⟩
 |j+1=>by
  obtain⟨h1,h2⟩:=P.lines s hc hl he j;have hj:=dH (P.good s).maps he j;obtain⟨s1,s2⟩:=P.line s hc hl hj;refine⟨?_,?_⟩
  ·show iter _ (mQ ts os n e j+n (iter (behind ts os) j e)) _=_;rw[b7,h1,s1];rfl
  ·show sm _ _ _ (mQ ts os n e j+n (iter (behind ts os) j e))=sm _ _ _ j+_;rw[HZ,h1,h2,s2]
theorem Pct.seg(P:Pct W pl ts os n pt hd)(s:Stp a b W){e:Nat}(he:e<2*ts.length):∀j k,k<mQ ts os n e j->∃j' i,j' < j/\i<n (iter (behind ts os) j' e)/\k=mQ ts os n e j'+i
 |0,k,h=>absurd h (Nat.not_lt_zero _)
 |j+1,k,h=>by
  rcases Xj k (mQ ts os n e j) with z | z
  ·obtain⟨j',i,h1,h2,h3⟩:=P.seg s he j k z;exact⟨j',i,by lia,h2,h3⟩
  ·have h':k<mQ ts os n e j+n (iter (behind ts os) j e):=h;exact⟨j,k-mQ ts os n e j,by lia,by lia,by lia⟩
theorem Pct.come(P:Pct W pl ts os n pt hd)(s:Stp a b W)(hc:∀e,e<2*ts.length->c e=cor ts os hd e)(hl:∀e,e<2*ts.length->l e-l (oth e)=sC hd e (n e-1)){e:Nat}(he:e<2*ts.length){j i:Nat}(hi:i<n (iter (behind ts os) j e)):iter (nx a (DW a b W)) (mQ ts os n e j+i) (iG pt hd e 0)=iG pt hd (iter (behind ts os) j e) i:=by
 rw[b7,(P.lines s hc hl he j).1];exact(P.along s (dH (P.good s).maps he j) hi).1
theorem Pct.hits(P:Pct W pl ts os n pt hd)(s:Stp a b W){e y i:Nat}(he:e<2*ts.length)(hy:y<2*ts.length)(hi:i<n e)(h:iG pt hd e i=iG pt hd y 0):i=0/\e=y:=by
 have h1:=P.h4 s he hi;have h2:=P.h4 s hy (P.n0 hy);unfold iG at h;have ep:pt e i=pt y 0:=by lia
 have eh:hd e i=hd y 0:=by lia
 by_cases z:i=0
 ·subst z;exact⟨rfl,P.inj he hy ep eh⟩
 ·exact absurd (by rw[ep];exact Zg (P.at_ hy)) (P.mid he (by lia) hi)
theorem zE(P:Pct W pl ts os n pt hd)(s:Stp a b W){e:Nat}(he:e<2*ts.length):∀j,j<=mQ ts os n e j
 |0=>Nat.le_refl _
 |j+1=>by
  have:=zE P s he j;have:=P.n0 (dH (P.good s).maps he j);show j+1<=mQ ts os n e j+n (iter (behind ts os) j e)
  lia
theorem NS(f:Nat->Nat)(g:Nat->Int)(d:Nat):∀k,sm f g d k=su (path f d k) g
 |0=>rfl
 |k+1=>by
  rw[mB,kX,bK,iL];show sm f g d k+g (iter f k d)=_;rw[NS f g d k];lia
theorem Pct.once(P:Pct W pl ts os n pt hd)(s:Stp a b W)(hc:∀e,e<2*ts.length->c e=cor ts os hd e)(hl:∀e,e<2*ts.length->l e-l (oth e)=sC hd e (n e-1)){e:Nat}(he:e<2*ts.length) :
  mS (nx a (DW a b W)) (tau a (DW a b W)) (iG pt hd e 0) (su (aT (behind ts os) e) (trm c l)):=by
 have m:=(P.good s).maps;obtain⟨⟨r0,r1,r2⟩,_⟩:=eZ m he;obtain⟨l1,l2⟩:=P.lines s hc hl he (per (behind ts os) e);refine⟨mQ ts os n e (per (behind ts os) e),⟨?_,by rw[l1,r1],λk k0 hk z=>?_⟩,by rw[l2,NS];rfl⟩
 ·have:=zE P s he (per (behind ts os) e);lia
 ·obtain⟨j,i,hj,hi,rfl⟩:=P.seg s he _ k hk;rw[P.come s hc hl he hi]at z;obtain⟨rfl,ee⟩:=P.hits s (dH m he j) he hi z;by_cases j0:j=0
  ·subst j0;exact absurd k0 (Nat.lt_irrefl _)
  ·exact r2 j (by lia) hj ee
theorem JS{q h:Nat}(hh:h<4):nh W q h<4:=by
 unfold nh;split
 ·omega
 ·split
  ·lia
  ·split<;>lia
theorem t9(s:Stp a b W){d:Nat}(h:(DW a b W).testBit d=true):∃p k q,d=4*p+k/\W p k=some q/\nx a (DW a b W) d=4*q+nh W q k/\(DW a b W).testBit (nx a (DW a b W) d)=true:=by
 obtain⟨q,hq⟩:=Option.isSome_iff_exists.mp ((nV s d).mp h);have ed:d=4*(d / 4)+d%4:=by lia
 have hn:=(JP s hq).1;rw[<-ed]at hn;refine⟨d / 4,d%4,q,ed,hq,hn,?_⟩;have bk:=s.sym hq;have h4:=s.h4 hq;have lt:nh W q (d%4)<4:=JS h4;have ex:(W q (nh W q (d%4))).isSome=true:=by
  unfold nh;split
  ·assumption
  ·split
   ·assumption
   ·split
    ·assumption
    ·rw[bk];rfl
 rw[hn];refine(nV s _).mpr ?_;rw[show(4*q+nh W q (d%4)) / 4=q by lia,show(4*q+nh W q (d%4))%4=nh W q (d%4) by lia];exact ex
theorem pN(s:Stp a b W){d:Nat}(h:(DW a b W).testBit d=true):∀i,(DW a b W).testBit (iter (nx a (DW a b W)) i d)=true
 |0=>h
 |i+1=>by
  obtain⟨_,_,_,_,_,_,z⟩:=t9 s (pN s h i);exact z
theorem Pct.reach(P:Pct W pl ts os n pt hd)(s:Stp a b W)(cn:Cnn W){d:Nat}{x:Int}(hd':(DW a b W).testBit d=true)(on:mS (nx a (DW a b W)) (tau a (DW a b W)) d x):∃i e,e<2*ts.length/\iter (nx a (DW a b W)) i d=iG pt hd e 0:=by
 obtain⟨N,⟨N0,N1,_⟩,_⟩:=on;refine ZT λno=>?_;have out:∀i p k q,iter (nx a (DW a b W)) i d=4*p+k->W p k=some q->p∉pl:=λi p k q e hw hp=>by
  obtain⟨y,hy,y1,y2⟩:=P.sur hp hw;exact no ⟨i,y,hy,by rw[e];unfold iG;rw[y1,y2]⟩
 have key:=cn (λp=>∃i k q,iter (nx a (DW a b W)) i d=4*p+k/\W p k=some q) (λp h q hp hw=>?_)
 ·obtain⟨p,k,q,e1,e2,_⟩:=t9 s hd';have hp0:pl[place ts 0]?=some (pt 0 0):=P.at_ (by have:=P.one;lia);have m0:=Zg hp0;obtain⟨h0,q0,w0⟩:=P.pne m0;obtain⟨i,k',q',z1,z2⟩:=key p k q (pt 0 0) h0 q0 e2 w0 ⟨0,k,q,e1,e2⟩;exact out i _ k' q' z1 z2 m0
 ·obtain⟨i,k,r,e1,e2⟩:=hp;have hb:=pN s hd' i;have ei:iter (nx a (DW a b W)) (i+N) d=iter (nx a (DW a b W)) i d:=by rw[Nat.add_comm,b7,N1]
  obtain⟨M,eM⟩:∃M,i+N=M+1:=⟨i+N-1,by lia⟩
  obtain⟨p',k',r',f1,f2,f3,_⟩:=t9 s (pN s hd' M);have f4:iter (nx a (DW a b W)) i d=4*r'+nh W r' k':=by rw[<-ei,eM];exact f3
  have k4:=s.h4 e2;have nl:nh W r' k' < 4:=JS (s.h4 f2);have er:r'=p:=by lia
  have ek:nh W r' k'=k:=by lia
  subst er;have hpn:=out i r' k r e1 e2;obtain⟨h1,h2,hne,ex⟩:=P.two hpn e2;have bk:=s.sym f2;have mb:=(ex _).mp (by rw[bk];rfl);have mk:=(ex _).mp (by rw[e2];rfl);have mh:=(ex _).mp (by rw[hw];rfl);have nb:k≠(k'+2)%4:=by
   intro z;have k4':=s.h4 f2;obtain⟨o,ho,hob⟩:∃o,o≠(k'+2)%4/\(W r' o).isSome=true:=by
    rcases mb with y | y
    ·exact⟨h2,by rw[y];exact Ne.symm hne,(ex _).mpr (.inr rfl)⟩
    ·exact⟨h1,by rw[y];exact hne,(ex _).mpr (.inl rfl)⟩
   obtain⟨qo,hqo⟩:=Option.isSome_iff_exists.mp hob;have:=JR (W:=W) (q:=r') k4' (s.h4 hqo) ho λj=>by
    have mo:=(ex o).mp hob;rw[ex j];constructor
    ·intro y;lia
    ·intro y;lia
   lia
  by_cases c:h=k
  ·subst c;have hr:r=q:=Option.some.inj (e2.symm.trans hw);subst hr;obtain⟨p2,k2,q2,g1,g2,g3,_⟩:=t9 s hb;have:p2=r'/\k2=h:=by rw[e1]at g1;have:=s.h4 g2;lia
   rw[this.1,this.2,e2]at g2;have hr2:r=q2:=Option.some.inj g2;subst hr2;obtain⟨p3,k3,q3,g4,g5,_⟩:=t9 s (pN s hd' (i+1));have e5:iter (nx a (DW a b W)) (i+1) d=4*r+nh W r k2:=g3;have:p3=r:=by
    have:=s.h4 g5;have:=s.h4 e2;have:nh W r k2<4:=JS (by lia)
    lia
   subst this;exact⟨i+1,k3,q3,g4,g5⟩
  ·have:h=(k'+2)%4:=by lia
   rw[this,bk]at hw;cases hw;exact⟨M,k',r',f1,f2⟩
end
end TU
namespace TU
open MM
section
variable{a b:Nat}{W:Nat->Nat->Option Nat}{pl:List Nat}{ts:aS}{os:bI}{n:Nat->Nat}{pt hd:Nat->Nat->Nat}{c l:Nat->Int}
theorem D8(g:Good ts os){k:Nat}{d:List Nat}(h:(lls ts os)[k]?=some d){x:Nat}(hx:x∈d)(f:Nat->Int):su d f=su (aT (behind ts os) x) f:=by
 have L:=jC g h;exact gM (sN L.1 (eG g.maps (L.2.1 x hx)) (BB g h hx))
theorem Pct.lands(P:Pct W pl ts os n pt hd)(s:Stp a b W)(hall:kQ a (eps a b) 0=true)(h10:a*b<=10)(cn:Cnn W)(hc:∀e,e<2*ts.length->c e=cor ts os hd e)(hl:∀e,e<2*ts.length->l e-l (oth e)=sC hd e (n e-1)) :
  ∃o,o<(lls ts os).length/\∀(k:Nat) (d:List Nat),(lls ts os)[k]?=some d->su d (trm c l)=if k=o then -4 else 4:=by
 have gd:=P.good s;have m:=gd.maps;have one:=P.one;have w0:=P.go (show 0<2*ts.length by lia) (P.n0 (show 0<2*ts.length by lia));obtain⟨s0,sb,on,rest⟩:=LJ s hall h10 cn ⟨_,_,_,w0⟩;obtain⟨i0,e0,he0,r0⟩:=P.reach s cn sb on;have on0:=on.iter i0;rw[r0]at on0;obtain⟨o,d0,ho,hm0,_⟩:=BA m he0;refine⟨o,(Zj.mp ho).1,λk d hk=>?_⟩;obtain⟨y,hy⟩:=List.exists_mem_of_ne_nil _ (jC gd hk).2.2.2;have hyN:=(jC gd hk).2.1 y hy;have ony:=P.once s hc hl hyN;rw[<-D8 gd hk hy]at ony;by_cases z:k=o
 ·subst z;rw[if_pos rfl];have e:d=d0:=Option.some.inj (hk.symm.trans ho);subst e;have:=P.once s hc hl he0;rw[<-D8 gd hk hm0]at this;exact this.uniq on0
 ·rw[if_neg z];have yb:(DW a b W).testBit (iG pt hd y 0)=true:=by
   have g:=P.go hyN (P.n0 hyN);have:=s.h4 g;refine(nV s _).mpr ?_;unfold iG;rw[show(4*pt y 0+hd y 0) / 4=pt y 0 by lia,show(4*pt y 0+hd y 0)%4=hd y 0 by lia,g];rfl
  rcases rest _ yb with q | ⟨i,q⟩
  ·exact ony.uniq q
  ·exfalso;obtain⟨N,⟨N0,N1,_⟩,_⟩:=on;have e1:iter (nx a (DW a b W)) (i+N*i0) s0=iG pt hd y 0:=by rw[Nat.add_comm,b7,oZ N1];exact q
   have ge:i0<=i+N*i0:=by
    have:=Nat.mul_le_mul_right i0 N0;rw[Nat.one_mul]at this;lia
   rw[show i+N*i0=i0+(i+N*i0-i0) by omega,b7,r0]at e1;obtain⟨j,i',hj,hi',ek⟩:=P.seg s he0 (i+N*i0-i0+1) (i+N*i0-i0) (by have:=zE P s he0 (i+N*i0-i0+1);lia);rw[ek,P.come s hc hl he0 hi']at e1;obtain⟨_,ey⟩:=P.hits s (dH m he0 j) hyN hi' e1;have my:y∈d0:=(BB gd ho hm0 y).mpr ((dR m he0).mpr ⟨j,ey⟩);exact z (JX gd hk hy ho my)
theorem OC(g:Good ts os)(h4:∀p,p<os.length->su (row os p) (λe=>c (oth e))=4):((lls ts os).map λd=>su d (trm c l)).sum=4*(ts.length:Int)-4*(os.length:Int):=by
 rw[<-yP,gM (DI g.maps)];have e1:su (List.range (2*ts.length)) (trm c l)=su (List.range (2*ts.length)) (λ_=>2)-su (List.range (2*ts.length)) c+su (List.range (2*ts.length)) l-su (List.range (2*ts.length)) (λe=>l (oth e)):=by
  have:trm c l=λe=>((2-c e)+l e)-l (oth e):=rfl;rw[this,pX,sZ,pX]
 have eo:∀f:Nat->Int,su (List.range (2*ts.length)) (λe=>f (oth e))=su (List.range (2*ts.length)) f:=λf=>by
  rw[<-CO,gM (IZ ts.length)]
 have e2:su (List.range (2*ts.length)) c=4*(os.length:Int):=by
  rw[<-eo c,<-gM (F8 g),yP,sY]
  ·rw[Zq]
  ·intro x hx;obtain⟨d,hd,rfl⟩:=Zh.mp hx;obtain⟨i,hi,rfl⟩:=Yg.mp hd;have:=h4 i hi;unfold row at this;rw[Zv,Zz hi]at this;exact this
 rw[e1,eo l,e2,AE,Yj]
 lia
theorem M4{o:Nat}(g:Good ts os)(h4:∀p,p<os.length->su (row os p) (λe=>c (oth e))=4)(ho:o<(lls ts os).length)(h:∀(k:Nat) (d:List Nat),(lls ts os)[k]?=some d->su d (trm c l)=if k=o then -4 else 4):Flat ts os:=by
 have t:=OC (l:=l) g h4;have s:=D7 ((lls ts os).map λd=>su d (trm c l)) o (by rw[Zq];exact ho) λj hj hne=>by
  rw[Zq]at hj;rw[Zv,Zk,Zz hj];have:=h j _ (Zz hj);rw[if_neg hne]at this;exact this
 rw[Zq,Zv,Zk,Zz ho]at s;have s2:=h o _ (Zz ho);rw[if_pos rfl]at s2;have s':((lls ts os).map λd=>su d (trm c l)).sum=4*((lls ts os).length:Int)-4+su (lls ts os)[o] (trm c l):=s;unfold Flat;show os.length+(lls ts os).length=ts.length+2
 lia
theorem IL{l:List Nat}(nd:l.Nodup)(h:0<l.length):aV l l[0]=l[l.length-1]:=by
 unfold aV;rw[nd.idxOf_getElem 0 h,Nat.zero_add,Nat.mod_eq_of_lt (by omega),Zv,Zz (by omega)];rfl
theorem II{l:List Nat}(nd:l.Nodup){i:Nat}(h:i<l.length)(h0:0<i):aV l l[i]=l[i-1]:=by
 unfold aV;rw[nd.idxOf_getElem i h,show i+l.length-1=(i-1)+l.length by lia,Nat.add_mod_right,Nat.mod_eq_of_lt (by omega),Zv,Zz (by omega)];rfl
theorem TH{f:Nat->Nat}{l:List Nat}(ne:l≠[])(s:l.Pairwise λx y=>f x<f y)(f4:∀w∈l,f w<4):su l (λe=>((f e:Int)-(f (aV l e):Int)-1)%4+1)=4:=by
 have len:=List.length_pos_iff.mpr ne;have up:=List.pairwise_iff_getElem.mp s;have nd:l.Nodup:=s.imp λ{x y} z e=>by subst e;exact Nat.lt_irrefl _ z
 have part:∀j,j<=l.length->su (l.take j) (λe=>((f e:Int)-(f (aV l e):Int)-1)%4+1)=if h:0<j/\j<=l.length then (f (l[j-1]'(by omega)):Int)-(f (l[l.length-1]'(by omega)):Int)+4 else 0:=by
  intro j;induction j with
  |zero=>intro _;rw[dif_neg (by lia)];rfl
  |succ j ih =>
   intro hj;rw[dif_pos ⟨by lia,hj⟩,List.take_succ_eq_append_getElem (by lia),kX,ih (by lia),bK,iL];have b1:=f4 _ (Zp (show j<l.length by lia));have b2:=f4 _ (Zp (show l.length-1<l.length by lia));by_cases z:j=0
   ·subst z;rw[dif_neg (by lia),IL nd len];have le:f (l[0]'(by lia))<=f (l[l.length-1]'(by lia)):=by
     by_cases q:l.length-1=0
     ·simp only[q];exact Nat.le_refl _
     ·exact Nat.le_of_lt (up 0 (l.length-1) (by lia) (by lia) (by lia))
    simp only[Nat.zero_add,Nat.sub_self];omega
   ·rw[dif_pos ⟨by lia,by lia⟩,II nd (by lia) (by lia)];have lt:=up (j-1) j (by lia) (by lia) (by lia);simp only[Nat.add_sub_cancel]
    lia
 have:=part l.length (Nat.le_refl _);rw[Yw,dif_pos ⟨len,Nat.le_refl _⟩]at this;rw[this];lia
theorem Pct.plc(P:Pct W pl ts os n pt hd)(s:Stp a b W)(hc:∀e,e<2*ts.length->c e=cor ts os hd e):MM.Plc ts os c:=by
 have gd:=P.good s;refine⟨λe he=>?_,λe he=>?_,λp hp=>?_⟩
 ·rw[hc e he];unfold cor;omega
 ·rw[hc e he];unfold cor;omega
 ·have hp':p<pl.length:=by rw[<-P.ol];exact hp
  obtain⟨l,⟨k,r⟩,so,m⟩:=P.row hp';have rp:(MM.row os p).Perm l:=(show Rot (MM.row os p) l from⟨k,r⟩).perm;have nd:l.Nodup:=so.imp λ{x y} z e=>by subst e;exact Nat.lt_irrefl _ z
  rw[gM rp];have ne:l≠[]:=λz=>gd.g.full p hp (by rw[z]at rp;exact rp.eq_nil);rw[<-TH ne so λw hw=>P.h4 s ((m w).mp hw).1 (P.n0 ((m w).mp hw).1)];refine eT λe he=>?_;obtain⟨heN,hpl⟩:=(m e).mp he;rw[hc _ (b9 heN)];unfold cor behind;rw[fO,hpl,r,tU nd he]
theorem cyc{l:List Nat}(nd:l.Nodup){S:Nat->Prop}(h:∀x∈l,S x->S (aV l x)){x y:Nat}(hx:x∈l)(hy:y∈l)(sx:S x):S y:=by
 have down:∀(k:Nat) (hk:k<l.length),S l[k]->∀j (hj:j<=k),S (l[j]'(by lia)):=by
  intro k;induction k with
  |zero =>
   intro hk sk j hj;have:j=0:=by lia
   subst this;exact sk
  |succ k ih =>
   intro hk sk j hj;by_cases z:j=k+1
   ·subst z;exact sk
   ·have:=h _ (Zp hk) sk;rw[II nd hk (by lia)]at this;exact ih (by lia) this j (by lia)
 obtain⟨i,hi,rfl⟩:=Yg.mp hx;obtain⟨j,hj,rfl⟩:=Yg.mp hy;have s0:=down i hi sx 0 (Nat.zero_le _);have s1:=h _ (Zp (show 0<l.length by omega)) s0;rw[IL nd (by omega)]at s1;exact down _ (by omega) s1 j (by omega)
theorem Pct.conn(P:Pct W pl ts os n pt hd)(s:Stp a b W)(cn:Cnn W):NK ts os:=by
 intro S hb ho x y hx hy sx;have gd:=P.good s;have round:∀{e e'},e<2*ts.length->e' < 2*ts.length->pt e 0=pt e' 0->S e->S e':=λ{e e'} he he' z se=>by
  have hp:=(P.same he he').mpr z;have m1:=(gd.g.has e he).2;have m2:=(gd.g.has e' he').2;rw[<-hp]at m2;refine cyc (gd.g.nd _) (λw hw sw=>?_) m1 m2 se;obtain⟨w1,w2⟩:=gd.g.ends _ _ hw;have:=hb _ (b9 w1) (ho w w1 sw);unfold behind at this;rw[fO,w2]at this;exact this
 have key:=cn (λp=>∃e i,e<2*ts.length/\S e/\i<=n e/\pt e i=p) (λp h q hp hw=>?_) (pt x 0) _ _ (pt y 0) _ _ (P.go hx (P.n0 hx)) (P.go hy (P.n0 hy)) ⟨x,0,hx,sx,Nat.zero_le _,rfl⟩
 ·have my:pt y 0∈pl:=Zg (P.at_ hy);obtain⟨e,i,he,se,hi,ep⟩:=key;by_cases z:i=0
  ·subst z;exact round he hy ep se
  ·have en:i=n e:=by
    rcases Xj i (n e) with q | q
    ·exact absurd (by rw[ep];exact my) (P.mid he (by lia) q)
    ·lia
   refine round (b9 he) hy ?_ (ho e he se);rw[P.rp he (Nat.zero_le _),Nat.sub_zero,<-en,ep]
 ·obtain⟨e,i,he,se,hi,rfl⟩:=hp;by_cases c0:pt e i∈pl
  ·obtain⟨e1,h1,s1,p1⟩:∃e1,e1<2*ts.length/\S e1/\pt e1 0=pt e i:=by
    by_cases z:i=0
    ·subst z;exact⟨e,he,se,rfl⟩
    ·have en:i=n e:=by
      rcases Xj i (n e) with q | q
      ·exact absurd c0 (P.mid he (by lia) q)
      ·lia
     exact⟨oth e,b9 he,ho e he se,by rw[P.rp he (Nat.zero_le _),Nat.sub_zero,<-en]⟩
   obtain⟨e2,h2,p2,d2⟩:=P.sur c0 hw;have s2:=round h1 h2 (p1.trans p2.symm) s1;have g2:=P.go h2 (P.n0 h2);rw[p2,d2,hw]at g2;exact⟨e2,1,h2,s2,P.n0 h2,(Option.some.inj g2).symm⟩
  ·have i0:0<i:=Nat.pos_of_ne_zero λz=>by subst z;exact c0 (Zg (P.at_ he))
   have iN:i<n e:=by
    rcases Xj i (n e) with q | q
    ·exact q
    ·exfalso;have:i=n e:=by lia
     have:=Zg (P.at_ (b9 he));rw[P.rp he (Nat.zero_le _),Nat.sub_zero,<-‹i=n e›]at this;exact c0 this
   have g1:=P.go he iN;obtain⟨i',rfl⟩:∃i',i=i'+1:=⟨i-1,by lia⟩
   have g0:=P.go he (show i' < n e by lia);have bk:=s.sym g0;obtain⟨k1,k2,kne,ex⟩:=P.two c0 hw;have a1:=(ex _).mp (by rw[g1];rfl);have a2:=(ex _).mp (by rw[bk];rfl);have a3:=(ex _).mp (by rw[hw];rfl);have on:=P.on he iN;by_cases z:h=hd e (i'+1)
   ·rw[z,g1]at hw;exact⟨e,i'+1+1,he,se,by lia,Option.some.inj hw⟩
   ·have:h=(hd e i'+2)%4:=by lia
    rw[this,bk]at hw;exact⟨e,i',he,se,by lia,Option.some.inj hw⟩
theorem Pct.shape(P:Pct W pl ts os n pt hd)(s:Stp a b W)(hall:kQ a (eps a b) 0=true)(h10:a*b<=10)(cn:Cnn W)(hc:∀e,e<2*ts.length->c e=cor ts os hd e)(hl:∀e,e<2*ts.length->l e-l (oth e)=sC hd e (n e-1))(hp:∀e,e<2*ts.length->0<=l e) :
  Good ts os/\FC ts os/\∃o,o<(lls ts os).length/\Shp ts os o c l:=by
 have gd:=P.good s;have pc:=P.plc s hc;obtain⟨o,ho,h⟩:=P.lands s hall h10 cn hc hl;exact⟨gd,⟨M4 gd pc.at_ ho h,P.conn s cn⟩,o,ho,⟨pc,hp,h⟩⟩
end
end TU
namespace K36
open PySem L2 PyProof.Rows
def Q6:Sp:=λvs H Q _=>∃h:Int,vs=[.int h]/\Q (.int ((h+2)%4)) H
theorem PN(T:Txt K mg t):cU P w K mg base CX0 1 t.vS t.u7 ["head"] Q6:=by
 refine T.uS.F.ok AK (λvs H Q E h=>?_) (λcdv A outer s H vs Q E hr h=>?_)
 ·obtain⟨e,rfl,_⟩:=h;rfl
 obtain⟨h,rfl,q⟩:=h;refine⟨_,(aK (bE (aJ bG (aJ bD (pv 0) aC) (EJ (v:=.int 4) rfl T.cZ ⟨_,rfl⟩)))),?_⟩;exact(a9 _ rfl _ _ rfl rfl (aY _ _ rfl rfl (by show(0:Int)<4;decide) q))
end K36
namespace L2
open PySem PySem.Spec PyProof.Rows
def ahead(h:Nat)(p q:Pt):Prop:=(h=0/\p.2=q.2/\p.1<q.1)\/(h=1/\p.1=q.1/\p.2<q.2)\/(h=2/\p.2=q.2/\q.1<p.1)\/(h=3/\p.1=q.1/\q.2<p.2)
theorem ahead.trans{h:Nat}{p q r:Pt}(a:ahead h p q)(b:ahead h q r):ahead h p r:=by
 rcases a with⟨rfl,a1,a2⟩ | ⟨rfl,a1,a2⟩ | ⟨rfl,a1,a2⟩ | ⟨rfl,a1,a2⟩
 ·rcases b with⟨_,b1,b2⟩ | ⟨z,_⟩ | ⟨z,_⟩ | ⟨z,_⟩<;>first | exact absurd z (by decide) | exact .inl ⟨rfl,a1.trans b1,Int.lt_trans a2 b2⟩
 ·rcases b with⟨z,_⟩ | ⟨_,b1,b2⟩ | ⟨z,_⟩ | ⟨z,_⟩<;>first | exact absurd z (by decide) | exact .inr (.inl ⟨rfl,a1.trans b1,Int.lt_trans a2 b2⟩)
 ·rcases b with⟨z,_⟩ | ⟨z,_⟩ | ⟨_,b1,b2⟩ | ⟨z,_⟩<;>first | exact absurd z (by decide) | exact .inr (.inr (.inl ⟨rfl,a1.trans b1,Int.lt_trans b2 a2⟩))
 ·rcases b with⟨z,_⟩ | ⟨z,_⟩ | ⟨z,_⟩ | ⟨_,b1,b2⟩<;>first | exact absurd z (by decide) | exact .inr (.inr (.inr ⟨rfl,a1.trans b1,Int.lt_trans b2 a2⟩))
theorem ahead.strt{h:Nat}{p q:Pt}(a:ahead h p q):NF p q:=by
 rcases a with⟨_,a1,a2⟩ | ⟨_,a1,a2⟩ | ⟨_,a1,a2⟩ | ⟨_,a1,a2⟩
 ·exact .inl ⟨a1,Int.ne_of_lt a2⟩
 ·exact .inr ⟨a1,Int.ne_of_lt a2⟩
 ·exact .inl ⟨a1,(Int.ne_of_lt a2).symm⟩
 ·exact .inr ⟨a1,(Int.ne_of_lt a2).symm⟩
theorem ahead.up{h:Nat}{p q:Pt}(a:ahead h p q):p.1=q.1↔h%2=1:=by
 rcases a with⟨rfl,a1,a2⟩ | ⟨rfl,a1,a2⟩ | ⟨rfl,a1,a2⟩ | ⟨rfl,a1,a2⟩
 ·exact⟨λz=>absurd z (Int.ne_of_lt a2),λz=>absurd z (by decide)⟩
 ·exact⟨λ_=>rfl,λ_=>a1⟩
 ·exact⟨λz=>absurd z.symm (Int.ne_of_lt a2),λz=>absurd z (by decide)⟩
 ·exact⟨λ_=>rfl,λ_=>a1⟩
theorem ahead.lt{h:Nat}{p q:Pt}(a:ahead h p q):h<4:=by
 rcases a with⟨rfl,_⟩ | ⟨rfl,_⟩ | ⟨rfl,_⟩ | ⟨rfl,_⟩<;>decide
structure Walk(ps:List Pt)(hs:Nat->Nat):Prop where
 len:2<=ps.length
 few:ps.length<=100
 go:∀k,k+1<ps.length->ahead (hs k) (pt ps k) (pt ps (k+1))
 on:∀k,k+2<ps.length->hs (k+1)≠(hs k+2)%4
def FM(ps:List Pt):Prop:=∀k,k+1<ps.length->NF (pt ps k) (pt ps (k+1))
def Bdd(ps:List Pt):Prop:=∀k,k<ps.length->-1000<(pt ps k).1/\(pt ps k).1<1000
theorem sM{ps:List Pt}{x:Pt}{k:Nat}(h:k<ps.length):pt (ps++[x]) k=pt ps k:=by
 unfold pt;simp only[List.getD,Zx h]
theorem y9{ps:List Pt}{x:Pt}:pt (ps++[x]) ps.length=x:=by unfold pt;simp[List.getD]
theorem FM.app{ps:List Pt}{x:Pt}(h:FM ps)(h0:0<ps.length)(hx:NF (pt ps (ps.length-1)) x):FM (ps++[x]):=by
 intro k hk;rw[Zm,ZQ]at hk;rcases Xj (k+1) ps.length with z | z
 ·rw[sM (by lia),sM z];exact h k z
 ·have e:k+1=ps.length:=by lia
  rw[sM (by lia),e,y9,show k=ps.length-1 by lia];exact hx
theorem Bdd.app{ps:List Pt}{x:Pt}(h:Bdd ps)(hx : -1000<x.1/\x.1<1000):Bdd (ps++[x]):=by
 intro k hk;rw[Zm,ZQ]at hk;rcases Xj k ps.length with z | z
 ·rw[sM z];exact h k z
 ·rw[show k=ps.length by lia,y9];exact hx
theorem KY(vs:List V):jE vs none (some 1)=vs.take 1:=by
 unfold jE HT.sIx;simp only[show ¬((1:Int)<0) by lia,if_false,List.drop_zero,Nat.sub_zero];rw[show min (Int.toNat 1) vs.length=min 1 vs.length by rfl];rw[<-List.take_eq_take_min]
theorem QG(vs:List V)(h:1<=vs.length):jE vs (some (-1)) none=vs.drop (vs.length-1):=by
 unfold jE HT.sIx;simp only[show((-1:Int)<0) by lia,if_true];rw[show((-1+(vs.length:Int)).toNat)=vs.length-1 by lia];exact List.take_of_length_le (by rw[Yf];lia)
def fW(hs:Nat->Nat):Nat->List Nat
 |0=>[hs 0]
 |i+1=>if hs (i+1)=hs i then fW hs i else fW hs i++[hs (i+1)]
theorem vJ(hs:Nat->Nat):∀i,0<(fW hs i).length
 |0=>Nat.one_pos
 |i+1=>by
  unfold fW;split
  ·exact vJ hs i
  ·simp
theorem mL(hs:Nat->Nat):∀i,(fW hs i).getD ((fW hs i).length-1) 0=hs i
 |0=>rfl
 |i+1=>by
  unfold fW;split
  ·rename_i c;rw[mL hs i,c]
  ·simp[List.getD]
theorem nT(hs:Nat->Nat):∀i,(fW hs i).getD 0 0=hs 0
 |0=>rfl
 |i+1=>by
  unfold fW;split
  ·exact nT hs i
  ·rw[Zv,Zx (vJ hs i),<-Zv];exact nT hs i
theorem ahead.hd{h:Nat}{p q:Pt}(a:ahead h p q):L2.hd p q=(h:Int):=by
 unfold L2.hd;rcases a with⟨rfl,a1,a2⟩ | ⟨rfl,a1,a2⟩ | ⟨rfl,a1,a2⟩ | ⟨rfl,a1,a2⟩
 ·rw[if_pos a1,if_neg (by lia)];rfl
 ·rw[if_neg (by lia),if_neg (by lia)];rfl
 ·rw[if_pos a1,if_pos a2];rfl
 ·rw[if_neg (by lia),if_pos a2];rfl
def Kh(hs:Nat->Nat)(i:Nat)(kp:List Pt):Prop:=kp.length=(fW hs i).length/\∀j,j+1<kp.length->L2.hd (pt kp j) (pt kp (j+1))=(((fW hs i).getD j 0:Nat):Int)
theorem Kh.start{hs:Nat->Nat}{p:Pt}:Kh hs 0 [p]:=⟨rfl,λj h=>by simp at h⟩
theorem Kh.stay{hs:Nat->Nat}{i:Nat}{kp:List Pt}(e:hs (i+1)=hs i)(k:Kh hs i kp):Kh hs (i+1) kp:=by
 unfold Kh fW;rw[if_pos e];exact k
theorem O2{kp:List Pt}{q:Pt}{j:Nat}(h:j<kp.length):pt (kp++[q]) j=pt kp j:=by unfold pt;rw[Zv,Zx h,<-Zv]
theorem S0{kp:List Pt}{q:Pt}:pt (kp++[q]) kp.length=q:=by unfold pt;simp[List.getD]
theorem Kh.heads{hs:Nat->Nat}{i:Nat}{kp:List Pt}{q:Pt}(k:Kh hs i kp)(h0:0<kp.length)(a:ahead (hs i) (pt kp (kp.length-1)) q){j:Nat}(hj:j+1<(kp++[q]).length):L2.hd (pt (kp++[q]) j) (pt (kp++[q]) (j+1))=(((fW hs i).getD j 0:Nat):Int):=by
 rw[Zm,ZQ]at hj;by_cases z:j+1<kp.length
 ·rw[O2 (by lia),O2 z];exact k.2 j z
 ·have e:j+1=kp.length:=by lia
  rw[e,O2 (by lia),S0,show j=kp.length-1 by lia,a.hd,k.1,mL]
theorem Kh.app{hs:Nat->Nat}{i:Nat}{kp:List Pt}{q:Pt}(e:hs (i+1)≠hs i)(k:Kh hs i kp)(h0:0<kp.length)(a:ahead (hs i) (pt kp (kp.length-1)) q):Kh hs (i+1) (kp++[q]):=by
 unfold Kh fW;rw[if_neg e];refine⟨by rw[Zm,Zm,k.1];rfl,λj hj=>?_⟩;rw[k.heads h0 a hj];rw[Zm,ZQ]at hj;congr 1;rw[Zv,Zv,Zx (by rw[<-k.1];lia)]
theorem Kh.end_{hs:Nat->Nat}{i:Nat}{kp:List Pt}{q:Pt}(k:Kh hs i kp)(h0:0<kp.length)(a:ahead (hs i) (pt kp (kp.length-1)) q):hds (kp++[q])=(fW hs i).map λn:Nat=>(n:Int):=by
 unfold hds;refine Yp λj=>?_;rw[Zk,Zk];by_cases z:j<kp.length
 ·rw[Yv (by simp;lia)];have hj:j<(fW hs i).length:=by rw[<-k.1];exact z
  rw[Zz hj];show some (L2.hd _ _)=some _;rw[k.heads h0 a (by simp;lia)];simp[List.getD,hj]
 ·rw[Zr (by simp;lia),Zr (by rw[<-k.1];lia)];rfl
end L2
namespace K36
open PySem L2 PyProof.Rows
def FT:Sp:=λvs H Q _=>∃(l:Addr) (ps:List Pt) (hs:Nat->Nat),vs=[.ref l]/\nU H l ps/\Walk ps hs/\Bdd ps/\∀r H' kp,H r=none->aW H H'->nU H' r kp->NH kp->Bdd kp->hds kp=((fW hs (ps.length-2)).map λn:Nat=>(n:Int))->Q (.ref r) H'
theorem C6(T:Txt K mg t):cU P w K mg base CX0 1 t.pP t.pI ["_law_line_here"] FT:=by
 refine T.pF.F.ok mT (λvs H Q E h=>?_) (λcdv A outer s H vs Q E hr h=>?_)
 ·obtain⟨l,ps,hs,rfl,_⟩:=h;rfl
 obtain⟨l,ps,hs,rfl,hl,hW,hBd,q⟩:=h;have nd:=mT.nd;have nd_l_j_l_line_here:(["_law_j","_law_line_here"]:List Str).Nodup:=by decide
 refine⟨_,(aF (aU 1 nd (lG oI (pv 0) kC (l8 aC)))
  (aF (cR PassesOwn.never rfl (l9 rfl T.bV (aA aC (aA (aJ cH (a7 a4 rfl T.eA PySem.boot_len (aA (pv 0) aE)) aC) aE))) (aQ (i:=2) nd rfl (Or.inl rfl)) (aF (dD (i:=3) nd rfl (Or.inl rfl)  (N':=["_law_j","_law_line_here"]) (js:=[none,some 0]) rfl (l9 rfl T.bV (aA (aJ cH (pv 2) aC) (aA (aJ bD (pv 2) aC) aE))) (λ_ _ _ _ _=>(aQ (i:=0) nd_l_j_l_line_here rfl (Or.inl rfl))) (λ_ _ _ _ _=>dE) (λ_ _ _ _ _=>(aL (gU (K:=K) rfl) (aL (cP (K:=K) rfl) (pv 1) (pv 0) (λ_ _=>rfl)) aC (λ_ _=>rfl))))
  (aK (fL (bF xE (kE lK (aL aR (pv 3) aC (λ_ _=>rfl)) (aL aR (pv 3) aC (λ_ _=>rfl)) (bO _)) (kE lK (aL aR (pv 3) aC (λ_ _=>rfl)) (aL aR (pv 3) aC (λ_ _=>rfl)) (bO _)) (bO _)) (aK (bM (fN mAp bA (pv 1) (aA (aL aR (pv 0) (pv 2) (λ_ _=>rfl)) aE)))) dA))))
  (aK (bE (aJ zD (pv 1) (lG oI (pv 0) (l8 (jT fY aC)) kC)))))),?_⟩
 obtain⟨vs,y1,y2,y3⟩:=id hl;have h2:=hW.len;have h100:=hW.few;have hv0:∃v,vs[0]?=some v/\vs.take 1=[v]:=by
  cases vs with
  |nil=>simp at y2;lia
  |cons v vs=>exact⟨v,rfl,rfl⟩
 obtain⟨v0,hv0,ht0⟩:=hv0;refine(bS _ rfl _ rfl l _ rfl ⟨ SqL.of y1,λka hka=>?_⟩);rw[KY,ht0];have g1:=aG hka (.lst [v0]);refine(a9 _ rfl l _ rfl (.inl (SqL.of (g1 _ _ y1))) (hU _ _ rfl rfl _ _ rfl ⟨ ⟨by lia,by lia,by lia,by lia⟩,?_⟩));rw[y2];refine cI (lo:=1) (n:=((ps.length:Int)-1-1).toNat) (λi σ H'=>aW H H'/\(∃(us:List V) (kp:List Pt),H' ka=some (.lst us)/\us.length=kp.length/\kp.length<=i+1/\0<kp.length/\(∀(j:Nat) v x,us[j]?=some v->kp[j]?=some x->qY H v x)/\(FM kp/\Bdd kp/\Kh hs i kp)/\ahead (hs i) (pt kp (kp.length-1)) (pt ps (i+1)))/\∃o1 o2,σ=[some (.ref l),some (.ref ka),o1,o2]) ⟨g1,(cO ([v0]) ([pt ps 0]) aB rfl (Nat.le_refl _) Nat.one_pos (λj v x a b=>?_) ⟨ ⟨λk hk=>?_,λk hk=>?_,Kh.start⟩,hW.go 0 (by lia)⟩),none,none,rfl⟩ ?_ ?_
 ·cases j with
  |zero=>simp at a b;subst a b;exact y3 0 _ _ hv0 (tT (by lia))
  |succ j=>simp at a
 ·simp at hk
 ·have:k=0:=by simpa using hk
  subst this;exact hBd 0 (by lia)
 ·rintro i σ H' hi ⟨g,⟨us,kp,e1,e2,e3,e4,e5,⟨e6,e6b,e6k⟩,e7⟩,o1,o2,rfl⟩;have hi2:i+2<ps.length:=by omega
  have r0:∀j:Nat,j<ps.length->∃a,vs[j]?=some (.ref a)/\H a=some (.tup [.int (pt ps j).1,.int (pt ps j).2]):=λj hj=>by
   obtain⟨_,a,z1,_,z3,z4⟩:=hl.pt (i:=j) hj;rw[y1]at z1;cases z1;exact⟨a,z3,z4⟩
  refine(a9 _ rfl _ _ rfl rfl (a9 _ rfl _ _ rfl rfl ⟨ _,_,rfl,⟨by lia,by lia,by lia,by lia⟩,λD hD=>?_⟩));refine c7 (1+(i:Int)+2-(1+(i:Int)-1)).toNat (λj=>.int (pt ps (i+j)).1) hD (by lia) (λj H2 hj _=>hj) (λH2 _=>Nat.le_refl _) ?_ ?_
  ·rintro j H2 x H3 k hj g6 ⟨rfl,rfl⟩ hk;obtain⟨a,z3,z4⟩:=r0 (i+j) (by lia);exact(eF ((Fills.refl _).set _ rfl) _ rfl _ rfl (aO l _ _ _ rfl rfl (SqL.of (g6 _ _ (g _ _ y1))) (nY (by show atI vs (1+(i:Int)-1+(j:Int))=_;rw[show 1+(i:Int)-1+(j:Int)=((i+j:Nat):Int) by lia];exact cE z3) a _ _ _ rfl rfl ⟨ SqT.of (g6 _ _ (g _ _ z4)),rfl,hk _ (aW.refl _)⟩)))
  ·intro H2 g2 e8;rw[show(1+(i:Int)+2-(1+(i:Int)-1)).toNat=3 by lia]at e8;have e9:H2 D=some (.lst [.int (pt ps i).1,.int (pt ps (i+1)).1,.int (pt ps (i+2)).1]):=e8;have o1':=(hW.go i (by lia)).up;have o2':=(hW.go (i+1) (by lia)).up;have on:=hW.on i hi2;have l1:=(hW.go i (by lia)).lt;have l2:=(hW.go (i+1) (by lia)).lt;have gH:=g.trans g2;refine(aI _ rfl D _ _ _ rfl (bU rfl (SqL.of e9) rfl _ rfl (aO D _ _ _ rfl rfl (SqL.of e9) ⟨ rfl,rfl,(aI _ rfl D _ _ _ rfl (bU rfl (SqL.of e9) rfl _ rfl (aO D _ _ _ rfl rfl (SqL.of e9) (bU rfl rfl rfl _ rfl ?_))))⟩)));have d1:decide (V.int (pt ps i).1=V.int (pt ps (i+1)).1)=decide (hs i%2=1):=by
    rw[decide_eq_decide];exact⟨λz=>o1'.mp (by injection z),λz=>by rw[o1'.mpr z]⟩
   have d2:decide (V.int (pt ps (i+1)).1=V.int (pt ps (i+2)).1)=decide (hs (i+1)%2=1):=by
    rw[decide_eq_decide];exact⟨λz=>o2'.mp (by injection z),λz=>by rw[o2'.mpr z]⟩
   rw[d1,d2];by_cases c:hs i%2=hs (i+1)%2
   ·have e10:hs (i+1)=hs i:=by omega
    refine cF ?_ ⟨gH,(cO us kp (g2 _ _ e1) e2 (by lia) e4 e5 ⟨ ⟨e6,e6b,e6k.stay e10⟩,?_⟩),_,_,rfl⟩
    ·rw[c];simp
    ·rw[e10];refine e7.trans ?_;have:=hW.go (i+1) (by lia);rw[e10]at this;exact this
   ·obtain⟨a,z3,z4⟩:=r0 (i+1) (by lia);refine dY ?_ (c9 _ rfl (.inl ⟨rfl,_,SqL.of (g2 _ _ e1)⟩) _ rfl _ rfl (aO l _ _ _ rfl rfl (SqL.of (gH _ _ y1)) (jO (by show atI vs (1+(i:Int))=_;rw[show 1+(i:Int)=((i+1:Nat):Int) by lia];exact cE z3) ka _ _ rfl rfl (g2 _ _ e1) ⟨ eV (by lia),gH.upd hka,(cO (us++[.ref a]) (kp++[pt ps (i+1)]) aB (by simp[e2]) (by simp;lia) (by simp) ?_ ⟨ ⟨e6.app e4 e7.strt,e6b.app (hBd (i+1) (by lia)),e6k.app (λz=>c (by rw[z])) e4 e7⟩,?_⟩),_,_,rfl⟩)))
    ·simp only[Bool.not_eq_true',decide_eq_false_iff_not,V.bl.injEq];rw[decide_eq_decide];lia
    ·intro j v x h1 h2';rcases Xj j us.length with z | z
     ·rw[Zx z]at h1;rw[Zx (by lia)]at h2';exact e5 j v x h1 h2'
     ·rw[Zy z]at h1;rw[Zy (by lia)]at h2';have hj:j-us.length=0:=by
       have:=(Zj.mp h1).1;simp at this;lia
      rw[hj]at h1;rw[<-e2,hj]at h2';simp at h1 h2';subst h1 h2';exact⟨a,rfl,z4⟩
    ·rw[Zm,ZQ,Nat.add_sub_cancel,y9];exact hW.go (i+1) (by lia)
 ·rintro σ H' ⟨g,⟨us,kp,e1,e2,e3,e4,e5,⟨e6,e6b,e6k⟩,e7⟩,o1,o2,rfl⟩;have hn:((ps.length:Int)-1-1).toNat=ps.length-2:=by lia
  rw[hn]at e3 e7 e6k;rw[show ps.length-2+1=ps.length-1 by lia]at e7;have hvl:∃v,vs[ps.length-1]?=some v/\vs.drop (vs.length-1)=[v]:=by
   have hlt:vs.length-1<vs.length:=by omega
   refine⟨vs[vs.length-1],by rw[<-y2];exact Zz hlt,?_⟩;rw[List.drop_eq_getElem_cons hlt,List.drop_of_length_le (by lia)]
  obtain⟨vl,hvl,htl⟩:=hvl;refine(cQ _ rfl _ rfl _ rfl (a9 _ rfl l _ rfl (SqL.of (g _ _ y1)) (λsa hsa=>?_)));rw[QG vs (by lia),htl];have g3:=aG hsa (.lst [vl]);refine(aO ka sa _ _ rfl rfl (g3 _ _ e1) ⟨ aB,few (by simp;lia),λra hra=>?_⟩);have gR:=(g.trans g3).trans (aG hra (.lst (us++[vl])));refine q ra _ (kp++[pt ps (ps.length-1)]) ((g.trans g3).free hra) gR (Lst.app aB e2 (λj v x a b=>qY.mono gR _ _ (e5 j v x a b)) (qY.mono gR _ _ (y3 _ _ _ hvl (tT (by omega))))) ⟨by simp;lia,by simp;lia,e6.app e4 e7.strt⟩ (e6b.app (hBd _ (by omega))) (e6k.end_ e4 e7)
end K36
namespace K36
open PySem L2 PyProof.Rows
theorem QI{ts:MM.aS}{os:MM.bI}{hs:List Int}{i:Nat}:((List.range i).map λe=>(at0 hs (MM.oth e)-at0 hs (MM.behind ts os e)-1)%4+1).map V.int++[V.int ((at0 hs (MM.oth i)-at0 hs (MM.behind ts os i)-1)%4+1)]=((List.range (i+1)).map λe=>(at0 hs (MM.oth e)-at0 hs (MM.behind ts os e)-1)%4+1).map V.int:=by
 rw[List.range_succ,Zt,Zt];rfl
theorem ER(ll:List (List Pt)):(lfs ll).length=2*ll.length:=by
 induction ll with
 |nil=>rfl
 |cons ps ll ih =>
  unfold lfs at ih ⊢;rw[List.flatMap_cons,Zm,ih];simp;lia
end K36
namespace K36
open PySem L2 PyProof.Rows
theorem RW(p q:Pt):hd p q=(if p.2=q.2 then (if q.1<p.1 then 1 else 0)*2 else (if q.2<p.2 then 1 else 0)*2+1):=by
 unfold hd;split<;>split<;>rfl
theorem P9(ps:List Pt)(i:Nat):((List.range i).map λk=>hd (pt ps k) (pt ps (k+1))).map V.int++[V.int (hd (pt ps i) (pt ps (i+1)))]=((List.range (i+1)).map λk=>hd (pt ps k) (pt ps (k+1))).map V.int:=by
 rw[List.range_succ,Zt,Zt];rfl
def Q9:Sp:=λvs H Q _=>∃(l:Addr) (ps:List Pt),vs=[.ref l]/\nU H l ps/\1<=ps.length/\ps.length<=1000/\∀r H',H r=none->aW H H'->H' r=some (.lst ((hds ps).map V.int))->Q (.ref r) H'
theorem JM(T:Txt K mg t):cU P w K mg base CX0 1 t.pQ t.pJ ["_law_line_here"] Q9:=by
 refine T.kI.F.ok mU (λvs H Q E h=>?_) (λcdv A outer s H vs Q E hr h=>?_)
 ·obtain⟨l,ps,rfl,_⟩:=h;rfl
 obtain⟨l,ps,rfl,hl,h1,h2,q⟩:=h;have nd:=mU.nd;refine⟨_,(aF (aU 1 nd (bZ aE))
  (aF (cR PassesOwn.never rfl (l9 rfl T.bV (aA aC (aA (a7 a4 rfl T.eA PySem.boot_len (aA (pv 0) aE)) aE))) (aQ (i:=2) nd rfl (Or.inl rfl)) (aF (IH (i:=3) (j:=4) rfl nd rfl rfl (by decide) rfl rfl (aA (aL aR (pv 0) (aJ cH (pv 2) aC) (λ_ _=>rfl)) (aA (aL aR (pv 0) (pv 2) (λ_ _=>rfl)) aE)) rfl)
  (aF (aU 5 nd (bZ (aA (aJ bD (aJ cS (dP mN rfl T.zV boot_int (aA (kE tZ (aL aZ (pv 4) aC (λ_ _=>rfl)) (aL aZ (pv 3) aC (λ_ _=>rfl)) (bO _)) aE)) aC) aC) (aA (aJ cS (dP mN rfl T.zV boot_int (aA (kE tZ (aL aZ (pv 4) aC (λ_ _=>rfl)) (aL aZ (pv 3) aC (λ_ _=>rfl)) (bO _)) aE)) aC) aE))))
  (aK (bM (fN mAp bA (pv 1) (aA (aL aR (pv 5) (dP mN rfl T.zV boot_int (aA (kE lK (aL aZ (pv 3) aC (λ_ _=>rfl)) (aL aZ (pv 4) aC (λ_ _=>rfl)) (bO _)) aE)) (λ_ _=>rfl)) aE)))))))
  (aK (bE (pv 1))))),?_⟩
 refine⟨few (by decide),λfa hfa=>?_⟩;have g1:=aG hfa (.lst []);obtain⟨vs,y1,y2,y3⟩:=id hl;refine(a9 _ rfl l _ rfl (.inl (SqL.of (g1 _ _ y1))) ⟨ _,_,rfl,⟨by lia,by lia,by lia,by lia⟩,?_⟩);rw[y2];refine cI (lo:=1) (n:=((ps.length:Int)-1).toNat) (λi σ H'=>aW H H'/\H' fa=some (.lst (((List.range i).map λk=>hd (pt ps k) (pt ps (k+1))).map V.int))/\∃o1 o2 o3 o4,σ=[some (.ref l),some (.ref fa),o1,o2,o3,o4]) ⟨g1,aB,none,none,none,none,rfl⟩ ?_ ?_
 ·rintro i σ H' hi ⟨g,hf,o1,o2,o3,o4,rfl⟩;obtain⟨_,a,z1,_,z3,z4⟩:=hl.pt (i:=i) (by lia);obtain⟨_,b,x1,_,x3,x4⟩:=hl.pt (i:=i+1) (by omega);rw[y1]at z1 x1;cases z1;cases x1;have i1:atI vs ((1+(i:Int))-1)=some (.ref a):=by rw[show(1+(i:Int))-1=(i:Int) by lia];exact cE z3
  have i2:atI vs (1+(i:Int))=some (.ref b):=by rw[show 1+(i:Int)=((i+1:Nat):Int) by lia];exact cE x3
  have za:=g _ _ z4;have xb:=g _ _ x4;refine(bS _ rfl _ rfl _ _ rfl (nY rfl l _ _ _ rfl rfl (LH (SqL.of (g _ _ y1)) i1 _ rfl _ rfl (aO l _ _ _ rfl rfl (SqL.of (g _ _ y1)) ⟨ i2,_,_,rfl,?_⟩))));refine(aI _ rfl b _ _ _ rfl (bU rfl (SqT.of xb) rfl _ rfl (aO a _ _ _ rfl rfl (SqT.of za) (iW rfl _ _ rfl rfl (.inr (bT _ rfl _ _ rfl rfl (.inr ⟨by decide,by decide⟩) ⟨ _,_,rfl,rfl,?_⟩))))));refine(aI _ rfl b _ _ _ rfl (bU rfl (SqT.of xb) rfl _ rfl (aO a _ _ _ rfl rfl (SqT.of za) (iW rfl _ _ rfl rfl (.inr (bT _ rfl _ _ rfl rfl (.inr ⟨by decide,by decide⟩) ⟨ (by show 2<=ZW;decide),λba hba=>?_⟩))))));have g2:=aG hba (.lst [.int ((if decide ((pt ps (i+1)).2<(pt ps i).2)=true then 1 else 0)*2+1),.int ((if decide ((pt ps (i+1)).1<(pt ps i).1)=true then 1 else 0)*2)]);have bN:ba≠fa:=λz=>by subst z;rw[hf]at hba;cases hba
  refine(c9 _ rfl (.inl ⟨rfl,_,SqL.of (g2 _ _ hf)⟩) _ rfl _ rfl (aO a _ _ _ rfl rfl (SqT.of (g2 _ _ za)) ⟨ rfl,(aI _ rfl b _ _ _ rfl ⟨ rfl,SqT.of (g2 _ _ xb),rfl,rfl,.inr (aI _ rfl ba _ _ (.int (hd (pt ps i) (pt ps (i+1)))) rfl (kT rfl (SqL.of aB) ?_ fa _ _ rfl (jL rfl (g2 _ _ hf) (eV (by simp;lia)) ((g.trans g2).upd hfa) ?_ ⟨ _,_,_,_,rfl⟩)))⟩)⟩))
  ·rw[RW];by_cases c:(pt ps i).2=(pt ps (i+1)).2
   ·rw[if_pos c,decide_eq_true (show V.int (pt ps i).2=V.int (pt ps (i+1)).2 by rw[c])];show some (V.int _)=_;congr 2;simp only[decide_eq_true_eq]
   ·rw[if_neg c,decide_eq_false (show ¬(V.int (pt ps i).2=V.int (pt ps (i+1)).2) from λz=>c (by injection z))];show some (V.int _)=_;congr 2;simp only[decide_eq_true_eq]
  ·rw[aB,P9]
 ·rintro σ H' ⟨g,hf,o1,o2,o3,o4,rfl⟩;refine⟨_,rfl,q fa H' hfa g ?_⟩;rw[hf];unfold hds;rw[show((ps.length:Int)-1).toNat=ps.length-1 by lia]
def Q8:Sp:=λvs H Q _=>∃(l:Addr) (ll:List (List Pt)),vs=[.ref l]/\G0 H l ll/\ll.length<=1000/\(∀ps∈ll,2<=ps.length/\ps.length<=1000)/\∀r H',H r=none->aW H H'->H' r=some (.lst ((lvs ll).map V.int))->Q (.ref r) H'
theorem JL(T:Txt K mg t):cU P w K mg base CX0 2 t.yJ t.xZ ["_law_lines"] Q8:=by
 refine T.qT.F.ok tH (λvs H Q E h=>?_) (λcdv A outer s H vs Q E hr h=>?_)
 ·obtain⟨l,ll,rfl,_⟩:=h;rfl
 obtain⟨l,ll,rfl,hl,hn,hL,q⟩:=h;have nd:=tH.nd;refine⟨_,(aF (aU 1 nd (bZ aE))
  (aF (cR PassesOwn.never rfl (cK (pv 0)) (aQ (i:=2) nd rfl (Or.inl rfl)) (aF (aU 3 nd (bH (JM T) hr T.kI aX (aA (pv 2) aE)))
  (aF (bM (fN mAp bA (pv 1) (aA (aL aR (pv 3) aC (λ_ _=>rfl)) aE)))
  (aK (bM (fN mAp bA (pv 1) (aA (aJ bG (aJ bD (aL aR (pv 3) (jT fY aC) (λ_ _=>rfl)) aC) aC) aE)))))))
  (aK (bE (pv 1))))),?_⟩
 refine⟨few (by decide),λla hla=>?_⟩;obtain⟨vs,e1,e2,e3⟩:=id hl;have g1:=aG hla (.lst []);refine(dI _ rfl l rfl ⟨_,SqL.of (g1 _ _ e1)⟩ (jU (xs:=vs) (λi σ H'=>aW H H'/\H' la=some (.lst ((lvs (ll.take i)).map V.int))/\∃o1 o2,σ=[some (.ref l),some (.ref la),o1,o2]) ⟨g1,aB,none,none,rfl⟩ (λi σ H' _ h=>SqL.of (h.1 _ _ e1)) ?_ ?_))
 ·rintro i x σ H' hx ⟨g,hla',o1,o2,rfl⟩;have hi:i<ll.length:=by rw[<-e2];exact(Zj.mp hx).1
  obtain⟨l',rfl,hp⟩:=e3 i x ll[i] hx (Zz hi);have Li:=hL ll[i] (Zp hi);have hlen:(lvs (ll.take i)).length=2*i:=by rw[mF,Yx];lia
  have hh:0<(hds ll[i]).length:=by rw[zJ];have:=Li.1;omega
  refine(bT _ rfl l' _ rfl (g.ps hp) (by lia) ⟨ Li.2,λr H2 hr0 g2 e=>?_⟩);have nr:r≠la:=λz=>by subst z;rw[hla']at hr0;cases hr0
  refine(eQ _ rfl (.inl ⟨rfl,_,SqL.of (g2 _ _ hla')⟩) _ rfl (aO r _ _ _ rfl rfl (SqL.of e) (jO (a8 hh rfl) la _ _ rfl rfl (g2 _ _ hla') ⟨ eV (by rw[Zq];lia),?_⟩)));have e':upd H2 la (.lst ((lvs (ll.take i)).map V.int++[.int (at0 (hds ll[i]) 0)])) r=some (.lst ((hds ll[i]).map V.int)):=by rw[aH nr];exact e
  refine(c9 _ rfl (.inl ⟨rfl,_,SqL.of aB⟩) _ rfl _ rfl (aO r _ _ _ rfl rfl (SqL.of e') (iW (NC hh) _ _ rfl rfl (aY _ _ rfl rfl (by show(0:Int)<4;decide) (bB la _ _ rfl rfl aB (eV (by simp;lia)) ?_)))));refine⟨((g.trans g2).upd hla).upd hla,?_,_,_,rfl⟩;rw[aB];unfold lvs;rw[wL E4 (Zz hi),Zt,Yd];rfl
 ·rintro σ H' ⟨g,hla',o1,o2,rfl⟩;refine⟨_,rfl,q la H' hla g ?_⟩;rw[hla',e2,Yw]
def OM:Sp:=λvs H Q _=>∃(wa da pa la:Addr) (n:Nat) (ts:MM.aS) (os:MM.bI) (ll:List (List Pt)),vs=[.ref wa,.ref da]/\iH H wa n ts os/\MM.Good ts os/\H da=some (.tup [.ref pa,.ref la])/\G0 H la ll/\ll.length=ts.length/\ll.length<=1000/\(∀ps∈ll,2<=ps.length/\ps.length<=1000) /\
 ∀r c l H',aW H H'->H' r=some (.tup [.ref c,.ref l])->H' c=some (.lst ((cns ts os (lvs ll)).map V.int))->H' l=some (.lst ((lfs ll).map V.int))->Q (.ref r) H'
theorem MJ(T:Txt K mg t):cU P w K mg base CX0 3 t.CA t.BY ["_law_web","_law_drawing"] OM:=by
 refine T.BP.F.ok wU (λvs H Q E h=>?_) (λcdv A outer s H vs Q E hr h=>?_)
 ·obtain⟨wa,da,pa,la,n,ts,os,ll,rfl,_⟩:=h;rfl
 obtain⟨wa,da,pa,la,n,ts,os,ll,rfl,hw,hh,hd,hl,hn,h1000,hL,q⟩:=h;have nd:=wU.nd;have nd_l_k_l_some:(["_law_k","_law_some"]:List Str).Nodup:=by decide
 refine⟨_,(aF (aU 2 nd (bH (JL T) hr T.qT aX (aA (aL aZ (pv 1) aC (λ_ _=>rfl)) aE)))
  (aF (aU 3 nd (bZ aE))
  (aF (cR PassesOwn.never rfl (bP rfl T.bV (aA (a7 a4 rfl T.eA PySem.boot_len (aA (pv 2) aE)) aE)) (aQ (i:=4) nd rfl (Or.inl rfl)) (aK (bM (fN mAp bA (pv 3) (aA (aJ bD (aJ bG (aJ cH (aJ cH (aL aR (pv 2) (bH (fC T) hr T.eP aX (aA (pv 4) aE)) (λ_ _=>rfl)) (aL aR (pv 2) (bH (gJ T) hr T.eX aX (aA (aL aZ (pv 0) aC (λ_ _=>rfl)) (aA (aL aZ (pv 0) aC (λ_ _=>rfl)) (aA (pv 4) aE)))) (λ_ _=>rfl))) aC) aC) aC) aE)))))
  (aF (aU 5 nd (bZ aE))
  (aF (cR PassesOwn.never rfl (cK (aL aZ (pv 1) aC (λ_ _=>rfl))) (aQ (i:=6) nd rfl (Or.inl rfl)) (aF (aU 7 nd (bH (JM T) hr T.kI aX (aA (pv 6) aE)))
  (aF (dD (i:=8) nd rfl (Or.inl rfl)  (N':=["_law_k","_law_some"]) (js:=[none,some 7]) rfl (l9 rfl T.bV (aA aC (aA (a7 a4 rfl T.eA PySem.boot_len (aA (pv 7) aE)) aE))) (λ_ _ _ _ _=>(aQ (i:=0) nd_l_k_l_some rfl (Or.inl rfl))) (λ_ _ _ _ _=>dE) (λ_ _ _ _ _=>(aJ bG (aJ cH (aL (cP (K:=K) rfl) (pv 1) (pv 0) (λ_ _=>rfl)) (aL (cP (K:=K) rfl) (pv 1) (aJ cH (pv 0) aC) (λ_ _=>rfl))) aC)))
  (aK (aU 5 nd (aJ zD (pv 5) (bZ (aA (lH PySem.F.plainAttrs_list PySem.F.slot_list_count PySem.F.type_list_count A4 (pv 8) (aA aC aE)) (aA (lH PySem.F.plainAttrs_list PySem.F.slot_list_count PySem.F.type_list_count A4 (pv 8) (aA aC aE)) aE)))))))))
  (aK (bE (b8 (aA (pv 3) (aA (pv 5) aE)))))))))),?_⟩
 obtain⟨tA,oA,hw1,ht,hos⟩:=id hw;refine(aI _ rfl da _ _ _ rfl (bC rfl (SqT.of hd) rfl la ll rfl hl ⟨ h1000,hL,λha H1 ha0 g1 e1=>?_⟩));refine⟨few (by decide),λca hca=>?_⟩;have g2:=aG hca (.lst []);have hlen:=mF ll;refine(a9 _ rfl ha _ rfl (.inl (SqL.of (g2 _ _ e1))) ⟨ _,rfl,by rw[Zq];lia,by rw[Zq];lia,?_⟩);rw[Zq];refine cI (lo:=0) (n:=(((lvs ll).length:Nat):Int).toNat) (λi σ H'=>aW H1 H'/\H' ca=some (.lst (((List.range i).map λe=>(at0 (lvs ll) (MM.oth e)-at0 (lvs ll) (MM.behind ts os e)-1)%4+1).map V.int))/\∃o,σ=[some (.ref wa),some (.ref da),some (.ref ha),some (.ref ca),o,none,none,none,none]) ⟨g2,aB,none,rfl⟩ ?_ ?_
 ·rintro i σ H' hi ⟨g,hc,o,rfl⟩;have hi':i<2*ts.length:=by lia
  have ho:=MM.b9 hi';have hb:=hh.behind hi';have g3:=g1.trans g;refine(c9 _ rfl (.inl ⟨rfl,_,SqL.of hc⟩) _ rfl _ rfl (aI i (by simp) ha _ _ _ rfl (n9 rfl (SqL.of (g _ _ e1)) (a8 (j:=MM.oth i) (by lia) rfl) _ rfl _ rfl (aO wa _ _ _ rfl rfl (SqT.of (g3 _ _ hw1)) ⟨ rfl,(aI _ rfl wa _ _ _ rfl (bU rfl (SqT.of (g3 _ _ hw1)) rfl _ rfl (cV tA oA ts os i (by simp) (g3.ts ht) ⟨ g3.os hos,(iC hh hi' ha _ _ _ rfl (bC rfl (SqL.of (g _ _ e1)) (a8 (j:=MM.behind ts os i) (by lia) rfl) _ _ rfl rfl (hU _ _ rfl rfl _ _ rfl (nZ rfl (by show(0:Int)<4;decide) _ _ rfl rfl (bB ca _ _ rfl rfl hc (eV (by simp;lia)) ?_)))))⟩)))⟩))));refine⟨g.upd hca,?_,_,rfl⟩;rw[aB,QI]
 ·rintro σ H' ⟨g,hc,o,rfl⟩;refine⟨few (by decide),λfa hfa=>?_⟩;have hc':H' ca=some (.lst ((cns ts os (lvs ll)).map V.int)):=hc;have g3:=aG hfa (.lst []);have g13:=g1.trans g;obtain⟨vs,y1,y2,y3⟩:=id hl;refine(aI _ rfl da _ _ _ rfl (oD rfl (SqT.of (g3 _ _ (g13 _ _ hd))) rfl la rfl ⟨_,SqL.of (g3 _ _ (g13 _ _ y1))⟩ (jU (xs:=vs) (λi σ H2=>aW H' H2/\∃(fb:Addr),H2 fb=some (.lst ((lfs (ll.take i)).map V.int))/\∃o o2 o3 o4,σ=[some (.ref wa),some (.ref da),some (.ref ha),some (.ref ca),o,some (.ref fb),o2,o3,o4]) ⟨g3,fa,aB,_,none,none,none,rfl⟩ (λi σ H' _ h=>SqL.of (h.1 _ _ (g13 _ _ y1))) ?_ ?_)))
  ·rintro i x σ H2 hx ⟨g4,fb,hf,o,o2,o3,o4,rfl⟩;have hi:i<ll.length:=by rw[<-y2];exact(Zj.mp hx).1
   obtain⟨l',rfl,hp⟩:=y3 i x ll[i] hx (Zz hi);have Li:=hL ll[i] (Zp hi);have hlen2:(lfs (ll.take i)).length=2*i:=by rw[ER,Yx];lia
   have hdl:=zJ ll[i];refine(bT _ rfl l' _ rfl ((g13.trans g4).ps hp) (by lia) ⟨ Li.2,λr H3 hr0 g5 e5=>?_⟩);refine(a9 _ rfl r _ rfl (.inl (SqL.of e5)) ⟨ _,_,rfl,⟨by decide,by decide,by rw[Zq];lia,by rw[Zq];omega⟩,λD hD=>?_⟩);rw[Zq];refine c7 ((((hds ll[i]).length:Nat):Int)-1).toNat (λk=>.int ((at0 (hds ll[i]) (k+1)-at0 (hds ll[i]) k)%4)) hD (by omega) (λj H' hj _=>hj) (λH' _=>Nat.le_refl _) ?_ ?_
   ·rintro j H' x H'' k hj g6 ⟨rfl,rfl⟩ hk;refine(eF ((Fills.refl _).set _ rfl) _ rfl _ rfl (aO r _ _ _ rfl rfl (SqL.of (g6 _ _ e5)) (eF (a8 (j:=j+1) (by omega) (by lia)) _ rfl _ rfl ⟨ _,_,(iC rfl rfl r _ _ _ rfl (bC rfl (SqL.of (g6 _ _ e5)) (a8 (j:=j) (by omega) (by lia)) _ _ rfl rfl (aY _ _ rfl rfl (by show(0:Int)<4;decide) (hk _ (aW.refl _)))))⟩)))
   ·intro H4 g6 e6;have e7:H4 D=some (.lst ((dif (hds ll[i]) 0).map V.int)):=by
     rw[e6];unfold dif;rw[Yb,show((((hds ll[i]).length:Nat):Int)-1).toNat=(hds ll[i]).length-1 by lia];congr 2;refine Yn λk _=>?_;simp only[Function.comp,Int.sub_zero]
    refine(dI _ rfl _ rfl (.inl ⟨rfl,_,SqL.of e7⟩) (iQ D _ _ rfl rfl e7 (fI _ rfl (.inl ⟨rfl,_,SqL.of e7⟩) D _ _ rfl ⟨ rfl,e7,(by show 2<=ZW;decide),λna hna=>?_⟩)));have g8:=aG hna (.lst [.int (cnt ll[i] 1),.int (cnt ll[i] 3)]);refine(aO fb na _ _ rfl rfl (g8 _ _ (g6 _ _ (g5 _ _ hf))) ⟨ aB,few (by simp;lia),λfc hfc=>?_⟩);refine⟨(((g4.trans g5).trans g6).trans g8).trans (aG hfc _),fc,?_,_,_,_,_,rfl⟩;rw[aB];unfold lfs;rw[wL _ (Zz hi),Zt];rfl
  ·rintro σ H2 ⟨g4,fb,hf,o,o2,o3,o4,rfl⟩;refine(dI _ rfl _ rfl (by show 2<=ZW;decide) (λr hr0=>q r ca fb _ ((g13.trans g4).trans (aG hr0 _)) aB ?_ ?_))
   ·rw[aH (aN (g4 _ _ hc') hr0)];exact g4 _ _ hc'
   ·rw[aH (aN hf hr0),hf,y2,Yw]
end K36
namespace L2
open PySem PySem.Spec PyProof.Rows
def Go(a b h p q:Nat):Prop:=(h=0/\p%a+1<a/\q=p+1)\/(h=1/\p / a+1<b/\q=p+a)\/(h=2/\q%a+1<a/\p=q+1)\/(h=3/\q / a+1<b/\p=q+a)
theorem Go.sym{a b h p q:Nat}(s:Go a b h p q):Go a b ((h+2)%4) q p:=by
 unfold Go at s ⊢;rcases s with⟨rfl,h1,h2⟩ | ⟨rfl,h1,h2⟩ | ⟨rfl,h1,h2⟩ | ⟨rfl,h1,h2⟩
 ·exact .inr (.inr (.inl ⟨rfl,h1,h2⟩))
 ·exact .inr (.inr (.inr ⟨rfl,h1,h2⟩))
 ·exact .inl ⟨rfl,h1,h2⟩
 ·exact .inr (.inl ⟨rfl,h1,h2⟩)
def nr(a b p h:Nat):Option Nat:=if h=0 then (if p%a+1<a then some (p+1) else none) else (if p / a+1<b then some (p+a) else none)
def von:Option Nat->V
 |none=>.non
 |some q=>vn q
theorem qU{a b p:Nat}(h:p<a*b)(ha:0<a):p / a<b:=(Nat.div_lt_iff_lt_mul ha).mpr (by rw[Nat.mul_comm];exact h)
theorem RO{a b p h q:Nat}(ha:0<a)(hh:h<2)(hp:p<a*b)(e:nr a b p h=some q):Go a b h p q/\q<a*b:=by
 unfold nr at e;have e0:=Nat.div_add_mod p a;have hd:=qU hp ha;split at e
 ·rename_i h0
  split at e
  ·rename_i h1
   injection e with e;refine⟨.inl ⟨h0,h1,e.symm⟩,?_⟩;have:a*(p / a)+a<=a*b:=by rw[<-Nat.mul_succ];exact Nat.mul_le_mul_left a hd
   lia
  ·cases e
 ·rename_i h0
  split at e
  ·rename_i h1
   injection e with e;refine⟨.inr (.inl ⟨by lia,h1,e.symm⟩),?_⟩;have:a*(p / a)+a+a<=a*b:=by rw[<-Nat.mul_succ,<-Nat.mul_succ];exact Nat.mul_le_mul_left a h1
   have:=Nat.mod_lt p ha
   lia
  ·cases e
end L2
namespace K36
open PySem L2 PyProof.Rows
def OP:Sp:=λvs H Q _=>∃(s:Addr) (a b p h:Nat),vs=[.ref s,vn p,vn h]/\H s=some (.tup [vn a,vn b])/\0<a/\a<=10/\b<=10/\p<a*b/\h<2/\∀H',aW H H'->Q (von (nr a b p h)) H'
theorem MK(T:Txt K mg t):cU P w K mg base CX0 1 t.CB t.BZ ["_law_size","_law_point","_law_head"] OP:=by
 refine T.BQ.F.ok wV (λvs H Q E h=>?_) (λcdv A outer s H vs Q E hr h=>?_)
 ·obtain⟨s,a,b,p,h,rfl,_⟩:=h;rfl
 obtain⟨s,a,b,p,h,rfl,hs,ha,ha10,hb10,hp,hh,q⟩:=h;have nd:=wV.nd;refine⟨_,(aF (aU 3 nd (aJ bD (aJ bG (pv 1) (aL aZ (pv 0) aC (λ_ _=>rfl))) (aL aR (bZ (aA aC (aA aC (aA (jT fY aC) (aA aC aE))))) (pv 2) (λ_ _=>rfl))))
  (aF (aU 4 nd (aJ bD (aJ dG (pv 1) (aL aZ (pv 0) aC (λ_ _=>rfl))) (aL aR (bZ (aA aC (aA aC (aA aC (aA (jT fY aC) aE))))) (pv 2) (λ_ _=>rfl))))
  (aF (fL (PW.pt (mW (bF tZ (pv 3) aC (bO _)) (mW (bF JD (pv 3) (aL aZ (pv 0) aC (λ_ _=>rfl)) (bO _)) (mW (bF tZ (pv 4) aC (bO _)) (qJ (bF JD (pv 4) (aL aZ (pv 0) aC (λ_ _=>rfl)) (bO _))))))) (aK (bE IU)) dA)
  (aK (bE (aJ bD (pv 3) (aJ cS (aL aZ (pv 0) aC (λ_ _=>rfl)) (pv 4)))))))),?_⟩
 have hd:=qU hp ha;have hm:=Nat.mod_lt p ha;have e0:=Nat.div_add_mod p a;have c0:(0:Int)<(a:Int):=by lia
 refine⟨_,rfl,(aI _ rfl s _ _ _ rfl (bC rfl (SqT.of hs) rfl _ _ rfl rfl ⟨ c0,_,rfl,(by show 4<=ZW;decide),λl1 hl1=>?_⟩))⟩;have g1:=aG hl1 (.lst [.int 1,.int 0,.int (-1),.int 0]);have x1:atI [V.int 1,.int 0,.int (-1),.int 0] (h:Int)=some (.int (if h=0 then 1 else 0)):=by
  rcases(by lia:h=0\/h=1) with rfl | rfl<;>rfl
 have x2:atI [V.int 0,.int 1,.int 0,.int (-1)] (h:Int)=some (.int (if h=0 then 0 else 1)):=by
  rcases(by lia:h=0\/h=1) with rfl | rfl<;>rfl
 refine(aI _ rfl l1 _ _ _ rfl (bC rfl (SqL.of aB) x1 _ _ rfl rfl ?_));refine⟨_,rfl,(aI _ rfl s _ _ _ rfl (bC rfl (SqT.of (g1 _ _ hs)) rfl _ _ rfl rfl ⟨ ⟨c0,by lia⟩,_,rfl,(by show 4<=ZW;decide),λl2 hl2=>?_⟩))⟩;have g2:=g1.trans (aG hl2 (.lst [.int 0,.int 1,.int 0,.int (-1)]));have hs2:=g2 _ _ hs;refine(aI _ rfl l2 _ _ _ rfl (bC rfl (SqL.of aB) x2 _ _ rfl rfl ?_));have q':=q _ g2;have m1:((p:Int)%(a:Int))=((p%a:Nat):Int):=by lia
 have m2:((p:Int) / (a:Int))=((p / a:Nat):Int):=by lia
 rw[m1,m2];have nn:(0:Int)<=((p / a:Nat):Int):=Int.natCast_nonneg _;refine(a9 _ rfl _ _ rfl rfl ⟨ _,rfl,?_⟩);refine cF (decide_eq_false (by split<;>lia)) ⟨_,rfl,(aI _ rfl s _ _ _ rfl (bC rfl (SqT.of hs2) rfl _ _ rfl rfl ⟨ _,rfl,?_⟩))⟩;unfold nr at q';have fin:∀{x y:Int}{r:Nat},x+(a:Int)*y=(r:Int)->Q (vn r) (upd (upd H l1 (.lst [.int 1,.int 0,.int (-1),.int 0])) l2 (.lst [.int 0,.int 1,.int 0,.int (-1)]))->Q (.int (x+(a:Int)*y)) (upd (upd H l1 (.lst [.int 1,.int 0,.int (-1),.int 0])) l2 (.lst [.int 0,.int 1,.int 0,.int (-1)])):=λ{x y r} e z=>by rw[e];exact z
 rcases(by lia:h=0\/h=1) with rfl | rfl
 ·rw[if_pos rfl]at q' ⊢;rw[if_pos rfl];by_cases c:p%a+1<a
  ·rw[if_pos c]at q';refine cF (decide_eq_false (by lia)) (a9 _ rfl _ _ rfl rfl ⟨ _,rfl,cF (decide_eq_false (by lia)) ⟨_,rfl,(aI _ rfl s _ _ _ rfl (bC rfl (SqT.of hs2) rfl _ _ rfl rfl ⟨ _,rfl,cF (decide_eq_false (by lia)) ?_⟩))⟩⟩);refine⟨_,rfl,(aI _ rfl s _ _ _ rfl (bU rfl (SqT.of hs2) rfl _ rfl (aY _ _ rfl rfl (.inl ⟨by lia,by lia⟩) ⟨ _,_,rfl,rfl,fin (r:=p+1) ?_ q'⟩)))⟩;have:((a*(p / a):Nat):Int)=(a:Int)*((p / a:Nat):Int):=Int.natCast_mul _ _;rw[Int.add_zero,<-this];lia
  ·rw[if_neg c]at q';exact dY (decide_eq_true (by lia)) (zH q')
 ·rw[if_neg (by decide)]at q' ⊢;rw[if_neg (by decide)];refine cF (decide_eq_false (by lia)) (a9 _ rfl _ _ rfl rfl ⟨ _,rfl,cF (decide_eq_false (by lia)) ⟨_,rfl,(aI _ rfl s _ _ _ rfl (bC rfl (SqT.of hs2) rfl _ _ rfl rfl ⟨ _,rfl,?_⟩))⟩⟩);by_cases c:p / a+1<b
  ·rw[if_pos c]at q';refine cF (decide_eq_false (by lia)) ⟨_,rfl,(aI _ rfl s _ _ _ rfl (bU rfl (SqT.of hs2) rfl _ rfl (aY _ _ rfl rfl (.inl ⟨by lia,by lia⟩) ⟨ _,_,rfl,rfl,fin (r:=p+a) ?_ q'⟩)))⟩;have:((a*(p / a):Nat):Int)=(a:Int)*((p / a:Nat):Int):=Int.natCast_mul _ _;rw[Int.mul_add,<-this];lia
  ·rw[if_neg c]at q';exact dY (decide_eq_true (by lia)) q'
end K36
namespace L2
open PySem PySem.Spec PyProof.Rows
theorem Go.det{a b h p q r:Nat}(x:Go a b h p q)(y:Go a b h p r):q=r:=by unfold Go at x y;lia
structure Net(a b:Nat)(W:Nat->Nat->Option Nat):Prop where
 go:∀p h q,W p h=some q->h<4/\p<a*b/\q<a*b/\Go a b h p q
 sym:∀p h q,W p h=some q->W q ((h+2)%4)=some p
theorem Go.det'{a b h p q r:Nat}(hh:h<4)(x:Go a b h p q)(y:Go a b h r q):p=r:=by
 have:=x.sym.det y.sym;exact this
def AU(W:Nat->Nat->Option Nat)(p h q:Nat):Nat->Nat->Option Nat:=λx y=>if x=p/\y=h then some q else W x y
theorem Net.put{a b:Nat}{W:Nat->Nat->Option Nat}(n:Net a b W){p h q:Nat}(hh:h<2)(hp:p<a*b)(hq:q<a*b)(g:Go a b h p q):Net a b (AU (AU W p h q) q (h+2) p) where
 go:=by
  intro x y z e;unfold AU at e;split at e
  ·rename_i c;injection e with e;subst e
   obtain⟨rfl,rfl⟩:=c;have:=g.sym;rw[show(h+2)%4=h+2 by lia]at this;exact⟨by lia,hq,hp,this⟩
  ·split at e
   ·rename_i c;injection e with e;subst e
    obtain⟨rfl,rfl⟩:=c;exact⟨by lia,hp,hq,g⟩
   ·exact n.go x y z e
 sym:=by
  intro x y z e;unfold AU at e ⊢;split at e
  ·rename_i c;injection e with e;subst e
   obtain⟨rfl,rfl⟩:=c;rw[if_neg (by lia),if_pos (by lia)]
  ·split at e
   ·rename_i c;injection e with e;subst e
    obtain⟨rfl,rfl⟩:=c;rw[if_pos (by lia)]
   ·rename_i c1 c2
    have o:=n.sym x y z e;obtain⟨b1,b2,b3,b4⟩:=n.go x y z e;by_cases d1:z=q/\(y+2)%4=h+2
    ·obtain⟨rfl,d2⟩:=d1;have ey:y=h:=by lia
     subst ey;rw[if_pos ⟨rfl,d2⟩,Go.det' b1 b4 g]
    ·rw[if_neg d1];by_cases d2:z=p/\(y+2)%4=h
     ·obtain⟨rfl,d3⟩:=d2;rw[if_pos ⟨rfl,d3⟩];have:=b4.sym;rw[d3]at this;rw[this.det g]
     ·rw[if_neg d2];exact o
abbrev kk(p h:Nat):List Key:=[.inl (p:Int),.inl (h:Int)]
def DWs(kvs:List (List Key×V))(W:Nat->Nat->Option Nat):Prop:=(∀e∈kvs,∃p h q:Nat,e=(kk p h,vn q))/\∀p h:Nat,cJ kvs (kk p h)=(W p h).map vn
theorem lQ{p h p' h':Nat}:kk p h=kk p' h'↔p=p'/\h=h':=by
 constructor
 ·intro e;injection e with e1 e2;injection e2 with e2 e3;injection e1 with e1;injection e2 with e2
  lia
 ·rintro⟨rfl,rfl⟩;rfl
theorem EE{κ:Type}[DecidableEq κ]{kvs:List (κ×V)}{k:κ}{v:V}{e:κ×V}(h:e∈putK kvs k v):e∈kvs\/e=(k,v):=by
 unfold putK at h;split at h
 ·obtain⟨x,hx,rfl⟩:=Zh.mp h;by_cases c:x.1=k
  ·rw[if_pos c,c];exact .inr rfl
  ·rw[if_neg c];exact .inl hx
 ·rcases Zf.mp h with z | z
  ·exact .inl z
  ·exact .inr (by simpa using z)
theorem IF{κ:Type}[DecidableEq κ](kvs:List (κ×V))(k:κ)(v:V):putK kvs k v≠[]:=by
 intro e;have:=dB kvs k k v;rw[e,if_pos rfl]at this;cases this
theorem DWs.put{kvs:List (List Key×V)}{W:Nat->Nat->Option Nat}(d:DWs kvs W)(p h q:Nat):DWs (putK kvs (kk p h) (vn q)) (AU W p h q):=by
 refine⟨λe he=>?_,λx y=>?_⟩
 ·rcases EE he with z | z
  ·exact d.1 e z
  ·exact⟨p,h,q,z⟩
 ·rw[dB];unfold AU;by_cases c:x=p/\y=h
  ·rw[if_pos c,if_pos (lQ.mpr c)];rfl
  ·rw[if_neg c,if_neg (λz=>c (lQ.mp z))];exact d.2 x y
theorem DWs.nil:DWs [] (λ_ _=>none):=⟨λe he=>(by cases he),λp h=>rfl⟩
theorem AA{κ:Type}[DecidableEq κ]{k:κ}{v:V}:∀{kvs:List (κ×V)},cJ kvs k=some v->(k,v)∈kvs
 |[],e=>by cases e
 |p::r,e=>by
  by_cases c:p.1=k
  ·rw[dJ c]at e;injection e with e;subst e c;exact Zd
  ·rw[dM c]at e;exact Zw _ (AA e)
theorem kU{κ:Type}[DecidableEq κ]{k:κ}{v:V}:∀{kvs:List (κ×V)},(k,v)∈kvs->∃u,cJ kvs k=some u
 |p::r,e=>by
  by_cases c:p.1=k
  ·exact⟨_,dJ c⟩
  ·rw[dM c];rcases Zn.mp e with z | z
   ·exact absurd (by rw[<-z]) c
   ·exact kU z
structure Cm(W:Nat->Nat->Option Nat)(N:Nat)(come:List Nat):Prop where
 nd:come.Nodup
 lt:∀p∈come,p<N
 ne:0<come.length
 out:∀p∈come,∃h q,W p h=some q
 cn:∃r,r∈come/\∀S:Nat->Prop,(∀p h q,S p->W p h=some q->S q)->S r->∀p∈come,S p
structure v7(W:Nat->Nat->Option Nat)(N:Nat)(come:List Nat):Prop extends Cm W N come where
 cl:∀p h q,W p h=some q->p∈come
theorem Cm.few{W:Nat->Nat->Option Nat}{N:Nat}{come:List Nat}(c:Cm W N come):come.length<=N:=MM.bW N come c.nd c.lt
theorem iE{l m:List Nat}{i:Nat}(h:i<l.length):(l++m).getD i 0=l.getD i 0:=by simp only[List.getD,Zx h]
theorem mem_getD{l:List Nat}{x:Nat}(h:x∈l):∃i,i<l.length/\l.getD i 0=x:=by
 obtain⟨i,hi,rfl⟩:=List.getElem_of_mem h;exact⟨i,hi,by simp[List.getD,hi]⟩
theorem F5{ns:List Int}{l:List Nat}(p:ns.Perm (l.map λn:Nat=>(n:Int))):∃cm:List Nat,ns=(cm.map λn:Nat=>(n:Int))/\cm.Perm l:=by
 refine⟨ns.map Int.toNat,?_,?_⟩
 ·rw[Yb];have:∀x∈ns,x=((λn:Nat=>(n:Int))∘Int.toNat) x:=λx hx=>by
   obtain⟨n,_,rfl⟩:=Zh.mp (p.mem_iff.mp hx);simp
  have e:=Yn (f:=λx:Int=>x) this;rw[List.map_id']at e;exact e
 ·have:=p.map Int.toNat;rw[Yb]at this;have e:l.map (Int.toNat∘λn:Nat=>(n:Int))=l:=by
   have h:∀x∈l,(Int.toNat∘λn:Nat=>(n:Int)) x=(λx:Nat=>x) x:=λx _=>by simp
   rw[Yn h,List.map_id']
  rw[e]at this;exact this
theorem v7.perm{W:Nat->Nat->Option Nat}{N:Nat}{l cm:List Nat}(c:v7 W N l)(p:cm.Perm l):v7 W N cm :=
 ⟨⟨p.nodup_iff.mpr c.nd,λx hx=>c.lt x (p.mem_iff.mp hx),by rw[p.length_eq];exact c.ne,λx hx=>c.out x (p.mem_iff.mp hx),let⟨r,hr,h⟩:=c.cn;⟨r,p.mem_iff.mpr hr,λS cl sr x hx=>h S cl sr x (p.mem_iff.mp hx)⟩⟩,λx h q e=>p.mem_iff.mpr (c.cl x h q e)⟩
theorem oE(l:List Nat)(x:Nat):vns l++[vn x]=vns (l++[x]):=by unfold vns;rw[Zt];rfl
theorem J2{a b:Nat}{W:Nat->Nat->Option Nat}{come:List Nat}(n:Net a b W)(c:Cm W (a*b) come)(cl:∀p∈come,∀h q,W p h=some q->q∈come) :
  Net a b (λp h=>if p∈come then W p h else none)/\v7 (λp h=>if p∈come then W p h else none) (a*b) come:=by
 refine⟨⟨λp h q e=>?_,λp h q e=>?_⟩,⟨⟨c.nd,c.lt,c.ne,λp hp=>?_,?_⟩,λp h q e=>?_⟩⟩
 ·split at e
  ·exact n.go p h q e
  ·cases e
 ·split at e
  ·rename_i hp
   rw[if_pos (cl p hp h q e)];exact n.sym p h q e
  ·cases e
 ·obtain⟨h,q,e⟩:=c.out p hp;exact⟨h,q,by rw[if_pos hp];exact e⟩
 ·obtain⟨r,hr,h⟩:=c.cn;refine⟨r,hr,λS cl' sr p hp=>(h (λx=>x∈come/\S x) (λp h q z e=>⟨cl p z.1 h q e,cl' p h q z.2 (by rw[if_pos z.1];exact e)⟩) ⟨hr,sr⟩ p hp).2⟩
 ·split at e
  ·assumption
  ·cases e
end L2
namespace K36
open PySem L2 PyProof.Rows
def OL(K:PySem.W.Frag):Sp:=λvs H Q _=>∃(sa za:Addr) (ns:List Int) (a b:Nat),vs=[.ref sa,.ref za]/\SqL K H sa (ns.map V.int)/\H za=some (.tup [vn a,vn b])/\0<a/\0<b/\a<=10/\b<=10/\a*b<=10/\(1<a\/1<b) /\
 ∀r ka ca H' kvs come W,aW H H'->H' r=some (.tup [.ref ka,.ref ca])->H' ka=some (.dT kvs)->H' ca=some (.lst (vns come))->DWs kvs W->Net a b W->v7 W (a*b) come->Q (.ref r) H'
theorem MI(T:Txt K mg t):cU P w K mg base CX0 2 t.B9 t.BX ["_law_script","_law_size"] (OL K):=by
 refine T.BO.F.ok wR (λvs H Q E h=>?_) (λcdv A outer s H vs Q E hr h=>?_)
 ·obtain⟨sa,za,ns,a,b,rfl,_⟩:=h;rfl
 obtain⟨sa,za,ns,a,b,rfl,hS,hz,ha,hb,ha10,hb10,hab,h1,q⟩:=h;have nd:=wR.nd;have hu:=xN hr;refine⟨_,(aF (aU 2 nd oS)
  (aF (cR PassesOwn.never rfl (bP rfl T.bV (aA (aJ cS (aJ cS aC (aL aZ (pv 1) aC (λ_ _=>rfl))) (aL aZ (pv 1) aC (λ_ _=>rfl))) aE)) (aQ (i:=3) nd rfl (Or.inl rfl)) (aF (aU 4 nd (bH (MK T) hr T.BQ aX (aA (pv 1) (aA (aJ dG (pv 3) aC) (aA (aJ bG (pv 3) aC) aE)))))
  (aF (aU 5 nd (bH (gI T) hr T.eE aX (aA (bH (eK T) hr T.bX aX (aA (pv 0) (aA (aJ bD aC (aJ bG (pv 3) aC)) aE))) (aA (aJ bD aC (pv 3)) aE))))
  (aK (fL (PW.pt (C0 (bF MF (pv 4) IU (bO _)) (y0 (PW.pt (mW (bF JC (aJ bG (pv 5) aC) aC (bO _)) (qJ (bF (PL hr.units0) (pv 2) oS (bO _)))))))) (aF (kB hu (pv 2) (b8 (aA (aJ dG (pv 3) aC) (aA (aJ bG (pv 3) aC) aE))) (pv 4) rfl)
  (aK (kB hu (pv 2) (b8 (aA (pv 4) (aA (aJ bD (aJ bG (pv 3) aC) aC) aE))) (aJ dG (pv 3) aC) rfl))) dA)))))
  (aF (aU 6 nd (bZ (aA (aL uI (a7 (GU rfl (S9 hr)) rfl T.NM boot_min (aA (pv 2) aE)) aC (λ_ _=>rfl)) aE)))
  (aF (aU 7 nd aC)
  (aF (jS PassesOwn.never (bF tZ (pv 7) (a7 a4 rfl T.eA PySem.boot_len (aA (pv 6) aE)) (bO _)) (aF (cR PassesOwn.never rfl (bP rfl T.bV (aA aC aE)) (aQ (i:=8) nd rfl (Or.inl rfl)) (aK (fL (bF iR (IW hu (pv 2) (b8 (aA (aL aR (pv 6) (pv 7) (λ_ _=>rfl)) (aA (pv 8) aE))) (aL aR (pv 6) aC (λ_ _=>rfl)) ⟨rfl,rfl,rfl,rfl⟩) (pv 6) rfl) (aK (bM (fN mAp bA (pv 6) (aA (oT hu (pv 2) (b8 (aA (aL aR (pv 6) (pv 7) (λ_ _=>rfl)) (aA (pv 8) aE))) (λ_ _=>rfl)) aE)))) dA)))
  (aK (aU 7 nd (aJ bD (pv 7) aC)))))
  (aF (aU 9 nd oS)
  (aF (cR PassesOwn.never rfl (MC (pv 2)) (aQ (i:=10) nd rfl (Or.inl rfl)) (aK (fL (bF F9 (aL aZ (pv 10) aC (λ_ _=>rfl)) (pv 6) rfl) (aK (kB hu (pv 9) (pv 10) (oT hu (pv 2) (pv 10) (λ_ _=>rfl)) rfl)) dA)))
  (aK (bE (b8 (aA (pv 9) (aA (a7 zM rfl T.kR boot_sorted (aA (pv 6) aE)) aE)))))))))))),?_⟩
 refine λfd hfd=>?_;have g1:=aG hfd (.dT []);have eN:((2:Int)*(a:Int)*(b:Int)).toNat=2*(a*b):=by
  rw[Int.mul_assoc,<-Int.natCast_mul];lia
 have eI:(2:Int)*(a:Int)*(b:Int)=2*((a*b:Nat):Int):=by rw[Int.mul_assoc,<-Int.natCast_mul]
 refine(aI _ rfl za _ _ _ rfl (bC rfl (SqT.of (g1 _ _ hz)) rfl _ _ rfl rfl ⟨ .inl ⟨by decide,by decide⟩,(aI _ rfl za _ _ _ rfl (bC rfl (SqT.of (g1 _ _ hz)) rfl _ _ rfl rfl (N7 (.inr ⟨by lia,by lia⟩) _ rfl (by lia) (by lia) ?_)))⟩));refine cI (lo:=0) (n:=((2:Int)*(a:Int)*(b:Int)).toNat) (λi σ H'=>aW H H'/\(∃kvs W,H' fd=some (.dT kvs)/\DWs kvs W/\Net a b W/\kvs.length<=2*i/\(kvs=[]->∀j,j<i->nr a b (j / 2) (j%2)=none))/\∃o1 o2 o3,σ=[some (.ref sa),some (.ref za),some (.ref fd),o1,o2,o3,none,none,none,none,none]) ⟨g1,(bR ([]) (λ_ _=>none) aB DWs.nil ⟨λp h q e=>(by cases e),λp h q e=>(by cases e)⟩ (Nat.zero_le _) (λ_ j hj=>by lia)),none,none,none,rfl⟩ ?_ ?_
 ·rintro i σ H' hi ⟨g,⟨kvs,W,e1,e2,e3,e4,e5⟩,o1,o2,o3,rfl⟩;rw[eN]at hi;have hp:i / 2<a*b:=by lia
  have ei:(0:Int)+(i:Int)=(i:Int):=by lia
  rw[ei];refine(bS _ rfl _ rfl _ _ rfl (G8 rfl ⟨by decide,by decide⟩ _ rfl _ _ rfl ⟨ rfl,(iA (by show(0:Int)<2;decide) za a b (i / 2) (i%2) ?_ (jF (g _ _ hz) ha ha10 hb10 hp (by lia) (λH2 g2=>?_)))⟩))
  ·show[V.ref za,V.int ((i:Int) / 2),V.int ((i:Int)%2)]=_;rw[show(i:Int) / 2=((i / 2:Nat):Int) by lia,show(i:Int)%2=((i%2:Nat):Int) by lia]
  have gH:=g.trans g2;refine(bS _ rfl _ rfl _ _ rfl (nZ rfl (by show(0:Int)<6;decide) _ _ rfl rfl (iQ sa ns _ rfl (gH.seq hS) (by lia) (λc=>?_))));refine(a9 _ rfl _ _ rfl rfl (aY c _ rfl (by lia) (by lia) (λm hm0 hm1=>?_)));have rest:∀H3,aW H H3->H3 fd=some (.dT kvs)->nr a b (i / 2) (i%2)=none->∃kvs W,H3 fd=some (.dT kvs)/\DWs kvs W/\Net a b W/\kvs.length<=2*(i+1)/\(kvs=[]->∀j,j<i+1->nr a b (j / 2) (j%2)=none):=λH3 _ f3 c0=>(bR kvs W f3 e2 e3 (by lia) (λz j hj=>by
   rcases Xj j i with y | y
   ·exact e5 z j y
   ·rw[show j=i by lia];exact c0))
  have rest2:∀H3,aW H H3->H3 fd=some (.dT kvs)->kvs≠[]->∃kvs W,H3 fd=some (.dT kvs)/\DWs kvs W/\Net a b W/\kvs.length<=2*(i+1)/\(kvs=[]->∀j,j<i+1->nr a b (j / 2) (j%2)=none):=λH3 _ f3 c0=>(bR kvs W f3 e2 e3 (by lia) (λz=>absurd z c0))
  have c1:(i:Int) / 2=((i / 2:Nat):Int):=by lia
  have c2:(i:Int)%2=((i%2:Nat):Int):=by lia
  cases ec:nr a b (i / 2) (i%2) with
  |none =>
   refine(eQ _ rfl rfl _ rfl (cF (by rfl) (zI ⟨gH,rest H2 gH (g2 _ _ e1) ec,_,_,_,rfl⟩)))
  |some qq =>
   obtain⟨gq,hq⟩:=RO ha (by lia) hp ec;have dput:DWs (putK (putK kvs (kk (i / 2) (i%2)) (vn qq)) (kk qq (i%2+2)) (.int ((i:Int) / 2))) (AU (AU W (i / 2) (i%2) qq) qq (i%2+2) (i / 2)):=by rw[c1];exact(e2.put _ _ _).put _ _ _
   have tk:∀{H3:Hp}{T:Addr}{x y:Int}{p h:Nat},H3 T=none->x=(p:Int)->y=(h:Int)->upd H3 T (.tup [.int x,.int y]) T=some (.tup ((kk p h).map kV)):=λ{H3 T x y p h} _ e1 e2=>by rw[aB,e1,e2];rfl
   refine(eQ _ rfl rfl _ rfl (dY (by rfl) (bT _ rfl _ _ rfl rfl (by show(0:Int)<4;decide) (lX _ _ rfl rfl _ rfl (uJ (λ_=>zH ?_) λ_=>?_)))))
   ·refine(cQ _ rfl _ rfl _ rfl (hV _ _ rfl rfl ⟨by decide,by decide⟩ _ rfl (bR _ _ rfl rfl (by show(0:Int)<2;decide) (by show 2<=ZW;decide) (λT1 hT1=>⟨fd,_,rfl,lW.t (k:=kk (i / 2) (i%2)) (aG hT1 _ _ _ (g2 _ _ e1)) (tk hT1 c1 c2) (eV (by lia)),?_⟩))));refine(bT _ rfl _ _ rfl rfl ⟨by decide,by decide⟩ (cQ _ rfl _ rfl _ rfl (aY _ _ rfl rfl (by show(0:Int)<2;decide) (aY _ _ rfl rfl (by show 2<=ZW;decide) (λT2 hT2=>⟨fd,_,rfl,lW.t (k:=kk qq (i%2+2)) (aG hT2 _ _ _ aB) (tk hT2 rfl (by lia)) (eV (Yt (bQ _ _ _) (by lia))),?_⟩)))));refine⟨((((gH).trans (aG hT1 _)).upd hfd).trans (aG hT2 _)).upd hfd,(bR _ _ aB dput (e3.put (by lia) hp hq gq) (Ys (bQ _ _ _) (by have:=bQ kvs (kk (i / 2) (i%2)) (von (some qq));lia)) (λz=>absurd z (IF _ _ _))),_,_,_,rfl⟩
   ·refine⟨_,rfl,λem hem=>(bB fd em kvs rfl rfl (.inl (aG hem _ _ _ (g2 _ _ e1))) (.inl aB) ⟨ _,rfl,uJ (λc=>?_) λc=>?_⟩)⟩
    ·refine(cQ _ rfl _ rfl _ rfl (hV _ _ rfl rfl ⟨by decide,by decide⟩ _ rfl (bR _ _ rfl rfl (by show(0:Int)<2;decide) (by show 2<=ZW;decide) (λT1 hT1=>⟨fd,_,rfl,lW.t (k:=kk (i / 2) (i%2)) (aG hT1 _ _ _ (aG hem _ _ _ (g2 _ _ e1))) (tk hT1 c1 c2) (eV (by lia)),?_⟩))));refine(bT _ rfl _ _ rfl rfl ⟨by decide,by decide⟩ (cQ _ rfl _ rfl _ rfl (aY _ _ rfl rfl (by show(0:Int)<2;decide) (aY _ _ rfl rfl (by show 2<=ZW;decide) (λT2 hT2=>⟨fd,_,rfl,lW.t (k:=kk qq (i%2+2)) (aG hT2 _ _ _ aB) (tk hT2 rfl (by lia)) (eV (Yt (bQ _ _ _) (by lia))),?_⟩)))));refine⟨((((gH.trans (aG hem _)).trans (aG hT1 _)).upd hfd).trans (aG hT2 _)).upd hfd,(bR _ _ aB dput (e3.put (by lia) hp hq gq) (Ys (bQ _ _ _) (by have:=bQ kvs (kk (i / 2) (i%2)) (von (some qq));lia)) (λz=>absurd z (IF _ _ _))),_,_,_,rfl⟩
    ·refine⟨gH.trans (aG hem _),rest2 _ (gH.trans (aG hem _)) (aG hem _ _ _ (g2 _ _ e1)) (λz=>c (by rw[z];rfl)),_,_,_,rfl⟩
 ·rintro σ H' ⟨g,⟨kvs,W,e1,e2,e3,e4,e5⟩,o1,o2,o3,rfl⟩;rw[eN]at e4 e5;have hne:0<kvs.length:=by
   cases kvs with
   |cons x r=>simp
   |nil =>
    have hab1:0<a*b:=Nat.mul_pos ha hb;have z0:=e5 rfl 0 (by lia);have z1:=e5 rfl 1 (by lia);unfold nr at z0 z1;simp only[Nat.zero_div,Nat.zero_mod,if_true]at z0;simp only[show(1:Nat) / 2=0 by decide,show(1:Nat)%2=1 by decide,Nat.zero_div,if_false,show ¬((1:Nat)=0) by decide]at z1;rcases h1 with h1 | h1
    ·rw[if_pos (by lia)]at z0;cases z0
    ·rw[if_pos (by lia)]at z1;cases z1
  refine(bT _ rfl fd kvs rfl e1 hne ⟨ λp hp=>?_,λpp bb hp hbb=>?_⟩)
  ·obtain⟨x,y,z,rfl⟩:=e2.1 p hp;exact⟨[(x:Int),(y:Int)],rfl⟩
  obtain⟨p0,h0,q0,rfl⟩:=e2.1 pp hp;have w0:∃h q,W p0 h=some q:=by
   obtain⟨u,hu'⟩:=kU hp;rw[e2.2]at hu';obtain⟨x,hx,_⟩:=Xk.mp hu';exact⟨h0,x,hx⟩
  refine .inr (.inl (aO bb _ _ _ rfl rfl (SqT.of hbb) ⟨ rfl,(by show 1<=ZW;decide),λca hca=>?_⟩));have hca':H ca=none:=g.free hca;have g2:=aG hca (.lst [vn p0]);obtain⟨h',q',w1⟩:=id w0;refine⟨λk σ H4=>∃(at':Nat) (come:List Nat),k=a*b-at'/\at'<=come.length/\aW H' H4/\H4 ca=some (.lst (vns come))/\Cm W (a*b) come/\(∀i,i<at'->∀h q,W (come.getD i 0) h=some q->q∈come)/\∃o1 o2 o3 o4,σ=[some (.ref sa),some (.ref za),some (.ref fd),o1,o2,o3,some (.ref ca),some (vn at'),o4,none,none],
   (bB _ 0 ([p0]) rfl (Nat.zero_le _) g2 aB ⟨ ⟨by simp,λp hp=>?_,Nat.one_pos,λp hp=>?_,⟨p0,by simp,λS _ sp p hp=>by rw[Zb.mp hp];exact sp⟩⟩,λi hi=>by lia,_,_,_,_,rfl⟩),?_⟩
  ·rw[Zb.mp hp];exact(e3.go _ _ _ w1).2.1
  ·rw[Zb.mp hp];exact w0
  rintro k σ H4 ⟨at',come,rfl,hat,g4,f4,c4,cl4,o1,o2,o3,o4,rfl⟩;have hfew:=c4.few;refine(bS _ rfl _ rfl ca _ rfl (iB (.inl (SqL.of f4)) _ _ rfl rfl _ rfl ?_));have hlv:((vns come).length:Nat)=come.length:=by simp
  by_cases hc:at' < come.length
  ·refine dY (decide_eq_true (by rw[hlv];lia)) ⟨_,λσ' H' h=>h,?_⟩;have p4:=getD_mem hc;refine⟨4,rfl,by decide,by decide,cI (lo:=0) (n:=4) (λi σ H5=>aW H' H5/\(∃ex,H5 ca=some (.lst (vns (come++ex)))/\Cm W (a*b) (come++ex)/\∀h q,h<i->W (come.getD at' 0) h=some q->q∈come++ex)/\∃o4,σ=[some (.ref sa),some (.ref za),some (.ref fd),o1,o2,o3,some (.ref ca),some (vn at'),o4,none,none]) ⟨g4,⟨[],by rw[List.append_nil];exact f4,by rw[List.append_nil];exact c4,λh q z=>by lia⟩,_,rfl⟩ ?_ ?_⟩
   ·rintro i σ H5 hi ⟨g5,⟨ex,f5,c5,cl5⟩,o4,rfl⟩;rw[show(0:Int)+(i:Int)=(i:Int) by lia];have hd5:=g5 _ _ e1;have ix:atI (vns (come++ex)) (at':Int)=some (vn (come.getD at' 0)):=by rw[lT (j:=at') (by simp;lia) rfl,iE hc]
    have i0:atI (vns (come++ex)) ((0:Nat):Int)=some (vn (come.getD 0 0)):=by rw[lT (j:=0) (by rw[Zm];lia) rfl,iE (by lia)]
    have m0:come.getD 0 0∈come++ex:=List.mem_append_left _ (getD_mem (by lia));refine(iV _ rfl fd rfl (.inr ⟨kvs,.inl hd5⟩) _ rfl (aI _ rfl ca _ _ _ rfl (oD rfl (SqL.of f5) ix _ rfl (by show 2<=ZW;decide) (λT1 hT1=>?_))));have g6:=aG hT1 (.tup [vn (come.getD at' 0),vn i]);refine(aI _ rfl ca _ _ _ rfl (bU rfl (SqL.of (g6 _ _ f5)) i0 _ (iJ.t (k:=kk (come.getD at' 0) i) (g6 _ _ hd5) aB) ?_));rw[e2.2];have hl5:=c5.few;cases ew:W (come.getD at' 0) i with
    |none =>
     refine(bT _ rfl ca _ rfl (.inl (SqL.of (g6 _ _ f5))) rfl ⟨ iD _,_,rfl,cF ?_ ⟨g5.trans g6,⟨ex,g6 _ _ f5,c5,λh q hh hq=>?_⟩,_,rfl⟩⟩)
     ·show(!inV (vn (come.getD 0 0)) (vns (come++ex)))=false;rw[jJ,decide_eq_true m0];rfl
     ·rcases Xj h i with z | z
      ·exact cl5 h q z hq
      ·rw[show h=i by lia,ew]at hq;cases hq
    |some qq =>
     refine(bT _ rfl ca _ rfl (.inl (SqL.of (g6 _ _ f5))) rfl ⟨ iD _,_,rfl,?_⟩);show if (!inV (vn qq) (vns (come++ex)))=true then _ else _
     rw[jJ];by_cases hm:qq∈come++ex
     ·refine cF (by rw[decide_eq_true hm];rfl) ⟨g5.trans g6,⟨ex,g6 _ _ f5,c5,λh q hh hq=>?_⟩,_,rfl⟩;rcases Xj h i with z | z
      ·exact cl5 h q z hq
      ·rw[show h=i by lia,ew]at hq;cases hq;exact hm
     ·refine dY (by rw[decide_eq_false hm];rfl) (c9 _ rfl (.inl ⟨rfl,_,SqL.of (g6 _ _ f5)⟩) _ rfl _ rfl (aI _ rfl ca _ _ _ rfl (oD rfl (SqL.of (g6 _ _ f5)) ix _ rfl (by show 2<=ZW;decide) (λT2 hT2=>?_))));have g7:=g6.trans (aG hT2 (.tup [vn (come.getD at' 0),vn i]));refine⟨fd,(fI (vn qq) rfl ?_ ca _ _ rfl (jL rfl (g7 _ _ f5) (eV (by simp at hl5 ⊢;lia)) ((g5.trans g7).upd hca) ⟨ex++[qq],?_,?_,λh q hh hq=>?_⟩ ⟨ _,rfl⟩))⟩
      ·have dg:=iJ.t (k:=kk (come.getD at' 0) i) (g7 _ _ hd5) (aB (H:=upd H5 T1 (.tup [vn (come.getD at' 0),vn i])) (a:=T2) (o:=.tup [vn (come.getD at' 0),vn i]));rw[e2.2,ew]at dg;exact dg
      ·rw[aB,<-Yd,oE]
      ·rw[<-Yd];obtain⟨b1,b2,b3,b4⟩:=e3.go _ _ _ ew;obtain⟨rr',hrr,hcn⟩:=c5.cn;refine⟨?_,λp hp=>?_,by simp;lia,λp hp=>?_,⟨rr',List.mem_append_left _ hrr,λS cl sr p hp=>(Zf.mp hp).elim (hcn S cl sr p) λz=>by rw[Zb.mp z];exact cl _ _ _ (hcn S cl sr _ (List.mem_append_left _ p4)) ew⟩⟩
       ·rw[List.nodup_append];exact⟨c5.nd,by simp,λx hx y hy z=>by rw[Zb.mp hy]at z;subst z;exact hm hx⟩
       ·rcases Zf.mp hp with z | z
        ·exact c5.lt p z
        ·rw[Zb.mp z];exact b3
       ·rcases Zf.mp hp with z | z
        ·exact c5.out p z
        ·rw[Zb.mp z];exact⟨_,_,e3.sym _ _ _ ew⟩
      ·rw[<-Yd];rcases Xj h i with z | z
       ·exact List.mem_append_left _ (cl5 h q z hq)
       ·rw[show h=i by lia,ew]at hq;cases hq;exact List.mem_append_right _ (by simp)
   ·rintro σ H5 ⟨g5,⟨ex,f5,c5,cl5⟩,o4,rfl⟩;have hl5:=c5.few;simp only[Zm]at hl5;refine(a9 _ rfl _ _ rfl rfl (bT (a*b-(at'+1)) (by lia) (at'+1) (come++ex) rfl (by simp;lia) g5 ⟨ f5,c5,λi hi h q hq=>?_,_,_,_,_,rfl⟩));rw[iE (by lia)]at hq;rcases Xj i at' with z | z
    ·exact List.mem_append_left _ (cl4 i z h q hq)
    ·rw[show i=at' by lia]at hq;exact cl5 h q (e3.go _ _ _ hq).1 hq
  ·refine cF (decide_eq_false (by rw[hlv];lia)) ?_;have cl:∀p∈come,∀h q,W p h=some q->q∈come:=λp hp h q hq=>by
    obtain⟨i,hi,rfl⟩:=mem_getD hp;exact cl4 i (by lia) h q hq
   obtain⟨nk,ck⟩:=J2 e3 c4 cl;refine λkd hkd=>?_;have g5:=aG hkd (.dT []);have hd5:=g5 _ _ (g4 _ _ e1);have nkf:kd≠fd:=λz=>by subst z;rw[g4 _ _ e1]at hkd;cases hkd
   refine(a9 _ rfl fd kvs rfl hd5 (λob=>?_));have fz:∀b o,b≠fd->H4 b=some o->upd (upd H4 kd (.dT [])) fd (.frz ob (.dT kvs)) b=some o:=λb o hb e=>by rw[aH hb];exact g5 _ _ e
   refine KF (d:=fd) (o:=ob) (kvs:=kvs) (λi σ H6=>(∀b o,b≠fd->H4 b=some o->H6 b=some o)/\H6 fd=some (.frz ob (.dT kvs))/\(∃ks,H6 kd=some (.dT ks)/\ks.length<=i/\(∀e∈ks,∃p h q:Nat,e=(kk p h,vn q))/\(∀(p h:Nat) v,cJ ks (kk p h)=some v->p∈come/\cJ kvs (kk p h)=some v)/\(∀j,j<i->∀(p h:Nat) v,kvs[j]?=some (kk p h,v)->p∈come->cJ ks (kk p h)=cJ kvs (kk p h)))/\∃o4 o5,σ=[some (.ref sa),some (.ref za),some (.ref fd),o1,o2,o3,some (.ref ca),some (vn at'),o4,some (.ref kd),o5]) ⟨fz,aB,(sU ([]) (by rw[aH nkf];exact aB) (Nat.zero_le _) (λe he=>(by cases he)) (λp h v e=>(by cases e)) (λj hj=>by lia)),_,_,rfl⟩ (λi σ H6 _ h=>h.2.1) ?_ ?_
   ·rintro i e σ H6 T1 hi ⟨k6,f6,⟨ks,d6,l6,s6,a6,b6⟩,o4,o5,rfl⟩ hT1;obtain⟨p1,h1',q1,rfl⟩:=e2.1 e (Zg hi);have hlt:i<kvs.length:=(Zj.mp hi).1;have nca:ca≠fd:=λz=>by subst z;rw[g4 _ _ e1]at f4;cases f4
    have f6c:=k6 ca _ nca f4;refine(aI _ rfl T1 _ _ _ rfl (bU rfl (SqT.of hT1) rfl _ rfl (bR ca _ rfl (.inl (SqL.of f6c)) rfl (iD _) ⟨ _,rfl,?_⟩)));show if inV (vn p1) (vns come)=true then _ else _
    rw[jJ];obtain⟨u1,hu1⟩:=kU (Zg hi);have hu2:=hu1;rw[e2.2]at hu2;obtain⟨x1,hx1,hx2⟩:=Xk.mp hu2;subst hx2;by_cases hm:p1∈come
    ·refine dY (decide_eq_true hm) (bS _ rfl _ rfl fd (vn x1) rfl (eF (.inr (iQ kvs (kk p1 h1') T1 (.inr ⟨_,f6⟩) rfl hT1 hu1.symm)) _ rfl _ rfl ⟨ kd,_,rfl,lW.t (k:=kk p1 h1') d6 hT1 (eV (by lia)),?_⟩));refine⟨λb o hb e=>?_,by rw[aH (Ne.symm nkf)];exact f6,(sU _ aB (Ys (bQ _ _ _) (by lia)) (λe he=>?_) (λp h v e=>?_) (λj hj p h v e hp=>?_)),_,_,rfl⟩
     ·rw[aH (λz=>by subst z;rw[hkd]at e;cases e)];exact k6 b o hb e
     ·rcases EE he with z | z
      ·exact s6 e z
      ·exact⟨p1,h1',x1,z⟩
     ·rw[dB]at e;split at e
      ·rename_i c
       obtain⟨rfl,rfl⟩:=lQ.mp c;injection e with e;exact⟨hm,by rw[<-e];exact hu1⟩
      ·exact a6 p h v e
     ·rw[dB];split
      ·rename_i c
       obtain⟨rfl,rfl⟩:=lQ.mp c;exact hu1.symm
      ·rename_i c
       rcases Xj j i with z | z
       ·exact b6 j z p h v e hp
       ·rw[show j=i by lia,hi]at e;injection e with e;injection e with e _;exact absurd e.symm c
    ·refine cF (decide_eq_false hm) ⟨k6,f6,(sU ks d6 (by lia) s6 a6 (λj hj p h v e hp=>?_)),_,_,rfl⟩;rcases Xj j i with z | z
     ·exact b6 j z p h v e hp
     ·rw[show j=i by lia,hi]at e;injection e with e;injection e with e _;rw[<-(lQ.mp e).1]at hp;exact absurd hp hm
   ·rintro σ H6 ⟨k6,f6,⟨ks,d6,l6,s6,a6,b6⟩,o4,o5,rfl⟩;have nca:ca≠fd:=λz=>by subst z;rw[g4 _ _ e1]at f4;cases f4
    have f6c:=k6 ca _ nca f4;have f6i:SqL K H6 ca ((come.map λn:Nat=>(n:Int)).map V.int):=SqL.of (by rw[f6c,zZ]);refine(bS _ rfl _ rfl ca _ rfl ⟨ f6i,by rw[Zq];lia,λsl ns' hsl hp hs=>?_⟩);obtain⟨cm,rfl,pm⟩:=F5 hp;rw[<-zZ];have dk:DWs ks (λp h=>if p∈come then W p h else none):=by
     refine⟨s6,λp h=>?_⟩;show cJ ks (kk p h)=Option.map vn (if p∈come then W p h else none);by_cases hpc:p∈come
     ·rw[if_pos hpc,<-e2.2];cases ev:cJ kvs (kk p h) with
      |none =>
       cases ev2:cJ ks (kk p h) with
       |none=>rfl
       |some v=>have:=(a6 p h v ev2).2;rw[ev]at this;cases this
      |some v =>
       obtain⟨j,hj⟩:=List.getElem?_of_mem (AA ev);rw[b6 j (Zj.mp hj).1 p h v hj hpc,ev]
     ·rw[if_neg hpc];cases ev2:cJ ks (kk p h) with
      |none=>rfl
      |some v=>exact absurd (a6 p h v ev2).1 hpc
    have ksl:kd≠sl:=λz=>by subst z;rw[d6]at hsl;cases hsl
    refine⟨(by show 2<=ZW;decide),λrr hrr=>?_⟩;have krr:kd≠rr:=λz=>by subst z;rw[aH ksl,d6]at hrr;cases hrr
    have srr:sl≠rr:=λz=>by subst z;rw[aB]at hrr;cases hrr
    refine q rr kd sl _ ks cm _ (λb o e=>?_) aB ?_ ?_ dk nk (ck.perm pm)
    ·have e4':=g4 _ _ (g _ _ e);have nb:b≠fd:=λz=>by subst z;rw[hfd]at e;cases e
     have e6:=k6 b o nb e4';rw[aH (λz=>by subst z;rw[aH (λz=>by subst z;rw[e6]at hsl;cases hsl),e6]at hrr;cases hrr),aH (λz=>by subst z;rw[e6]at hsl;cases hsl)];exact e6
    ·rw[aH krr,aH ksl];exact d6
    ·rw[aH srr];exact aB
end K36
namespace L2
open PySem PySem.Spec PyProof.Rows
theorem mK{J:It}{js:List (Option Nat)}{σ:St}{H1:Hp}{R:Hp->Prop}{D:Addr}{g:TG}{tc:TT}{te:TE}(n:Nat)(fs:Nat->V)(pf:Nat->Bool)(hD:H1 D=none)(hn:n<=90000)
  (go:∀i H',i<n->aW H1 H'->J.go i H') (stop:∀H',aW H1 H'->J.stop n H')
  (hs:∀i H' x H'' (kt:V->Hp->Prop) (kf:Hp->Prop),i<n->aW H1 H'->J.yld i H' x H''->(pf i=true->∀H4,aW H' H4->kt (fs i) H4)->(pf i=false->∀H4,aW H' H4->kf H4)->g x (inner js σ) H'' λσ2 H2=>Fills (inner js σ) σ2/\tc σ2 H2 λb H3=>if b=true then te σ2 H3 kt else kf H3)
  (hd:∀H',aW H1 H'->H' D=some (.lst (((List.range n).filter pf).map fs))->R H') :
  ∃W:Nat->Nat->List V->Hp->Prop,(∃m,W 0 m [] (upd H1 D (.lst []))) /\
   ∀i m ys H,W i m ys H->(J.stop i H/\R H)\/(J.go i H/\∃N:List V->Hp->Prop,(∀ys' H',N ys' H'->∃m',m' < m/\W (i+1) m' ys' H')/\∀x H',J.yld i H x H'->g x (inner js σ) H' λσ2 H2=>Fills (inner js σ) σ2/\tc σ2 H2 λb H3 =>
    if b=true then te σ2 H3 λy H4=>H4 D=some (.lst ys)/\ys.length<ZW/\N (ys++[y]) (upd H4 D (.lst (ys++[y]))) else N ys H3):=by
 refine sQ n (λi ys H'=>ys=((List.range i).filter pf).map fs/\aW H1 H'/\H' D=some (.lst ys)) ⟨rfl,aG hD _,aB⟩ ?_ ?_
 ·rintro i ys H' hi ⟨rfl,g1,e⟩;refine⟨go i H' hi g1,λx H'' y=>hs i H' x H'' _ _ hi g1 y (λc H4 g4=>⟨g4 _ _ e,?_,?_,(g1.trans g4).upd hD,aB⟩) λc H4 g4=>⟨?_,g1.trans g4,g4 _ _ e⟩⟩
  ·rw[Zq];exact eV (Yt (List.length_filter_le _ _) (by rw[Yj];lia))
  ·rw[List.range_succ,List.filter_append,Zt];simp[c]
  ·rw[List.range_succ,List.filter_append,Zt];simp[c]
 ·rintro ys H' ⟨rfl,g1,e⟩;exact⟨stop H' g1,hd H' g1 e⟩
def heads(W:Nat->Nat->Option Nat)(p:Nat):List Nat:=(List.range 4).filter λh=>(W p h).isSome
structure Plc(W:Nat->Nat->Option Nat)(come pl:List Nat):Prop where
 nd:pl.Nodup
 sub:∀p∈pl,p∈come
 ne:0<pl.length
 two:∀p∈come,p∉pl->(heads W p).length=2
theorem IT{ps:List Nat}{n:Nat}(nd:ps.Nodup)(lt:∀x∈ps,x<n)(hl:ps.length=n){i:Nat}(hi:i<n):i∈ps:=by
 refine Decidable.byContradiction λz=>?_;have:=MM.bW n (i::ps) (List.nodup_cons.mpr ⟨z,nd⟩) λx hx=>by
  rcases Zn.mp hx with y | y
  ·rw[y];exact hi
  ·exact lt x y
 simp at this;lia
theorem picked{ps fl:List Nat}(nd:ps.Nodup)(lt:∀x∈ps,x<fl.length)(hl:ps.length=fl.length)(nf:fl.Nodup):(ps.map λk=>fl.getD k 0).Nodup/\∀x,x∈(ps.map λk=>fl.getD k 0)↔x∈fl:=by
 refine⟨?_,λx=>⟨λh=>?_,λh=>?_⟩⟩
 ·rw[List.Nodup,List.pairwise_map];refine List.Pairwise.imp_of_mem (λ{a b} ha hb h e=>h ?_) nd;have h1:=lt a ha;have h2:=lt b hb;simp only[List.getD,Zz h1,Zz h2,Option.getD_some]at e;exact(List.getElem_inj nf).mp e
 ·obtain⟨k,hk,rfl⟩:=Zh.mp h;exact getD_mem (lt k hk)
 ·obtain⟨i,hi,rfl⟩:=mem_getD h;exact Zh.mpr ⟨i,IT nd lt hl hi,rfl⟩
end L2
namespace K36
open PySem L2 PyProof.Rows
def LQ(K:PySem.W.Frag):Sp:=λvs H Q _=>∃(sa wa ca:Addr) (ns:List Int) (kvs:List (List Key×V)) (W:Nat->Nat->Option Nat) (N:Nat) (come:List Nat),vs=[.ref sa,.ref wa,.ref ca]/\SqL K H sa (ns.map V.int)/\H wa=some (.dT kvs)/\DWs kvs W/\H ca=some (.lst (vns come))/\v7 W N come/\N<=10 /\
 ∀r pl H',H r=none->aW H H'->H' r=some (.lst (vns pl))->Plc W come pl->Q (.ref r) H'
theorem JH(T:Txt K mg t):cU P w K mg base CX0 2 t.yE t.xU ["_law_script","_law_ways_here","_law_come"] (LQ K):=by
 refine T.xQ.F.ok tE (λvs H Q E h=>?_) (λcdv A outer s H vs Q E hr h=>?_)
 ·obtain⟨sa,wa,ca,ns,kvs,W,N,come,rfl,_⟩:=h;rfl
 obtain⟨sa,wa,ca,ns,kvs,W,N,come,rfl,hS,hw,hW,hc,hC,hN,q⟩:=h;have nd:=tE.nd;have hu:=xN hr;have nd_l_k_l_found:(["_law_k","_law_found"]:List Str).Nodup:=by decide
 have nd_l_head_l_ways_here_l_point:(["_law_head","_law_ways_here","_law_point"]:List Str).Nodup:=by decide
 refine⟨_,(aF (aU 3 nd (bZ aE))
  (aF (cR PassesOwn.never rfl (cK (pv 2)) (aQ (i:=4) nd rfl (Or.inr rfl)) (aF (aU 5 nd (a7 a4 rfl T.eA PySem.boot_len (aA (dF (N':=["_law_head","_law_ways_here","_law_point"]) (js:=[none,some 1,some 4]) rfl (bP rfl T.bV (aA aC aE)) (λ_ _ _ _ _=>(aQ (i:=0) nd_l_head_l_ways_here_l_point rfl (Or.inl rfl))) (λ_ _ _ _ _=>(tX (y6 (C3 hu (b8 (aA (pv 2) (aA (pv 0) aE))) (pv 1))))) (λ_ _ _ _ _=>(pv 0))) aE)))
  (aK (fL (PW.pt (mW (bF xE (pv 5) aC (bO _)) (qJ (bF lK (aJ bG (bH (gI T) hr T.eE aX (aA (bH (eK T) hr T.bX aX (aA (pv 0) (aA aC aE))) (aA (aJ bD aC (pv 4)) aE))) aC) aC (bO _))))) (aK (bM (fN mAp bA (pv 3) (aA (pv 4) aE)))) dA))))
  (aF (fL (bF (JE hr.units) (pv 3) (bZ aE) (bO _)) (aK (aU 3 nd (lG oI (pv 2) kC (l8 aC)))) dA)
  (aK (bE (dF (N':=["_law_k","_law_found"]) (js:=[none,some 3]) rfl (cK (bH (DA T) hr T.uW aX (aA (bH (gI T) hr T.eE aX (aA (bH (eK T) hr T.bX aX (aA (pv 0) (aA aC aE))) (aA aC aE))) (aA (a7 a4 rfl T.eA PySem.boot_len (aA (pv 3) aE)) aE)))) (λ_ _ _ _ _=>(aQ (i:=0) nd_l_k_l_found rfl (Or.inl rfl))) (λ_ _ _ _ _=>dE) (λ_ _ _ _ _=>(aL (cP (K:=K) rfl) (pv 1) (pv 0) (λ_ _=>rfl))))))))),?_⟩
 refine⟨few (by decide),λfa hfa=>?_⟩;have g1:=aG hfa (.lst []);have hfew:=hC.few;have hlv:(vns come).length=come.length:=by simp
 refine(dI _ rfl ca rfl ⟨_,SqL.of (g1 _ _ hc)⟩ (jU (xs:=vns come) (λi σ H'=>aW H H'/\(∃fl,H' fa=some (.lst (vns fl))/\fl.Nodup/\(∀p∈fl,p∈come.take i)/\∀p∈come.take i,p∉fl->(heads W p).length=2)/\∃o1 o2,σ=[some (.ref sa),some (.ref wa),some (.ref ca),some (.ref fa),o1,o2]) ⟨g1,⟨[],aB,List.nodup_nil,λp hp=>(by cases hp),λp hp=>by simp at hp⟩,_,_,rfl⟩ (λi σ H' _ h=>SqL.of (h.1 _ _ hc)) ?_ ?_))
 ·rintro i x σ H' hx ⟨g,⟨fl,e1,e2,e3,e4⟩,o1,o2,rfl⟩;obtain⟨hi,rfl⟩:=pW hx;have pm:=getD_mem hi;have ft:come.take (i+1)=come.take i++[come.getD i 0]:=by
   rw[List.take_succ,Zz hi];simp[List.getD,hi]
  have nt:come.getD i 0∉come.take i:=by
   have nd1:=hC.nd;have:=List.Nodup.sublist (List.take_sublist (i+1) come) nd1;rw[ft,List.nodup_append]at this;exact λz=>this.2.2 _ z _ (Zb.mpr rfl) rfl
  have hfl:fl.length<=10:=Ys (MM.bW N fl e2 λp hp=>hC.lt p (List.mem_of_mem_take (e3 p hp))) hN;generalize hpp:come.getD i 0=p at pm ft nt ⊢;refine⟨_,rfl,by decide,by decide,λD hD=>?_⟩;refine mK 4 (λk=>vn k) (λh=>(W p h).isSome) hD (by decide) (λj H2 hj _=>hj) (λH2 _=>Nat.le_refl _) ?_ ?_
  ·rintro j H2 y H3 kt kf hj g2 ⟨rfl,rfl⟩ k1 k2;rw[show(0:Int)+(j:Int)=(j:Int) by lia];refine(D4 ((Fills.refl _).set _ rfl) _ rfl _ rfl (by show 2<=ZW;decide) (λT1 hT1=>?_));have g3:=aG hT1 (.tup [vn p,vn j]);refine(a9 _ rfl wa _ rfl (iJ.t (k:=kk p j) (g3 _ _ (g2 _ _ (g _ _ hw))) aB) ⟨ _,rfl,?_⟩);rw[hW.2];cases ew:W p j with
   |none=>exact zI (k2 (by rw[ew];rfl) _ g3)
   |some qq=>exact zH ⟨_,rfl,k1 (by rw[ew];rfl) _ g3⟩
  ·intro H2 g2 e5;have gH:=g.trans g2;have e6:(((List.range 4).filter λh=>(W p h).isSome).map λk=>vn k).length=(heads W p).length:=by rw[Zq];rfl
   refine⟨D,_,rfl,.inl (SqL.of e5),?_⟩;rw[e6];have step1:∃fl,H2 fa=some (.lst (vns fl))/\fl.Nodup/\(∀p∈fl,p∈come.take (i+1))/\((heads W p).length=2->∀p∈come.take (i+1),p∉fl->(heads W p).length=2):=⟨fl,g2 _ _ e1,e2,λx hx=>by rw[ft];exact List.mem_append_left _ (e3 x hx),λh2 x hx hn=>by
    rw[ft]at hx;rcases Zf.mp hx with z | z
    ·exact e4 x z hn
    ·rw[Zb.mp z];exact h2⟩
   have np:p∉fl:=λz=>nt (e3 p z);have step2:∀(H3:Hp),H3 fa=some (.lst (vns fl++[vn p]))->∃fl,H3 fa=some (.lst (vns fl))/\fl.Nodup/\(∀p∈fl,p∈come.take (i+1))/\∀p∈come.take (i+1),p∉fl->(heads W p).length=2:=λH3 e=>⟨fl++[p],by rw[e,oE],by
     rw[List.nodup_append];exact⟨e2,by simp,λx hx y hy z=>by rw[Zb.mp hy]at z;subst z;exact np hx⟩,λx hx=>by
     rw[ft];rcases Zf.mp hx with z | z
     ·exact List.mem_append_left _ (e3 x z)
     ·exact List.mem_append_right _ z,λx hx hn=>by
     rw[ft]at hx;rcases Zf.mp hx with z | z
     ·exact e4 x z λy=>hn (List.mem_append_left _ y)
     ·exact absurd (List.mem_append_right _ z) hn⟩
   refine(eQ _ rfl rfl _ rfl ?_);by_cases h2:(heads W p).length=2
   ·refine cF (by rw[h2];rfl) (cW _ rfl sa ns _ rfl (gH.seq hS) ⟨ by decide,λc=>(a9 _ rfl _ _ rfl rfl (aY c _ rfl (by lia) (by have:=hC.lt p pm;lia) (λm hm0 hm1=>(bR _ _ rfl rfl (by show(0:Int)<3;decide) rfl ⟨ _,rfl,uJ (λ_=>?_) λ_=>?_⟩))))⟩)
    ·refine(eQ _ rfl (.inl ⟨rfl,_,SqL.of (g2 _ _ e1)⟩) _ rfl (bB fa _ _ rfl rfl (g2 _ _ e1) (eV (by rw[Zq];lia)) ⟨ gH.upd hfa,step2 _ aB,_,_,rfl⟩))
    ·obtain⟨fl',z1,z2,z3,z4⟩:=step1;exact⟨gH,⟨fl',z1,z2,z3,z4 h2⟩,_,_,rfl⟩
   ·refine dY ?_ (zH (eQ _ rfl (.inl ⟨rfl,_,SqL.of (g2 _ _ e1)⟩) _ rfl (bB fa _ _ rfl rfl (g2 _ _ e1) (eV (by rw[Zq];lia)) ⟨ gH.upd hfa,step2 _ aB,_,_,rfl⟩)));simp only[Bool.not_eq_true',decide_eq_false_iff_not];intro z;injection z with z;lia
 ·rintro σ H' ⟨g,⟨fl,e1,e2,e3,e4⟩,o1,o2,rfl⟩;rw[hlv,Yw]at e3 e4;dsimp only;refine via (λσ' H2=>aW H H2/\∃(fb:Addr) (fl:List Nat),H2 fb=some (.lst (vns fl))/\Plc W come fl/\∃o1 o2,σ'=[some (.ref sa),some (.ref wa),some (.ref ca),some (.ref fb),o1,o2]) (λk=>?_) ?_
  ·refine⟨_,rfl,few (by decide),λem hem=>?_⟩;have g2:=aG hem (.lst []);refine(bR _ _ (.lst (SqL.of (g2 _ _ e1)) (mO fl)) (.lst (SqL.of aB) (mO [])) (jG fl) (jG []) ⟨ _,rfl,?_⟩);rw[BU];by_cases hz:fl=[]
   ·refine dY (by subst hz;rfl) (bS _ rfl _ rfl ca _ rfl ⟨ SqL.of (g2 _ _ (g _ _ hc)),λfb hfb=>k _ _ ?_⟩);rw[KY];have hct:(vns come).take 1=vns (come.take 1):=by unfold vns;rw[List.map_take]
    rw[hct];refine(iW ((g.trans g2).trans (aG hfb _)) fb (come.take 1) aB ⟨List.Nodup.sublist (List.take_sublist _ _) hC.nd,λp hp=>List.mem_of_mem_take hp,by rw[Yx];have:=hC.ne;lia,λp hp _=>e4 p hp (by rw[hz];simp)⟩ ⟨ _,_,rfl⟩)
   ·refine cF (by rw[decide_eq_false hz];rfl) (k _ _ (iW (g.trans g2) fa fl (g2 _ _ e1) ⟨e2,e3,List.length_pos_iff.mpr hz,e4⟩ ⟨ _,_,rfl⟩))
  ·rintro σ' H2 ⟨g2,fb,fl,f1,f2,o1,o2,rfl⟩;have hl:(vns fl).length=fl.length:=by simp
   have hfl:fl.length<=10:=Ys (MM.bW N fl f2.nd λp hp=>hC.lt p (f2.sub p hp)) hN;refine(cW _ rfl sa ns _ rfl (g2.seq hS) ⟨ by decide,λc=>(aY c _ rfl (by decide) (by decide) (λm hm0 hm1=>(a9 _ rfl fb _ rfl (.inl (SqL.of f1)) (aY m fl.length ?_ hm0 (by lia) (λta ps hta p1 p2 p3=>?_)))))⟩)
   ·rw[hl];rfl
   have g3:=aG hta (.lst (vns ps));refine⟨ta,rfl,⟨_,SqL.of aB⟩,λD hD=>?_⟩;refine c7 ps.length (λk=>vn (fl.getD (ps.getD k 0) 0)) hD (by lia) (λi H3 hi g4=>⟨_,_,SqL.of (g4 _ _ aB),by rw[Zk,Zz hi];rfl⟩) (λH3 g4=>⟨_,SqL.of (g4 _ _ aB),by simp⟩) ?_ ?_
   ·rintro i H3 x H4 kk' hi g4 ⟨rfl,hy⟩ hk;have hx:=hy _ (SqL.of (g4 _ _ aB));obtain⟨_,rfl⟩:=pW hx;exact(eF ((Fills.refl _).set _ rfl) _ rfl _ rfl (aO fb _ _ _ rfl rfl (SqL.of (g4 _ _ (g3 _ _ f1))) ⟨ lT (p2 _ (getD_mem hi)) rfl,hk _ (aW.refl _)⟩))
   ·intro H3 g4 e5;obtain⟨k1,k2⟩:=picked p1 p2 p3 f2.nd;refine q D (ps.map λk=>fl.getD k 0) H3 ((g2.trans g3).free hD) ((g2.trans g3).trans g4) ?_ ⟨k1,λp hp=>f2.sub p ((k2 p).mp hp),by rw[Zq,p3];exact f2.ne,λp hp hn=>f2.two p hp λz=>hn ((k2 p).mpr z)⟩;rw[e5];unfold vns;rw[Yb];exact congrArg (λz=>some (HO.lst z)) (sJ ps λk=>vn (fl.getD k 0))
end K36
namespace L2
open PySem PySem.Spec PyProof.Rows
theorem dU.new{g:Addr}{H H4:Hp}{T:Addr}{o:HO}(s:dU g H H4)(h:H4 T=none):dU g H (upd H4 T o):=λb u hb e=>by
 have:=s b u hb e;rw[aH (aN this h)];exact this
theorem dU.at{g:Addr}{H H4:Hp}{o:HO}(s:dU g H H4):dU g H (upd H4 g o):=λb u hb e=>by rw[aH hb];exact s b u hb e
theorem dU.fr{g:Addr}{H H4:Hp}{l:Addr}{o:HO}(s:dU g H H4)(h:H l=none):dU g H (upd H4 l o):=λb u hb e=>by rw[aH (aN e h)];exact s b u hb e
structure j6(W:Nat->Nat->Option Nat)(pl pts hs:List Nat):Prop where
 len:pts.length=hs.length+1
 go:∀i,i<hs.length->W (pts.getD i 0) (hs.getD i 0)=some (pts.getD (i+1) 0)
 mid:∀i,0<i->i<hs.length->pts.getD i 0∉pl
 on:∀i,i+1<hs.length->hs.getD (i+1) 0≠(hs.getD i 0+2)%4
 df:∀i j,i<hs.length->j<hs.length->pts.getD i 0=pts.getD j 0->hs.getD i 0=hs.getD j 0->i=j
 fst:pts.getD 0 0∈pl
theorem iU{W:Nat->Nat->Option Nat}{p h:Nat}:h∈heads W p↔h<4/\(W p h).isSome=true:=by
 unfold heads;rw[Yz,Zs]
theorem BL(W:Nat->Nat->Option Nat)(p:Nat):(heads W p).Nodup:=List.Nodup.sublist List.filter_sublist List.nodup_range
theorem OA{l:List Nat}(h:l.length=2){x y z:Nat}(hx:x∈l)(hy:y∈l)(hz:z∈l)(h1:x≠y)(h2:x≠z):y=z:=by
 match l,h with
 |[u,v],_ =>
  simp only[Zn,List.not_mem_nil,or_false]at hx hy hz
  lia
theorem jD{l:List Nat}{x:Nat}:(l++[x]).getD l.length 0=x:=by simp[List.getD]
theorem j6.few{a b:Nat}{W:Nat->Nat->Option Nat}{pl pts hs:List Nat}(n:Net a b W)(t:j6 W pl pts hs)(hab:a*b<=10):hs.length<=40:=by
 have h:=MM.bW 40 ((List.range hs.length).map λi=>4*pts.getD i 0+hs.getD i 0) ?_ ?_
 ·simpa using h
 ·rw[List.Nodup,List.pairwise_map];refine List.Pairwise.imp_of_mem (λ{i j} hi hj hne e=>hne ?_) List.nodup_range;have hi:=Zs.mp hi;have hj:=Zs.mp hj;have g1:=(n.go _ _ _ (t.go i hi)).1;have g2:=(n.go _ _ _ (t.go j hj)).1;exact t.df i j hi hj (by lia) (by lia)
 ·intro x hx;obtain⟨i,hi,rfl⟩:=Zh.mp hx;have g1:=n.go _ _ _ (t.go i (Zs.mp hi))
  lia
theorem j6.more{a b:Nat}{W:Nat->Nat->Option Nat}{come pl pts hs:List Nat}(n:Net a b W)(cm:v7 W (a*b) come)(pc:Plc W come pl)(t:j6 W pl pts hs){h r:Nat}(hw:W (pts.getD hs.length 0) h=some r)
  (hn:0<hs.length->pts.getD hs.length 0∉pl/\h≠(hs.getD (hs.length-1) 0+2)%4):j6 W pl (pts++[r]) (hs++[h]):=by
 have hl:=t.len;have gp:∀{i},i<=hs.length->(pts++[r]).getD i 0=pts.getD i 0:=λhi=>iE (by lia);have gh:∀{i},i<hs.length->(hs++[h]).getD i 0=hs.getD i 0:=λhi=>iE hi;have ge:(hs++[h]).getD hs.length 0=h:=jD;have gl:(pts++[r]).getD (hs.length+1) 0=r:=by rw[<-hl];exact jD
 have hh:h<4:=(n.go _ _ _ hw).1;have new:∀j,j<hs.length->pts.getD j 0=pts.getD hs.length 0->hs.getD j 0=h->False:=by
  intro j hj e1 e2;obtain⟨nq,nb⟩:=hn (by lia);have j0:0<j:=by
   rcases Nat.eq_zero_or_pos j with z | z
   ·subst z;rw[<-e1]at nq;exact absurd t.fst nq
   ·exact z
  have w1:=n.sym _ _ _ (t.go (hs.length-1) (by lia));rw[show hs.length-1+1=hs.length by lia]at w1;have w2:=n.sym _ _ _ (t.go (j-1) (by lia));rw[show j-1+1=j by lia,e1]at w2;have on:=t.on (j-1) (by lia);rw[show j-1+1=j by lia,e2]at on;have qc:pts.getD hs.length 0∈come:=cm.cl _ _ _ hw;have l1:=(n.go _ _ _ (t.go (hs.length-1) (by lia))).1;have l2:=(n.go _ _ _ (t.go (j-1) (by lia))).1;have bb:=OA (pc.two _ qc nq) (iU.mpr ⟨hh,by rw[hw];rfl⟩) (iU.mpr ⟨by lia,by rw[w1];rfl⟩) (iU.mpr ⟨by lia,by rw[w2];rfl⟩) nb on;have eh:hs.getD (hs.length-1) 0=hs.getD (j-1) 0:=by lia
  rw[bb,w2]at w1;injection w1 with w1;have:=t.df _ _ (by lia) (by lia) w1.symm eh
  lia
 refine⟨by simp;lia,λi hi=>?_,λi h0 hi=>?_,λi hi=>?_,λi j hi hj e1 e2=>?_,by rw[gp (Nat.zero_le _)];exact t.fst⟩
 ·simp only[Zm,ZQ]at hi;rcases Xj i hs.length with z | z
  ·rw[gp (by lia),gh z,gp (by lia)];exact t.go i z
  ·rw[show i=hs.length by lia,gp (Nat.le_refl _),ge,gl];exact hw
 ·simp only[Zm,ZQ]at hi;rw[gp (by lia)];rcases Xj i hs.length with z | z
  ·exact t.mid i h0 z
  ·rw[show i=hs.length by lia];exact(hn (by lia)).1
 ·simp only[Zm,ZQ]at hi;rcases Xj (i+1) hs.length with z | z
  ·rw[gh z,gh (by lia)];exact t.on i z
  ·have e:i+1=hs.length:=by lia
   rw[e,ge,gh (by lia),show i=hs.length-1 by lia];exact(hn (by lia)).2
 ·simp only[Zm,ZQ]at hi hj;rw[gp (by lia),gp (by lia)]at e1;rcases Xj i hs.length with y | y
  ·rcases Xj j hs.length with z | z
   ·rw[gh y,gh z]at e2;exact t.df i j y z e1 e2
   ·have ej:j=hs.length:=by lia
    subst ej;rw[gh y,ge]at e2;exact(new i y e1 e2).elim
  ·have ei:i=hs.length:=by lia
   subst ei;rcases Xj j hs.length with z | z
   ·rw[gh z,ge]at e2;exact(new j z e1.symm e2.symm).elim
   ·lia
theorem xH{a b:Nat}{W:Nat->Nat->Option Nat}{come pl:List Nat}(n:Net a b W)(cm:v7 W (a*b) come)(pc:Plc W come pl){p q h:Nat}(hw:W p h=some q)(hq:q∉pl) :
  ∃x r,((List.range 4).filter λo=>(W q o).isSome&&decide (o≠(h+2)%4))=x::r/\(∃z,W q x=some z)/\x≠(h+2)%4/\x<4:=by
 have w1:=n.sym _ _ _ hw;have qc:=cm.cl _ _ _ w1;have h2:=pc.two q qc hq;cases e:((List.range 4).filter λo=>(W q o).isSome&&decide (o≠(h+2)%4)) with
 |nil =>
  exfalso;have all:∀x∈heads W q,x=(h+2)%4:=λx hx=>by
   obtain⟨x1,x2⟩:=iU.mp hx;refine Decidable.byContradiction λz=>?_;have:x∈((List.range 4).filter λo=>(W q o).isSome&&decide (o≠(h+2)%4)):=by
    rw[Yz];exact⟨Zs.mpr x1,by rw[x2];simpa using z⟩
   rw[e]at this;cases this
  have nd:=BL W q
  match hh:heads W q,h2 with
  |[u,v],_ =>
   rw[hh]at nd all;have e1:=all u (by simp);have e2:=all v (by simp);simp[e1,e2]at nd
 |cons x r =>
  have hx:x∈((List.range 4).filter λo=>(W q o).isSome&&decide (o≠(h+2)%4)):=by rw[e];simp
  rw[Yz,Xx]at hx;exact⟨x,r,rfl,Option.isSome_iff_exists.mp hx.2.1,of_decide_eq_true hx.2.2,Zs.mp hx.1⟩
theorem jZ{l:List Nat}{m:Nat}(h:l.length=m+1):atI (vns l) (-1)=some (vn (l.getD m 0)):=by
 unfold atI;have e:ixN (vns l).length (-1)=some m:=by
  unfold ixN;rw[Zq,if_neg (by decide),if_pos (by lia)];simp only[Option.some.injEq];lia
 rw[e];show(vns l)[m]?=_;rw[Zk,Zz (by lia)];simp[List.getD,show m<l.length by lia]
def Gn(pl:List Nat)(gs:List (List Key×V))(p h:Nat)(pts hs:List Nat)(hv:Nat)(gs':List (List Key×V)):Prop :=
 (∀x y:Nat,(cJ gs' (kk x y)).isSome=true->(cJ gs (kk x y)).isSome=true\/x∉pl\/(x=p/\y=h)\/(0<hs.length/\x=pts.getD hs.length 0/\y=(hs.getD (hs.length-1) 0+2)%4)) /\
 (∀x y:Nat,(cJ gs (kk x y)).isSome=true->(cJ gs' (kk x y)).isSome=true)/\(hs.length=0->hv=h) /\
 (0<hs.length->hs.getD 0 0=h/\(cJ gs' (kk p h)).isSome=true/\(cJ gs' (kk (pts.getD hs.length 0) ((hs.getD (hs.length-1) 0+2)%4))).isSome=true)
theorem Gn.step{pl:List Nat}{gs gs':List (List Key×V)}{p h hv r x:Nat}{pts hs:List Nat}(g:Gn pl gs p h pts hs hv gs')(z0:pts.getD 0 0=p)(hlen:pts.length=hs.length+1)(hc:hs.length=0\/pts.getD hs.length 0∉pl) :
  Gn pl gs p h (pts++[r]) (hs++[hv]) x (putK (putK gs' (kk (pts.getD hs.length 0) hv) (.bl true)) (kk r ((hv+2)%4)) (.bl true)):=by
 have e1:(pts++[r]).getD (hs.length+1) 0=r:=by rw[<-hlen];exact jD
 have e2:(hs++[hv]).getD hs.length 0=hv:=jD;have up:∀u v:Nat,(cJ gs' (kk u v)).isSome=true->(cJ (putK (putK gs' (kk (pts.getD hs.length 0) hv) (.bl true)) (kk r ((hv+2)%4)) (.bl true)) (kk u v)).isSome=true:=λu v e=>by
  rw[dB];split
  ·rfl
  ·rw[dB];split
   ·rfl
   ·exact e
 unfold Gn;simp only[Zm,ZQ,Nat.add_sub_cancel];rw[e1,e2];refine⟨λu v e=>?_,λu v e=>up u v (g.2.1 u v e),λz=>by lia,λ_=>⟨?_,?_,?_⟩⟩
 ·rw[dB]at e;split at e
  ·rename_i c
   obtain⟨c1,c2⟩:=lQ.mp c;exact .inr (.inr (.inr ⟨by lia,c1,c2⟩))
  ·rw[dB]at e;split at e
   ·rename_i c
    obtain⟨c1,c2⟩:=lQ.mp c;rcases hc with q | q
    ·rw[q,z0]at c1;exact .inr (.inr (.inl ⟨c1,by rw[c2];exact g.2.2.1 q⟩))
    ·exact .inr (.inl (by rw[c1];exact q))
   ·rcases g.1 u v e with i1 | i1 | i1 | ⟨i1,i2,_⟩
    ·exact .inl i1
    ·exact .inr (.inl i1)
    ·exact .inr (.inr (.inl i1))
    ·rcases hc with q | q
     ·lia
     ·exact .inr (.inl (by rw[i2];exact q))
 ·by_cases q:hs.length=0
  ·have:hs=[]:=List.eq_nil_of_length_eq_zero q;subst this;exact g.2.2.1 q
  ·rw[iE (by lia)];exact(g.2.2.2 (by lia)).1
 ·by_cases q:hs.length=0
  ·rw[dB];split
   ·rfl
   ·rw[dB,if_pos (lQ.mpr ⟨by rw[q,z0],(g.2.2.1 q).symm⟩)];rfl
  ·exact up _ _ (g.2.2.2 (by lia)).2.1
 ·rw[dB,if_pos rfl];rfl
end L2
namespace K36
open PySem L2 PyProof.Rows
def OQ:Sp:=λvs H Q _=>∃(wa pa ga:Addr) (a b p h:Nat) (kvs gs:List (List Key×V)) (W:Nat->Nat->Option Nat) (come pl:List Nat),vs=[.ref wa,.ref pa,vn p,vn h,.ref ga]/\H wa=some (.dT kvs)/\DWs kvs W/\Net a b W/\v7 W (a*b) come/\a*b<=10/\Plc W come pl/\H pa=some (.lst (vns pl))/\H ga=some (.dT gs)/\ga≠wa/\gs.length<=50000/\p∈pl/\(∃q,W p h=some q) /\
 ∀r H' pts hs gs',H r=none->dU ga H H'->H' r=some (.lst (vns pts))->H' ga=some (.dT gs')->gs'.length<=gs.length+80->j6 W pl pts hs->0<hs.length->hs.length<=40->pts.getD 0 0=p->pts.getD hs.length 0∈pl->(∃hv,Gn pl gs p h pts hs hv gs')->Q (.ref r) H'
theorem MN(T:Txt K mg t):cU P w K mg base CX0 1 t.CC t.B0 ["_law_ways_here","_law_places","_law_point","_law_head","_law_gone"] OQ:=by
 refine T.BR.F.ok wW (λvs H Q E h=>?_) (λcdv A outer s H vs Q E hr h=>?_)
 ·obtain⟨wa,pa,ga,a,b,p,h,kvs,gs,W,come,pl,rfl,_⟩:=h;rfl
 obtain⟨wa,pa,ga,a,b,p,h,kvs,gs,W,come,pl,rfl,hw,hW,hN,hC,hab,hP,hpa,hga,ngw,hgl,hp,hph,q⟩:=h;have nd:=wW.nd;have hu:=xN hr;have nd_l_one_l_ways_here_l_back_l_line_here:(["_law_one","_law_ways_here","_law_back","_law_line_here"]:List Str).Nodup:=by decide
 refine⟨_,(aF (aU 5 nd (bZ (aA (pv 2) aE)))
  (aF (jS PassesOwn.never (PW.pt (mW (bF lK (a7 a4 rfl T.eA PySem.boot_len (aA (pv 5) aE)) aC (bO _)) (qJ (bF iR (aL aR (pv 5) (jT fY aC) (λ_ _=>rfl)) (pv 1) rfl)))) (aF (aU 6 nd (aL aR (pv 5) (jT fY aC) (λ_ _=>rfl)))
  (aF (kB hu (pv 4) (b8 (aA (pv 6) (aA (pv 3) aE))) xD rfl)
  (aF (bM (fN mAp bA (pv 5) (aA (oT hu (pv 0) (b8 (aA (pv 6) (aA (pv 3) aE))) (λ_ _=>rfl)) aE)))
  (aF (kB hu (pv 4) (b8 (aA (aL aR (pv 5) (jT fY aC) (λ_ _=>rfl)) (aA (aJ bG (aJ bD (pv 3) aC) aC) aE))) xD rfl)
  (aK (fL (bF iR (aL aR (pv 5) (jT fY aC) (λ_ _=>rfl)) (pv 1) rfl) (aF (aU 7 nd (aJ bG (aJ bD (pv 3) aC) aC))
  (aK (aU 3 nd (aL aR (dF (N':=["_law_one","_law_ways_here","_law_back","_law_line_here"]) (js:=[none,some 0,some 7,some 5]) rfl (bP rfl T.bV (aA aC aE)) (λ_ _ _ _ _=>(aQ (i:=0) nd_l_one_l_ways_here_l_back_l_line_here rfl (Or.inl rfl))) (λ_ _ _ _ _=>(tX (PW.pt (C0 (y6 (C3 hu (b8 (aA (aL (cP (K:=K) rfl) (pv 3) (jT fY aC) (λ_ _=>rfl)) (aA (pv 0) aE))) (pv 1))) (y0 (bF xE (pv 0) (pv 2) (bO _))))))) (λ_ _ _ _ _=>(pv 0))) aC (λ_ _=>rfl))))) dA)))))))
  (aK (bE (pv 5))))),?_⟩
 refine⟨_,rfl,(by show 1<=ZW;decide),λla hla=>?_⟩;have npg:pa≠ga:=λz=>by subst z;rw[hga]at hpa;cases hpa
 have nlg:la≠ga:=λz=>by subst z;rw[hga]at hla;cases hla
 have h2s:2<=ZW:=by decide
 refine⟨λk σ H4=>∃(pts hs:List Nat) (gs':List (List Key×V)) (hv:Nat),k=41-hs.length/\j6 W pl pts hs/\dU ga H H4/\H4 la=some (.lst (vns pts))/\H4 ga=some (.dT gs')/\gs'.length<=gs.length+2*hs.length/\pts.getD 0 0=p /\
   Gn pl gs p h pts hs hv gs'/\((hs.length=0\/pts.getD hs.length 0∉pl)->(∃r,W (pts.getD hs.length 0) hv=some r)/\(0<hs.length->hv≠(hs.getD (hs.length-1) 0+2)%4)) /\
   ∃o1 o2,σ=[some (.ref wa),some (.ref pa),some (vn p),some (vn hv),some (.ref ga),some (.ref la),o1,o2],
  (cV _ ([p]) ([]) gs h rfl ⟨rfl,λi hi=>(by cases hi),λi _ hi=>(by cases hi),λi hi=>(by cases hi),λi j hi=>(by cases hi),hp⟩ (dX (λb o hb e=>(by rw[aH (aN e hla)];exact e)) aB (by rw[aH (Ne.symm nlg)];exact hga) (Nat.le_refl _) rfl ⟨λx y z=>.inl z,λx y z=>z,λ_=>rfl,λz=>absurd z (Nat.lt_irrefl _)⟩ (λ_=>⟨hph,λz=>by cases z⟩) ⟨ _,_,rfl⟩)),?_⟩
 rintro k σ H4 ⟨pts,hs,gs',hv,rfl,tr,sb,f1,f2,l2,z0,inv,nx,o1,o2,rfl⟩;have hlen:=tr.len;have h40:=tr.few hN hab;have hlv:(vns pts).length=hs.length+1:=by rw[Zq];exact hlen
 have fpa:=sb pa _ npg hpa;have fwa:=sb wa _ (Ne.symm ngw) hw;refine(bT _ rfl la _ rfl (.inl (SqL.of f1)) rfl ⟨ _,rfl,?_⟩);rw[hlv];by_cases hc:hs.length=0\/pts.getD hs.length 0∉pl
 ·
  obtain⟨⟨r,hr1⟩,hb⟩:=nx hc;have tr2:=tr.more hN hC hP hr1 (λz=>⟨hc.resolve_left (λy=>by lia),hb z⟩);have hl2:=tr2.len;simp only[Zm,ZQ]at hl2;have h41:=tr2.few hN hab;simp only[Zm,ZQ]at h41;have gE:(pts++[r]).getD (hs.length+1) 0=r:=by rw[<-hlen];exact jD
  have hv4:=(hN.go _ _ _ hr1).1;have vl2:atI (vns (pts++[r])) (-1)=some (vn r):=by rw[jZ (m:=hs.length+1) (by simp;lia),gE]
  rcases Nat.eq_zero_or_pos hs.length with c0 | c0
  ·refine dY (by rw[c0];rfl) (zH ⟨_,λσ' H' h=>h,?_⟩);refine⟨_,rfl,(aI _ rfl la _ _ _ rfl ⟨ rfl,SqL.of f1,jZ hlen,?_⟩)⟩;refine(nW _ rfl _ rfl _ rfl h2s (λT1 hT1=>⟨ga,_,rfl,lW.t (k:=kk (pts.getD hs.length 0) hv) (aG hT1 _ _ _ f2) aB (eV (by lia)),?_⟩));have sb2:=(sb.new (o:=.tup [vn (pts.getD hs.length 0),vn hv]) hT1).at (o:=.dT (putK gs' (kk (pts.getD hs.length 0) hv) (.bl true)));have f1b:upd (upd H4 T1 (.tup [vn (pts.getD hs.length 0),vn hv])) ga (.dT (putK gs' (kk (pts.getD hs.length 0) hv) (.bl true))) la=some (.lst (vns pts)):=by rw[aH nlg];exact aG hT1 _ _ _ f1
   refine(c9 _ rfl (.inl ⟨rfl,_,SqL.of f1b⟩) _ rfl _ rfl ⟨ _,rfl,h2s,λT2 hT2=>⟨wa,(fI (vn r) rfl ?_ la _ _ rfl ⟨ rfl,aG hT2 _ _ _ f1b,eV (by lia),?_⟩)⟩⟩)
   ·have dg:=iJ.t (k:=kk (pts.getD hs.length 0) hv) (aG hT2 (.tup [vn (pts.getD hs.length 0),vn hv]) _ _ (sb2 wa _ (Ne.symm ngw) hw)) aB;rw[hW.2,hr1]at dg;exact dg
   rw[oE];have sb3:=(sb2.new (o:=.tup [vn (pts.getD hs.length 0),vn hv]) hT2).fr (o:=.lst (vns (pts++[r]))) hla;have f2c:∀{o},upd (upd (upd (upd H4 T1 (.tup [vn (pts.getD hs.length 0),vn hv])) ga (.dT (putK gs' (kk (pts.getD hs.length 0) hv) (.bl true)))) T2 o) la (.lst (vns (pts++[r]))) ga=some (.dT (putK gs' (kk (pts.getD hs.length 0) hv) (.bl true))):=λ{o}=>by rw[aH (Ne.symm nlg)];exact aG hT2 _ _ _ aB
   refine(cQ _ rfl _ rfl _ rfl (aO la _ _ _ rfl rfl (SqL.of aB) (sW vl2 _ rfl _ _ rfl rfl (bR _ _ rfl rfl (by show(0:Int)<4;decide) h2s (λT3 hT3=>⟨ga,_,rfl,lW.t (k:=kk r ((hv+2)%4)) (aG hT3 _ _ _ f2c) (by rw[aB];show some (HO.tup [vn r,V.int (((hv:Int)+2)%4)])=_;rw[show((hv:Int)+2)%4=(((hv+2)%4:Nat):Int) by lia];rfl) (eV (Yt (bQ _ _ _) (by lia))),?_⟩)))));have sb4:=(sb3.new (o:=.tup [vn r,.int (((hv:Int)+2)%4)]) hT3).at (o:=.dT (putK (putK gs' (kk (pts.getD hs.length 0) hv) (.bl true)) (kk r ((hv+2)%4)) (.bl true)));have f1d:∀{o'},upd (upd (upd (upd (upd (upd H4 T1 (.tup [vn (pts.getD hs.length 0),vn hv])) ga (.dT (putK gs' (kk (pts.getD hs.length 0) hv) (.bl true)))) T2 (.tup [vn (pts.getD hs.length 0),vn hv])) la (.lst (vns (pts++[r])))) T3 o') ga (.dT (putK (putK gs' (kk (pts.getD hs.length 0) hv) (.bl true)) (kk r ((hv+2)%4)) (.bl true))) la=some (.lst (vns (pts++[r]))):=λ{o'}=>by rw[aH nlg];exact aG hT3 _ _ _ aB
   have lg2:(putK (putK gs' (kk (pts.getD hs.length 0) hv) (.bl true)) (kk r ((hv+2)%4)) (.bl true)).length<=gs.length+2*(hs.length+1):=Ys (bQ _ _ _) (by have:=bQ gs' (kk (pts.getD hs.length 0) hv) (.bl true);lia);have z02:(pts++[r]).getD 0 0=p:=by rw[iE (by lia)];exact z0
   refine⟨_,rfl,(aI _ rfl la _ _ _ rfl (bU rfl (SqL.of f1d) vl2 _ rfl (bR pa _ rfl (.inl (SqL.of (sb4 pa _ npg hpa))) rfl (iD _) ⟨ _,rfl,?_⟩)))⟩;show if (!inV (vn r) (vns pl))=true then _ else _
   rw[jJ];have gH:(hs++[hv]).getD hs.length 0=hv:=jD;by_cases hrp:r∈pl
   ·refine cF (by rw[decide_eq_true hrp];rfl) (aI (41-(hs.length+1)) (by lia) (pts++[r]) (hs++[hv]) _ hv (by simp) (dX tr2 sb4 f1d aB (by simp;exact lg2) z02 (inv.step z0 hlen hc) ⟨ λz=>?_,_,_,rfl⟩));simp only[Zm,ZQ]at z;rw[gE]at z;rcases z with z | z
    ·lia
    ·exact absurd hrp z
   ·refine dY (by rw[decide_eq_false hrp];rfl) (a9 _ rfl _ _ rfl rfl (aY _ _ rfl rfl (by show(0:Int)<4;decide) ?_));obtain⟨x,rr,ex,⟨zz,ezz⟩,nxb,x4⟩:=xH hN hC hP hr1 hrp;refine⟨4,rfl,by decide,by decide,λD hD=>?_⟩;refine mK 4 (λk=>vn k) (λo=>(W r o).isSome&&decide (o≠(hv+2)%4)) hD (by decide) (λj H2 hj _=>hj) (λH2 _=>Nat.le_refl _) ?_ ?_
    ·rintro j H2 y H3 kt kf hj g2 ⟨rfl,rfl⟩ k1 k2;rw[show(0:Int)+(j:Int)=(j:Int) by lia];refine(eF ((Fills.refl _).set _ rfl) _ rfl _ rfl (aO la _ _ _ rfl rfl (SqL.of (g2 _ _ f1d)) ⟨ vl2,_,rfl,h2s,λT4 hT4=>?_⟩));have g3:=aG hT4 (.tup [vn r,vn j]);refine(a9 _ rfl wa _ rfl (iJ.t (k:=kk r j) (g3 _ _ (g2 _ _ (sb4 wa _ (Ne.symm ngw) hw))) aB) ⟨ _,rfl,?_⟩);rw[hW.2];cases ew:W r j with
     |none=>exact zI (zI (k2 (by rw[ew];rfl) _ g3))
     |some qq =>
      refine zH (iV _ rfl _ rfl rfl _ rfl ?_);have ce:(V.int (j:Int)=V.int (((hv:Int)+2)%4))↔j=(hv+2)%4:=⟨λz=>by injection z with z;lia,λz=>by rw[z];first | rfl | (congr 1;omega)⟩
      by_cases cj:j=(hv+2)%4
      ·exact cF (by rw[Bool.not_eq_false',decide_eq_true_iff];exact ce.mpr cj) (k2 (by rw[ew];simp[cj]) _ g3)
      ·exact dY (by rw[Bool.not_eq_true',decide_eq_false_iff_not];exact λz=>cj (ce.mp z)) ⟨_,rfl,k1 (by rw[ew];simpa using cj) _ g3⟩
    ·intro H5 g5 e5;rw[ex]at e5;refine(aO D _ _ _ rfl rfl (SqL.of e5) ⟨ (show atI (List.map (λk=>vn k) (x::rr)) ((0:Nat):Int)=some (vn x) from cE rfl),?_⟩);refine(aI (41-(hs.length+1)) (by lia) (pts++[r]) (hs++[hv]) _ x (by simp) (dX tr2 (λb o hb e=>g5 _ _ (sb4 b o hb e)) (g5 _ _ f1d) (g5 _ _ aB) (by simp;exact lg2) z02 (inv.step z0 hlen hc) ⟨ λ_=>?_,_,_,rfl⟩));simp only[Zm,ZQ,Nat.add_sub_cancel];rw[gE,gH];exact⟨⟨zz,ezz⟩,λ_=>nxb⟩
  ·have hnp:pts.getD hs.length 0∉pl:=hc.resolve_left (λy=>by lia);refine cF (decide_eq_false (λz=>by injection z with z;lia)) ⟨_,rfl,(aI _ rfl la _ _ _ rfl (bU rfl (SqL.of f1) (jZ hlen) _ rfl (bR pa _ rfl (.inl (SqL.of fpa)) rfl (iD _) ⟨ _,rfl,dY ?_ ⟨_,λσ' H' h=>h,?_⟩⟩)))⟩
   ·show(!inV (vn (pts.getD hs.length 0)) (vns pl))=true;rw[jJ,decide_eq_false hnp];rfl
   refine⟨_,rfl,(aI _ rfl la _ _ _ rfl ⟨ rfl,SqL.of f1,jZ hlen,?_⟩)⟩;refine(nW _ rfl _ rfl _ rfl h2s (λT1 hT1=>⟨ga,_,rfl,lW.t (k:=kk (pts.getD hs.length 0) hv) (aG hT1 _ _ _ f2) aB (eV (by lia)),?_⟩));have sb2:=(sb.new (o:=.tup [vn (pts.getD hs.length 0),vn hv]) hT1).at (o:=.dT (putK gs' (kk (pts.getD hs.length 0) hv) (.bl true)));have f1b:upd (upd H4 T1 (.tup [vn (pts.getD hs.length 0),vn hv])) ga (.dT (putK gs' (kk (pts.getD hs.length 0) hv) (.bl true))) la=some (.lst (vns pts)):=by rw[aH nlg];exact aG hT1 _ _ _ f1
   refine(c9 _ rfl (.inl ⟨rfl,_,SqL.of f1b⟩) _ rfl _ rfl ⟨ _,rfl,h2s,λT2 hT2=>⟨wa,(fI (vn r) rfl ?_ la _ _ rfl ⟨ rfl,aG hT2 _ _ _ f1b,eV (by lia),?_⟩)⟩⟩)
   ·have dg:=iJ.t (k:=kk (pts.getD hs.length 0) hv) (aG hT2 (.tup [vn (pts.getD hs.length 0),vn hv]) _ _ (sb2 wa _ (Ne.symm ngw) hw)) aB;rw[hW.2,hr1]at dg;exact dg
   rw[oE];have sb3:=(sb2.new (o:=.tup [vn (pts.getD hs.length 0),vn hv]) hT2).fr (o:=.lst (vns (pts++[r]))) hla;have f2c:∀{o},upd (upd (upd (upd H4 T1 (.tup [vn (pts.getD hs.length 0),vn hv])) ga (.dT (putK gs' (kk (pts.getD hs.length 0) hv) (.bl true)))) T2 o) la (.lst (vns (pts++[r]))) ga=some (.dT (putK gs' (kk (pts.getD hs.length 0) hv) (.bl true))):=λ{o}=>by rw[aH (Ne.symm nlg)];exact aG hT2 _ _ _ aB
   refine(cQ _ rfl _ rfl _ rfl (aO la _ _ _ rfl rfl (SqL.of aB) (sW vl2 _ rfl _ _ rfl rfl (bR _ _ rfl rfl (by show(0:Int)<4;decide) h2s (λT3 hT3=>⟨ga,_,rfl,lW.t (k:=kk r ((hv+2)%4)) (aG hT3 _ _ _ f2c) (by rw[aB];show some (HO.tup [vn r,V.int (((hv:Int)+2)%4)])=_;rw[show((hv:Int)+2)%4=(((hv+2)%4:Nat):Int) by lia];rfl) (eV (Yt (bQ _ _ _) (by lia))),?_⟩)))));have sb4:=(sb3.new (o:=.tup [vn r,.int (((hv:Int)+2)%4)]) hT3).at (o:=.dT (putK (putK gs' (kk (pts.getD hs.length 0) hv) (.bl true)) (kk r ((hv+2)%4)) (.bl true)));have f1d:∀{o'},upd (upd (upd (upd (upd (upd H4 T1 (.tup [vn (pts.getD hs.length 0),vn hv])) ga (.dT (putK gs' (kk (pts.getD hs.length 0) hv) (.bl true)))) T2 (.tup [vn (pts.getD hs.length 0),vn hv])) la (.lst (vns (pts++[r])))) T3 o') ga (.dT (putK (putK gs' (kk (pts.getD hs.length 0) hv) (.bl true)) (kk r ((hv+2)%4)) (.bl true))) la=some (.lst (vns (pts++[r]))):=λ{o'}=>by rw[aH nlg];exact aG hT3 _ _ _ aB
   have lg2:(putK (putK gs' (kk (pts.getD hs.length 0) hv) (.bl true)) (kk r ((hv+2)%4)) (.bl true)).length<=gs.length+2*(hs.length+1):=Ys (bQ _ _ _) (by have:=bQ gs' (kk (pts.getD hs.length 0) hv) (.bl true);lia);have z02:(pts++[r]).getD 0 0=p:=by rw[iE (by lia)];exact z0
   refine⟨_,rfl,(aI _ rfl la _ _ _ rfl (bU rfl (SqL.of f1d) vl2 _ rfl (bR pa _ rfl (.inl (SqL.of (sb4 pa _ npg hpa))) rfl (iD _) ⟨ _,rfl,?_⟩)))⟩;show if (!inV (vn r) (vns pl))=true then _ else _
   rw[jJ];have gH:(hs++[hv]).getD hs.length 0=hv:=jD;by_cases hrp:r∈pl
   ·refine cF (by rw[decide_eq_true hrp];rfl) (aI (41-(hs.length+1)) (by lia) (pts++[r]) (hs++[hv]) _ hv (by simp) (dX tr2 sb4 f1d aB (by simp;exact lg2) z02 (inv.step z0 hlen hc) ⟨ λz=>?_,_,_,rfl⟩));simp only[Zm,ZQ]at z;rw[gE]at z;rcases z with z | z
    ·lia
    ·exact absurd hrp z
   ·refine dY (by rw[decide_eq_false hrp];rfl) (a9 _ rfl _ _ rfl rfl (aY _ _ rfl rfl (by show(0:Int)<4;decide) ?_));obtain⟨x,rr,ex,⟨zz,ezz⟩,nxb,x4⟩:=xH hN hC hP hr1 hrp;refine⟨4,rfl,by decide,by decide,λD hD=>?_⟩;refine mK 4 (λk=>vn k) (λo=>(W r o).isSome&&decide (o≠(hv+2)%4)) hD (by decide) (λj H2 hj _=>hj) (λH2 _=>Nat.le_refl _) ?_ ?_
    ·rintro j H2 y H3 kt kf hj g2 ⟨rfl,rfl⟩ k1 k2;rw[show(0:Int)+(j:Int)=(j:Int) by lia];refine(eF ((Fills.refl _).set _ rfl) _ rfl _ rfl (aO la _ _ _ rfl rfl (SqL.of (g2 _ _ f1d)) ⟨ vl2,_,rfl,h2s,λT4 hT4=>?_⟩));have g3:=aG hT4 (.tup [vn r,vn j]);refine(a9 _ rfl wa _ rfl (iJ.t (k:=kk r j) (g3 _ _ (g2 _ _ (sb4 wa _ (Ne.symm ngw) hw))) aB) ⟨ _,rfl,?_⟩);rw[hW.2];cases ew:W r j with
     |none=>exact zI (zI (k2 (by rw[ew];rfl) _ g3))
     |some qq =>
      refine zH (iV _ rfl _ rfl rfl _ rfl ?_);have ce:(V.int (j:Int)=V.int (((hv:Int)+2)%4))↔j=(hv+2)%4:=⟨λz=>by injection z with z;lia,λz=>by rw[z];first | rfl | (congr 1;omega)⟩
      by_cases cj:j=(hv+2)%4
      ·exact cF (by rw[Bool.not_eq_false',decide_eq_true_iff];exact ce.mpr cj) (k2 (by rw[ew];simp[cj]) _ g3)
      ·exact dY (by rw[Bool.not_eq_true',decide_eq_false_iff_not];exact λz=>cj (ce.mp z)) ⟨_,rfl,k1 (by rw[ew];simpa using cj) _ g3⟩
    ·intro H5 g5 e5;rw[ex]at e5;refine(aO D _ _ _ rfl rfl (SqL.of e5) ⟨ (show atI (List.map (λk=>vn k) (x::rr)) ((0:Nat):Int)=some (vn x) from cE rfl),?_⟩);refine(aI (41-(hs.length+1)) (by lia) (pts++[r]) (hs++[hv]) _ x (by simp) (dX tr2 (λb o hb e=>g5 _ _ (sb4 b o hb e)) (g5 _ _ f1d) (g5 _ _ aB) (by simp;exact lg2) z02 (inv.step z0 hlen hc) ⟨ λ_=>?_,_,_,rfl⟩));simp only[Zm,ZQ,Nat.add_sub_cancel];rw[gE,gH];exact⟨⟨zz,ezz⟩,λ_=>nxb⟩
 ·have c1:¬(hs.length=0):=λz=>hc (.inl z);have c2:pts.getD hs.length 0∈pl:=Decidable.byContradiction λz=>hc (.inr z);refine cF (decide_eq_false (λz=>by injection z with z;lia)) ⟨_,rfl,(aI _ rfl la _ _ _ rfl (bU rfl (SqL.of f1) (jZ hlen) _ rfl (bR pa _ rfl (.inl (SqL.of fpa)) rfl (iD _) ⟨ _,rfl,cF ?_ ?_⟩)))⟩
  ·show(!inV (vn (pts.getD hs.length 0)) (vns pl))=false;rw[jJ,decide_eq_true c2];rfl
  ·exact⟨_,rfl,q la H4 pts hs gs' hla sb f1 f2 (by lia) tr (by lia) h40 z0 c2 ⟨_,inv⟩⟩
end K36
namespace L2
open PySem PySem.Spec PyProof.Rows
theorem vH{J:It}{js:List (Option Nat)}{σ:St}{H1:Hp}{R:Hp->Prop}{D:Addr}{g:TG}{te:TE}(ps:List Pt)(hD:H1 D=none)(hn:ps.length<=90000)
  (go:∀i H',i<ps.length->aW H1 H'->J.go i H') (stop:∀H',aW H1 H'->J.stop ps.length H')
  (hs:∀i H' v H'' (k:V->Hp->Prop),i<ps.length->aW H1 H'->J.yld i H' v H''->(∀u H4,aW H' H4->qY H4 u (pt ps i)->k u H4)->g v (inner js σ) H'' λσ2 H2=>Fills (inner js σ) σ2/\te σ2 H2 k)
  (hd:∀H',aW H1 H'->nU H' D ps->R H') :
  ∃W:Nat->Nat->List V->Hp->Prop,(∃m,W 0 m [] (upd H1 D (.lst []))) /\
   ∀i m ys H,W i m ys H->(J.stop i H/\R H)\/(J.go i H/\∃N:List V->Hp->Prop,(∀ys' H',N ys' H'->∃m',m' < m/\W (i+1) m' ys' H')/\∀x H',J.yld i H x H'->g x (inner js σ) H' λσ2 H2=>Fills (inner js σ) σ2/\rB σ2 H2 λb H3 =>
    if b=true then te σ2 H3 λy H4=>H4 D=some (.lst ys)/\ys.length<ZW/\N (ys++[y]) (upd H4 D (.lst (ys++[y]))) else N ys H3):=by
 refine comp_map ps.length (λi ys H'=>ys.length=i/\aW H1 H'/\H' D=some (.lst ys)/\∀(j:Nat) v,ys[j]?=some v->qY H' v (pt ps j)) ⟨rfl,aG hD _,aB,λj v h=>by simp at h⟩ ?_ ?_
 ·rintro i ys H' hi ⟨hl,g1,e,hp⟩;refine⟨go i H' hi g1,λx H'' y=>hs i H' x H'' _ hi g1 y λu H4 g4 hu=>⟨g4 _ _ e,eV (by lia),by simp[hl],(g1.trans g4).upd hD,aB,λj v h=>?_⟩⟩;have m:∀{v:V}{p:Pt},qY H4 v p->qY (upd H4 D (.lst (ys++[u]))) v p:=λ{v p} ⟨a,ea,ha⟩=>⟨a,ea,by rw[aH (lN ha (g4 _ _ e) (λz=>by cases z))];exact ha⟩
  rcases Xj j ys.length with z | z
  ·rw[Zx z]at h;exact m (qY.mono g4 _ _ (hp j v h))
  ·rw[Zy z]at h;have hj:j-ys.length=0:=by
    have:=(Zj.mp h).1;simp at this;lia
   rw[hj]at h;simp at h;subst h;rw[show j=i by lia];exact m hu
 ·rintro ys H' ⟨hl,g1,e,hp⟩;refine⟨stop H' g1,hd H' g1 ⟨ys,e,hl,λj v x h1 h2=>?_⟩⟩;have:j<ps.length:=(Zj.mp h2).1;rw[tT this]at h2;cases h2;exact hp j v h1
structure Path(a b:Nat)(pts:List Nat)(hs:Nat->Nat):Prop where
 l2:2<=pts.length
 l50:pts.length<=50
 lt:∀i,i<pts.length->pts.getD i 0<a*b
 go:∀k,k+1<pts.length->hs k<4/\Go a b (hs k) (pts.getD k 0) (pts.getD (k+1) 0)
 on:∀k,k+2<pts.length->hs (k+1)≠(hs k+2)%4
theorem j6.path{a b:Nat}{W:Nat->Nat->Option Nat}{pl pts hs:List Nat}(n:Net a b W)(t:j6 W pl pts hs)(h0:0<hs.length)(h40:hs.length<=40):Path a b pts (λk=>hs.getD k 0) where
 l2:=by rw[t.len];lia
 l50:=by rw[t.len];lia
 lt:=λi hi=>by
  rw[t.len]at hi;rcases Xj i hs.length with z | z
  ·exact(n.go _ _ _ (t.go i z)).2.1
  ·have:=(n.go _ _ _ (t.go (hs.length-1) (by lia))).2.2.1;rw[show hs.length-1+1=i by lia]at this;exact this
 go:=λk hk=>by
  rw[t.len]at hk;have:=n.go _ _ _ (t.go k (by lia));exact⟨this.1,this.2.2.2⟩
 on:=λk hk=>by rw[t.len]at hk;exact t.on k (by lia)
theorem fR{l:List Nat}{i:Nat}(h:i<l.length):l.reverse.getD i 0=l.getD (l.length-1-i) 0:=by
 simp only[List.getD,List.getElem?_reverse h]
theorem Path.rev{a b:Nat}{pts:List Nat}{hs:Nat->Nat}(p:Path a b pts hs):Path a b pts.reverse (λk=>(hs (pts.length-2-k)+2)%4) where
 l2:=by rw[Yr];exact p.l2
 l50:=by rw[Yr];exact p.l50
 lt:=λi hi=>by rw[Yr]at hi;rw[fR hi];exact p.lt _ (by omega)
 go:=λk hk=>by
  rw[Yr]at hk;rw[fR (by lia),fR hk];have:=(p.go (pts.length-2-k) (by omega)).2.sym;rw[show pts.length-2-k+1=pts.length-1-k by lia]at this;rw[show pts.length-1-(k+1)=pts.length-2-k by lia];exact⟨by lia,this⟩
 on:=λk hk=>by
  rw[Yr]at hk;have o:=p.on (pts.length-2-(k+1)) (by omega);have h1:=(p.go (pts.length-2-k) (by omega)).1;have h2:=(p.go (pts.length-2-(k+1)) (by omega)).1;rw[show pts.length-2-(k+1)+1=pts.length-2-k by lia]at o;intro z;exact o (by omega)
def K9(l:List Int):Prop:=l.length=5/\(∀j,j+1<5->at0 l j<at0 l (j+1))/\∀j,j<5->-2<=at0 l j/\at0 l j<=2+3*(j:Int)
def pm(a:Nat)(xl yl:List Int)(q:Nat):Pt:=(at0 xl (q%a),at0 yl (q / a))
theorem PZ{a p:Nat}(ha:0<a)(h:p%a+1<a):(p+1)%a=p%a+1/\(p+1) / a=p / a:=by
 have e:p+1=(p%a+1)+a*(p / a):=by have:=Nat.div_add_mod p a;lia
 constructor
 ·rw[e,Nat.add_mul_mod_self_left,Nat.mod_eq_of_lt h]
 ·rw[e,Nat.add_mul_div_left _ _ ha,Nat.div_eq_of_lt h,Nat.zero_add]
theorem Path.walk{a b:Nat}{pts:List Nat}{hs:Nat->Nat}{xl yl:List Int}(p:Path a b pts hs)(hx:K9 xl)(hy:K9 yl)(ha:0<a)(ha5:a<=5)(hb5:b<=5):Walk (pts.map (pm a xl yl)) hs where
 len:=by rw[Zq];exact p.l2
 few:=by rw[Zq];have:=p.l50;lia
 go:=λk hk=>by
  rw[Zq]at hk;have e:∀{i},i<pts.length->pt (pts.map (pm a xl yl)) i=pm a xl yl (pts.getD i 0):=λ{i} hi=>by
   unfold pt;simp[List.getD,hi]
  rw[e (by lia),e hk];have g:=(p.go k hk).2;have l1:=p.lt k (by lia);have l2:=p.lt (k+1) hk;generalize pts.getD k 0=u at g l1 ⊢;generalize pts.getD (k+1) 0=v at g l2 ⊢;have d1:=qU l1 ha;have d2:=qU l2 ha;unfold ahead pm;dsimp only;rcases g with⟨h,h1,rfl⟩ | ⟨h,h1,rfl⟩ | ⟨h,h1,rfl⟩ | ⟨h,h1,rfl⟩
  ·obtain⟨m1,m2⟩:=PZ ha h1;refine .inl ⟨h,by rw[m2],?_⟩;rw[m1];exact hx.2.1 _ (by lia)
  ·refine .inr (.inl ⟨h,by rw[Nat.add_mod_right],?_⟩);rw[Nat.add_div_right _ ha];exact hy.2.1 _ (by lia)
  ·obtain⟨m1,m2⟩:=PZ ha h1;refine .inr (.inr (.inl ⟨h,by rw[m2],?_⟩));rw[m1];exact hx.2.1 _ (by lia)
  ·refine .inr (.inr (.inr ⟨h,by rw[Nat.add_mod_right],?_⟩));rw[Nat.add_div_right _ ha];exact hy.2.1 _ (by lia)
 on:=λk hk=>by rw[Zq]at hk;exact p.on k hk
theorem IP{a b:Nat}{pts:List Nat}{xl yl:List Int}(hx:K9 xl)(ha:0<a)(ha5:a<=5):Bdd (pts.map (pm a xl yl)):=by
 intro k hk;rw[Zq]at hk;have e:pt (pts.map (pm a xl yl)) k=pm a xl yl (pts.getD k 0):=by unfold pt;simp[List.getD,hk]
 have m:=Nat.mod_lt (pts.getD k 0) ha;have:=hx.2.2 (pts.getD k 0%a) (by lia);rw[e];unfold pm;dsimp only
 lia
def F3(x y z:Addr)(H H':Hp):Prop:=∀b o,b≠x->b≠y->b≠z->H b=some o->H' b=some o
theorem F3.refl(x y z:Addr)(H:Hp):F3 x y z H H:=λ_ _ _ _ _ e=>e
theorem F3.trans{x y z:Addr}{H H1 H2:Hp}(a:F3 x y z H H1)(b:F3 x y z H1 H2):F3 x y z H H2:=λc o h1 h2 h3 e=>b c o h1 h2 h3 (a c o h1 h2 h3 e)
theorem aW.f3{x y z:Addr}{H H':Hp}(g:aW H H'):F3 x y z H H':=λb o _ _ _ e=>g b o e
theorem dU.f3{x y z:Addr}{H H':Hp}(g:dU x H H'):F3 x y z H H':=λb o h _ _ e=>g b o h e
theorem F3.u2{x y z:Addr}{H:Hp}{o:HO}:F3 x y z H (upd H y o):=λb u _ h _ e=>by rw[aH h];exact e
theorem F3.u3{x y z:Addr}{H:Hp}{o:HO}:F3 x y z H (upd H z o):=λb u _ _ h e=>by rw[aH h];exact e
def TyI(H:Hp)(tr:List Addr)(ts:MM.aS):Prop:=tr.length=ts.length/\∀(i:Nat) t,ts[i]?=some t->∃r,tr[i]?=some r/\H r=some (.tup [vn t.1,vn t.2])
def LnI(y z:Addr)(H:Hp)(lr:List Addr)(ll:List (List Pt)):Prop:=lr.length=ll.length/\∀(i:Nat) ps,ll[i]?=some ps->∃l,lr[i]?=some l/\l≠y/\l≠z/\nU H l ps
section
variable{x y z:Addr}{H H':Hp}{gs:List (List Key×V)}{us ws:List V}
theorem F3.tup(f:F3 x y z H H')(k1:H x=some (.dT gs))(k2:H y=some (.lst us))(k3:H z=some (.lst ws)){r:Addr}{xs:List V}(h:H r=some (.tup xs)):H' r=some (.tup xs) :=
 f r _ (lN h k1 (λe=>by cases e)) (lN h k2 (λe=>by cases e)) (lN h k3 (λe=>by cases e)) h
theorem TyI.f3{tr:List Addr}{ts:MM.aS}(t:TyI H tr ts)(f:F3 x y z H H')(k1:H x=some (.dT gs))(k2:H y=some (.lst us))(k3:H z=some (.lst ws)):TyI H' tr ts :=
 ⟨t.1,λi s h=>let⟨r,e1,e2⟩:=t.2 i s h;⟨r,e1,f.tup k1 k2 k3 e2⟩⟩
theorem LnI.f3{lr:List Addr}{ll:List (List Pt)}(t:LnI y z H lr ll)(f:F3 x y z H H')(k1:H x=some (.dT gs))(k2:H y=some (.lst us))(k3:H z=some (.lst ws)):LnI y z H' lr ll :=
 ⟨t.1,λi ps h=>by
  obtain⟨l,e1,e2,e3,vs,v1,v2,v3⟩:=t.2 i ps h;refine⟨l,e1,e2,e3,vs,f l _ (lN v1 k1 (λe=>by cases e)) e2 e3 v1,v2,λj v p h1 h2=>?_⟩;obtain⟨a,ea,ha⟩:=v3 j v p h1 h2;exact⟨a,ea,f.tup k1 k2 k3 ha⟩⟩
end
theorem TyI.app{H:Hp}{tr:List Addr}{ts:MM.aS}(t:TyI H tr ts){r:Addr}{s:Nat×Nat}(h:H r=some (.tup [vn s.1,vn s.2])):TyI H (tr++[r]) (ts++[s]):=by
 refine⟨by simp[t.1],λi u hu=>?_⟩;rcases Xj i ts.length with z | z
 ·rw[Zx z]at hu;rw[Zx (by rw[t.1];exact z)];exact t.2 i u hu
 ·rw[Zy z]at hu;have hi:i-ts.length=0:=by
   have:=(Zj.mp hu).1;simp at this;lia
  rw[hi]at hu;simp at hu;subst hu;exact⟨r,by rw[Zy (by rw[t.1];exact z),t.1,hi];rfl,h⟩
theorem LnI.app{y z:Addr}{H:Hp}{lr:List Addr}{ll:List (List Pt)}(t:LnI y z H lr ll){l:Addr}{ps:List Pt}(h1:l≠y)(h2:l≠z)(h:nU H l ps):LnI y z H (lr++[l]) (ll++[ps]):=by
 refine⟨by simp[t.1],λi u hu=>?_⟩;rcases Xj i ll.length with z | z
 ·rw[Zx z]at hu;rw[Zx (by rw[t.1];exact z)];exact t.2 i u hu
 ·rw[Zy z]at hu;have hi:i-ll.length=0:=by
   have:=(Zj.mp hu).1;simp at this;lia
  rw[hi]at hu;simp at hu;subst hu;exact⟨l,by rw[Zy (by rw[t.1];exact z),t.1,hi];rfl,h1,h2,h⟩
theorem LnI.ls{y z:Addr}{H:Hp}{lr:List Addr}{ll:List (List Pt)}(t:LnI y z H lr ll){l:Addr}(h:H l=some (.lst (lr.map V.ref))):G0 H l ll:=by
 refine⟨_,h,by rw[Zq];exact t.1,λi v ps h1 h2=>?_⟩;obtain⟨l',e1,_,_,e4⟩:=t.2 i ps h2;rw[Zk,e1]at h1;cases h1;exact⟨l',rfl,e4⟩
theorem TyI.ts{H:Hp}{tr:List Addr}{ts:MM.aS}(t:TyI H tr ts){l:Addr}(h:H l=some (.lst (tr.map V.ref))):kK H l ts:=⟨tr,h,t.1,t.2⟩
theorem xB{ts:MM.aS}{s:Nat×Nat}{e:Nat}(h:e<2*ts.length):MM.place (ts++[s]) e=MM.place ts e:=by
 unfold MM.place;have:e / 2<ts.length:=by lia
 simp only[List.getD,Zx this]
theorem EI(ts:MM.aS)(s:Nat×Nat):MM.place (ts++[s]) (2*ts.length)=s.1:=by
 unfold MM.place;rw[if_pos (by lia),show 2*ts.length / 2=ts.length by lia];simp[List.getD]
theorem EH(ts:MM.aS)(s:Nat×Nat):MM.place (ts++[s]) (2*ts.length+1)=s.2:=by
 unfold MM.place;rw[if_neg (by lia),show(2*ts.length+1) / 2=ts.length by lia];simp[List.getD]
theorem DM{pl:List Nat}(nd:pl.Nodup){i:Nat}(h:i<pl.length):pl.idxOf (pl.getD i 0)=i:=by
 simp only[List.getD,Zz h,Option.getD_some];exact nd.idxOf_getElem i h
structure Lp(pl:List Nat)(ga ta na:Addr)(H5 H':Hp)(tr lr:List Addr)(ts:MM.aS)(ll:List (List Pt))(gs:List (List Key×V)):Prop where
 f:F3 ga ta na H5 H'
 tA:H' ta=some (.lst (tr.map V.ref))
 tI:TyI H' tr ts
 lA:H' na=some (.lst (lr.map V.ref))
 lI:LnI ta na H' lr ll
 gA:H' ga=some (.dT gs)
 gl:gs.length<=80*ts.length
 ln:ll.length=ts.length
 pt:∀t∈ts,t.1<pl.length/\t.2<pl.length
 li:∀ps∈ll,NH ps/\Bdd ps
 gi:∀x y:Nat,(cJ gs (kk x y)).isSome=true->x∈pl->∃e,e<2*ts.length/\MM.place ts e=pl.idxOf x
theorem Lp.same{pl:List Nat}{ga ta na:Addr}{H5 H' H2:Hp}{tr lr:List Addr}{ts:MM.aS}{ll:List (List Pt)}{gs:List (List Key×V)}(p:Lp pl ga ta na H5 H' tr lr ts ll gs)(g:aW H' H2):Lp pl ga ta na H5 H2 tr lr ts ll gs :=
 ⟨p.f.trans g.f3,g _ _ p.tA,p.tI.f3 (g.f3 (x:=ga) (y:=ta) (z:=na)) p.gA p.tA p.lA,g _ _ p.lA,p.lI.f3 (g.f3 (x:=ga)) p.gA p.tA p.lA,g _ _ p.gA,p.gl,p.ln,p.pt,p.li,p.gi⟩
end L2
namespace L2
open PySem PySem.Spec PyProof.Rows
abbrev GZ:=Nat×(Nat->Nat)×(Nat->Nat)
def Dt(z:GZ)(x y:Nat):Prop:=(x=z.2.1 0/\y=z.2.2 0)\/(x=z.2.1 z.1/\y=TU.bk z.1 z.2.2)
structure Gln(W:Nat->Nat->Option Nat)(pl:List Nat)(gl:List GZ)(ts:MM.aS)(ll:List (List Pt))(gs:List (List Key×V)):Prop where
 len:gl.length=ts.length
 lln:ll.length=ts.length
 tr:∀{k:Nat}{z:GZ},gl[k]?=some z->TU.Tr W pl z.1 z.2.1 z.2.2
 tie:∀{k:Nat}{z:GZ},gl[k]?=some z->ts[k]?=some (pl.idxOf (z.2.1 0),pl.idxOf (z.2.1 z.1))
 ln:∀{k:Nat}{z:GZ},gl[k]?=some z->∃ps,ll[k]?=some ps/\hds ps=(fW z.2.2 (z.1-1)).map λn:Nat=>(n:Int)
 gi:∀{x y:Nat},x∈pl->(cJ gs (kk x y)).isSome=true->∃(k:Nat) (z:GZ),gl[k]?=some z/\Dt z x y
 in_:∀{k:Nat}{z:GZ}{x y:Nat},gl[k]?=some z->Dt z x y->(cJ gs (kk x y)).isSome=true
 ap:∀{k k':Nat}{z z':GZ}{x y:Nat},gl[k]?=some z->gl[k']?=some z'->Dt z x y->Dt z' x y->k=k'
theorem lZ{α:Type}{l:List α}{x y:α}{k:Nat}(h:(l++[x])[k]?=some y):l[k]?=some y\/(k=l.length/\y=x):=by
 rcases Xj k l.length with z | z
 ·rw[Zx z]at h;exact .inl h
 ·rw[Zy z]at h;have hk:=(Zj.mp h).1;rw[ZQ]at hk;have:k=l.length:=by lia
  subst this;rw[Nat.sub_self]at h;exact .inr ⟨rfl,(Option.some.inj h).symm⟩
theorem CU{α:Type}{l:List α}{x y:α}{k:Nat}(h:l[k]?=some y):(l++[x])[k]?=some y:=by rw[Zx (Zj.mp h).1];exact h
theorem yS{α:Type}{l:List α}{x:α}:(l++[x])[l.length]?=some x:=by simp
theorem j6.tr{W:Nat->Nat->Option Nat}{pl pts hs:List Nat}(t:j6 W pl pts hs)(h0:0<hs.length)(hl:pts.getD hs.length 0∈pl):TU.Tr W pl hs.length (λi=>pts.getD i 0) (λi=>hs.getD i 0) :=
 ⟨h0,λ{i} hi=>t.go i hi,λ{i} h1 h2=>t.mid i h1 h2,λ{i} hi=>t.on i hi,t.fst,hl⟩
theorem Gln.step{a b:Nat}{W:Nat->Nat->Option Nat}{pl:List Nat}{gl:List GZ}{ts:MM.aS}{ll:List (List Pt)}{gs gs':List (List Key×V)}(g:Gln W pl gl ts ll gs)(s:TU.Stp a b W)(tw:TU.Two W pl){pts hs:List Nat}(t:j6 W pl pts hs)(h0:0<hs.length)(hl:pts.getD hs.length 0∈pl){p h hv:Nat}
  (hp:pts.getD 0 0=p) (gn:Gn pl gs p h pts hs hv gs') (no:(cJ gs (kk p h)).isSome=false) {z:GZ}(tz:TU.Tr W pl z.1 z.2.1 z.2.2) (hz:∀x y,Dt z x y↔Dt (hs.length,(λi=>pts.getD i 0),λi=>hs.getD i 0) x y) {kp:List Pt}(hk:hds kp=(fW z.2.2 (z.1-1)).map λn:Nat=>(n:Int)) :
  Gln W pl (gl++[z]) (ts++[(pl.idxOf (z.2.1 0),pl.idxOf (z.2.1 z.1))]) (ll++[kp]) gs':=by
 have t0:=t.tr h0 hl;obtain⟨n1,n2,n3,n4⟩:=gn;obtain⟨m1,m2,m3⟩:=n4 h0;have dz:∀{x y},Dt z x y↔(x=p/\y=h)\/(x=pts.getD hs.length 0/\y=(hs.getD (hs.length-1) 0+2)%4):=λ{x y}=>by
  rw[hz];unfold Dt TU.bk;dsimp only;rw[hp,m1]
 have clash:∀{k:Nat}{w:GZ}{x y:Nat},gl[k]?=some w->Dt w x y->Dt z x y->False:=λ{k w x y} hw dw dz'=>by
  rcases dz.mp dz' with⟨rfl,rfl⟩ | ⟨e1,e2⟩
  ·have:=g.in_ hw dw;rw[no]at this;cases this
  ·have mt:=t0.meet (g.tr hw) s tw (by
    unfold Dt at dw;rw[e1,e2]at dw;exact dw)
   have:Dt w p h:=by
    unfold Dt;rw[hp,m1]at mt;exact mt
   have:=g.in_ hw this;rw[no]at this;cases this
 refine⟨by rw[Zm,Zm,g.len];rfl,by rw[Zm,Zm,g.lln];rfl,λ{k w} hw=>?_,λ{k w} hw=>?_,λ{k w} hw=>?_,λ{x y} hx e=>?_,λ{k w x y} hw d=>?_,λ{k k' w w' x y} hw hw' d d'=>?_⟩
 ·rcases lZ hw with q | ⟨_,rfl⟩
  ·exact g.tr q
  ·exact tz
 ·rcases lZ hw with q | ⟨e,rfl⟩
  ·exact CU (g.tie q)
  ·rw[e,g.len];exact yS
 ·rcases lZ hw with q | ⟨e,rfl⟩
  ·obtain⟨ps,h1,h2⟩:=g.ln q;exact⟨ps,CU h1,h2⟩
  ·exact⟨kp,by rw[e,g.len,<-g.lln];exact yS,hk⟩
 ·rcases n1 x y e with q | q | q | ⟨_,q⟩
  ·obtain⟨k,w,h1,h2⟩:=g.gi hx q;exact⟨k,w,CU h1,h2⟩
  ·exact absurd hx q
  ·exact⟨gl.length,z,yS,dz.mpr (.inl q)⟩
  ·exact⟨gl.length,z,yS,dz.mpr (.inr q)⟩
 ·rcases lZ hw with q | ⟨_,rfl⟩
  ·exact n2 x y (g.in_ q d)
  ·rcases dz.mp d with⟨rfl,rfl⟩ | ⟨rfl,rfl⟩
   ·exact m2
   ·exact m3
 ·rcases lZ hw with q | ⟨e,rfl⟩<;>rcases lZ hw' with q' | ⟨e',rfl⟩
  ·exact g.ap q q' d d'
  ·exact(clash q d d').elim
  ·exact(clash q' d' d).elim
  ·rw[e,e']
theorem Gln.step2{a b:Nat}{W:Nat->Nat->Option Nat}{pl:List Nat}{gl:List GZ}{ts:MM.aS}{ll:List (List Pt)}{gs gs':List (List Key×V)}(g:Gln W pl gl ts ll gs)(s:TU.Stp a b W)(tw:TU.Two W pl){pts hs:List Nat}(t:j6 W pl pts hs)(h0:0<hs.length)(hl:pts.getD hs.length 0∈pl){p h hv:Nat}
  (hp:pts.getD 0 0=p) (gn:Gn pl gs p h pts hs hv gs') (no:(cJ gs (kk p h)).isSome=false) {pts2:List Nat}{hs2:Nat->Nat}(hz:(pts2=pts/\hs2=λk=>hs.getD k 0)\/(pts2=pts.reverse/\hs2=λk=>(hs.getD (pts.length-2-k) 0+2)%4)) {kp:List Pt}(hk:hds kp=(fW hs2 (pts2.length-2)).map λn:Nat=>(n:Int)) :
  ∃z,Gln W pl (gl++[z]) (ts++[(pl.idxOf (pts2.getD 0 0),pl.idxOf (pts2.getD (pts2.length-1) 0))]) (ll++[kp]) gs':=by
 have t0:=t.tr h0 hl;have tl:=t.len;rcases hz with⟨rfl,rfl⟩ | ⟨rfl,rfl⟩
 ·refine⟨(hs.length,(λi=>pts2.getD i 0),λi=>hs.getD i 0),?_⟩;have:=g.step s tw t h0 hl hp gn no t0 (λ_ _=>Iff.rfl) (kp:=kp) (by rw[show pts2.length-2=hs.length-1 by lia]at hk;exact hk);rw[show pts2.length-1=hs.length by lia];exact this
 ·have t1:=t0.rev s;have e1:pts.reverse.getD 0 0=pts.getD (hs.length-0) 0:=by rw[fR (by lia),show pts.length-1-0=hs.length-0 by lia]
  have e2:pts.reverse.getD (pts.reverse.length-1) 0=pts.getD (hs.length-hs.length) 0:=by rw[Yr,fR (by lia),show pts.length-1-(pts.length-1)=hs.length-hs.length by lia]
  have eh:(λk=>(hs.getD (pts.length-2-k) 0+2)%4)=λk=>(hs.getD (hs.length-1-k) 0+2)%4:=by
   funext k;rw[show pts.length-2-k=hs.length-1-k by omega]
  rw[eh,Yr,show pts.length-2=hs.length-1 by lia]at hk;refine⟨(hs.length,(λi=>pts.getD (hs.length-i) 0),λi=>(hs.getD (hs.length-1-i) 0+2)%4),?_⟩;rw[e1,e2];refine g.step s tw t h0 hl hp gn no t1 (λx y=>?_) hk;have h4:=s.h4 (t0.go t0.n0);unfold Dt TU.bk;dsimp only at h4 ⊢;rw[Nat.sub_zero,Nat.sub_self,Nat.sub_self,show((hs.getD 0 0+2)%4+2)%4=hs.getD 0 0 by lia,Nat.sub_zero];exact or_comm
def z0':GZ:=(0,(λ_=>0),λ_=>0)
def gn(gl:List GZ)(e:Nat):Nat:=(gl.getD (e / 2) z0').1
def gpt(gl:List GZ)(e i:Nat):Nat:=if e%2=0 then (gl.getD (e / 2) z0').2.1 i else (gl.getD (e / 2) z0').2.1 ((gl.getD (e / 2) z0').1-i)
def ghd(gl:List GZ)(e i:Nat):Nat:=if e%2=0 then (gl.getD (e / 2) z0').2.2 i else ((gl.getD (e / 2) z0').2.2 ((gl.getD (e / 2) z0').1-1-i)+2)%4
def Al(W:Nat->Nat->Option Nat)(pl:List Nat)(gs:List (List Key×V))(i j:Nat):Prop:=∀k h q:Nat,k<pl.length->W (pl.getD k 0) h=some q->(k<i\/(k=i/\h<j))->(cJ gs (kk (pl.getD k 0) h)).isSome=true
theorem Net.stp{a b:Nat}{W:Nat->Nat->Option Nat}(n:Net a b W)(ha:0<a):TU.Stp a b W where
 h4:=λ{p h q} e=>(n.go p h q e).1
 sym:=λ{p h q} e=>n.sym p h q e
 e:=λ{p q} e=>by
  obtain⟨_,h2,h3,h4⟩:=n.go p 0 q e;have:p%a+1<a/\q=p+1:=by unfold Go at h4;lia
  exact⟨h2,this⟩
 n:=λ{p q} e=>by
  obtain⟨_,h2,h3,h4⟩:=n.go p 1 q e;have:p / a+1<b/\q=p+a:=by unfold Go at h4;lia
  exact⟨h2,this⟩
theorem Plc.two'{a b:Nat}{W:Nat->Nat->Option Nat}{N:Nat}{come pl:List Nat}(s:TU.Stp a b W)(pc:Plc W come pl)(cm:v7 W N come):TU.Two W pl:=λ{p h q} hp hw=>by
 have h2:=pc.two p (cm.cl p h q hw) hp
 match hm:heads W p,h2 with
 |[x,y],_ =>
  have nd:=BL W p;rw[hm]at nd;have lt:∀k,(W p k).isSome=true->k∈heads W p:=λk hk=>iU.mpr ⟨by
   obtain⟨q,e⟩:=Option.isSome_iff_exists.mp hk;exact s.h4 e,hk⟩
  refine⟨x,y,λz=>by subst z;simp at nd,λk=>⟨λz=>?_,λz=>?_⟩⟩
  ·have:=lt k z;rw[hm]at this;simpa using this
  ·have:k∈heads W p:=by rw[hm];simpa using z
   exact(iU.mp this).2
theorem Gln.at_{W:Nat->Nat->Option Nat}{pl:List Nat}{gl:List GZ}{ts:MM.aS}{ll:List (List Pt)}{gs:List (List Key×V)}(g:Gln W pl gl ts ll gs){e:Nat}(he:e<2*ts.length):∃z,gl[e / 2]?=some z/\gl.getD (e / 2) z0'=z:=by
 have h:e / 2<gl.length:=by rw[g.len];lia
 exact⟨gl[e / 2],Zz h,by simp[List.getD,h]⟩
theorem j3{α:Type}{f:α->List Int}(hf:∀x,(f x).length=2):∀{ll:List α}{k r:Nat}{x:α},ll[k]?=some x->r<2->at0 (ll.flatMap f) (2*k+r)=at0 (f x) r
 |[],k,r,x,h,_=>by simp at h
 |y::ll,0,r,x,h,hr=>by
  have:y=x:=by simpa using h
  subst this;unfold at0;rw[List.flatMap_cons,Zv,Zv,Zx (by rw[hf];lia),Nat.mul_zero,Nat.zero_add]
 |y::ll,k+1,r,x,h,hr=>by
  have ih:=j3 hf (ll:=ll) (k:=k) (r:=r) (x:=x) (by simpa using h) hr;unfold at0 at ih ⊢;rw[List.flatMap_cons,<-ih,Zv,Zy (by rw[hf];lia),Zv,hf];congr 2
  lia
theorem vP{l:List Nat}{j:Nat}:at0 (l.map λn:Nat=>(n:Int)) j=((l.getD j 0:Nat):Int):=by
 unfold at0;rw[Zv,Zk,Zv];cases l[j]?<;>rfl
theorem Gln.head{W:Nat->Nat->Option Nat}{pl:List Nat}{gl:List GZ}{ts:MM.aS}{ll:List (List Pt)}{gs:List (List Key×V)}(g:Gln W pl gl ts ll gs){e:Nat}(he:e<2*ts.length):at0 (lvs ll) e=(ghd gl e 0:Int):=by
 obtain⟨z,h1,h2⟩:=g.at_ he;obtain⟨ps,h3,h4⟩:=g.ln h1;have n0:=(g.tr h1).n0;have hf:∀x:List Pt,(E4 x).length=2:=λ_=>rfl;unfold ghd;rw[h2];by_cases c:e%2=0
 ·rw[if_pos c,show e=2*(e / 2)+0 by lia];unfold lvs;rw[j3 hf h3 (by lia)];show at0 (hds ps) 0=_;rw[h4,vP,nT]
 ·rw[if_neg c,show e=2*(e / 2)+1 by lia];unfold lvs;rw[j3 hf h3 (by lia)];show(at0 (hds ps) ((hds ps).length-1)+2)%4=_;rw[h4,vP,Zq,mL,Nat.sub_zero]
  lia
def ts1(f:Nat->Nat):Nat->Int
 |0=>0
 |i+1=>ts1 f i+((((f (i+1)+6-f i)%4:Nat):Int)-2)
theorem oG{hd:Nat->Nat->Nat}{e:Nat}{f:Nat->Nat}:∀{i},(∀j,j<=i->hd e j=f j)->TU.sC hd e i=ts1 f i
 |0,_=>rfl
 |i+1,h=>by
  show TU.sC hd e i+_=ts1 f i+_;rw[oG λj hj=>h j (by lia),h i (by lia),h (i+1) (by lia)]
theorem CK(f:Nat->Nat):∀N,ts1 f N=MM.su (List.range N) λj=>(((f (j+1)+6-f j)%4:Nat):Int)-2
 |0=>rfl
 |N+1=>by
  show ts1 f N+_=_;rw[List.range_succ,MM.kX,MM.bK,MM.iL,CK f N];lia
theorem LK{f:Nat->Nat}{N:Nat}(h4:∀j,j<=N->f j<4)(on:∀j,j<N->f (j+1)≠(f j+2)%4):ts1 (λi=>(f (N-i)+2)%4) N = - ts1 f N:=by
 have rp:((List.range N).map λj=>N-1-j).Perm (List.range N):=by
  refine MM.sN ?_ List.nodup_range λx=>?_
  ·rw[List.Nodup,List.pairwise_map];exact List.Pairwise.imp_of_mem (λ{x y} hx hy ne z=>ne (by have:=Zs.mp hx;have:=Zs.mp hy;omega)) List.nodup_range
  ·rw[Zh];constructor
   ·rintro⟨y,hy,rfl⟩;have:=Zs.mp hy;exact Zs.mpr (by omega)
   ·intro hx;have:=Zs.mp hx;exact⟨N-1-x,Zs.mpr (by omega),by omega⟩
 rw[CK,CK,<-MM.gM rp,MM.CO];have neg:∀(l:List Nat) (v:Nat->Int),- MM.su l v=MM.su l λj=>- v j:=λl v=>by
  induction l with
  |nil=>rfl
  |cons x l ih=>rw[MM.bK,MM.bK,<-ih];lia
 rw[neg];refine MM.eT λj hj=>?_;have hj:=Zs.mp hj;have e1:N-(N-1-j+1)=j:=by omega
 have e2:N-(N-1-j)=j+1:=by omega
 rw[e1,e2];have a1:=h4 j (by lia);have a2:=h4 (j+1) (by lia);have a3:=on j (by lia)
 lia
theorem M8{L:List Int}{x:Int}(h:0<L.length):dif (L++[x]) 0=dif L 0++[(x-at0 L (L.length-1)-0)%4]:=by
 have al:∀{k},k<L.length->at0 (L++[x]) k=at0 L k:=λ{k} hk=>by unfold at0;rw[Zv,Zx hk,<-Zv]
 have ar:at0 (L++[x]) L.length=x:=by unfold at0;simp[List.getD]
 unfold dif;rw[Zm,ZQ,show L.length+1-1=(L.length-1)+1 by lia,List.range_succ,Zt];congr 1
 ·refine Yn λk hk=>?_;have:=Zs.mp hk;rw[al (by omega),al (by omega)]
 ·show[(at0 (L++[x]) (L.length-1+1)-at0 (L++[x]) (L.length-1)-0)%4]=_;rw[show L.length-1+1=L.length by lia,ar,al (by omega)]
theorem FD{f:Nat->Nat}:∀{i:Nat},(∀j,j<=i->f j<4)->(∀j,j<i->f (j+1)≠(f j+2)%4)->(((dif ((fW f i).map λn:Nat=>(n:Int)) 0).count 1:Nat):Int)-((dif ((fW f i).map λn:Nat=>(n:Int)) 0).count 3:Nat)=ts1 f i
 |0,_,_=>rfl
 |i+1,h4,on=>by
  have ih:=FD (i:=i) (λj hj=>h4 j (by lia)) λj hj=>on j (by lia);show _=ts1 f i+_;rw[<-ih];have a1:=h4 i (by lia);have a2:=h4 (i+1) (by lia);have a3:=on i (by lia);rw[show fW f (i+1)=if f (i+1)=f i then fW f i else fW f i++[f (i+1)] from rfl];by_cases c:f (i+1)=f i
  ·rw[if_pos c,c];lia
  ·rw[if_neg c,Zt];have lp:0<((fW f i).map λn:Nat=>(n:Int)).length:=by rw[Zq];exact vJ f i
   show(((dif ((fW f i).map (λn:Nat=>(n:Int))++[((f (i+1):Nat):Int)]) 0).count 1:Nat):Int)-((dif ((fW f i).map (λn:Nat=>(n:Int))++[((f (i+1):Nat):Int)]) 0).count 3:Nat)=_;rw[M8 lp,List.count_append,List.count_append,vP,Zq,mL];have:((f (i+1):Int)-(f i:Int)-0)%4=1\/((f (i+1):Int)-(f i:Int)-0)%4=3:=by omega
   rcases this with z | z
   ·rw[z];have e1:List.count (1:Int) [1]=1:=rfl;have e2:List.count (3:Int) [1]=0:=rfl;rw[e1,e2];lia
   ·rw[z];have e1:List.count (1:Int) [3]=0:=rfl;have e2:List.count (3:Int) [3]=1:=rfl;rw[e1,e2];lia
theorem Gln.turns{a b:Nat}{W:Nat->Nat->Option Nat}{pl:List Nat}{gl:List GZ}{ts:MM.aS}{ll:List (List Pt)}{gs:List (List Key×V)}(g:Gln W pl gl ts ll gs)(s:TU.Stp a b W){e:Nat}(he:e<2*ts.length):at0 (lfs ll) e-at0 (lfs ll) (MM.oth e)=TU.sC (ghd gl) e (gn gl e-1):=by
 obtain⟨z,h1,h2⟩:=g.at_ he;obtain⟨ps,h3,h4⟩:=g.ln h1;have t:=g.tr h1;have n0:=t.n0;have b4:∀j,j<=z.1-1->z.2.2 j<4:=λj hj=>s.h4 (t.go (by omega));have on:∀j,j<z.1-1->z.2.2 (j+1)≠(z.2.2 j+2)%4:=λj hj=>t.on (by omega);have hf:∀x:List Pt,([cnt x 1,cnt x 3]:List Int).length=2:=λ_=>rfl;have l0:at0 (lfs ll) (2*(e / 2)+0)=cnt ps 1:=by unfold lfs;rw[j3 hf h3 (by lia)];rfl
 have l1:at0 (lfs ll) (2*(e / 2)+1)=cnt ps 3:=by unfold lfs;rw[j3 hf h3 (by lia)];rfl
 have key:=FD b4 on;rw[<-h4]at key;have key':cnt ps 1-cnt ps 3=ts1 z.2.2 (z.1-1):=key;have en:gn gl e=z.1:=by unfold gn;rw[h2]
 rw[en];by_cases c:e%2=0
 ·rw[oG (f:=z.2.2) λj _=>by unfold ghd;rw[if_pos c,h2],<-key'];have o:MM.oth e=2*(e / 2)+1:=by unfold MM.oth;rw[if_pos c];lia
  rw[o,l1,show at0 (lfs ll) e=at0 (lfs ll) (2*(e / 2)+0) by congr 1;lia,l0]
 ·rw[oG (f:=λi=>(z.2.2 (z.1-1-i)+2)%4) λj _=>by unfold ghd;rw[if_neg c,h2],LK b4 on,<-key'];have o:MM.oth e=2*(e / 2)+0:=by unfold MM.oth;rw[if_neg c];lia
  rw[o,l0,show at0 (lfs ll) e=at0 (lfs ll) (2*(e / 2)+1) by congr 1;lia,l1]
  lia
theorem MU(ll:List (List Pt))(e:Nat):0<=at0 (lfs ll) e:=by
 have:∀x∈lfs ll,0<=x:=λx hx=>by
  obtain⟨ps,_,h⟩:=Yk.mp hx;have h':x=cnt ps 1\/x=cnt ps 3:=by simpa using h
  rcases h' with rfl | rfl<;>exact Int.natCast_nonneg _
 unfold at0;rw[Zv];cases h:(lfs ll)[e]? with
 |none=>exact Int.le_refl _
 |some x=>exact this x (Zg h)
theorem pA{pl:List Nat}{x:Nat}(h:x∈pl):pl[pl.idxOf x]?=some x:=by
 have hi:=List.idxOf_lt_length_of_mem h;rw[Zz hi,List.getElem_idxOf hi]
theorem Gln.start{W:Nat->Nat->Option Nat}{pl:List Nat}:Gln W pl [] [] [] []:=⟨rfl,rfl,λ{k z} h=>(by simp at h),λ{k z} h=>(by simp at h),λ{k z} h=>(by simp at h),λ{x y} _ h=>(by cases h),λ{k z x y} h=>(by simp at h),λ{k k' z z' x y} h=>(by simp at h)⟩
theorem Gln.pct{a b:Nat}{W:Nat->Nat->Option Nat}{pl:List Nat}{gl:List GZ}{ts:MM.aS}{os:MM.bI}{ll:List (List Pt)}{gs:List (List Key×V)}(g:Gln W pl gl ts ll gs)(s:TU.Stp a b W)(tw:TU.Two W pl)(pnd:pl.Nodup)(pne:∀p∈pl,∃h q,W p h=some q)(pl0:0<pl.length)(al:Al W pl gs pl.length 0)(ol:os.length=pl.length)
  (mem:∀k,k<pl.length->∀e,e∈MM.row os k↔e<2*ts.length/\MM.place ts e=k) (rows:∀k,k<pl.length->∃l,MM.Rot (MM.row os k) l/\l.Nodup/\l.Pairwise λe e'=>at0 (lvs ll) e<=at0 (lvs ll) e'):TU.Pct W pl ts os (gn gl) (gpt gl) (ghd gl):=by
 have sur:∀{p h q},p∈pl->W p h=some q->∃e,e<2*ts.length/\gpt gl e 0=p/\ghd gl e 0=h:=λ{p h q} hp hw=>by
  have hi:=List.idxOf_lt_length_of_mem hp;have eg:pl.getD (pl.idxOf p) 0=p:=by rw[Zv,pA hp];rfl
  have:=al (pl.idxOf p) h q hi (by rw[eg];exact hw) (.inl hi);rw[eg]at this;obtain⟨k,z,h1,h2⟩:=g.gi hp this;have hk:k<ts.length:=by rw[<-g.len];exact(Zj.mp h1).1
  have ez:gl.getD k z0'=z:=by rw[Zv,h1];rfl
  rcases h2 with⟨rfl,rfl⟩ | ⟨rfl,rfl⟩
  ·refine⟨2*k,by lia,?_,?_⟩
   ·unfold gpt;rw[if_pos (by lia),show 2*k / 2=k by lia,ez]
   ·unfold ghd;rw[if_pos (by lia),show 2*k / 2=k by lia,ez]
  ·refine⟨2*k+1,by lia,?_,?_⟩
   ·unfold gpt;rw[if_neg (by lia),show(2*k+1) / 2=k by lia,ez,Nat.sub_zero]
   ·unfold ghd TU.bk;rw[if_neg (by lia),show(2*k+1) / 2=k by lia,ez,Nat.sub_zero]
 have inj:∀{e e'},e<2*ts.length->e' < 2*ts.length->gpt gl e 0=gpt gl e' 0->ghd gl e 0=ghd gl e' 0->e=e':=λ{e e'} he he' h1 h2=>by
  obtain⟨z,z1,z2⟩:=g.at_ he;obtain⟨z',z1',z2'⟩:=g.at_ he';have D:∀{e z},gl.getD (e / 2) z0'=z->Dt z (gpt gl e 0) (ghd gl e 0):=λ{e z} q=>by
   unfold Dt gpt ghd TU.bk;rw[q];by_cases c:e%2=0
   ·rw[if_pos c,if_pos c];exact .inl ⟨rfl,rfl⟩
   ·rw[if_neg c,if_neg c,Nat.sub_zero,Nat.sub_zero];exact .inr ⟨rfl,rfl⟩
  have d1:=D z2;have d2:=D z2';rw[<-h1,<-h2]at d2;have ek:=g.ap z1 z1' d1 d2;rw[<-ek,z1]at z1';have ezz:z=z':=Option.some.inj z1';subst ezz;have t:=g.tr z1;by_cases c:e%2=e' % 2
  ·lia
  ·exfalso;have self:=t.self s tw;unfold gpt at h1;unfold ghd at h2;rw[z2,z2']at h1 h2;by_cases c0:e%2=0
   ·rw[if_pos c0,if_neg (by lia),Nat.sub_zero]at h1 h2;exact self ⟨h1.symm,h2.symm⟩
   ·rw[if_neg c0,if_pos (by lia),Nat.sub_zero]at h1 h2;exact self ⟨h1,h2⟩
 have one:1<=ts.length:=by
  obtain⟨h,q,hw⟩:=pne pl[0] (Zp pl0);obtain⟨e,he,_⟩:=sur (Zp pl0) hw
  lia
 have get:∀{e},e<2*ts.length->∃z,gl[e / 2]?=some z/\gn gl e=z.1/\TU.Tr W pl (gn gl e) (gpt gl e) (ghd gl e):=λ{e} he=>by
  obtain⟨z,z1,z2⟩:=g.at_ he;have t:=g.tr z1;refine⟨z,z1,by unfold gn;rw[z2],?_⟩;by_cases c:e%2=0
  ·have e1:gpt gl e=z.2.1:=by funext i;unfold gpt;rw[if_pos c,z2]
   have e2:ghd gl e=z.2.2:=by funext i;unfold ghd;rw[if_pos c,z2]
   rw[e1,e2];unfold gn;rw[z2];exact t
  ·have e1:gpt gl e=λi=>z.2.1 (z.1-i):=by funext i;unfold gpt;rw[if_neg c,z2]
   have e2:ghd gl e=λi=>(z.2.2 (z.1-1-i)+2)%4:=by funext i;unfold ghd;rw[if_neg c,z2]
   rw[e1,e2];unfold gn;rw[z2];exact t.rev s
 have par:∀e,MM.oth e / 2=e / 2/\(MM.oth e%2=0↔¬e%2=0):=λe=>⟨MM.eU e,by rw[MM.oU];lia⟩
 refine⟨one,λ{e} he=>?_,λ{e i} he hi=>?_,λ{e i} he h0 hi=>?_,λ{e i} he hi=>?_,λ{e} he=>?_,λ{e} he=>?_,λ{e i} he hi=>?_,λ{e i} he hi=>?_,inj,sur,ol,λ{x} hx=>?_,pnd,λ{p} hp=>pne p hp,tw⟩
 ·obtain⟨_,_,_,t⟩:=get he;exact t.n0
 ·obtain⟨_,_,_,t⟩:=get he;exact t.go hi
 ·obtain⟨_,_,_,t⟩:=get he;exact t.mid h0 hi
 ·obtain⟨_,_,_,t⟩:=get he;exact t.on hi
 ·obtain⟨z,z1,z2⟩:=g.at_ he;have t:=g.tr z1;have tt:=g.tie z1;have et:ts.getD (e / 2) (0,0)=(pl.idxOf (z.2.1 0),pl.idxOf (z.2.1 z.1)):=by rw[Zv,tt];rfl
  unfold MM.place gpt;rw[et,z2];by_cases c:e%2=0
  ·rw[if_pos c,if_pos c];exact pA t.fst
  ·rw[if_neg c,if_neg c,Nat.sub_zero];exact pA t.lst
 ·unfold gn;rw[(par e).1]
 ·obtain⟨z,z1,z2⟩:=g.at_ he;unfold gn at hi;unfold gpt gn;rw[(par e).1,z2];rw[z2]at hi;by_cases c:e%2=0
  ·rw[if_neg (λq=>(par e).2.mp q c),if_pos c]
  ·rw[if_pos ((par e).2.mpr c),if_neg c,show z.1-(z.1-i)=i by omega]
 ·obtain⟨z,z1,z2⟩:=g.at_ he;have t:=g.tr z1;unfold gn at hi;unfold ghd gn;rw[(par e).1,z2];rw[z2]at hi;by_cases c:e%2=0
  ·rw[if_neg (λq=>(par e).2.mp q c),if_pos c]
  ·have h4:=s.h4 (t.go hi);rw[if_pos ((par e).2.mpr c),if_neg c,show z.1-1-(z.1-1-i)=i by omega];lia
 ·obtain⟨l,r,nd,so⟩:=rows x hx;have ml:∀e,e∈l↔e<2*ts.length/\MM.place ts e=x:=λe=>by rw[<-r.perm.mem_iff];exact mem x hx e
  refine⟨l,r,?_,ml⟩;refine List.Pairwise.imp_of_mem (λ{e e'} he he' q=>?_) (so.and nd);obtain⟨h1,p1⟩:=(ml e).mp he;obtain⟨h2,p2⟩:=(ml e').mp he';have q1:=q.1;rw[g.head h1,g.head h2]at q1;refine Nat.lt_of_le_of_ne (by lia) λz=>q.2 (inj h1 h2 ?_ z);have at_:∀{e},e<2*ts.length->pl[MM.place ts e]?=some (gpt gl e 0):=λ{e} he=>by
   obtain⟨z,z1,z2⟩:=g.at_ he;have t:=g.tr z1;have tt:=g.tie z1;have et:ts.getD (e / 2) (0,0)=(pl.idxOf (z.2.1 0),pl.idxOf (z.2.1 z.1)):=by rw[Zv,tt];rfl
   unfold MM.place gpt;rw[et,z2];by_cases c:e%2=0
   ·rw[if_pos c,if_pos c];exact pA t.fst
   ·rw[if_neg c,if_neg c,Nat.sub_zero];exact pA t.lst
  have a1:=at_ h1;have a2:=at_ h2;rw[p1]at a1;rw[p2,a1]at a2;exact Option.some.inj a2
theorem Al.up{W:Nat->Nat->Option Nat}{pl:List Nat}{gs:List (List Key×V)}{i j:Nat}(h:Al W pl gs i j)(e:∀q,W (pl.getD i 0) j=some q->(cJ gs (kk (pl.getD i 0) j)).isSome=true):Al W pl gs i (j+1):=λk h' q hk hw z=>by
 by_cases c:k=i/\h'=j
 ·obtain⟨rfl,rfl⟩:=c;exact e q hw
 ·exact h k h' q hk hw (by lia)
theorem Al.more{W:Nat->Nat->Option Nat}{pl:List Nat}{gs gs':List (List Key×V)}{i j:Nat}(h:Al W pl gs i j)(m:∀x y:Nat,(cJ gs (kk x y)).isSome=true->(cJ gs' (kk x y)).isSome=true):Al W pl gs' i j:=λk h' q hk hw z=>m _ _ (h k h' q hk hw z)
theorem Al.on{a b:Nat}{W:Nat->Nat->Option Nat}{pl:List Nat}{gs:List (List Key×V)}{i:Nat}(s:TU.Stp a b W)(h:Al W pl gs i 4):Al W pl gs (i+1) 0:=λk h' q hk hw z=>h k h' q hk hw (by have:=s.h4 hw;lia)
def Hdg(ts:MM.aS)(os:MM.bI)(c l:Nat->Int):Prop:=∃h:Nat->Int,∀e,e<2*ts.length->(h (MM.oth e)-(h e+l e-l (MM.oth e))-2)%4=0/\(h (MM.behind ts os e)-h (MM.oth e)+c e)%4=0
theorem HL(f:Nat->Nat)(h4:∀j,f j<4\/True):∀{i},(∀j,j<=i->f j<4)->(∀j,j<i->f (j+1)≠(f j+2)%4)->((f i:Int)-(f 0:Int)-ts1 f i)%4=0
 |0,_,_=>by show((f 0:Int)-(f 0:Int)-0)%4=0;lia
 |i+1,b4,on=>by
  have ih:=HL f h4 (i:=i) (λj hj=>b4 j (by lia)) λj hj=>on j (by lia);have a1:=b4 i (by lia);have a2:=b4 (i+1) (by lia);show((f (i+1):Int)-(f 0:Int)-(ts1 f i+((((f (i+1)+6-f i)%4:Nat):Int)-2)))%4=0
  lia
theorem O4{a b:Nat}{W:Nat->Nat->Option Nat}{pl come:List Nat}{gl:List GZ}{ts:MM.aS}{os:MM.bI}{ll:List (List Pt)}{gs:List (List Key×V)}(g:Gln W pl gl ts ll gs)(nt:Net a b W)(ha:0<a)(cm:v7 W (a*b) come)(pc:Plc W come pl)(hall:TU.kQ a (TU.eps a b) 0=true)(h10:a*b<=10)(al:Al W pl gs pl.length 0)(ol:os.length=pl.length)
  (mem:∀k,k<pl.length->∀e,e∈MM.row os k↔e<2*ts.length/\MM.place ts e=k) (rows:∀k,k<pl.length->∃l,MM.Rot (MM.row os k) l/\l.Nodup/\l.Pairwise λe e'=>at0 (lvs ll) e<=at0 (lvs ll) e') :
  MM.Good ts os/\MM.FC ts os/\(∃o,o<(MM.lls ts os).length/\MM.Shp ts os o (at0 (cns ts os (lvs ll))) (at0 (lfs ll)))/\Hdg ts os (at0 (cns ts os (lvs ll))) (at0 (lfs ll)):=by
 have s:=nt.stp ha;have tw:TU.Two W pl:=pc.two' s cm;have P:=g.pct s tw pc.nd (λp hp=>cm.out p (pc.sub p hp)) pc.ne al ol mem rows;have gd:=P.good s;have ll2:(lvs ll).length=2*ts.length:=by rw[mF,g.lln]
 have hc:∀e,e<2*ts.length->at0 (cns ts os (lvs ll)) e=TU.cor ts os (ghd gl) e:=λe he=>by
  have hb:=gd.maps.lt e he;unfold cns TU.cor;have:at0 ((List.range (lvs ll).length).map λe=>(at0 (lvs ll) (MM.oth e)-at0 (lvs ll) (MM.behind ts os e)-1)%4+1) e=(at0 (lvs ll) (MM.oth e)-at0 (lvs ll) (MM.behind ts os e)-1)%4+1:=by
   show((List.range (lvs ll).length).map λe=>(at0 (lvs ll) (MM.oth e)-at0 (lvs ll) (MM.behind ts os e)-1)%4+1).getD e 0=_;rw[Zv,Zk,Yv (by lia)];rfl
  rw[this,g.head (MM.b9 he),g.head hb]
 have hl:=λe he=>g.turns s (e:=e) he;have cn:TU.Cnn W:=λS cl p h q p' h' q' hw hw' sp=>by
  obtain⟨r,hr,hS⟩:=cm.cn;refine ZT λno=>?_;have m1:=cm.cl p h q hw;have m2:=cm.cl p' h' q' hw';by_cases sr:S r
  ·exact no (hS S cl sr p' m2)
  ·exact hS (λx=>¬S x) (λx k y nx e sy=>nx (cl y _ x sy (nt.sym x k y e))) sr p m1 sp
 obtain⟨_,fc,sh⟩:=P.shape s hall h10 cn hc hl λe _=>MU ll e;refine⟨gd,fc,sh,λe=>(ghd gl e 0:Int),λe he=>⟨?_,?_⟩⟩
 ·have n0:=P.n0 he;have h0:ghd gl (MM.oth e) 0=(ghd gl e (gn gl e-1)+2)%4:=by rw[P.rh he n0,Nat.sub_zero]
  have t1:=hl e he;rw[oG (f:=ghd gl e) λ_ _=>rfl]at t1;have t2:=HL (ghd gl e) (λ_=>.inr trivial) (i:=gn gl e-1) (λj hj=>P.h4 s he (by lia)) λj hj=>P.on he (by lia);show((ghd gl (MM.oth e) 0:Int)-((ghd gl e 0:Int)+at0 (lfs ll) e-at0 (lfs ll) (MM.oth e))-2)%4=0;rw[h0]
  lia
 ·show((ghd gl (MM.behind ts os e) 0:Int)-(ghd gl (MM.oth e) 0:Int)+at0 (cns ts os (lvs ll)) e)%4=0;rw[hc e he];unfold TU.cor;lia
structure SHp(ts:MM.aS)(os:MM.bI)(o:Nat)(c l:Nat->Int)(k:Nat):Prop where
 s:MM.Shp ts os o c l
 h:Hdg ts os c l
 b:∀e,l e<=1000+(k:Int)
theorem SHp.up{ts:MM.aS}{os:MM.bI}{o k:Nat}{c l:Nat->Int}(s:SHp ts os o c l k):SHp ts os o c l (k+1):=⟨s.s,s.h,λe=>by have:=s.b e;lia⟩
theorem SHp.turn{ts:MM.aS}{os:MM.bI}{o k:Nat}{c l l':Nat->Int}{e:Nat}(g:MM.Good ts os)(s:SHp ts os o c l k)(h:∀z,l' z=l z+(if z=e then 1 else 0)+(if z=MM.oth e then 1 else 0)):SHp ts os o c l' (k+1):=by
 refine⟨MM.FN g s.s h,?_,λz=>?_⟩
 ·obtain⟨f,hf⟩:=s.h;refine⟨f,λz hz=>⟨?_,(hf z hz).2⟩⟩;have:=(hf z hz).1;have e1:l' z-l' (MM.oth z)=l z-l (MM.oth z):=by
   rw[h z,h (MM.oth z)];have:(MM.oth z=e)=(z=MM.oth e):=propext MM.u4;have:(MM.oth z=MM.oth e)=(z=e):=propext ⟨λq=>MM.mC q,λq=>by rw[q]⟩;simp only[*]
   lia
  lia
 ·have:=s.b z;have ne:=MM.qL e;rw[h z];by_cases c1:z=e
  ·rw[if_pos c1,if_neg (λq=>ne (by rw[<-q,c1]))];lia
  ·rw[if_neg c1];split<;>lia
theorem SHp.quarter{ts:MM.aS}{os:MM.bI}{o k:Nat}{c c' l l':Nat->Int}{e a:Nat}{b:Int}(g:MM.Good ts os)(s:SHp ts os o c l k)(he:e<2*ts.length)(ha:a<2*ts.length)(hb:MM.behind ts os a=e)(h1:1<c (MM.oth e))
  (hc:∀z,c' z=c z-(if z=MM.oth e then 1 else 0)+(if z=a then 1 else 0)) (hl:∀z,l' z=l z+(if z=e then 1-b else 0)+(if z=MM.oth e then -b else 0)) (hb0:b=if 0<l (MM.oth e) then 1 else 0):SHp ts os o c' l' (k+1):=by
 have ne:=MM.qL e;have b01:b=0\/b=1:=by rw[hb0];split<;>simp
 refine⟨MM.yN g s.s he ha hb h1 hc hl hb0,?_,λz=>?_⟩
 ·obtain⟨f,hf⟩:=s.h;refine⟨λz=>if z=e then f z-1 else f z,λz hz=>⟨?_,?_⟩⟩
  ·have q:=(hf z hz).1;have eo:(MM.oth z=MM.oth e)=(z=e):=propext ⟨λq=>MM.mC q,λq=>by rw[q]⟩;have eo':(MM.oth z=e)=(z=MM.oth e):=propext MM.u4;have nz:=MM.qL z;have h1:=hl z;have h2:=hl (MM.oth z);simp only[eo,eo']at h2 ⊢;by_cases c1:z=e
   ·have c2:¬z=MM.oth e:=λq=>ne (by rw[<-q,c1]);simp only[c1,if_true]at h1 h2 ⊢;rw[if_neg (Ne.symm ne)]at h1 h2 ⊢;rw[c1]at q
    lia
   ·by_cases c2:z=MM.oth e
    ·simp only[c1,c2,if_true,if_false]at h1 h2 ⊢;rw[if_neg ne]at h1 h2 ⊢;rw[c2]at q
     lia
    ·simp only[c1,c2,if_false]at h1 h2 ⊢
     lia
  ·have q:=(hf z hz).2;have h3:=hc z;have eo':(MM.oth z=e)=(z=MM.oth e):=propext MM.u4;have eb:(MM.behind ts os z=e)=(z=a):=propext ⟨λq=>g.maps.inj _ _ hz ha (q.trans hb.symm),λq=>by rw[q];exact hb⟩;simp only[eo',eb]at h3 ⊢;by_cases c1:z=MM.oth e<;>by_cases c2:z=a
   ·rw[if_pos c1,if_pos c2]at h3 ⊢;lia
   ·rw[if_pos c1,if_neg c2]at h3 ⊢;lia
   ·rw[if_neg c1,if_pos c2]at h3 ⊢;lia
   ·rw[if_neg c1,if_neg c2]at h3 ⊢;lia
 ·have:=s.b z;rw[hl z];by_cases c1:z=e
  ·rw[if_pos c1,if_neg (λq=>ne (by rw[<-q,c1]))];rcases b01 with z | z<;>rw[z]<;>lia
  ·rw[if_neg c1];split
   ·rcases b01 with z | z<;>rw[z]<;>lia
   ·lia
end L2
namespace K36
open PySem L2 PyProof.Rows
def HR:Sp:=λvs H Q _=>∃(wa sa c0 l0:Addr) (n o:Nat) (ts:MM.aS) (os:MM.bI) (cs ls:List Int) (c m:Int),vs=[.ref wa,.ref sa,.int c,.int m]/\iH H wa n ts os/\MM.Good ts os/\ts.length<=40/\H sa=some (.tup [.ref c0,.ref l0])/\H c0=some (.lst (cs.map V.int))/\H l0=some (.lst (ls.map V.int)) /\
 cs.length=2*ts.length/\ls.length=2*ts.length/\SHp ts os o (at0 cs) (at0 ls) 0/\0<=m/\m<=20 /\
 ∀(r cA lA:Addr) (cs ls:List Int) (H':Hp),aW H H'->H' r=some (.tup [.ref cA,.ref lA])->H' cA=some (.lst (cs.map V.int))->H' lA=some (.lst (ls.map V.int))->H cA=none->H lA=none->cA≠lA->cs.length=2*ts.length->ls.length=2*ts.length->SHp ts os o (at0 cs) (at0 ls) m.toNat->Q (.ref r) H'
theorem C9(T:Txt K mg t):cU P w K mg base CX0 3 t.vV t.vB ["_law_web","_law_shape","_law_cell","_law_many"] HR:=by
 refine T.uV.F.ok rF (λvs H Q E h=>?_) (λcdv A outer s H vs Q E hr h=>?_)
 ·obtain⟨wa,sa,c0,l0,n,o,ts,os,cs,ls,c,m,rfl,_⟩:=h;rfl
 obtain⟨wa,sa,c0,l0,n,o,ts,os,cs0,ls0,c,m,rfl,hWeb,g,h40,hsa,hc0,hl0,lc0,ll0,shp,hm0,hm1,q⟩:=h;have nd:=rF.nd;have nd_l_one_l_end_l_web:(["_law_one","_law_end","_law_web"]:List Str).Nodup:=by decide
 refine⟨_,(aF (IH (i:=4) (j:=5) rfl nd rfl rfl (by decide) rfl rfl (aA (dP fU rfl T.m9 boot_list (aA (aL aZ (pv 1) aC (λ_ _=>rfl)) aE)) (aA (dP fU rfl T.m9 boot_list (aA (aL aZ (pv 1) aC (λ_ _=>rfl)) aE)) aE)) rfl)
  (aF (cR PassesOwn.never rfl (bP rfl T.bV (aA (pv 3) aE)) (aQ (i:=6) nd rfl (Or.inl rfl)) (aF (aU 7 nd (bH (gI T) hr T.eE aX (aA (pv 2) (aA (aJ bD aC (pv 6)) aE))))
  (aF (aU 8 nd (aJ bG (pv 7) (a7 a4 rfl T.eA PySem.boot_len (aA (pv 4) aE))))
  (aF (aU 9 nd (bH (fC T) hr T.eP aX (aA (pv 8) aE)))
  (aF (aU 10 nd (aL aR (dF (N':=["_law_one","_law_end","_law_web"]) (js:=[none,some 8,some 0]) rfl (bP rfl T.bV (aA (a7 a4 rfl T.eA PySem.boot_len (aA (pv 4) aE)) aE)) (λ_ _ _ _ _=>(aQ (i:=0) nd_l_one_l_end_l_web rfl (Or.inl rfl))) (λ_ _ _ _ _=>(tX (bF lK (bH (gJ T) hr T.eX aX (aA (aL (gU (K:=K) rfl) (pv 2) aC (λ_ _=>rfl)) (aA (aL (gU (K:=K) rfl) (pv 2) aC (λ_ _=>rfl)) (aA (pv 0) aE)))) (pv 1) (bO _)))) (λ_ _ _ _ _=>(pv 0))) aC (λ_ _=>rfl)))
  (aK (fL (bF lK (aJ bG (aJ dG (pv 7) aC) aC) aC (bO _)) (aF (iY (aJ bD (aL aR (pv 5) (pv 8) (λ_ _=>rfl)) aC) (nP (pv 5) (pv 8) set_list))
  (aK (iY (aJ bD (aL aR (pv 5) (pv 9) (λ_ _=>rfl)) aC) (nP (pv 5) (pv 9) set_list)))) (aK (fL (bF JC (aL aR (pv 4) (pv 9) (λ_ _=>rfl)) aC (bO _)) (aF (iY (aJ cH (aL aR (pv 4) (pv 9) (λ_ _=>rfl)) aC) (nP (pv 4) (pv 9) set_list))
  (aF (iY (aJ bD (aL aR (pv 4) (pv 10) (λ_ _=>rfl)) aC) (nP (pv 4) (pv 10) set_list))
  (aF (aU 11 nd (dP mN rfl T.zV boot_int (aA (kE JC (aL aR (pv 5) (pv 9) (λ_ _=>rfl)) aC (bO _)) aE)))
  (aF (iY (aJ cH (aL aR (pv 5) (pv 9) (λ_ _=>rfl)) (pv 11)) (nP (pv 5) (pv 9) set_list))
  (aK (iY (aJ cH (aJ bD (aL aR (pv 5) (pv 8) (λ_ _=>rfl)) aC) (pv 11)) (nP (pv 5) (pv 8) set_list))))))) dA)))))))))
  (aK (bE (b8 (aA (pv 4) (aA (pv 5) aE))))))),?_⟩
 obtain⟨tA,oA,hw,hts,hos⟩:=id hWeb;refine(aI _ rfl sa _ _ _ rfl (bC rfl (SqT.of hsa) rfl c0 _ rfl (.inl (SqL.of hc0)) (λcA hcA=>?_)));have g1:=aG hcA (.lst (cs0.map V.int));refine(aI _ rfl sa _ _ _ rfl (bC rfl (SqT.of (g1 _ _ hsa)) rfl l0 _ rfl (.inl (SqL.of (g1 _ _ hl0))) (λlA hlA=>?_)));have g2:=aG hlA (.lst (ls0.map V.int));refine⟨_,_,rfl,?_⟩;have ncl:cA≠lA:=aN aB hlA;have hlA0:H lA=none:=g1.free hlA;have eC:=g2 _ _ (aB (H:=H) (a:=cA) (o:=.lst (cs0.map V.int)));have eL:(upd (upd H cA (.lst (cs0.map V.int))) lA (.lst (ls0.map V.int))) lA=some (.lst (ls0.map V.int)):=aB;have g03:=g1.trans g2;generalize upd (upd H cA (.lst (cs0.map V.int))) lA (.lst (ls0.map V.int))=H3 at eC eL g03;clear g1 g2;refine(sG _ rfl m rfl (by lia) (by lia) (cI (lo:=0) (n:=m.toNat)
  (λi σ H'=>aW H H'/\(∃cs ls:List Int,H' cA=some (.lst (cs.map V.int))/\H' lA=some (.lst (ls.map V.int))/\cs.length=2*ts.length/\ls.length=2*ts.length/\SHp ts os o (at0 cs) (at0 ls) i) /\
   ∃o6 o7 o8 o9 o10 o11:Option V,σ=[some (.ref wa),some (.ref sa),some (.int c),some (.int m),some (.ref cA),some (.ref lA),o6,o7,o8,o9,o10,o11])
  ⟨g03,(bR _ _ eC eL lc0 ll0 shp),(sF _ _ _ _ _ _ rfl)⟩ ?_ ?_))
 ·rintro i σ H4 hi ⟨g4,⟨cs,ls,e1,e2,lc,ll,sh⟩,o6,o7,o8,o9,o10,o11,rfl⟩;show uM 6 (V.int (0+(i:Int))) _ _ _;rw[Int.zero_add];refine(bS _ rfl _ rfl _ _ rfl (gK rfl _ _ rfl (by lia) (by lia) (λp hp0 hp1=>?_)));have hl1:=g.one;have lcm:(cs.map V.int).length=2*ts.length:=by rw[Zq];exact lc
  refine(bS _ rfl _ rfl cA _ rfl (gK (.inl (SqL.of e1)) _ _ rfl rfl (by show(0:Int)<(((cs.map V.int).length:Nat):Int);lia) ?_));obtain⟨e,he,ee⟩:=MM.PY p (n:=(cs.map V.int).length) (by lia);show uM 8 (V.int (p%(((cs.map V.int).length:Nat):Int))) _ _ _;rw[ee];rw[lcm]at he;have heo:=MM.b9 he;refine⟨_,rfl,e,rfl,?_⟩;refine(a9 _ rfl cA _ rfl (.inl (SqL.of e1)) ⟨ _,rfl,by lia,by lia,λD hD=>?_⟩);refine sQ ((((cs.map V.int).length:Nat):Int)).toNat (λj ys H'=>ys=vns ((List.range j).filter λx=>decide (MM.behind ts os x=e))/\H'=upd H4 D (.lst ys)) ⟨rfl,rfl⟩ ?_ ?_
  ·rintro j ys H' hj ⟨rfl,rfl⟩;have hj':j<2*ts.length:=by lia
   refine⟨hj,?_⟩;rintro x H'' ⟨rfl,rfl⟩;have gD:=aG hD (.lst (vns ((List.range j).filter λx=>decide (MM.behind ts os x=e))));have gg:=g4.trans gD;have ej:(0:Int)+(j:Int)=(j:Int):=Int.zero_add _;rw[ej];refine⟨(Fills.refl _).set _ rfl,(aI _ rfl wa _ _ _ rfl (bU rfl (SqT.of (gg _ _ hw)) rfl _ rfl (aO wa _ _ _ rfl rfl (SqT.of (gg _ _ hw)) ⟨ rfl,_,(iA rfl tA oA ts os j rfl (HF (gg.ts hts) (gg.os hos) g hj' _ rfl rfl ⟨ _,rfl,?_⟩))⟩)))⟩;have hlen:(vns ((List.range j).filter λx=>decide (MM.behind ts os x=e))).length<=80:=by
    rw[Zq];have:=List.length_filter_le (λx=>decide (MM.behind ts os x=e)) (List.range j);rw[Yj]at this
    lia
   have rs:(List.range (j+1)).filter (λx=>decide (MM.behind ts os x=e))=(List.range j).filter (λx=>decide (MM.behind ts os x=e))++(if MM.behind ts os j=e then [j] else []):=by
    rw[List.range_succ,List.filter_append,List.filter_cons,List.filter_nil];by_cases z:MM.behind ts os j=e<;>simp[z]
   by_cases z:MM.behind ts os j=e
   ·refine dY (by rw[z];simp) ?_;refine(sU _ rfl aB (Yt hlen (by decide)) ?_ (by rw[fJ]));rw[rs,if_pos z,sH];rfl
   ·refine cF (decide_eq_false (λh=>z (by have:=V.int.inj h;lia))) ?_;rw[rs,if_neg z,List.append_nil];exact⟨rfl,rfl⟩
  rintro ys H5 ⟨rfl,rfl⟩;refine⟨Nat.le_refl _,?_⟩;have eN:((((cs.map V.int).length:Nat):Int)).toNat=2*ts.length:=by lia
  rw[eN];have gD:=aG hD (.lst (vns ((List.range (2*ts.length)).filter λx=>decide (MM.behind ts os x=e))));obtain⟨a0,ha0,hb0⟩:=MM.SN g.maps he;have hmem:a0∈(List.range (2*ts.length)).filter λx=>decide (MM.behind ts os x=e):=Yz.mpr ⟨Zs.mpr ha0,by simp[hb0]⟩;have hpos:=List.length_pos_of_mem hmem;have hA:=Yz.mp (getD_mem hpos);have ha:=Zs.mp hA.1;have hb:MM.behind ts os (((List.range (2*ts.length)).filter λx=>decide (MM.behind ts os x=e)).getD 0 0)=e:=of_decide_eq_true hA.2;refine(aO D _ _ _ rfl rfl (SqL.of aB) ⟨ lT (j:=0) hpos rfl,?_⟩);generalize ((List.range (2*ts.length)).filter λx=>decide (MM.behind ts os x=e)).getD 0 0=a at ha hb;have g5:=g4.trans gD;have f1:=gD _ _ e1;have f2:=gD _ _ e2;generalize upd H4 D (.lst (vns ((List.range (2*ts.length)).filter λx=>decide (MM.behind ts os x=e))))=H5 at g5 f1 f2;have hoe:=MM.qL e;have keepL:∀{H':Hp}{u:HO},aW H H'->aW H (upd H' lA u):=λgg b v h=>by rw[aH (aN h hlA0)];exact gg _ _ h
  have keepC:∀{H':Hp}{u:HO},aW H H'->aW H (upd H' cA u):=λgg b v h=>by rw[aH (aN h hcA)];exact gg _ _ h
  refine(bT _ rfl _ _ rfl rfl ⟨by decide,by decide⟩ (bR _ _ rfl rfl (by show(0:Int)<4;decide) rfl ⟨ _,rfl,uJ (λ_=>?_) (λ_=>?_)⟩))
  ·refine⟨_,rfl,(aI _ rfl lA _ _ _ rfl (bC rfl (SqL.of f2) (a8 (j:=e) (by lia) rfl) _ _ rfl rfl ⟨ _,rfl,(aI _ rfl lA _ _ e rfl ⟨ rfl,f2,qR (by rw[Zq];lia) rfl,?_⟩)⟩))⟩;rw[<-List.map_set];have f3:(upd H5 lA (.lst ((ls.set e (at0 ls e+1)).map V.int))) lA=some (.lst ((ls.set e (at0 ls e+1)).map V.int)):=aB;refine⟨_,rfl,(aI _ rfl lA _ _ _ rfl (bC rfl (SqL.of f3) (a8 (j:=MM.oth e) (by rw[List.length_set];lia) rfl) _ _ rfl rfl ⟨ _,rfl,(aI _ rfl lA _ _ (MM.oth e) rfl ⟨ rfl,f3,qR (by rw[Zq,List.length_set];lia) rfl,?_⟩)⟩))⟩;rw[<-List.map_set,fJ];refine⟨keepL g5,(bR cs _ (by rw[aH ncl];exact f1) aB lc (by rw[List.length_set,List.length_set];exact ll) (SHp.turn (e:=e) g sh λz=>?_)),(sF _ _ _ _ _ _ rfl)⟩;rw[iT (by rw[List.length_set];lia),iT (by lia),iT (by lia)];by_cases z1:z=MM.oth e
   ·have z2:¬z=e:=λh=>hoe (by rw[<-z1,h]);rw[if_pos z1,if_neg hoe,if_neg z2,if_pos z1,z1];lia
   ·rw[if_neg z1,if_neg z1];by_cases z2:z=e
    ·rw[if_pos z2,if_pos z2,z2];lia
    ·rw[if_neg z2,if_neg z2];lia
  ·refine⟨_,rfl,(aI _ rfl cA _ _ _ rfl (bC rfl (SqL.of f1) (a8 (j:=MM.oth e) (by lia) rfl) _ _ rfl rfl ⟨ _,rfl,uJ (λhc=>?_) (λ_=>?_)⟩))⟩
   ·have h1:1<at0 cs (MM.oth e):=of_decide_eq_true hc;refine⟨_,rfl,(aI _ rfl cA _ _ _ rfl (bC rfl (SqL.of f1) (a8 (j:=MM.oth e) (by lia) rfl) _ _ rfl rfl ⟨ _,rfl,(aI _ rfl cA _ _ (MM.oth e) rfl ⟨ rfl,f1,qR (by rw[Zq];lia) rfl,?_⟩)⟩))⟩;rw[<-List.map_set];generalize hcs1:cs.set (MM.oth e) (at0 cs (MM.oth e)-1)=cs1;have l1:cs1.length=2*ts.length:=by rw[<-hcs1,List.length_set];exact lc
    have f3:(upd H5 cA (.lst (cs1.map V.int))) cA=some (.lst (cs1.map V.int)):=aB;refine⟨_,rfl,(aI _ rfl cA _ _ _ rfl (bC rfl (SqL.of f3) (a8 (j:=a) (by lia) rfl) _ _ rfl rfl ⟨ _,rfl,(aI _ rfl cA _ _ a rfl ⟨ rfl,f3,qR (by rw[Zq];lia) rfl,?_⟩)⟩))⟩;rw[<-List.map_set,fJ];generalize hcs2:cs1.set a (at0 cs1 a+1)=cs2;have l2:cs2.length=2*ts.length:=by rw[<-hcs2,List.length_set];exact l1
    have f4:(upd H5 cA (.lst (cs2.map V.int))) lA=some (.lst (ls.map V.int)):=by rw[aH (Ne.symm ncl)];exact f2
    have f4c:(upd H5 cA (.lst (cs2.map V.int))) cA=some (.lst (cs2.map V.int)):=aB;have g6:aW H (upd H5 cA (.lst (cs2.map V.int))):=keepC g5;generalize upd H5 cA (.lst (cs2.map V.int))=H6 at f4 f4c g6;refine⟨_,rfl,(aI _ rfl lA _ _ _ rfl (bC rfl (SqL.of f4) (a8 (j:=MM.oth e) (by lia) rfl) _ _ rfl rfl (.inr ⟨_,rfl,?_⟩)))⟩;generalize hbk:(if decide (0<at0 ls (MM.oth e))=true then (1:Int) else 0)=bk;have hbk':bk=if 0<at0 ls (MM.oth e) then 1 else 0:=by rw[<-hbk];simp only[decide_eq_true_eq]
    refine⟨_,rfl,(aI _ rfl lA _ _ _ rfl (bU rfl (SqL.of f4) (a8 (j:=MM.oth e) (by lia) rfl) _ rfl (lX _ _ rfl rfl _ rfl (aI _ rfl lA _ _ (MM.oth e) rfl ⟨ rfl,f4,qR (by rw[Zq];lia) rfl,?_⟩))))⟩;rw[<-List.map_set];generalize hls1:ls.set (MM.oth e) (at0 ls (MM.oth e)-bk)=ls1;have l3:ls1.length=2*ts.length:=by rw[<-hls1,List.length_set];exact ll
    have f5:(upd H6 lA (.lst (ls1.map V.int))) lA=some (.lst (ls1.map V.int)):=aB;refine⟨_,rfl,(aI _ rfl lA _ _ _ rfl (bC rfl (SqL.of f5) (a8 (j:=e) (by lia) rfl) _ _ rfl rfl (a9 _ rfl _ _ rfl rfl ⟨ _,rfl,(aI _ rfl lA _ _ e rfl ⟨ rfl,f5,qR (by rw[Zq];lia) rfl,?_⟩)⟩)))⟩;rw[<-List.map_set,fJ];refine⟨keepL g6,(bR cs2 _ (by rw[aH ncl];exact f4c) aB l2 (by rw[List.length_set];exact l3) (SHp.quarter (e:=e) (a:=a) (b:=bk) g sh he ha hb h1 (λz=>?_) (λz=>?_) hbk')),(sF _ _ _ _ _ _ rfl)⟩
    ·rw[<-hcs2,iT (by lia),<-hcs1,iT (by lia),iT (by lia)];by_cases z1:z=a
     ·rw[if_pos z1,if_pos z1,z1];by_cases z3:a=MM.oth e
      ·rw[if_pos z3,if_pos z3,z3]
      ·rw[if_neg z3,if_neg z3];lia
     ·rw[if_neg z1,if_neg z1];by_cases z2:z=MM.oth e
      ·rw[if_pos z2,if_pos z2,z2];lia
      ·rw[if_neg z2,if_neg z2];lia
    ·rw[iT (by lia),<-hls1,iT (by lia),iT (by lia)];by_cases z1:z=e
     ·have z2:¬z=MM.oth e:=λh=>hoe (by rw[<-h,z1]);rw[if_pos z1,if_neg (Ne.symm hoe),if_pos z1,if_neg z2,z1];lia
     ·rw[if_neg z1,if_neg z1];by_cases z2:z=MM.oth e
      ·rw[if_pos z2,if_pos z2,z2];lia
      ·rw[if_neg z2,if_neg z2];lia
   ·exact⟨g5,(bR cs ls f1 f2 lc ll sh.up),(sF _ _ _ _ _ _ rfl)⟩
 rintro σ H4 ⟨g4,⟨cs,ls,e1,e2,lc,ll,sh⟩,o6,o7,o8,o9,o10,o11,rfl⟩;refine(dI _ rfl _ rfl (by show 2<=ZW;decide) (λr hr'=>?_));have gr:=aG hr' (.tup [.ref cA,.ref lA]);exact q r cA lA cs ls _ (g4.trans gr) aB (gr _ _ e1) (gr _ _ e2) hcA hlA0 ncl lc ll sh
end K36
namespace L2
open PySem PySem.Spec PyProof.Rows
theorem Lst.f3{x y z:Addr}{H H':Hp}{gs:List (List Key×V)}{us ws:List V}{l:Addr}{ps:List Pt}(h:nU H l ps)(f:F3 x y z H H')(k1:H x=some (.dT gs))(k2:H y=some (.lst us))(k3:H z=some (.lst ws))(h1:l≠y)(h2:l≠z):nU H' l ps:=by
 obtain⟨vs,v1,v2,v3⟩:=h;refine⟨vs,f l _ (lN v1 k1 (λe=>by cases e)) h1 h2 v1,v2,λj v p h1 h2=>?_⟩;obtain⟨a,ea,ha⟩:=v3 j v p h1 h2;exact⟨a,ea,f.tup k1 k2 k3 ha⟩
theorem Lp.step{pl:List Nat}{ga ta na:Addr}{H5 H6 HE:Hp}{tr lr:List Addr}{ts:MM.aS}{ll:List (List Pt)}{gs gs':List (List Key×V)}(p:Lp pl ga ta na H5 H6 tr lr ts ll gs)(f:F3 ga ta na H6 HE){T3 r2:Addr}{x y:Nat}{kp:List Pt}
  (e1:HE ta=some (.lst (tr.map V.ref++[.ref T3]))) (e2:HE T3=some (.tup [vn x,vn y])) (e3:HE na=some (.lst (lr.map V.ref++[.ref r2]))) (n1:r2≠ta) (n2:r2≠na) (e4:nU HE r2 kp) (e5:HE ga=some (.dT gs')) (hl:gs'.length<=gs.length+80)
  (hx:x<pl.length) (hy:y<pl.length) (hk:NH kp/\Bdd kp) (gi:∀u v:Nat,(cJ gs' (kk u v)).isSome=true->(cJ gs (kk u v)).isSome=true\/u∉pl\/pl.idxOf u=x\/pl.idxOf u=y) :
  Lp pl ga ta na H5 HE (tr++[T3]) (lr++[r2]) (ts++[(x,y)]) (ll++[kp]) gs' where
 f:=p.f.trans f
 tA:=by rw[e1,Zt];rfl
 tI:=(p.tI.f3 f p.gA p.tA p.lA).app e2
 lA:=by rw[e3,Zt];rfl
 lI:=(p.lI.f3 f p.gA p.tA p.lA).app n1 n2 e4
 gA:=e5
 gl:=by have:=p.gl;simp;lia
 ln:=by have:=p.ln;simp;lia
 pt:=λt ht=>by
  rcases Zf.mp ht with z | z
  ·exact p.pt t z
  ·rw[Zb.mp z];exact⟨hx,hy⟩
 li:=λps hps=>by
  rcases Zf.mp hps with z | z
  ·exact p.li ps z
  ·rw[Zb.mp z];exact hk
 gi:=λu v e hu=>by
  rcases gi u v e with z | z | z | z
  ·obtain⟨i,h1,h2⟩:=p.gi u v z hu;exact⟨i,by simp only[Zm,ZQ];lia,by rw[xB h1];exact h2⟩
  ·exact absurd hu z
  ·exact⟨2*ts.length,by simp only[Zm,ZQ];lia,by rw[EI];exact z.symm⟩
  ·exact⟨2*ts.length+1,by simp only[Zm,ZQ];lia,by rw[EH];exact z.symm⟩
def dec(H:Hp)(q:Addr):List Int:=match H q with
 |some (.tup [.int x,.int y])=>[x,y]
 |_=>[]
theorem dec_is{H:Hp}{q:Addr}{x y:Int}(h:H q=some (.tup [.int x,.int y])):dec H q=[x,y]:=by unfold dec;rw[h]
theorem Lst.refs{H:Hp}{l:Addr}{ps:List Pt}(h:nU H l ps):∃as:List Addr,H l=some (.lst (as.map V.ref))/\as.length=ps.length/\∀(i:Nat) a,as[i]?=some a->H a=some (.tup [.int (L2.pt ps i).1,.int (L2.pt ps i).2]):=by
 obtain⟨vs,v1,v2,v3⟩:=h;have al:∀(us:List V) (k:Nat),(∀(i:Nat) v,us[i]?=some v->∃a,v=.ref a/\H a=some (.tup [.int (L2.pt ps (k+i)).1,.int (L2.pt ps (k+i)).2]))->∃as:List Addr,us=as.map V.ref/\∀(i:Nat) a,as[i]?=some a->H a=some (.tup [.int (L2.pt ps (k+i)).1,.int (L2.pt ps (k+i)).2]):=by
  intro us;induction us with
  |nil=>intro k _;exact⟨[],rfl,λi a h=>by simp at h⟩
  |cons u us ih =>
   intro k hh;obtain⟨a,rfl,ha⟩:=hh 0 u rfl;obtain⟨as,e1,e2⟩:=ih (k+1) λi v hv=>by
    have:=hh (i+1) v (by simpa using hv);rw[show k+(i+1)=k+1+i by lia]at this;exact this
   refine⟨a::as,by rw[e1];rfl,λi b hb=>?_⟩;cases i with
   |zero=>simp at hb;subst hb;exact ha
   |succ i =>
    have:=e2 i b (by simpa using hb);rw[show k+1+i=k+(i+1) by lia]at this;exact this
 obtain⟨as,e1,e2⟩:=al vs 0 λi v hv=>by
  have hi:i<ps.length:=by rw[<-v2];exact(Zj.mp hv).1
  obtain⟨a,ea,h⟩:=v3 i v _ hv (tT hi);exact⟨a,ea,by rw[Nat.zero_add];exact h⟩
 refine⟨as,by rw[v1,e1],by rw[<-v2,e1,Zq],λi a h=>?_⟩;have:=e2 i a h;rw[Nat.zero_add]at this;exact this
theorem kW{Hx:Hp}{as rs:List Addr}{ow:List Nat}{f:Nat->Int}(p:rs.Perm as)(hl:as.length=ow.length)(ha:∀(i:Nat) a,as[i]?=some a->Hx a=some (.tup [.int (f (ow.getD i 0)),vn (ow.getD i 0)])) :
  (∀q∈rs,∃e,e∈ow/\Hx q=some (.tup [.int (f e),vn e]))/\∀e,e∈rs.map (λq=>((dec Hx q).getD 1 0).toNat)↔e∈ow:=by
 have h1:∀q∈rs,∃e,e∈ow/\Hx q=some (.tup [.int (f e),vn e]):=λq hq=>by
  obtain⟨i,hi⟩:=List.mem_iff_getElem?.mp (p.mem_iff.mp hq);have hlt:i<as.length:=(Zj.mp hi).1;exact⟨_,getD_mem (by lia),ha i q hi⟩
 refine⟨h1,λe=>⟨λh=>?_,λh=>?_⟩⟩
 ·obtain⟨q,hq,rfl⟩:=Zh.mp h;obtain⟨e,he,hx⟩:=h1 q hq;rw[dec_is hx];simpa using he
 ·obtain⟨i,hi,rfl⟩:=mem_getD h;have hlt:i<as.length:=by lia
  refine Zh.mpr ⟨as[i],p.mem_iff.mpr (Zp hlt),?_⟩;rw[dec_is (ha i as[i] (Zz hlt))];simp
theorem R3(vs:List V){n:Nat}{k:Int}(hk:k=(n:Int))(h:n<=vs.length):jE vs (some k) none=vs.drop n:=by
 subst hk;unfold jE HT.sIx;simp only[show ¬((n:Int)<0) by lia,if_false];rw[show min (Int.toNat (n:Int)) vs.length=n by simp;lia];exact List.take_of_length_le (by rw[Yf];lia)
theorem R1(vs:List V){n:Nat}{k:Int}(hk:k=(n:Int))(h:n<=vs.length):jE vs none (some k)=vs.take n:=by
 subst hk;unfold jE HT.sIx;simp only[show ¬((n:Int)<0) by lia,if_false,List.drop_zero,Nat.sub_zero];rw[show min (Int.toNat (n:Int)) vs.length=n by simp;lia]
theorem EC{os:MM.bI}{l:List Nat}{k:Nat}(h:k<os.length):MM.row (os++[l]) k=MM.row os k:=by
 unfold MM.row;simp only[List.getD,Zx h]
theorem EB{os:MM.bI}{l:List Nat}:MM.row (os++[l]) os.length=l:=by unfold MM.row;simp[List.getD]
def gpc(a b c:Nat):Bool:=(c%4==0&&decide (c / 4%a+1<a))||(c%4==1&&decide (c / 4 / a+1<b))||(c%4==2&&decide (0<c / 4%a))||(c%4==3&&decide (0<c / 4 / a))
theorem QA{a b h p q:Nat}(ha:0<a)(g:Go a b h p q):gpc a b (4*p+h)=true:=by
 unfold gpc;rcases g with⟨rfl,h1,rfl⟩ | ⟨rfl,h1,rfl⟩ | ⟨rfl,h1,rfl⟩ | ⟨rfl,h1,rfl⟩
 ·rw[show(4*p+0)%4=0 by lia,show(4*p+0) / 4=p by lia,decide_eq_true h1];rfl
 ·rw[show(4*p+1)%4=1 by lia,show(4*p+1) / 4=p by lia,decide_eq_true h1];simp
 ·rw[show(4*(q+1)+2)%4=2 by lia,show(4*(q+1)+2) / 4=q+1 by lia,(PZ ha h1).1,decide_eq_true (show 0<q%a+1 by lia)];simp
 ·rw[show(4*(q+a)+3)%4=3 by lia,show(4*(q+a)+3) / 4=q+a by lia,Nat.add_div_right _ ha,decide_eq_true (Nat.succ_pos (q / a))];simp
theorem xG:∀(l m:List Nat),l.Nodup->(∀x∈l,x∈m)->l.length<=m.length
 |[],_,_,_=>Nat.zero_le _
 |x::l,m,nd,h=>by
  have h1:=List.nodup_cons.mp nd;have ih:=xG l (m.erase x) h1.2 λy hy=>by
   have ne:y≠x:=λz=>h1.1 (by rw[<-z];exact hy);exact(List.mem_erase_of_ne ne).mpr (h y (Zw _ hy))
  have hx:=List.length_erase_of_mem (h x Zd);have:0<m.length:=List.length_pos_of_mem (h x Zd);simp only[Yq]
  lia
structure Dsx(a b:Nat)(pl:List Nat)(i j:Nat)(ds:List Nat):Prop where
 nd:ds.Nodup
 gp:∀c∈ds,c<4*(a*b)/\gpc a b c=true
 pr:∀c∈ds,(∃k,k<i/\c / 4=pl.getD k 0)\/(c / 4=pl.getD i 0/\c%4<j)
theorem Dsx.nil{a b:Nat}{pl:List Nat}:Dsx a b pl 0 0 []:=⟨List.nodup_nil,λc h=>(by cases h),λc h=>(by cases h)⟩
theorem Dsx.up{a b:Nat}{pl ds:List Nat}{i j:Nat}(d:Dsx a b pl i j ds):Dsx a b pl i (j+1) ds:=⟨d.nd,d.gp,λc h=>(d.pr c h).imp id λz=>⟨z.1,by lia⟩⟩
theorem Dsx.on{a b:Nat}{pl ds:List Nat}{i j:Nat}(d:Dsx a b pl i j ds):Dsx a b pl (i+1) 0 ds:=⟨d.nd,d.gp,λc h=>.inl (by
 rcases d.pr c h with⟨k,h1,h2⟩ | ⟨h1,_⟩
 ·exact⟨k,by lia,h2⟩
 ·exact⟨i,by lia,h1⟩)⟩
theorem Dsx.add{a b:Nat}{pl ds:List Nat}{i j:Nat}(d:Dsx a b pl i j ds)(np:pl.Nodup)(hi:i<pl.length)(hj:j<4)(hp:pl.getD i 0<a*b)(hg:gpc a b (4*pl.getD i 0+j)=true):Dsx a b pl i (j+1) (ds++[4*pl.getD i 0+j]):=by
 have nw:4*pl.getD i 0+j∉ds:=λz=>by
  rcases d.pr _ z with⟨k,h1,h2⟩ | ⟨_,h2⟩
  ·have e1:=DM np (i:=k) (by lia);have e2:=DM np hi;rw[show(4*pl.getD i 0+j) / 4=pl.getD i 0 by lia]at h2;rw[h2]at e2
   lia
  ·lia
 refine⟨?_,λc h=>?_,λc h=>?_⟩
 ·rw[List.nodup_append];exact⟨d.nd,by simp,λx hx y hy z=>by rw[Zb.mp hy]at z;subst z;exact nw hx⟩
 ·rcases Zf.mp h with z | z
  ·exact d.gp c z
  ·rw[Zb.mp z];exact⟨by lia,hg⟩
 ·rcases Zf.mp h with z | z
  ·exact d.up.pr c z
  ·rw[Zb.mp z];exact .inr ⟨by lia,by lia⟩
theorem Dsx.few{a b:Nat}{pl ds:List Nat}{i j:Nat}(d:Dsx a b pl i j ds)(h:((List.range (4*(a*b))).filter (gpc a b)).length<=26):ds.length<=26 :=
 Ys (xG ds _ d.nd λc hc=>Yz.mpr ⟨Zs.mpr (d.gp c hc).1,(d.gp c hc).2⟩) h
theorem S1{X:Cx}{es rest:List Expr}{k}{pos:Pos}{te:TE}{t:TA}(ha:PE X (.Tuple es k pos) te)(hr:PA X rest t):PA X (.Tuple es k pos::rest) (oH te t):=aA ha hr rfl
theorem MD{X:Cx}{i j:Int}{k}{p q pos:Pos}{a b}:PE X (.Tuple [.Constant (.int i) a p,.Constant (.int j) b q] k pos) (OG (oH (tC (.int i)) (oH (tC (.int j)) FR))):=b8 (aA aC (aA aC aE rfl) rfl)
inductive Prs:List Expr->List (Int×Int)->Prop
 |nil:Prs [] []
 |cons {i j:Int}{k} {p q pos:Pos}{a b} {es:List Expr}{ps:List (Int×Int)}:Prs es ps->Prs (.Tuple [.Constant (.int i) a p,.Constant (.int j) b q] k pos::es) ((i,j)::ps)
def OI:List (Int×Int)->TA
 |[]=>FR
 |p::ps=>oH (OG (oH (tC (.int p.1)) (oH (tC (.int p.2)) FR))) (OI ps)
theorem IX{X:Cx}:∀{es:List Expr}{ps:List (Int×Int)},Prs es ps->PA X es (OI ps)
 |_,_,.nil=>aE
 |_,_,.cons h=>S1 MD (IX h)
theorem O7{X:Cx}{es:List Expr}{ps:List (Int×Int)}{pos:Pos}(h:Prs es ps):PE X (.List es pos) (QY (OI ps)):=bZ (IX h)
theorem JF{x:Int}{j:Nat}(hj:j<0+1)(h1 : -2<=x)(h2:x<=2) : -2<=at0 [x] j/\at0 [x] j<=2+3*(j:Int):=by
 have:j=0:=by lia
 subst this;show -2<=x/\x<=_
 lia
theorem K7{l:List Int}{n:Nat}{x:Int}(hl:l.length=n+1)(h:∀j,j<n+1->-2<=at0 l j/\at0 l j<=2+3*(j:Int))(h1 : -2<=x)(h2:x<=2+3*((n+1:Nat):Int)):∀j,j<n+1+1->-2<=at0 (l++[x]) j/\at0 (l++[x]) j<=2+3*(j:Int):=by
 intro j hj;have e1:∀{i},i<l.length->at0 (l++[x]) i=at0 l i:=λ{i} hi=>by unfold at0;simp only[List.getD,Zx hi]
 have e2:at0 (l++[x]) l.length=x:=by unfold at0;simp[List.getD]
 rcases Xj j (n+1) with z | z
 ·rw[e1 (by lia)];exact h j z
 ·rw[show j=l.length by lia,e2,hl];exact⟨h1,h2⟩
theorem AQ{l:List Int}{n:Nat}{x:Int}(hl:l.length=n+1)(h:∀j,j+1<n+1->at0 l j<at0 l (j+1))(hx:at0 l n<x):∀j,j+1<n+1+1->at0 (l++[x]) j<at0 (l++[x]) (j+1):=by
 intro j hj;have e1:∀{i},i<l.length->at0 (l++[x]) i=at0 l i:=λ{i} hi=>by unfold at0;simp only[List.getD,Zx hi]
 have e2:at0 (l++[x]) l.length=x:=by unfold at0;simp[List.getD]
 rcases Xj (j+1) (n+1) with z | z
 ·rw[e1 (by lia),e1 (by lia)];exact h j z
 ·rw[e1 (by lia),show j+1=l.length by lia,e2,show j=n by lia];exact hx
theorem lx2{a b c d:Int}(h:SO.lx [a,b] [c,d]=false):c<=a:=by
 unfold SO.lx at h;by_cases z:a=c
 ·lia
 ·rw[if_neg z]at h;have:=of_decide_eq_false h
  lia
theorem CT{Hx:Hp}{as rs:List Addr}{ow:List Nat}{f:Nat->Int}(p:rs.Perm as)(hl:as.length=ow.length)(ha:∀(i:Nat) a,as[i]?=some a->Hx a=some (.tup [.int (f (ow.getD i 0)),vn (ow.getD i 0)]))(nd:ow.Nodup)(so:rs.Pairwise λa b=>SO.lx (dec Hx b) (dec Hx a)=false) :
  (rs.map λq=>((dec Hx q).getD 1 0).toNat).Nodup/\(rs.map λq=>((dec Hx q).getD 1 0).toNat).Pairwise λe e'=>f e<=f e':=by
 have te:=kW p hl ha;constructor
 ·have e:as.map (λq=>((dec Hx q).getD 1 0).toNat)=ow:=by
   refine Yp λi=>?_;rw[Zk];by_cases hi:i<as.length
   ·rw[Zz hi,Zz (by lia)];have:=ha i as[i] (Zz hi);show some ((dec Hx as[i]).getD 1 0).toNat=some _;rw[dec_is this];simp[List.getD,show i<ow.length by lia]
   ·rw[Zr (by lia),Zr (by lia)];rfl
  have:=(p.map λq=>((dec Hx q).getD 1 0).toNat)
  rw[e]at this;exact this.nodup_iff.mpr nd
 ·rw[List.pairwise_map];refine List.Pairwise.imp_of_mem (λ{x y} hx hy h=>?_) so;obtain⟨e,_,h1⟩:=te.1 x hx;obtain⟨e',_,h2⟩:=te.1 y hy;rw[dec_is h1,dec_is h2]at h;rw[dec_is h1,dec_is h2];have:=lx2 h;simpa using this
end L2
namespace K36
open PySem L2 PyProof.Rows
def FU(K:PySem.W.Frag):Sp:=λvs H Q _=>∃(sa:Addr) (ns:List Int),vs=[.ref sa]/\SqL K H sa (ns.map V.int) /\
 ∀r wa da pa la ts os sp ll H',aW H H'->H' r=some (.tup [.ref wa,.ref da])->iH H' wa os.length ts os->(MM.Good ts os/\MM.FC ts os/\(∃o,o<(MM.lls ts os).length/\MM.Shp ts os o (at0 (cns ts os (lvs ll))) (at0 (lfs ll)))/\Hdg ts os (at0 (cns ts os (lvs ll))) (at0 (lfs ll)))->H' da=some (.tup [.ref pa,.ref la])->nU H' pa sp->sp.length<=10->Bdd sp->G0 H' la ll->ll.length=ts.length->ts.length<=40->os.length<=10->(∀ps∈ll,NH ps/\Bdd ps)->Q (.ref r) H'
theorem C7(T:Txt K mg t):cU P w K mg base CX0 3 t.r6 t.rT ["_law_script"] (FU K):=by
 refine T.rP.F.ok oO (λvs H Q E h=>?_) (λcdv A outer s H vs Q E hr h=>?_)
 ·obtain⟨sa,ns,rfl,_⟩:=h;rfl
 obtain⟨sa,ns,rfl,hS,q⟩:=h;have nd:=oO.nd;have hu:=xN hr;have h2s:2<=ZW:=by decide
 have nd_l_head_l_end:(["_law_head","_law_end"]:List Str).Nodup:=by decide
 have nd_l_end_l_heads_here:(["_law_end","_law_heads_here"]:List Str).Nodup:=by decide
 have nd_l_end_l_place_here_l_ties:(["_law_end","_law_place_here","_law_ties"]:List Str).Nodup:=by decide
 have nd_l_point_l_xs_l_ys_l_size:(["_law_point","_law_xs","_law_ys","_law_size"]:List Str).Nodup:=by decide
 have nd_l_one_l_xs_l_ys_l_size:(["_law_one","_law_xs","_law_ys","_law_size"]:List Str).Nodup:=by decide
 refine' ⟨_,?hp,?hq⟩
 case hp =>
  refine' aF ?a ?b
  case a =>
   refine' IG (i:=1) ?n1 ?n2 ?n3 ?n4
   case n1=>exact nd
   case n2=>exact rfl
   case n3=>exact Or.inl rfl
   case n4 =>
    refine' O7 ?p
    case p=>exact(.cons (.cons (.cons (.cons (.cons (.cons (.cons (.cons .nil))))))))
  case b=>exact(aF (aU 2 nd (aL aR (pv 1) (aJ bG (bH (gI T) hr T.eE aX (aA (bH (eK T) hr T.bX aX (aA (pv 0) (aA aC aE))) (aA aC aE))) aC) (λ_ _=>rfl)))
  (aF (iY (bH (MI T) hr T.BO aX (aA (pv 0) (aA (pv 2) aE))) (kD rfl (bY (aQ (i:=3) nd rfl (Or.inl rfl)) (bY (aQ (i:=4) nd rfl (Or.inl rfl)) gN))))
  (aF (aU 5 nd (bH (JH T) hr T.xQ aX (aA (pv 0) (aA (pv 3) (aA (pv 4) aE)))))
  (aF (aU 6 nd (bZ (aA (aJ cH (aJ bG (bH (gI T) hr T.eE aX (aA (bH (eK T) hr T.bX aX (aA (pv 0) (aA aC aE))) (aA aC aE))) aC) aC) aE)))
  (aF (aU 7 nd (bZ (aA (aJ cH (aJ bG (bH (gI T) hr T.eE aX (aA (bH (eK T) hr T.bX aX (aA (pv 0) (aA aC aE))) (aA aC aE))) aC) aC) aE)))
  (aF (cR PassesOwn.never rfl (bP rfl T.bV (aA aC aE)) (aQ (i:=8) nd rfl (Or.inl rfl)) (aF (bM (fN mAp bA (pv 6) (aA (aJ bD (aJ bD (aL aR (pv 6) (pv 8) (λ_ _=>rfl)) aC) (aJ bG (bH (gI T) hr T.eE aX (aA (bH (eK T) hr T.bX aX (aA (pv 0) (aA aC aE))) (aA (aJ bD aC (pv 8)) aE))) aC)) aE)))
  (aK (bM (fN mAp bA (pv 7) (aA (aJ bD (aJ bD (aL aR (pv 7) (pv 8) (λ_ _=>rfl)) aC) (aJ bG (bH (gI T) hr T.eE aX (aA (bH (eK T) hr T.bX aX (aA (pv 0) (aA aC aE))) (aA (aJ bD aC (pv 8)) aE))) aC)) aE))))))
  (aF (aU 9 nd oS)
  (aF (aU 10 nd (bZ aE))
  (aF (aU 11 nd (bZ aE))
  (aF (cR PassesOwn.never rfl (zA rfl T.kS (aA (pv 5) aE)) (kD rfl (bY (aQ (i:=12) nd rfl (Or.inr rfl)) (bY (aQ (i:=13) nd rfl (Or.inl rfl)) gN))) (aK (cR PassesOwn.never rfl (bP rfl T.bV (aA aC aE)) (aQ (i:=14) nd rfl (Or.inl rfl)) (aK (fL (PW.pt (C0 (y6 (C3 hu (b8 (aA (pv 13) (aA (pv 14) aE))) (pv 3))) (y0 (y6 (F7 hu (b8 (aA (pv 13) (aA (pv 14) aE))) (pv 9)))))) (aF (aU 15 nd (bH (MN T) hr T.BR aX (aA (pv 3) (aA (pv 5) (aA (pv 13) (aA (pv 14) (aA (pv 9) aE)))))))
  (aF (fL (bF lK (aJ bG (bH (gI T) hr T.eE aX (aA (bH (eK T) hr T.bX aX (aA (pv 0) (aA aC aE))) (aA (aJ bD aC (a7 a4 rfl T.eA PySem.boot_len (aA (pv 10) aE))) aE))) aC) aC (bO _)) (aK (aU 15 nd (F6 (pv 15) kC kC (l8 (jT fY aC))))) dA)
  (aF (bM (fN mAp bA (pv 10) (aA (b8 (aA (lH PySem.F.plainAttrs_list PySem.F.slot_list_index PySem.F.type_list_index oW (pv 5) (aA (aL aR (pv 15) aC (λ_ _=>rfl)) aE)) (aA (lH PySem.F.plainAttrs_list PySem.F.slot_list_index PySem.F.type_list_index oW (pv 5) (aA (aL aR (pv 15) (jT fY aC) (λ_ _=>rfl)) aE)) aE))) aE)))
  (aK (bM (fN mAp bA (pv 11) (aA (bH (C6 T) hr T.pF aX (aA (dF (N':=["_law_one","_law_xs","_law_ys","_law_size"]) (js:=[none,some 6,some 7,some 2]) rfl (cK (pv 15)) (λ_ _ _ _ _=>(aQ (i:=0) nd_l_one_l_xs_l_ys_l_size rfl (Or.inl rfl))) (λ_ _ _ _ _=>dE) (λ_ _ _ _ _=>(b8 (aA (aL (cP (K:=K) rfl) (pv 1) (aJ bG (pv 0) (aL (gU (K:=K) rfl) (pv 3) aC (λ_ _=>rfl))) (λ_ _=>rfl)) (aA (aL (cP (K:=K) rfl) (pv 2) (aJ dG (pv 0) (aL (gU (K:=K) rfl) (pv 3) aC (λ_ _=>rfl))) (λ_ _=>rfl)) aE))))) aE)) aE))))))) dA)))))
  (aF (dD (i:=16) nd rfl (Or.inl rfl)  (N':=["_law_point","_law_xs","_law_ys","_law_size"]) (js:=[none,some 6,some 7,some 2]) rfl (cK (pv 5)) (λ_ _ _ _ _=>(aQ (i:=0) nd_l_point_l_xs_l_ys_l_size rfl (Or.inl rfl))) (λ_ _ _ _ _=>dE) (λ_ _ _ _ _=>(b8 (aA (aL (cP (K:=K) rfl) (pv 1) (aJ bG (pv 0) (aL (gU (K:=K) rfl) (pv 3) aC (λ_ _=>rfl))) (λ_ _=>rfl)) (aA (aL (cP (K:=K) rfl) (pv 2) (aJ dG (pv 0) (aL (gU (K:=K) rfl) (pv 3) aC (λ_ _=>rfl))) (λ_ _=>rfl)) aE)))))
  (aF (aU 17 nd (bH (JL T) hr T.qT aX (aA (pv 11) aE)))
  (aF (aU 18 nd (bZ aE))
  (aF (cR PassesOwn.never rfl (bP rfl T.bV (aA (a7 a4 rfl T.eA PySem.boot_len (aA (pv 5) aE)) aE)) (aQ (i:=12) nd rfl (Or.inr rfl)) (aF (dD (i:=19) nd rfl (Or.inl rfl)  (N':=["_law_end","_law_place_here","_law_ties"]) (js:=[none,some 12,some 10]) rfl (bP rfl T.bV (aA (a7 a4 rfl T.eA PySem.boot_len (aA (pv 17) aE)) aE)) (λ_ _ _ _ _=>(aQ (i:=0) nd_l_end_l_place_here_l_ties rfl (Or.inl rfl))) (λ_ _ _ _ _=>(tX (bF lK (bH (qM T) hr T.mJ aX (aA (pv 2) (aA (pv 0) aE))) (pv 1) (bO _)))) (λ_ _ _ _ _=>(pv 0)))
  (aF (aU 20 nd (a7 pL rfl T.kR boot_sorted (aA (dF (N':=["_law_end","_law_heads_here"]) (js:=[none,some 17]) rfl (cK (pv 19)) (λ_ _ _ _ _=>(aQ (i:=0) nd_l_end_l_heads_here rfl (Or.inl rfl))) (λ_ _ _ _ _=>dE) (λ_ _ _ _ _=>(b8 (aA (aL (cP (K:=K) rfl) (pv 1) (pv 0) (λ_ _=>rfl)) (aA (pv 0) aE))))) aE)))
  (aF (aU 21 nd (aJ bG (bH (gI T) hr T.eE aX (aA (bH (eK T) hr T.bX aX (aA (pv 0) (aA aC aE))) (aA (aJ bD aC (pv 12)) aE))) (a7 a4 rfl T.eA PySem.boot_len (aA (pv 20) aE))))
  (aK (bM (fN mAp bA (pv 18) (aA (dF (N':=["_law_head","_law_end"]) (js:=[none,none]) rfl (cK (aJ zD (lG oI (pv 20) (l8 (pv 21)) kC) (lG oI (pv 20) kC (l8 (pv 21))))) (λ_ _ _ _ _=>(EV (K:=K) (n:=2) rfl rfl (bY (aQ (i:=0) nd_l_head_l_end rfl (Or.inl rfl)) (bY (aQ (i:=1) nd_l_head_l_end rfl (Or.inl rfl)) gN)))) (λ_ _ _ _ _=>dE) (λ_ _ _ _ _=>(pv 1))) aE))))))))
  (aK (bE (b8 (aA (b8 (aA (a7 a4 rfl T.eA PySem.boot_len (aA (pv 5) aE)) (aA (pv 10) (aA (pv 18) aE)))) (aA (b8 (aA (pv 16) (aA (pv 11) aE))) aE)))))))))))))))))))
 refine⟨h2s,λT1 h1=>⟨h2s,λT2 h2=>⟨h2s,λT3 h3=>⟨h2s,λT4 h4=>⟨h2s,λT5 h5=>⟨h2s,λT6 h6=>⟨h2s,λT7 h7=>⟨h2s,λT8 h8=>⟨(by show 8<=ZW;decide),λzl hzl=>?_⟩⟩⟩⟩⟩⟩⟩⟩⟩;have s1:=aG h1 (.tup [.int 3,.int 3]);have s2:=aG h2 (.tup [.int 5,.int 2]);have s3:=aG h3 (.tup [.int 2,.int 5]);have s4:=aG h4 (.tup [.int 4,.int 2]);have s5:=aG h5 (.tup [.int 2,.int 2]);have s6:=aG h6 (.tup [.int 3,.int 2]);have s7:=aG h7 (.tup [.int 2,.int 1]);have s8:=aG h8 (.tup [.int 1,.int 4]);have s9:=aG hzl (.lst [V.ref T1,V.ref T2,V.ref T3,V.ref T4,V.ref T5,V.ref T6,V.ref T7,V.ref T8]);have gz:=((((((((s1.trans s2).trans s3).trans s4).trans s5).trans s6).trans s7).trans s8).trans s9)
 refine⟨_,(sV rfl _ rfl sa ns _ rfl ⟨ gz.seq hS,by decide,λc0=>(aY c0 _ rfl (by decide) (by decide) (λm0 _ _=>?_))⟩)⟩;obtain⟨n8,hn8,en8⟩:∃n:Nat,n<8/\m0%8=(n:Int):=⟨(m0%8).toNat,by lia,by lia⟩
 obtain⟨zs,a,b,z1,z2,ha,hb,ha5,hb5,hab,h1,h26,hall⟩:∃(zs:Addr) (a b:Nat),atI [V.ref T1,V.ref T2,V.ref T3,V.ref T4,V.ref T5,V.ref T6,V.ref T7,V.ref T8] (n8:Int)=some (.ref zs)/\(upd (upd (upd (upd (upd (upd (upd (upd (upd H T1 (.tup [.int 3,.int 3])) T2 (.tup [.int 5,.int 2])) T3 (.tup [.int 2,.int 5])) T4 (.tup [.int 4,.int 2])) T5 (.tup [.int 2,.int 2])) T6 (.tup [.int 3,.int 2])) T7 (.tup [.int 2,.int 1])) T8 (.tup [.int 1,.int 4])) zl (.lst [V.ref T1,V.ref T2,V.ref T3,V.ref T4,V.ref T5,V.ref T6,V.ref T7,V.ref T8])) zs=some (.tup [vn a,vn b])/\0<a/\0<b/\a<=5/\b<=5/\a*b<=10/\(1<a\/1<b)/\((List.range (4*(a*b))).filter (gpc a b)).length<=26/\TU.kQ a (TU.eps a b) 0=true:=by
  match n8,hn8 with
  |0,_=>exact⟨T1,(cO 3 3 (cE rfl) (s9 _ _ (s8 _ _ (s7 _ _ (s6 _ _ (s5 _ _ (s4 _ _ (s3 _ _ (s2 _ _ aB)))))))) (by decide) (by decide) (by decide) ⟨ by decide,by decide,by decide,by decide,TU.g33⟩)⟩
  |1,_=>exact⟨T2,(cO 5 2 (cE rfl) (s9 _ _ (s8 _ _ (s7 _ _ (s6 _ _ (s5 _ _ (s4 _ _ (s3 _ _ aB))))))) (by decide) (by decide) (by decide) ⟨ by decide,by decide,by decide,by decide,TU.g52⟩)⟩
  |2,_=>exact⟨T3,(cO 2 5 (cE rfl) (s9 _ _ (s8 _ _ (s7 _ _ (s6 _ _ (s5 _ _ (s4 _ _ aB)))))) (by decide) (by decide) (by decide) ⟨ by decide,by decide,by decide,by decide,TU.g25⟩)⟩
  |3,_=>exact⟨T4,(cO 4 2 (cE rfl) (s9 _ _ (s8 _ _ (s7 _ _ (s6 _ _ (s5 _ _ aB))))) (by decide) (by decide) (by decide) ⟨ by decide,by decide,by decide,by decide,TU.g42⟩)⟩
  |4,_=>exact⟨T5,(cO 2 2 (cE rfl) (s9 _ _ (s8 _ _ (s7 _ _ (s6 _ _ aB)))) (by decide) (by decide) (by decide) ⟨ by decide,by decide,by decide,by decide,TU.g22⟩)⟩
  |5,_=>exact⟨T6,(cO 3 2 (cE rfl) (s9 _ _ (s8 _ _ (s7 _ _ aB))) (by decide) (by decide) (by decide) ⟨ by decide,by decide,by decide,by decide,TU.g32⟩)⟩
  |6,_=>exact⟨T7,(cO 2 1 (cE rfl) (s9 _ _ (s8 _ _ aB)) (by decide) (by decide) (by decide) ⟨ by decide,by decide,by decide,by decide,TU.g21⟩)⟩
  |7,_=>exact⟨T8,(cO 1 4 (cE rfl) (s9 _ _ aB) (by decide) (by decide) (by decide) ⟨ by decide,by decide,by decide,by decide,TU.g14⟩)⟩
 refine(aY _ _ rfl rfl (by show(0:Int)<8;decide) (aO zl _ _ (.ref zs) rfl rfl (SqL.of aB) ⟨ (by show atI _ (m0%8)=_;rw[en8];exact z1),?_⟩));refine⟨_,rfl,_,(iA rfl sa zs ns a b rfl (dX (gz.seq hS) z2 ha hb (by lia) (by lia) hab ⟨ h1,λr0 ka ca H1 kvs come W g1 f1 f2 f3 dw nt cm=>?_⟩))⟩;refine(aY r0 _ rfl (SqT.of f1) rfl (hG _ _ rfl _ _ rfl rfl ?_));have gz1:=gz.trans g1;refine(cQ _ rfl _ rfl _ rfl (fH sa ka ca ns kvs W (a*b) (zX come rfl (gz1.seq hS) f2 dw f3 cm ⟨ hab,λpa pl H2 _ g2 p1 pc=>?_⟩)));have gz2:=gz1.trans g2;have hpl:pl.length<=10:=Ys (MM.bW (a*b) pl pc.nd λx hx=>cm.lt x (pc.sub x hx)) hab;have e2:=g2 _ _ f2;have ez:=g2 _ _ (g1 _ _ z2);clear f1 f3;refine(cW _ rfl sa ns _ rfl (gz2.seq hS) ⟨ by decide,λc1=>(aY c1 _ rfl (by decide) (by decide) (λm1 _ _=>(aY _ _ rfl rfl (by show(0:Int)<5;decide) (aY _ _ rfl rfl (by show 1<=ZW;decide) (λxa hxa=>?_)))))⟩);have gx:=aG hxa (.lst [.int (m1%5-2)]);refine(cW _ rfl sa ns _ rfl ((gz2.trans gx).seq hS) ⟨ by decide,λc2=>(aY c2 _ rfl (by decide) (by decide) (λm2 _ _=>(aY _ _ rfl rfl (by show(0:Int)<5;decide) (aY _ _ rfl rfl (by show 1<=ZW;decide) (λya hya=>?_)))))⟩);have gy:=aG hya (.lst [.int (m2%5-2)]);have nxy:ya≠xa:=λz=>by subst z;rw[aB]at hya;cases hya
 have hya2:H2 ya=none:=gx.free hya;refine⟨4,rfl,by decide,by decide,cI (lo:=0) (n:=4) (λi σ H'=>aW H2 H'/\(∃xl yl:List Int,H' xa=some (.lst (xl.map V.int))/\H' ya=some (.lst (yl.map V.int))/\xl.length=i+1/\yl.length=i+1/\((∀j,j+1<i+1->at0 xl j<at0 xl (j+1))/\∀j,j<i+1->-2<=at0 xl j/\at0 xl j<=2+3*(j:Int))/\(∀j,j+1<i+1->at0 yl j<at0 yl (j+1))/\∀j,j<i+1->-2<=at0 yl j/\at0 yl j<=2+3*(j:Int))/\∃o,σ=[some (.ref sa),some (.ref zl),some (.ref zs),some (.ref ka),some (.ref ca),some (.ref pa),some (.ref xa),some (.ref ya),o,none,none,none,none,none,none,none,none,none,none,none,none,none])
  ⟨gx.trans gy,(cO ([m1%5-2]) ([m2%5-2]) (by rw[aH (Ne.symm nxy)];exact aB) aB rfl rfl ⟨λj hj=>(by lia),λj hj=>JF hj (by lia) (by lia)⟩ ⟨ λj hj=>(by lia),λj hj=>JF hj (by lia) (by lia)⟩),_,rfl⟩ ?_ ?_⟩
 ·rintro i σ H' hi ⟨g,⟨xl,yl,x1,y1,x2,y2,x3,y3⟩,o,rfl⟩;rw[show(0:Int)+(i:Int)=(i:Int) by lia];have gS:=gz2.trans g;refine(c9 _ rfl (.inl ⟨rfl,_,SqL.of x1⟩) _ rfl _ rfl (aO xa _ _ _ rfl rfl (SqL.of x1) (iB (a8 (j:=i) (by lia) rfl) _ _ rfl rfl _ rfl (iQ sa ns _ rfl (gS.seq hS) (by decide) (λc3=>(a9 _ rfl _ _ rfl rfl (aY c3 _ rfl (by lia) (by lia) (λm3 _ _=>(aY _ _ rfl rfl (by show(0:Int)<3;decide) ⟨ _,(fI _ rfl rfl xa _ _ rfl ⟨ rfl,x1,eV (by rw[Zq];lia),?_⟩)⟩)))))))));have y1':upd H' xa (.lst (xl.map V.int++[.int (at0 xl i+1+m3%3)])) ya=some (.lst (yl.map V.int)):=by rw[aH nxy];exact y1
  have gS2:aW H2 (upd H' xa (.lst (xl.map V.int++[.int (at0 xl i+1+m3%3)]))):=g.upd hxa;refine(c9 _ rfl (.inl ⟨rfl,_,SqL.of y1'⟩) _ rfl _ rfl (aO ya _ _ _ rfl rfl (SqL.of y1') (iB (a8 (j:=i) (by lia) rfl) _ _ rfl rfl _ rfl (iQ sa ns _ rfl ((gz2.trans gS2).seq hS) (by decide) (λc4=>(a9 _ rfl _ _ rfl rfl (aY c4 _ rfl (by lia) (by lia) (λm4 _ _=>(aY _ _ rfl rfl (by show(0:Int)<3;decide) ⟨ _,(fI _ rfl rfl ya _ _ rfl (jL rfl y1' (eV (by rw[Zq];lia)) (gS2.upd hya2) (cO (xl++[at0 xl i+1+m3%3]) (yl++[at0 yl i+1+m4%3]) ?_ ?_ (by simp[x2]) (by simp[y2]) ⟨AQ x2 x3.1 (by lia),K7 x2 x3.2 (by have:=x3.2 i (by lia);lia) (by have:=x3.2 i (by lia);lia)⟩ ⟨ AQ y2 y3.1 (by lia),K7 y2 y3.2 (by have:=y3.2 i (by lia);lia) (by have:=y3.2 i (by lia);lia)⟩) ⟨ _,rfl⟩))⟩)))))))))
  ·rw[aH (Ne.symm nxy),aB,Zt];rfl
  ·rw[aB,Zt];rfl
 ·rintro σ H' ⟨g,⟨xl,yl,x1,y1,x2,y2,x3,y3⟩,o,rfl⟩;have rx:K9 xl:=⟨x2,x3⟩
  have ry:K9 yl:=⟨y2,y3⟩
  refine λga hga=>?_;refine⟨few (by decide),λta hta=>⟨few (by decide),λna hna=>?_⟩⟩;have ntg:ta≠ga:=λz=>by subst z;rw[aB]at hta;cases hta
  have nng:na≠ga:=λz=>by subst z;rw[aH (Ne.symm ntg),aB]at hna;cases hna
  have nnt:na≠ta:=λz=>by subst z;rw[aB]at hna;cases hna
  have g5:=((aG hga (.dT [])).trans (aG hta (.lst []))).trans (aG hna (.lst []));have apart:∀b o,H' b=some o->b≠ga/\b≠ta/\b≠na:=λb o e=>⟨aN e hga,aN (aG hga (.dT []) _ _ e) hta,aN (((aG hga (.dT [])).trans (aG hta (.lst []))) _ _ e) hna⟩
  have keepS:∀{H6:Hp},F3 ga ta na (upd (upd (upd H' ga (.dT [])) ta (.lst [])) na (.lst [])) H6->aW H' H6:=λ{H6} f b o e=>f b o (apart b o e).1 (apart b o e).2.1 (apart b o e).2.2 (g5 _ _ e);have gS:=gz2.trans g;have hp1:=g _ _ p1;have he2:=g _ _ e2;have hez:=g _ _ ez;have c0:(0:Int)<(a:Int):=by lia
  have init:Lp pl ga ta na (upd (upd (upd H' ga (.dT [])) ta (.lst [])) na (.lst [])) (upd (upd (upd H' ga (.dT [])) ta (.lst [])) na (.lst [])) [] [] [] [] []:=by
   refine⟨F3.refl _ _ _ _,?_,⟨rfl,λi t h=>(by simp at h)⟩,aB,⟨rfl,λi t h=>(by simp at h)⟩,?_,Nat.le_refl _,rfl,λt h=>(by cases h),λt h=>(by cases h),λx y h=>(by cases h)⟩
   ·rw[aH (Ne.symm nnt)];exact aB
   ·rw[aH (Ne.symm nng),aH (Ne.symm ntg)];exact aB
  refine(dI _ rfl pa rfl ⟨_,SqL.of (g5 _ _ hp1)⟩ (uN (xs:=vns pl) (λi σ H6=>(∃tr lr ts ll gs,Lp pl ga ta na (upd (upd (upd H' ga (.dT [])) ta (.lst [])) na (.lst [])) H6 tr lr ts ll gs/\((∃ds,Dsx a b pl i 0 ds/\ts.length=ds.length)/\(∃gl,Gln W pl gl ts ll gs)/\Al W pl gs i 0)/\∀k,k<i->∃e,e<2*ts.length/\MM.place ts e=k)/\∃o1 o2 o3 o4,σ=[some (.ref sa),some (.ref zl),some (.ref zs),some (.ref ka),some (.ref ca),some (.ref pa),some (.ref xa),some (.ref ya),o,some (.ref ga),some (.ref ta),some (.ref na),o1,o2,o3,o4,none,none,none,none,none,none]) ⟨(cV _ _ _ _ _ init ⟨⟨[],Dsx.nil,rfl⟩,⟨[],Gln.start⟩,λk h q _ _ z=>(by lia)⟩ (λk hk=>(by lia))),_,_,_,_,rfl⟩ (λi σ H6 _ h=>by obtain⟨⟨_,_,_,_,_,p,_⟩,_⟩:=h;exact SqL.of (keepS p.f _ _ hp1)) ?_ ?_))
  ·rintro i x σ H6 Tp hx ⟨⟨tr,lr,ts,ll,gs,p,hts,dn⟩,o1,o2,o3,o4,rfl⟩ hTp;obtain⟨hi,rfl⟩:=pW hx;have pm0:=getD_mem hi;have ix0:=DM pc.nd hi;refine(aY Tp _ rfl (SqT.of aB) rfl (hG _ _ rfl _ _ rfl rfl ?_));have p':=p.same (aG hTp (.tup [vn i,vn (pl.getD i 0)]));refine⟨4,rfl,by decide,by decide,cI (lo:=0) (n:=4) (λj σ H7=>(∃tr lr ts ll gs,Lp pl ga ta na (upd (upd (upd H' ga (.dT [])) ta (.lst [])) na (.lst [])) H7 tr lr ts ll gs/\((∃ds,Dsx a b pl i j ds/\ts.length=ds.length)/\(∃gl,Gln W pl gl ts ll gs)/\Al W pl gs i j)/\(∀k,k<i->∃e,e<2*ts.length/\MM.place ts e=k)/\((∃h,h<j/\(W (pl.getD i 0) h).isSome=true)->∃e,e<2*ts.length/\MM.place ts e=i))/\∃o3 o4,σ=[some (.ref sa),some (.ref zl),some (.ref zs),some (.ref ka),some (.ref ca),some (.ref pa),some (.ref xa),some (.ref ya),o,some (.ref ga),some (.ref ta),some (.ref na),some (vn i),some (vn (pl.getD i 0)),o3,o4,none,none,none,none,none,none]) ⟨(cV tr lr ts ll gs p' hts ⟨ dn,λ⟨h,hh,_⟩=>(by lia)⟩),_,_,rfl⟩ ?_ ?_⟩
   ·rintro j σ H7 hj ⟨⟨tr,lr,ts,ll,gs,p,hts,dn,hd⟩,o3,o4,rfl⟩;rw[show(0:Int)+(j:Int)=(j:Int) by lia];refine(dI _ rfl _ rfl h2s (λT1 hT1=>?_));have g7:=aG hT1 (.tup [vn (pl.getD i 0),vn j]);refine(a9 _ rfl ka _ rfl (iJ.t (k:=kk (pl.getD i 0) j) (g7 _ _ (keepS p.f _ _ he2)) aB) ⟨ _,rfl,?_⟩);rw[dw.2];cases ew:W (pl.getD i 0) j with
    |none =>
     refine zI (zI ⟨(cV tr lr ts ll gs (p.same g7) (let⟨⟨ds,d1,d2⟩,g1,a1⟩:=hts;⟨⟨ds,d1.up,d2⟩,g1,a1.up λq z=>by rw[ew]at z;cases z⟩) ⟨ dn,λ⟨h,hh,hw⟩=>hd ⟨h,?_,hw⟩⟩),_,_,rfl⟩);rcases Xj h j with z | z
     ·exact z
     ·rw[show h=j by lia,ew]at hw;cases hw
    |some qq =>
     refine zH (dI _ rfl _ rfl h2s (λT2 hT2=>?_));have g8:=g7.trans (aG hT2 (.tup [vn (pl.getD i 0),vn j]));have p8:=p.same g8;refine(a9 _ rfl ga _ rfl (iJ.t (k:=kk (pl.getD i 0) j) p8.gA aB) ⟨ _,rfl,?_⟩);cases eg:(cJ gs (kk (pl.getD i 0) j)).isSome with
     |true =>
      refine cF (by rfl) ⟨(cV tr lr ts ll gs p8 (let⟨⟨ds,d1,d2⟩,g1,a1⟩:=hts;⟨⟨ds,d1.up,d2⟩,g1,a1.up λ_ _=>eg⟩) ⟨ dn,λ_=>?_⟩),_,_,rfl⟩;obtain⟨e,h1,h2⟩:=p8.gi _ _ eg pm0;exact⟨e,h1,by rw[h2];exact ix0⟩
     |false =>
      refine dY (by rfl) ?_;have S8:=keepS p8.f;have hgl:=p8.gl;obtain⟨⟨ds,dx,dl⟩,⟨gl,gln⟩,ala⟩:=hts;have dx26:=dx.few h26;refine(cQ _ rfl _ rfl _ rfl ⟨ _,rfl,_,rfl,(fH ka pa ga a b (pl.getD i 0) j (cV kvs gs W come pl rfl (S8 _ _ he2) (dX dw nt cm hab pc (S8 _ _ hp1) p8.gA ⟨ (apart _ _ he2).1.symm,by lia,pm0,⟨qq,ew⟩,λr1 H9 pts hs gs' hr1 sb f1 f2 lg tra h0 h40 z0 zl' ⟨hv0,gnn⟩=>?_⟩)))⟩);have f9:=p8.f.trans (sb.f3 (y:=ta) (z:=na));have tA9:=sb ta _ ntg p8.tA;have lA9:=sb na _ nng p8.lA;have trl:tr.length=ts.length:=p8.tI.1;have lrl:lr.length=ts.length:=by rw[p8.lI.1,p8.ln]
      have n1t:r1≠ta:=λz=>by subst z;rw[p8.tA]at hr1;cases hr1
      have n1n:r1≠na:=λz=>by subst z;rw[p8.lA]at hr1;cases hr1
      have pth:=tra.path nt h0 h40;have tl:=tra.len;dsimp only;refine via (λσ' HA=>aW H9 HA/\∃(lb:Addr) (pts2:List Nat) (hs2:Nat->Nat),HA lb=some (.lst (vns pts2))/\lb≠ta/\lb≠na/\Path a b pts2 hs2/\pts2.getD 0 0∈pl/\pts2.getD (pts2.length-1) 0∈pl/\(∀x,x=pl.getD i 0\/x=pts.getD hs.length 0->x=pts2.getD 0 0\/x=pts2.getD (pts2.length-1) 0)/\((pts2=pts/\hs2=λk=>hs.getD k 0)\/(pts2=pts.reverse/\hs2=λk=>(hs.getD (pts.length-2-k) 0+2)%4))/\σ'=[some (.ref sa),some (.ref zl),some (.ref zs),some (.ref ka),some (.ref ca),some (.ref pa),some (.ref xa),some (.ref ya),o,some (.ref ga),some (.ref ta),some (.ref na),some (vn i),some (vn (pl.getD i 0)),some (vn j),some (.ref lb),none,none,none,none,none,none]) (λk=>?_) ?_
      ·refine(cW _ rfl sa ns _ rfl ((gS.trans (keepS f9)).seq hS) ⟨ by decide,λc5=>(a9 _ rfl ta _ rfl (.inl (SqL.of tA9)) (hU _ _ rfl rfl c5 _ rfl ⟨ by lia,by rw[Zq];lia,λm5 _ _=>(bR _ _ rfl rfl (by show(0:Int)<2;decide) rfl ⟨ _,rfl,uJ (λ_=>?_) λ_=>?_⟩)⟩))⟩)
       ·refine(cQ _ rfl _ rfl _ rfl (bB r1 _ 0 rfl (SqL.of f1) rfl rfl ⟨ .inl ⟨rfl,rfl⟩,λlb hlb=>k _ _ (jO (aG hlb _) lb pts.reverse _ ?_ (λz=>?_) (λz=>?_) (jL pth.rev ?_ ?_ (λx hx=>?_) (.inr ⟨rfl,rfl⟩) rfl))⟩))
        ·rw[aB,List.drop_zero];unfold vns;rw[List.map_reverse]
        ·subst z;rw[tA9]at hlb;cases hlb
        ·subst z;rw[lA9]at hlb;cases hlb
        ·rw[fR (by lia),show pts.length-1-0=hs.length by lia];exact zl'
        ·rw[Yr,fR (by lia),show pts.length-1-(pts.length-1)=0 by lia,z0];exact pm0
        ·rw[Yr,fR (by lia),fR (by lia),show pts.length-1-0=hs.length by lia,show pts.length-1-(pts.length-1)=0 by lia,z0];rcases hx with z | z
         ·exact .inr z
         ·exact .inl z
       ·refine k _ _ (jO (aW.refl _) r1 pts _ f1 n1t n1n (jL pth ?_ ?_ (λx hx=>?_) (.inl ⟨rfl,rfl⟩) rfl))
        ·rw[z0];exact pm0
        ·rw[show pts.length-1=hs.length by lia];exact zl'
        ·rw[z0,show pts.length-1=hs.length by lia];exact hx
      ·rintro σ' HA ⟨gA,lb,pts2,hs2,b1,bt,bn,b2,b3,b4,b5,b6,rfl⟩;have fA:=f9.trans (gA.f3 (x:=ga) (y:=ta) (z:=na));have SA:=keepS fA;have tAA:=gA _ _ tA9;have lAA:=gA _ _ lA9;have gAA:=gA _ _ f2;have pAA:=SA _ _ hp1;have l2:=b2.l2;have l50:=b2.l50;have i0:atI (vns pts2) ((0:Nat):Int)=some (vn (pts2.getD 0 0)):=lT (j:=0) (by lia) rfl;refine(LF _ rfl (.inl ⟨rfl,_,SqL.of tAA⟩) _ rfl (.inl ⟨rfl,_,SqL.of pAA⟩) (aI _ rfl lb _ _ _ rfl (kT rfl (SqL.of b1) i0 pa pl _ rfl (oD rfl pAA b3 _ rfl (.inl ⟨rfl,_,SqL.of pAA⟩) ⟨ _,rfl,(aI _ rfl lb _ _ _ rfl (kT rfl (SqL.of b1) (jZ (m:=pts2.length-1) (by lia)) pa pl _ rfl ⟨ rfl,pAA,b4,h2s,λT3 hT3=>(bB ta _ _ rfl rfl (aG hT3 _ _ _ tAA) (eV (by rw[Zq];lia)) ?_)⟩))⟩))));have gT:=aG hT3 (.tup [vn (pl.idxOf (pts2.getD 0 0)),vn (pl.idxOf (pts2.getD (pts2.length-1) 0))]);have fB:=fA.trans ((gT.f3 (x:=ga) (y:=ta) (z:=na)).trans (F3.u2 (o:=.lst (tr.map V.ref++[.ref T3]))));have SB:=keepS fB;have lAB:=(aH (H:=upd HA T3 (.tup [vn (pl.idxOf (pts2.getD 0 0)),vn (pl.idxOf (pts2.getD (pts2.length-1) 0))])) (o:=.lst (tr.map V.ref++[.ref T3])) nnt).trans (gT _ _ lAA);have gAB:=(aH (H:=upd HA T3 (.tup [vn (pl.idxOf (pts2.getD 0 0)),vn (pl.idxOf (pts2.getD (pts2.length-1) 0))])) (o:=.lst (tr.map V.ref++[.ref T3])) (Ne.symm ntg)).trans (gT _ _ gAA);have b1B:=(aH (H:=upd HA T3 (.tup [vn (pl.idxOf (pts2.getD 0 0)),vn (pl.idxOf (pts2.getD (pts2.length-1) 0))])) (o:=.lst (tr.map V.ref++[.ref T3])) bt).trans (gT _ _ b1);have n3t:T3≠ta:=λz=>by subst z;rw[tAA]at hT3;cases hT3
       have n3n:T3≠na:=λz=>by subst z;rw[lAA]at hT3;cases hT3
       have t3B:=(aH (H:=upd HA T3 (.tup [vn (pl.idxOf (pts2.getD 0 0)),vn (pl.idxOf (pts2.getD (pts2.length-1) 0))])) (o:=.lst (tr.map V.ref++[.ref T3])) n3t).trans aB;refine(c9 _ rfl (.inl ⟨rfl,_,SqL.of lAB⟩) _ rfl lb rfl ⟨ ⟨_,SqL.of b1B⟩,λD hD=>?_⟩);have pml:(pts2.map (pm a xl yl)).length=pts2.length:=Zq ..;refine vH (pts2.map (pm a xl yl)) hD (by lia) (λk HC hk gC=>⟨_,_,SqL.of (gC _ _ b1B),(by rw[Zk,Zz (by lia)];rfl)⟩) (λHC gC=>⟨_,SqL.of (gC _ _ b1B),by rw[pml,Zq];lia⟩) ?_ ?_
       ·rintro k HC v HC' kt hk gC ⟨rfl,hy⟩ hkk;have hv:=hy _ (SqL.of (gC _ _ b1B));obtain⟨hk2,rfl⟩:=pW hv;have q0:=b2.lt k hk2;have d0:=qU q0 ha;have m0':=Nat.mod_lt (pts2.getD k 0) ha;have zC:=gC _ _ (SB _ _ hez);have xC:=gC _ _ (SB _ _ x1);have yC:=gC _ _ (SB _ _ y1);have rx1:=rx.1;have ry1:=ry.1;refine(jP ((Fills.refl _).set _ rfl) _ rfl _ rfl _ rfl (aO zs _ _ _ rfl rfl (SqT.of zC) (gK rfl _ _ rfl rfl c0 (aO xa _ _ _ rfl rfl (SqL.of xC) (jP (a8 (j:=pts2.getD k 0%a) (by lia) (Int.natCast_emod _ _).symm) _ rfl _ rfl _ rfl (aO zs _ _ _ rfl rfl (SqT.of zC) (gK rfl _ _ rfl rfl ⟨c0,by lia⟩ (aO ya _ _ _ rfl rfl (SqL.of yC) ⟨ a8 (j:=pts2.getD k 0 / a) (by lia) (Int.natCast_ediv _ _).symm,h2s,λT4 hT4=>hkk _ _ (aG hT4 _) ⟨T4,rfl,?_⟩⟩))))))));have ept:L2.pt (pts2.map (pm a xl yl)) k=pm a xl yl (pts2.getD k 0):=by unfold L2.pt;simp[List.getD,hk2]
        rw[aB,ept];rfl
       ·intro HD gD hps;refine(bB D _ hs2 rfl hps (b2.walk rx ry ha ha5 hb5) (IP (b:=b) rx ha ha5) (λr2 HE kp hr2 gE hpk hline hbd hhd=>(bB na _ _ rfl rfl (gE _ _ (gD _ _ lAB)) (eV (by rw[Zq];lia)) ?_)));rw[pml]at hhd;obtain⟨zg,gln2⟩:=gln.step2 (nt.stp ha) (pc.two' (nt.stp ha) cm) tra h0 zl' z0 gnn eg b6 hhd;have gDE:=gD.trans gE;have n2t:r2≠ta:=λz=>by subst z;rw[gD _ _ aB]at hr2;cases hr2
        have n2n:r2≠na:=λz=>by subst z;rw[gD _ _ lAB]at hr2;cases hr2
        have fE:=(((sb.f3 (y:=ta) (z:=na)).trans (gA.f3 (x:=ga) (y:=ta) (z:=na))).trans ((gT.f3 (x:=ga) (y:=ta) (z:=na)).trans (F3.u2 (o:=.lst (tr.map V.ref++[.ref T3]))))).trans ((gDE.f3 (x:=ga) (y:=ta) (z:=na)).trans (F3.u3 (o:=.lst (lr.map V.ref++[.ref r2]))));have st:=p8.step fE (T3:=T3) (r2:=r2) (x:=pl.idxOf (pts2.getD 0 0)) (y:=pl.idxOf (pts2.getD (pts2.length-1) 0)) (kp:=kp) (gs':=gs') ((aH (Ne.symm nnt)).trans (gDE _ _ aB)) ((aH n3n).trans (gDE _ _ t3B)) aB n2t n2n (hpk.f3 (F3.u3 (x:=ga) (y:=ta)) (gDE _ _ gAB) (gDE _ _ aB) (gE _ _ (gD _ _ lAB)) n2t n2n) ((aH (Ne.symm nng)).trans (gDE _ _ gAB)) lg (List.idxOf_lt_length_of_mem b3) (List.idxOf_lt_length_of_mem b4) ⟨hline,hbd⟩ (λu v e=>?_)
        ·refine⟨(cV _ _ _ _ _ st ⟨⟨ds++[4*pl.getD i 0+j],dx.add pc.nd hi hj (cm.lt _ (pc.sub _ pm0)) (QA ha (nt.go _ _ _ ew).2.2.2),by simp only[Zm,ZQ];lia⟩,⟨_,gln2⟩,(ala.more gnn.2.1).up λ_ _=>(gnn.2.2.2 h0).2.1⟩ ⟨ λk hk=>?_,λ_=>?_⟩),_,_,rfl⟩
         ·obtain⟨e,h1,h2⟩:=dn k hk;exact⟨e,by simp only[Zm,ZQ];lia,by rw[xB h1];exact h2⟩
         ·rcases b5 _ (.inl rfl) with z | z
          ·exact⟨2*ts.length,by simp only[Zm,ZQ];lia,by rw[EI,<-z];exact ix0⟩
          ·exact⟨2*ts.length+1,by simp only[Zm,ZQ];lia,by rw[EH,<-z];exact ix0⟩
        ·rcases gnn.1 u v e with z | z | ⟨z,_⟩ | ⟨_,z,_⟩
         ·exact .inl z
         ·exact .inr (.inl z)
         ·rcases b5 u (.inl z) with y | y
          ·exact .inr (.inr (.inl (by rw[y])))
          ·exact .inr (.inr (.inr (by rw[y])))
         ·rcases b5 u (.inr z) with y | y
          ·exact .inr (.inr (.inl (by rw[y])))
          ·exact .inr (.inr (.inr (by rw[y])))
   ·rintro σ H7 ⟨⟨tr,lr,ts,ll,gs,p,hts,dn,hd⟩,o3,o4,rfl⟩;refine⟨(cV tr lr ts ll gs p (let⟨⟨ds,d1,d2⟩,g1,a1⟩:=hts;⟨⟨ds,d1.on,d2⟩,g1,a1.on (nt.stp ha)⟩) (λk hk=>?_)),_,_,_,_,rfl⟩;rcases Xj k i with z | z
    ·exact dn k z
    ·rw[show k=i by lia];obtain⟨h,q',e⟩:=cm.out _ (pc.sub _ pm0);exact hd ⟨h,(nt.go _ _ _ e).1,by rw[e];rfl⟩
  ·rintro σ H6 ⟨⟨tr,lr,ts,ll,gs,p,hts,dn⟩,o1,o2,o3,o4,rfl⟩;have hlv:(vns pl).length=pl.length:=Zq ..;rw[hlv]at hts dn;obtain⟨⟨ds,dx,dl⟩,⟨gl,gln⟩,ala⟩:=hts;have dx26:=dx.few h26;have S6:=keepS p.f;have p6:=S6 _ _ hp1;have pml:(pl.map (pm a xl yl)).length=pl.length:=Zq ..;have rx1:=rx.1;have ry1:=ry.1;refine(dI _ rfl pa rfl ⟨_,SqL.of p6⟩ (λD hD=>?_));refine vH (pl.map (pm a xl yl)) hD (by lia) (λk HC hk gC=>⟨_,_,SqL.of (gC _ _ p6),(by rw[Zk,Zz (by lia)];rfl)⟩) (λHC gC=>⟨_,SqL.of (gC _ _ p6),by rw[pml,Zq];lia⟩) ?_ ?_
   ·rintro k HC v HC' kt hk gC ⟨rfl,hy⟩ hkk;have hv:=hy _ (SqL.of (gC _ _ p6));obtain⟨hk2,rfl⟩:=pW hv;have q0:=cm.lt _ (pc.sub _ (getD_mem hk2));have d0:=qU q0 ha;have m0':=Nat.mod_lt (pl.getD k 0) ha;have zC:=gC _ _ (S6 _ _ hez);have xC:=gC _ _ (S6 _ _ x1);have yC:=gC _ _ (S6 _ _ y1);refine(jP ((Fills.refl _).set _ rfl) _ rfl _ rfl _ rfl (aO zs _ _ _ rfl rfl (SqT.of zC) (gK rfl _ _ rfl rfl c0 (aO xa _ _ _ rfl rfl (SqL.of xC) (jP (a8 (j:=pl.getD k 0%a) (by lia) (Int.natCast_emod _ _).symm) _ rfl _ rfl _ rfl (aO zs _ _ _ rfl rfl (SqT.of zC) (gK rfl _ _ rfl rfl ⟨c0,by lia⟩ (aO ya _ _ _ rfl rfl (SqL.of yC) ⟨ a8 (j:=pl.getD k 0 / a) (by lia) (Int.natCast_ediv _ _).symm,h2s,λT4 hT4=>hkk _ _ (aG hT4 _) ⟨T4,rfl,?_⟩⟩))))))));have ept:L2.pt (pl.map (pm a xl yl)) k=pm a xl yl (pl.getD k 0):=by unfold L2.pt;simp[List.getD,hk2]
    rw[aB,ept];rfl
   ·intro HB0 gB0 hsp;have ts0:=gB0.ts (p.tI.ts p.tA);have ls0:=gB0.ls (p.lI.ls p.lA);have lln:=p.ln;refine(bT _ rfl na ll rfl ls0 (by lia) ⟨ λps hps=>⟨(p.li ps hps).1.1,(p.li ps hps).1.2.1⟩,λha' HB hha gB eB=>?_⟩);have gHB:aW H' HB:=(S6.trans gB0).trans gB;have tsB:=gB.ts ts0;have lsB:=gB.ls ls0;have spB:=gB.ps hsp;have pB:=gHB _ _ hp1;have hll:=mF ll;refine⟨few (by decide),λoa hoa=>?_⟩;have gO:=aG hoa (.lst []);refine(a9 _ rfl pa _ rfl (.inl (SqL.of (gO _ _ pB))) ⟨ _,rfl,by lia,by lia,?_⟩);rw[hlv];refine cI (lo:=0) (n:=((pl.length:Nat):Int).toNat) (λi σ H7=>aW HB H7/\(∃(rr:List Addr) (os:MM.bI),H7 oa=some (.lst (rr.map V.ref))/\rr.length=os.length/\os.length=i/\(∀(k:Nat) l,os[k]?=some l->∃r,rr[k]?=some r/\r≠oa/\H7 r=some (.lst (vns l)))/\(∀k,k<i->∀e,e∈MM.row os k↔e<2*ts.length/\MM.place ts e=k)/\∀k,k<i->∃l,MM.Rot (MM.row os k) l/\l.Nodup/\l.Pairwise λe e'=>at0 (lvs ll) e<=at0 (lvs ll) e')/\∃o1 o5 o6 o7,σ=[some (.ref sa),some (.ref zl),some (.ref zs),some (.ref ka),some (.ref ca),some (.ref pa),some (.ref xa),some (.ref ya),o,some (.ref ga),some (.ref ta),some (.ref na),o1,o2,o3,o4,some (.ref D),some (.ref ha'),some (.ref oa),o5,o6,o7])
     ⟨gO,(cO ([]) ([]) aB rfl rfl (λk l h=>(by simp at h)) (λk hk=>(by lia)) (λk hk=>(by lia))),_,_,_,_,rfl⟩ ?_ ?_
    ·rintro i σ H7 hi ⟨g7,⟨rr,os,q1,q2,q3,q4,q5,q6⟩,o1',o5,o6,o7,rfl⟩;have hi':i<pl.length:=by lia
     rw[show(0:Int)+(i:Int)=(i:Int) by lia];have e7:=g7 _ _ eB;have sS:=gS.trans (gHB.trans g7);refine(a9 _ rfl ha' _ rfl (.inl (SqL.of e7)) ⟨ _,rfl,by lia,by rw[Zq];lia,λD1 hD1=>?_⟩);rw[Zq];have hn:(((lvs ll).length:Nat):Int).toNat=2*ts.length:=by lia
     refine mK (((lvs ll).length:Nat):Int).toNat (λk=>vn k) (λe=>decide (MM.place ts e=i)) hD1 (by lia) (λk HC hk _=>hk) (λHC _=>Nat.le_refl _) ?_ ?_
     ·rintro k HC v HC' kt kf hk gC ⟨rfl,rfl⟩ k1 k2;rw[show(0:Int)+(k:Int)=(k:Int) by lia];refine(eF ((Fills.refl _).set _ rfl) _ rfl _ rfl (iQ ta ts k rfl (gC.ts (g7.ts tsB)) (by lia) (eQ _ rfl rfl _ rfl ?_)));have ce:(vn (MM.place ts k)=vn i)↔MM.place ts k=i:=⟨λz=>by injection z with z;lia,λz=>by rw[z]⟩
      by_cases c:MM.place ts k=i
      ·exact dY (decide_eq_true (ce.mpr c)) ⟨_,rfl,k1 (decide_eq_true c) _ (aW.refl _)⟩
      ·exact cF (decide_eq_false λz=>c (ce.mp z)) (k2 (decide_eq_false c) _ (aW.refl _))
     ·intro H8 g8 e8;rw[hn]at e8;have ow_mem:∀e,e∈(List.range (2*ts.length)).filter (λe=>decide (MM.place ts e=i))↔e<2*ts.length/\MM.place ts e=i:=λe=>by rw[Yz,Zs,decide_eq_true_iff]
      have ow_len:((List.range (2*ts.length)).filter (λe=>decide (MM.place ts e=i))).length<=2*ts.length:=Ys (List.length_filter_le _ _) (by rw[Yj];exact Nat.le_refl _);have ow_pos:0<((List.range (2*ts.length)).filter (λe=>decide (MM.place ts e=i))).length:=by
       obtain⟨e,h1,h2⟩:=dn i hi';exact List.length_pos_of_mem ((ow_mem e).mpr ⟨h1,h2⟩)
      have ow_nd:((List.range (2*ts.length)).filter (λe=>decide (MM.place ts e=i))).Nodup:=List.Nodup.sublist List.filter_sublist List.nodup_range;generalize (List.range (2*ts.length)).filter (λe=>decide (MM.place ts e=i))=ow at e8 ow_mem ow_len ow_pos ow_nd;have h128:ow.length<=52:=by lia
      have psl:(ow.map λe=>((at0 (lvs ll) e,(e:Int)):Pt)).length=ow.length:=Zq ..;have ept:∀{k:Nat},k<ow.length->L2.pt (ow.map λe=>((at0 (lvs ll) e,(e:Int)):Pt)) k=(at0 (lvs ll) (ow.getD k 0),((ow.getD k 0:Nat):Int)):=λ{k} hk=>by unfold L2.pt;simp[List.getD,hk]
      refine(dI _ rfl D1 rfl ⟨_,SqL.of e8⟩ (λD2 hD2=>?_));refine vH (ow.map λe=>((at0 (lvs ll) e,(e:Int)):Pt)) hD2 (by lia) (λk HC hk gC=>⟨_,_,SqL.of (gC _ _ e8),(by rw[Zk,Zz (by lia)];rfl)⟩) (λHC gC=>⟨_,SqL.of (gC _ _ e8),by rw[psl,Zq];lia⟩) ?_ ?_
      ·rintro k HC v HC' kt hk gC ⟨rfl,hy⟩ hkk;have hv:=hy _ (SqL.of (gC _ _ e8));obtain⟨hk2,rfl⟩:=pW hv;have em:=(ow_mem _).mp (getD_mem hk2);refine(eF ((Fills.refl _).set _ rfl) _ rfl _ rfl (aO ha' _ _ _ rfl rfl (SqL.of (gC _ _ (g8 _ _ e7))) ⟨ a8 (j:=ow.getD k 0) (by lia) rfl,_,rfl,h2s,λT4 hT4=>hkk _ _ (aG hT4 _) ⟨T4,rfl,?_⟩⟩));rw[aB,ept hk2]
      ·intro H9 g9 hps;obtain⟨as,a1,a2,a3⟩:=hps.refs;rw[psl]at a2;have ha3:∀(k:Nat) x,as[k]?=some x->H9 x=some (.tup [.int (at0 (lvs ll) (ow.getD k 0)),vn (ow.getD k 0)]):=λk x h=>by
        have hk:k<ow.length:=by rw[<-a2];exact(Zj.mp h).1
        have:=a3 k x h;rw[ept hk]at this;exact this
       have te0:=kW (List.Perm.refl as) a2 ha3;refine(bB D2 as (dec H9) rfl (SqL.of a1) (λx hx=>?_) (by lia) (λrw' rs hrw pm' srt=>?_))
       ·obtain⟨e,_,h⟩:=te0.1 x hx;rw[dec_is h];exact⟨by simp,SqT.of h⟩
       have hrl:rs.length=ow.length:=by rw[pm'.length_eq,a2]
       have row6:=CT (f:=at0 (lvs ll)) pm' a2 ha3 ow_nd srt;have gw:=aG hrw (.lst (rs.map V.ref));have g89:=(g7.trans g8).trans g9;have gQ:=g89.trans gw;refine(cW _ rfl sa ns _ rfl ((gS.trans (gHB.trans gQ)).seq hS) ⟨ by decide,λc6=>(a9 _ rfl _ _ rfl rfl (aY c6 _ rfl (by lia) (by lia) (λm6 hm0 hm1=>(a9 _ rfl rw' _ rfl (.inl (SqL.of aB)) (aY _ _ rfl rfl (by rw[Zq,hrl];lia) ?_)))))⟩);obtain⟨n6,hn6,en6⟩:∃n:Nat,n<ow.length/\m6%(((rs.map V.ref).length:Nat):Int)=(n:Int):=by
        rw[Zq,hrl];have h1:=Xv m6 (show(ow.length:Int)≠0 by lia);have h2:=Xw m6 (show(0:Int)<(ow.length:Int) by lia);exact⟨(m6%(ow.length:Int)).toNat,by lia,by lia⟩
       have cd:=R3 (rs.map V.ref) en6 (by rw[Zq];lia);have ck:=R1 (rs.map V.ref) en6 (by rw[Zq];lia);have oN:HB oa=none:=hoa;have q1w:upd H9 rw' (.lst (rs.map V.ref)) oa=some (.lst (rr.map V.ref)):=gw _ _ (g9 _ _ (g8 _ _ q1));refine(c9 _ rfl (.inl ⟨rfl,_,SqL.of q1w⟩) _ rfl _ rfl (a9 _ rfl rw' _ rfl (SqL.of aB) (λs1 hs1=>?_)));have gs1:=aG hs1 (.lst (jE (rs.map V.ref) (some (m6%(((rs.map V.ref).length:Nat):Int))) none));refine(cQ _ rfl _ rfl _ rfl ⟨ rw',_,rfl,SqL.of (gs1 _ _ aB),λs2 hs2=>?_⟩);have gs2:=aG hs2 (.lst (jE (rs.map V.ref) none (some (m6%(((rs.map V.ref).length:Nat):Int)))));refine(aO s1 s2 _ _ rfl rfl (gs2 _ _ aB) ⟨ aB,(by rw[cd,ck];simp only[Yf,Yx,Zq];exact few (by lia)),λs3 hs3=>?_⟩);have ec:jE (rs.map V.ref) (some (m6%(((rs.map V.ref).length:Nat):Int))) none++jE (rs.map V.ref) none (some (m6%(((rs.map V.ref).length:Nat):Int)))=(rs.drop n6++rs.take n6).map V.ref:=by rw[cd,ck,Zt,List.map_drop,List.map_take]
       have gs3:=aG hs3 (.lst (jE (rs.map V.ref) (some (m6%(((rs.map V.ref).length:Nat):Int))) none++jE (rs.map V.ref) none (some (m6%(((rs.map V.ref).length:Nat):Int)))));have p2:(rs.drop n6++rs.take n6).Perm as:=by
        refine(List.perm_append_comm).trans ?_;rw[List.take_append_drop];exact pm'
       have te:=kW p2 a2 ha3;have e3:=aB (H:=upd (upd (upd H9 rw' (.lst (rs.map V.ref))) s1 (.lst (jE (rs.map V.ref) (some (m6%(((rs.map V.ref).length:Nat):Int))) none))) s2 (.lst (jE (rs.map V.ref) none (some (m6%(((rs.map V.ref).length:Nat):Int)))))) (a:=s3) (o:=.lst (jE (rs.map V.ref) (some (m6%(((rs.map V.ref).length:Nat):Int))) none++jE (rs.map V.ref) none (some (m6%(((rs.map V.ref).length:Nat):Int)))));rw[ec]at e3;have p2l:=p2.length_eq;have gall:=((gw.trans gs1).trans gs2).trans gs3;rw[ec]at gall;generalize hrs2:rs.drop n6++rs.take n6=rs2 at ec p2 te e3 p2l gall;refine⟨s3,rfl,⟨_,SqL.of aB⟩,λD3 hD3=>?_⟩;rw[ec]at hD3 ⊢;refine c7 rs2.length (λk=>.int ((dec H9 (rs2.getD k 0)).getD 1 0)) hD3 (by lia) (λk HC hk gC=>⟨_,_,SqL.of (gC _ _ e3),(by rw[Zk,Zz hk];rfl)⟩) (λHC gC=>⟨_,SqL.of (gC _ _ e3),by simp⟩) ?_ ?_
       ·rintro k HC v HC' kt hk gC ⟨rfl,hy⟩ hkk;have hv:=hy _ (SqL.of (gC _ _ e3));rw[Zk,Zz hk]at hv;have hv':v=.ref (rs2.getD k 0):=by
         simp only[Option.map_some,Option.some.injEq]at hv;rw[<-hv];simp[List.getD,hk]
        subst hv';obtain⟨e,he,hx⟩:=te.1 (rs2.getD k 0) (by simp[List.getD,hk]);refine(aY _ _ rfl (SqT.of (gC _ _ (gall _ _ hx))) rfl (hG _ _ rfl _ _ rfl rfl ⟨ ((Fills.refl _).set _ rfl).set _ rfl,_,rfl,?_⟩));have:=hkk _ (aW.refl _);rw[dec_is hx]at this;exact this
       ·intro HD gD eD;have eD2:HD D3=some (.lst (vns (rs2.map λx=>((dec H9 x).getD 1 0).toNat))):=by
         rw[eD];unfold vns;rw[Yb];refine congrArg (λz=>some (HO.lst z)) ?_;apply Yp;intro k;by_cases hk:k<rs2.length
         ·rw[Zk,Yv hk,Zk,Zz hk];obtain⟨e,he,hx⟩:=te.1 rs2[k] (Zp hk);have hg:rs2.getD k 0=rs2[k]:=by simp[List.getD,hk]
          simp only[Option.map_some,Function.comp,hg,dec_is hx];simp
         ·rw[Zr (by simp;lia),Zr (by simp;lia)]
        have gZ:=gall.trans gD;have nD:D3≠oa:=λz=>by subst z;rw[gall _ _ (g9 _ _ (g8 _ _ q1))]at hD3;cases hD3
        refine(bB oa _ _ rfl rfl (gZ _ _ (g9 _ _ (g8 _ _ q1))) (eV (by rw[Zq];lia)) ⟨ (g89.trans gZ).upd hoa,(cO (rr++[D3]) (os++[rs2.map λx=>((dec H9 x).getD 1 0).toNat]) (by rw[aB,Zt];rfl) (by simp[q2]) (by simp[q3]) (λk l h=>?_) (λk hk e=>?_) (λk hk=>?_)),_,_,_,_,rfl⟩)
        ·rcases Xj k os.length with z | z
         ·rw[Zx z]at h;obtain⟨r,r1,r2,r3⟩:=q4 k l h;exact⟨r,by rw[Zx (by lia)];exact r1,r2,by rw[aH r2];exact gZ _ _ (g9 _ _ (g8 _ _ r3))⟩
         ·rw[Zy z]at h;have hk0:k-os.length=0:=by
           have:=(Zj.mp h).1;simp at this;lia
          rw[hk0]at h;simp at h;subst h;exact⟨D3,by rw[Zy (by lia),q2,hk0];rfl,nD,by rw[aH nD];exact eD2⟩
        ·rcases Xj k i with z | z
         ·rw[EC (by lia)];exact q5 k z e
         ·have:k=os.length:=by lia
          rw[this,EB,te.2,ow_mem,q3]
        ·rcases Xj k i with z | z
         ·rw[EC (by lia)];exact q6 k z
         ·have:k=os.length:=by lia
          rw[this,EB];refine⟨_,⟨n6,?_⟩,row6.1,row6.2⟩;rw[<-hrs2,Zt,List.map_drop,List.map_take]
    ·rintro σ H7 ⟨g7,⟨rr,os,q1,q2,q3,q4,q5,q6⟩,o1',o5,o6,o7,rfl⟩;have hn:((pl.length:Nat):Int).toNat=pl.length:=by lia
     rw[hn]at q3 q5 q6;have hHas:=O4 gln nt ha cm pc hall hab ala q3 q5 q6;refine(a9 _ rfl pa _ rfl (.inl (SqL.of (g7 _ _ pB))) (dI _ rfl _ rfl (by show 3<=ZW;decide) (λwa hwa=>?_)));have gW:=aG hwa (.tup [.int (((vns pl).length:Nat):Int),.ref ta,.ref oa]);refine(dI _ rfl _ rfl h2s (λda hda=>?_));have gDa:=aG hda (.tup [.ref D,.ref na]);refine⟨h2s,λrr' hrr'=>?_⟩;have gR:=aG hrr' (.tup [.ref wa,.ref da]);have gF:=(gW.trans gDa).trans gR;refine q rr' wa da D na ts os (pl.map (pm a xl yl)) ll _ ((gS.trans (gHB.trans g7)).trans gF) aB ⟨ta,oa,(by rw[q3,<-hlv];exact(gDa.trans gR) _ _ aB),(g7.trans gF).ts tsB,?_⟩ hHas (gR _ _ aB) ((g7.trans gF).ps spB) (by lia) (IP (b:=b) rx ha ha5) ((g7.trans gF).ls lsB) lln (by lia) (by lia) p.li;exact⟨rr,gF _ _ q1,q2,λk l h=>by obtain⟨r,r1,_,r3⟩:=q4 k l h;exact⟨r,r1,gF _ _ r3⟩⟩
def LS:Sp:=λvs H Q _=>∃(wa sa c0 l0:Addr) (ts:MM.aS) (os:MM.bI) (cs ls:List Int) (o:Nat),vs=[.ref wa,.ref sa]/\iH H wa os.length ts os/\MM.Good ts os/\ts.length<=40/\H sa=some (.tup [.ref c0,.ref l0])/\H c0=some (.lst (cs.map V.int))/\H l0=some (.lst (ls.map V.int)) /\
 cs.length=2*ts.length/\ls.length=2*ts.length/\o<(MM.lls ts os).length/\MM.Shp ts os o (at0 cs) (at0 ls)/\∀H',aW H H'->Q (vn o) H'
theorem GA(T:Txt K mg t):cU P w K mg base CX0 5 t.yG t.xW ["_law_web","_law_shape"] LS:=by
 refine T.xR.F.ok tF (λvs H Q E h=>?_) (λcdv A outer s H vs Q E hr h=>?_)
 ·obtain⟨wa,sa,c0,l0,ts,os,cs,ls,o,rfl,_⟩:=h;rfl
 obtain⟨wa,sa,c0,l0,ts,os,cs,ls,o,rfl,hW,g,h40,hsa,hc0,hl0,lc,ll,ho,sh,q⟩:=h;have nd:=tF.nd;have nd_l_land_l_shape:(["_law_land","_law_shape"]:List Str).Nodup:=by decide
 refine⟨_,(aK (bE (lH PySem.F.plainAttrs_list PySem.F.slot_list_index PySem.F.type_list_index qO (dF (N':=["_law_land","_law_shape"]) (js:=[none,some 1]) rfl (cK (bH (xF T) hr T.qS aX (aA (aL aZ (pv 0) aC (λ_ _=>rfl)) (aA (aL aZ (pv 0) aC (λ_ _=>rfl)) aE)))) (λ_ _ _ _ _=>(aQ (i:=0) nd_l_land_l_shape rfl (Or.inl rfl))) (λ_ _ _ _ _=>dE) (λ_ _ _ _ _=>(bH (ML T) hr T.E3 aX (aA (pv 0) (aA (aL (gU (K:=K) rfl) (pv 1) aC (λ_ _=>rfl)) (aA (aL (gU (K:=K) rfl) (pv 1) aC (λ_ _=>rfl)) aE)))))) (aA (jT fY aC) aE)))),?_⟩;obtain⟨tA,oA,hw,hts,hos⟩:=id hW;refine(aI _ rfl wa _ _ (.ref tA) rfl (bU rfl (SqT.of hw) rfl _ rfl (aO wa _ _ (.ref oA) rfl rfl (SqT.of hw) (nY rfl tA oA ts os rfl hts ⟨ hos,g,by lia,λla lr H2 g2 hN=>?_⟩))));have hL:(MM.lls ts os).length<=2*ts.length:=MM.MT g;have lrl:lr.length=(MM.lls ts os).length:=hN.len;refine⟨la,rfl,⟨_,SqL.of hN.at_⟩,λD hD=>c7 (MM.lls ts os).length (λi=>.int (if i=o then -4 else 4)) hD (by lia) (λi H' hi g'=>⟨_,_,SqL.of (g' _ _ hN.at_),(by rw[Zk,Zz (by lia)];rfl)⟩) (λH' g'=>⟨_,SqL.of (g' _ _ hN.at_),by rw[Zq,lrl];exact Nat.le_refl _⟩) (λi H' x H'' k hi g' hy hk=>?_) ?_⟩
 ·obtain⟨rfl,hy⟩:=hy;have hv:=hy _ (SqL.of (g' _ _ hN.at_));obtain⟨y,hy1,hy2⟩:=hN.row i _ (Zz hi);rw[Zk,hy1]at hv;cases hv;have hd:=MM.jC g (Zz hi);have gg:=g2.trans g';refine(eF ((Fills.refl _).set _ rfl) _ rfl _ rfl (aO sa _ _ (.ref c0) rfl rfl (SqT.of (gg _ _ hsa)) ⟨ rfl,(aI _ rfl sa _ _ (.ref l0) rfl ⟨ rfl,SqT.of (gg _ _ hsa),rfl,(cN y c0 l0 ((MM.lls ts os)[i]) cs ls rfl (jL (g' _ _ hy2) (gg _ _ hc0) (gg _ _ hl0) (λx hx=>?_) ?_ (λH4 g4=>?_)))⟩)⟩))
  ·have h1:=hd.2.1 x hx;have h2:=MM.b9 h1;exact⟨by lia,by lia,by lia⟩
  ·have:=MM.bW (2*ts.length) _ hd.1 hd.2.1
   lia
  ·have:=sh.ld i _ (Zz hi);rw[this];exact hk _ g4
 intro H3 g3 eD;have em:(List.range (MM.lls ts os).length).map (λi=>V.int (if i=o then -4 else 4))=((List.range (MM.lls ts os).length).map λi=>if i=o then (-4:Int) else 4).map V.int:=by rw[Yb];rfl
 rw[em]at eD;have mem:(-4:Int)∈(List.range (MM.lls ts os).length).map λi=>if i=o then (-4:Int) else 4:=Zh.mpr ⟨o,Zs.mpr ho,if_pos rfl⟩
 have ix:((List.range (MM.lls ts os).length).map λi=>if i=o then (-4:Int) else 4).idxOf (-4)=o:=by
  have hlt:=List.idxOf_lt_length_of_mem mem;have hg:=List.getElem_idxOf hlt;rw[List.getElem_map,List.getElem_range]at hg;by_cases z:((List.range (MM.lls ts os).length).map λi=>if i=o then (-4:Int) else 4).idxOf (-4)=o
  ·exact z
  ·rw[if_neg z]at hg;lia
 refine(sV (.inl ⟨rfl,_,SqL.of eD⟩) _ rfl D _ (-4) rfl ⟨ rfl,eD,mem,?_⟩);rw[ix];exact q _ (g2.trans g3)
theorem QH(ps:List Pt)(c:Int)(h:ps.length<=1000):cnt ps c<=1000:=by
 unfold L2.cnt;have h1:=List.count_le_length (a:=c) (l:=dif (hds ps) 0);have h2:(dif (hds ps) 0).length<=1000:=by unfold dif;rw[Zq,Yj,zJ];omega
 lia
theorem P1{ll:List (List Pt)}(h:∀ps∈ll,ps.length<=1000)(e:Nat):at0 (lfs ll) e<=1000:=by
 have:∀x∈lfs ll,x<=1000:=λx hx=>by
  obtain⟨ps,hp,h'⟩:=Yk.mp hx;have h':x=cnt ps 1\/x=cnt ps 3:=by simpa using h'
  rcases h' with rfl | rfl<;>exact QH ps _ (h ps hp)
 unfold at0;rw[Zv];cases q:(lfs ll)[e]? with
 |none=>show(0:Int)<=1000;decide
 |some x=>exact this x (Zg q)
def HV(K:PySem.W.Frag):Sp:=λvs H Q _=>∃(sa:Addr) (ns:List Int),vs=[.ref sa]/\SqL K H sa (ns.map V.int) /\
 ∀(r wa sh c0 l0:Addr) (ts:MM.aS) (os:MM.bI) (cs ls:List Int) (o:Nat) (H':Hp),aW H H'->H' r=some (.tup [.ref wa,vn o,.ref sh])->iH H' wa os.length ts os->MM.Good ts os->MM.FC ts os->ts.length<=40->os.length<=10->H' sh=some (.tup [.ref c0,.ref l0])->H' c0=some (.lst (cs.map V.int))->H' l0=some (.lst (ls.map V.int)) ->
  cs.length=2*ts.length->ls.length=2*ts.length->o<(MM.lls ts os).length->SHp ts os o (at0 cs) (at0 ls) 20->Q (.ref r) H'
theorem DB(T:Txt K mg t):cU P w K mg base CX0 6 t.vX t.vD ["_law_script"] (HV K):=by
 refine T.uX.F.ok rH (λvs H Q E h=>?_) (λcdv A outer s H vs Q E hr h=>?_)
 ·obtain⟨sa,ns,rfl,_⟩:=h;rfl
 obtain⟨sa,ns,rfl,hS,q⟩:=h;have nd:=rH.nd;refine⟨_,(aF (iY (bH (C7 T) hr T.rP aX (aA (pv 0) aE)) (kD rfl (bY (aQ (i:=1) nd rfl (Or.inl rfl)) (bY (aQ (i:=2) nd rfl (Or.inl rfl)) gN))))
  (aF (aU 3 nd (bH (MJ T) hr T.BP aX (aA (pv 1) (aA (pv 2) aE))))
  (aF (aU 4 nd (bH (GA T) hr T.xR aX (aA (pv 1) (aA (pv 3) aE))))
  (aF (fL (bF lK (aJ bG (bH (gI T) hr T.eE aX (aA (bH (eK T) hr T.bX aX (aA (pv 0) (aA aC aE))) (aA aC aE))) aC) aC (bO _)) (aF (aU 5 nd (bH (C9 T) hr T.uV aX (aA (pv 1) (aA (pv 3) (aA (bH (eK T) hr T.bX aX (aA (pv 0) (aA aC aE))) (aA (aJ bG (bH (gI T) hr T.eE aX (aA (bH (eK T) hr T.bX aX (aA (pv 0) (aA aC aE))) (aA aC aE))) aC) aE))))))
  (aK (fL (bF RL (a7 (mM rfl) rfl T.DU boot_sum (aA (aL aZ (pv 5) aC (λ_ _=>rfl)) aE)) aC (bO _)) (aK (aU 3 nd (pv 5))) dA))) dA)
  (aK (bE (b8 (aA (pv 1) (aA (pv 4) (aA (pv 3) aE)))))))))),?_⟩
 refine(a9 _ rfl sa ns rfl hS (λr wa da pa la ts os sp ll H1 g1 f1 f2 hP f3 f4 _ _ f5 ll1 t40 o10 hln=>?_));obtain⟨gd,fc,⟨o,ho,shp⟩,hdg⟩:=hP;have lt:∀ps∈ll,2<=ps.length/\ps.length<=1000:=λps h=>⟨(hln ps h).1.1,(hln ps h).1.2.1⟩
 refine(aY r _ rfl (SqT.of f1) rfl (hG _ _ rfl _ _ rfl rfl ?_));have lC:(cns ts os (lvs ll)).length=2*ts.length:=by unfold cns;rw[Zq,Yj,mF,ll1]
 have lL:(lfs ll).length=2*ts.length:=by rw[ER,ll1]
 refine⟨_,rfl,_,rfl,(fH wa da pa la os.length ts os (zX ll rfl f2 gd f3 f5 ll1 ⟨ by lia,lt,λsh c0 l0 H2 g2 s1 s2 s3=>?_⟩))⟩;refine⟨_,rfl,_,rfl,(fH wa sh c0 l0 ts os _ (cO _ o rfl (g2.web f2) gd t40 s1 (jF s2 s3 lC lL ho shp (λH3 g3=>?_))))⟩;have sh0:SHp ts os o (at0 (cns ts os (lvs ll))) (at0 (lfs ll)) 0:=⟨shp,hdg,λe=>by have:=P1 (λps h=>(lt ps h).2) e;lia⟩
 have up:∀{c l:Nat->Int}{k:Nat},SHp ts os o c l k->k<=20->SHp ts os o c l 20:=λ{c l k} h hk=>⟨h.s,h.h,λe=>by have:=h.b e;lia⟩
 have W3:iH H3 wa os.length ts os:=(g2.trans g3).web f2;have hS3:=(g1.trans (g2.trans g3)).seq hS;have g03:=g1.trans (g2.trans g3);dsimp only;refine via (λσ' H'=>∃(sh c0 l0:Addr) (cs ls:List Int) (o5:Option V),aW H3 H'/\σ'=[some (.ref sa),some (.ref wa),some (.ref da),some (.ref sh),some (vn o),o5]/\H' sh=some (.tup [.ref c0,.ref l0])/\H' c0=some (.lst (cs.map V.int))/\H' l0=some (.lst (ls.map V.int))/\cs.length=2*ts.length/\ls.length=2*ts.length/\SHp ts os o (at0 cs) (at0 ls) 20) (λk=>?_) ?_
 ·refine(cW _ rfl sa ns _ rfl hS3 ⟨ by decide,λc1=>(aY c1 _ rfl (by decide) (by decide) (λm1 _ _=>(bR _ _ rfl rfl (by show(0:Int)<2;decide) rfl ⟨ _,rfl,uJ (λ_=>?_) (λ_=>k _ _ (cN sh c0 l0 _ _ _ (aW.refl _) (jF rfl (g3 _ _ s1) (g3 _ _ s2) (g3 _ _ s3) lC lL (up sh0 (by lia)))))⟩)))⟩);refine(cQ _ rfl _ rfl _ rfl (iQ sa ns _ rfl hS3 (by decide) (λc2=>(cW _ rfl sa ns _ rfl hS3 ⟨ by decide,λc3=>(aY c3 _ rfl (by decide) (by decide) (λm3 _ _=>(aY _ _ rfl rfl (by show(0:Int)<13;decide) ?_)))⟩))));have b0:=Xv m3 (show(13:Int)≠0 by decide);have b1:=Xw m3 (show(0:Int)<13 by decide);refine(fH wa sh c0 l0 os.length o ts (cV os _ _ c2 (m3%13) rfl W3 (dX gd t40 (g3 _ _ s1) (g3 _ _ s2) (g3 _ _ s3) lC lL ⟨ sh0,b0,by lia,λr2 cA lA cs ls H4 g4 e1 e2 e3 _ _ _ lc ll' sh2=>?_⟩)));refine(aI _ rfl r2 _ _ (.ref lA) rfl (bC rfl (SqT.of e1) rfl lA ls rfl (SqL.of e3) (lX _ _ rfl rfl _ rfl (uJ (λ_=>⟨_,rfl,k _ _ (cN r2 cA lA cs ls _ g4 (jF rfl e1 e2 e3 lc ll' (up sh2 (by lia))))⟩) (λ_=>k _ _ (cN sh c0 l0 _ _ _ g4 (jF rfl (g4 _ _ (g3 _ _ s1)) (g4 _ _ (g3 _ _ s2)) (g4 _ _ (g3 _ _ s3)) lC lL (up sh0 (by lia)))))))))
 ·rintro σ' H5 ⟨sh,c0,l0,cs,ls,o5,g5,rfl,e1,e2,e3,lc,ll',sh2⟩;refine(nW _ rfl _ rfl _ rfl (by show 3<=ZW;decide) (λz hz=>?_));have gz:=aG hz (.tup [.ref wa,vn o,.ref sh]);exact q z wa sh c0 l0 ts os cs ls o _ (g03.trans (g5.trans gz)) aB ((g5.trans gz).web W3) gd fc t40 o10 (gz _ _ e1) (gz _ _ e2) (gz _ _ e3) lc ll' ho sh2
end K36
namespace L2
open PySem PySem.Spec PyProof.Rows
def nrm(h:Nat->Int)(e:Nat):Int:=(h e-h 0)%4
structure HD(N:Nat->Int)(M:Nat)(kvs:List (Key×V))(ds:List Nat):Prop where
 nd:ds.Nodup
 lt:∀e∈ds,e<M
 ks:kvs.map (·.1)=(ds.map λn:Nat=>(n:Int)).map Sum.inl
 vl:∀e:Nat,cJ kvs (Sum.inl (e:Int))=if e∈ds then some (.int (N e)) else none
theorem HD.len{N:Nat->Int}{M:Nat}{kvs:List (Key×V)}{ds:List Nat}(h:HD N M kvs ds):kvs.length=ds.length:=by
 have:=congrArg List.length h.ks;simpa using this
theorem HD.few{N:Nat->Int}{M:Nat}{kvs:List (Key×V)}{ds:List Nat}(h:HD N M kvs ds):ds.length<=M:=MM.bW M ds h.nd h.lt
theorem BF{kvs:List (Key×V)}{k:Key}{v:V}:(k∈kvs.map (·.1)->(putK kvs k v).map (·.1)=kvs.map (·.1))/\(k∉kvs.map (·.1)->(putK kvs k v).map (·.1)=kvs.map (·.1)++[k]):=by
 unfold putK;by_cases c:(kvs.any λkv=>decide (kv.1=k))=true
 ·have m:k∈kvs.map (·.1):=by
   obtain⟨x,hx,e⟩:=List.any_eq_true.mp c;exact Zh.mpr ⟨x,hx,of_decide_eq_true e⟩
  rw[if_pos c];refine⟨λ_=>?_,λq=>absurd m q⟩;rw[Yb];refine Yn λx _=>?_;show(if _ then _ else _:Key×V).1=x.1;split
  ·rename_i q;first | exact q.symm | exact(of_decide_eq_true q).symm | rfl
  ·rfl
 ·have m:¬k∈kvs.map (·.1):=λh=>c (by
   obtain⟨x,hx,e⟩:=Zh.mp h;exact List.any_eq_true.mpr ⟨x,hx,decide_eq_true e⟩)
  rw[if_neg c];exact⟨λq=>absurd q m,λ_=>by rw[Zt];rfl⟩
theorem HD.put{N:Nat->Int}{M:Nat}{kvs:List (Key×V)}{ds:List Nat}(h:HD N M kvs ds){e:Nat}(he:e<M){v:Int}(hv:v=N e):HD N M (putK kvs (Sum.inl (e:Int)) (.int v)) (if e∈ds then ds else ds++[e]):=by
 have mk:(Sum.inl (e:Int):Key)∈kvs.map (·.1)↔e∈ds:=by
  rw[h.ks];constructor
  ·intro q;obtain⟨x,hx,z⟩:=Zh.mp q;obtain⟨y,hy,rfl⟩:=Zh.mp hx;have:((y:Nat):Int)=(e:Int):=Sum.inl.inj z;rw[<-show y=e by lia];exact hy
  ·intro q;exact Zh.mpr ⟨_,Zh.mpr ⟨e,q,rfl⟩,rfl⟩
 have ki:∀{x:Nat},((Sum.inl (x:Int):Key)=Sum.inl (e:Int))↔x=e:=λ{x}=>⟨λq=>by have:(x:Int)=(e:Int):=Sum.inl.inj q;lia,λq=>by rw[q]⟩
 by_cases c:e∈ds
 ·rw[if_pos c];refine⟨h.nd,h.lt,(BF.1 (mk.mpr c)).trans h.ks,λx=>?_⟩;rw[dB,h.vl x];by_cases z:x=e
  ·rw[if_pos (ki.mpr z),z,if_pos c,hv]
  ·rw[if_neg (λq=>z (ki.mp q))]
 ·rw[if_neg c];refine⟨by rw[List.nodup_append];exact⟨h.nd,by simp,λx hx y hy q=>by rw[Zb.mp hy]at q;subst q;exact c hx⟩,λx hx=>?_,by rw[BF.2 (λq=>c (mk.mp q)),h.ks,Zt,Zt];rfl,λx=>?_⟩
  ·rcases Zf.mp hx with z | z
   ·exact h.lt x z
   ·rw[Zb.mp z];exact he
  ·rw[dB,h.vl x];by_cases z:x=e
   ·rw[if_pos (ki.mpr z),z,if_pos (by simp),hv]
   ·rw[if_neg (λq=>z (ki.mp q))];by_cases y:x∈ds
    ·rw[if_pos y,if_pos (List.mem_append_left _ y)]
    ·rw[if_neg y,if_neg (λq=>(Zf.mp q).elim y λw=>z (Zb.mp w))]
structure Hr(ts:MM.aS)(os:MM.bI)(c l:Nat->Int)(h:Nat->Int):Prop where
 o:∀e,e<2*ts.length->(h (MM.oth e)-(h e+l e-l (MM.oth e))-2)%4=0
 b:∀e,e<2*ts.length->(h (MM.behind ts os e)-h (MM.oth e)+c e)%4=0
theorem Hr.oth{ts:MM.aS}{os:MM.bI}{c l h:Nat->Int}(r:Hr ts os c l h){e:Nat}(he:e<2*ts.length):(nrm h e+l e-l (MM.oth e)+2)%4=nrm h (MM.oth e):=by
 have:=r.o e he;unfold nrm
 lia
theorem Hr.beh{ts:MM.aS}{os:MM.bI}{c l h:Nat->Int}(r:Hr ts os c l h){e:Nat}(he:e<2*ts.length):(nrm h (MM.oth e)-c e)%4=nrm h (MM.behind ts os e):=by
 have:=r.b e he;unfold nrm
 lia
theorem RN(h:Nat->Int):nrm h 0=0:=by unfold nrm;lia
theorem HD.start(h:Nat->Int){M:Nat}(hM:0<M):HD (nrm h) M (qP [] [(Sum.inl (0:Int),V.int 0)]) [0]:=by
 refine⟨by simp,λe he=>by rw[Zb.mp he];exact hM,rfl,λe=>?_⟩;show cJ (putK [] (Sum.inl (0:Int)) (V.int 0)) (Sum.inl (e:Int))=_;rw[dB];by_cases z:e=0
 ·subst z;rw[if_pos (show(Sum.inl ((0:Nat):Int):Key)=Sum.inl (0:Int) from rfl),if_pos (by simp),RN]
 ·rw[if_neg (λq=>z (by have:(e:Int)=(0:Int):=Sum.inl.inj q;lia)),if_neg (by simpa using z)];rfl
end L2
namespace K36
open PySem L2 PyProof.Rows
theorem mE{ds:List Nat}{e x:Nat}:x∈(if e∈ds then ds else ds++[e])↔x∈ds\/x=e:=by
 by_cases c:e∈ds
 ·rw[if_pos c];exact⟨.inl,λq=>q.elim id λz=>z▸c⟩
 ·rw[if_neg c];simp
end K36
namespace K36
open PySem L2 PyProof.Rows
theorem uP{ts:MM.aS}{os:MM.bI}(g:MM.Good ts os):2*ts.length<=4*os.length:=by
 let f:Nat->Nat:=λe=>4*MM.place ts e+(MM.row os (MM.place ts e)).idxOf e
 have lt:∀e,e<2*ts.length->(MM.row os (MM.place ts e)).idxOf e<4/\(MM.row os (MM.place ts e)).idxOf e<(MM.row os (MM.place ts e)).length:=λe he=>by
  have h1:=List.idxOf_lt_length_of_mem (g.g.has e he).2;exact⟨YQ h1 (g.g.four _),h1⟩
 have nd:((List.range (2*ts.length)).map f).Nodup:=by
  unfold List.Nodup;refine List.pairwise_map.mpr (List.Pairwise.imp_of_mem (λ{x y} hx hy ne q=>ne ?_) (List.nodup_range (n:=2*ts.length)));have h1:=lt x (Zs.mp hx);have h2:=lt y (Zs.mp hy);have q:4*MM.place ts x+(MM.row os (MM.place ts x)).idxOf x=4*MM.place ts y+(MM.row os (MM.place ts y)).idxOf y:=q;have hp:MM.place ts x=MM.place ts y:=by lia
  have hi:(MM.row os (MM.place ts x)).idxOf x=(MM.row os (MM.place ts y)).idxOf y:=by lia
  have e1:=List.getElem_idxOf h1.2;have e2:=List.getElem_idxOf h2.2;rw[<-e1,<-e2];congr 1;rw[hp]
 have:=MM.bW (4*os.length) _ nd (λz hz=>by
  obtain⟨e,he,rfl⟩:=Zh.mp hz;have h1:=lt e (Zs.mp he);have h2:=(g.g.has e (Zs.mp he)).1;show 4*MM.place ts e+(MM.row os (MM.place ts e)).idxOf e<_
  lia)
 simpa using this
theorem NI{ts:MM.aS}{os:MM.bI}{c l h:Nat->Int}(r:Hr ts os c l h){e:Nat}(he:e<2*ts.length):(nrm h e+l e-l (MM.oth e)+2-c e)%4=nrm h (MM.behind ts os e):=by
 have:=r.oth he;have:=r.beh he
 lia
theorem EF{ds ds':List Nat}(e:Nat)(h:ds'=ds\/ds.length<ds'.length):(if e∈ds' then ds' else ds'++[e])=ds\/ds.length<(if e∈ds' then ds' else ds'++[e]).length:=by
 by_cases c:e∈ds'
 ·rw[if_pos c];exact h
 ·rw[if_neg c,Zm,ZQ];rcases h with rfl | h
  ·exact .inr (by lia)
  ·exact .inr (by lia)
def SR:Sp:=λvs H Q _=>∃(wa sa c0 l0:Addr) (n:Nat) (ts:MM.aS) (os:MM.bI) (cs ls:List Int) (h:Nat->Int),vs=[.ref wa,.ref sa]/\iH H wa n ts os/\MM.Good ts os/\MM.NK ts os/\os.length<=10/\H sa=some (.tup [.ref c0,.ref l0])/\H c0=some (.lst (cs.map V.int))/\H l0=some (.lst (ls.map V.int)) /\
 cs.length=2*ts.length/\ls.length=2*ts.length/\Hr ts os (at0 cs) (at0 ls) h /\
 ∀(r:Addr) (kvs:List (Key×V)) (ds:List Nat) (H':Hp),aW H H'->H' r=some (.dK kvs)->HD (nrm h) (2*ts.length) kvs ds->(∀e,e<2*ts.length->e∈ds)->Q (.ref r) H'
theorem PP(T:Txt K mg t):cU P w K mg base CX0 4 t.kO t.kN ["_law_web","_law_shape"] SR:=by
 refine T.kM.F.ok jR (λvs H Q E h=>?_) (λcdv A outer s H vs Q E hr h=>?_)
 ·obtain⟨wa,sa,c0,l0,n,ts,os,cs,ls,h,rfl,_⟩:=h;rfl
 obtain⟨wa,sa,c0,l0,n,ts,os,cs,ls,h,rfl,hW,g,cn,h10,hsa,hc0,hl0,lc,ll,hR,q⟩:=h;have nd:=jR.nd;have hu:=xN hr;refine⟨_,(aF (iY (pv 1) (kD rfl (bY (aQ (i:=2) nd rfl (Or.inl rfl)) (bY (aQ (i:=3) nd rfl (Or.inl rfl)) gN))))
  (aF (aU 4 nd (ME (IM aC aC L9) rfl rfl (by simp) (by decide)))
  (aF (jS PassesOwn.never (bF tZ (a7 GW rfl T.eA PySem.boot_len (aA (pv 4) aE)) (a7 a4 rfl T.eA PySem.boot_len (aA (pv 2) aE)) (bO _)) (aK (cR PassesOwn.never rfl (cK (a7 (zN rfl) rfl T.kR boot_sorted (aA (pv 4) aE))) (aQ (i:=5) nd rfl (Or.inl rfl)) (aF (aU 6 nd (aJ cH (aJ bD (oT hu (pv 4) (pv 5) (λ_ _=>rfl)) (aL aR (pv 3) (pv 5) (λ_ _=>rfl))) (aL aR (pv 3) (bH (fC T) hr T.eP aX (aA (pv 5) aE)) (λ_ _=>rfl))))
  (aF (kB hu (pv 4) (bH (fC T) hr T.eP aX (aA (pv 5) aE)) (aJ bG (aJ bD (pv 6) aC) aC) rfl)
  (aK (kB hu (pv 4) (bH (gJ T) hr T.eX aX (aA (aL aZ (pv 0) aC (λ_ _=>rfl)) (aA (aL aZ (pv 0) aC (λ_ _=>rfl)) (aA (pv 5) aE)))) (aJ bG (aJ cH (aJ bD (pv 6) aC) (aL aR (pv 2) (pv 5) (λ_ _=>rfl))) aC) rfl)))))))
  (aK (bE (pv 4)))))),?_⟩
 have one:=g.one;have fe4:=uP g;obtain⟨tA,oA,hw,hts,hos⟩:=id hW;refine(bT _ rfl sa _ rfl (SqT.of hsa) rfl (hG _ _ rfl _ _ rfl rfl (λd hd=>⟨aB,[(Sum.inl (0:Int),V.int 0)],rfl,by decide,?_⟩)));rw[fJ];refine⟨λm σ H'=>∃(kvs:List (Key×V)) (ds:List Nat) (o5 o6:Option V),m=2*ts.length-ds.length/\(∀b o,b≠d->H b=some o->H' b=some o)/\H' d=some (.dK kvs)/\HD (nrm h) (2*ts.length) kvs ds/\0∈ds/\σ=[some (.ref wa),some (.ref sa),some (.ref c0),some (.ref l0),some (.ref d),o5,o6],
  (cV _ _ ([0]) _ _ rfl (λb o h1 e=>(by rw[aH h1];exact e)) ⟨ aB,HD.start h (by lia),by simp,rfl⟩),?_⟩
 rintro m σ H2 ⟨kvs,ds,o5,o6,rfl,k2,ed,hd2,z0,rfl⟩;have K2:aW H H2:=λb o q=>k2 b o (aN q hd) q;have fe:=hd2.few;have hl2:=hd2.len;refine(a9 _ rfl d kvs rfl ed (a9 _ rfl c0 _ rfl (.inl (SqL.of (K2 _ _ hc0))) (lX _ _ rfl rfl _ rfl ?_)));rw[hl2,Zq,lc];by_cases full:2*ts.length<=ds.length
 ·refine cF (decide_eq_false (by lia)) ⟨_,rfl,q d kvs ds H2 K2 ed hd2 λe he=>?_⟩;by_cases c:e∈ds
  ·exact c
  ·have:=MM.bW (2*ts.length) (e::ds) (List.nodup_cons.mpr ⟨c,hd2.nd⟩) (λx hx=>(Zn.mp hx).elim (λz=>z▸he) (hd2.lt x));rw[Yq]at this
   lia
 refine dY (decide_eq_true (by lia)) ⟨_,λσ' H' h=>h,?_⟩;refine(cW _ rfl d kvs (ds.map λn:Nat=>(n:Int)) rfl (Rd.of ed) ⟨ hd2.ks,by rw[Zq];lia,λl ns hl pm pw=>?_⟩);have nlw:l≠d:=λz=>by rw[z,ed]at hl;cases hl
 have s1:=aG hl (.lst (ns.map V.int));have eL:=aB (H:=H2) (a:=l) (o:=.lst (ns.map V.int));have ed3:=s1 _ _ ed;have k3:∀b o,b≠d->H b=some o->upd H2 l (.lst (ns.map V.int)) b=some o:=λb o h1 q=>s1 _ _ (k2 b o h1 q);generalize upd H2 l (.lst (ns.map V.int))=H3 at eL ed3 k3 ⊢;refine⟨l,rfl,⟨_,SqL.of eL⟩,jU (K:=K) (a:=l) (xs:=ns.map V.int) (λj σ H'=>∃(kvs':List (Key×V)) (ds':List Nat) (o5 o6:Option V),(∀b o,b≠d->(H b=some o\/H3 b=some o)->H' b=some o)/\H' d=some (.dK kvs')/\HD (nrm h) (2*ts.length) kvs' ds'/\(∀x∈ds,x∈ds')/\(ds'=ds\/ds.length<ds'.length)/\(∀i,i<j->∀e:Nat,ns[i]?=some (e:Int)->MM.oth e∈ds'/\MM.behind ts os e∈ds')/\σ=[some (.ref wa),some (.ref sa),some (.ref c0),some (.ref l0),some (.ref d),o5,o6])
  (aO kvs ds _ _ (λb o h1 q=>q.elim (k3 b o h1) id) ed3 hd2 ⟨ λx hx=>hx,.inl rfl,(λi hi=>absurd hi (Nat.not_lt_zero _)),rfl⟩) (λj σ H' _ hh=>by obtain⟨_,_,_,_,k,_⟩:=hh;exact SqL.of (k l _ nlw (.inr eL))) ?_ ?_⟩
 ·rintro j x σ H4 hx ⟨kvs',ds',o5,o6,k4,ed4,hd4,up,ln,dn,rfl⟩;have K4:aW H H4:=λb o q=>k4 b o (aN q hd) (.inl q);rw[Zk]at hx;obtain⟨z,hz,rfl⟩:=Xk.mp hx;obtain⟨e,eds,rfl⟩:=Zh.mp (pm.mem_iff.mp (Zg hz));have he:=hd2.lt e eds;have ho:=MM.b9 he;have hb:=g.maps.lt e he;have M5:=hd4.few;have hl4:=hd4.len;have dg:iJ H4 d (vn e) (some (.int (nrm h e))):=by
   have:=iJ.k (k:=Sum.inl ((e:Nat):Int)) ed4;rw[hd4.vl e,if_pos (up e eds)]at this;exact this
  refine(bS _ rfl _ rfl d _ rfl (eF dg _ rfl _ rfl (aO l0 _ _ _ rfl rfl (SqL.of (K4 _ _ hl0)) (iB (a8 (j:=e) (by lia) rfl) _ _ rfl rfl _ rfl ⟨ _,rfl,(aI e rfl l0 _ _ _ rfl (bC rfl (SqL.of (K4 _ _ hl0)) (a8 (j:=MM.oth e) (by lia) rfl) _ _ rfl rfl ?_))⟩))));refine(a9 _ rfl _ _ rfl rfl (aY _ _ rfl rfl (by show(0:Int)<4;decide) ?_));have e1:(nrm h e+at0 ls e-at0 ls (MM.oth e)+2)%4=nrm h (MM.oth e):=hR.oth he;dsimp only;rw[e1];refine(cQ _ rfl _ rfl e rfl ⟨ d,_,rfl,lW.k (k:=Sum.inl ((MM.oth e:Nat):Int)) ed4 (by rw[hl4];exact Yt (by lia:_<=1000) (by decide)),?_⟩);have hd5:=hd4.put ho (v:=nrm h (MM.oth e)) rfl;have ed5:upd H4 d (.dK (putK kvs' (Sum.inl ((MM.oth e:Nat):Int)) (.int (nrm h (MM.oth e))))) d=_:=aB;have k5:∀b o,b≠d->(H b=some o\/H3 b=some o)->upd H4 d (.dK (putK kvs' (Sum.inl ((MM.oth e:Nat):Int)) (.int (nrm h (MM.oth e))))) b=some o:=λb o h1 q=>by rw[aH h1];exact k4 b o h1 q
  have ln5:=EF (MM.oth e) ln;have up5:∀x,x∈ds'\/x=MM.oth e->x∈(if MM.oth e∈ds' then ds' else ds'++[MM.oth e]):=λx=>mE.mpr;generalize upd H4 d (.dK (putK kvs' (Sum.inl ((MM.oth e:Nat):Int)) (.int (nrm h (MM.oth e)))))=H5 at ed5 k5 ⊢;generalize putK kvs' (Sum.inl ((MM.oth e:Nat):Int)) (.int (nrm h (MM.oth e)))=kvs5 at ed5 hd5;generalize (if MM.oth e∈ds' then ds' else ds'++[MM.oth e])=ds5 at hd5 ln5 up5;have K5:aW H H5:=λb o q=>k5 b o (aN q hd) (.inl q);have few5:=hd5.few;have hl5:=hd5.len;refine(a9 _ rfl _ _ rfl rfl ⟨ _,rfl,(aI _ rfl c0 _ _ _ rfl (bC rfl (SqL.of (K5 _ _ hc0)) (a8 (j:=e) (by lia) rfl) _ _ rfl rfl (aY _ _ rfl rfl (by show(0:Int)<4;decide) ?_)))⟩);have e2:(nrm h e+at0 ls e-at0 ls (MM.oth e)+2-at0 cs e)%4=nrm h (MM.behind ts os e):=NI hR he;dsimp only;rw[e2];have hts5:=K5.ts hts;have hos5:=K5.os hos;refine⟨_,rfl,(aI _ rfl wa _ _ _ rfl (bU rfl (SqT.of (K5 _ _ hw)) rfl _ rfl (aO wa _ _ _ rfl rfl (SqT.of (K5 _ _ hw)) ⟨ rfl,_,(iA rfl tA oA ts os e rfl (zY hts5 hos5 g he d _ rfl ⟨ lW.k (k:=Sum.inl ((MM.behind ts os e:Nat):Int)) ed5 (by rw[hl5];exact Yt (by lia:_<=1000) (by decide)),?_⟩))⟩)))⟩;have hd6:=hd5.put hb (v:=nrm h (MM.behind ts os e)) rfl;refine(aO _ _ _ _ (λb o h1 q=>(by rw[aH h1];exact k5 b o h1 q)) aB hd6 ⟨ λx hx=>mE.mpr (.inl (up5 x (.inl (up x hx)))),EF _ ln5,λi hi e' he'=>?_,rfl⟩);rcases Xj i j with z | z
  ·exact⟨mE.mpr (.inl (up5 _ (.inl (dn i z e' he').1))),mE.mpr (.inl (up5 _ (.inl (dn i z e' he').2)))⟩
  ·have ij:i=j:=by lia
   subst ij;have:(e':Int)=(e:Int):=Option.some.inj (he'.symm.trans hz);have:e'=e:=by lia
   subst this;exact⟨mE.mpr (.inl (up5 _ (.inr rfl))),mE.mpr (.inr rfl)⟩
 ·rintro σ H4 ⟨kvs',ds',o5,o6,k4,ed4,hd4,up,ln,dn,rfl⟩;refine(aI _ ?_ kvs' ds' _ _ rfl ⟨ λb o h1 q=>k4 b o h1 (.inl q),ed4,hd4,up _ z0,rfl⟩);have M5:=hd4.few;rcases ln with rfl | z
  ·exfalso;have cl:∀e∈ds',MM.oth e∈ds'/\MM.behind ts os e∈ds':=λe he=>by
    obtain⟨i,hi,e1⟩:=Yg.mp (pm.mem_iff.mpr (Zh.mpr ⟨e,he,rfl⟩:(e:Int)∈ds'.map λn:Nat=>(n:Int)));exact dn i (by rw[Zq];exact hi) e (by rw[Zz hi,e1])
   have al:∀e,e<2*ts.length->e∈ds':=λe he=>cn (λx=>x∈ds') (λx _ hx=>(cl x hx).2) (λx _ hx=>(cl x hx).1) 0 e (by lia) he z0;have pr:=(List.perm_ext_iff_of_nodup (List.nodup_range (n:=2*ts.length)) hd4.nd).mpr λx=>⟨λz=>al x (Zs.mp z),λz=>Zs.mpr (hd4.lt x z)⟩
   have:=pr.length_eq;rw[Yj]at this
   lia
  ·lia
end K36
namespace L2
open PySem PySem.Spec PyProof.Rows
def hAt(f:Int)(qs:List Int):Nat->Int
 |0=>f
 |j+1=>(hAt f qs j+at0 qs j)%4
def qsP(a b:Nat):List Int:=List.replicate a 1++List.replicate b (-1)
def qsL(a b:Nat):List Int:=List.replicate a 1++List.replicate b 3
theorem vO{a b j:Nat}{x y:Int}(h:j<a+b):at0 (List.replicate a x++List.replicate b y) j=if j<a then x else y:=by
 unfold at0;rw[Zv];by_cases c:j<a
 ·rw[Zx (by rw[List.length_replicate];exact c),if_pos c,List.getElem?_replicate,if_pos c];rfl
 ·rw[Zy (by rw[List.length_replicate];lia),if_neg c,List.length_replicate,List.getElem?_replicate,if_pos (by lia)];rfl
theorem KA(f:Int)(a b:Nat):∀j,j<=a+b->hAt f (qsP a b) j=hAt f (qsL a b) j
 |0,_=>rfl
 |j+1,h=>by
  show(hAt f (qsP a b) j+at0 (qsP a b) j)%4=(hAt f (qsL a b) j+at0 (qsL a b) j)%4;rw[KA f a b j (by lia)];unfold qsP qsL;rw[vO (by lia),vO (by lia)];by_cases c:j<a
  ·rw[if_pos c,if_pos c]
  ·rw[if_neg c,if_neg c];lia
def hL(f:Int)(a b:Nat):List Int:=(List.range (a+b+1)).map (hAt f (qsP a b))
theorem TF(f:Int)(a b:Nat):(List.range (a+b+1)).map (hAt f (qsL a b))=hL f a b :=
 Yn λj hj=>(KA f a b j (by have:=Zs.mp hj;lia)).symm
theorem J9(f:Int)(a b:Nat):(hL f a b).length=a+b+1:=by unfold hL;rw[Zq,Yj]
def nq(ls:List Int)(k:Nat):Nat:=(at0 ls (2*k)).toNat+(at0 ls (2*k+1)).toNat
def st(n:Nat)(ls:List Int):Nat->Nat
 |0=>n
 |k+1=>st n ls k+nq ls k
def eY(ts:MM.aS)(n:Nat)(ls:List Int)(k j:Nat):Nat:=if j=0 then (ts.getD k (0,0)).1 else if j=nq ls k+1 then (ts.getD k (0,0)).2 else st n ls k+(j-1)
def tkj(ts:MM.aS)(n:Nat)(ls:List Int)(k j:Nat):MM.aS:=(List.range j).map λj=>(eY ts n ls k j,eY ts n ls k (j+1))
def lTT(ts:MM.aS)(n:Nat)(ls:List Int):Nat->MM.aS
 |0=>[]
 |k+1=>lTT ts n ls k++tkj ts n ls k (nq ls k+1)
def HH(N:Nat->Int)(ls:List Int):Nat->List Int
 |0=>[]
 |k+1=>HH N ls k++hL (N (2*k)) (at0 ls (2*k)).toNat (at0 ls (2*k+1)).toNat
def OO(ls:List Int):Nat->List Nat
 |0=>[]
 |k+1=>OO ls k++List.replicate (nq ls k+1) k
theorem JQ{ls:List Int}(h:∀e,0<=at0 ls e/\at0 ls e<=1020)(k:Nat):nq ls k<=2040:=by
 have:=h (2*k);have:=h (2*k+1);unfold nq;omega
theorem sI(ts:MM.aS)(n:Nat)(ls:List Int)(k j:Nat):(tkj ts n ls k j).length=j:=by unfold tkj;rw[Zq,Yj]
theorem JZ(ts:MM.aS)(n:Nat)(N:Nat->Int){ls:List Int}(h:∀e,0<=at0 ls e/\at0 ls e<=1020):∀k,(lTT ts n ls k).length<=2041*k/\(HH N ls k).length=(lTT ts n ls k).length/\(OO ls k).length=(lTT ts n ls k).length
 |0=>⟨Nat.le_refl _,rfl,rfl⟩
 |k+1=>by
  obtain⟨h1,h2,h3⟩:=JZ ts n N h k;have:=JQ h k;have e1:(lTT ts n ls (k+1)).length=(lTT ts n ls k).length+(nq ls k+1):=by show(lTT ts n ls k++_).length=_;rw[Zm,sI]
  have e2:(HH N ls (k+1)).length=(HH N ls k).length+(nq ls k+1):=by show(HH N ls k++_).length=_;rw[Zm,J9];rfl
  have e3:(OO ls (k+1)).length=(OO ls k).length+(nq ls k+1):=by show(OO ls k++_).length=_;rw[Zm,List.length_replicate]
  lia
structure LD3(H1 H':Hp)(ta ha oa:Addr)(T:MM.aS)(hs:List Int)(ow:List Nat):Prop where
 g:aW H1 H'
 t:kK H' ta T
 h:H' ha=some (.lst (hs.map V.int))
 o:H' oa=some (.lst (vns ow))
structure Nw3(H1:Hp)(ta ha oa:Addr):Prop where
 t:H1 ta=none
 h:H1 ha=none
 o:H1 oa=none
 th:ta≠ha
 to:ta≠oa
 ho:ha≠oa
theorem LD3.same{H1 H' H'':Hp}{ta ha oa:Addr}{T:MM.aS}{hs:List Int}{ow:List Nat}(p:LD3 H1 H' ta ha oa T hs ow)(g:aW H' H''):LD3 H1 H'' ta ha oa T hs ow:=⟨p.g.trans g,g.ts p.t,g _ _ p.h,g _ _ p.o⟩
theorem D6{H:Hp}{ta l:Addr}{T:MM.aS}{ys:List V}{o:HO}(h:kK H ta T)(hl:H l=some (.lst ys))(n:l≠ta):kK (upd H l o) ta T:=by
 obtain⟨tr,h1,h2,h3⟩:=h;refine⟨tr,by rw[aH (Ne.symm n)];exact h1,h2,λi t ht=>?_⟩;obtain⟨r,q1,q2⟩:=h3 i t ht;refine⟨r,q1,?_⟩;rw[aH (λz=>by rw[z,hl]at q2;cases q2)];exact q2
theorem pZ{H1 H':Hp}{a:Addr}{o:HO}(g:aW H1 H')(h:H1 a=none):aW H1 (upd H' a o):=λb x e=>by
 rw[aH (aN e h)];exact g _ _ e
theorem LD3.extT{H1 H':Hp}{ta ha oa:Addr}{T T2:MM.aS}{hs:List Int}{ow:List Nat}{xs:List V}{rs:List Addr}(p:LD3 H1 H' ta ha oa T hs ow)(n:Nw3 H1 ta ha oa)(hx:H' ta=some (.lst xs))(l2:rs.length=T2.length)
  (h2:∀(i:Nat) t,T2[i]?=some t->∃r,rs[i]?=some r/\H' r=some (.tup [vn t.1,vn t.2])):LD3 H1 (upd H' ta (.lst (xs++rs.map V.ref))) ta ha oa (T++T2) hs ow:=by
 obtain⟨tr,t1,t2,t3⟩:=p.t;rw[hx]at t1;cases t1;refine⟨pZ p.g n.t,⟨tr++rs,by rw[aB,Zt],by rw[Zm,Zm,t2,l2],λi t ht=>?_⟩,by rw[aH (Ne.symm n.th)];exact p.h,by rw[aH (Ne.symm n.to)];exact p.o⟩;have nt:∀{r:Addr}{ys:List V},H' r=some (.tup ys)->r≠ta:=λ{r ys} q z=>by rw[z,hx]at q;cases q
 rcases Xj i T.length with c | c
 ·rw[Zx c]at ht;obtain⟨r,q1,q2⟩:=t3 i t ht;exact⟨r,by rw[Zx (by lia)];exact q1,by rw[aH (nt q2)];exact q2⟩
 ·rw[Zy c]at ht;obtain⟨r,q1,q2⟩:=h2 _ t ht;exact⟨r,by rw[Zy (by lia),t2];exact q1,by rw[aH (nt q2)];exact q2⟩
theorem LD3.addT{H1 H':Hp}{ta ha oa q:Addr}{T:MM.aS}{hs:List Int}{ow:List Nat}{xs:List V}{x y:Nat}(p:LD3 H1 H' ta ha oa T hs ow)(n:Nw3 H1 ta ha oa)(hx:H' ta=some (.lst xs))(hq:H' q=none):LD3 H1 (upd (upd H' q (.tup [vn x,vn y])) ta (.lst (xs++[V.ref q]))) ta ha oa (T++[(x,y)]) hs ow :=
 (p.same (aG hq _)).extT (rs:=[q]) n (aG hq _ _ _ hx) rfl λi t ht=>by
  match i,ht with
  |0,ht=>cases ht;exact⟨q,rfl,aB⟩
theorem LD3.extH{H1 H':Hp}{ta ha oa:Addr}{T:MM.aS}{hs:List Int}{ow:List Nat}(ys:List Int)(p:LD3 H1 H' ta ha oa T hs ow)(n:Nw3 H1 ta ha oa):LD3 H1 (upd H' ha (.lst (hs.map V.int++ys.map V.int))) ta ha oa T (hs++ys) ow :=
 ⟨pZ p.g n.h,D6 p.t p.h (Ne.symm n.th),by rw[aB,Zt],by rw[aH (Ne.symm n.ho)];exact p.o⟩
theorem LD3.extO{H1 H':Hp}{ta ha oa:Addr}{T:MM.aS}{hs:List Int}{ow:List Nat}(ys:List Nat)(p:LD3 H1 H' ta ha oa T hs ow)(n:Nw3 H1 ta ha oa):LD3 H1 (upd H' oa (.lst (vns ow++vns ys))) ta ha oa T hs (ow++ys) :=
 ⟨pZ p.g n.o,D6 p.t p.o (Ne.symm n.to),by rw[aH n.ho];exact p.h,by rw[aB];unfold vns;rw[Zt]⟩
theorem AR(k:Nat)(x:Int):(List.replicate k [V.int x]).flatten=(List.replicate k x).map V.int:=by
 induction k with
 |zero=>rfl
 |succ k ih=>rw[List.replicate_succ,List.flatten_cons,ih,List.replicate_succ];rfl
theorem AF{ts:MM.aS}{n:Nat}{ls:List Int}{k j:Nat}(h:j<nq ls k):eY ts n ls k (j+1)=st n ls k+j:=by
 unfold eY;rw[if_neg (by lia),if_neg (by lia)];rfl
theorem AC{ts:MM.aS}{n:Nat}{ls:List Int}{k j:Nat}:tkj ts n ls k (j+1)=tkj ts n ls k j++[(eY ts n ls k j,eY ts n ls k (j+1))]:=by
 unfold tkj;rw[List.range_succ,Zt];rfl
end L2
namespace K36
open PySem L2 PyProof.Rows
def Laid(H:Hp)(r m ta ha oa:Addr)(n:Nat)(ts:MM.aS)(ls:List Int)(N:Nat->Int):Prop :=
 H r=some (.tup [.ref m,.ref oa])/\H m=some (.tup [vn (st n ls ts.length),.ref ta,.ref ha])/\kK H ta (lTT ts n ls ts.length)/\H ha=some (.lst ((HH N ls ts.length).map V.int))/\H oa=some (.lst (vns (OO ls ts.length)))
def OR:Sp:=λvs H Q _=>∃(wa sa c0 l0:Addr) (n:Nat) (ts:MM.aS) (os:MM.bI) (cs ls:List Int) (h:Nat->Int),vs=[.ref wa,.ref sa]/\iH H wa n ts os/\MM.Good ts os/\MM.NK ts os/\os.length<=10/\H sa=some (.tup [.ref c0,.ref l0])/\H c0=some (.lst (cs.map V.int))/\H l0=some (.lst (ls.map V.int)) /\
 cs.length=2*ts.length/\ls.length=2*ts.length/\Hr ts os (at0 cs) (at0 ls) h/\(∀e,0<=at0 ls e/\at0 ls e<=1020) /\
 ∀(r m ta ha oa:Addr) (H':Hp),aW H H'->Laid H' r m ta ha oa n ts ls (nrm h)->Q (.ref r) H'
theorem JK(T:Txt K mg t):cU P w K mg base CX0 5 t.CD t.B1 ["_law_web","_law_shape"] OR:=by
 refine T.BS.F.ok wX (λvs H Q E h=>?_) (λcdv A outer s H vs Q E hr h=>?_)
 ·obtain⟨wa,sa,c0,l0,n,ts,os,cs,ls,h,rfl,_⟩:=h;rfl
 obtain⟨wa,sa,c0,l0,n,ts,os,cs,ls,h,rfl,hW,g,cn,h10,hsa,hc0,hl0,lc,ll,hR,hB,q⟩:=h;have nd:=wX.nd;have hu:=xN hr;refine⟨_,(aF (aU 2 nd (bH (PP T) hr T.kM aX (aA (pv 0) (aA (pv 1) aE))))
  (aF (aU 3 nd (aL aZ (pv 0) aC (λ_ _=>rfl)))
  (aF (aU 4 nd (bZ aE))
  (aF (aU 5 nd (bZ aE))
  (aF (aU 6 nd (bZ aE))
  (aF (cR PassesOwn.never rfl (zA rfl T.kS (aA (aL aZ (pv 0) aC (λ_ _=>rfl)) aE)) (kD rfl (bY (aQ (i:=7) nd rfl (Or.inl rfl)) (bY (kD rfl (bY (aQ (i:=8) nd rfl (Or.inl rfl)) (bY (aQ (i:=9) nd rfl (Or.inl rfl)) gN))) gN))) (aF (aU 10 nd (oT hu (pv 2) (aJ cS aC (pv 7)) (λ_ _=>rfl)))
  (aF (cR PassesOwn.never rfl (cK (aJ zD (aJ JB (bZ (aA aC aE)) (aL aR (aL aZ (pv 1) aC (λ_ _=>rfl)) (aJ cS aC (pv 7)) (λ_ _=>rfl))) (aJ JB (bZ (aA aC aE)) (aL aR (aL aZ (pv 1) aC (λ_ _=>rfl)) (aJ bD (aJ cS aC (pv 7)) aC) (λ_ _=>rfl))))) (aQ (i:=11) nd rfl (Or.inl rfl)) (aF (bM (fN mAp bA (pv 4) (aA (b8 (aA (pv 8) (aA (pv 3) aE))) aE)))
  (aF (bM (fN mAp bA (pv 5) (aA (pv 10) aE)))
  (aF (bM (fN mAp bA (pv 6) (aA (pv 7) aE)))
  (aF (aU 8 nd (pv 3))
  (aF (aU 3 nd (aJ bD (pv 3) aC))
  (aK (aU 10 nd (aJ bG (aJ bD (pv 10) (pv 11)) aC)))))))))
  (aF (bM (fN mAp bA (pv 4) (aA (b8 (aA (pv 8) (aA (pv 9) aE))) aE)))
  (aF (bM (fN mAp bA (pv 5) (aA (pv 10) aE)))
  (aK (bM (fN mAp bA (pv 6) (aA (pv 7) aE)))))))))
  (aK (bE (b8 (aA (b8 (aA (pv 3) (aA (pv 4) (aA (pv 5) aE)))) (aA (pv 6) aE))))))))))),?_⟩
 have one:=g.one;have fe4:=uP g;have hlen:=JZ ts n (nrm h) hB;refine⟨_,rfl,_,rfl,(fH wa sa c0 l0 n ts os (bB cs ls h rfl hW g cn (dX h10 hsa hc0 hl0 lc ll hR (λd kvs ds H1 g1 hd1 hd2 al=>?_))))⟩;obtain⟨tA,oA,hw,hts,hos⟩:=id (g1.web hW);have hsa1:=g1 _ _ hsa;have hl01:=g1 _ _ hl0;refine(aI _ rfl wa _ _ _ rfl ⟨ rfl,SqT.of hw,rfl,(by show 0<=ZW;decide),λta hta=>⟨(by show 0<=ZW;decide),λha hha=>⟨(by show 0<=ZW;decide),λoa hoa=>?_⟩⟩⟩);have s1:=aG hta (.lst []);have s2:=aG hha (.lst []);have s3:=aG hoa (.lst []);have th:ta≠ha:=aN aB hha;have to:ta≠oa:=aN (s2 _ _ aB) hoa;have ho:ha≠oa:=aN aB hoa;have nw:Nw3 H1 ta ha oa:=⟨hta,s1.free hha,s1.free (s2.free hoa),th,to,ho⟩
 have p0:LD3 H1 (upd (upd (upd H1 ta (.lst [])) ha (.lst [])) oa (.lst [])) ta ha oa [] [] []:=⟨s1.trans (s2.trans s3),⟨[],s3 _ _ (s2 _ _ aB),rfl,λi t h=>by cases h⟩,s3 _ _ aB,aB⟩
 generalize upd (upd (upd H1 ta (.lst [])) ha (.lst [])) oa (.lst [])=H2 at p0 ⊢;clear s1 s2 s3;obtain⟨tr,tr1,tr2,tr3⟩:=id hts;refine(aI _ rfl wa _ _ _ rfl (oD rfl (SqT.of (p0.g _ _ hw)) rfl tA rfl ⟨_,SqL.of (p0.g _ _ tr1)⟩ (uN (K:=K) (a:=tA) (xs:=tr.map V.ref) (λk σ H'=>∃(o7 o8 o9 o10 o11:Option V),LD3 H1 H' ta ha oa (lTT ts n ls k) (HH (nrm h) ls k) (OO ls k)/\σ=[some (.ref wa),some (.ref sa),some (.ref d),some (vn (st n ls k)),some (.ref ta),some (.ref ha),some (.ref oa),o7,o8,o9,o10,o11])
  (DX _ _ _ _ _ p0 rfl) (λk σ H' _ hh=>by obtain⟨_,_,_,_,_,p,_⟩:=hh;exact SqL.of (p.g _ _ tr1)) ?_ ?_)))
 ·rintro k x σ H3 Tp hx ⟨o7,o8,o9,o10,o11,p3,rfl⟩ hTp;have hk:k<ts.length:=by
   rw[<-tr2];have:=(Zj.mp hx).1;simpa using this
  obtain⟨r,q1,q2⟩:=tr3 k _ (Zz hk);rw[Zk,q1]at hx;cases hx;have etk:ts.getD k (0,0)=ts[k]:=by simp[List.getD,hk]
  have gT:=aG hTp (.tup [vn k,V.ref r]);refine(aY Tp _ rfl (SqT.of aB) rfl (DY _ _ rfl _ _ rfl (aY r _ rfl (SqT.of (gT _ _ (p3.g _ _ q2))) rfl (hG _ _ rfl _ _ rfl rfl ⟨ rfl,?_⟩))));have p4:=p3.same gT;generalize upd H3 Tp (.tup [vn k,V.ref r])=H4 at p4 ⊢;clear gT p3;have cm:NL 2 (k:Int):=.inl (by decide);have ez:(2*(k:Int))=((2*k:Nat):Int):=by lia
  have dg:iJ H4 d (.int (2*(k:Int))) (some (.int (nrm h (2*k)))):=by
   have:=iJ.k (k:=Sum.inl ((2*k:Nat):Int)) (p4.g _ _ hd1);rw[hd2.vl (2*k),if_pos (al _ (by lia))]at this;rw[ez];exact this
  have b1:=hB (2*k);have b2:=hB (2*k+1);refine(bS _ rfl _ rfl _ _ rfl (nZ rfl cm d _ rfl dg ?_));refine⟨(by show 1<=ZW;decide),λL1 hL1=>?_⟩;have g5:=aG hL1 (.lst [V.int 1]);refine(aI _ rfl sa _ _ _ rfl (bU rfl (SqT.of (g5 _ _ (p4.g _ _ hsa1))) rfl _ rfl (aY _ _ rfl rfl cm (aO l0 _ _ _ rfl rfl (SqL.of (g5 _ _ (p4.g _ _ hl01))) (jO (a8 (j:=2*k) (by lia) ez) L1 _ _ rfl rfl aB ⟨ by lia,by lia,Ys (by show 1*_<=2000;lia) (by decide),λp1 hp1=>?_⟩)))));rw[AR];have g6:=g5.trans (aG hp1 (.lst ((List.replicate (at0 ls (2*k)).toNat (1:Int)).map V.int)));have e6:=aB (H:=upd H4 L1 (.lst [V.int 1])) (a:=p1) (o:=.lst ((List.replicate (at0 ls (2*k)).toNat (1:Int)).map V.int));generalize upd (upd H4 L1 (.lst [V.int 1])) p1 (.lst ((List.replicate (at0 ls (2*k)).toNat (1:Int)).map V.int))=H6 at g6 e6 ⊢;clear g5;refine⟨(by show 1<=ZW;decide),λL3 hL3=>?_⟩;have g7:=aG hL3 (.lst [V.int 3]);refine(aI _ rfl sa _ _ _ rfl (bU rfl (SqT.of (g7 _ _ (g6 _ _ (p4.g _ _ hsa1)))) rfl _ rfl (aY _ _ rfl rfl cm ⟨ _,_,(iC rfl rfl l0 _ _ _ rfl (kT rfl (SqL.of (g7 _ _ (g6 _ _ (p4.g _ _ hl01)))) (a8 (j:=2*k+1) (by lia) (by lia)) L3 _ _ rfl (jL rfl aB (by lia) (by lia) (Ys (by show 1*_<=2000;lia) (by decide)) (λp3 hp3=>?_))))⟩)));rw[AR];have s8:=aG hp3 (.lst ((List.replicate (at0 ls (2*k+1)).toNat (3:Int)).map V.int));have g8:=g7.trans s8;have e8:=aB (H:=upd H6 L3 (.lst [V.int 3])) (a:=p3) (o:=.lst ((List.replicate (at0 ls (2*k+1)).toNat (3:Int)).map V.int));generalize upd (upd H6 L3 (.lst [V.int 3])) p3 (.lst ((List.replicate (at0 ls (2*k+1)).toNat (3:Int)).map V.int))=H8 at g8 e8 s8 ⊢;refine(aO p1 p3 _ _ rfl rfl (g8 _ _ e6) ⟨ e8,(by rw[Zq,Zq,List.length_replicate,List.length_replicate];exact Ys (by lia:_<=5000) (by decide)),λp hp=>?_⟩);rw[<-Zt];have p9:=p4.same (g6.trans (g8.trans (aG hp (.lst ((qsL (at0 ls (2*k)).toNat (at0 ls (2*k+1)).toNat).map V.int)))));have e9:=aB (H:=H8) (a:=p) (o:=.lst ((qsL (at0 ls (2*k)).toNat (at0 ls (2*k+1)).toNat).map V.int));have hpn:∀a o,H4 a=some o->p≠a:=λa o z y=>by rw[y,g8 _ _ (g6 _ _ z)]at hp;cases hp
  obtain⟨tr4,tx4,_⟩:=p4.t;have pt:=hpn _ _ tx4;have ph:=hpn _ _ p4.h;have po:=hpn _ _ p4.o;have ql:(qsL (at0 ls (2*k)).toNat (at0 ls (2*k+1)).toNat).length=nq ls k:=by unfold qsL nq;simp
  have nqb:=JQ hB k;have hln:=hlen k;have k20:k<=20:=by lia
  refine⟨p,rfl,⟨_,SqL.of e9⟩,jU (K:=K) (a:=p) (xs:=(qsL (at0 ls (2*k)).toNat (at0 ls (2*k+1)).toNat).map V.int) (λj σ H'=>∃(o11:Option V),LD3 H1 H' ta ha oa (lTT ts n ls k++tkj ts n ls k j) (HH (nrm h) ls k++(List.range j).map (hAt (nrm h (2*k)) (qsL (at0 ls (2*k)).toNat (at0 ls (2*k+1)).toNat))) (OO ls k++List.replicate j k)/\H' p=some (.lst ((qsL (at0 ls (2*k)).toNat (at0 ls (2*k+1)).toNat).map V.int)) /\
    σ=[some (.ref wa),some (.ref sa),some (.ref d),some (vn (st n ls k+j)),some (.ref ta),some (.ref ha),some (.ref oa),some (vn k),some (vn (eY ts n ls k j)),some (vn ts[k].2),some (.int (hAt (nrm h (2*k)) (qsL (at0 ls (2*k)).toNat (at0 ls (2*k+1)).toNat) j)),o11])
   ⟨_,(by have z:=p9;rw[<-List.append_nil (lTT ts n ls k),<-List.append_nil (HH (nrm h) ls k),<-List.append_nil (OO ls k)]at z;exact z),e9,(by show _=[_,_,_,_,_,_,_,_,some (vn (ts.getD k (0,0)).1),_,_,_];rw[etk];rfl)⟩ (λj σ H' _ hh=>by obtain⟨_,_,e,_⟩:=hh;exact SqL.of e) ?_ ?_⟩
  ·rintro j x σ H5 hx ⟨o11,p5,e5,rfl⟩;have hj:j<nq ls k:=by
    rw[<-ql];have:=(Zj.mp hx).1;simpa using this
   have hx':=(vN (by rw[ql];exact hj)).symm.trans hx;cases hx';obtain⟨tr5,tx5,tl5,_⟩:=p5.t;rw[Zm,sI]at tl5;refine(c9 _ rfl (.inl ⟨rfl,_,SqL.of tx5⟩) _ rfl _ rfl ⟨ (by show 2<=ZW;decide),λq hq=>(bB ta _ _ rfl rfl (aG hq _ _ _ tx5) (eV (by rw[Zq];lia)) ?_)⟩);have p6:=p5.addT (x:=eY ts n ls k j) (y:=st n ls k+j) nw tx5 hq;have e6:upd (upd H5 q (.tup [vn (eY ts n ls k j),vn (st n ls k+j)])) ta (.lst (tr5.map V.ref++[V.ref q])) p=_:=(aH pt).trans (aG hq _ _ _ e5);generalize upd (upd H5 q (.tup [vn (eY ts n ls k j),vn (st n ls k+j)])) ta (.lst (tr5.map V.ref++[V.ref q]))=H6 at p6 e6 ⊢;refine(eQ _ rfl (.inl ⟨rfl,_,SqL.of p6.h⟩) _ rfl (bB ha _ _ rfl rfl p6.h (eV (by rw[Zq,Zm,Zq,Yj];lia)) ?_));have p7:=p6.extH [hAt (nrm h (2*k)) (qsL (at0 ls (2*k)).toNat (at0 ls (2*k+1)).toNat) j] nw;refine(eQ _ rfl (.inl ⟨rfl,_,SqL.of p7.o⟩) _ rfl (bB oa _ _ rfl rfl p7.o (eV (by rw[Zq,Zm,List.length_replicate];lia)) ?_));have p8:=p7.extO [k] nw;refine(bS _ rfl _ rfl _ _ rfl (eF rfl _ rfl _ rfl (hU _ _ rfl rfl _ _ rfl ⟨ rfl,(by show(0:Int)<4;decide),?_⟩)));refine⟨some (.int (at0 (qsL (at0 ls (2*k)).toNat (at0 ls (2*k+1)).toNat) j)),?_,(by rw[aH po,aH ph];exact e6),?_⟩
   ·have ea:(List.range (j+1)).map (hAt (nrm h (2*k)) (qsL (at0 ls (2*k)).toNat (at0 ls (2*k+1)).toNat))=(List.range j).map (hAt (nrm h (2*k)) (qsL (at0 ls (2*k)).toNat (at0 ls (2*k+1)).toNat))++[hAt (nrm h (2*k)) (qsL (at0 ls (2*k)).toNat (at0 ls (2*k+1)).toNat) j]:=by rw[List.range_succ,Zt];rfl
    rw[ea,List.replicate_succ',AC,AF hj,<-Yd,<-Yd,<-Yd];exact p8
   ·rw[AF hj];rfl
  ·rintro σ H5 ⟨o11,p5,e5,rfl⟩;rw[Zq,ql]at p5 ⊢;obtain⟨tr5,tx5,tl5,_⟩:=p5.t;rw[Zm,sI]at tl5;refine(c9 _ rfl (.inl ⟨rfl,_,SqL.of tx5⟩) _ rfl _ rfl ⟨ (by show 2<=ZW;decide),λq hq=>(bB ta _ _ rfl rfl (aG hq _ _ _ tx5) (eV (by rw[Zq];lia)) ?_)⟩);have p6:=p5.addT (x:=eY ts n ls k (nq ls k)) (y:=ts[k].2) nw tx5 hq;generalize upd (upd H5 q (.tup [vn (eY ts n ls k (nq ls k)),vn ts[k].2])) ta (.lst (tr5.map V.ref++[V.ref q]))=H6 at p6 ⊢;refine(eQ _ rfl (.inl ⟨rfl,_,SqL.of p6.h⟩) _ rfl (bB ha _ _ rfl rfl p6.h (eV (by rw[Zq,Zm,Zq,Yj];lia)) ?_));have p7:=p6.extH [hAt (nrm h (2*k)) (qsL (at0 ls (2*k)).toNat (at0 ls (2*k+1)).toNat) (nq ls k)] nw;refine(eQ _ rfl (.inl ⟨rfl,_,SqL.of p7.o⟩) _ rfl (bB oa _ _ rfl rfl p7.o (eV (by rw[Zq,Zm,List.length_replicate];lia)) ?_));have p8:=p7.extO [k] nw;refine(DX _ _ _ _ _ ?_ rfl);have e2:eY ts n ls k (nq ls k+1)=ts[k].2:=by unfold eY;rw[if_neg (by lia),if_pos rfl,etk]
   show LD3 H1 _ ta ha oa (lTT ts n ls k++tkj ts n ls k (nq ls k+1)) (HH (nrm h) ls k++hL _ _ _) (OO ls k++List.replicate (nq ls k+1) k);have ea:hL (nrm h (2*k)) (at0 ls (2*k)).toNat (at0 ls (2*k+1)).toNat=(List.range (nq ls k)).map (hAt (nrm h (2*k)) (qsL (at0 ls (2*k)).toNat (at0 ls (2*k+1)).toNat))++[hAt (nrm h (2*k)) (qsL (at0 ls (2*k)).toNat (at0 ls (2*k+1)).toNat) (nq ls k)]:=by
    rw[<-TF,show(at0 ls (2*k)).toNat+(at0 ls (2*k+1)).toNat=nq ls k from rfl,List.range_succ,Zt];rfl
   rw[ea,List.replicate_succ',AC,e2,<-Yd,<-Yd,<-Yd];exact p8
 ·rintro σ H3 ⟨o7,o8,o9,o10,o11,p3,rfl⟩;rw[Zq,tr2]at p3 ⊢;refine(nW _ rfl _ rfl _ rfl (by show 3<=ZW;decide) (λm hm=>⟨_,rfl,(by show 2<=ZW;decide),λr hr=>?_⟩));have s1:=aG hm (.tup [vn (st n ls ts.length),V.ref ta,V.ref ha]);have s2:=aG hr (.tup [V.ref m,V.ref oa]);have p4:=p3.same (s1.trans s2);exact q r m ta ha oa _ (g1.trans p4.g) ⟨aB,s2 _ _ aB,p4.t,p4.h,p4.o⟩
end K36
namespace MM
structure Exp(f f':Nat->Nat)(M M':Nat)(L:Nat->Nat)(x:Nat->Nat->Nat):Prop where
 m:fV f M
 m':fV f' M'
 lt:∀e j,e<M->j<=L e->x e j<M'
 on:∀e j,e<M->j<L e->f' (x e j)=x e (j+1)
 nx:∀e,e<M->f' (x e (L e))=x (f e) 0
 inj:∀e j e' j',e<M->j<=L e->e' < M->j'<=L e'->x e j=x e' j'->e=e'/\j=j'
 all:∀y,y<M'->∃e j,e<M/\j<=L e/\y=x e j
def CH(L:Nat->Nat)(x:Nat->Nat->Nat)(e:Nat):List Nat:=(List.range (L e+1)).map (x e)
theorem jA{L:Nat->Nat}{x:Nat->Nat->Nat}{e y:Nat}:y∈CH L x e↔∃j,j<=L e/\x e j=y:=by
 unfold CH;rw[Zh];exact⟨λ⟨j,h,q⟩=>⟨j,Xz (Zs.mp h),q⟩,λ⟨j,h,q⟩=>⟨j,Zs.mpr (Nat.lt_succ_of_le h),q⟩⟩
section
variable{f f':Nat->Nat}{M M':Nat}{L:Nat->Nat}{x:Nat->Nat->Nat}
theorem Exp.along(X:Exp f f' M M' L x){e:Nat}(he:e<M):∀j,j<=L e->iter f' j (x e 0)=x e j
 |0,_=>rfl
 |j+1,h=>by
  show f' (iter f' j (x e 0))=_;rw[X.along he j (by lia),X.on e j he (by lia)]
theorem Exp.come(X:Exp f f' M M' L x){e:Nat}(he:e<M):∀i,∃k,iter f' k (x e 0)=x (iter f i e) 0
 |0=>⟨0,rfl⟩
 |i+1=>by
  obtain⟨k,hk⟩:=X.come he i;have h1:=dH X.m he i;refine⟨k+(L (iter f i e)+1),?_⟩;rw[b7,hk];show f' (iter f' (L (iter f i e)) _)=_;rw[X.along h1 _ (Nat.le_refl _),X.nx _ h1];rfl
theorem Exp.land(X:Exp f f' M M' L x){e:Nat}(he:e<M):(aT f' (x e 0)).Perm ((aT f e).flatMap (CH L x)):=by
 have h0:=X.lt e 0 he (Nat.zero_le _);refine(List.perm_ext_iff_of_nodup (eG X.m' h0) (List.pairwise_flatMap.mpr ⟨λa ha=>?_,?_⟩)).mpr λy=>?_
 ·have la:=eO X.m he a ha;refine List.Pairwise.map _ (λi j (h:i≠j/\i<=L a/\j<=L a) q=>h.1 (X.inj a i a j la h.2.1 la h.2.2 q).2) ?_;refine List.Pairwise.imp_of_mem (R:=(·≠·)) (λ{i j} hi hj h=>⟨h,Xz (Zs.mp hi),Xz (Zs.mp hj)⟩) List.nodup_range
 ·refine List.Pairwise.imp_of_mem (R:=(·≠·)) (λ{a b} ha hb h y hy z hz q=>?_) (eG X.m he);obtain⟨i,hi,rfl⟩:=jA.mp hy;obtain⟨j,hj,rfl⟩:=jA.mp hz;exact h (X.inj a i b j (eO X.m he a ha) hi (eO X.m he b hb) hj q).1
 ·rw[dR X.m' h0,Yk];constructor
  ·rintro⟨k,rfl⟩;induction k with
   |zero=>exact⟨e,l5 X.m he,jA.mpr ⟨0,Nat.zero_le _,rfl⟩⟩
   |succ k ih =>
    obtain⟨a,ha,h⟩:=ih;obtain⟨j,hj,q⟩:=jA.mp h;have la:=eO X.m he a ha;show ∃a,a∈aT f e/\f' (iter f' k (x e 0))∈CH L x a;rw[<-q];by_cases z:j<L a
    ·exact⟨a,ha,jA.mpr ⟨j+1,z,(X.on a j la z).symm⟩⟩
    ·have:j=L a:=by lia
     subst this;obtain⟨i,hi⟩:=(dR X.m he).mp ha;exact⟨f a,(dR X.m he).mpr ⟨i+1,by show f (iter f i e)=_;rw[hi]⟩,jA.mpr ⟨0,Nat.zero_le _,(X.nx a la).symm⟩⟩
  ·rintro⟨a,ha,h⟩;obtain⟨j,hj,rfl⟩:=jA.mp h;obtain⟨i,rfl⟩:=(dR X.m he).mp ha;obtain⟨k,hk⟩:=X.come he i;exact⟨k+j,by rw[b7,hk];exact X.along (dH X.m he i) j hj⟩
theorem NQ(g:Nat->List Nat)(w:Nat->Int):∀l:List Nat,su (l.flatMap g) w=su l λe=>su (g e) w
 |[]=>rfl
 |a::l=>by rw[List.flatMap_cons,kX,bK,NQ g w l]
theorem xJ{N y z:Nat}(m:fV f N)(hz:z<N)(h:y∈aT f z):(aT f y).Perm (aT f z) :=
 have hy:=eO m hz y h
 (List.perm_ext_iff_of_nodup (eG m hy) (eG m hz)).mpr λ_=>⟨λq=>eW m hz h q,λq=>eW m hy (mH m hz h) q⟩
theorem EU{N y:Nat}(m:fV f N)(hy:y<N):∃d∈cX f N,d.Perm (aT f y):=by
 obtain⟨k,d,h1,h2,_⟩:=uC m N (List.range N) (by simp) (λ_ h=>Zs.mp h) y (Zs.mpr hy);have hd:=Zg h1;obtain⟨z,hz,rfl⟩:=kH m N (List.range N) (by simp) (λ_ h=>Zs.mp h) d hd;exact⟨_,hd,(xJ m (Zs.mp hz) h2).symm⟩
theorem Exp.sums(X:Exp f f' M M' L x){w w':Nat->Int}(hw:∀e,e<M->su (CH L x e) w'=w e) :
  (∀d∈cX f' M',∃d0∈cX f M,su d w'=su d0 w)/\∀d0∈cX f M,∃d∈cX f' M',su d w'=su d0 w:=by
 have key:∀e,e<M->su (aT f' (x e 0)) w'=su (aT f e) w:=λe he=>by
  rw[gM (X.land he),NQ];exact eT λa ha=>hw a (eO X.m he a ha)
 constructor
 ·intro d hd;obtain⟨y,hy,rfl⟩:=kH X.m' M' (List.range M') (by simp) (λ_ h=>Zs.mp h) d hd;obtain⟨e,j,he,hj,rfl⟩:=X.all y (Zs.mp hy);have h0:=X.lt e 0 he (Nat.zero_le _);obtain⟨d0,h1,h2⟩:=EU X.m he;exact⟨d0,h1,by rw[gM (xJ X.m' h0 ((dR X.m' h0).mpr ⟨j,X.along he j hj⟩)),key e he,gM h2]⟩
 ·intro d0 hd;obtain⟨e,he,rfl⟩:=kH X.m M (List.range M) (by simp) (λ_ h=>Zs.mp h) d0 hd;have he:=Zs.mp he;obtain⟨d,h1,h2⟩:=EU X.m' (X.lt e 0 he (Nat.zero_le _));exact⟨d,h1,by rw[gM h2,key e he]⟩
end
end MM
namespace MM
theorem EG{r:List Nat}{y:Nat}(h:y∈r):aV r y=r.getD (if r.idxOf y=0 then r.length-1 else r.idxOf y-1) 0:=by
 have l:=List.idxOf_lt_length_of_mem h;unfold aV;congr 1;split
 ·rename_i z;rw[z,Nat.zero_add];exact Nat.mod_eq_of_lt (by omega)
 ·rename_i z
  have e:r.idxOf y+r.length-1=(r.idxOf y-1)+r.length:=by lia
  rw[e,Nat.add_mod_right];exact Nat.mod_eq_of_lt (by omega)
theorem lR{r:List Nat}{y:Nat}(h:y∈r):r.getD (r.idxOf y) 0=y:=by
 have l:=List.idxOf_lt_length_of_mem h;simp only[List.getD,Zz l,Option.getD_some];exact List.getElem_idxOf l
theorem rise{r:List Nat}{H:Nat->Int}(s:r.Pairwise λa b=>H a<H b){i j:Nat}(h:i<j)(hj:j<r.length):H (r.getD i 0)<H (r.getD j 0):=by
 have hi:i<r.length:=by lia
 simp only[List.getD,Zz hi,Zz hj,Option.getD_some];exact List.pairwise_iff_getElem.mp s i j hi hj h
theorem IE{r:List Nat}{H:Nat->Int}(s:r.Pairwise λa b=>H a<H b){a b:Nat}(ha:a∈r)(hb:b∈r)(h:H a=H b):a=b:=by
 have la:=List.idxOf_lt_length_of_mem ha;have lb:=List.idxOf_lt_length_of_mem hb;rw[<-lR ha,<-lR hb]at h ⊢;rcases Nat.lt_trichotomy (r.idxOf a) (r.idxOf b) with z | z | z
 ·have:=rise s z lb;lia
 ·rw[z]
 ·have:=rise s z la;lia
theorem IK{r:List Nat}{H:Nat->Int}(s:r.Pairwise λa b=>H a<H b)(b:∀a∈r,0<=H a/\H a<4){y z:Nat}(hy:y∈r)(hz:z∈r)(hm:∀w∈r,(H y-H z-1)%4<=(H y-H w-1)%4):aV r y=z:=by
 have ly:=List.idxOf_lt_length_of_mem hy;have lz:=List.idxOf_lt_length_of_mem hz;have hw:=iZ hy;have by_:=b y hy;have bz:=b z hz;have bw:=b _ hw;refine IE s hw hz ?_;have h1:=hm _ hw;have e:=EG hy;have gy:=lR hy;have gz:=lR hz;by_cases q:r.idxOf y=0
 ·rw[if_pos q]at e;have h2:H y<=H z:=by
   rcases Xj (r.idxOf y) (r.idxOf z) with u | u
   ·have:=rise s u lz;rw[gy,gz]at this;lia
   ·have:r.idxOf z=r.idxOf y:=by lia
    rw[<-gy,<-gz,this];exact Int.le_refl _
  have h3:H z<=H (aV r y):=by
   rw[e];rcases Xj (r.idxOf z) (r.length-1) with u | u
   ·have:=rise s u (by lia);rw[gz]at this;lia
   ·have:r.idxOf z=r.length-1:=by lia
    rw[<-this,gz];exact Int.le_refl _
  lia
 ·rw[if_neg q]at e;have h2:H (aV r y)<H y:=by
   have:=rise s (show r.idxOf y-1<r.idxOf y by lia) ly;rw[gy,<-e]at this;exact this
  have h3:H z<=H (aV r y)\/H y<=H z:=by
   rw[e];rcases Xj (r.idxOf z) (r.idxOf y) with u | u
   ·left
    rcases Xj (r.idxOf z) (r.idxOf y-1) with v | v
    ·have:=rise s v (by omega);rw[gz]at this;lia
    ·have:r.idxOf z=r.idxOf y-1:=by lia
     rw[<-this,gz];exact Int.le_refl _
   ·right
    rcases Xj (r.idxOf y) (r.idxOf z) with v | v
    ·have:=rise s v lz;rw[gy,gz]at this;lia
    ·have:r.idxOf z=r.idxOf y:=by lia
     rw[<-gy,<-gz,this];exact Int.le_refl _
  rcases h3 with h3 | h3<;>lia
theorem JA{r:List Nat}{N u:Nat->Int}(nd:r.Nodup)(l4:r.length<=4)(b:∀a,0<=N a/\N a<4)(u1:∀a∈r,1<=u a)(us:su r u=4)(h:∀y∈r,(N (aV r y)-N y+u y)%4=0) :
  ∀y∈r,∀w∈r,((N y-N (aV r y)-1)%4<=(N y-N w-1)%4)/\(N y=N w->y=w):=by
 match r,nd,l4 with
 |[],_,_=>intro y hy;cases hy
 |[a],_,_ =>
  intro y hy w hw;have e1:=Zb.mp hy;have e2:=Zb.mp hw;rw[e1,e2];have q:aV [a] a=a:=by simp[aV]
  rw[q];exact⟨Int.le_refl _,λ_=>rfl⟩
 |[a,c],nd,_ =>
  have n1:a≠c:=by simpa using nd
  have p1:aV [a,c] a=c:=by simp[aV]
  have p2:aV [a,c] c=a:=by simp[aV,List.idxOf_cons,beq_false_of_ne n1]
  have h1:=h a (by simp);have h2:=h c (by simp);rw[p1]at h1;rw[p2]at h2;have v1:=u1 a (by simp);have v2:=u1 c (by simp);simp only[bK,iL]at us;have ba:=b a;have bc:=b c;have nn:N a≠N c:=by lia
  intro y hy w hw;have hy:y=a\/y=c:=by simpa using hy
  have hw:w=a\/w=c:=by simpa using hw
  rcases hy with rfl | rfl<;>rcases hw with rfl | rfl<;>(first | rw[p1] | rw[p2])<;>exact⟨by lia,λq=>by first | rfl | lia⟩
 |[a,c,d],nd,_ =>
  have n1:a≠c/\a≠d/\c≠d:=by
   simp only[List.nodup_cons,Zn,List.not_mem_nil,or_false,not_or]at nd;exact⟨nd.1.1,nd.1.2,nd.2.1⟩
  obtain⟨n1,n2,n3⟩:=n1;have p1:aV [a,c,d] a=d:=by simp[aV]
  have p2:aV [a,c,d] c=a:=by simp[aV,List.idxOf_cons,beq_false_of_ne n1]
  have p3:aV [a,c,d] d=c:=by simp[aV,List.idxOf_cons,beq_false_of_ne n2,beq_false_of_ne n3]
  have h1:=h a (by simp);have h2:=h c (by simp);have h3:=h d (by simp);rw[p1]at h1;rw[p2]at h2;rw[p3]at h3;have v1:=u1 a (by simp);have v2:=u1 c (by simp);have v3:=u1 d (by simp);simp only[bK,iL]at us;have ba:=b a;have bc:=b c;have bd:=b d;have m1:N a≠N c:=by lia
  have m2:N a≠N d:=by lia
  have m3:N c≠N d:=by lia
  intro y hy w hw;have hy:y=a\/y=c\/y=d:=by simpa using hy
  have hw:w=a\/w=c\/w=d:=by simpa using hw
  rcases hy with rfl | rfl | rfl<;>rcases hw with rfl | rfl | rfl<;>(first | rw[p1] | rw[p2] | rw[p3])<;>exact⟨by lia,λq=>by first | rfl | lia⟩
 |[a,c,d,f],nd,_ =>
  simp only[List.nodup_cons,Zn,List.not_mem_nil,or_false,not_or]at nd;obtain⟨⟨n1,n2,n3⟩,⟨n4,n5⟩,n6,_⟩:=nd;have p1:aV [a,c,d,f] a=f:=by simp[aV]
  have p2:aV [a,c,d,f] c=a:=by simp[aV,List.idxOf_cons,beq_false_of_ne n1]
  have p3:aV [a,c,d,f] d=c:=by simp[aV,List.idxOf_cons,beq_false_of_ne n2,beq_false_of_ne n4]
  have p4:aV [a,c,d,f] f=d:=by simp[aV,List.idxOf_cons,beq_false_of_ne n3,beq_false_of_ne n5,beq_false_of_ne n6]
  have h1:=h a (by simp);have h2:=h c (by simp);have h3:=h d (by simp);have h4:=h f (by simp);rw[p1]at h1;rw[p2]at h2;rw[p3]at h3;rw[p4]at h4;have v1:=u1 a (by simp);have v2:=u1 c (by simp);have v3:=u1 d (by simp);have v4:=u1 f (by simp);simp only[bK,iL]at us;have w1:u a=1:=by lia
  have w2:u c=1:=by lia
  have w3:u d=1:=by lia
  have w4:u f=1:=by lia
  rw[w1]at h1;rw[w2]at h2;rw[w3]at h3;rw[w4]at h4;have ba:=b a;have bc:=b c;have bd:=b d;have bf:=b f;clear us v1 v2 v3 v4 w1 w2 w3 w4;have m1:N a≠N c:=by omega
  have m2:N a≠N d:=by omega
  have m3:N a≠N f:=by lia
  have m4:N c≠N d:=by omega
  have m5:N c≠N f:=by lia
  have m6:N d≠N f:=by lia
  intro y hy w hw;have hy:y=a\/y=c\/y=d\/y=f:=by simpa using hy
  have hw:w=a\/w=c\/w=d\/w=f:=by simpa using hw
  rcases hy with rfl | rfl | rfl | rfl<;>rcases hw with rfl | rfl | rfl | rfl<;>(first | rw[p1] | rw[p2] | rw[p3] | rw[p4])<;>exact⟨by lia,λq=>by first | rfl | lia⟩
 |_::_::_::_::_::_,_,l4=>simp at l4
theorem AV{r:List Nat}{a b:Nat}(nd:r.Nodup)(n:a≠b)(h:∀y,y∈r↔y=a\/y=b):aV r a=b:=by
 have p:r.Perm [a,b]:=(List.perm_ext_iff_of_nodup nd (by simp[n])).mpr λy=>by rw[h];simp
 have l:=p.length_eq;have ha:=(h a).mpr (.inl rfl);have w:=iZ ha;rcases(h _).mp w with z | z
 ·exfalso;have i:=List.idxOf_lt_length_of_mem ha;have e:=EG ha;have g:=lR ha;have l:r.length=2:=l;rw[z]at e;have i2:(if r.idxOf a=0 then r.length-1 else r.idxOf a-1)<r.length:=by split<;>lia
  have e2:r[r.idxOf a]=r[if r.idxOf a=0 then r.length-1 else r.idxOf a-1]:=by
   simp only[List.getD,Zz i2,Option.getD_some]at e;rw[<-e];exact List.getElem_idxOf i
  have e3:=(List.getElem_inj nd).mp e2;split at e3<;>lia
 ·exact z
end MM
namespace L2
open PySem
def spk(ls:List Int):Nat->Nat
 |0=>0
 |k+1=>spk ls k+(nq ls k+1)
theorem mI(ts:MM.aS)(n:Nat)(ls:List Int):∀k,(lTT ts n ls k).length=spk ls k
 |0=>rfl
 |k+1=>by show(lTT ts n ls k++_).length=_;rw[Zm,sI,mI ts n ls k];rfl
theorem zT(N:Nat->Int)(ls:List Int):∀k,(HH N ls k).length=spk ls k
 |0=>rfl
 |k+1=>by show(HH N ls k++_).length=_;rw[Zm,J9,zT N ls k];rfl
theorem DJ(ts:MM.aS)(n:Nat)(ls:List Int){k j:Nat}(hj:j<=nq ls k):∀K,k<K->(lTT ts n ls K)[spk ls k+j]?=some (eY ts n ls k j,eY ts n ls k (j+1))
 |0,h=>absurd h (Nat.not_lt_zero _)
 |K+1,h=>by
  show(lTT ts n ls K++tkj ts n ls K (nq ls K+1))[spk ls k+j]?=_;by_cases z:k<K
  ·have q:=DJ ts n ls hj K z;rw[Zx (Zj.mp q).1];exact q
  ·have z:k=K:=by lia
   subst z;rw[Zy (by rw[mI];lia),mI,Nat.add_sub_cancel_left];unfold tkj;rw[Zk,Yv (by lia)];rfl
theorem FL(N:Nat->Int)(ls:List Int){k j:Nat}(hj:j<=nq ls k):∀K,k<K->(HH N ls K)[spk ls k+j]?=some (hAt (N (2*k)) (qsP (at0 ls (2*k)).toNat (at0 ls (2*k+1)).toNat) j)
 |0,h=>absurd h (Nat.not_lt_zero _)
 |K+1,h=>by
  show(HH N ls K++hL _ _ _)[spk ls k+j]?=_;by_cases z:k<K
  ·have q:=FL N ls hj K z;rw[Zx (Zj.mp q).1];exact q
  ·have z:k=K:=by lia
   subst z;rw[Zy (by rw[zT];lia),zT,Nat.add_sub_cancel_left];unfold hL;have:j<(at0 ls (2*k)).toNat+(at0 ls (2*k+1)).toNat+1:=by unfold nq at hj;lia
   rw[Zk,Yv this];rfl
theorem yQ(ls:List Int){k k':Nat}(h:k<k'):spk ls k+nq ls k<spk ls k':=by
 induction k' with
 |zero=>lia
 |succ m ih =>
  show _<spk ls m+(nq ls m+1)
  by_cases z:k<m
  ·have:=ih z;lia
  ·have:k=m:=by lia
   subst this;lia
theorem D9(ls:List Int){k j k' j':Nat}(hj:j<=nq ls k)(hj':j'<=nq ls k')(h:spk ls k+j=spk ls k'+j'):k=k'/\j=j':=by
 rcases Nat.lt_trichotomy k k' with z | z | z
 ·have:=yQ ls z;lia
 ·subst z;exact⟨rfl,by lia⟩
 ·have:=yQ ls z;lia
theorem yR(ls:List Int):∀K p,p<spk ls K->∃k j,k<K/\j<=nq ls k/\p=spk ls k+j
 |0,p,h=>absurd h (Nat.not_lt_zero _)
 |K+1,p,h=>by
  have h:p<spk ls K+(nq ls K+1):=h;by_cases z:p<spk ls K
  ·obtain⟨k,j,h1,h2,h3⟩:=yR ls K p z;exact⟨k,j,by lia,h2,h3⟩
  ·exact⟨K,p-spk ls K,by lia,by lia,by lia⟩
theorem wN(n:Nat)(ls:List Int){k k':Nat}(h:k<k'):st n ls k+nq ls k<=st n ls k':=by
 induction k' with
 |zero=>lia
 |succ m ih =>
  show _<=st n ls m+nq ls m;by_cases z:k<m
  ·have:=ih z;lia
  ·have:k=m:=by lia
   subst this;lia
theorem rD(n:Nat)(ls:List Int):∀k,n<=st n ls k
 |0=>Nat.le_refl _
 |k+1=>Ys (rD n ls k) (Nat.le_add_right _ _)
theorem pY(n:Nat)(ls:List Int){k j k' j':Nat}(hj:j<nq ls k)(hj':j' < nq ls k')(h:st n ls k+j=st n ls k'+j'):k=k'/\j=j':=by
 rcases Nat.lt_trichotomy k k' with z | z | z
 ·have:=wN n ls z;lia
 ·subst z;exact⟨rfl,by lia⟩
 ·have:=wN n ls z;lia
theorem HP(n:Nat)(ls:List Int):∀K q,n<=q->q<st n ls K->∃k j,k<K/\j<nq ls k/\q=st n ls k+j
 |0,q,h,h'=>absurd (Yt h h') (Nat.lt_irrefl _)
 |K+1,q,h,h'=>by
  have h':q<st n ls K+nq ls K:=h';by_cases z:q<st n ls K
  ·obtain⟨k,j,h1,h2,h3⟩:=HP n ls K q h z;exact⟨k,j,by lia,h2,h3⟩
  ·exact⟨K,q-st n ls K,by lia,by omega,by lia⟩
def xe(ls:List Int)(e j:Nat):Nat:=if e%2=0 then 2*(spk ls (e / 2)+j) else 2*(spk ls (e / 2)+(nq ls (e / 2)-j))+1
def Lx(ls:List Int)(e:Nat):Nat:=nq ls (e / 2)
def hx(hs:List Int)(x:Nat):Int:=(at0 hs (x / 2)+2*((x%2:Nat):Int))%4
theorem M3(hs:List Int)(x:Nat):0<=hx hs x/\hx hs x<4:=⟨Xv _ (by decide),Xw _ (by decide)⟩
section
variable{ts:MM.aS}{n:Nat}{ls:List Int}{N:Nat->Int}{e j:Nat}
theorem DV(he:e<2*ts.length)(hj:j<=Lx ls e):xe ls e j<2*(lTT ts n ls ts.length).length:=by
 have h:=yQ ls (show e / 2<ts.length by lia);rw[mI];unfold xe Lx at *;split<;>lia
theorem yL(hj:j<=Lx ls e):MM.oth (xe ls e j)=xe ls (MM.oth e) (Lx ls e-j):=by
 unfold Lx at *;unfold xe MM.oth;by_cases z:e%2=0
 ·have z1:¬(e+1)%2=0:=by lia
  have z2:(e+1) / 2=e / 2:=by lia
  rw[if_pos z,if_pos z,if_neg z1,z2,if_pos (by lia)];lia
 ·have z1:(e-1)%2=0:=by lia
  have z2:(e-1) / 2=e / 2:=by omega
  rw[if_neg z,if_neg z,if_pos z1,z2,if_neg (by lia)];lia
theorem CI{e' j':Nat}(hj:j<=Lx ls e)(hj':j'<=Lx ls e')(h:xe ls e j=xe ls e' j'):e=e'/\j=j':=by
 unfold Lx at *;unfold xe at h;by_cases z:e%2=0<;>by_cases z':e' % 2=0
 ·rw[if_pos z,if_pos z']at h;have:=D9 ls hj hj' (by lia)
  lia
 ·rw[if_pos z,if_neg z']at h;lia
 ·rw[if_neg z,if_pos z']at h;lia
 ·rw[if_neg z,if_neg z']at h;obtain⟨q1,q2⟩:=D9 ls (show nq ls (e / 2)-j<=nq ls (e / 2) by lia) (show nq ls (e' / 2)-j'<=nq ls (e' / 2) by lia) (by lia);rw[<-q1]at q2 hj'
  lia
theorem pU{y:Nat}(h:y<2*(lTT ts n ls ts.length).length):∃e j,e<2*ts.length/\j<=Lx ls e/\y=xe ls e j:=by
 rw[mI]at h;obtain⟨k,j,h1,h2,h3⟩:=yR ls ts.length (y / 2) (by lia);by_cases z:y%2=0
 ·refine⟨2*k,j,by lia,?_,?_⟩
  ·unfold Lx;rw[show 2*k / 2=k by lia];exact h2
  ·unfold xe;rw[if_pos (by lia),show 2*k / 2=k by lia];lia
 ·refine⟨2*k+1,nq ls k-j,by lia,?_,?_⟩
  ·unfold Lx;rw[show(2*k+1) / 2=k by lia];lia
  ·unfold xe;rw[if_neg (by lia),show(2*k+1) / 2=k by lia];lia
theorem eS(he:e<2*ts.length)(hj:j<=Lx ls e):MM.place (lTT ts n ls ts.length) (xe ls e j)=if j=0 then MM.place ts e else if e%2=0 then st n ls (e / 2)+(j-1) else st n ls (e / 2)+(Lx ls e-j):=by
 unfold Lx at *;unfold MM.place xe;by_cases z:e%2=0
 ·have q:=DJ ts n ls hj ts.length (show e / 2<ts.length by lia);rw[if_pos z,if_pos (by lia),show 2*(spk ls (e / 2)+j) / 2=spk ls (e / 2)+j by lia,Zv,q,if_pos z,if_pos z];show eY ts n ls (e / 2) j=_;unfold eY;split
  ·rfl
  ·rw[if_neg (by lia)]
 ·have q:=DJ ts n ls (show nq ls (e / 2)-j<=nq ls (e / 2) by omega) ts.length (show e / 2<ts.length by lia);rw[if_neg z,if_neg (by lia),show(2*(spk ls (e / 2)+(nq ls (e / 2)-j))+1) / 2=spk ls (e / 2)+(nq ls (e / 2)-j) by lia,Zv,q,if_neg z,if_neg z];show eY ts n ls (e / 2) (nq ls (e / 2)-j+1)=_;unfold eY;rw[if_neg (by lia)];by_cases w:j=0
  ·rw[if_pos w,if_pos (by lia)]
  ·rw[if_neg w,if_neg (by lia)];lia
def hp(N:Nat->Int)(ls:List Int)(k j:Nat):Int:=hAt (N (2*k)) (qsP (at0 ls (2*k)).toNat (at0 ls (2*k+1)).toNat) j
theorem BK(he:e<2*ts.length)(hj:j<=Lx ls e):hx (HH N ls ts.length) (xe ls e j)=if e%2=0 then hp N ls (e / 2) j%4 else (hp N ls (e / 2) (Lx ls e-j)+2)%4:=by
 unfold Lx at *;unfold hx xe at0;by_cases z:e%2=0
 ·have q:=FL N ls hj ts.length (show e / 2<ts.length by lia);rw[if_pos z,if_pos z,show 2*(spk ls (e / 2)+j) / 2=spk ls (e / 2)+j by lia,show 2*(spk ls (e / 2)+j)%2=0 by lia,Zv,q];show(hp N ls (e / 2) j+2*0)%4=_
  lia
 ·have q:=FL N ls (show nq ls (e / 2)-j<=nq ls (e / 2) by omega) ts.length (show e / 2<ts.length by lia);rw[if_neg z,if_neg z,show(2*(spk ls (e / 2)+(nq ls (e / 2)-j))+1) / 2=spk ls (e / 2)+(nq ls (e / 2)-j) by lia,show(2*(spk ls (e / 2)+(nq ls (e / 2)-j))+1)%2=1 by lia,Zv,q];rfl
theorem pC{k j:Nat}(h:j<nq ls k):hp N ls k (j+1)=(hp N ls k j+if j<(at0 ls (2*k)).toNat then 1 else -1)%4:=by
 unfold hp;show(_+at0 (qsP _ _) j)%4=_;unfold qsP;rw[vO (by unfold nq at h;exact h)]
theorem J7{k:Nat}(b:0<=N (2*k)/\N (2*k)<4):∀j,j<=nq ls k->hp N ls k j=(N (2*k)+(if j<=(at0 ls (2*k)).toNat then (j:Int) else 2*((at0 ls (2*k)).toNat:Int)-(j:Int)))%4
 |0,_=>by show N (2*k)=_;rw[if_pos (Nat.zero_le _)];lia
 |j+1,h=>by
  rw[pC (by lia),J7 b j (by lia)];generalize (at0 ls (2*k)).toNat=a;generalize N (2*k)=q;split<;>split<;>split<;>lia
end
end L2
namespace L2
open PySem
structure pS(T:MM.aS)(hs:List Int)(m:Nat)(os:MM.bI):Prop where
 len:os.length=m
 mem:∀p,p<m->∀e,e∈MM.row os p↔e<2*T.length/\MM.place T e=p
 srt:∀p,p<m->(MM.row os p).Pairwise λa b=>hx hs a<hx hs b
theorem J6{hs:List Int}{r:List Nat}(s:r.Pairwise λa b=>hx hs a<hx hs b):r.Nodup:=s.imp λ{a b} h q=>by rw[q]at h;lia
theorem EZ{hs:List Int}{r:List Nat}(s:r.Pairwise λa b=>hx hs a<hx hs b):r.length<=4:=by
 have h:=MM.bW 4 (r.map λa=>(hx hs a).toNat) (List.Pairwise.map _ (λa b (q:hx hs a<hx hs b) z=>by
  have:=M3 hs a;have:=M3 hs b;lia) s) (λy hy=>by
  obtain⟨a,_,rfl⟩:=Zh.mp hy;have:=M3 hs a;show(hx hs a).toNat<4
  lia)
 rw[Zq]at h;exact h
structure LdI(ts:MM.aS)(os:MM.bI)(c:Nat->Int)(ls:List Int)(h:Nat->Int):Prop where
 g:MM.Good ts os
 r:Hr ts os c (at0 ls) h
 p:MM.Plc ts os c
 nn:∀e,0<=at0 ls e
theorem A0(h:Nat->Int)(e:Nat):0<=nrm h e/\nrm h e<4:=⟨Xv _ (by decide),Xw _ (by decide)⟩
section
variable{ts:MM.aS}{os os':MM.bI}{c h:Nat->Int}{ls:List Int}{e j p:Nat}
theorem LdI.hx0(I:LdI ts os c ls h)(he:e<2*ts.length):hx (HH (nrm h) ls ts.length) (xe ls e 0)=nrm h e:=by
 rw[BK he (Nat.zero_le _)];have b:=A0 h e;by_cases z:e%2=0
 ·rw[if_pos z];have:2*(e / 2)=e:=by lia
  show nrm h (2*(e / 2))%4=_;rw[this];lia
 ·rw[if_neg z,Nat.sub_zero];have e2:2*(e / 2)+1=e:=by lia
  have e3:MM.oth (2*(e / 2))=e:=by unfold MM.oth;rw[if_pos (by lia)];exact e2
  have q:=I.r.oth (e:=2*(e / 2)) (by lia);rw[e3]at q;unfold Lx;rw[J7 (A0 h _) _ (Nat.le_refl _)];have n1:=I.nn (2*(e / 2));have n2:=I.nn e;unfold nq;rw[e2];generalize at0 ls (2*(e / 2))=a at *;generalize at0 ls e=b' at *;generalize nrm h (2*(e / 2))=x at *;split<;>lia
theorem LdI.near(I:LdI ts os c ls h)(hp:p<os.length):∀y∈MM.row os p,∀w∈MM.row os p,((nrm h y-nrm h (MM.aV (MM.row os p) y)-1)%4<=(nrm h y-nrm h w-1)%4)/\(nrm h y=nrm h w->y=w):=by
 refine MM.JA (u:=λe=>c (MM.oth e)) (I.g.g.nd p) (I.g.g.four p) (A0 h) (λa ha=>I.p.lo _ (MM.b9 (I.g.g.ends p a ha).1)) (I.p.at_ p hp) λy hy=>?_;have hl:=(I.g.g.ends p y hy)
 have q:=I.r.b (MM.oth y) (MM.b9 hl.1);have e1:MM.behind ts os (MM.oth y)=MM.aV (MM.row os p) y:=by unfold MM.behind;rw[MM.fO,hl.2]
 rw[e1,MM.fO]at q;unfold nrm
 lia
theorem LdI.row0(I:LdI ts os c ls h)(O:pS (lTT ts os.length ls ts.length) (HH (nrm h) ls ts.length) (st os.length ls ts.length) os')(hp:p<os.length)(y:Nat):y∈MM.row os' p↔∃e∈MM.row os p,y=xe ls e 0:=by
 have hn:=rD os.length ls ts.length;rw[O.mem p (by lia)];constructor
 ·rintro⟨h1,h2⟩;obtain⟨e,j,he,hj,rfl⟩:=pU h1;rw[eS he hj]at h2;by_cases z:j=0
  ·subst z;rw[if_pos rfl]at h2;have q:=(I.g.g.has e he).2;rw[h2]at q;exact⟨e,q,rfl⟩
  ·rw[if_neg z]at h2;have:=rD os.length ls (e / 2);split at h2<;>lia
 ·rintro⟨e,he,rfl⟩;have q:=I.g.g.ends p e he;exact⟨DV q.1 (Nat.zero_le _),by rw[eS q.1 (Nat.zero_le _),if_pos rfl];exact q.2⟩
theorem LdI.row1(I:LdI ts os c ls h)(O:pS (lTT ts os.length ls ts.length) (HH (nrm h) ls ts.length) (st os.length ls ts.length) os'){k i:Nat}(hk:k<ts.length)(hi:i<nq ls k)(y:Nat) :
  y∈MM.row os' (st os.length ls k+i)↔y=xe ls (2*k) (i+1)\/y=xe ls (2*k+1) (nq ls k-i):=by
 have hl:=wN os.length ls hk;have e1:2*k / 2=k:=by lia
 have e2:(2*k+1) / 2=k:=by lia
 rw[O.mem _ (by lia)];constructor
 ·rintro⟨h1,h2⟩;obtain⟨e,j,he,hj,rfl⟩:=pU h1;rw[eS he hj]at h2;unfold Lx at *;by_cases z:j=0
  ·rw[if_pos z]at h2;have:=(I.g.g.has e he).1;have:=rD os.length ls k
   lia
  ·rw[if_neg z]at h2;by_cases w:e%2=0
   ·rw[if_pos w]at h2;obtain⟨q1,q2⟩:=pY os.length ls (show j-1<nq ls (e / 2) by lia) hi h2
    left
    rw[show e=2*k by lia,show j=i+1 by lia]
   ·rw[if_neg w]at h2;obtain⟨q1,q2⟩:=pY os.length ls (show nq ls (e / 2)-j<nq ls (e / 2) by lia) hi h2
    right
    rw[q1]at q2 hj;rw[show e=2*k+1 by lia,show j=nq ls k-i by lia]
 ·rintro(rfl | rfl)
  ·have hj:i+1<=Lx ls (2*k):=by unfold Lx;rw[e1];lia
   refine⟨DV (by lia) hj,?_⟩;rw[eS (by lia) hj,if_neg (by lia),if_pos (by lia),e1];lia
  ·have hj:nq ls k-i<=Lx ls (2*k+1):=by unfold Lx;rw[e2];lia
   refine⟨DV (by lia) hj,?_⟩;rw[eS (by lia) hj,if_neg (by lia),if_neg (by lia),e2];unfold Lx;rw[e2];lia
theorem LdI.good(I:LdI ts os c ls h)(O:pS (lTT ts os.length ls ts.length) (HH (nrm h) ls ts.length) (st os.length ls ts.length) os'):MM.Good (lTT ts os.length ls ts.length) os':=by
 have out:∀p,¬p<st os.length ls ts.length->MM.row os' p=[]:=λp hp=>by
  unfold MM.row;rw[Zv,Zr (by rw[O.len];lia)];rfl
 have one:=I.g.one;refine⟨⟨λp e he=>?_,λe he=>?_,λp=>?_,λp hp=>?_,λp=>?_⟩,?_⟩
 ·by_cases hp:p<st os.length ls ts.length
  ·exact(O.mem p hp e).mp he
  ·rw[out p hp]at he;cases he
 ·have q:MM.place (lTT ts os.length ls ts.length) e<st os.length ls ts.length:=by
   obtain⟨e0,j,h0,hj,rfl⟩:=pU he;rw[eS h0 hj];have:=(I.g.g.has e0 h0).1;have:=rD os.length ls ts.length;have:=wN os.length ls (show e0 / 2<ts.length by lia);unfold Lx at *;split
   ·lia
   ·split<;>lia
  exact⟨by rw[O.len];exact q,(O.mem _ q e).mpr ⟨he,rfl⟩⟩
 ·by_cases hp:p<st os.length ls ts.length
  ·exact J6 (O.srt p hp)
  ·rw[out p hp];exact List.nodup_nil
 ·rw[O.len]at hp;by_cases z:p<os.length
  ·have f:=I.g.g.full p z;cases q:MM.row os p with
   |nil=>exact absurd q f
   |cons a r =>
    have:=(I.row0 O z _).mpr ⟨a,by rw[q];exact Zd,rfl⟩;intro w;rw[w]at this;cases this
  ·obtain⟨k,i,h1,h2,rfl⟩:=HP os.length ls ts.length p (by lia) hp;have:=(I.row1 O h1 h2 _).mpr (.inl rfl);intro w;rw[w]at this;cases this
 ·by_cases hp:p<st os.length ls ts.length
  ·exact EZ (O.srt p hp)
  ·rw[out p hp];decide
 ·rw[mI];have:=yQ ls (show 0<ts.length by lia)
  lia
theorem LdI.on(I:LdI ts os c ls h)(O:pS (lTT ts os.length ls ts.length) (HH (nrm h) ls ts.length) (st os.length ls ts.length) os')(he:e<2*ts.length)(hj:j<Lx ls e):MM.behind (lTT ts os.length ls ts.length) os' (xe ls e j)=xe ls e (j+1):=by
 have lo:Lx ls (MM.oth e)=Lx ls e:=by unfold Lx;rw[MM.eU]
 have ho:=MM.b9 he;unfold MM.behind;rw[yL (by lia),eS ho (by rw[lo];lia),if_neg (by lia),MM.eU,lo];have hk:e / 2<ts.length:=by lia
 unfold Lx at *;by_cases z:e%2=0
 ·have e1:MM.oth e=2*(e / 2)+1:=by unfold MM.oth;rw[if_pos z];lia
  have e2:e=2*(e / 2):=by lia
  rw[if_neg (by rw[e1];lia),Nat.sub_sub_self (by lia)];have r:=I.row1 O hk hj;have hl:=wN os.length ls hk;refine MM.AV (J6 (O.srt _ (by lia))) (λq=>?_) λy=>?_
  ·have:=(CI (by unfold Lx;rw[MM.eU];lia) (by unfold Lx;lia) q).1;rw[e1]at this;lia
  ·rw[r,e1,<-e2];exact or_comm
 ·have e1:MM.oth e=2*(e / 2):=by unfold MM.oth;rw[if_neg z];lia
  have e2:e=2*(e / 2)+1:=by lia
  rw[if_pos (by rw[e1];lia)];have r:=I.row1 O hk (show nq ls (e / 2)-j-1<nq ls (e / 2) by omega);have hl:=wN os.length ls hk;refine MM.AV (J6 (O.srt _ (by omega))) (λq=>?_) λy=>?_
  ·have:=(CI (by unfold Lx;rw[MM.eU];lia) (by unfold Lx;lia) q).1;rw[e1]at this;lia
  ·rw[r,e1,<-e2,show nq ls (e / 2)-j-1+1=nq ls (e / 2)-j by lia,show nq ls (e / 2)-(nq ls (e / 2)-j-1)=j+1 by omega]
theorem LdI.nx(I:LdI ts os c ls h)(O:pS (lTT ts os.length ls ts.length) (HH (nrm h) ls ts.length) (st os.length ls ts.length) os')(he:e<2*ts.length):MM.behind (lTT ts os.length ls ts.length) os' (xe ls e (Lx ls e))=xe ls (MM.behind ts os e) 0:=by
 have ho:=MM.b9 he;have hb:=I.g.behind he;have hp:=(I.g.g.has _ ho)
 have hn:=rD os.length ls ts.length;unfold MM.behind;rw[yL (Nat.le_refl _),Nat.sub_self,eS ho (Nat.zero_le _),if_pos rfl];have bm:MM.aV (MM.row os (MM.place ts (MM.oth e))) (MM.oth e)∈MM.row os (MM.place ts (MM.oth e)):=MM.iZ hp.2;refine MM.IK (O.srt _ (by lia)) (λa _=>M3 _ a) ((I.row0 O hp.1 _).mpr ⟨_,hp.2,rfl⟩) ((I.row0 O hp.1 _).mpr ⟨_,bm,rfl⟩) λw hw=>?_;obtain⟨e',he',rfl⟩:=(I.row0 O hp.1 _).mp hw;rw[I.hx0 ho,I.hx0 (I.g.g.ends _ _ bm).1,I.hx0 (I.g.g.ends _ _ he').1];exact(I.near hp.1 _ hp.2 e' he').1
theorem LdI.exp(I:LdI ts os c ls h)(O:pS (lTT ts os.length ls ts.length) (HH (nrm h) ls ts.length) (st os.length ls ts.length) os') :
  MM.Exp (MM.behind ts os) (MM.behind (lTT ts os.length ls ts.length) os') (2*ts.length) (2*(lTT ts os.length ls ts.length).length) (Lx ls) (xe ls) :=
 ⟨I.g.maps,(I.good O).maps,λ_ _ he hj=>DV he hj,λ_ _ he hj=>I.on O he hj,λ_ he=>I.nx O he,λ_ _ _ _ _ hj _ hj' q=>CI hj hj' q,λ_ hy=>pU hy⟩
def cx(T:MM.aS)(hs:List Int)(os:MM.bI)(y:Nat):Int:=(hx hs (MM.oth y)-hx hs (MM.behind T os y)-1)%4+1
theorem Q4(a:Nat):∀m,MM.su (List.range m) (λj=>if j<a then (1:Int) else -1)=if m<=a then (m:Int) else 2*(a:Int)-(m:Int)
 |0=>by rw[if_pos (Nat.zero_le _)];rfl
 |m+1=>by
  rw[List.range_succ,MM.kX,Q4 a m,MM.bK,MM.iL];split<;>split<;>split<;>lia
theorem LdI.row_sum(I:LdI ts os c ls h)(O:pS (lTT ts os.length ls ts.length) (HH (nrm h) ls ts.length) (st os.length ls ts.length) os')(he:e<2*ts.length) :
  MM.su (MM.CH (Lx ls) (xe ls) e) (λy=>2-cx (lTT ts os.length ls ts.length) (HH (nrm h) ls ts.length) os' y)=MM.trm c (at0 ls) e:=by
 have ho:=MM.b9 he;have lo:Lx ls (MM.oth e)=Lx ls e:=by unfold Lx;rw[MM.eU]
 have hk:e / 2<ts.length:=by lia
 have n1:=I.nn e;have n2:=I.nn (MM.oth e);have hL:Lx ls e=(at0 ls e).toNat+(at0 ls (MM.oth e)).toNat:=by
  unfold Lx nq MM.oth;by_cases z:e%2=0
  ·rw[if_pos z,show 2*(e / 2)=e by lia]
  ·rw[if_neg z,show 2*(e / 2)=e-1 by lia,show e-1+1=e by lia];lia
 have last:2-cx (lTT ts os.length ls ts.length) (HH (nrm h) ls ts.length) os' (xe ls e (Lx ls e))=2-c e:=by
  unfold cx;rw[I.nx O he,yL (Nat.le_refl _),Nat.sub_self,I.hx0 ho,I.hx0 (I.g.behind he).1];have q:=I.r.beh he;have:=I.p.lo e he;have:=I.p.hi e he;have:=A0 h (MM.oth e)
  lia
 have inn:∀j,j<Lx ls e->2-cx (lTT ts os.length ls ts.length) (HH (nrm h) ls ts.length) os' (xe ls e j)=if j<(at0 ls e).toNat then 1 else -1:=λj hj=>by
  unfold cx;rw[I.on O he hj,yL (by lia),BK ho (by rw[lo];lia),BK he (by lia),MM.eU,lo];by_cases z:e%2=0
  ·have z2:¬MM.oth e%2=0:=by rw[MM.oU];lia
   have q:=pC (N:=nrm h) (ls:=ls) (k:=e / 2) (show j<nq ls (e / 2) from hj);rw[show 2*(e / 2)=e by lia]at q;rw[if_neg z2,if_pos z,Nat.sub_sub_self (by lia),q];generalize hp (nrm h) ls (e / 2) j=x;split<;>lia
  ·have z2:MM.oth e%2=0:=by rw[MM.oU];lia
   have q:=pC (N:=nrm h) (ls:=ls) (k:=e / 2) (show Lx ls e-(j+1)<nq ls (e / 2) by unfold Lx at *;omega);have e1:MM.oth e=2*(e / 2):=by unfold MM.oth;rw[if_neg z];lia
   rw[<-e1,show Lx ls e-(j+1)+1=Lx ls e-j by lia]at q;rw[if_pos z2,if_neg z,q];generalize hp (nrm h) ls (e / 2) (Lx ls e-(j+1))=x;rw[hL]at hj ⊢;generalize at0 ls e=a at *;generalize at0 ls (MM.oth e)=b at *;split<;>split<;>lia
 unfold MM.CH;rw[MM.CO,List.range_succ,MM.kX,MM.bK,MM.iL,last,MM.eT (λj hj=>inn j (Zs.mp hj)),Q4,hL];unfold MM.trm;generalize at0 ls e=a at *;generalize at0 ls (MM.oth e)=b at *;split<;>lia
theorem LdI.sums{o:Nat}(I:LdI ts os c ls h)(O:pS (lTT ts os.length ls ts.length) (HH (nrm h) ls ts.length) (st os.length ls ts.length) os')(S:MM.Shp ts os o c (at0 ls))(ho:o<(MM.lls ts os).length) :
  (∀d∈MM.lls (lTT ts os.length ls ts.length) os',MM.su d (λy=>2-cx (lTT ts os.length ls ts.length) (HH (nrm h) ls ts.length) os' y)=4\/MM.su d (λy=>2-cx (lTT ts os.length ls ts.length) (HH (nrm h) ls ts.length) os' y) = -4) /\
  ∃d∈MM.lls (lTT ts os.length ls ts.length) os',MM.su d (λy=>2-cx (lTT ts os.length ls ts.length) (HH (nrm h) ls ts.length) os' y) = -4:=by
 obtain⟨h1,h2⟩:=(I.exp O).sums (w:=MM.trm c (at0 ls)) (w':=λy=>2-cx (lTT ts os.length ls ts.length) (HH (nrm h) ls ts.length) os' y) λe he=>I.row_sum O he;constructor
 ·intro d hd;obtain⟨d0,h3,h4⟩:=h1 d hd;obtain⟨k,hk,q⟩:=Yg.mp h3;have:=S.ld k d0 (by rw[Zz hk,q]);rw[h4,this];split
  ·exact .inr rfl
  ·exact .inl rfl
 ·obtain⟨d,h3,h4⟩:=h2 (MM.lls ts os)[o] (Zp ho);refine⟨d,h3,?_⟩;rw[h4,S.ld o _ (Zz ho),if_pos rfl]
end
end L2
namespace AW
open MM
def cT(ts:aS):Ts:=ts.map λt=>((t.1:Int),(t.2:Int))
theorem DQ(ts:aS):(cT ts).length=ts.length:=Zq _
theorem RI{ts:aS}{e:Nat}(h:e<2*ts.length):plc (cT ts) e=(place ts e:Int):=by
 have hi:e / 2<ts.length:=by lia
 unfold plc place cT;rw[Zk,Zz hi,Zv,Zz hi];simp only[Option.map_some,Option.getD_some];split<;>rfl
end AW
namespace L2
open PySem
def iS(T:MM.aS)(p:Nat):List Nat:=(List.range (2*T.length)).filter λe=>decide (MM.place T e=p)
theorem fP{T:MM.aS}{p e:Nat}:e∈iS T p↔e<2*T.length/\MM.place T e=p:=by
 unfold iS;rw[Yz,Zs,decide_eq_true_iff]
theorem KM(T:MM.aS)(p:Nat):AW.endsAt (AW.cT T) (p:Int)=(iS T p).map λn:Nat=>(n:Int):=by
 unfold AW.endsAt AW.all2 iS;rw[List.filter_map,AW.DQ];congr 1;refine List.filter_congr λe he=>?_;show(AW.plc (AW.cT T) ((e:Int)).toNat==(p:Int))=_;rw[Int.toNat_natCast,AW.RI (Zs.mp he)];by_cases z:MM.place T e=p
 ·rw[z];simp
 ·rw[decide_eq_false z];exact beq_false_of_ne λq=>z (by lia)
def hle(hs:List Int)(a b:Nat):Bool:=decide (hx hs a<=hx hs b)
def dQ(T:MM.aS)(hs:List Int)(m:Nat):MM.bI:=(List.range m).map λp=>(iS T p).mergeSort (hle hs)
def Dst(T:MM.aS)(hs:List Int):Prop:=∀a b,a<2*T.length->b<2*T.length->MM.place T a=MM.place T b->hx hs a=hx hs b->a=b
theorem iX(hs:List Int)(l:List Nat):(l.mergeSort (hle hs)).Perm l:=List.mergeSort_perm l _
theorem CQ(hs:List Int)(l:List Nat):(l.mergeSort (hle hs)).Pairwise λa b=>hx hs a<=hx hs b:=by
 have:=List.pairwise_mergeSort (le:=hle hs) (λa b c h1 h2=>by
  unfold hle at *;simp only[decide_eq_true_eq]at *
  lia) (λa b=>by
  unfold hle;simp only[Bool.or_eq_true,decide_eq_true_eq]
  lia) l
 exact this.imp λh=>of_decide_eq_true h
theorem tP{T:MM.aS}{hs:List Int}{m p:Nat}(hp:p<m):MM.row (dQ T hs m) p=(iS T p).mergeSort (hle hs):=by
 unfold MM.row dQ;rw[Zv,Zk,Yv hp];rfl
theorem EM{T:MM.aS}{hs:List Int}{m:Nat}(D:Dst T hs):pS T hs m (dQ T hs m):=by
 refine⟨by unfold dQ;rw[Zq,Yj],λp hp e=>?_,λp hp=>?_⟩
 ·rw[tP hp,(iX hs _).mem_iff];exact fP
 ·rw[tP hp];have nd:((iS T p).mergeSort (hle hs)).Nodup:=(iX hs _).nodup_iff.mpr (List.nodup_range.filter _);refine((CQ hs (iS T p)).and nd).imp_of_mem λ{a b} ha hb h=>?_;have ha:=fP.mp ((iX hs _).mem_iff.mp ha);have hb:=fP.mp ((iX hs _).mem_iff.mp hb);rcases Int.lt_or_eq_of_le h.1 with z | z
  ·exact z
  ·exact absurd (D a b ha.1 hb.1 (ha.2.trans hb.2.symm) z) h.2
theorem tY{R:Nat->Nat->Prop}:∀{l1 l2:List Nat},l1.Perm l2->l1.Pairwise R->l2.Pairwise R->(∀a∈l1,∀b∈l1,R a b->R b a->a=b)->l1=l2
 |[],l2,p,_,_,_=>by rw[List.nil_perm.mp p]
 |a::r,[],p,_,_,_=>by have:=p.length_eq;simp at this
 |a::r,b::q,p,s1,s2,h=>by
  have e:a=b:=by
   have ha:a∈b::q:=p.mem_iff.mp Zd;have hb:b∈a::r:=p.mem_iff.mpr Zd;rcases Zn.mp ha with z | z
   ·exact z
   ·rcases Zn.mp hb with w | w
    ·exact w.symm
    ·exact h a Zd b hb ((List.pairwise_cons.mp s1).1 b w) ((List.pairwise_cons.mp s2).1 a z)
  subst e;rw[tY (List.perm_cons a |>.mp p) (List.pairwise_cons.mp s1).2 (List.pairwise_cons.mp s2).2 λx hx y hy=>h x (Zw _ hx) y (Zw _ hy)]
theorem HQ{T:MM.aS}{hs:List Int}{p:Nat}(D:Dst T hs){g:Int->Int}(hg:∀e∈iS T p,g (e:Int)=hx hs e){ns:List Int}(h1:ns.Perm ((iS T p).map λn:Nat=>(n:Int)))(h2:ns.Pairwise λx y=>g x<=g y) :
  ns=((iS T p).mergeSort (hle hs)).map λn:Nat=>(n:Int):=by
 have e0:ns=(ns.map Int.toNat).map λn:Nat=>(n:Int):=by
  rw[Yb];refine(List.map_id ns).symm.trans (Yn λx hx=>?_);obtain⟨k,_,rfl⟩:=Zh.mp (h1.mem_iff.mp hx);simp
 have pm:(ns.map Int.toNat).Perm (iS T p):=by
  have:=h1.map Int.toNat;rw[Yb,show(Int.toNat∘λn:Nat=>(n:Int))=id from funext λn=>by simp,List.map_id]at this;exact this
 rw[e0];congr 1;refine tY (R:=λa b=>hx hs a<=hx hs b) (pm.trans (iX hs _).symm) ?_ (CQ hs _) λa ha b hb q1 q2=>?_
 ·rw[e0,List.pairwise_map]at h2;refine h2.imp_of_mem λ{a b} ha hb h=>?_;rw[hg a (pm.mem_iff.mp ha),hg b (pm.mem_iff.mp hb)]at h;exact h
 ·have ha:=fP.mp (pm.mem_iff.mp ha);have hb:=fP.mp (pm.mem_iff.mp hb);exact D a b ha.1 hb.1 (ha.2.trans hb.2.symm) (by lia)
theorem TC{h:Nat->Int}{ls:List Int}{k:Nat}:∀{j:Nat},0<=hp (nrm h) ls k j/\hp (nrm h) ls k j<4
 |0=>A0 h _
 |j+1=>⟨Xv _ (by decide),Xw _ (by decide)⟩
theorem TR{h:Nat->Int}{ls:List Int}{K i:Nat}(hi:i<(HH (nrm h) ls K).length):0<=at0 (HH (nrm h) ls K) i/\at0 (HH (nrm h) ls K) i<4:=by
 rw[zT]at hi;obtain⟨k,j,h1,h2,rfl⟩:=yR ls K i hi;unfold at0;rw[Zv,FL (nrm h) ls h2 K h1];exact TC
section
variable{ts:MM.aS}{os:MM.bI}{c h:Nat->Int}{ls:List Int}
theorem LdI.dst(I:LdI ts os c ls h):Dst (lTT ts os.length ls ts.length) (HH (nrm h) ls ts.length):=λa b ha hb hpl hh=>by
 obtain⟨e,j,he,hj,rfl⟩:=pU ha;obtain⟨e',j',he',hj',rfl⟩:=pU hb;rw[eS he hj,eS he' hj']at hpl;have p1:=(I.g.g.has e he).1;have p2:=(I.g.g.has e' he').1;have s1:=rD os.length ls (e / 2);have s2:=rD os.length ls (e' / 2);by_cases z:j=0<;>by_cases z':j'=0
 ·subst z;subst z';rw[if_pos rfl,if_pos rfl]at hpl;rw[I.hx0 he,I.hx0 he']at hh;have q:=(I.g.g.has e' he').2;rw[<-hpl]at q;rw[(I.near p1 e (I.g.g.has e he).2 e' q).2 hh]
 ·rw[if_pos z,if_neg z']at hpl;split at hpl<;>lia
 ·rw[if_neg z,if_pos z']at hpl;split at hpl<;>lia
 ·rw[if_neg z,if_neg z']at hpl;rw[BK he hj,BK he' hj']at hh;unfold Lx at *;by_cases w:e%2=0<;>by_cases w':e' % 2=0
  ·rw[if_pos w,if_pos w']at hpl;obtain⟨q1,q2⟩:=pY os.length ls (show j-1<nq ls (e / 2) by lia) (show j' - 1<nq ls (e' / 2) by lia) hpl;rw[show e=e' by lia,show j=j' by lia]
  ·exfalso;rw[if_pos w,if_neg w']at hpl hh;obtain⟨q1,q2⟩:=pY os.length ls (show j-1<nq ls (e / 2) by lia) (show nq ls (e' / 2)-j' < nq ls (e' / 2) by lia) hpl;rw[<-q1]at hh q2;rw[<-q2]at hh;have s:=pC (N:=nrm h) (ls:=ls) (k:=e / 2) (j:=j-1) (by lia);rw[show j-1+1=j by lia]at s;rw[s]at hh;generalize hp (nrm h) ls (e / 2) (j-1)=x at hh;split at hh<;>lia
  ·exfalso;rw[if_neg w,if_pos w']at hpl hh;obtain⟨q1,q2⟩:=pY os.length ls (show nq ls (e / 2)-j<nq ls (e / 2) by lia) (show j' - 1<nq ls (e' / 2) by lia) hpl;rw[q1]at hh q2;rw[q2]at hh;have s:=pC (N:=nrm h) (ls:=ls) (k:=e' / 2) (j:=j' - 1) (by lia);rw[show j' - 1+1=j' by lia]at s;rw[s]at hh;generalize hp (nrm h) ls (e' / 2) (j' - 1)=x at hh;split at hh<;>lia
  ·rw[if_neg w,if_neg w']at hpl;obtain⟨q1,q2⟩:=pY os.length ls (show nq ls (e / 2)-j<nq ls (e / 2) by lia) (show nq ls (e' / 2)-j' < nq ls (e' / 2) by lia) hpl;rw[q1]at q2 hj;rw[show e=e' by lia,show j=j' by lia]
end
end L2
namespace L2
open PySem PySem.Spec PyProof.Rows
theorem Tb.upd{tp:Addr}{pos:Pos}{qual:Str}{H:Hp}{D:Addr}{xs ys:List V}(h:Tb tp pos qual H)(hD:H D=some (.lst xs)):Tb tp pos qual (upd H D (.lst ys)):=by
 obtain⟨ps,h1,h2,h3⟩:=h;refine⟨ps,?_,h2,h3.imp id λ⟨c,e1,e2⟩=>⟨c,e1,?_⟩⟩
 ·rw[aH (lN h1 hD (by intro z;cases z))];exact h1
 ·rw[aH (lN e2 hD (by intro z;cases z))];exact e2
theorem cD.fresh{H H':Hp}(g:cD H H'){x:Addr}(hx:H x=none)(o:HO):cD H (upd H' x o):=λb u h=>by rw[aH (aN h hx)];exact g b u h
theorem iI.st{H H' H2:Hp}{r:Addr}{rr:List Addr}{ls:List (List V)}(n:iI H H' r rr ls)(g:cD H' H2):iI H H2 r rr ls :=
 ⟨g.l n.at_,n.len,λi l h=>let⟨x,h1,h2⟩:=n.row i l h;⟨x,h1,g.l h2⟩,n.nd,n.nin,n.new,n.news⟩
theorem DP{J:It}{js:List (Option Nat)}{σ:St}{H1:Hp}{R:Hp->Prop}{D tp:Addr}{pos:Pos}{qual:Str}{g:TG}{te:TE}(n:Nat)(fs:Nat->List V)(hD:H1 D=none)(hn:n<=100000)(hT:Tb tp pos qual H1)
  (go:∀i H',i<n->cD H1 H'->J.go i H') (stop:∀H',cD H1 H'->J.stop n H')
  (hs:∀i H' x H'' (k:V->Hp->Prop),i<n->cD H1 H'->Tb tp pos qual H'->J.yld i H' x H''->(∀a H4,H' a=none->cD H' H4->Tb tp pos qual H4->H4 a=some (.lst (fs i))->k (.ref a) H4)->g x (inner js σ) H'' λσ2 H2=>Fills (inner js σ) σ2/\te σ2 H2 k)
  (hd:∀(rr:List Addr) H',iI H1 H' D rr ((List.range n).map fs)->cD H1 H'->Tb tp pos qual H'->R H') :
  ∃W:Nat->Nat->List V->Hp->Prop,(∃m,W 0 m [] (L2.upd H1 D (.lst []))) /\
   ∀i m ys H,W i m ys H->(J.stop i H/\R H)\/(J.go i H/\∃N:List V->Hp->Prop,(∀ys' H',N ys' H'->∃m',m' < m/\W (i+1) m' ys' H')/\∀x H',J.yld i H x H'->g x (inner js σ) H' λσ2 H2=>Fills (inner js σ) σ2/\rB σ2 H2 λb H3 =>
    if b=true then te σ2 H3 λy H4=>H4 D=some (.lst ys)/\ys.length<ZW/\N (ys++[y]) (L2.upd H4 D (.lst (ys++[y]))) else N ys H3):=by
 refine comp_map n (λi ys H'=>∃rr:List Addr,ys=rr.map V.ref/\iI H1 H' D rr ((List.range i).map fs)/\cD H1 H'/\Tb tp pos qual H') ⟨[],rfl,⟨aB,rfl,λi l h=>by simp at h,List.nodup_nil,by simp,hD,by simp⟩,(aG hD _).st,hT.same (aG hD _)⟩ ?_ ?_
 ·rintro i ys H' hi ⟨rr,rfl,w,g1,t1⟩;have hl:rr.length=i:=by rw[w.len];simp
  refine⟨go i H' hi g1,λx H'' hy=>hs i H' x H'' _ hi g1 t1 hy λa H4 ha g4 t4 e4=>⟨g4.l w.at_,?_,rr++[a],?_,?_,?_,t4.upd (g4.l w.at_)⟩⟩
  ·rw[Zq,hl];exact YQ hi (Ys hn (by decide))
  ·rw[Zt];rfl
  ·have aD:a≠D:=λz=>by rw[z,w.at_]at ha;cases ha
   have ain:a∉rr:=λz=>by
    obtain⟨j,hj,e⟩:=Yg.mp z;have hj':j<((List.range i).map fs).length:=w.len▸hj;obtain⟨y,h1,h2⟩:=w.row j _ (Zz hj');rw[Zz hj,e]at h1;cases h1;rw[ha]at h2;cases h2
   refine⟨by rw[Zt];exact aB,by simp[hl],λj l h=>?_,?_,?_,hD,?_⟩
   ·by_cases hj:j<i
    ·have e:((List.range (i+1)).map fs)[j]?=((List.range i).map fs)[j]?:=by simp[hj,Xq hj]
     rw[e]at h;obtain⟨y,h1,h2⟩:=w.row j l h;have yD:y≠D:=λz=>w.nin (z▸Zg h1);exact⟨y,by rw[Zx (by lia)];exact h1,by rw[aH yD];exact g4.l h2⟩
    ·have hj2:j=i:=by
      have:=(Zj.mp h).1;simp at this;lia
     subst hj2;have e:l=fs j:=by simpa using h.symm
     subst e;exact⟨a,by rw[<-hl,Yy],by rw[aH aD];exact e4⟩
   ·rw[List.nodup_append];refine⟨w.nd,by simp,λb hb c hc z=>?_⟩;have e:c=a:=by simpa using hc
    subst e;subst z;exact ain hb
   ·intro z;rcases Zf.mp z with z | z
    ·exact w.nin z
    ·exact aD (Zb.mp z).symm
   ·intro y hy;rcases Zf.mp hy with z | z
    ·exact w.news y z
    ·rw[Zb.mp z];exact g1.free ha
  ·exact(g1.trans g4).fresh hD _
 ·rintro ys H' ⟨rr,rfl,w,g1,t1⟩;exact⟨stop H' g1,hd rr H' w g1 t1⟩
end L2
namespace K36
open PySem L2 PyProof.Rows
def LX(K:PySem.W.Frag):Sp:=λvs H Q _=>∃(ha:Addr) (hs:List Int) (e:Nat),vs=[.ref ha,vn e]/\SqL K H ha (hs.map V.int)/\e / 2<hs.length/\(∀i,i<hs.length->0<=at0 hs i/\at0 hs i<4)/\Q (.int (hx hs e)) H
theorem t6(T:Txt K mg t):cU P w K mg base CX0 2 t.m7 t.mZ ["heads","end"] (LX K):=by
 refine T.dZ.F.ok kZ (λvs H Q E h=>?_) (λcdv A outer s H vs Q E hr h=>?_)
 ·obtain⟨_,_,_,rfl,_⟩:=h;rfl
 obtain⟨ha,hs,e,rfl,hS,he,hb,q⟩:=h;have nd:=kZ.nd;refine⟨_,(aF (aU 2 nd (aL aR (pv 0) (aJ dG (pv 1) aC) (λ_ _=>rfl)))
  (aK (bE (IV (bF lK (aJ bG (pv 1) aC) aC (bO _)) (pv 2) (bH (PN T) hr T.uS aX (aA (pv 2) aE)))))),?_⟩
 have b:=hb _ he;refine(bS _ rfl _ rfl _ _ rfl (iC rfl ⟨by decide,by decide⟩ ha _ _ _ rfl ⟨ rfl,hS,a8 he (by lia),?_⟩));refine(bT _ rfl _ _ rfl rfl (by show(0:Int)<2;decide) ⟨ rfl,_,rfl,uJ (λz=>?_) (λz=>?_)⟩)
 ·have z:V.int ((e:Int)%2)=V.int 0:=of_decide_eq_true z;have z:(e:Int)%2=0:=V.int.inj z;have e1:hx hs e=at0 hs (e / 2):=by unfold hx;lia
  rw[e1]at q;exact⟨_,rfl,q⟩
 ·have z:¬(e:Int)%2=0:=λy=>z (decide_eq_true (by show V.int ((e:Int)%2)=V.int 0;rw[y]));have e1:hx hs e=(at0 hs (e / 2)+2)%4:=by unfold hx;lia
  rw[e1]at q;exact⟨_,rfl,_,rfl,q⟩
def SQ:Sp:=λvs H Q _=>∃a b:Int,vs=[.int a,.int b]/\Q (.int ((a-b-1)%4+1)) H
theorem RM(T:Txt K mg t):cU P w K mg base CX0 1 t.j4 t.jX ["head","onward"] SQ:=by
 refine T.jV.F.ok oJ (λvs H Q E h=>?_) (λcdv A outer s H vs Q E hr h=>?_)
 ·obtain⟨a,b,rfl,_⟩:=h;rfl
 obtain⟨a,b,rfl,q⟩:=h;refine⟨_,(aK (bE (aJ bD (aJ bG (aJ cH (aJ cH (pv 0) (pv 1)) aC) (EJ (v:=.int 4) rfl T.cZ ⟨_,rfl⟩)) aC))),?_⟩;exact(bS _ rfl _ rfl _ _ rfl (iW rfl _ _ rfl rfl (aY _ _ rfl rfl (by show(0:Int)<4;decide) ⟨ _,_,rfl,rfl,q⟩)))
abbrev wD:Pos:=⟨53,31,53,68⟩
abbrev NU:Str:="map_of"++".<locals>."++"<lambda>"
abbrev TB(tp:Addr)(H:Hp):Prop:=Tb tp wD NU H
abbrev BT(base:Heap)(mg:Str->Option Value)(t:Adr):Prop:=PySem.W.CodeHd base t.cA t.tp/\base.BuiltinsAt mg t.tp
def pT(H:Hp)(m:Addr)(n:Nat)(T:MM.aS)(hs:List Int)(ta ha:Addr):Prop:=H m=some (.tup [vn n,.ref ta,.ref ha])/\kK H ta T/\H ha=some (.lst (hs.map V.int))
structure LdP(n:Nat)(T:MM.aS)(hs:List Int):Prop where
 hl:hs.length=T.length
 hb:∀i,i<hs.length->0<=at0 hs i/\at0 hs i<4
 pl:∀e,e<2*T.length->MM.place T e<n
 ds:Dst T hs
 n1:n<=45000
 t1:T.length<=45000
 g:MM.Good T (dQ T hs n)
theorem QQ{H H':Hp}(g:cD H H'){a:Addr}{ts:MM.aS}(h:kK H a ts):kK H' a ts:=by
 obtain⟨tr,h1,h2,h3⟩:=h;exact⟨tr,g.l h1,h2,λi x hx=>let⟨r,q1,q2⟩:=h3 i x hx;⟨r,q1,g.t q2⟩⟩
theorem RK{H H':Hp}(g:cD H H'){a:Addr}{os:MM.bI}(h:qZ H a os):qZ H' a os:=by
 obtain⟨tr,h1,h2,h3⟩:=h;exact⟨tr,g.l h1,h2,λi x hx=>let⟨r,q1,q2⟩:=h3 i x hx;⟨r,q1,g.l q2⟩⟩
theorem pT.st{H H':Hp}(g:cD H H'){m ta ha:Addr}{n:Nat}{T:MM.aS}{hs:List Int}(h:pT H m n T hs ta ha):pT H' m n T hs ta ha:=⟨g.t h.1,QQ g h.2.1,g.l h.2.2⟩
theorem SD{H:Hp}{a:Addr}{T:MM.aS}(h:kK H a T):TsI H a (AW.cT T):=by
 obtain⟨tr,h1,h2,h3⟩:=h;refine⟨tr,h1,by rw[AW.DQ];exact h2,λi x hx=>?_⟩;unfold AW.cT at hx;rw[Zk]at hx;obtain⟨y,hy,rfl⟩:=Xk.mp hx;exact h3 i y hy
theorem S7{T:MM.aS}{n:Nat}(h:∀e,e<2*T.length->MM.place T e<n):AW.InW n (AW.cT T):=λx hx=>by
 obtain⟨y,hy,rfl⟩:=Zh.mp hx;obtain⟨k,hk,rfl⟩:=Yg.mp hy;have q1:=h (2*k) (by lia);have q2:=h (2*k+1) (by lia);unfold MM.place at q1 q2;rw[if_pos (by lia),show 2*k / 2=k by lia,Zv,Zz hk]at q1;rw[if_neg (by lia),show(2*k+1) / 2=k by lia,Zv,Zz hk]at q2;have q1:T[k].1<n:=q1;have q2:T[k].2<n:=q2;exact⟨⟨Int.natCast_nonneg _,by show(T[k].1:Int)<n;lia⟩,Int.natCast_nonneg _,by show(T[k].2:Int)<n;lia⟩
theorem M5{n:Nat}{T:MM.aS}{hs:List Int}(L:LdP n T hs){p:Nat}(hp:p<n):(iS T p).length<=4:=by
 have:=EZ ((EM L.ds).srt p hp);rw[tP hp,(iX hs _).length_eq]at this;exact this
def LU(tp:Addr):Sp:=λvs H Q _=>∃(m:Addr) (n:Nat) (T:MM.aS) (hs:List Int) (ta ha:Addr),vs=[.ref m]/\pT H m n T hs ta ha/\LdP n T hs/\TB tp H /\
 ∀(r ra oA:Addr) (rr:List Addr) (H':Hp),cD H H'->TB tp H'->H r=none->H ra=none->H' r=some (.tup [vn n,.ref ra,.ref oA])->kK H' ra T->iI H H' oA rr ((dQ T hs n).map vns)->Q (.ref r) H'
theorem t5(T:Txt K mg t)(B:BT base mg t):cU P w K mg base CX0 6 t.vT t.u9 ["laid"] (LU t.tp):=by
 refine T.FC.ok wQ (λvs H Q E h=>?_) (λA outer s H vs Q E hr h=>?_)
 ·obtain⟨_,_,_,_,_,_,rfl,_⟩:=h;rfl
 obtain⟨m,n,TT,hs,ta,ha,rfl,hL,L,tb,q⟩:=h;have nd:=wQ.nd;have nd_ends_laid:(["ends","laid"]:List Str).Nodup:=by decide
 refine' ⟨_,?hp,?hq⟩
 case hp =>
  refine' aF (aU 1 nd (bH (PR T) hr T.jW aX (aA (aL aZ (pv 0) aC (λ_ _=>rfl)) (aA (aL aZ (pv 0) aC (λ_ _=>rfl)) aE)))) ?r1
  case r1 =>
   refine' aF ?b ?c
   case b =>
    refine' dD (i:=2) nd rfl (Or.inl rfl) (N':=["ends","laid"]) (js:=[none,some 0]) rfl (cK (pv 1)) (λ_ _ _ _ _=>(aQ (i:=0) nd_ends_laid rfl (Or.inl rfl))) (λ_ _ _ _ _=>dE) (λ_ _ _ _ _=>?el)
    case el =>
     exact C2 (K:=K) (k:=2) (cA:=t.cA) (tp:=t.tp) (N':=["laid"]) (js:=[some 1]) (x:="end") (qual:=NU) rfl hr rfl rfl B.1 B.2 ⟨rfl,rfl,rfl,by decide,λy hy hk=>by
       have e:y.1="laid":=by revert y;decide
       rw[e];exact .inl rfl,rfl,rfl,λ_ _ _ _ _=>rfl⟩ rfl T.kR (aA (pv 0) aE)
      (λ_ _ _ _ hr'=>EK (t6 T) (hr'.mono (by decide)) rfl T.dZ.m T.dZ.k T.dZ.b .nil aX (aA (aL (gU (K:=K) rfl) (pv 1) aC (λ_ _=>rfl)) (aA (pv 0) aE)))
   case c =>
    exact aK (bE (b8 (aA (aL aZ (pv 0) aC (λ_ _=>rfl)) (aA (dP fU rfl T.m9 boot_list (aA (aL aZ (pv 0) aC (λ_ _=>rfl)) aE)) (aA (pv 2) aE)))))
 case hq =>
  refine(aI _ rfl m _ _ _ rfl (bU rfl (SqT.of hL.1) rfl _ rfl (aO m _ _ _ rfl rfl (SqT.of hL.1) (jO rfl n ta (AW.cT TT) rfl (SD hL.2.1) (S7 L.pl) ⟨ L.n1,by rw[AW.DQ];exact L.t1,λr1 H1 g1 ⟨tr,o1,o2,o3⟩=>?_⟩))));have hL1:=hL.st g1.st;refine(dI _ rfl r1 rfl ⟨_,SqL.of o1⟩ (λD hD=>?_));have trl:tr.length=n:=by rw[o2,Zq,Yj]
  refine DP n (λp=>vns ((iS TT p).mergeSort (hle hs))) hD (Ys L.n1 (by decide)) (tb.same g1) (λi H' hi g2=>⟨_,_,SqL.of (g2.l o1),Zz (by rw[Zq,trl];exact hi)⟩) (λH' g2=>⟨_,SqL.of (g2.l o1),by rw[Zq,trl];exact Nat.le_refl _⟩) ?_ ?_
  ·rintro i H' x H'' k hi g2 t2 ⟨rfl,hY⟩ hk;have ex:=hY _ (SqL.of (g2.l o1));obtain⟨rw_,q1,q2⟩:=o3 i _ (by rw[Zk,Yv hi];rfl);rw[Zk,q1]at ex;cases ex;have q2:H1 rw_=some (.lst (((iS TT i).map λn:Nat=>(n:Int)).map V.int)):=by rw[<-KM];exact q2
   have f4:=M5 L hi;refine⟨(Fills.refl _).set _ rfl,(fI _ rfl t2 rw_ _ (λn=>hx hs n.toNat) rfl ⟨ SqL.of (g2.l q2),by rw[Zq];lia,λH2 g3 t3=>⟨λe he=>?_,λd ns' hd p1 p2=>?_⟩⟩)⟩
   ·obtain⟨e',he',rfl⟩:=Zh.mp he;have he':=(fP.mp he').1;have hl:=L.hl;exact(aI _ rfl m _ _ _ rfl (bU rfl (SqT.of (g3.t (g2.t hL1.1))) rfl _ rfl (bB ha hs e' rfl (SqL.of (g3.l (g2.l hL1.2.2))) (by lia) L.hb ⟨ rfl,by show V.int (hx hs e')=V.int (hx hs (e':Int).toNat);rw[Int.toNat_natCast]⟩)))
   ·have e:=HQ L.ds (λx _=>by show hx hs (x:Int).toNat=_;rw[Int.toNat_natCast]) p1 p2;refine hk d _ (g3.free hd) (g3.fresh (g3.free hd) _) (t3.same (aG hd _)) ?_;rw[aB,e,Yb];rfl
  ·intro rr H2 w2 g2 t2;have hL2:=hL1.st g2;obtain⟨tt,z1,z2,z3⟩:=id hL2.2.1;refine(aI _ rfl m _ _ _ rfl (bU rfl (SqT.of hL2.1) rfl _ rfl (aO m _ _ _ rfl rfl (SqT.of hL2.1) (iW rfl ta _ rfl (.inl (SqL.of z1)) (λra hra=>?_)))));refine⟨_,rfl,(by show 3<=ZW;decide),λr hr'=>?_⟩;have s1:=aG hra (.lst (tt.map V.ref));have s2:=aG hr' (.tup [vn n,.ref ra,.ref D]);have s3:=s1.trans s2;have f1:∀{x:Addr},H2 x=none->H x=none:=λh=>g1.free (g2.free h);refine q r ra D rr _ ((g1.st.trans g2).trans s3.st) (t2.same s3) (f1 (s1.free hr')) (f1 hra) aB ⟨tt,s2 _ _ aB,z2,λi x hx=>let⟨y,y1,y2⟩:=z3 i x hx;⟨y,y1,s3 _ _ y2⟩⟩ ?_;have e:(dQ TT hs n).map vns=(List.range n).map λp=>vns ((iS TT p).mergeSort (hle hs)):=by unfold dQ;rw[Yb];rfl
   rw[e];have w3:=w2.keep s3;exact⟨w3.at_,w3.len,w3.row,w3.nd,w3.nin,g1.free w3.new,λx hx=>g1.free (w3.news x hx)⟩
theorem sP{H H':Hp}{oA:Addr}{rr:List Addr}{os:MM.bI}(n:iI H H' oA rr (os.map vns)):qZ H' oA os :=
 ⟨rr,n.at_,by rw[n.len,Zq],λi l h=>n.row i _ (by rw[Zk,h];rfl)⟩
noncomputable def cL(n:Nat)(T:MM.aS)(hs:List Int):List Int:=(List.range (2*T.length)).map (cx T hs (dQ T hs n))
theorem zO(n:Nat)(T:MM.aS)(hs:List Int):(cL n T hs).length=2*T.length:=by unfold cL;rw[Zq,Yj]
theorem K3{n:Nat}{T:MM.aS}{hs:List Int}{e:Nat}(h:e<2*T.length):at0 (cL n T hs) e=cx T hs (dQ T hs n) e:=by
 unfold at0 cL;rw[Zv,Zk,Yv h];rfl
def RB(tp:Addr):Sp:=λvs H Q _=>∃(m:Addr) (n:Nat) (T:MM.aS) (hs:List Int) (ta ha:Addr),vs=[.ref m]/\pT H m n T hs ta ha/\LdP n T hs/\TB tp H /\
 ∀(r:Addr) (H':Hp),cD H H'->TB tp H'->H r=none->H' r=some (.lst ((cL n T hs).map V.int))->Q (.ref r) H'
theorem JO(T:Txt K mg t)(B:BT base mg t):cU P w K mg base CX0 7 t.pR t.pK ["laid"] (RB t.tp):=by
 have lU:=t5 (P:=P) (w:=w) (base:=base) T B;refine T.kJ.F.ok mV (λvs H Q E h=>?_) (λcdv A outer s H vs Q E hr h=>?_)
 ·obtain⟨_,_,_,_,_,_,rfl,_⟩:=h;rfl
 obtain⟨m,n,TT,hs,ta,ha,rfl,hL,L,tb,q⟩:=h;have nd:=mV.nd;refine⟨_,(aF (aU 1 nd (bH lU hr T.uT aX (aA (pv 0) aE)))
  (aF (aU 2 nd (bZ aE))
  (aF (cR PassesOwn.never rfl (bP rfl T.bV (aA (aJ cS aC (a7 a4 rfl T.eA PySem.boot_len (aA (aL aZ (pv 0) aC (λ_ _=>rfl)) aE))) aE)) (aQ (i:=3) nd rfl (Or.inl rfl)) (aF (aU 4 nd (bH (t6 T) hr T.dZ aX (aA (aL aZ (pv 0) aC (λ_ _=>rfl)) (aA (bH (oV T) hr T.iF aX (aA (pv 3) aE)) aE))))
  (aK (bM (fN mAp bA (pv 2) (aA (bH (RM T) hr T.jV aX (aA (pv 4) (aA (bH (t6 T) hr T.dZ aX (aA (aL aZ (pv 0) aC (λ_ _=>rfl)) (aA (bH (qN T) hr T.pG aX (aA (pv 1) (aA (pv 3) aE))) aE))) aE))) aE))))))
  (aK (bE (pv 2)))))),?_⟩
 refine⟨_,rfl,(cN m n TT hs ta ha rfl ⟨ hL,L,tb,λwa ra oA rr H1 g1 t1 _ _ e1 e2 w1=>?_⟩)⟩;have W:iH H1 wa n TT (dQ TT hs n):=⟨ra,oA,e1,e2,sP w1⟩
 have hL1:=hL.st g1;refine⟨(by show 0<=ZW;decide),λD hD=>?_⟩;have s1:=aG hD (.lst []);obtain⟨tr,z1,z2,z3⟩:=id hL1.2.1;have hl:=L.hl;have b1:=L.t1;have eN:(2:Int)*((tr.map V.ref).length:Nat)=((2*TT.length:Nat):Int):=by rw[Zq,z2];push_cast;rfl
 refine(aI _ rfl m _ _ (.ref ta) rfl (bC rfl (SqT.of (s1 _ _ hL1.1)) rfl ta _ rfl (.inl (SqL.of (s1 _ _ z1))) (hV _ _ rfl rfl (.inl ⟨by decide,by decide⟩) _ rfl ⟨ ?_,?_,?_⟩)))
 ·show -(2 ^ 62)<=(2:Int)*((tr.map V.ref).length:Nat);lia
 ·show(2:Int)*((tr.map V.ref).length:Nat)<2 ^ 62;rw[eN];lia
 have eN2:((2:Int)*((tr.map V.ref).length:Nat)).toNat=2*TT.length:=by rw[eN];exact Int.toNat_natCast _
 rw[eN2];refine cI (n:=2*TT.length) (λi σ H'=>∃o3 o4,σ=[some (.ref m),some (.ref wa),some (.ref D),o3,o4]/\H'=upd H1 D (.lst (((cL n TT hs).take i).map V.int))) ⟨_,_,rfl,rfl⟩ ?_ ?_
 ·rintro i σ H' hi ⟨o3,o4,rfl,rfl⟩;have s2:=aG hD (.lst (((cL n TT hs).take i).map V.int));have hL2:=hL1.st s2.st;have W2:=s2.web W;have lo:=MM.b9 hi;have hb:=L.g.behind hi;have len:((cL n TT hs).take i).length=i:=by rw[Yx,zO];lia
  refine(aI _ rfl m _ _ (.ref ha) rfl (n9 rfl (SqT.of hL2.1) rfl _ rfl i (by show[V.int (0+(i:Int))]=[vn i];rw[Int.zero_add]) (bB _ hs (MM.oth i) rfl (SqL.of hL2.2.2) (by lia) L.hb ?_)));refine(c9 _ rfl (.inl ⟨rfl,_,SqL.of aB⟩) _ rfl _ rfl (aO m _ _ (.ref ha) rfl rfl (SqT.of hL2.1) (eF rfl _ rfl _ rfl (cV wa n TT _ i (by show[V.ref wa,V.int (0+(i:Int))]=[V.ref wa,vn i];rw[Int.zero_add]) W2 (G7 L.g hi _ hs _ rfl (SqL.of hL2.2.2) (N8 (by lia) L.hb _ _ rfl (bB D _ _ rfl rfl aB ?_ ?_)))))))
  ·rw[Zq,len];exact Yt (show i<=90000 by lia) (by decide)
  ·refine⟨_,_,rfl,?_⟩;rw[fJ];congr 2;have e3:(cL n TT hs).take (i+1)=(cL n TT hs).take i++[cx TT hs (dQ TT hs n) i]:=by
    rw[List.take_add_one];unfold cL;rw[Zk,Yv hi];rfl
   rw[e3,Zt];rfl
 ·rintro σ H' ⟨o3,o4,rfl,rfl⟩;refine⟨_,rfl,q D _ (g1.fresh (g1.free hD) _) (t1.same (aG hD _)) (g1.free hD) ?_⟩;rw[aB,List.take_of_length_le (by rw[zO];exact Nat.le_refl _)]
def OS:Sp:=λvs H Q _=>∃(da ca la:Addr) (d:List Nat) (cs ls:List Int),vs=[.ref da,.ref ca,.ref la]/\H da=some (.lst (vns d))/\H ca=some (.lst (cs.map V.int))/\H la=some (.lst (ls.map V.int))/\(∀x∈d,x<cs.length/\x<ls.length/\MM.oth x<ls.length)/\d.length<=90000/\∀H',aW H H'->Q (.int (MM.su d (MM.trm (at0 cs) (at0 ls)))) H'
theorem DE(T:Txt K mg t):cU P w K mg base CX0 2 t.vU t.vA ["land","corners","lefts"] OS:=by
 refine T.uU.F.ok AM (λvs H Q E h=>?_) (λcdv A outer s H vs Q E hr h=>?_)
 ·obtain⟨da,ca,la,d,cs,ls,rfl,_⟩:=h;rfl
 obtain⟨da,ca,la,d,cs,ls,rfl,hd,hc,hl,hb,h1000,q⟩:=h;have nd_end_lefts_corners:(["end","lefts","corners"]:List Str).Nodup:=by decide
 refine⟨_,(aK (bE (a7 (mM rfl) rfl T.DU boot_sum (aA (dF (N':=["end","lefts","corners"]) (js:=[none,some 2,some 1]) rfl (cK (pv 0)) (λ_ _ _ _ _=>(aQ (i:=0) nd_end_lefts_corners rfl (Or.inl rfl))) (λ_ _ _ _ _=>dE) (λ_ _ _ _ _=>(aJ cH (aJ bD (aJ cH aC (aL (cP (K:=K) rfl) (pv 2) (pv 0) (λ_ _=>rfl))) (aL (cP (K:=K) rfl) (pv 1) (pv 0) (λ_ _=>rfl))) (aL (cP (K:=K) rfl) (pv 1) (bH (oV T) hr T.iF aX (aA (pv 0) aE)) (λ_ _=>rfl))))) aE)))),?_⟩;refine(dI _ rfl da rfl ⟨_,SqL.of hd⟩ (λD hD=>?_));refine c7 d.length (λi=>.int (MM.trm (at0 cs) (at0 ls) (d.getD i 0))) hD (by lia) (λi H' hi g'=>⟨_,_,SqL.of (g' _ _ hd),lY hi⟩) (λH' g'=>⟨_,SqL.of (g' _ _ hd),by rw[Zq];exact Nat.le_refl _⟩) ?_ ?_
 ·rintro i H' x H'' k hi g' ⟨rfl,hx⟩ hk;have ex:=hx _ (SqL.of (g' _ _ hd));rw[lY hi]at ex;cases ex;obtain⟨b1,b2,b3⟩:=hb _ (getD_mem hi);exact(eF ((Fills.refl _).set _ rfl) _ rfl _ rfl (aO ca _ _ _ rfl rfl (SqL.of (g' _ _ hc)) (iB (a8 b1 rfl) _ _ rfl rfl _ rfl (aI _ rfl la _ _ _ rfl (bC rfl (SqL.of (g' _ _ hl)) (a8 b2 rfl) _ _ rfl rfl (cQ _ rfl _ rfl (d.getD i 0) rfl (aO la _ _ _ rfl rfl (SqL.of (g' _ _ hl)) (iW (a8 b3 rfl) _ _ rfl rfl (hk _ (aW.refl _))))))))))
 intro H2 g2 eD;rw[sJ d (λe=>V.int (MM.trm (at0 cs) (at0 ls) e)),show d.map (λe=>V.int (MM.trm (at0 cs) (at0 ls) e))=(d.map (MM.trm (at0 cs) (at0 ls))).map V.int by rw[Yb];rfl]at eD;exact⟨D,_,rfl,SqL.of eD,q H2 g2⟩
noncomputable def sL(n:Nat)(T:MM.aS)(hs:List Int):List Int:=(MM.lls T (dQ T hs n)).map λd=>MM.su d λy=>2-cx T hs (dQ T hs n) y
theorem xO{T:MM.aS}{os:MM.bI}(g:MM.Good T os):(MM.lls T os).length<=2*T.length:=by
 have:=MM.uD g.maps _ (List.range (2*T.length)) (Nat.le_refl _) (λ_ h=>Zs.mp h);rw[Yj]at this;exact this
theorem BD{T:MM.aS}{os:MM.bI}(g:MM.Good T os){d:List Nat}(hd:d∈MM.lls T os):d.length<=2*T.length/\∀x∈d,x<2*T.length:=by
 obtain⟨y,hy,rfl⟩:=MM.kH g.maps _ (List.range (2*T.length)) (Nat.le_refl _) (λ_ h=>Zs.mp h) d hd;exact⟨(MM.BC g.maps (Zs.mp hy)).2,MM.eO g.maps (Zs.mp hy)⟩
def LW(tp:Addr):Sp:=λvs H Q _=>∃(m:Addr) (n:Nat) (T:MM.aS) (hs:List Int) (ta ha:Addr),vs=[.ref m]/\pT H m n T hs ta ha/\LdP n T hs/\TB tp H /\
 ∀(r:Addr) (H':Hp),cD H H'->TB tp H'->H r=none->H' r=some (.lst ((sL n T hs).map V.int))->Q (.ref r) H'
theorem JJ(T:Txt K mg t)(B:BT base mg t):cU P w K mg base CX0 8 t.rY t.rR ["laid"] (LW t.tp):=by
 have lU:=t5 (P:=P) (w:=w) (base:=base) T B;have kL:=JO (P:=P) (w:=w) (base:=base) T B;refine T.rN.F.ok oK (λvs H Q E h=>?_) (λcdv A outer s H vs Q E hr h=>?_)
 ·obtain⟨_,_,_,_,_,_,rfl,_⟩:=h;rfl
 obtain⟨m,n,TT,hs,ta,ha,rfl,hL,L,tb,q⟩:=h;have nd:=oK.nd;have nd_land_corners_lefts:(["land","corners","lefts"]:List Str).Nodup:=by decide
 have nd_corner:(["corner"]:List Str).Nodup:=by decide
 refine⟨_,(aF (aU 1 nd (bH kL hr T.kJ aX (aA (pv 0) aE)))
  (aF (aU 2 nd (dF (N':=["corner"]) (js:=[none]) rfl (cK (pv 1)) (λ_ _ _ _ _=>(aQ (i:=0) nd_corner rfl (Or.inl rfl))) (λ_ _ _ _ _=>dE) (λ_ _ _ _ _=>aC)))
  (aK (bE (dF (N':=["land","corners","lefts"]) (js:=[none,some 1,some 2]) rfl (cK (bH (JN T) hr T.E2 aX (aA (bH lU hr T.uT aX (aA (pv 0) aE)) aE))) (λ_ _ _ _ _=>(aQ (i:=0) nd_land_corners_lefts rfl (Or.inl rfl))) (λ_ _ _ _ _=>dE) (λ_ _ _ _ _=>(bH (DE T) hr T.uU aX (aA (pv 0) (aA (pv 1) (aA (pv 2) aE)))))))))),?_⟩
 have b1:=L.t1;refine⟨_,rfl,(cN m n TT hs ta ha rfl ⟨ hL,L,tb,λcr H1 g1 t1 n1 e1=>?_⟩)⟩;have cl:=zO n TT hs;refine(dI _ rfl cr rfl ⟨_,SqL.of e1⟩ (λD hD=>?_));refine c7 (2*TT.length) (λ_=>.int 0) hD (by lia) (λi H' hi g'=>⟨_,_,SqL.of (g' _ _ e1),Zz (by rw[Zq,cl];exact hi)⟩) (λH' g'=>⟨_,SqL.of (g' _ _ e1),by rw[Zq,cl];exact Nat.le_refl _⟩) (λi H' x H'' k hi g' hY hk=>?_) ?_
 ·obtain⟨rfl,_⟩:=hY;exact⟨(Fills.refl _).set _ rfl,hk _ (aW.refl _)⟩
 intro H2 g2 eD;rw[LZ]at eD;have hL2:=(hL.st g1).st g2.st;refine⟨_,rfl,(cN m n TT hs ta ha rfl ⟨ hL2,L,t1.same g2,λwa ra oA rr H3 g3 t3 _ _ f1 f2 w3=>?_⟩)⟩;refine(aO wa n TT _ rfl ⟨ra,oA,f1,f2,sP w3⟩ L.g ⟨ L.t1,λlr lrr H4 g4 nl=>?_⟩);refine⟨lr,rfl,⟨_,SqL.of nl.at_⟩,λD2 hD2=>?_⟩;have e4:=g4 _ _ (g3.l (g2 _ _ e1));have eD4:=g4 _ _ (g3.l eD);have fl:=xO L.g;have ll:(lrr.map V.ref).length=(MM.lls TT (dQ TT hs n)).length:=by rw[Zq];exact nl.len
 have gA:cD H H4:=((g1.trans g2.st).trans g3).trans g4.st;refine c7 (MM.lls TT (dQ TT hs n)).length (λi=>.int ((sL n TT hs).getD i 0)) hD2 (by lia) (λi H' hi g'=>⟨_,_,SqL.of (g' _ _ nl.at_),Zz (by rw[ll];exact hi)⟩) (λH' g'=>⟨_,SqL.of (g' _ _ nl.at_),by rw[ll];exact Nat.le_refl _⟩) (λi H' x H'' k hi g' hY hk=>?_) ?_
 ·obtain⟨rfl,hY⟩:=hY;have ex:=hY _ (SqL.of (g' _ _ nl.at_));obtain⟨la,q1,q2⟩:=nl.row i _ (Zz hi);rw[Zk,q1]at ex;cases ex;have lf:=BD L.g (Zp hi);refine(jP ((Fills.refl _).set _ rfl) _ rfl _ rfl _ rfl (cN la cr D _ _ _ rfl (jL (g' _ _ q2) (g' _ _ e4) (g' _ _ eD4) (λx hx=>?_) (by lia) (λH5 g5=>?_))))
  ·have:=lf.2 x hx;have:=MM.b9 this;rw[cl,List.length_replicate];exact⟨‹_›,‹_›,‹_›⟩
  ·have e:MM.su (MM.lls TT (dQ TT hs n))[i] (MM.trm (at0 (cL n TT hs)) (at0 (List.replicate (2*TT.length) 0)))=(sL n TT hs).getD i 0:=by
    unfold sL;rw[Zv,Zk,Zz hi];show _=MM.su _ _;refine MM.eT λx hx=>?_;have h1:=lf.2 x hx;unfold MM.trm;rw[K3 h1,FH h1,FH (MM.b9 h1)]
    lia
   rw[e];exact hk _ g5
 ·intro H5 g5 e5;refine q D2 H5 (gA.trans g5.st) ((t3.same g4).same g5) (gA.free hD2) ?_;rw[e5];congr 2;have e6:(MM.lls TT (dQ TT hs n)).length=(sL n TT hs).length:=by unfold sL;rw[Zq]
  rw[e6];refine Yp λi=>?_;rw[Zk,Zk];by_cases h:i<(sL n TT hs).length
  ·rw[Yv h,Zz h];simp[List.getD,h]
  ·rw[Zr (by simpa using h),Zr (by simpa using h)];rfl
def FV(tp:Addr):Sp:=λvs H Q _=>∃(m:Addr) (n:Nat) (T:MM.aS) (hs:List Int) (ta ha:Addr),vs=[.ref m]/\pT H m n T hs ta ha/\LdP n T hs/\TB tp H/\(∀x∈sL n T hs,x=4\/x = -4)/\(-4)∈sL n T hs /\
 ∀H':Hp,cD H H'->TB tp H'->Q (vn ((sL n T hs).idxOf (-4))) H'
theorem C8(T:Txt K mg t)(B:BT base mg t):cU P w K mg base CX0 9 t.vR t.u6 ["laid"] (FV t.tp):=by
 have CG:=JJ (P:=P) (w:=w) (base:=base) T B;refine T.uR.F.ok rE (λvs H Q E h=>?_) (λcdv A outer s H vs Q E hr h=>?_)
 ·obtain⟨_,_,_,_,_,_,rfl,_⟩:=h;rfl
 obtain⟨m,n,TT,hs,ta,ha,rfl,hL,L,tb,h4,hm,q⟩:=h;have nd:=rE.nd;refine⟨_,(aF (aU 1 nd (bH CG hr T.rN aX (aA (pv 0) aE)))
  (aK (bE (lH PySem.F.plainAttrs_list PySem.F.slot_list_index PySem.F.type_list_index qO (pv 1) (aA (a7 (GV rfl) rfl T.NM boot_min (aA (pv 1) aE)) aE))))),?_⟩
 refine⟨_,rfl,(cN m n TT hs ta ha rfl ⟨ hL,L,tb,λr H1 g1 t1 n1 e1=>?_⟩)⟩;refine(eQ _ rfl (.inl ⟨rfl,_,SqL.of e1⟩) _ rfl (aY r _ rfl (SqL.of e1) (List.length_pos_of_mem hm) (λx hx hle=>?_)));have e:x = -4:=by
  have a1:=hle _ hm;rcases h4 x hx with z | z
  ·lia
  ·exact z
 subst e;exact(bB r _ _ rfl rfl e1 hm (q H1 g1 t1))
end K36
namespace L2
open PySem PySem.Spec PyProof.Rows
section
variable{X:Cx}{K:PySem.W.Frag}
theorem BE(h:X.K=K){tg l:Expr}{tl:TE}(hl:PE X l tl):PI X tg l (NV K tl):=by subst h;exact cK hl
theorem wF(h:X.K=K):iK X (.builtin "sorted") (λxs H Q=>∃(p:Addr) (ps:List Addr) (kf:Addr->List Int),xs=[.ref p]/\SqL K H p (ps.map V.ref)/\(∀q∈ps,kf q≠[]/\SqT K H q ((kf q).map V.int))/\ps.length<64 /\
  ∀(l:Addr) (ps':List Addr),H l=none->ps'.Perm ps->(ps'.Pairwise λa b=>SO.lx (kf b) (kf a)=false)->Q (.ref l) (upd H l (.lst (ps'.map V.ref)))):=by subst h;exact pL
end
end L2
namespace K36
open PySem L2 PyProof.Rows
theorem P0{a b c d:Int}(h:SO.lx [a,b] [c,d]=false):c<=a:=by
 unfold SO.lx at h;split at h
 ·lia
 ·have:=of_decide_eq_false h;lia
structure TpE(H H':Hp)(hs:List Int)(qs:List Addr):Prop where
 at_:∀e q,qs[e]?=some q->H' q=some (.tup [.int (hx hs e),vn e])
 nd:qs.Nodup
def enB(T:MM.aS)(p i:Nat):List Nat:=(List.range i).filter λe=>decide (MM.place T e=p)
theorem KN(T:MM.aS)(p i:Nat):enB T p (i+1)=if MM.place T i=p then enB T p i++[i] else enB T p i:=by
 unfold enB;rw[List.range_succ,List.filter_append];by_cases z:MM.place T i=p
 ·rw[if_pos z];simp[z]
 ·rw[if_neg z];simp[z]
theorem QD{T:MM.aS}{p i e:Nat}(h:e∈enB T p i):e<i:=Zs.mp (Yz.mp h).1
def ON:Sp:=λvs H Q _=>∃(m:Addr) (n:Nat) (T:MM.aS) (hs:List Int) (ta ha:Addr),vs=[.ref m]/\pT H m n T hs ta ha/\LdP n T hs /\
 ∀(oA:Addr) (rr:List Addr) (H':Hp),aW H H'->iI H H' oA rr ((dQ T hs n).map vns)->Q (.ref oA) H'
theorem DC(T:Txt K mg t):cU P w K mg base CX0 3 t.vY t.vE ["_law_laid_here"] ON:=by
 refine T.uY.F.ok rJ (λvs H Q E h=>?_) (λcdv A outer s H vs Q E hr h=>?_)
 ·obtain⟨_,_,_,_,_,_,rfl,_⟩:=h;rfl
 obtain⟨m,n,TT,hs,ta,ha,rfl,hL,L,q⟩:=h;have nd:=rJ.nd;have nd_l_row:(["_law_row"]:List Str).Nodup:=by decide
 have nd_l_head_l_end:(["_law_head","_law_end"]:List Str).Nodup:=by decide
 have nd_l_place_here:(["_law_place_here"]:List Str).Nodup:=by decide
 refine⟨_,(aF (dD (i:=1) nd rfl (Or.inl rfl)  (N':=["_law_place_here"]) (js:=[none]) rfl (bP rfl T.bV (aA (aL aZ (pv 0) aC (λ_ _=>rfl)) aE)) (λ_ _ _ _ _=>(aQ (i:=0) nd_l_place_here rfl (Or.inl rfl))) (λ_ _ _ _ _=>dE) (λ_ _ _ _ _=>(bZ aE)))
  (aF (cR PassesOwn.never rfl (bP rfl T.bV (aA (aJ cS aC (a7 a4 rfl T.eA PySem.boot_len (aA (aL aZ (pv 0) aC (λ_ _=>rfl)) aE))) aE)) (aQ (i:=2) nd rfl (Or.inl rfl)) (aK (bM (fN mAp bA (aL aR (pv 1) (bH (qM T) hr T.mJ aX (aA (aL aZ (pv 0) aC (λ_ _=>rfl)) (aA (pv 2) aE))) (λ_ _=>rfl)) (aA (b8 (aA (aJ bG (aJ bD (aL aR (aL aZ (pv 0) aC (λ_ _=>rfl)) (aJ dG (pv 2) aC) (λ_ _=>rfl)) (aJ cS aC (aJ bG (pv 2) aC))) aC) (aA (pv 2) aE))) aE)))))
  (aK (bE (dF (N':=["_law_row"]) (js:=[none]) rfl (cK (pv 1)) (λ_ _ _ _ _=>(aQ (i:=0) nd_l_row rfl (Or.inl rfl))) (λ_ _ _ _ _=>dE) (λ_ _ _ _ _=>(dF (N':=["_law_head","_law_end"]) (js:=[none,none]) rfl (BE (K:=K) rfl (a7 (wF (K:=K) rfl) rfl T.kR boot_sorted (aA (pv 0) aE))) (λ_ _ _ _ _=>(EV (K:=K) (n:=2) rfl rfl (bY (aQ (i:=0) nd_l_head_l_end rfl (Or.inl rfl)) (bY (aQ (i:=1) nd_l_head_l_end rfl (Or.inl rfl)) gN)))) (λ_ _ _ _ _=>dE) (λ_ _ _ _ _=>(pv 1))))))))),?_⟩
 have hl:=L.hl;have b0:=L.n1;have b1:=L.t1;refine(aI _ rfl m _ _ _ rfl (G9 rfl (SqT.of hL.1) rfl (n:Int) rfl (by lia) (by lia) (λD hD=>?_)));refine qV n (λ_=>[]) hD (by lia) (λi H' hi g2=>?_) (λH' g2=>?_) ?_ ?_
 ·show i<((n:Int)-0).toNat;lia
 ·show((n:Int)-0).toNat<=n;lia
 ·rintro i H' x H'' k hi g2 hy hk;obtain⟨e,y⟩:=hy;subst e;exact⟨(Fills.refl _).set _ rfl,(by show 0<=ZW;decide),λl hl'=>hk l _ hl' (aG hl' _) aB⟩
 intro rr H1 w1 g1;obtain⟨tr,z1,z2,z3⟩:=id hL.2.1;have eN:(2:Int)*((tr.map V.ref).length:Nat)=((2*TT.length:Nat):Int):=by rw[Zq,z2];push_cast;rfl
 refine(aI _ rfl m _ _ (.ref ta) rfl (bC rfl (SqT.of (g1 _ _ hL.1)) rfl ta _ rfl (.inl (SqL.of (g1 _ _ z1))) (hV _ _ rfl rfl (.inl ⟨by decide,by decide⟩) _ rfl ⟨ ?_,?_,?_⟩)))
 ·show -(2 ^ 62)<=(2:Int)*((tr.map V.ref).length:Nat);lia
 ·show(2:Int)*((tr.map V.ref).length:Nat)<2 ^ 62;rw[eN];lia
 have eN2:((2:Int)*((tr.map V.ref).length:Nat)).toNat=2*TT.length:=by rw[eN];exact Int.toNat_natCast _
 rw[eN2];refine cI (n:=2*TT.length) (λi σ H'=>∃(qs:List Addr) (o2:Option V),σ=[some (.ref m),some (.ref D),o2]/\qs.length=i/\TpE H H' hs qs/\iI H H' D rr ((List.range n).map λp=>(enB TT p i).map λe=>V.ref (qs.getD e 0))/\aW H H') (bR ([]) _ rfl rfl ⟨λe q h=>by simp at h,List.nodup_nil⟩ w1 g1) ?_ ?_
 ·rintro i σ H' hi ⟨qs,o2,rfl,ql,tp,w2,g2⟩;have hp:=L.pl i hi;have hL2:=hL.st g2.st;obtain⟨x1,a1,c1,d1,f1⟩:=w2.item hp;refine⟨_,rfl,(aI _ rfl m _ _ (.ref ta) rfl (bU rfl (SqT.of hL2.1) rfl _ rfl (iQ ta TT i (by show[V.ref ta,V.int (0+(i:Int))]=[V.ref ta,vn i];rw[Int.zero_add]) hL2.2.1 hi (aO D _ _ _ rfl rfl (SqL.of w2.at_) ⟨ f1,.inl ⟨rfl,_,SqL.of c1⟩,?_⟩))))⟩;refine(aI _ rfl m _ _ (.ref ha) rfl (bU rfl (SqT.of hL2.1) rfl _ rfl (aY _ _ rfl rfl ⟨by decide,by decide⟩ (aO ha _ _ _ rfl rfl (SqL.of hL2.2.2) (sW (a8 (j:=i / 2) (by lia) (by lia)) _ rfl _ _ rfl rfl (gK (by show(0:Int)<2;decide) _ _ rfl rfl (.inl ⟨by decide,by decide⟩) (hU _ _ rfl rfl _ _ rfl (N9 rfl (by show(0:Int)<4;decide) _ rfl (by show 2<=ZW;decide) (λq hq=>?_)))))))));have e0:HO.tup [V.int ((at0 hs (i / 2)+2*((0+(i:Int))%2))%4),V.int (0+(i:Int))]=.tup [.int (hx hs i),vn i]:=by
   unfold hx;rw[Int.zero_add];rfl
  rw[e0];have s1:=aG hq (.tup [.int (hx hs i),vn i]);have nq:q≠x1:=aN c1 hq |>.symm;have sm:∀p,(enB TT p i).length<=90000:=λp=>by
   have:(enB TT p i).length<=(List.range i).length:=List.length_filter_le ..;rw[Yj]at this;lia
  refine(bB x1 _ _ rfl rfl (s1 _ _ c1) (by rw[Zq];exact Yt (sm _) (by decide)) (bR (qs++[q]) _ rfl (by simp[ql]) ⟨λe x h=>?_,?_⟩ ?_ ((g2.trans s1).fresh d1 _)))
  ·rcases Xj e qs.length with z | z
   ·rw[Zx z]at h;have:=s1 _ _ (tp.at_ e x h);rw[aH (lN this (s1 _ _ c1) (by intro z;cases z))];exact this
   ·have hlt:=(Zj.mp h).1;have:e=qs.length:=by simp at hlt;lia
    subst this;rw[Yy]at h;cases h;rw[aH nq,aB,ql]
  ·rw[List.nodup_append];refine⟨tp.nd,by simp,λa ha b hb z=>?_⟩;have e:b=q:=by simpa using hb
   subst e;subst z;obtain⟨j,hj,e⟩:=Yg.mp ha;have:=tp.at_ j a (by rw[Zz hj,e]);rw[hq]at this;cases this
  ·have w3:=(w2.keep s1).put a1 ((enB TT (MM.place TT i) i).map (λe=>V.ref (qs.getD e 0))++[V.ref q]);have e:(λj=>if j=MM.place TT i then (enB TT (MM.place TT i) i).map (λe=>V.ref (qs.getD e 0))++[V.ref q] else (enB TT j i).map λe=>V.ref (qs.getD e 0))=λp=>(enB TT p (i+1)).map λe=>V.ref ((qs++[q]).getD e 0):=by
    funext p
    have old:(enB TT p i).map (λe=>V.ref ((qs++[q]).getD e 0))=(enB TT p i).map λe=>V.ref (qs.getD e 0):=Yn λe he=>by
     have:=QD he;rw[Zv,Zx (by lia),<-Zv]
    rw[KN];by_cases z:MM.place TT i=p
    ·subst z;rw[if_pos rfl,if_pos rfl,Zt,old];congr 1;show _=[V.ref ((qs++[q]).getD i 0)]
     rw[Zv,<-ql,Yy];rfl
    ·rw[if_neg (Ne.symm z),if_neg z,old]
   rw[<-e];exact w3
 ·rintro σ H2 ⟨qs,o2,rfl,ql,tp,w2,g2⟩;have idx:∀e,e<2*TT.length->qs.idxOf (qs.getD e 0)=e:=λe he=>by
   have h:e<qs.length:=by lia
   rw[Zv,Zz h];exact tp.nd.idxOf_getElem e h
  have tup:∀e,e<2*TT.length->H2 (qs.getD e 0)=some (.tup [.int (hx hs e),vn e]):=λe he=>by
   have h:e<qs.length:=by lia
   refine tp.at_ e _ ?_;rw[Zv,Zz h];rfl
  refine(dI _ rfl D rfl ⟨_,SqL.of w2.at_⟩ (λD2 hD2=>?_));have rl:(rr.map V.ref).length=n:=by rw[Zq,w2.len,Zq,Yj]
  refine qV n (λp=>vns ((iS TT p).mergeSort (hle hs))) hD2 (by lia) (λi H' hi g'=>⟨_,_,SqL.of (g' _ _ w2.at_),Zz (by rw[rl];exact hi)⟩) (λH' g'=>⟨_,SqL.of (g' _ _ w2.at_),by rw[rl];exact Nat.le_refl _⟩) ?_ ?_
  ·rintro i H' x H'' k hi g' ⟨rfl,hY⟩ hk;have ex:=hY _ (SqL.of (g' _ _ w2.at_));obtain⟨x1,a1,c1,d1,_⟩:=w2.item hi;rw[Zk,a1]at ex;cases ex;have f4:=M5 L hi;have el:∀e∈iS TT i,e<2*TT.length:=λe he=>(fP.mp he).1;have c1:H'' x1=some (.lst (((iS TT i).map λe=>qs.getD e 0).map V.ref)):=by rw[Yb];exact g' _ _ c1
   refine(sV ((Fills.refl _).set _ rfl) _ rfl x1 ((iS TT i).map (λe=>qs.getD e 0)) (λa=>[hx hs (qs.idxOf a),(qs.idxOf a:Int)]) rfl ⟨ SqL.of c1,λa ha=>⟨by simp,?_⟩,by rw[Zq];lia,λl ps' hl' p1 p2=>?_⟩)
   ·obtain⟨e,he,rfl⟩:=Zh.mp ha;show SqT K H'' (qs.getD e 0) ([hx hs (qs.idxOf (qs.getD e 0)),(qs.idxOf (qs.getD e 0):Int)].map V.int);rw[idx e (el e he)];exact SqT.of (g' _ _ (tup e (el e he)))
   ·have em:(ps'.map qs.idxOf).Perm (iS TT i):=by
     have:=p1.map qs.idxOf;rw[Yb,Yn (f:=qs.idxOf∘λe=>qs.getD e 0) (g:=id) (λe he=>idx e (el e he)),List.map_id]at this;exact this
    have es:ps'.map qs.idxOf=(iS TT i).mergeSort (hle hs):=by
     refine tY (R:=λa b=>hx hs a<=hx hs b) (em.trans (iX hs _).symm) ?_ (CQ hs _) λa ha b hb q1 q2=>?_
     ·rw[List.pairwise_map];exact p2.imp λh=>P0 h
     ·have ha:=fP.mp (em.mem_iff.mp ha);have hb:=fP.mp (em.mem_iff.mp hb);exact L.ds a b ha.1 hb.1 (ha.2.trans hb.2.symm) (by lia)
    have s3:=aG hl' (.lst (ps'.map V.ref));have pl:ps'.length=(iS TT i).length:=by rw[p1.length_eq,Zq]
    refine⟨l,rfl,⟨_,SqL.of aB⟩,λD3 hD3=>?_⟩;refine c7 ps'.length (λj=>vn ((ps'.map qs.idxOf).getD j 0)) hD3 (by lia) (λj H5 hj g5=>⟨_,_,SqL.of (g5 _ _ aB),Zz (by rw[Zq];exact hj)⟩) (λH5 g5=>⟨_,SqL.of (g5 _ _ aB),by rw[Zq];exact Nat.le_refl _⟩) ?_ ?_
    ·rintro j H5 y H6 k2 hj g5 ⟨rfl,hZ⟩ hk2;have ey:=hZ _ (SqL.of (g5 _ _ aB));rw[Zk,Zz hj]at ey;cases ey;have hm:=p1.mem_iff.mp (Zp hj);obtain⟨e,he,e2⟩:=Zh.mp hm;have tq:=g5 _ _ (s3 _ _ (g' _ _ (tup e (el e he))));rw[e2]at tq;have ev:(ps'.map qs.idxOf).getD j 0=e:=by
      rw[Zv,Zk,Zz hj,<-e2];exact idx e (el e he)
     rw[ev]at hk2;exact(aY _ _ rfl (SqT.of tq) rfl (hG _ _ rfl _ _ rfl rfl ⟨ ((Fills.refl _).set _ rfl).set _ rfl,_,rfl,hk2 _ (aW.refl _)⟩))
    ·intro H5 g5 e5;refine hk D3 H5 (s3.free hD3) (s3.trans g5) ?_;rw[e5,<-es];congr 2;refine Yp λj=>?_;rw[Zk,Zk];by_cases h:j<ps'.length
     ·have h':j<(ps'.map qs.idxOf).length:=by rw[Zq];exact h
      rw[Yv h,Zz h'];show some (vn ((ps'.map qs.idxOf).getD j 0))=some (vn (ps'.map qs.idxOf)[j]);rw[Zv,Zz h'];rfl
     ·rw[Zr (by simpa using h),Zr (by simpa using h)];rfl
  ·intro rr2 H3 w3 g3;refine q D2 rr2 H3 (g2.trans g3) ?_;have e:(dQ TT hs n).map vns=(List.range n).map λp=>vns ((iS TT p).mergeSort (hle hs)):=by unfold dQ;rw[Yb];rfl
   rw[e];exact⟨w3.at_,w3.len,w3.row,w3.nd,w3.nin,g2.free w3.new,λx hx=>g2.free (w3.news x hx)⟩
def OU:Sp:=λvs H Q _=>∃(m oA:Addr) (n:Nat) (T:MM.aS) (hs:List Int) (ta ha:Addr) (e:Nat),vs=[.ref m,.ref oA,vn e]/\pT H m n T hs ta ha/\LdP n T hs/\qZ H oA (dQ T hs n)/\e<2*T.length/\Q (.int (cx T hs (dQ T hs n) e)) H
theorem DD(T:Txt K mg t):cU P w K mg base CX0 3 t.vZ t.vF ["_law_laid_here","_law_orders_here","_law_end"] OU:=by
 refine T.uZ.F.ok rK (λvs H Q E h=>?_) (λcdv A outer s H vs Q E hr h=>?_)
 ·obtain⟨_,_,_,_,_,_,_,_,rfl,_⟩:=h;rfl
 obtain⟨m,oA,n,TT,hs,ta,ha,e,rfl,hL,L,hO,he,q⟩:=h;have nd:=rK.nd;have hl:=L.hl;have hb:=L.g.behind he;refine⟨_,(aF (aU 3 nd (bH (gJ T) hr T.eX aX (aA (aL aZ (pv 0) aC (λ_ _=>rfl)) (aA (pv 1) (aA (pv 2) aE)))))
  (aF (aU 4 nd (aJ bD (aL aR (aL aZ (pv 0) aC (λ_ _=>rfl)) (aJ dG (pv 2) aC) (λ_ _=>rfl)) (aJ cS aC (aJ bG (bH (fC T) hr T.eP aX (aA (pv 2) aE)) aC))))
  (aK (bE (aJ bD (aJ bG (aJ cH (aJ cH (aJ cH (pv 4) (aL aR (aL aZ (pv 0) aC (λ_ _=>rfl)) (aJ dG (pv 3) aC) (λ_ _=>rfl))) (aJ cS aC (aJ bG (pv 3) aC))) aC) aC) aC))))),?_⟩
 refine(aI _ rfl m _ _ (.ref ta) rfl (n9 rfl (SqT.of hL.1) rfl _ rfl _ rfl (cV ta oA TT _ e rfl hL.2.1 ⟨ hO,L.g,he,?_⟩)));refine(aI _ rfl m _ _ (.ref ha) rfl (bU rfl (SqT.of hL.1) rfl _ rfl (aY _ _ rfl rfl ⟨by decide,by decide⟩ (aO ha _ _ _ rfl rfl (SqL.of hL.2.2) (eF (a8 (j:=e / 2) (by lia) (by lia)) _ rfl e rfl (aY _ _ rfl rfl (by show(0:Int)<2;decide) (aY _ _ rfl rfl (.inl ⟨by decide,by decide⟩) ⟨ _,_,rfl,rfl,?_⟩)))))));refine⟨_,rfl,(aI _ rfl m _ _ (.ref ha) rfl (bU rfl (SqT.of hL.1) rfl _ rfl (aY _ _ rfl rfl ⟨by decide,by decide⟩ (aO ha _ _ _ rfl rfl (SqL.of hL.2.2) (iB (a8 (j:=MM.behind TT (dQ TT hs n) e / 2) (by lia) (by lia)) _ _ rfl rfl _ rfl (aY _ _ rfl rfl (by show(0:Int)<2;decide) (aY _ _ rfl rfl (.inl ⟨by decide,by decide⟩) (hU _ _ rfl rfl _ _ rfl (gK rfl _ _ rfl rfl (by show(0:Int)<4;decide) ⟨ _,_,rfl,rfl,?_⟩)))))))))⟩;have ev:(at0 hs (e / 2)+2*(((MM.oth e:Nat):Int)%2)-at0 hs (MM.behind TT (dQ TT hs n) e / 2)-2*(((MM.behind TT (dQ TT hs n) e:Nat):Int)%2)-1)%4+1=cx TT hs (dQ TT hs n) e:=by
  unfold cx hx;rw[MM.eU]
  lia
 rw[<-ev]at q;exact q
end K36
namespace L2
open PySem PyProof.Rows
theorem wO{d:PyData}(h:d.canLay0=true/\d.depth<=8):SeqAt.shaped d=true:=by
 unfold SeqAt.shaped;rw[Xx];exact⟨h.1,decide_eq_true (by have:=h.2;lia)⟩
theorem MV{ds:List PyData}(n:Nat)(h:∀d∈ds,d.canLay0=true/\d.depth<=n):(PyData.tuple ds).canLay0=true/\(PyData.tuple ds).depth<=n+1:=by
 have:=mG n h;exact⟨this.1,by rw[PyData.depth];lia⟩
theorem ET{ds:List PyData}(n:Nat)(h:PyData.canLayAll0 ds=true/\PyData.depthAll ds<=n):(PyData.list ds).canLay0=true/\(PyData.list ds).depth<=n+1:=⟨h.1,by rw[PyData.depth];lia⟩
theorem xI(ns:List Int):(PyData.list (ns.map PyData.int)).canLay0=true/\(PyData.list (ns.map PyData.int)).depth<=4 :=
 ET 3 (mG 3 λd hd=>by obtain⟨n,_,rfl⟩:=Zh.mp hd;exact⟨rfl,by simp[PyData.depth]⟩)
theorem MW(z:Int):(PyData.int z).canLay0=true/\(PyData.int z).depth<=4:=⟨rfl,by simp[PyData.depth]⟩
theorem J0{d:PyData}{n m:Nat}(h:d.canLay0=true/\d.depth<=n)(hm:n<=m):d.canLay0=true/\d.depth<=m:=⟨h.1,Ys h.2 hm⟩
theorem KL{d:PyData}(h:SeqAt.shaped d=true):PyData.eqv d d=true:=SeqAt.eqv_refl _ (SeqAt.canLay_of_shaped h)
end L2
namespace K36
open PySem L2 PyProof.Rows
def LP:Sp:=λvs H Q _=>∃n:Int,vs=[.int n]/\Q (.bl true) H
theorem JG(T:Txt K mg t):cU P w K mg base CX0 1 t.yB t.xT ["_law_found"] LP:=by
 refine T.xP.F.ok CV (λvs H Q E h=>?_) (λcdv A outer s H vs Q E hr h=>?_)
 ·obtain⟨n,rfl,_⟩:=h;rfl
 obtain⟨n,rfl,q⟩:=h;refine⟨_,(aK (bE (PH (a7 pM rfl T.iP boot_isinstance (aA (pv 0) (aA (sO (v:=.ty "int") rfl T.zV boot_int rfl) aE))) (O8 (O9 (a7 pM rfl T.iP boot_isinstance (aA (pv 0) (aA (sO (v:=.ty "bool") rfl T.N6 boot_bool rfl) aE)))))))),?_⟩;exact(cW _ rfl _ ("int") ("int") rfl rfl ⟨ .inr (.inr (.inl rfl)),_,rfl,dY (by rfl) (cW _ rfl _ ("int") ("bool") rfl rfl ⟨ .inr (.inr (.inr rfl)),_,rfl,q⟩)⟩)
end K36
namespace L2
open PySem PySem.Spec PyProof.Rows
theorem DK{X:Cx}{K:PySem.W.Frag}(h:X.K=K)(hc:X.calm=true):iK X (.builtin "sum") (λxs H Q=>∃(p:Addr) (ns:List Int),xs=[.ref p]/\SqL K H p (ns.map V.int)/\Q (.int ns.sum) H):=by subst h;exact mM hc
theorem HN(n:Nat){ls:List Int}(h:∀e,0<=at0 ls e/\at0 ls e<=1020):∀k,st n ls k<=n+2040*k
 |0=>Nat.le_refl _
 |k+1=>by
  have:=HN n h k;have:=JQ h k;show st n ls k+nq ls k<=_
  lia
theorem ED(xs:List Int):(List.range xs.length).map (λi=>V.int (at0 xs i))=xs.map V.int:=by
 refine Yp λi=>?_;rw[Zk,Zk];by_cases h:i<xs.length
 ·rw[Yv h,Zz h];show some (V.int (at0 xs i))=_;unfold at0;rw[Zv,Zz h];rfl
 ·rw[Zr (by simpa using h),Zr (by simpa using h)];rfl
def dLm(n:Nat)(T:MM.aS)(hs:List Int):PyData:=.tuple [.int (n:Int),.list (dT T),.list (hs.map .int)]
theorem JW(n:Nat)(T:MM.aS)(hs:List Int):SeqAt.shaped (dLm n T hs)=true:=wO (J0 (MV 4 λd hd=>by
 simp only[Zn,List.not_mem_nil,or_false]at hd;rcases hd with rfl | rfl | rfl
 ·exact MW _
 ·exact ET 3 (KU T)
 ·exact xI _) (by decide))
theorem J5(ns:List Int):SeqAt.shaped (.list (ns.map .int))=true:=wO (J0 (xI ns) (by decide))
end L2
namespace K36
open PySem L2 PyProof.Rows
theorem pT.bd{H:Hp}{m ta ha:Addr}{n:Nat}{T:MM.aS}{hs:List Int}(h:pT H m n T hs ta ha):Bd K H (.ref m) (dLm n T hs) :=
 .tup (SqT.of h.1) (.cons (.int _) (.cons (FE h.2.1) (.cons (.lst (SqL.of h.2.2) (Bds.ints _)) .nil)))
structure Kp(H:Hp)(tp m hm oA cr sr ta ha ta2 ha2:Addr)(n:Nat)(T:MM.aS)(hs:List Int):Prop where
 a:pT H m n T hs ta ha
 b:pT H hm n T hs ta2 ha2
 o:qZ H oA (dQ T hs n)
 c:H cr=some (.lst ((cL n T hs).map V.int))
 s:H sr=some (.lst ((sL n T hs).map V.int))
 t:TB tp H
theorem Kp.st{H H':Hp}{tp m hm oA cr sr ta ha ta2 ha2:Addr}{n:Nat}{T:MM.aS}{hs:List Int}(k:Kp H tp m hm oA cr sr ta ha ta2 ha2 n T hs)(g:cD H H')(tb:TB tp H'):Kp H' tp m hm oA cr sr ta ha ta2 ha2 n T hs :=
 ⟨k.a.st g,k.b.st g,RK g k.o,g.l k.c,g.l k.s,tb⟩
def EA(tp:Addr)(K:PySem.W.Frag):Sp:=λvs H Q _=>∃(a:Addr) (ns:List Int),vs=[.ref a]/\SqL K H a (ns.map V.int)/\ns.length<=63/\TB tp H/\∀H',Q (.bl true) H'
theorem PQ(T:Txt K mg t)(B:BT base mg t):cU P w K mg base CX0 lawK t.N4 t.N3 ["_law_script"] (EA t.tp K):=by
 have lU:=t5 (P:=P) (w:=w) (base:=base) T B;have kL:=JO (P:=P) (w:=w) (base:=base) T B;have DT:=C8 (P:=P) (w:=w) (base:=base) T B;refine T.RZ.F.ok IA (λvs H Q E h=>?_) (λcdv A outer s H vs Q E hr h=>?_)
 ·obtain⟨sa,ns,rfl,_⟩:=h;rfl
 obtain⟨sa,ns,rfl,hS,_,tb,q⟩:=h;have nd:=IA.nd;have nd_l_land_l_corners:(["_law_land","_law_corners"]:List Str).Nodup:=by decide
 have nd_l_end_l_corners:(["_law_end","_law_corners"]:List Str).Nodup:=by decide
 have nd_l_end_l_laid_here_l_orders_here:(["_law_end","_law_laid_here","_law_orders_here"]:List Str).Nodup:=by decide
 refine⟨_,(aF (iY (bH (DB T) hr T.uX aX (aA (pv 0) aE)) (kD rfl (bY (aQ (i:=1) nd rfl (Or.inl rfl)) (bY (aQ (i:=2) nd rfl (Or.inl rfl)) (bY (aQ (i:=3) nd rfl (Or.inl rfl)) gN)))))
  (aF (aU 4 nd (aL aZ (bH (JK T) hr T.BS aX (aA (pv 1) (aA (pv 3) aE))) aC (λ_ _=>rfl)))
  (aF (aU 5 nd (bH (DC T) hr T.uY aX (aA (pv 4) aE)))
  (aF (aU 6 nd (dF (N':=["_law_end","_law_laid_here","_law_orders_here"]) (js:=[none,some 4,some 5]) rfl (bP rfl T.bV (aA (aJ cS aC (a7 a4 rfl T.eA PySem.boot_len (aA (aL aZ (pv 4) aC (λ_ _=>rfl)) aE))) aE)) (λ_ _ _ _ _=>(aQ (i:=0) nd_l_end_l_laid_here_l_orders_here rfl (Or.inl rfl))) (λ_ _ _ _ _=>dE) (λ_ _ _ _ _=>(bH (DD T) hr T.uZ aX (aA (pv 1) (aA (pv 2) (aA (pv 0) aE)))))))
  (aF (dD (i:=7) nd rfl (Or.inl rfl)  (N':=["_law_land","_law_corners"]) (js:=[none,some 6]) rfl (cK (bH (xF T) hr T.qS aX (aA (aL aZ (pv 4) aC (λ_ _=>rfl)) (aA (pv 5) aE)))) (λ_ _ _ _ _=>(aQ (i:=0) nd_l_land_l_corners rfl (Or.inl rfl))) (λ_ _ _ _ _=>dE) (λ_ _ _ _ _=>(a7 (DK (K:=K) rfl rfl) rfl T.DU boot_sum (aA (dF (N':=["_law_end","_law_corners"]) (js:=[none,some 1]) rfl (BE (K:=K) rfl (pv 0)) (λ_ _ _ _ _=>(aQ (i:=0) nd_l_end_l_corners rfl (Or.inl rfl))) (λ_ _ _ _ _=>dE) (λ_ _ _ _ _=>(aJ cH aC (aL (cP (K:=K) rfl) (pv 1) (pv 0) (λ_ _=>rfl))))) aE))))
  (aF (aU 8 nd (b8 (aA (aL aZ (pv 4) aC (λ_ _=>rfl)) (aA (dP fU rfl T.m9 boot_list (aA (aL aZ (pv 4) aC (λ_ _=>rfl)) aE)) (aA (dP fU rfl T.m9 boot_list (aA (aL aZ (pv 4) aC (λ_ _=>rfl)) aE)) aE)))))
  (aF (cR PassesOwn.never rfl (bP rfl T.bV (aA aC aE)) (aQ (i:=9) nd rfl (Or.inl rfl)) (aF (aU 10 nd (bH lU hr T.uT aX (aA (pv 8) aE)))
  (aF (fL (PW.pt (mW (y4 (oR (a7 pM rfl T.iP boot_isinstance (aA (pv 10) (aA (sO (v:=.ty "tuple") rfl T.LD boot_tuple rfl) aE))) (λ_=>rfl))) (qJ (bF (C5 hr.units) (pv 10) (b8 (aA (aL aZ (pv 4) aC (λ_ _=>rfl)) (aA (aL aZ (pv 4) aC (λ_ _=>rfl)) (aA (pv 5) aE)))) (bO _))))) (aK (bE xD)) dA)
  (aF (aU 11 nd (bH kL hr T.kJ aX (aA (pv 8) aE)))
  (aF (aU 12 nd (bH DT hr T.uR aX (aA (pv 8) aE)))
  (aF (fL (PW.pt (mW (y4 (oR (a7 pM rfl T.iP boot_isinstance (aA (pv 11) (aA (sO (v:=.ty "list") rfl T.m9 boot_list rfl) aE))) (λ_=>rfl))) (mW (bF (C5 hr.units) (pv 11) (pv 6) (bO _)) (mW (y4 (oR (bH (JG T) hr T.xP aX (aA (pv 12) aE)) (λ_=>rfl))) (qJ (bF xE (pv 12) (lH PySem.F.plainAttrs_list PySem.F.slot_list_index PySem.F.type_list_index qO (pv 7) (aA (jT fY aC) aE)) (bO _))))))) (aK (bE xD)) dA)
  (aF (bM (PD PySem.F.plainAttrs_list PySem.F.slot_list_clear PySem.F.type_list_clear JU (aL aZ (pv 10) aC (λ_ _=>rfl))))
  (aF (bM (fN mAp bA (aL aR (aL aZ (pv 10) aC (λ_ _=>rfl)) aC (λ_ _=>rfl)) (aA aC aE)))
  (aK (bM (fN mAp bA (pv 11) (aA aC aE))))))))))))
  (aK (bE (kE (JE hr.units) (pv 8) (pv 4) (bO _))))))))))),?_⟩
 refine(a9 _ rfl sa ns rfl hS (λr wa sh c0 l0 ts os cs ls o H1 g1 e1 hW g fc t40 o10 hsh hc hl lc ll ho shp=>?_));refine(aY r _ rfl (SqT.of e1) rfl (DY _ _ rfl _ _ rfl ⟨ _,_,rfl,rfl,?_⟩));obtain⟨h,hh⟩:=shp.h;have hR:Hr ts os (at0 cs) (at0 ls) h:=⟨λe he=>(hh e he).1,λe he=>(hh e he).2⟩
 have hB:∀e,0<=at0 ls e/\at0 ls e<=1020:=λe=>by
  refine⟨?_,by have:=shp.b e;lia⟩;by_cases c:e<2*ts.length
  ·exact shp.s.pos e c
  ·unfold at0;rw[Zv,Zr (by lia)];exact Int.le_refl _
 have fe4:=uP g;refine⟨_,rfl,_,rfl,(fH wa sh c0 l0 os.length ts os (bB cs ls h rfl hW g fc.conn (dX o10 hsh hc hl lc ll hR ⟨ hB,λrd md td hdd od H2 g2 ld=>?_⟩)))⟩;refine(aO rd _ _ (.ref md) rfl rfl (SqT.of ld.1) ⟨ rfl,?_⟩);obtain⟨n,TT,hs,L,hA,h4,hm4⟩:∃(n:Nat) (TT:MM.aS) (hs:List Int),LdP n TT hs/\pT H2 md n TT hs td hdd/\(∀x∈sL n TT hs,x=4\/x = -4)/\(-4)∈sL n TT hs:=by
  have I:LdI ts os (at0 cs) ls h:=⟨g,hR,shp.s.pl,λe=>(hB e).1⟩
  have O:=EM (m:=st os.length ls ts.length) I.dst;have mQ:=JZ ts os.length (nrm h) hB ts.length;have sf:=HN os.length hB ts.length;have gd:=I.good O;obtain⟨s1,d,s2,s3⟩:=I.sums O shp.s ho;refine(iQ _ _ _ ⟨mQ.2.1,λi hi=>TR hi,λe he=>by have:=(gd.g.has e he).1;rw[O.len]at this;exact this,I.dst,by lia,by lia,gd⟩ ⟨ld.2.1,ld.2.2.1,ld.2.2.2.1⟩ (λx hx=>?_) (Zh.mpr ⟨d,s2,s3⟩));obtain⟨d,hd,rfl⟩:=Zh.mp hx;exact s1 d hd
 have tb2:=(tb.same g1).same g2;clear ld hB hR hh shp hsh hc hl hW e1 hS g1 g2 fe4 lc ll fc;have b1:=L.t1;have b0:=L.n1;have cl:=zO n TT hs;refine⟨_,rfl,(cN md n TT hs td hdd rfl ⟨ hA,L,λoA rr H3 g3 w3=>?_⟩)⟩;have hO:=sP w3;have hA3:=hA.st g3.st;have tb3:=tb2.same g3;clear hA tb2 g3 w3;obtain⟨tr,z1,z2,z3⟩:=id hA3.2.1;have eN:(2:Int)*((tr.map V.ref).length:Nat)=((2*TT.length:Nat):Int):=by rw[Zq,z2];push_cast;rfl
 have eN2:((2:Int)*((tr.map V.ref).length:Nat)).toNat=2*TT.length:=by rw[eN];exact Int.toNat_natCast _
 refine(aI _ rfl md _ _ (.ref td) rfl (bC rfl (SqT.of hA3.1) rfl td _ rfl (.inl (SqL.of z1)) (hV _ _ rfl rfl (.inl ⟨by decide,by decide⟩) _ rfl ⟨ ?_,?_,λcr hcr=>?_⟩)))
 ·show -(2 ^ 62)<=(2:Int)*((tr.map V.ref).length:Nat);lia
 ·show(2:Int)*((tr.map V.ref).length:Nat)<2 ^ 62;rw[eN];lia
 refine c7 (2*TT.length) (λi=>.int (at0 (cL n TT hs) i)) hcr (by lia) (λi H' hi g'=>?_) (λH' g'=>?_) ?_ ?_
 ·show i<((2:Int)*((tr.map V.ref).length:Nat)).toNat;lia
 ·show((2:Int)*((tr.map V.ref).length:Nat)).toNat<=2*TT.length;lia
 ·rintro i H' x H'' k hi g' ⟨rfl,rfl⟩ hk;refine(jP ((Fills.refl _).set _ rfl) _ rfl _ rfl _ rfl (fH md oA n TT hs td hdd (LG i (by show[V.ref md,V.ref oA,V.int (0+(i:Int))]=[V.ref md,V.ref oA,vn i];rw[Int.zero_add]) (hA3.st g'.st) L (g'.os hO) hi ?_)));rw[<-K3 hi];exact hk _ (aW.refl _)
 intro H4 g4 ecr;rw[<-cl,ED]at ecr;have hA4:=hA3.st g4.st;have hO4:=g4.os hO;have tb4:=tb3.same g4;clear hA3 hO tb3 g4 z1 z2 z3 eN eN2;refine(aI _ rfl md _ _ (.ref td) rfl (bU rfl (SqT.of hA4.1) rfl _ rfl (aO td oA TT _ rfl hA4.2.1 hO4 ⟨ L.g,L.t1,λlr lrr H5 g5 nl=>?_⟩)));refine⟨lr,rfl,⟨_,SqL.of nl.at_⟩,λsr hsr=>?_⟩;have fl:=xO L.g;have lll:(lrr.map V.ref).length=(MM.lls TT (dQ TT hs n)).length:=by rw[Zq];exact nl.len
 refine c7 (MM.lls TT (dQ TT hs n)).length (λi=>.int ((sL n TT hs).getD i 0)) hsr (by lia) (λi H' hi g'=>⟨_,_,SqL.of (g' _ _ nl.at_),Zz (by rw[lll];exact hi)⟩) (λH' g'=>⟨_,SqL.of (g' _ _ nl.at_),by rw[lll];exact Nat.le_refl _⟩) ?_ ?_
 ·rintro i H' x H'' k hi g' ⟨rfl,hY⟩ hk;have ex:=hY _ (SqL.of (g' _ _ nl.at_));obtain⟨la,q1,q2⟩:=nl.row i _ (Zz hi);rw[Zk,q1]at ex;cases ex;have lf:=BD L.g (Zp hi);generalize hd:(MM.lls TT (dQ TT hs n))[i]=d at lf;have q2:H'' la=some (.lst (vns d)):=by rw[<-hd];exact g' _ _ q2
  have c2:=g' _ _ (g5 _ _ ecr);refine(D4 ((Fills.refl _).set _ rfl) _ rfl la rfl ⟨_,SqL.of q2⟩ (λD3 hD3=>?_));refine c7 d.length (λj=>.int (2-at0 (cL n TT hs) (d.getD j 0))) hD3 (by lia) (λj H6 hj g6=>⟨_,_,SqL.of (g6 _ _ q2),lY hj⟩) (λH6 g6=>⟨_,SqL.of (g6 _ _ q2),by rw[Zq];exact Nat.le_refl _⟩) ?_ ?_
  ·rintro j H6 y H7 k2 hj g6 ⟨rfl,hZ⟩ hk2;have ey:=hZ _ (SqL.of (g6 _ _ q2));rw[lY hj]at ey;cases ey;have:=lf.2 _ (getD_mem hj);exact(eF ((Fills.refl _).set _ rfl) _ rfl _ rfl (aO cr _ _ _ rfl rfl (SqL.of (g6 _ _ c2)) (iW (a8 (by lia) rfl) _ _ rfl rfl (hk2 _ (aW.refl _)))))
  ·intro H6 g6 e6;rw[sJ d (λe=>V.int (2-at0 (cL n TT hs) e)),show d.map (λe=>V.int (2-at0 (cL n TT hs) e))=(d.map λe=>2-at0 (cL n TT hs) e).map V.int by rw[Yb];rfl]at e6;refine⟨D3,_,rfl,SqL.of e6,?_⟩;have e:(d.map λe=>2-at0 (cL n TT hs) e).sum=(sL n TT hs).getD i 0:=by
    unfold sL;rw[Zv,Zk,Zz hi,hd];show MM.su d (λe=>2-at0 (cL n TT hs) e)=MM.su d _;exact MM.eT λx hx=>by rw[K3 (lf.2 x hx)]
   rw[e];exact hk _ g6
 intro H6 g6 esr;have e6:(MM.lls TT (dQ TT hs n)).length=(sL n TT hs).length:=by unfold sL;rw[Zq]
 rw[e6,show(λi=>V.int ((sL n TT hs).getD i 0))=λi=>V.int (at0 (sL n TT hs) i) from rfl,ED]at esr;have g46:=g5.trans g6;have hA6:=hA4.st g46.st;have hO6:=g46.os hO4;have tb6:=tb4.same g46;have ecr6:=g46 _ _ ecr;clear hA4 hO4 tb4 ecr g46 g5 g6 nl lll e6;obtain⟨tr,z1,z2,z3⟩:=id hA6.2.1;refine(aI _ rfl md _ _ _ rfl (bU rfl (SqT.of hA6.1) rfl _ rfl (aO md _ _ _ rfl rfl (SqT.of hA6.1) (iW rfl td _ rfl (.inl (SqL.of z1)) (λtB htB=>?_)))));have s1:=aG htB (.lst (tr.map V.ref));have etB:=aB (H:=H6) (a:=tB) (o:=.lst (tr.map V.ref));generalize upd H6 tB (.lst (tr.map V.ref))=H7 at s1 etB ⊢;refine(aI _ rfl md _ _ _ rfl (bC rfl (SqT.of (s1 _ _ hA6.1)) rfl hdd _ rfl (.inl (SqL.of (s1 _ _ hA6.2.2))) (λhB2 hhB=>?_)));have s2:=aG hhB (.lst (hs.map V.int));refine⟨(by show 3<=ZW;decide),λhm hhm=>?_⟩;have s3:=aG hhm (.tup [vn n,.ref tB,.ref hB2]);have s13:=s1.trans (s2.trans s3);have k0:Kp (upd (upd H7 hB2 (.lst (hs.map V.int))) hm (.tup [vn n,.ref tB,.ref hB2])) t.tp md hm oA cr sr td hdd tB hB2 n TT hs :=
  ⟨hA6.st s13.st,⟨aB,⟨tr,s3 _ _ (s2 _ _ etB),z2,λi x hx=>let⟨y,y1,y2⟩:=z3 i x hx;⟨y,y1,s13 _ _ y2⟩⟩,s3 _ _ aB⟩,s13.os hO6,s13 _ _ ecr6,s13 _ _ esr,tb6.same s13⟩
 generalize upd (upd H7 hB2 (.lst (hs.map V.int))) hm (.tup [vn n,.ref tB,.ref hB2])=H8 at k0 ⊢;clear s1 s2 s3 s13 etB hA6 hO6 tb6 ecr6 esr z1 z2 z3;refine⟨2,rfl,by decide,by decide,cI (lo:=0) (n:=2) (λj σ H'=>(∃(o9 o10 o11 o12:Option V),σ=[some (.ref sa),some (.ref wa),some (vn o),some (.ref sh),some (.ref md),some (.ref oA),some (.ref cr),some (.ref sr),some (.ref hm),o9,o10,o11,o12])/\Kp H' t.tp md hm oA cr sr td hdd tB hB2 n TT hs) ⟨⟨_,_,_,_,rfl⟩,k0⟩ ?_ ?_⟩
 ·rintro j σ H7 hj ⟨⟨o9,o10,o11,o12,rfl⟩,kp⟩;refine⟨_,rfl,(cN hm n TT hs tB hB2 rfl ⟨ kp.b,L,kp.t,λrf ra oB rrB H8 g8 t8 n1 n2 e1 e2 w8=>?_⟩)⟩;have k8:=kp.st g8 t8;refine(cW _ rfl _ ("tuple") ("tuple") rfl (.inr ⟨rfl,_,e1⟩) ⟨ .inr (.inl rfl),_,rfl,cF (by rfl) ?_⟩);refine⟨_,rfl,(aI _ rfl md _ _ _ rfl (bU rfl (SqT.of k8.a.1) rfl _ rfl (aO md _ _ _ rfl rfl (SqT.of k8.a.1) ⟨ rfl,_,rfl,(by show 3<=ZW;decide),λz hz=>?_⟩)))⟩;have gz:=aG hz (.tup [vn n,.ref td,.ref oA]);refine(bR _ _ (K6 (gz.web ⟨ra,oB,e1,e2,sP w8⟩)) (K6 ⟨td,oA,aB,gz.ts k8.a.2.1,gz.os k8.o⟩) (nA _ _ _) (nA _ _ _) ⟨ _,rfl,cF (by rw[LI];rfl) ?_⟩);have k9:=k8.st gz.st (k8.t.same gz);generalize upd H8 z (.tup [vn n,.ref td,.ref oA])=H9 at gz k9 ⊢;refine⟨_,rfl,(cN hm n TT hs tB hB2 rfl ⟨ k9.b,L,k9.t,λtl H10 g10 t10 n10 e10=>?_⟩)⟩;have k10:=k9.st g10 t10;refine⟨_,rfl,(cN hm n TT hs tB hB2 rfl (jL k10.b L k10.t h4 hm4 (λH11 g11 t11=>?_)))⟩;have k11:=k10.st g11 t11;have e11:=g11.l e10;refine(cW _ rfl _ ("list") ("list") rfl (.inl ⟨rfl,_,e11⟩) ⟨ .inl rfl,_,rfl,cF (by rfl) ?_⟩);refine(bS _ rfl _ rfl _ _ (.lst (SqL.of e11) (Bds.ints _)) (bU (.lst (SqL.of k11.c) (Bds.ints _)) (J5 _) (J5 _) _ rfl (cF (by rw[KL (J5 _)];rfl) ?_)));refine(cQ _ rfl _ rfl _ rfl (cF (by rfl) ?_));refine(iV _ rfl _ rfl (.inl ⟨rfl,_,SqL.of k11.s⟩) _ rfl (bB sr _ _ rfl rfl k11.s hm4 ⟨ rfl,_,rfl,cF (by simp) ?_⟩));have gF:cD H8 H11:=gz.st.trans (g10.trans g11);have w11:=w8.st gF;have E1:=gF.t e1;obtain⟨tt,y8,y2,y38⟩:=id e2;have y1:=gF.l y8;have h0:0<(dQ TT hs n).length:=MM.KB L.g;have er:(dQ TT hs n)[0]?=some (MM.row (dQ TT hs n) 0):=by
   unfold MM.row;rw[Zz h0,Zv,Zz h0];rfl
  have full:=L.g.g.full 0 h0;have four:=L.g.g.four 0;obtain⟨x0,a1,c8⟩:=w8.row 0 (vns (MM.row (dQ TT hs n) 0)) (by rw[Zk,er];rfl);have c1:=gF.l c8;have ne_x:x0≠ra:=λz=>by
   rw[z,y1]at c1;cases hrow:MM.row (dQ TT hs n) 0 with
   |nil=>exact full hrow
   |cons a r =>
    rw[hrow]at c1;have c2:=congrArg (λo:Option HO=>match o with | some (.lst xs)=>xs[0]? | _=>none) c1;have c2:(tt.map V.ref)[0]?=some (vn a):=c2;rw[Zk]at c2;obtain⟨_,_,z⟩:=Xk.mp c2;cases z
  have one:=L.g.one;have ne_o:oB≠ra:=λz=>by
   have q1:=w11.at_;rw[z,y1]at q1;have q2:=congrArg (λo:Option HO=>match o with | some (.lst xs)=>xs[0]? | _=>none) q1;have q2:(tt.map V.ref)[0]?=(rrB.map V.ref)[0]?:=q2;obtain⟨y,p1,p2⟩:=y38 0 _ (Zz (show 0<TT.length by lia));rw[Zk,Zk,p1,a1]at q2;cases q2;rw[c8]at p2;cases p2
  refine(aI _ rfl rf _ _ _ rfl (zY rfl (SqT.of E1) rfl (.inl ⟨rfl,_,SqL.of y1⟩) ra _ rfl ⟨ rfl,y1,?_⟩));have F1:=(aH (H:=H11) (o:=.lst []) (lN E1 y1 (by intro z;cases z))).trans E1;have F2:=(aH (H:=H11) (o:=.lst []) ne_o).trans w11.at_;have F3:=(aH (H:=H11) (o:=.lst []) ne_x).trans c1;have ntr:tl≠ra:=(aN (gz _ _ y8) n10).symm;have ntx:tl≠x0:=(aN (gz _ _ c8) n10).symm;have F4:=(aH (H:=H11) (o:=.lst []) ntr).trans e11;have t12:=k11.t.upd (ys:=[]) y1;have s12:=(g8.trans gF).fresh n2 (.lst []);generalize upd H11 ra (.lst [])=H12 at F1 F2 F3 F4 t12 s12 ⊢;refine(aI _ rfl rf _ _ _ rfl ⟨ rfl,(iC (SqT.of F1) rfl oB _ _ _ rfl ⟨ rfl,(kT (SqL.of F2) (NB (i:=0) a1) (.inl ⟨rfl,_,SqL.of F3⟩) x0 _ _ rfl ⟨ rfl,F3,by rw[Zq];exact Yt four (by decide),?_⟩)⟩)⟩);have G1:=(aH (H:=H12) (o:=.lst (vns (MM.row (dQ TT hs n) 0)++[V.int 9])) ntx).trans F4;have t13:=t12.upd (ys:=vns (MM.row (dQ TT hs n) 0)++[V.int 9]) F3;have s13:=s12.fresh (w8.news x0 (Zg a1)) (.lst (vns (MM.row (dQ TT hs n) 0)++[V.int 9]));generalize upd H12 x0 (.lst (vns (MM.row (dQ TT hs n) 0)++[V.int 9]))=H13 at G1 t13 s13 ⊢;exact(fI _ rfl (.inl ⟨rfl,_,SqL.of G1⟩) tl _ _ rfl ⟨ rfl,G1,by rw[Zq,cl];exact Yt (show 2*TT.length<=90000 by lia) (by decide),⟨_,_,_,_,rfl⟩,kp.st (s13.fresh (g8.free (gz.free n10)) _) (t13.upd G1)⟩)
 ·rintro σ H7 ⟨⟨o9,o10,o11,o12,rfl⟩,kp⟩;refine(bS _ rfl _ rfl _ _ kp.b.bd ⟨ kp.a.bd,JW _ _ _,JW _ _ _,?_⟩);rw[KL (JW _ _ _)];exact q _
end K36
namespace PySem.W.Fast
def tw16923757801907856559:Nat:=0
def tw17440799184181225728:Nat:=0
def tw9522454350600646667:Nat:=0
def tw12951937368348839390:Nat:=0
def tw509978194182029953:Nat:=0
def tw8404232471396863283:Nat:=0
def tw10833470644231922842:Nat:=0
def tw8479271935587286481:Nat:=0
def tw8414192176110305685:Nat:=0
def tw3781028837829798777:Nat:=0
def tw9003895874407661420:Nat:=0
def tw6005330146597922928:Nat:=0
def tw11990574592770737927:Nat:=0
def tw8561778984180656812:Nat:=0
def tw17062640568188280642:Nat:=0
def tw10222871257616028746:Nat:=0
def tw15999582176655308523:Nat:=0
def tw13421858723783267937:Nat:=0
def tw15287379161716566230:Nat:=0
def tw15916685693252151735:Nat:=0
def tw10255281597843682421:Nat:=0
def tw13313069042200025854:Nat:=0
def tw4238639155969660204:Nat:=0
def tw12639518462529282604:Nat:=0
def tw7107759360555060495:Nat:=0
def tw12051698969855866471:Nat:=0
def tw10122921987006227371:Nat:=0
def tw1348017010329980436:Nat:=0
def tw13651965024175988045:Nat:=0
def tw5293252267420511725:Nat:=0
def tw4420785575146377249:Nat:=0
def tw11179442389739777962:Nat:=0
def tw15517043400877685894:Nat:=0
def tw8896460429721703832:Nat:=0
def tw13157511460711111548:Nat:=0
def tw5720383285149101809:Nat:=0
def tw3821242650016062124:Nat:=0
def tw1375649850733973853:Nat:=0
def tw13843704416136909711:Nat:=0
def tw14176967339873200673:Nat:=0
def tw1168753667215473792:Nat:=0
def tw1198896229823012799:Nat:=0
def tw14129245787350764899:Nat:=0
def tw16530880871523663207:Nat:=0
def tw1120442521132486554:Nat:=0
def tw6955269081926717322:Nat:=0
def tw11911168812085109081:Nat:=0
def tw17641889075767922992:Nat:=0
def tw11800241598057313446:Nat:=0
def tw7487624271923226857:Nat:=0
def tw6362358186953277444:Nat:=0
def tw14777111314379946646:Nat:=0
def tw18114385133515281047:Nat:=0
def tw6670047006617475254:Nat:=0
def tw7076896789848332902:Nat:=0
def tw3627136972087166867:Nat:=0
def tw529549095782376689:Nat:=0
def tw5185008847422552872:Nat:=0
def tw12167244316803823844:Nat:=0
def tw15180471236498726710:Nat:=0
def tw14180480935279288289:Nat:=0
def tw5385062035432894269:Nat:=0
def tw8850572618962811217:Nat:=0
def tw375978199146802238:Nat:=0
def tw14493008950971171869:Nat:=0
def tw11499706840345676814:Nat:=0
def tw12856696482493193875:Nat:=0
def tw16269283022805197247:Nat:=0
def tw1591085233114546060:Nat:=0
def tw1596152662062943502:Nat:=0
def tw1084956203291428580:Nat:=0
def tw9815871036963171707:Nat:=0
def tw3965889475629572766:Nat:=0
def tw11193720620474942133:Nat:=0
def tw17754842435130428574:Nat:=0
def tw8375501374960996707:Nat:=0
def tw15032785689674649276:Nat:=0
def tw13133212000410608045:Nat:=0
def tw6074806256070264092:Nat:=0
def tw11589775501334381596:Nat:=0
def tw1625946416559065107:Nat:=0
def tw15087683924711113904:Nat:=0
def tw18428513961223905595:Nat:=0
def tw6254140638403171150:Nat:=0
def tw5671099465199422652:Nat:=0
def tw2223953560042390855:Nat:=0
def tw16151702164837470224:Nat:=0
def tw17111507777657850124:Nat:=0
def tw12875874355125180057:Nat:=0
def tw18233403977771710852:Nat:=0
def tw4490238794849990827:Nat:=0
def tw13664130658344006512:Nat:=0
def tw10768561974632497834:Nat:=0
end PySem.W.Fast
namespace L2
open PySem
theorem len0{p:List Value->Prop}(h:p []):∀us:List Value,us.length=0->p us
 |[],_=>h
theorem nR{n:Nat}{p:List Value->Prop}(h:∀a us,us.length=n->p (a::us)):∀us:List Value,us.length=n+1->p us
 |a::us,e=>h a us (Nat.succ.inj e)
theorem mR{p:List Value->Prop}(h:∀a,p [a]):∀us:List Value,us.length=1->p us:=nR λa=>len0 (h a)
theorem lO{p:List Value->Prop}(h:∀a b,p [a,b]):∀us:List Value,us.length=2->p us:=nR λa=>nR λb=>len0 (h a b)
theorem GE{p:List Value->Prop}(h:∀a b c,p [a,b,c]):∀us:List Value,us.length=3->p us:=nR λa=>nR λb=>nR λc=>len0 (h a b c)
theorem S4{p:List Value->Prop}(h:∀a b c d,p [a,b,c,d]):∀us:List Value,us.length=4->p us:=nR λa=>nR λb=>nR λc=>nR λd=>len0 (h a b c d)
theorem S3{p:List Value->Prop}(h:∀a b c d e,p [a,b,c,d,e]):∀us:List Value,us.length=5->p us:=nR λa=>nR λb=>nR λc=>nR λd=>nR λe=>len0 (h a b c d e)
end L2
namespace K36
open PySem L2
theorem all_mk{l:PySem.W.OpenLaw}{w:World}{K:PySem.W.Frag}{h:Heap}{mg:Str->Option Value}{fa:Addr}(X:K.In h)(G:h.Ns ZV mg)(hfa:mg "law" = some (.ref fa)){cA tp fM:Addr}{ocA ocM:Value}{odA odM:Option Addr}{vsA:Array Value}{slA slM:Array (Option Value)}{fdM:FuncData}{eJ:Tok}
  (hs:FnX K "opposite" nF/\FnX K "end_heading" jM/\FnX K "quarters_right" fZ/\FnX K "ends_at_places" gG/\FnX K "other_end" k7/\FnX K "place_of" nC/\FnX K "goes_to" qH/\FnX K "behind" tO/\FnX K "lands" yX/\FnX K "land_from" lD/\FnX K "land_sum" nG/\FnX K "land_sums" lB/\FnX K "map_of" oP/\FnX K "corners_of" j9/\FnX K "outer_of" nE/\FnX K "_law_cell_at" lF/\FnX K "_law_mix" yZ/\FnX K "_law_turned" nJ/\FnX K "_law_other" qE/\FnX K "_law_place" qC/\FnX K "_law_behind" nN/\FnX K "_law_lands" qF/\FnX K "_law_sum" yY/\FnX K "_law_near" tL/\FnX K "_law_ways" tJ/\FnX K "_law_spots" qB/\FnX K "_law_line" tM/\FnX K "_law_turns_of" j7/\FnX K "_law_heads_on" j8/\FnX K "_law_heads" qG/\FnX K "_law_picture" lE/\FnX K "_law_read" tK/\FnX K "_law_outer" qD/\FnX K "_law_walked" nI/\FnX K "_law_first_heads" iM/\FnX K "_law_laid" tN/\FnX K "_law_shaped" nK/\FnX K "_law_whole" qA/\FnX K "_law_orders" nL/\FnX K "_law_corner" nM/\FnX K "law" IC)
  (z0:PySem.W.nsIn K ZV "bool" = some none)
  (z1:PySem.W.nsIn K ZV "enumerate" = some none)
  (z2:PySem.W.nsIn K ZV "int" = some none)
  (z3:PySem.W.nsIn K ZV "isinstance" = some none)
  (z4:PySem.W.nsIn K ZV "len" = some none)
  (z5:PySem.W.nsIn K ZV "list" = some none)
  (z6:PySem.W.nsIn K ZV "min" = some none)
  (z7:PySem.W.nsIn K ZV "range" = some none)
  (z8:PySem.W.nsIn K ZV "sorted" = some none)
  (z9:PySem.W.nsIn K ZV "sum" = some none)
  (z10:PySem.W.nsIn K ZV "tuple" = some none)
  (cZ:PySem.W.nsIn K ZV "QUARTERS_ROUND" = some (some (.int 4 eJ)))
  (aM:PySem.W.nsIn K ZV "map_of" = some (some (.ref fM))) (lM:K.lookup fM=some ⟨ocM,odM,.func fdM,slM⟩) (hM:fdM.code=.ref cA) (lcA:K.lookup cA=some ⟨ocA,odA,.fields vsA,slA⟩) (hvA:vsA[11]?=some (.ref tp))
  : ∃(fd:FuncData) (cA tp:Addr),(∀(s:Shared) (v:Value),BindsTo s fd ⟨[v],[]⟩ [("_law_script",v)])/\PySem.W.tabIn K "map_of" = some (cA,tp)/\∀base:Heap,K.In base->base.Ns ZV mg->PySem.W.CodeHd base cA tp->base.BuiltinsAt mg tp->cU l.prog w K mg base CX0 lawK fa fd ["_law_script"] (EA tp K):=by
 obtain⟨h0,h1,h2,h3,h4,h5,h6,h7,h8,h9,h10,h11,h12,h13,h14,h15,h16,h17,h18,h19,h20,h21,h22,h23,h24,h25,h26,h27,h28,h29,h30,h31,h32,h33,h34,h35,h36,h37,h38,h39,h40⟩:=hs;obtain⟨f0,d0,i0⟩:=cC (ps:=["head"]) X G h0 λ_ _ _ _ _ _=>mR λ_=>rfl;obtain⟨f1,d1,i1⟩:=cC (ps:=["heads","end"]) X G h1 λ_ _ _ _ _ _=>lO λ_ _=>rfl;obtain⟨f2,d2,i2⟩:=cC (ps:=["head","onward"]) X G h2 λ_ _ _ _ _ _=>lO λ_ _=>rfl;obtain⟨f3,d3,i3⟩:=cC (ps:=["many","ties"]) X G h3 λ_ _ _ _ _ _=>lO λ_ _=>rfl;obtain⟨f4,d4,i4⟩:=cC (ps:=["end"]) X G h4 λ_ _ _ _ _ _=>mR λ_=>rfl;obtain⟨f5,d5,i5⟩:=cC (ps:=["web","end"]) X G h5 λ_ _ _ _ _ _=>lO λ_ _=>rfl;obtain⟨f6,d6,i6⟩:=cC (ps:=["web","end"]) X G h6 λ_ _ _ _ _ _=>lO λ_ _=>rfl;obtain⟨f7,d7,i7⟩:=cC (ps:=["web","end"]) X G h7 λ_ _ _ _ _ _=>lO λ_ _=>rfl;obtain⟨f8,d8,i8⟩:=cC (ps:=["web"]) X G h8 λ_ _ _ _ _ _=>mR λ_=>rfl;obtain⟨f9,d9,i9⟩:=cC (ps:=["web","first"]) X G h9 λ_ _ _ _ _ _=>lO λ_ _=>rfl;obtain⟨f10,d10,i10⟩:=cC (ps:=["land","corners","lefts"]) X G h10 λ_ _ _ _ _ _=>GE λ_ _ _=>rfl;obtain⟨f11,d11,i11⟩:=cC (ps:=["laid"]) X G h11 λ_ _ _ _ _ _=>mR λ_=>rfl;obtain⟨f12,d12,i12⟩:=cC (ps:=["laid"]) X G h12 λ_ _ _ _ _ _=>mR λ_=>rfl;obtain⟨f13,d13,i13⟩:=cC (ps:=["laid"]) X G h13 λ_ _ _ _ _ _=>mR λ_=>rfl;obtain⟨f14,d14,i14⟩:=cC (ps:=["laid"]) X G h14 λ_ _ _ _ _ _=>mR λ_=>rfl;obtain⟨f15,d15,i15⟩:=cC (ps:=["_law_script","_law_k"]) X G h15 λ_ _ _ _ _ _=>lO λ_ _=>rfl;obtain⟨f16,d16,i16⟩:=cC (ps:=["_law_cell","_law_k"]) X G h16 λ_ _ _ _ _ _=>lO λ_ _=>rfl;obtain⟨f17,d17,i17⟩:=cC (ps:=["_law_number","_law_many"]) X G h17 λ_ _ _ _ _ _=>lO λ_ _=>rfl;obtain⟨f18,d18,i18⟩:=cC (ps:=["_law_end"]) X G h18 λ_ _ _ _ _ _=>mR λ_=>rfl;obtain⟨f19,d19,i19⟩:=cC (ps:=["_law_ties","_law_end"]) X G h19 λ_ _ _ _ _ _=>lO λ_ _=>rfl;obtain⟨f20,d20,i20⟩:=cC (ps:=["_law_ties","_law_orders_here","_law_end"]) X G h20 λ_ _ _ _ _ _=>GE λ_ _ _=>rfl;obtain⟨f21,d21,i21⟩:=cC (ps:=["_law_ties","_law_orders_here"]) X G h21 λ_ _ _ _ _ _=>lO λ_ _=>rfl;obtain⟨f22,d22,i22⟩:=cC (ps:=["_law_land","_law_corners","_law_lefts"]) X G h22 λ_ _ _ _ _ _=>GE λ_ _ _=>rfl;obtain⟨f23,d23,i23⟩:=cC (ps:=["_law_size","_law_point","_law_head"]) X G h23 λ_ _ _ _ _ _=>GE λ_ _ _=>rfl;obtain⟨f24,d24,i24⟩:=cC (ps:=["_law_script","_law_size"]) X G h24 λ_ _ _ _ _ _=>lO λ_ _=>rfl;obtain⟨f25,d25,i25⟩:=cC (ps:=["_law_script","_law_ways_here","_law_come"]) X G h25 λ_ _ _ _ _ _=>GE λ_ _ _=>rfl;obtain⟨f26,d26,i26⟩:=cC (ps:=["_law_ways_here","_law_places","_law_point","_law_head","_law_gone"]) X G h26 λ_ _ _ _ _ _=>S3 λ_ _ _ _ _=>rfl;obtain⟨f27,d27,i27⟩:=cC (ps:=["_law_line_here"]) X G h27 λ_ _ _ _ _ _=>mR λ_=>rfl;obtain⟨f28,d28,i28⟩:=cC (ps:=["_law_line_here"]) X G h28 λ_ _ _ _ _ _=>mR λ_=>rfl;obtain⟨f29,d29,i29⟩:=cC (ps:=["_law_lines"]) X G h29 λ_ _ _ _ _ _=>mR λ_=>rfl;obtain⟨f30,d30,i30⟩:=cC (ps:=["_law_script"]) X G h30 λ_ _ _ _ _ _=>mR λ_=>rfl;obtain⟨f31,d31,i31⟩:=cC (ps:=["_law_web","_law_drawing"]) X G h31 λ_ _ _ _ _ _=>lO λ_ _=>rfl;obtain⟨f32,d32,i32⟩:=cC (ps:=["_law_web","_law_shape"]) X G h32 λ_ _ _ _ _ _=>lO λ_ _=>rfl;obtain⟨f33,d33,i33⟩:=cC (ps:=["_law_web","_law_shape","_law_cell","_law_many"]) X G h33 λ_ _ _ _ _ _=>S4 λ_ _ _ _=>rfl;obtain⟨f34,d34,i34⟩:=cC (ps:=["_law_web","_law_shape"]) X G h34 λ_ _ _ _ _ _=>lO λ_ _=>rfl;obtain⟨f35,d35,i35⟩:=cC (ps:=["_law_web","_law_shape"]) X G h35 λ_ _ _ _ _ _=>lO λ_ _=>rfl;obtain⟨f36,d36,i36⟩:=cC (ps:=["_law_script"]) X G h36 λ_ _ _ _ _ _=>mR λ_=>rfl;obtain⟨f37,d37,i37⟩:=cC (ps:=["_law_found"]) X G h37 λ_ _ _ _ _ _=>mR λ_=>rfl;obtain⟨f38,d38,i38⟩:=cC (ps:=["_law_laid_here"]) X G h38 λ_ _ _ _ _ _=>mR λ_=>rfl;obtain⟨f39,d39,i39⟩:=cC (ps:=["_law_laid_here","_law_orders_here","_law_end"]) X G h39 λ_ _ _ _ _ _=>GE λ_ _ _=>rfl;obtain⟨f40,d40,i40,bL⟩:=QB (ps:=["_law_script"]) X G h40 λ_ _ _ _ _ _=>mR λ_=>rfl;have e:=hfa.symm.trans i40.m;cases e;have T:Txt K mg ⟨cA,tp,eJ,f0,d0,f1,d1,f2,d2,f3,d3,f4,d4,f5,d5,f6,d6,f7,d7,f8,d8,f9,d9,f10,d10,f11,d11,f12,d12,f13,d13,f14,d14,f15,d15,f16,d16,f17,d17,f18,d18,f19,d19,f20,d20,f21,d21,f22,d22,f23,d23,f24,d24,f25,d25,f26,d26,f27,d27,f28,d28,f29,d29,f30,d30,f31,d31,f32,d32,f33,d33,f34,d34,f35,d35,f36,d36,f37,d37,f38,d38,f39,d39,fa,d40⟩:=⟨i0,i1,i2,i3,i4,i5,i6,i7,i8,i9,i10,i11,i12,i13,i14,i15,i16,i17,i18,i19,i20,i21,i22,i23,i24,i25,i26,i27,i28,i29,i30,i31,i32,i33,i34,i35,i36,i37,i38,i39,i40,PySem.W.mg_none_of X G z0,PySem.W.mg_none_of X G z1,PySem.W.mg_none_of X G z2,PySem.W.mg_none_of X G z3,PySem.W.mg_none_of X G z4,PySem.W.mg_none_of X G z5,PySem.W.mg_none_of X G z6,PySem.W.mg_none_of X G z7,PySem.W.mg_none_of X G z8,PySem.W.mg_none_of X G z9,PySem.W.mg_none_of X G z10,PySem.W.mg_of X G cZ,G2.of i12.F i12.m (PySem.W.mg_of X G aM) lM hM⟩
 exact⟨_,cA,tp,λs v=>bL s [v] rfl,OE aM lM hM lcA hvA,λbase _ _ hC hB=>PQ T ⟨hC,hB⟩⟩
theorem walk{l:PySem.W.OpenLaw}{q:Program}{loose:List Str}{XP:(Str->Option Value)->Heap->Prop}{YP:World->Heap->Prop}{d dm:DefRec}{K:Params->PySem.W.Frag}(hn:l.most=some 63)(hdf:d.params.defaults=[])
  (hf:(PyProof.Rows.recsOf q).find? (λe=>e.name==("map_of" : Str))=some dm) (hN:∀w:World,PySem.W.noTabs (K w.params)=true) (hY:∀(w:World) (h:Heap),YP w h->(K w.params).In h)
  (F:∀(w:World) (mg:Str->Option Value) (fa:Addr) (h:Heap),(K w.params).In h->h.Ns ZV mg->mg d.name=some (.ref fa) ->
   ∃(fd:FuncData) (cA tp:Addr),(∀(s:Shared) (u:Value),BindsTo s fd ⟨[u],[]⟩ [("_law_script",u)])/\PySem.W.tabIn (K w.params) "map_of" = some (cA,tp)/\∀base:Heap,(K w.params).In base->base.Ns ZV mg->PySem.W.CodeHd base cA tp->base.BuiltinsAt mg tp->cU l.prog w (K w.params) mg base CX0 lawK fa fd ["_law_script"] (EA tp (K w.params))) :
  PySem.W.WalkO q loose XP YP l.row.toRowW d [] (λf vs=>PySem.call f vs) :=
 L2.HI (n:=63) (k:=lawK) (x:="_law_script") (sp:=λtp K=>EA tp K) hn (by decide) hdf ⟨rfl,by decide,by decide⟩ hf hN hY F λtp _ _ a ns hl ht hS=>⟨a,ns,rfl,hS,hl,⟨_,ht,trivial,.inl rfl⟩,λ_=>rfl⟩
end K36
open PySem PySem.W PyProof.Rows
set_option maxRecDepth 100000 in
set_option maxHeartbeats 0 in
theorem PySem.Challenge.cw_fewbends_k36_corners_and_outer_land_holds : PySem.Challenge.rw_fewbends_k36_corners_and_outer_land.Holds := by
 w_on;o_law;k_head;(case hw=>w_witness2)
 k_fill
 refine K36.walk (l:=PySem.Challenge.rw_fewbends_k36_corners_and_outer_land) rfl rfl rfl (λw=>by kernel_rfl) (λw h Y=>PySem.W.km_in_of Y) ?F
 case F =>
  intro w mg fa h KX G hmg;refine' K36.all_mk KX G hmg ?hs ?z0 ?z1 ?z2 ?z3 ?z4 ?z5 ?z6 ?z7 ?z8 ?z9 ?z10 ?cZ ?aM ?lM ?hM ?lcA ?hvA
  (case hs=>refine⟨?_,?_,?_,?_,?_,?_,?_,?_,?_,?_,?_,?_,?_,?_,?_,?_,?_,?_,?_,?_,?_,?_,?_,?_,?_,?_,?_,?_,?_,?_,?_,?_,?_,?_,?_,?_,?_,?_,?_,?_,?_⟩<;>exact⟨_,by k_is,_,_,_,_,_,_,_,_,_,by k_is,by k_is,by k_is⟩)
  (case z0=>k_is);(case z1=>k_is);(case z2=>k_is);(case z3=>k_is);(case z4=>k_is);(case z5=>k_is);(case z6=>k_is);(case z7=>k_is);(case z8=>k_is);(case z9=>k_is);(case z10=>k_is)
  (case cZ=>k_is)
  (case aM=>k_is)
  (case lM=>k_is)
  (case hM=>rfl)
  (case lcA=>k_is)
  (case hvA=>rfl)
