import PyProof.Rows.All
import Wide.All
import OpenK.AllK
import Wide.FinOn
import Lean
import PyProof.EqAt
import PyProof.EqKinds
import PyProof.TupleCall
import KE.BitLaws
import KE.KSortTup
import KE.KLam
import KE.KSortKey
import KE.KFind
import PyProof.FactsAll.range_1
import PyProof.MeetsSeq3
import PyProof.FactsAll.list_2
import PyProof.Rows.SortRuns
import PyProof.Rows.SortShell
import PyProof.Rows.SortRev
import PyProof.Rows.SortWalk
import PyProof.FactsAll.tuple_1
import PyProof.DictItems
import KE.KDictSum
import PyProof.SetKind
import PyProof.TupleKey
import PyProof.IsRules
import PyProof.DictKinds
import PyProof.Rows.SetFrom
import PyProof.FactsAll.set_1
import PyProof.FactsAll.set_2
import PySem.Challenge.RW_fewbends_k49_whole_rows_in_a_full_grid
open PySem renaming wpAny_bind->ZZ,wpAny_pure->ZY,wpAny_mono->ZX,sizeLine->ZW,mainGlobals->ZV,wpAny_holding->ZU
open Classical renaming byContradiction->ZT
open List renaming length_map->Zq,getElem?_eq_getElem->Zz,getElem?_eq_some_iff->Zj,getElem?_map->Zk,getD_eq_getElem?_getD->Zv,mem_cons_of_mem->Zw,getElem?_append_left->Zx,getElem?_append_right->Zy,mem_of_getElem?->Zg,mem_map->Zh,mem_singleton->Zb,mem_cons_self->Zd,mem_append->Zf,length_append->Zm,mem_cons->Zn,getElem_mem->Zp,getElem?_eq_none->Zr,mem_range->Zs,map_append->Zt,length_singleton->ZQ,length_cons->Yq,mem_filter->Yz,length_range->Yj,getElem?_range->Yk,take_length->Yv,length_take->Yw,getElem?_concat_length->Yx,mem_iff_getElem->Yy,length_eq_zero_iff->Yg,map_map->Yh,append_assoc->Yb,eq_nil_of_length_eq_zero->Yd,length_drop->Yf,mem_map_of_mem->Ym,map_congr_left->Yn,ext_getElem?->Yp
open Nat renaming le_trans->Yr,lt_of_le_of_lt->Ys,lt_of_lt_of_le->Yt,lt_succ_of_lt->YQ,lt_or_ge->Xq
open Option renaming map_eq_some_iff->Xz
open Int renaming emod_nonneg->Xj,emod_lt_of_pos->Xk,eq_ofNat_of_zero_le->Xv
open Bool renaming and_eq_true->Xw,eq_iff_iff->Xx
set_option Elab.async false
set_option linter.all false
set_option maxRecDepth 100000
section
variable{A B C D E F G H I J:Type}
theorem xPP{K L R:Prop}(k:K)(l:L)(r:R):K/\L/\R:=⟨k,l,r⟩
theorem xWP{K R:A->Prop}(a:A)(k:K a)(r:R a):∃a,K a/\R a:=⟨a,k,r⟩
theorem mO{K L M R:Prop}(k:K)(l:L)(m:M)(r:R):K/\L/\M/\R:=⟨k,l,m,r⟩
theorem yU{K L R:A->Prop}(a:A)(k:K a)(l:L a)(r:R a):∃a,K a/\L a/\R a:=⟨a,k,l,r⟩
theorem qF{K R:A->B->Prop}(a:A)(b:B)(k:K a b)(r:R a b):∃a b,K a b/\R a b:=⟨a,b,k,r⟩
theorem HG{K:Prop}{R:A->B->Prop}(k:K)(a:A)(b:B)(r:R a b):K/\∃a b,R a b:=⟨k,a,b,r⟩
theorem CC{R:A->B->C->Prop}(a:A)(b:B)(c:C)(r:R a b c):∃a b c,R a b c:=⟨a,b,c,r⟩
theorem mM{K:Prop}{L R:A->Prop}(k:K)(a:A)(l:L a)(r:R a):K/\∃a,L a/\R a:=⟨k,a,l,r⟩
theorem NC{K L:Prop}{M R:A->Prop}(k:K)(l:L)(a:A)(m:M a)(r:R a):K/\L/\∃a,M a/\R a:=⟨k,l,a,m,r⟩
theorem rN{K:A->Prop}{L R:A->B->Prop}(a:A)(k:K a)(b:B)(l:L a b)(r:R a b):∃a,K a/\∃b,L a b/\R a b:=⟨a,k,b,l,r⟩
theorem HJ{K L M N R:Prop}(k:K)(l:L)(m:M)(n:N)(r:R):K/\L/\M/\N/\R:=⟨k,l,m,n,r⟩
theorem QV{R:A->B->C->D->Prop}(a:A)(b:B)(c:C)(d:D)(r:R a b c d):∃a b c d,R a b c d:=⟨a,b,c,d,r⟩
theorem zY{K R:A->B->C->Prop}(a:A)(b:B)(c:C)(k:K a b c)(r:R a b c):∃a b c,K a b c/\R a b c:=⟨a,b,c,k,r⟩
theorem D7{K L M R:A->Prop}(a:A)(k:K a)(l:L a)(m:M a)(r:R a):∃a,K a/\L a/\M a/\R a:=⟨a,k,l,m,r⟩
theorem tP{K L R:A->B->Prop}(a:A)(b:B)(k:K a b)(l:L a b)(r:R a b):∃a b,K a b/\L a b/\R a b:=⟨a,b,k,l,r⟩
theorem QW{K:Prop}{L M R:A->Prop}(k:K)(a:A)(l:L a)(m:M a)(r:R a):K/\∃a,L a/\M a/\R a:=⟨k,a,l,m,r⟩
theorem NB{K:Prop}{L R:A->B->Prop}(k:K)(a:A)(b:B)(l:L a b)(r:R a b):K/\∃a b,L a b/\R a b:=⟨k,a,b,l,r⟩
theorem fQ{K L:A->Prop}{M R:A->B->Prop}(a:A)(k:K a)(l:L a)(b:B)(m:M a b)(r:R a b):∃a,K a/\L a/\∃b,M a b/\R a b:=xWP a k (mM l b m r)
theorem CB{K L R:A->B->C->Prop}(a:A)(b:B)(c:C)(k:K a b c)(l:L a b c)(r:R a b c):∃a b c,K a b c/\L a b c/\R a b c:=CC a b c (xPP k l r)
theorem gN{K:Prop}{L:A->Prop}{M R:A->B->Prop}(k:K)(a:A)(l:L a)(b:B)(m:M a b)(r:R a b):K/\∃a,L a/\∃b,M a b/\R a b:=mM k a l (xWP b m r)
theorem N3{K:Prop}{L M N R:A->Prop}(k:K)(a:A)(l:L a)(m:M a)(n:N a)(r:R a):K/\∃a,L a/\M a/\N a/\R a:=mM k a l (xPP m n r)
theorem bZ{K L M:Prop}{N R:A->Prop}(k:K)(l:L)(m:M)(a:A)(n:N a)(r:R a):K/\L/\M/\∃a,N a/\R a:=xPP k l (mM m a n r)
theorem N5{K L:Prop}{M N R:A->Prop}(k:K)(l:L)(a:A)(m:M a)(n:N a)(r:R a):K/\L/\∃a,M a/\N a/\R a:=xPP k l (yU a m n r)
theorem N1{K L M N R:A->Prop}(a:A)(k:K a)(l:L a)(m:M a)(n:N a)(r:R a):∃a,K a/\L a/\M a/\N a/\R a:=xWP a k (mO l m n r)
theorem gO{K L M N O R:Prop}(k:K)(l:L)(m:M)(n:N)(o:O)(r:R):K/\L/\M/\N/\O/\R:=xPP k l (mO m n o r)
theorem CD{K:Prop}{L M R:A->B->Prop}(k:K)(a:A)(b:B)(l:L a b)(m:M a b)(r:R a b):K/\∃a b,L a b/\M a b/\R a b:=HG k a b (xPP l m r)
theorem bO{K:A->Prop}{L M R:A->B->Prop}(a:A)(k:K a)(b:B)(l:L a b)(m:M a b)(r:R a b):∃a,K a/\∃b,L a b/\M a b/\R a b:=xWP a k (yU b l m r)
theorem N4{K L:Prop}{M R:A->B->Prop}(k:K)(l:L)(a:A)(b:B)(m:M a b)(r:R a b):K/\L/\∃a b,M a b/\R a b:=xPP k l (qF a b m r)
theorem HE{K R:A->B->C->D->Prop}(a:A)(b:B)(c:C)(d:D)(k:K a b c d)(r:R a b c d):∃a b c d,K a b c d/\R a b c d:=CC a b c (xWP d k r)
theorem aZ{K L M R:A->B->Prop}(a:A)(b:B)(k:K a b)(l:L a b)(m:M a b)(r:R a b):∃a b,K a b/\L a b/\M a b/\R a b:=qF a b k (xPP l m r)
theorem D9{K L:Prop}{M N R:A->B->Prop}(k:K)(l:L)(a:A)(b:B)(m:M a b)(n:N a b)(r:R a b):K/\L/\∃a b,M a b/\N a b/\R a b:=xPP k l (tP a b m n r)
theorem cE{K L M N R:A->B->Prop}(a:A)(b:B)(k:K a b)(l:L a b)(m:M a b)(n:N a b)(r:R a b):∃a b,K a b/\L a b/\M a b/\N a b/\R a b:=qF a b k (mO l m n r)
theorem D0{K L M N O R:A->Prop}(a:A)(k:K a)(l:L a)(m:M a)(n:N a)(o:O a)(r:R a):∃a,K a/\L a/\M a/\N a/\O a/\R a:=yU a k l (mO m n o r)
theorem K0{K:Prop}{L:A->Prop}{M R:A->B->C->Prop}(k:K)(a:A)(l:L a)(b:B)(c:C)(m:M a b c)(r:R a b c):K/\∃a,L a/\∃b c,M a b c/\R a b c:=mM k a l (qF b c m r)
theorem kC{K L M:Prop}{N O R:A->Prop}(k:K)(l:L)(m:M)(a:A)(n:N a)(o:O a)(r:R a):K/\L/\M/\∃a,N a/\O a/\R a:=mO k l m (yU a n o r)
theorem tE{K L M N O P R:Prop}(k:K)(l:L)(m:M)(n:N)(o:O)(p:P)(r:R):K/\L/\M/\N/\O/\P/\R:=mO k l m (mO n o p r)
theorem tD{K:Prop}{L M N R:A->B->Prop}(k:K)(a:A)(b:B)(l:L a b)(m:M a b)(n:N a b)(r:R a b):K/\∃a b,L a b/\M a b/\N a b/\R a b:=HG k a b (mO l m n r)
theorem j8{K L:A->B->Prop}{M R:A->B->C->Prop}(a:A)(b:B)(k:K a b)(l:L a b)(c:C)(m:M a b c)(r:R a b c):∃a b,K a b/\L a b/\∃c,M a b c/\R a b c:=qF a b k (mM l c m r)
theorem hV{K L M N:Prop}{O R:A->Prop}(k:K)(l:L)(m:M)(n:N)(a:A)(o:O a)(r:R a):K/\L/\M/\N/\∃a,O a/\R a:=mO k l m (mM n a o r)
theorem bF{K:A->Prop}{L M R:A->B->C->Prop}(a:A)(k:K a)(b:B)(c:C)(l:L a b c)(m:M a b c)(r:R a b c):∃a,K a/\∃b c,L a b c/\M a b c/\R a b c:=xWP a k (tP b c l m r)
theorem D8{K:Prop}{L M:A->Prop}{N R:A->B->Prop}(k:K)(a:A)(l:L a)(m:M a)(b:B)(n:N a b)(r:R a b):K/\∃a,L a/\M a/\∃b,N a b/\R a b:=mM k a l (mM m b n r)
theorem oF{K L M R:A->B->C->Prop}(a:A)(b:B)(c:C)(k:K a b c)(l:L a b c)(m:M a b c)(r:R a b c):∃a b c,K a b c/\L a b c/\M a b c/\R a b c:=CC a b c (mO k l m r)
theorem K1{K:Prop}{L:A->Prop}{M N R:A->B->Prop}(k:K)(a:A)(l:L a)(b:B)(m:M a b)(n:N a b)(r:R a b):K/\∃a,L a/\∃b,M a b/\N a b/\R a b:=mM k a l (yU b m n r)
theorem fZ{K:A->Prop}{L:A->B->Prop}{M R:A->B->C->Prop}(a:A)(k:K a)(b:B)(l:L a b)(c:C)(m:M a b c)(r:R a b c):∃a,K a/\∃b,L a b/\∃c,M a b c/\R a b c:=xWP a k (rN b l c m r)
theorem yT{K:A->B->Prop}{L R:A->B->C->D->Prop}(a:A)(b:B)(k:K a b)(c:C)(d:D)(l:L a b c d)(r:R a b c d):∃a b,K a b/\∃c d,L a b c d/\R a b c d:=qF a b k (qF c d l r)
theorem j9{K:A->Prop}{L M N R:A->B->Prop}(a:A)(k:K a)(b:B)(l:L a b)(m:M a b)(n:N a b)(r:R a b):∃a,K a/\∃b,L a b/\M a b/\N a b/\R a b:=xWP a k (D7 b l m n r)
theorem bR{K:A->Prop}{L:A->B->Prop}{M R:A->B->C->D->Prop}(a:A)(k:K a)(b:B)(l:L a b)(c:C)(d:D)(m:M a b c d)(r:R a b c d):∃a,K a/\∃b,L a b/\∃c d,M a b c d/\R a b c d:=rN a k b l (qF c d m r)
theorem oG{K:Prop}{L M N R:A->B->C->Prop}(k:K)(a:A)(b:B)(c:C)(l:L a b c)(m:M a b c)(n:N a b c)(r:R a b c):K/\∃a b c,L a b c/\M a b c/\N a b c/\R a b c:=HG k a b (D7 c l m n r)
theorem AA{K:A->Prop}{L M N O R:A->B->Prop}(a:A)(k:K a)(b:B)(l:L a b)(m:M a b)(n:N a b)(o:O a b)(r:R a b):∃a,K a/\∃b,L a b/\M a b/\N a b/\O a b/\R a b:=rN a k b l (mO m n o r)
theorem bG{K L M N R:A->B->C->Prop}(a:A)(b:B)(c:C)(k:K a b c)(l:L a b c)(m:M a b c)(n:N a b c)(r:R a b c):∃a b c,K a b c/\L a b c/\M a b c/\N a b c/\R a b c:=zY a b c k (mO l m n r)
theorem kZ{K:A->Prop}{L M:A->B->Prop}{N R:A->B->C->Prop}(a:A)(k:K a)(b:B)(l:L a b)(m:M a b)(c:C)(n:N a b c)(r:R a b c):∃a,K a/\∃b,L a b/\M a b/\∃c,N a b c/\R a b c:=rN a k b l (mM m c n r)
theorem HH{K L:Prop}{M N R:A->B->C->Prop}(k:K)(l:L)(a:A)(b:B)(c:C)(m:M a b c)(n:N a b c)(r:R a b c):K/\L/\∃a b c,M a b c/\N a b c/\R a b c:=xPP k l (CB a b c m n r)
theorem fH{K L:Prop}{M R:A->B->C->D->Prop}(k:K)(l:L)(a:A)(b:B)(c:C)(d:D)(m:M a b c d)(r:R a b c d):K/\L/\∃a b c d,M a b c d/\R a b c d:=xPP k l (HE a b c d m r)
theorem cB{R:A->B->C->D->E->F->G->Prop}(a:A)(b:B)(c:C)(d:D)(e:E)(f:F)(g:G)(r:R a b c d e f g):∃a b c d e f g,R a b c d e f g:=CC a b c (QV d e f g r)
theorem jL{K L:A->Prop}{M R:A->B->C->D->Prop}(a:A)(k:K a)(l:L a)(b:B)(c:C)(d:D)(m:M a b c d)(r:R a b c d):∃a,K a/\L a/\∃b c d,M a b c d/\R a b c d:=yU a k l (zY b c d m r)
theorem gH{K L M:A->B->Prop}{N R:A->B->C->Prop}(a:A)(b:B)(k:K a b)(l:L a b)(m:M a b)(c:C)(n:N a b c)(r:R a b c):∃a b,K a b/\L a b/\M a b/\∃c,N a b c/\R a b c:=qF a b k (NC l m c n r)
theorem jN{K:Prop}{L M:A->B->Prop}{N R:A->B->C->Prop}(k:K)(a:A)(b:B)(l:L a b)(m:M a b)(c:C)(n:N a b c)(r:R a b c):K/\∃a b,L a b/\M a b/\∃c,N a b c/\R a b c:=NB k a b l (mM m c n r)
theorem AC{K L M:Prop}{N O P R:A->Prop}(k:K)(l:L)(m:M)(a:A)(n:N a)(o:O a)(p:P a)(r:R a):K/\L/\M/\∃a,N a/\O a/\P a/\R a:=mO k l m (D7 a n o p r)
theorem jK{K L M N O R:A->B->Prop}(a:A)(b:B)(k:K a b)(l:L a b)(m:M a b)(n:N a b)(o:O a b)(r:R a b):∃a b,K a b/\L a b/\M a b/\N a b/\O a b/\R a b:=qF a b k (HJ l m n o r)
theorem dI{K L M N O P Q R:Prop}(k:K)(l:L)(m:M)(n:N)(o:O)(p:P)(q:Q)(r:R):K/\L/\M/\N/\O/\P/\Q/\R:=mO k l m (HJ n o p q r)
theorem fG{K:Prop}{L M R:A->B->C->D->Prop}(k:K)(a:A)(b:B)(c:C)(d:D)(l:L a b c d)(m:M a b c d)(r:R a b c d):K/\∃a b c d,L a b c d/\M a b c d/\R a b c d:=HG k a b (tP c d l m r)
theorem AB{K L M N O P R:A->Prop}(a:A)(k:K a)(l:L a)(m:M a)(n:N a)(o:O a)(p:P a)(r:R a):∃a,K a/\L a/\M a/\N a/\O a/\P a/\R a:=yU a k l (HJ m n o p r)
theorem bM{K:A->Prop}{L M N R:A->B->C->Prop}(a:A)(k:K a)(b:B)(c:C)(l:L a b c)(m:M a b c)(n:N a b c)(r:R a b c):∃a,K a/\∃b c,L a b c/\M a b c/\N a b c/\R a b c:=xWP a k (aZ b c l m n r)
theorem fF{K:A->Prop}{L M R:A->B->C->D->Prop}(a:A)(k:K a)(b:B)(c:C)(d:D)(l:L a b c d)(m:M a b c d)(r:R a b c d):∃a,K a/\∃b c d,L a b c d/\M a b c d/\R a b c d:=xWP a k (CB b c d l m r)
theorem zZ{K L:A->B->Prop}{M N R:A->B->C->Prop}(a:A)(b:B)(k:K a b)(l:L a b)(c:C)(m:M a b c)(n:N a b c)(r:R a b c):∃a b,K a b/\L a b/\∃c,M a b c/\N a b c/\R a b c:=qF a b k (QW l c m n r)
theorem tQ{K:Prop}{L:A->Prop}{M:A->B->Prop}{N R:A->B->C->Prop}(k:K)(a:A)(l:L a)(b:B)(m:M a b)(c:C)(n:N a b c)(r:R a b c):K/\∃a,L a/\∃b,M a b/\∃c,N a b c/\R a b c:=mM k a l (rN b m c n r)
theorem cU{K:A->B->Prop}{L M R:A->B->C->D->Prop}(a:A)(b:B)(k:K a b)(c:C)(d:D)(l:L a b c d)(m:M a b c d)(r:R a b c d):∃a b,K a b/\∃c d,L a b c d/\M a b c d/\R a b c d:=qF a b k (tP c d l m r)
theorem bE{K R:A->B->C->D->E->F->Prop}(a:A)(b:B)(c:C)(d:D)(e:E)(f:F)(k:K a b c d e f)(r:R a b c d e f):∃a b c d e f,K a b c d e f/\R a b c d e f:=CC a b c (zY d e f k r)
theorem HI{K L:Prop}{M N:A->Prop}{O R:A->B->Prop}(k:K)(l:L)(a:A)(m:M a)(n:N a)(b:B)(o:O a b)(r:R a b):K/\L/\∃a,M a/\N a/\∃b,O a b/\R a b:=NC k l a m (mM n b o r)
theorem tS{K L M:Prop}{N:A->Prop}{O R:A->B->Prop}(k:K)(l:L)(m:M)(a:A)(n:N a)(b:B)(o:O a b)(r:R a b):K/\L/\M/\∃a,N a/\∃b,O a b/\R a b:=mO k l m (rN a n b o r)
theorem iC{K:Prop}{L:A->Prop}{M N R:A->B->C->Prop}(k:K)(a:A)(l:L a)(b:B)(c:C)(m:M a b c)(n:N a b c)(r:R a b c):K/\∃a,L a/\∃b c,M a b c/\N a b c/\R a b c:=mM k a l (tP b c m n r)
theorem fE{K L R:A->B->C->D->E->Prop}(a:A)(b:B)(c:C)(d:D)(e:E)(k:K a b c d e)(l:L a b c d e)(r:R a b c d e):∃a b c d e,K a b c d e/\L a b c d e/\R a b c d e:=CC a b c (tP d e k l r)
theorem dH{K L:A->B->Prop}{M R:A->B->C->D->Prop}(a:A)(b:B)(k:K a b)(l:L a b)(c:C)(d:D)(m:M a b c d)(r:R a b c d):∃a b,K a b/\L a b/\∃c d,M a b c d/\R a b c d:=qF a b k (NB l c d m r)
theorem oH{K:Prop}{L:A->Prop}{M R:A->B->C->D->Prop}(k:K)(a:A)(l:L a)(b:B)(c:C)(d:D)(m:M a b c d)(r:R a b c d):K/\∃a,L a/\∃b c d,M a b c d/\R a b c d:=mM k a l (zY b c d m r)
theorem jM{K L:A->Prop}{M:A->B->Prop}{N R:A->B->C->Prop}(a:A)(k:K a)(l:L a)(b:B)(m:M a b)(c:C)(n:N a b c)(r:R a b c):∃a,K a/\L a/\∃b,M a b/\∃c,N a b c/\R a b c:=yU a k l (rN b m c n r)
theorem HF{K:A->Prop}{L:A->B->Prop}{M N R:A->B->C->Prop}(a:A)(k:K a)(b:B)(l:L a b)(c:C)(m:M a b c)(n:N a b c)(r:R a b c):∃a,K a/\∃b,L a b/\∃c,M a b c/\N a b c/\R a b c:=rN a k b l (yU c m n r)
theorem bY{K L M:Prop}{N O R:A->B->Prop}(k:K)(l:L)(m:M)(a:A)(b:B)(n:N a b)(o:O a b)(r:R a b):K/\L/\M/\∃a b,N a b/\O a b/\R a b:=mO k l m (tP a b n o r)
theorem aI{K:A->Prop}{L R:A->B->C->D->E->Prop}(a:A)(k:K a)(b:B)(c:C)(d:D)(e:E)(l:L a b c d e)(r:R a b c d e):∃a,K a/\∃b c d e,L a b c d e/\R a b c d e:=xWP a k (HE b c d e l r)
theorem k6{K:Prop}{L R:A->B->C->D->E->Prop}(k:K)(a:A)(b:B)(c:C)(d:D)(e:E)(l:L a b c d e)(r:R a b c d e):K/\∃a b c d e,L a b c d e/\R a b c d e:=HG k a b (zY c d e l r)
theorem aS{K L M R:A->B->C->D->Prop}(a:A)(b:B)(c:C)(d:D)(k:K a b c d)(l:L a b c d)(m:M a b c d)(r:R a b c d):∃a b c d,K a b c d/\L a b c d/\M a b c d/\R a b c d:=CC a b c (D7 d k l m r)
theorem tR{K L:Prop}{M N O R:A->B->Prop}(k:K)(l:L)(a:A)(b:B)(m:M a b)(n:N a b)(o:O a b)(r:R a b):K/\L/\∃a b,M a b/\N a b/\O a b/\R a b:=xPP k l (aZ a b m n o r)
end
namespace L2
open PySem PySem.Spec PyProof.Rows
abbrev Key:=Sum Int Str
def xS:Key->Value->Bool
 |.inl k,v=>Value.isInt k v
 |.inr x,v=>Value.isStrOf x v
def S9(w:World):Key->Int
 |.inl k=>hashInt k
 |.inr x=>hashStr w x
theorem c7:∀{k:Key}{v:Value},xS k v=true->(∃i t,k=Sum.inl i/\v=Value.int i t)\/(∃x t,k=Sum.inr x/\v=Value.str x t)
 |.inl i,v,h=>by
  obtain⟨t,e⟩:=Value.isInt_shape (k:=i) (v:=v) h;exact .inl ⟨i,t,rfl,e⟩
 |.inr x,v,h=>by
  obtain⟨t,e⟩:=Value.isStrOf_shape (x:=x) (v:=v) h;exact .inr ⟨x,t,rfl,e⟩
theorem GO(i:Int)(t:Tok):xS (.inl i) (.int i t)=true:=by simp[xS,Value.isInt]
theorem GN(x:Str)(t:Tok):xS (.inr x) (.str x t)=true:=by simp[xS,Value.isStrOf]
theorem P4(a b:Int):decide ((Sum.inl a:Key)=Sum.inl b)=(a==b):=by
 by_cases e:a=b
 ·subst e;simp
 ·have h:¬(Sum.inl a:Key)=Sum.inl b:=λq=>e (Sum.inl.inj q);rw[decide_eq_false h];exact(beq_eq_false_iff_ne.mpr e).symm
theorem P1(a b:Str):decide ((Sum.inr a:Key)=Sum.inr b)=decide (a=b):=by
 by_cases e:a=b
 ·subst e;simp
 ·have h:¬(Sum.inr a:Key)=Sum.inr b:=λq=>e (Sum.inr.inj q);rw[decide_eq_false h,decide_eq_false e]
theorem P3(a:Int)(b:Str):decide ((Sum.inl a:Key)=Sum.inr b)=false:=decide_eq_false (λq=>nomatch q)
theorem P2(a:Str)(b:Int):decide ((Sum.inr a:Key)=Sum.inl b)=false:=decide_eq_false (λq=>nomatch q)
def dA(prog:Program)(w:World):PySem.KeyKind prog w Key where
 is:=xS
 hash:=S9 w
 inj:=λv a b ha hb=>by
  rcases c7 ha with⟨i,t,rfl,rfl⟩ | ⟨x,t,rfl,rfl⟩
  ·rcases c7 hb with⟨j,u,rfl,e⟩ | ⟨y,u,rfl,e⟩
   ·injection e with e1 _;rw[e1]
   ·exact nomatch e
  ·rcases c7 hb with⟨j,u,rfl,e⟩ | ⟨y,u,rfl,e⟩
   ·exact nomatch e
   ·injection e with e1 _;rw[e1]
 byValue:=λk v h=>by
  rcases c7 h with⟨i,t,rfl,rfl⟩ | ⟨x,t,rfl,rfl⟩<;>rfl
 pyHash:=λhv h=>by
  rcases c7 hv with⟨i,t,rfl,rfl⟩ | ⟨x,t,rfl,rfl⟩
  ·exact wpAny_pyHash_int h
  ·exact wpAny_pyHash_str h
 eqBool:=λhu hv h=>by
  rcases c7 hu with⟨i,t,rfl,rfl⟩ | ⟨x,t,rfl,rfl⟩
  ·rcases c7 hv with⟨j,u,rfl,rfl⟩ | ⟨y,u,rfl,rfl⟩
   ·rw[P4]at h;exact wpAny_eqBool_int h
   ·rw[P3]at h;exact SeqAt.EqAt.int_str i t y u _ _ _ _ h
  ·rcases c7 hv with⟨j,u,rfl,rfl⟩ | ⟨y,u,rfl,rfl⟩
   ·rw[P2]at h;exact SeqAt.EqAt.str_int x t j u _ _ _ _ h
   ·rw[P1]at h;exact wpAny_eqBool_str h
 «strs»:=λk x t v h=>by
  rcases c7 h with⟨i,u,rfl,e⟩ | ⟨y,u,rfl,e⟩
  ·exact nomatch e
  ·injection e with e1 _;subst e1;cases v<;>rfl
theorem A8(prog:Program)(w:World)(i:Int)(t:Tok):(dA prog w).is (.inl i) (.int i t)=true:=GO i t
theorem A7(prog:Program)(w:World)(x:Str)(t:Tok):(dA prog w).is (.inr x) (.str x t)=true:=GN x t
inductive V where
 |non | bl (b:Bool) | int (i:Int) | str (x:Str) | byt (b:Array UInt8) | flt (b:UInt64) | ref (a:Addr) | ty (n:String)
 deriving DecidableEq
def RelV:V->Value->Prop
 |.non,u=>u=Value.none
 |.bl b,u=>u=Value.bool b
 |.int i,u=>∃t,u=Value.int i t
 |.str x,u=>∃t,u=Value.str x t
 |.byt b,u=>∃t,u=Value.bytes b t
 |.flt b,u=>∃t,u=Value.float b t
 |.ref a,u=>u=Value.ref a
 |.ty n,u=>u=Value.type n
abbrev bI:List V->List Value->Prop:=Paired RelV
theorem bI.length{xs:List V}{us:List Value}(r:bI xs us):xs.length=us.length:=Paired.length r
theorem bI.get:∀{xs:List V}{us:List Value}{i:Nat}{x:V},bI xs us->xs[i]?=some x->∃u,us[i]?=some u/\RelV x u
 |_,_,_,_,.nil,e=>by simp at e
 |_,_,0,_,.cons r _,e=>by simp at e;subst e;exact⟨_,rfl,r⟩
 |_,_,i+1,x,.cons _ t,e=>by
  obtain⟨u,h1,h2⟩:=bI.get (i:=i) (x:=x) t (by simpa using e);exact⟨u,by simpa using h1,h2⟩
theorem bI.set{x:V}{u:Value}(r:RelV x u):∀{xs:List V}{us:List Value}(i:Nat),bI xs us->bI (xs.set i x) (us.set i u)
 |_,_,_,.nil=>.nil
 |_,_,0,.cons _ t=>.cons r t
 |_,_,i+1,.cons q t=>.cons q (bI.set r i t)
theorem bI.append:∀{xs ys:List V}{us ws:List Value},bI xs us->bI ys ws->bI (xs++ys) (us++ws)
 |_,_,_,_,.nil,s=>s
 |_,_,_,_,.cons r t,s=>.cons r (bI.append t s)
theorem bI.take:∀{xs:List V}{us:List Value}(n:Nat),bI xs us->bI (xs.take n) (us.take n)
 |_,_,0,_=>.nil
 |_,_,_+1,.nil=>.nil
 |_,_,n+1,.cons r t=>.cons r (bI.take n t)
theorem bI.drop:∀{xs:List V}{us:List Value}(n:Nat),bI xs us->bI (xs.drop n) (us.drop n)
 |_,_,0,r=>r
 |_,_,_+1,.nil=>.nil
 |_,_,n+1,.cons _ t=>bI.drop n t
def wI:Option V->Option Value->Prop
 |some v,some u=>RelV v u
 |none,none=>True
 |_,_=>False
def KV{κ:Type}:List (κ×V)->List (κ×Value)->Prop:=Paired λ(p:κ×V) (q:κ×Value)=>p.1=q.1/\RelV p.2 q.2
def kV:Key->V
 |.inl i=>.int i
 |.inr x=>.str x
inductive HO where
 |lst (xs:List V)
 |tup (xs:List V)
 |dK (kvs:List (Key×V)) | dT (kvs:List (List Key×V))
 |set (S:Int->Bool) (n:Nat)
 |ins (C dx:Addr) (fs:List (Str×V))
 |own (x:Addr)
 |xd (fs:List (Str×V))
 |met (f x:Addr)
 |rng (lo hi:Int)
 |frz (o:Obj) (u:HO)
 |tbl (ps:Array Value)
 |ext (φ:Heap->Prop)
abbrev Hp:=Addr->Option HO
def upd(H:Hp)(a:Addr)(o:HO):Hp:=λb=>if b=a then some o else H b
theorem aE{H:Hp}{a:Addr}{o:HO}:upd H a o a=some o:=by unfold upd;rw[if_pos rfl]
theorem aL{H:Hp}{a b:Addr}{o:HO}(h:b≠a):upd H a o b=H b:=by unfold upd;rw[if_neg h]
theorem kD{H:Hp}{a:Addr}{o u:HO}:upd (upd H a o) a u=upd H a u:=by
 funext b;unfold upd;split<;>rfl
theorem rW{H:Hp}{a b:Addr}{o u:HO}(h:H a=some o)(h':H b=some u)(d:o≠u):a≠b:=by
 intro e;subst e;rw[h]at h';exact d (Option.some.inj h')
theorem aP{H:Hp}{a b:Addr}{o:HO}(h:H a=some o)(h':H b=none):a≠b:=by
 intro e;subst e;rw[h]at h';cases h'
section
variable(P:Program)(w:World)
def cH(H:Hp)(h:Heap)(a:Addr):HO->Prop
 |.lst xs=>xs.length<=ZW/\∃(its:List Value) (n:Nat),bI xs its/\h.get? a=some { cls:=.type "list",data:=.seq its.toArray n }
 |.tup xs=>xs.length<=ZW/\∃its:List Value,bI xs its/\IsTup h a its.toArray
 |.dK kvs=>kvs.length<=ZW/\(a==sysModules)=false/\∃vs,KV kvs vs/\h.DictOf (dA P w) a vs
 |.dT kvs=>kvs.length<=ZW/\(a==sysModules)=false/\∃xs:List (List Key×Addr×Value),
   Paired (λ(p:List Key×V) (q:List Key×Addr×Value)=>p.1=q.1/\H q.2.1=some (.tup (p.1.map kV))/\RelV p.2 q.2.2) kvs xs /\
   ∃o es ep,h.get? a=some o/\o.ExactDict/\o.data=.dict es ep/\es.toList=xs.map (entryOfKey (tupleKind (dA P w)))/\(xs.map (·.1)).Nodup
 |.set S n=>h.SetOf (intKind P w) a S n
 |.ins C dx fs=>H dx=some (.own a)/\fs.length<=1000/\dx≠a/\h.get? a=some (PySem.W.instObj C dx) /\
   ∃mA,h.Ns1 dx mA/\(∀f,wI (fs.lookup f) (mA f))/\PySem.Within mA (fs.map (·.1))
 |.own _=>∃o,h.get? a=some o
 |.xd fs=>∃mA,h.Ns1 a mA/\∀f,wI (fs.lookup f) (mA f)
 |.rng lo hi=>∃t u v,h.get? a=some { cls:=.type "range",data:=.fields #[.int lo t,.int hi u,.int 1 v] }
 |.frz o u=>h.get? a=some o/\cH H h a u
 |.tbl ps=>h.get? a=some { cls:=.none,data:=.fields ps }
 |.met f x=>h.get? a=some (PySem.W.methodObj (.ref f) (.ref x))
 |.ext φ=>φ h/\(∃o,h.get? a=some o)/\∀h1 h2:Heap,φ h1->(∀o,h1.get? a=some o->h2.get? a=some o)->φ h2
def HOk(H:Hp)(h:Heap):Prop:=∀a o,H a=some o->cH P w H h a o
end
section
variable{P:Program}{w:World}{H H':Hp}{h h':Heap}{a:Addr}{o:HO}
theorem cH.lt(x:cH P w H h a o):a<h.objs.size:=by
 cases o with
 |lst xs=>obtain⟨_,_,_,_,e⟩:=x;exact Heap.lt_size e
 |tup xs=>obtain⟨_,_,_,p⟩:=x;exact p.lt
 |dK kvs=>obtain⟨_,_,_,_,o,_,_,e,_⟩:=x;exact Heap.lt_size e
 |dT kvs=>obtain⟨_,_,_,_,o,_,_,e,_⟩:=x;exact Heap.lt_size e
 |set S n=>obtain⟨o,_,_,_,e,_⟩:=x;exact Heap.lt_size e
 |ins C dx fs=>obtain⟨_,_,_,e,_⟩:=x;exact Heap.lt_size e
 |own y=>obtain⟨_,e⟩:=x;exact Heap.lt_size e
 |xd fs=>obtain⟨_,⟨_,_,_,e,_⟩,_⟩:=x;exact Heap.lt_size e
 |rng lo hi=>obtain⟨_,_,_,e⟩:=x;exact Heap.lt_size e
 |frz ob u=>obtain⟨e,_⟩:=x;exact Heap.lt_size e
 |tbl ps=>exact Heap.lt_size (show h.get? a=some _ from x)
 |met f y=>exact Heap.lt_size (show h.get? a=some _ from x)
 |ext φ=>obtain⟨_,⟨_,e⟩,_⟩:=x;exact Heap.lt_size e
theorem Paired.mapP{α β:Type}{F G:α->β->Prop}:∀{l₁:List α}{l₂:List β},Paired F l₁ l₂->(∀a b,F a b->G a b)->Paired G l₁ l₂
 |_,_,.nil,_=>.nil
 |_,_,.cons r t,f=>.cons (f _ _ r) (Paired.mapP t f)
theorem cH.stay(x:cH P w H h a o)(k:∀b u,(b=a\/H b=some (.own a))->h.get? b=some u->h'.get? b=some u)
  (ho:∀b,H b=some (.own a)->H' b=some (.own a)) (ht:∀b xs,H b=some (.tup xs)->H' b=some (.tup xs)):cH P w H' h' a o:=by
 induction o with
 |lst xs=>obtain⟨z,its,n,r,e⟩:=x;exact⟨z,its,n,r,k _ _ (.inl rfl) e⟩
 |tup xs=>obtain⟨z,its,r,ob,e,c⟩:=x;exact⟨z,its,r,ob,k _ _ (.inl rfl) e,c⟩
 |dK kvs=>obtain⟨z,y,vs,r,ob,es,ep,e,c⟩:=x;exact⟨z,y,vs,r,ob,es,ep,k _ _ (.inl rfl) e,c⟩
 |dT kvs =>
  obtain⟨z,y,xs,r,ob,es,ep,e,c⟩:=x;exact⟨z,y,xs,Paired.mapP r λp q z=>⟨z.1,ht _ _ z.2.1,z.2.2⟩,ob,es,ep,k _ _ (.inl rfl) e,c⟩
 |set S n=>obtain⟨ob,es,ep,t,e,c⟩:=x;exact⟨ob,es,ep,t,k _ _ (.inl rfl) e,c⟩
 |ins C dx fs =>
  obtain⟨d,z,ne,e,mA,⟨od,es,ep,e2,c⟩,r⟩:=x;exact⟨ho _ d,z,ne,k _ _ (.inl rfl) e,mA,⟨od,es,ep,k _ _ (.inr d) e2,c⟩,r⟩
 |own y=>obtain⟨ob,e⟩:=x;exact⟨ob,k _ _ (.inl rfl) e⟩
 |xd fs=>obtain⟨mA,⟨od,es,ep,e,c⟩,r⟩:=x;exact⟨mA,⟨od,es,ep,k _ _ (.inl rfl) e,c⟩,r⟩
 |rng lo hi=>obtain⟨t,u,v,e⟩:=x;exact⟨t,u,v,k _ _ (.inl rfl) e⟩
 |frz ob u ih=>obtain⟨e,q⟩:=x;exact⟨k _ _ (.inl rfl) e,ih q⟩
 |tbl ps =>
  have e:h.get? a=some { cls:=.none,data:=.fields ps }:=x;show h'.get? a=some { cls:=.none,data:=.fields ps };exact k a _ (.inl rfl) e
 |met f y =>
  have e:h.get? a=some (PySem.W.methodObj (.ref f) (.ref y)):=x;show h'.get? a=some (PySem.W.methodObj (.ref f) (.ref y));exact k a _ (.inl rfl) e
 |ext φ=>obtain⟨p,⟨o,e⟩,st⟩:=x;exact⟨st _ _ p λo q=>k _ _ (.inl rfl) q,⟨o,k _ _ (.inl rfl) e⟩,st⟩
theorem HOk.lt(x:HOk P w H h)(e:H a=some o):a<h.objs.size:=(x a o e).lt
theorem HOk.fresh(x:HOk P w H h)(e:h.objs.size<=a):H a=none:=by
 cases q:H a with
 |none=>rfl
 |some u=>exact absurd (Yt (x.lt q) e) (Nat.lt_irrefl _)
theorem HOk.kept(x:HOk P w H h)(k:∀b u,h.get? b=some u->h'.get? b=some u):HOk P w H h':=λa o e =>
 (x a o e).stay (λb u _ q=>k b u q) (λ_ q=>q) λ_ _ q=>q
theorem HOk.laid(x:HOk P w H h)(k:∀b u,h.get? b=some u->h'.get? b=some u)(hp:h.objs.size<=a)(new:cH P w (upd H a o) h' a o):HOk P w (upd H a o) h':=λb u e=>by
 have hn:=x.fresh hp;by_cases hb:b=a
 ·subst hb;rw[aE]at e;cases e;exact new
 ·rw[aL hb]at e;exact(x b u e).stay (λc v _ q=>k c v q) (λc q=>by rw[aL (aP q hn)];exact q) λc xs q=>by rw[aL (aP q hn)];exact q
end
def Rd(H:Hp)(a:Addr)(u:HO):Prop:=H a=some u\/∃o,H a=some (.frz o u)
theorem Rd.ok{P:Program}{w:World}{H:Hp}{h:Heap}{a:Addr}{u:HO}(r:Rd H a u)(x:HOk P w H h):cH P w H h a u:=by
 rcases r with r | ⟨o,r⟩
 ·exact x a u r
 ·obtain⟨_,q⟩:=x a _ r;exact q
def Mut:Option HO->Prop
 |some (.lst _)=>True
 |some (.dK _)=>True
 |some (.dT _)=>True
 |some (.set _ _)=>True
 |some (.ins _ _ _)=>True
 |some (.ext _)=>True
 |_=>False
section
variable{P:Program}{w:World}{H:Hp}{h h':Heap}{x e:Addr}{o':HO}
theorem HOk.write(ok:HOk P w H h)(mu:Mut (H x))(he:e=x\/H e=some (.own x))(k:∀b u,b≠e->h.get? b=some u->h'.get? b=some u)(heo:∃u,h'.get? e=some u)
  (new:cH P w (upd H x o') h' x o'):HOk P w (upd H x o') h':=λb u q=>by
 have nown:∀c y,H c=some (.own y)->c≠x:=λc y r z=>by subst z;rw[r]at mu;exact mu
 have ntup:∀c xs,H c=some (.tup xs)->c≠x:=λc xs r z=>by subst z;rw[r]at mu;exact mu
 by_cases hb:b=x
 ·subst hb;rw[aE]at q;cases q;exact new
 ·rw[aL hb]at q;by_cases hbe:b=e
  ·have q':H b=some (.own x):=by
    rcases he with z | z
    ·exact absurd (hbe.trans z) hb
    ·rw[hbe];exact z
   rw[q]at q';cases q';obtain⟨v,hv⟩:=heo;exact⟨v,by rw[hbe];exact hv⟩
  ·refine(ok b u q).stay (λc v hc r=>k c v ?_ r) (λc r=>by rw[aL (nown c b r)];exact r) λc xs r=>by rw[aL (ntup c xs r)];exact r
   rcases hc with rfl | hc
   ·exact hbe
   ·rintro rfl;rcases he with z | z
    ·exact nown c b hc z
    ·rw[hc]at z;cases z;exact hb rfl
end
structure Un(fs ex:List Addr)(H H':Hp)(h h':Heap):Prop where
 keep:∀b o,h.get? b=some o->H b=none->b∉fs->b∉ex->h'.get? b=some o
 slot:∀b o,h.get? b=some o->H b=none->b∈fs->b∉ex->∃sl,h'.get? b=some { o with slots:=sl }
 free:∀b o,h.get? b=some o->H b=none->b∉ex->H' b=none
 there:∀b o,h.get? b=some o->b∉ex->∃o',h'.get? b=some o'
 tups:∀b xs,H b=some (.tup xs)->H' b=some (.tup xs)
 frzs:∀b o u,H b=some (.frz o u)->H' b=some (.frz o u)
 tbls:∀b ps,H b=some (.tbl ps)->∃more,H' b=some (.tbl (ps++more))
section
variable{fs fs' ex ex':List Addr}{H H1 H2:Hp}{h h1 h2 h':Heap}{a x e:Addr}{o:HO}
theorem Un.any(u:Un fs ex H H1 h h1){b:Addr}{ob:Obj}(q:h.get? b=some ob)(n:H b=none)(hx:b∉ex):∃sl,h1.get? b=some { ob with slots:=sl }:=by
 by_cases hb:b∈fs
 ·exact u.slot b ob q n hb hx
 ·exact⟨ob.slots,u.keep b ob q n hb hx⟩
theorem Un.kept(k:∀b u,h.get? b=some u->h'.get? b=some u):Un fs ex H H h h' :=
 ⟨λb ob q _ _ _=>k b ob q,λb ob q _ _ _=>⟨ob.slots,k b ob q⟩,λ_ _ _ n _=>n,λb ob q _=>⟨ob,k b ob q⟩,λ_ _ q=>q,λ_ _ _ q=>q,λ_ ps q=>⟨#[],by rw[q];simp⟩⟩
theorem Un.refl:Un fs ex H H h h:=Un.kept λ_ _ q=>q
theorem Un.laid(k:∀b u,h.get? b=some u->h'.get? b=some u)(hp:h.objs.size<=a)(hn:H a=none):Un fs ex H (upd H a o) h h' where
 keep:=λb u q _ _ _=>k b u q
 slot:=λb u q _ _ _=>⟨u.slots,k b u q⟩
 free:=λb u q n _=>by rw[aL (Nat.ne_of_lt (Yt (Heap.lt_size q) hp))];exact n
 there:=λb u q _=>⟨u,k b u q⟩
 tups:=λb xs q=>by rw[aL (aP q hn)];exact q
 frzs:=λb u xs q=>by rw[aL (aP q hn)];exact q
 tbls:=λb ps q=>⟨#[],by rw[aL (aP q hn),q];simp⟩
theorem Un.write(mu:Mut (H x))(he:e=x\/H e=some (.own x))(k:∀b u,b≠e->h.get? b=some u->h'.get? b=some u)(heo:∃u,h'.get? e=some u):Un fs ex H (upd H x o) h h':=by
 have hx:∀b,H b=none->b≠x:=λb n z=>by subst z;rw[n]at mu;exact mu
 have hb:∀b,H b=none->b≠e:=λb n z=>by
  subst z;rcases he with r | r
  ·exact hx b n r
  ·rw[n]at r;cases r
 have hm:∀b u,H b=some u->¬Mut (some u)->b≠x:=λb u q nm z=>by subst z;rw[q]at mu;exact nm mu
 refine⟨λb u q n _ _=>k b u (hb b n) q,λb u q n _ _=>⟨u.slots,k b u (hb b n) q⟩,λb u q n _=>by rw[aL (hx b n)];exact n,λb u q _=>?_,
  λb xs q=>by rw[aL (hm b _ q λz=>z)];exact q,λb u xs q=>by rw[aL (hm b _ q λz=>z)];exact q,λb ps q=>⟨#[],by rw[aL (hm b _ q λz=>z),q];simp⟩⟩
 by_cases hbe:b=e
 ·subst hbe;exact heo
 ·exact⟨u,k b u hbe q⟩
end
def trk(h:Heap)(H:Hp):List Addr:=(List.range h.objs.size).filter λa=>(H a).isSome
def wV(h:Heap)(H:Hp):Heap:=PySem.W.hideAll h (trk h H)
theorem GV(h:Heap)(H:Hp):(wV h H).objs.size=h.objs.size:=PySem.W.hideAll_size _ _
theorem pJ{h:Heap}{H:Hp}{b:Addr}{o:Obj}(e:h.get? b=some o)(n:H b=none):(wV h H).get? b=some o :=
 PySem.W.hideAll_get _ e λhm=>by
  have q:(H b).isSome=true:=(Yz.mp hm).2;rw[n]at q;simp at q
theorem MJ{h:Heap}{H:Hp}{b:Addr}{o:Obj}(e:(wV h H).get? b=some o):h.get? b=some o/\H b=none:=by
 have e':h.get? b=some o:=PySem.W.of_hideAll (trk h H) e;refine⟨e',?_⟩;cases q:H b with
 |none=>rfl
 |some x =>
  have hm:b∈trk h H:=Yz.mpr ⟨Zs.mpr (Heap.lt_size e'),by simp[q]⟩;have z:(wV h H).get? b=none:=PySem.W.hideAll_none (trk h H) hm;rw[z]at e;cases e
def mL(g h:Heap)(L:Addr):List (Addr×Obj):=(List.range h.objs.size).filterMap λa=>if a=L\/(g.get? a).isSome=true then none else (h.get? a).map λo=>(a,o)
theorem A9{g h:Heap}{L a:Addr}{o:Obj}(h1:a≠L)(h2:g.get? a=none)(h3:h.get? a=some o):(a,o)∈mL g h L :=
 List.mem_filterMap.mpr ⟨a,Zs.mpr (Heap.lt_size h3),by simp[h1,h2,h3]⟩
theorem uR{g h:Heap}{L:Addr}{p:Addr×Obj}(hp:p∈mL g h L):p.1≠L/\g.get? p.1=none/\h.get? p.1=some p.2:=by
 obtain⟨b,_,e⟩:=List.mem_filterMap.mp hp;split at e
 ·cases e
 ·rename_i hn
  cases q:h.get? b with
  |none=>rw[q]at e;simp at e
  |some u =>
   rw[q]at e;simp only[Option.map_some,Option.some.injEq]at e;subst e;refine⟨λz=>hn (.inl z),?_,q⟩;show g.get? b=none;cases r:g.get? b with
   |none=>rfl
   |some v=>exact(hn (.inr (by simp[r]))).elim
theorem JL{g h:Heap}{L:Addr}:News g L h (mL g h L):=λp hp=>let⟨a,b,c⟩:=uR hp;⟨c,a,b⟩
end L2
namespace L2
open PySem PySem.Spec PyProof.Rows
structure Mod(K:PySem.W.Frag)(mg:Str->Option Value)(base:Heap):Prop where
 kin:K.In base
 glob:base.Ns ZV mg
 blt:∃mb,base.Ns builtinsNs mb/\∀x:Str,x≠"__name__"->mb x=bootBuiltins x
 nolimit:base.NoLimit
structure Cx where
 prog:Program
 w:World
 K:PySem.W.Frag
 mg:Str->Option Value
 base:Heap
 A:Around
 N:List Str
 s₀:Shared
 H₀:Hp
 env:Env
 outer:List Env
 stack:List Env
 ex:List Addr
 fn:Str->Bool
 calm:Bool
 pn:List (Addr×Obj)
 xe:Value->Shared->Prop
def frs(l:List Env):List Addr:=l.filterMap (·.frame)
abbrev Cx.fs(X:Cx):List Addr:=frs X.outer
def Vis(sc:Scope)(x:Str):Prop:=sc.names.lookup x=some .local\/sc.names.lookup x=some .cell\/sc.names.lookup x=some .free
def Loc(sc:Scope)(x:Str):Prop:=sc.names.lookup x=some .local\/sc.names.lookup x=some .cell
def Look(env:Env)(h:Heap)(m:Str->Option Value)(x:Str)(u:Value):Prop :=
 (env.kindOf x=some .local/\m x=some u)\/((env.kindOf x=some .cell\/env.kindOf x=some .free)/\∃c,env.cells.lookup x=some c/\h.IsCell c (some u))
structure Cx.Ok(X:Cx):Prop where
 mod:Mod X.K X.mg X.base
 kind:X.env.scope.kind=.function
 glob:X.env.globals=ZV
 blt:X.env.builtins=builtinsNs
 above:X.s₀.heap.objs.size<=X.env.locals
 inj:∀x y c,X.env.cells.lookup x=some c->X.env.cells.lookup y=some c->x=y
 has:∀x,(X.env.kindOf x=some .cell\/X.env.kindOf x=some .free)->∃c,X.env.cells.lookup x=some c
 cab:∀x c,X.fn x=true->X.env.cells.lookup x=some c->X.s₀.heap.objs.size<=c
 hd:X.calm=true->X.A.handled=none
 frames:X.A.frames=some X.stack
 stk:X.stack=X.outer\/(X.stack=X.env::X.outer/\X.env.frame=some X.env.locals)
 exf:∀b∈X.ex,b≠X.env.locals/\∀x c,X.env.cells.lookup x=some c->c≠b
 bs:∀b o,X.base.get? b=some o->X.s₀.heap.get? b=some o/\X.H₀ b=none
 bsz:X.base.objs.size<=X.s₀.heap.objs.size
 noex:∀b o,X.base.get? b=some o->b∉X.ex
 exfs:∀b∈X.ex,b∉X.fs
 funs:X.s₀.heap.FunFrames X.base X.outer
 frf:∀b∈X.fs,X.H₀ b=none
structure Inv(X:Cx)(pins:List (Addr×Obj))(σ:List (Option V))(H:Hp)(s:Shared):Prop where
 ok:X.Ok
 os:s.os=X.s₀.os
 bare:AllBare s.gens
 base:Un X.fs X.ex X.H₀ H X.s₀.heap s.heap
 loc:∃m,s.heap.Ns X.env.locals m/\∀(i:Nat) (x:Str) (v:V),X.N[i]?=some x->σ[i]?=some (some v)->Vis X.env.scope x->∃u,RelV v u/\Look X.env s.heap m x u
 cell:∀x c,X.env.cells.lookup x=some c->∃v,s.heap.IsCell c v
 free:H X.env.locals=none
 freeC:∀x c,X.env.cells.lookup x=some c->H c=none
 pin:∀p∈X.pn++pins,s.heap.get? p.1=some p.2/\H p.1=none/\p.1≠X.env.locals/\p.1∉X.fs/\∀v,p.2.data≠.cell v
 hok:HOk X.prog X.w H s.heap
 len:σ.length=X.N.length
section
variable{X:Cx}{pins:List (Addr×Obj)}{σ:List (Option V)}{H H':Hp}{s:Shared}{h':Heap}
theorem Cx.Ok.nofr(ok:X.Ok){b:Addr}{o:Obj}(e:X.base.get? b=some o):b∉X.fs:=λhb=>by
 have:=(ok.funs.mem hb).1;rw[e]at this;cases this
theorem Inv.bs(I:Inv X pins σ H s):∀b o,X.base.get? b=some o->s.heap.get? b=some o/\H b=none:=λb o e =>
 ⟨I.base.keep b o (I.ok.bs b o e).1 (I.ok.bs b o e).2 (I.ok.nofr e) (I.ok.noex b o e),I.base.free b o (I.ok.bs b o e).1 (I.ok.bs b o e).2 (I.ok.noex b o e)⟩
theorem Inv.bk(I:Inv X pins σ H s):∀b o,X.base.get? b=some o->s.heap.get? b=some o:=λb o e=>(I.bs b o e).1
theorem Inv.mod(I:Inv X pins σ H s):Mod X.K X.mg X.base:=I.ok.mod
theorem Inv.kIn(I:Inv X pins σ H s):X.K.In s.heap:=I.ok.mod.kin.keeps I.bk
theorem Inv.nolimit(I:Inv X pins σ H s):s.heap.NoLimit:=I.ok.mod.nolimit.keeps I.bk
theorem Inv.fr(I:Inv X pins σ H s):∃m,Fr X.base X.env.locals s.heap m :=
 let⟨m,hn,_⟩:=I.loc
 ⟨m,hn,I.bk,Yr I.ok.bsz I.ok.above⟩
theorem Inv.lt(I:Inv X pins σ H s):X.env.locals<s.heap.objs.size:=let⟨_,hn,_⟩:=I.loc;hn.lt
theorem Inv.sz(I:Inv X pins σ H s):X.s₀.heap.objs.size<=s.heap.objs.size:=Yr I.ok.above (Nat.le_of_lt I.lt)
theorem Inv.nofs(I:Inv X pins σ H s){a:Addr}(h:s.heap.objs.size<=a):a∉X.fs:=λhb=>by
 obtain⟨_,o,ho,_⟩:=I.ok.funs.mem hb;exact absurd (Yt (Heap.lt_size ho) (Yr I.sz h)) (Nat.lt_irrefl _)
theorem Inv.cne(I:Inv X pins σ H s):∀x c,X.env.cells.lookup x=some c->c≠X.env.locals:=λx c e z=>by
 obtain⟨v,o,ho,hd⟩:=I.cell x c e;obtain⟨m,⟨o',es,ep,ho',hd',_⟩,_⟩:=I.loc;rw[z,ho']at ho;cases ho;rw[hd']at hd;cases hd
theorem Inv.funs(I:Inv X pins σ H s):s.heap.FunFrames X.base X.outer:=by
 have all:∀(l:List Env),(∀b∈frs l,b∈X.fs)->X.s₀.heap.FunFrames X.base l->s.heap.FunFrames X.base l:=by
  intro l;induction l with
  |nil=>intro _ _;trivial
  |cons env r ih =>
   intro hs hl;obtain⟨hk,⟨L,o,hf,hn,ho,hd⟩,hr⟩:=hl;have hL:L∈X.fs:=hs L (by unfold frs;rw[List.filterMap_cons,hf];exact Zd);obtain⟨sl,e⟩:=I.base.slot L o ho (I.ok.frf L hL) hL λz=>I.ok.exfs L z hL;exact⟨hk,⟨L,_,hf,hn,e,hd⟩,ih (λb hb=>hs b (by unfold frs;rw[List.filterMap_cons,hf];exact Zw _ hb)) hr⟩
 exact all X.outer (λ_ hb=>hb) I.ok.funs
theorem Inv.stack(I:Inv X pins σ H s):s.heap.FunFrames X.base X.stack:=by
 rcases I.ok.stk with e | ⟨e,hf⟩
 ·rw[e];exact I.funs
 ·rw[e];obtain⟨m,hn,_⟩:=I.loc;refine .cons (by rw[I.ok.kind];decide) hf hn ?_ I.funs;exact Heap.get?_none_of_le (Yr I.ok.bsz I.ok.above)
theorem Inv.stkSub(I:Inv X pins σ H s):∀b∈frs X.stack,b∈X.env.locals::X.fs:=λb hb=>by
 rcases I.ok.stk with e | ⟨e,hf⟩
 ·rw[e]at hb;exact Zw _ hb
 ·rw[e]at hb;unfold frs at hb;rw[List.filterMap_cons,hf]at hb;exact hb
theorem Inv.stkFree(I:Inv X pins σ H s):∀b∈frs X.stack,H b=none:=λb hb=>by
 rcases Zn.mp (I.stkSub b hb) with e | hb
 ·rw[e];exact I.free
 ·obtain⟨_,o,ho,_⟩:=I.ok.funs.mem hb;exact I.base.free b o ho (I.ok.frf b hb) λz=>I.ok.exfs b z hb
theorem Inv.step{g':Array GenState}{t':Nat}{d':Drawn}{ch:List Addr}(I:Inv X pins σ H s)
  (hch:∀b∈ch,(b∈X.ex\/X.s₀.heap.objs.size<=b)/\b≠X.env.locals/\(∀x c,X.env.cells.lookup x=some c->c≠b)/\∀p∈X.pn++pins,p.1≠b)
  (keep:∀b o,b≠X.env.locals->b∉X.fs->b∉ch->s.heap.get? b=some o->H b=none->h'.get? b=some o)
  (slot:∀b o,b≠X.env.locals->b∈X.fs->b∉ch->s.heap.get? b=some o->H b=none->∃sl,h'.get? b=some { o with slots:=sl }) (free:∀b o,b∉ch->s.heap.get? b=some o->H b=none->H' b=none)
  (there:∀b o,b∉ch->s.heap.get? b=some o->∃o',h'.get? b=some o')
  (tups:∀b xs,H b=some (.tup xs)->H' b=some (.tup xs)) (frzs:∀b o u,H b=some (.frz o u)->H' b=some (.frz o u)) (tbls:∀b ps,H b=some (.tbl ps)->∃more,H' b=some (.tbl (ps++more)))
  (ns:∀m,s.heap.Ns X.env.locals m->h'.Ns X.env.locals m) (hok:HOk X.prog X.w H' h') (hg:AllBare g') :
  Inv X pins σ H' { s with heap:=h',gens:=g',drawn:=d',toks:=t' }:=by
 have neL:∀b o,X.s₀.heap.get? b=some o->b≠X.env.locals:=λb o e=>Nat.ne_of_lt (Yt (Heap.lt_size e) I.ok.above);have neC:∀b o,X.s₀.heap.get? b=some o->b∉X.ex->b∉ch:=λb o e hx hb=>by
  rcases(hch b hb).1 with z | z
  ·exact hx z
  ·exact absurd (Yt (Heap.lt_size e) z) (Nat.lt_irrefl _)
 have cellK:∀x c,X.env.cells.lookup x=some c->∀v,s.heap.IsCell c v->h'.IsCell c v:=λx c e v ⟨o,ho,hd⟩=>by
  have nch:c∉ch:=λz=>(hch c z).2.2.1 x c e rfl;by_cases hc:c∈X.fs
  ·obtain⟨sl,q⟩:=slot c o (I.cne x c e) hc nch ho (I.freeC x c e);exact⟨_,q,hd⟩
  ·exact⟨o,keep c o (I.cne x c e) hc nch ho (I.freeC x c e),hd⟩
 refine⟨I.ok,I.os,hg,⟨λb o e n hb hx=>?_,λb o e n hb hx=>?_,λb o e n hx=>?_,λb o e hx=>?_,λb xs e=>tups b xs (I.base.tups b xs e),λb o xs e=>frzs b o xs (I.base.frzs b o xs e),λb ps e=>?_⟩,?_,λx c e=>?_,?_,λx c e=>?_,λp hp=>?_,hok,I.len⟩
 ·exact keep b o (neL b o e) hb (neC b o e hx) (I.base.keep b o e n hb hx) (I.base.free b o e n hx)
 ·obtain⟨sl,e1⟩:=I.base.slot b o e n hb hx;obtain⟨sl',e2⟩:=slot b _ (neL b o e) hb (neC b o e hx) e1 (I.base.free b o e n hx);exact⟨sl',e2⟩
 ·obtain⟨o',e1⟩:=I.base.there b o e hx;exact free b o' (neC b o e hx) e1 (I.base.free b o e n hx)
 ·obtain⟨o',e1⟩:=I.base.there b o e hx;exact there b o' (neC b o e hx) e1
 ·obtain⟨m1,e1⟩:=I.base.tbls b ps e;obtain⟨m2,e2⟩:=tbls b _ e1;exact⟨m1++m2,by rw[e2,Array.append_assoc]⟩
 ·obtain⟨m,hn,hl⟩:=I.loc;refine⟨m,ns m hn,λi x v e1 e2 e3=>?_⟩;obtain⟨u,r,l⟩:=hl i x v e1 e2 e3;refine⟨u,r,?_⟩;rcases l with l | ⟨k,c,e,z⟩
  ·exact .inl l
  ·exact .inr ⟨k,c,e,cellK x c e _ z⟩
 ·obtain⟨v,z⟩:=I.cell x c e;exact⟨v,cellK x c e v z⟩
 ·obtain⟨m,⟨o,_,_,ho,_⟩,_⟩:=I.loc;exact free _ o (λz=>(hch _ z).2.1 rfl) ho I.free
 ·obtain⟨v,o,ho,hd⟩:=I.cell x c e;exact free c o (λz=>(hch c z).2.2.1 x c e rfl) ho (I.freeC x c e)
 ·obtain⟨e,n,ne,nf,d⟩:=I.pin p hp;have nch:p.1∉ch:=λz=>(hch p.1 z).2.2.2 p hp rfl;exact⟨keep p.1 p.2 ne nf nch e n,free p.1 p.2 nch e n,ne,nf,d⟩
theorem Inv.un{t':Nat}(I:Inv X pins σ H s)(u:Un X.fs [] H H' s.heap h')(hok:HOk X.prog X.w H' h'):Inv X pins σ H' { s with heap:=h',toks:=t' }:=by
 obtain⟨m,⟨o,es,ep,ho,r⟩,_⟩:=id I.loc;obtain⟨sl,hL⟩:=u.any ho I.free (by simp);exact I.step (g':=s.gens) (d':=s.drawn) (ch:=[]) (λ_ z=>nomatch z) (λb o _ hb _ e n=>u.keep b o e n hb (by simp)) (λb o _ hb _ e n=>u.slot b o e n hb (by simp)) (λb o _ e n=>u.free b o e n (by simp)) (λb o _ e=>u.there b o e (by simp)) u.tups u.frzs u.tbls (λm' hm=>by
  obtain⟨o',es',ep',ho',r'⟩:=hm;rw[ho]at ho';cases ho';exact⟨_,es',ep',hL,r'⟩) hok I.bare
theorem Inv.call{g':Array GenState}{t':Nat}{d':Drawn}{ch:List Addr}(I:Inv X pins σ H s)(u:Un (frs X.stack) ch H H' s.heap h')(hok:HOk X.prog X.w H' h')(hg:AllBare g')
  (hch:∀b∈ch,(b∈X.ex\/X.s₀.heap.objs.size<=b)/\b≠X.env.locals/\(∀x c,X.env.cells.lookup x=some c->c≠b)/\∀p∈X.pn++pins,p.1≠b) :
  Inv X pins σ H' { s with heap:=h',gens:=g',drawn:=d',toks:=t' }:=by
 obtain⟨m,⟨o,es,ep,ho,r⟩,_⟩:=id I.loc;obtain⟨sl,hL⟩:=u.any ho I.free λz=>(hch _ z).2.1 rfl;exact I.step (ch:=ch) hch (λb o hL hb hc e n=>u.keep b o e n (λz=>(Zn.mp (I.stkSub b z)).elim hL hb) hc) (λb o _ _ hc e n=>u.any e n hc) (λb o hc e n=>u.free b o e n hc) (λb o hc e=>u.there b o e hc) u.tups u.frzs u.tbls (λm' hm=>by
  obtain⟨o',es',ep',ho',r'⟩:=hm;rw[ho]at ho';cases ho';exact⟨_,es',ep',hL,r'⟩) hok hg
theorem Inv.turned{t':Nat}{it:Addr}(I:Inv X pins σ H s)(k:∀b o,b≠it->s.heap.get? b=some o->h'.get? b=some o)(hn:H it=none)(hL:it≠X.env.locals)
  (h1:it∈X.ex\/X.s₀.heap.objs.size<=it) (h2:∀x c,X.env.cells.lookup x=some c->c≠it) (h3:∀p∈X.pn++pins,p.1≠it):Inv X pins σ H { s with heap:=h',toks:=t' }:=by
 have nit:∀b u,H b=some u->b≠it:=λb u e z=>by rw[z,hn]at e;cases e
 refine I.step (g':=s.gens) (d':=s.drawn) (ch:=[it]) (λb hb=>?_) (λb o _ _ hc e _=>k b o (λz=>hc (by simp[z])) e) (λb o _ _ hc e _=>⟨o.slots,k b o (λz=>hc (by simp[z])) e⟩) (λ_ _ _ _ n=>n)
  (λb o hc e=>⟨o,k b o (λz=>hc (by simp[z])) e⟩) (λ_ _ e=>e) (λ_ _ _ e=>e) (λb ps e=>⟨#[],by rw[e];simp⟩) (λm hm=>?_) (λb u e=>?_) I.bare
 ·have e:b=it:=by simpa using hb
  subst e;exact⟨h1,hL,h2,h3⟩
 ·obtain⟨o,es,ep,ho,r⟩:=hm;exact⟨o,es,ep,k _ o (Ne.symm hL) ho,r⟩
 ·refine(I.hok b u e).stay (λc v hc q=>k c v ?_ q) (λ_ q=>q) λ_ _ q=>q;rcases hc with z | z
  ·rw[z];exact nit b u e
  ·exact nit c _ z
theorem Inv.tok(I:Inv X pins σ H s)(t:Nat):Inv X pins σ H { s with toks:=t }:=I.un (h':=s.heap) (t':=t) Un.refl I.hok
theorem Inv.kept{t':Nat}(I:Inv X pins σ H s)(k:∀b u,s.heap.get? b=some u->h'.get? b=some u):Inv X pins σ H { s with heap:=h',toks:=t' }:=I.un (Un.kept k) (I.hok.kept k)
theorem Inv.laid{a:Addr}{o:HO}{t':Nat}(I:Inv X pins σ H s)(k:∀b u,s.heap.get? b=some u->h'.get? b=some u)(hp:s.heap.objs.size<=a)(new:cH X.prog X.w (upd H a o) h' a o) :
  Inv X pins σ (upd H a o) { s with heap:=h',toks:=t' }:=I.un (Un.laid k hp (I.hok.fresh hp)) (I.hok.laid k hp new)
theorem Inv.write{x e:Addr}{o:HO}{t':Nat}(I:Inv X pins σ H s)(mu:Mut (H x))(he:e=x\/H e=some (.own x))(k:∀b u,b≠e->s.heap.get? b=some u->h'.get? b=some u)(heo:∃u,h'.get? e=some u)
  (new:cH X.prog X.w (upd H x o) h' x o):Inv X pins σ (upd H x o) { s with heap:=h',toks:=t' }:=I.un (Un.write mu he k heo) (I.hok.write mu he k heo new)
theorem Inv.weak{σ':List (Option V)}(I:Inv X pins σ H s)(hl:σ'.length=σ.length)(w:∀(i:Nat) v,σ'[i]?=some (some v)->σ[i]?=some (some v)):Inv X pins σ' H s :=
 ⟨I.ok,I.os,I.bare,I.base,let⟨m,hn,hl'⟩:=I.loc;⟨m,hn,λi x v e1 e2 e3=>hl' i x v e1 (w i v e2) e3⟩,I.cell,I.free,I.freeC,I.pin,I.hok,hl.trans I.len⟩
theorem Inv.pins_of{pins':List (Addr×Obj)}(I:Inv X pins σ H s)(h:∀p∈pins',s.heap.get? p.1=some p.2/\H p.1=none/\p.1≠X.env.locals/\p.1∉X.fs/\∀v,p.2.data≠.cell v):Inv X pins' σ H s :=
 ⟨I.ok,I.os,I.bare,I.base,I.loc,I.cell,I.free,I.freeC,λp hp=>(Zf.mp hp).elim (λz=>I.pin p (List.mem_append_left _ z)) (h p),I.hok,I.len⟩
theorem A3{N:List Str}(hN:N.Nodup){i j:Nat}{x:Str}(a:N[i]?=some x)(b:N[j]?=some x):i=j:=by
 obtain⟨h1,e1⟩:=Zj.mp a;obtain⟨h2,e2⟩:=Zj.mp b;exact(List.getElem_inj hN).mp (e1.trans e2.symm)
theorem FV{M:Model}{A:Around}{E:Value->Shared->Prop}{i:Nat}{x:Str}{v:V}{u:Value}{Q:Unit->Shared->Prop}(I:Inv X pins σ H s)(hN:X.N.Nodup)(hi:X.N[i]?=some x)(hx:Loc X.env.scope x)(r:RelV v u)
  (h:∀s',Inv X pins (σ.set i (some v)) H s'->(∃a,Heap.SameBut a s.heap s'.heap/\(a=X.env.locals\/X.env.cells.lookup x=some a))->Q () s') (hf:X.fn x=true\/X.env.scope.names.lookup x=some .local:=by first | exact .inl rfl | exact .inr rfl | assumption):wpAny M A (storeName X.env x u) Q E s:=by
 obtain⟨m,hn,hl⟩:=id I.loc;have hcls:(X.env.scope.kind==.class||(X.env.scope.kind==.module&&X.env.locals != X.env.globals))=false:=by rw[I.ok.kind];rfl
 have hiσ:i<σ.length:=by rw[I.len];exact(Zj.mp hi).1
 have cne:=I.cne;have tracked:∀{a:Addr}{h':Heap},(∃o,s.heap.get? a=some o/\H a=none)->Heap.SameBut a s.heap h'->HOk X.prog X.w H h':=λ{a h'} ha hs b ob e=>by
  obtain⟨_,_,hfree⟩:=ha;refine(I.hok b ob e).stay (λc w' hc q=>(hs.2 c ?_).trans q) (λ_ q=>q) λ_ _ q=>q;rintro rfl;rcases hc with rfl | hc
  ·rw[hfree]at e;cases e
  ·rw[hfree]at hc;cases hc
 rcases hx with hk | hk
 ·refine wpAny_storeName_local hk hn (λh' hn' hs=>?_) hcls;obtain⟨oL,_,_,hoL,_⟩:=id hn;refine h _ ⟨I.ok,I.os,I.bare,⟨λb o e n hb hx=>?_,λb o e n hb hx=>?_,I.base.free,λb o e hx=>?_,I.base.tups,I.base.frzs,I.base.tbls⟩,⟨_,hn',λj y v' e1 e2 e3=>?_⟩,λy c e=>?_,I.free,I.freeC,λp hp=>?_,tracked ⟨oL,hoL,I.free⟩ hs,by simpa using I.len⟩ ⟨_,hs,.inl rfl⟩
  ·exact(hs.2 b (Nat.ne_of_lt (Yt (Heap.lt_size e) I.ok.above))).trans (I.base.keep b o e n hb hx)
  ·obtain⟨sl,e1⟩:=I.base.slot b o e n hb hx;exact⟨sl,(hs.2 b (Nat.ne_of_lt (Yt (Heap.lt_size e) I.ok.above))).trans e1⟩
  ·obtain⟨o',e1⟩:=I.base.there b o e hx;exact⟨o',(hs.2 b (Nat.ne_of_lt (Yt (Heap.lt_size e) I.ok.above))).trans e1⟩
  ·by_cases hj:j=i
   ·subst hj;rw[hi]at e1;cases e1;rw[List.getElem?_set_self hiσ]at e2;cases e2;exact⟨u,r,.inl ⟨hk,by simp⟩⟩
   ·rw[List.getElem?_set_ne (Ne.symm hj)]at e2;obtain⟨u',r',q⟩:=hl j y v' e1 e2 e3;refine⟨u',r',?_⟩;rcases q with⟨k,e⟩ | ⟨k,c,e,z⟩
    ·refine .inl ⟨k,?_⟩;have:y≠x:=λe=>hj (A3 hN e1 (e▸hi));simp[this,e]
    ·exact .inr ⟨k,c,e,z.sameBut hs (cne y c e)⟩
  ·obtain⟨w',z⟩:=I.cell y c e;exact⟨w',z.sameBut hs (cne y c e)⟩
  ·obtain⟨e,n,ne,nf,d⟩:=I.pin p hp;exact⟨(hs.2 p.1 ne).trans e,n,ne,nf,d⟩
 ·have hfn:X.fn x=true:=by
   rcases hf with z | z
   ·exact z
   ·rw[z]at hk;cases hk
  obtain⟨c,hc⟩:=I.ok.has x (.inl hk);obtain⟨w',z⟩:=I.cell x c hc;refine wpAny_storeName_cell I.ok.kind hk hc z (λh' hc' hs=>?_);obtain⟨oc,hoc,hocd⟩:=id z;refine h { s with heap:=h' } ⟨I.ok,I.os,I.bare,⟨λb o e n hb hx=>?_,λb o e n hb hx=>?_,I.base.free,λb o e hx=>?_,I.base.tups,I.base.frzs,I.base.tbls⟩,⟨m,hn.sameBut hs (Ne.symm (cne x c hc)),λj y v' e1 e2 e3=>?_⟩,λy c' e=>?_,I.free,I.freeC,λp hp=>?_,tracked ⟨oc,hoc,I.freeC x c hc⟩ hs,by simpa using I.len⟩ ⟨c,hs,.inr hc⟩
  ·exact(hs.2 b (Nat.ne_of_lt (Yt (Heap.lt_size e) (I.ok.cab x c hfn hc)))).trans (I.base.keep b o e n hb hx)
  ·obtain⟨sl,e1⟩:=I.base.slot b o e n hb hx;exact⟨sl,(hs.2 b (Nat.ne_of_lt (Yt (Heap.lt_size e) (I.ok.cab x c hfn hc)))).trans e1⟩
  ·obtain⟨o',e1⟩:=I.base.there b o e hx;exact⟨o',(hs.2 b (Nat.ne_of_lt (Yt (Heap.lt_size e) (I.ok.cab x c hfn hc)))).trans e1⟩
  ·by_cases hj:j=i
   ·subst hj;rw[hi]at e1;cases e1;rw[List.getElem?_set_self hiσ]at e2;cases e2;exact⟨u,r,.inr ⟨.inl hk,c,hc,hc'⟩⟩
   ·rw[List.getElem?_set_ne (Ne.symm hj)]at e2;obtain⟨u',r',q⟩:=hl j y v' e1 e2 e3;refine⟨u',r',?_⟩;rcases q with q | ⟨k,c',e,z'⟩
    ·exact .inl q
    ·refine .inr ⟨k,c',e,z'.sameBut hs ?_⟩;rintro rfl;exact hj (A3 hN e1 (I.ok.inj _ _ _ e hc▸hi))
  ·by_cases hcc:c'=c
   ·subst hcc;exact⟨_,hc'⟩
   ·obtain⟨w2,z2⟩:=I.cell y c' e;exact⟨w2,z2.sameBut hs hcc⟩
  ·obtain⟨e,n,ne,nf,d⟩:=I.pin p hp;refine⟨(hs.2 p.1 ?_).trans e,n,ne,nf,d⟩;intro q;rw[q,hoc]at e;have q':oc=p.2:=Option.some.inj e;exact d w' (by rw[<-q'];exact hocd)
theorem k7{M:Model}{A:Around}{E:Value->Shared->Prop}{i:Nat}{x:Str}{v:V}{u:Value}{Q:Unit->Shared->Prop}(I:Inv X pins σ H s)(hN:X.N.Nodup)(hi:X.N[i]?=some x)(hx:Loc X.env.scope x)(r:RelV v u)
  (h:∀s',Inv X pins (σ.set i (some v)) H s'->Q () s') (hf:X.fn x=true\/X.env.scope.names.lookup x=some .local:=by first | exact .inl rfl | exact .inr rfl | assumption):wpAny M A (storeName X.env x u) Q E s :=
 FV I hN hi hx r (λs' I' _=>h s' I') hf
theorem Inv.call'{s':Shared}{ch:List Addr}(I:Inv X pins σ H s)(ho:s'.os=s.os)(u:Un (frs X.stack) ch H H' s.heap s'.heap)(hok:HOk X.prog X.w H' s'.heap)(hg:AllBare s'.gens)
  (hch:∀b∈ch,(b∈X.ex\/X.s₀.heap.objs.size<=b)/\b≠X.env.locals/\(∀x c,X.env.cells.lookup x=some c->c≠b)/\∀p∈X.pn++pins,p.1≠b):Inv X pins σ H' s':=by
 obtain⟨h',g',d',t',o'⟩:=s';have e:o'=s.os:=ho;subst e;exact I.call (g':=g') (t':=t') (d':=d') u hok hg hch
end
abbrev XK:=Value->Option Addr->Hp->Prop
abbrev St:=List (Option V)
abbrev VK:=V->Hp->Prop
abbrev TE:=St->Hp->VK->Prop
abbrev TT:=St->Hp->(Bool->Hp->Prop)->Prop
abbrev TA:=St->Hp->(List V->Hp->Prop)->Prop
structure Ends where
 nx:St->Hp->Prop
 rt:VK
 bk:St->Hp->Prop:=λ_ _=>False
 ct:St->Hp->Prop:=λ_ _=>False
abbrev TS:=Ends->St->Hp->Prop
def EP(X:Cx)(pins:List (Addr×Obj))(σ:St)(Q:VK)(u:Value)(s':Shared):Prop:=∃v H',Inv X pins σ H' s'/\RelV v u/\Q v H'
def TP(X:Cx)(pins:List (Addr×Obj))(σ:St)(Q:Bool->Hp->Prop)(b:Bool)(s':Shared):Prop:=∃H',Inv X pins σ H' s'/\Q b H'
def AP(X:Cx)(pins:List (Addr×Obj))(σ:St)(Q:List V->Hp->Prop)(us:List Value)(s':Shared):Prop:=∃vs H',Inv X pins σ H' s'/\bI vs us/\Q vs H'
def SP(X:Cx)(pins:List (Addr×Obj))(D:Ends)(f:Flow)(s':Shared):Prop :=
 match f with
 |.next=>∃σ' H',Inv X pins σ' H' s'/\D.nx σ' H'
 |.brk=>∃σ' H',Inv X pins σ' H' s'/\D.bk σ' H'
 |.cont=>∃σ' H',Inv X pins σ' H' s'/\D.ct σ' H'
 |.ret u=>∃v σ' H',Inv X pins σ' H' s'/\RelV v u/\D.rt v H'
def PE(X:Cx)(e:Expr)(t:TE):Prop :=
 ∀(pins:List (Addr×Obj)) (s:Shared) (σ:St) (H:Hp) (Q:VK),Inv X pins σ H s->t σ H Q->wpAny (model X.prog X.w) X.A (eval e X.env) (EP X pins σ Q) X.xe s
def PT(X:Cx)(e:Expr)(t:TT):Prop :=
 ∀(pins:List (Addr×Obj)) (s:Shared) (σ:St) (H:Hp) (Q:Bool->Hp->Prop),Inv X pins σ H s->t σ H Q->wpAny (model X.prog X.w) X.A (isTrue e X.env (eval e X.env)) (TP X pins σ Q) X.xe s
def PW(X:Cx)(e:Expr)(t:TT):Prop :=
 ∀(whole:Sem Value) (pins:List (Addr×Obj)) (s:Shared) (σ:St) (H:Hp) (Q:Bool->Hp->Prop),Inv X pins σ H s->t σ H Q->wpAny (model X.prog X.w) X.A (isTrue e X.env whole) (TP X pins σ Q) X.xe s
theorem PW.pt{X:Cx}{e:Expr}{t:TT}(h:PW X e t):PT X e t:=h _
def PA(X:Cx)(es:List Expr)(t:TA):Prop :=
 ∀(pos:Pos) (pins:List (Addr×Obj)) (s:Shared) (σ:St) (H:Hp) (Q:List V->Hp->Prop),Inv X pins σ H s->t σ H Q->wpAny (model X.prog X.w) X.A (spliced (backTo pos (starEach es X.env))) (AP X pins σ Q) X.xe s
def PS(X:Cx)(st:Stmt)(t:TS):Prop :=
 ∀(pins:List (Addr×Obj)) (s:Shared) (σ:St) (H:Hp) (D:Ends),Inv X pins σ H s->t D σ H->wpAny (model X.prog X.w) X.A (exec st X.env) (SP X pins D) X.xe s
def PSs(X:Cx)(st:List Stmt)(t:TS):Prop :=
 ∀(pins:List (Addr×Obj)) (s:Shared) (σ:St) (H:Hp) (D:Ends),Inv X pins σ H s->t D σ H->wpAny (model X.prog X.w) X.A (execs st X.env) (SP X pins D) X.xe s
theorem thn{α:Type}{t:Sem α}{Q Q':α->Shared->Prop}{M:Model}{A:Around}{E:Value->Shared->Prop}{s:Shared}(h:wpAny M A t Q E s)(hQ:∀a s,Q a s->Q' a s):wpAny M A t Q' E s:=ZX h hQ λ_ _ x=>x
end L2
namespace L2
open PySem PySem.Spec PyProof.Rows
section
variable{X:Cx}
theorem bin{a b:Expr}{ta tb:TE}(ha:PE X a ta)(hb:PE X b tb){pins:List (Addr×Obj)}{s:Shared}{σ:St}{H:Hp}{R:V->V->Hp->Prop}(I:Inv X pins σ H s)(h:ta σ H λx H1=>tb σ H1 λy H2=>R x y H2)
  {α:Type}{Q:α->Shared->Prop}{f:Value->Value->Sem α}
  (hf:∀v u s2 x y H2,Inv X pins σ H2 s2->RelV x v->RelV y u->R x y H2->wpAny (model X.prog X.w) X.A (f v u) Q X.xe s2) :
  wpAny (model X.prog X.w) X.A (eval a X.env) (λv s₁=>wpAny (model X.prog X.w) X.A (eval b X.env) (λu s₂=>wpAny (model X.prog X.w) X.A (f v u) Q X.xe s₂) X.xe s₁) X.xe s:=by
 refine thn (ha pins s σ H _ I h) λv s1 ⟨x,H1,I1,r1,q1⟩=>?_;refine thn (hb pins s1 σ H1 _ I1 q1) λu s2 ⟨y,H2,I2,r2,q2⟩=>?_;exact hf v u s2 x y H2 I2 r1 r2 q2
def K2(i:Nat):TE:=λσ H Q=>∃v,σ[i]?=some (some v)/\Q v H
def tC(v:V):TE:=λ_ H Q=>Q v H
theorem PB{i:Nat}{x:Str}{pos:Pos}(hN:X.N[i]?=some x)(hv:Vis X.env.scope x)(hd:(x==("__debug__" : Str))=false:=by decide)(hcd:(x==("__classdict__" : Str))=false:=by decide):PE X (.Name x pos) (K2 i):=by
 intro pins s σ H Q I h;obtain⟨v,e,h⟩:=h;obtain⟨m,hn,hl⟩:=I.loc;obtain⟨u,r,l⟩:=hl i x v hN e hv;have fin:EP X pins σ Q u s:=⟨v,H,I,r,h⟩
 rcases l with⟨hk,hm⟩ | ⟨hk,c,hc,hcell⟩
 ·exact wpAny_Name (wpAny_loadName_local I.ok.kind hk hn hm fin) hd
 ·rcases hk with hk | hk
  ·exact wpAny_Name (wpAny_loadName_cell I.ok.kind hk hc hcell fin) hd
  ·exact wpAny_Name (wpAny_loadName_free I.ok.kind hk hc hcell fin hcd) hd
theorem aC{i j pos}:PE X (.Constant (.int i) j pos) (tC (.int i)):=λ_ _ _ H _ I h=>wpAny_Constant_int ⟨.int i,H,I.tok _,⟨_,rfl⟩,h⟩
theorem cO{b j pos}:PE X (.Constant (.bool b) j pos) (tC (.bl b)):=λ_ _ _ H _ I h=>Constant_bool ⟨.bl b,H,I,rfl,h⟩
theorem PD{x j pos}:PE X (.Constant (.str x) j pos) (tC (.str x)):=λ_ _ _ H _ I h=>Calls.Constant_str ⟨.str x,H,I.tok _,⟨_,rfl⟩,h⟩
def Gl(X:Cx)(x:Str):Prop:=X.env.kindOf x=some .globalImplicit
theorem tH{E:Value->Shared->Prop}{pins:List (Addr×Obj)}{s:Shared}{σ:St}{H:Hp}{x:Str}{u:Value}{pos:Pos}{Q:Value->Shared->Prop}(I:Inv X pins σ H s)(hg:Gl X x)(hm:X.mg x=some u)(h:Q u s)
  (hd:(x==("__debug__" : Str))=false:=by decide):wpAny (model X.prog X.w) X.A (eval (.Name x pos) X.env) Q E s :=
 Calls.Name_function_global I.ok.kind hg (Calls.loadGlobal_global (by rw[I.ok.glob];exact I.mod.glob.keeps I.bk) hm h) hd
theorem nT{E:Value->Shared->Prop}{pins:List (Addr×Obj)}{s:Shared}{σ:St}{H:Hp}{x:Str}{u:Value}{pos:Pos}{Q:Value->Shared->Prop}(I:Inv X pins σ H s)(hg:Gl X x)(hm:X.mg x=none)(hv:bootBuiltins x=some u)(h:Q u s)
  (hn:x≠"__name__":=by decide) (hd:(x==("__debug__" : Str))=false:=by decide):wpAny (model X.prog X.w) X.A (eval (.Name x pos) X.env) Q E s:=by
 obtain⟨mb,h1,h2⟩:=I.mod.blt;exact Calls.Name_function_global I.ok.kind hg (Calls.loadGlobal_builtin (by rw[I.ok.glob];exact I.mod.glob.keeps I.bk) hm (by rw[I.ok.blt];exact h1.keeps I.bk) ((h2 x hn).trans hv) h) hd
theorem iW{x:Str}{v:V}{u:Value}{pos:Pos}(hg:Gl X x)(hm:X.mg x=some u)(r:RelV v u)(hd:(x==("__debug__" : Str))=false:=by decide):PE X (.Name x pos) (tC v) :=
 λ_ _ _ H _ I h=>tH I hg hm ⟨v,H,I,r,h⟩ hd
theorem L7{x:Str}{v:V}{u:Value}{pos:Pos}(hg:Gl X x)(hm:X.mg x=none)(hv:bootBuiltins x=some u)(r:RelV v u)(hn:x≠"__name__":=by decide)(hd:(x==("__debug__" : Str))=false:=by decide):PE X (.Name x pos) (tC v) :=
 λ_ _ _ H _ I h=>nT I hg hm hv ⟨v,H,I,r,h⟩ hn hd
variable{a b:Expr}{ta tb:TE}{pos:Pos}
def PC(X:Cx)(op:CmpOp)(a b:Expr)(t:TE):Prop :=
 ∀(pins:List (Addr×Obj)) (s:Shared) (σ:St) (H:Hp) (Q:VK),Inv X pins σ H s->t σ H Q ->
  wpAny (model X.prog X.w) X.A (eval a X.env) (λv s₁=>wpAny (model X.prog X.w) X.A (eval b X.env) (λu s₂=>wpAny (model X.prog X.w) X.A (compareOp op v u) (EP X pins σ Q) X.xe s₂) X.xe s₁) X.xe s
def tB(t:TE):TT:=λσ H Q=>t σ H λx H1=>∃c,x=.bl c/\Q c H1
theorem CU{op:CmpOp}{t:TE}(h:PC X op a b t)(h1:behindInMarks op b=false:=by first | exact nobehind _ (by decide) (by decide) | rfl):PT X (.Compare a [op] [b] pos) (tB t):=by
 intro pins s σ H Q I hw;refine wpAny_isTrue_Compare1 (thn (h pins s σ H _ I hw) λv s1 h1=>thn h1 λu s2 h2=>thn h2 λc s3 ⟨x,H1,I1,r1,q1⟩=>?_) h1;obtain⟨d,rfl,q⟩:=q1;cases r1;exact wpAny_truthy_bool ⟨H1,I1,q⟩
variable{tA tB':TT}{rest:List Expr}
def S0(t u:TT):TT:=λσ H Q=>t σ H λc H1=>if c=true then u σ H1 Q else Q false H1
def tOr(t u:TT):TT:=λσ H Q=>t σ H λc H1=>if c=true then Q true H1 else u σ H1 Q
def SU(t:TT):TT:=λσ H Q=>t σ H λc H1=>Q (!c) H1
theorem LU(ha:PT X a tA):PW X (.BoolOp .And [a] pos) tA:=by
 intro wh pins s σ H Q I h;refine isTrue_and (thn (ha pins s σ H Q I h) λc s1 e=>?_);cases c with
 |true=>exact isTrue_and_nil e
 |false=>exact e
theorem gP(ha:PT X a tA):PW X (.BoolOp .Or [a] pos) tA:=by
 intro wh pins s σ H Q I h;refine isTrue_or (thn (ha pins s σ H Q I h) λc s1 e=>?_);cases c with
 |false=>exact isTrue_or_nil e
 |true=>exact e
theorem O4(ha:PT X a tA)(hb:PW X (.BoolOp .And (b::rest) pos) tB'):PW X (.BoolOp .And (a::b::rest) pos) (S0 tA tB'):=by
 intro wh pins s σ H Q I h;refine isTrue_and (thn (ha pins s σ H _ I h) λc s1 ⟨H1,I1,q1⟩=>?_);cases c with
 |true=>exact hb wh pins s1 σ H1 Q I1 q1
 |false=>exact⟨H1,I1,q1⟩
theorem gT(ha:PT X a tA)(hb:PW X (.BoolOp .Or (b::rest) pos) tB'):PW X (.BoolOp .Or (a::b::rest) pos) (tOr tA tB'):=by
 intro wh pins s σ H Q I h;refine isTrue_or (thn (ha pins s σ H _ I h) λc s1 ⟨H1,I1,q1⟩=>?_);cases c with
 |true=>exact⟨H1,I1,q1⟩
 |false=>exact hb wh pins s1 σ H1 Q I1 q1
theorem eM(ha:PT X a tA):PT X (.UnaryOp .Not a pos) (SU tA):=by
 intro pins s σ H Q I h;exact isTrue_not (ha pins s σ H (λc H1=>Q (!c) H1) I h)
def Q7(ta tb:TE):TE:=λσ H Q=>ta σ H λx H1=>∃c,x=.bl c/\if c=true then tb σ H1 Q else Q (.bl false) H1
theorem zC{op}{t:TE}(h:PE X a t):PE X (.BoolOp op [a] pos) t:=λpins s σ H Q I hw=>BoolOp_one (h pins s σ H Q I hw)
theorem uK(ha:PE X a ta)(hb:PE X (.BoolOp .And (b::rest) pos) tb):PE X (.BoolOp .And (a::b::rest) pos) (Q7 ta tb):=by
 intro pins s σ H Q I h;refine BoolOp_and (thn (ha pins s σ H _ I h) λv s1 ⟨x,H1,I1,r1,q1⟩=>?_);obtain⟨c,rfl,q1⟩:=q1;cases r1;refine wpAny_truthy_bool ?_;cases c with
 |true=>exact hb pins s1 σ H1 Q I1 q1
 |false=>exact⟨.bl false,H1,I1,rfl,q1⟩
def tIf(t:TT)(ta tb:TE):TE:=λσ H Q=>t σ H λc H1=>if c=true then ta σ H1 Q else tb σ H1 Q
theorem uH{c:Expr}(hc:PT X c tA)(ha:PE X a ta)(hb:PE X b tb):PE X (.IfExp c a b pos) (tIf tA ta tb):=by
 intro pins s σ H Q I h;refine wpAny_IfExp (thn (hc pins s σ H _ I h) λd s1 ⟨H1,I1,q1⟩=>?_);cases d with
 |true=>exact ha pins s1 σ H1 Q I1 q1
 |false=>exact hb pins s1 σ H1 Q I1 q1
end
end L2
namespace L2
open PySem PySem.Spec PyProof.Rows
def SqL(K:PySem.W.Frag)(H:Hp)(a:Addr)(xs:List V):Prop :=
 Rd H a (.lst xs) \/
  ∃(o:Obj) (its:Array Value) (n:Nat),K.lookup a=some o/\o.cls=.type "list"/\o.dict=none/\o.data=.seq its n/\its.size<=ZW/\bI xs its.toList
def SqT(K:PySem.W.Frag)(H:Hp)(a:Addr)(xs:List V):Prop :=
 Rd H a (.tup xs) \/
  ∃(o:Obj) (its:Array Value) (n:Nat),K.lookup a=some o/\o.cls=.type "tuple"/\o.data=.seq its n/\its.size<=ZW/\bI xs its.toList
def TQ:Value->Option V
 |.none=>some .non
 |.bool b=>some (.bl b)
 |.int i _=>some (.int i)
 |.str x _=>some (.str x)
 |.bytes b _=>some (.byt b)
 |.float b _=>some (.flt b)
 |.ref a=>some (.ref a)
 |.type n=>some (.ty n)
 |_=>none
theorem RelV.abs{x:V}{u:Value}(r:RelV x u):TQ u=some x:=by
 cases x with
 |non=>cases r;rfl
 |bl _=>cases r;rfl
 |int _=>obtain⟨t,rfl⟩:=r;rfl
 |str _=>obtain⟨t,rfl⟩:=r;rfl
 |byt _=>obtain⟨t,rfl⟩:=r;rfl
 |flt _=>obtain⟨t,rfl⟩:=r;rfl
 |ref _=>cases r;rfl
 |ty _=>cases r;rfl
theorem RelV.inj{x y:V}{u:Value}(r:RelV x u)(q:RelV y u):x=y:=Option.some.inj (r.abs.symm.trans q.abs)
theorem bI.inj:∀{xs ys:List V}{us:List Value},bI xs us->bI ys us->xs=ys
 |_,_,_,.nil,.nil=>rfl
 |_,_,_,.cons r t,.cons r' t'=>by rw[r.inj r',bI.inj t t']
section
variable{X:Cx}{pins:List (Addr×Obj)}{σ:St}{H:Hp}{s:Shared}{a:Addr}{xs ys:List V}
theorem SqL.of{K:PySem.W.Frag}(h:H a=some (.lst xs)):SqL K H a xs:=.inl (.inl h)
theorem SqT.of{K:PySem.W.Frag}(h:H a=some (.tup xs)):SqT K H a xs:=.inl (.inl h)
theorem Inv.list(I:Inv X pins σ H s)(h:SqL X.K H a xs):∃its:List Value,bI xs its/\PlainL s.heap a its.toArray/\xs.length<=ZW:=by
 rcases h with h | ⟨o,its,n,hk,hc,hd,hs,hz,r⟩
 ·obtain⟨z,its,n,r,e⟩:=h.ok I.hok;exact⟨its,r,⟨_,n,e,rfl,rfl,rfl⟩,z⟩
 ·refine⟨its.toList,r,⟨o,n,I.kIn a o hk,hc,hd,by simpa using hs⟩,?_⟩;have e:=r.length;simp only[Array.length_toList]at e
  lia
theorem Inv.tuple(I:Inv X pins σ H s)(h:SqT X.K H a xs):∃its:List Value,bI xs its/\IsTup s.heap a its.toArray/\xs.length<=ZW:=by
 rcases h with h | ⟨o,its,n,hk,hc,hs,hz,r⟩
 ·obtain⟨z,its,r,p⟩:=h.ok I.hok;exact⟨its,r,p,z⟩
 ·refine⟨its.toList,r,⟨o,I.kIn a o hk,hc,n,by simpa using hs⟩,?_⟩;have e:=r.length;simp only[Array.length_toList]at e
  lia
theorem Inv.list_inj(I:Inv X pins σ H s)(h:SqL X.K H a xs)(h':SqL X.K H a ys):xs=ys:=by
 obtain⟨its,r,⟨o,n,e,_,_,d⟩,_⟩:=I.list h;obtain⟨its',r',⟨o',n',e',_,_,d'⟩,_⟩:=I.list h';rw[e]at e';cases e';rw[d]at d';injection d' with d1 _;have:its=its':=by simpa using congrArg Array.toList d1
 subst this;exact r.inj r'
end
abbrev Cx.wish(X:Cx)(E:Value->Shared->Prop):Cx:={ X with xe:=E }
abbrev Cx.nox(X:Cx):Cx:=X.wish λ_ _=>False
theorem Cx.Ok.wish{X:Cx}(ok:X.Ok)(E:Value->Shared->Prop):(X.wish E).Ok :=
 ⟨ok.mod,ok.kind,ok.glob,ok.blt,ok.above,ok.inj,ok.has,ok.cab,ok.hd,ok.frames,ok.stk,ok.exf,ok.bs,ok.bsz,ok.noex,ok.exfs,ok.funs,ok.frf⟩
theorem Cx.Ok.unwish{X:Cx}{E:Value->Shared->Prop}(ok:(X.wish E).Ok):X.Ok :=
 ⟨ok.mod,ok.kind,ok.glob,ok.blt,ok.above,ok.inj,ok.has,ok.cab,ok.hd,ok.frames,ok.stk,ok.exf,ok.bs,ok.bsz,ok.noex,ok.exfs,ok.funs,ok.frf⟩
section
variable{X:Cx}{pins:List (Addr×Obj)}{σ:St}{H:Hp}{s:Shared}{E:Value->Shared->Prop}
theorem Inv.wish(I:Inv X pins σ H s)(E:Value->Shared->Prop):Inv (X.wish E) pins σ H s:=⟨I.ok.wish E,I.os,I.bare,I.base,I.loc,I.cell,I.free,I.freeC,I.pin,I.hok,I.len⟩
theorem Inv.unwish(I:Inv (X.wish E) pins σ H s):Inv X pins σ H s:=⟨I.ok.unwish,I.os,I.bare,I.base,I.loc,I.cell,I.free,I.freeC,I.pin,I.hok,I.len⟩
theorem SP.unwish{D:Ends}{f:Flow}{s':Shared}(h:SP (X.wish E) pins D f s'):SP X pins D f s':=by
 cases f with
 |next=>obtain⟨σ',H',I,q⟩:=h;exact⟨σ',H',I.unwish,q⟩
 |brk=>obtain⟨σ',H',I,q⟩:=h;exact⟨σ',H',I.unwish,q⟩
 |cont=>obtain⟨σ',H',I,q⟩:=h;exact⟨σ',H',I.unwish,q⟩
 |ret u=>obtain⟨v,σ',H',I,r,q⟩:=h;exact⟨v,σ',H',I.unwish,r,q⟩
theorem PSs.nox{st:List Stmt}{t:TS}(h:PSs X.nox st t):PSs X st t:=λpins s σ H D I hw =>
 ZX (h pins s σ H D (I.wish _) hw) (λ_ _ q=>q.unwish) λ_ _ z=>False.elim z
end
section
variable{X:Cx}{st:Stmt}{rest:List Stmt}{t u:TS}{e:Expr}{te:TE}{pos:Pos}
def Q2:TS:=λD σ H=>D.nx σ H
def OE(t u:TS):TS:=λD σ H=>t { D with nx:=u D } σ H
theorem bD:PSs X [] Q2:=λ_ _ σ H _ I h=>wpAny_execs_nil ⟨σ,H,I,h⟩
theorem aF(h1:PS X st t)(h2:PSs X rest u):PSs X (st::rest) (OE t u):=by
 intro pins s σ H D I h;refine wpAny_execs_cons (thn (h1 pins s σ H { D with nx:=u D } I h) λf s1 q=>?_);cases f with
 |next =>
  obtain⟨σ',H',I',q⟩:=q;exact h2 pins s1 σ' H' D I' q
 |ret v=>exact q
 |brk=>exact q
 |cont=>exact q
theorem aH(h1:PS X st t):PSs X [st] t:=by
 intro pins s σ H D I h;refine wpAny_execs_cons (thn (h1 pins s σ H D I h) λf s1 q=>?_);cases f with
 |next=>exact wpAny_execs_nil q
 |ret v=>exact q
 |brk=>exact q
 |cont=>exact q
theorem Inv.quiet{pins:List (Addr×Obj)}{σ:St}{H:Hp}{s:Shared}(I:Inv X pins σ H s):interactive X.env=false:=by simp[interactive,I.ok.kind]
def Q4(te:TE):TS:=λD σ H=>te σ H λ_ H1=>D.nx σ H1
theorem cF(he:PE X e te)(hs:swapsWith e none pos.line X.env=pure false:=by rfl):PS X (.Expr e pos) (Q4 te):=by
 intro pins s σ H D I h;exact wpAny_Expr_any (thn (he pins s σ H _ I h) λv s1 ⟨x,H1,I1,r1,q1⟩=>⟨σ,H1,I1,q1⟩) I.quiet hs
def SR(te:TE):TS:=λD σ H=>te σ H D.rt
theorem aU(he:PE X e te):PS X (.Return (some e) pos) (SR te):=by
 intro pins s σ H D I h;exact wpAny_Return_some (thn (he pins s σ H _ I h) λv s1 ⟨x,H1,I1,r1,q1⟩=>⟨x,σ,H1,I1,r1,q1⟩)
def SW(c:TT)(t u:TS):TS:=λD σ H=>c σ H λb H1=>if b=true then t D σ H1 else u D σ H1
theorem b8{c:Expr}{a b:List Stmt}{tc:TT}(hc:PT X c tc)(ha:PSs X a t)(hb:PSs X b u):PS X (.If c a b pos) (SW tc t u):=by
 intro pins s σ H D I h;refine wpAny_If (thn (hc pins s σ H _ I h) λd s1 ⟨H1,I1,q1⟩=>?_);cases d with
 |true=>exact ha pins s1 σ H1 D I1 q1
 |false=>exact hb pins s1 σ H1 D I1 q1
end
abbrev TG:=V->St->Hp->(St->Hp->Prop)->Prop
abbrev TGs:=List V->St->Hp->(St->Hp->Prop)->Prop
def PG(X:Cx)(target:Expr)(t:TG):Prop :=
 ∀(pins:List (Addr×Obj)) (s:Shared) (σ:St) (H:Hp) (v:V) (u:Value) (Q:St->Hp->Prop),Inv X pins σ H s->RelV v u->t v σ H Q ->
  wpAny (model X.prog X.w) X.A (assign target X.env u) (λ_ s'=>∃σ' H',Inv X pins σ' H' s'/\Q σ' H') X.xe s
def PGs(X:Cx)(ts:List Expr)(t:TGs):Prop :=
 ∀(pins:List (Addr×Obj)) (s:Shared) (σ:St) (H:Hp) (vs:List V) (us:List Value) (Q:St->Hp->Prop),Inv X pins σ H s->bI vs us->t vs σ H Q ->
  wpAny (model X.prog X.w) X.A (assignInOrder ((assignEach ts X.env).map (·.2)) us) (λ_ s'=>∃σ' H',Inv X pins σ' H' s'/\Q σ' H') X.xe s
abbrev QM:=V->V->V->Hp->(Hp->Prop)->Prop
def SG(X:Cx)(t:QM):Prop :=
 ∀(pins:List (Addr×Obj)) (s:Shared) (σ:St) (H:Hp) (o i v:V) (ov iv u:Value) (Q:Hp->Prop),Inv X pins σ H s->RelV o ov->RelV i iv->RelV v u->t o i v H Q ->
  wpAny (model X.prog X.w) X.A (setItem ov iv u) (λ_ s'=>∃H',Inv X pins σ H' s'/\Q H') X.xe s
section
variable{X:Cx}{pos:Pos}
def dR(i:Nat):TG:=λv σ H Q=>Q (σ.set i (some v)) H
theorem aK{i:Nat}{x:Str}(hN:X.N.Nodup)(hi:X.N[i]?=some x)(hx:Loc X.env.scope x)(hf:X.fn x=true\/X.env.scope.names.lookup x=some .local:=by first | exact .inl rfl | exact .inr rfl | assumption):PG X (.Name x pos) (dR i):=by
 intro pins s σ H v u Q I r h;exact wpAny_assign_Name (k7 I hN hi hx r (λs' I'=>⟨_,H,I',h⟩) hf)
def TJ:TGs:=λvs σ H Q=>vs=[]/\Q σ H
def R3(t:TG)(u:TGs):TGs:=λvs σ H Q=>∃v r,vs=v::r/\t v σ H λσ' H'=>u r σ' H' Q
theorem cZ:PGs X [] TJ:=by
 intro pins s σ H vs us Q I r h;obtain⟨e,h⟩:=h;subst e;cases r;exact assignInOrder_nil ⟨σ,H,I,h⟩
theorem bB{e:Expr}{es:List Expr}{t:TG}{u:TGs}(h1:PG X e t)(h2:PGs X es u)
  (hs:(assignEach (e::es) X.env).map (·.2)=assign e X.env::(assignEach es X.env).map (·.2):=by rfl):PGs X (e::es) (R3 t u):=by
 intro pins s σ H vs us Q I r h;obtain⟨v,vr,e1,h⟩:=h;subst e1;cases r with
 |cons r rr =>
  rw[hs];refine assignInOrder_cons (thn (h1 pins s σ H _ _ _ I r h) λ_ s1 ⟨σ1,H1,I1,q1⟩=>?_);exact h2 pins s1 σ1 H1 _ _ Q I1 rr q1
def R1(K:PySem.W.Frag)(n:Nat)(t:TGs):TG:=λv σ H Q=>∃a xs,v=.ref a/\SqT K H a xs/\xs.length=n/\t xs σ H Q
theorem fU{es:List Expr}{k:Nat}{t:TGs}{n:Nat}(hc:X.calm=true)(h:PGs X es t)
  (hn:(assignEach es X.env).length=n:=by rfl) (hst:(assignEach es X.env).findIdx? (·.1)=none:=by rfl):PG X (.Tuple es k pos) (R1 X.K n t):=by
 intro pins s σ H v u Q I r hw;obtain⟨a,xs,e1,hq,hl,hw⟩:=hw;subst e1;cases r;obtain⟨its,rv,ht,hz⟩:=I.tuple hq;refine assign_Tuple_tuple (I.ok.hd hc) ht (by simp[hn,<-hl,rv.length]) hst λh' hx=>?_;have I1:Inv X pins σ H { s with heap:=h' }:=I.kept (t':=s.toks) λb o e=>hx b o (Nat.ne_of_lt (Heap.lt_size e)) e;exact h pins _ σ H xs _ Q I1 (by simpa using rv) hw
def TH(to ti:TE)(t:QM):TG:=λv σ H Q=>to σ H λo H1=>ti σ H1 λi H2=>t o i v H2 λH3=>Q σ H3
theorem CZ{o i:Expr}{to ti:TE}{t:QM}(ho:PE X o to)(hi:PE X i ti)(hs:SG X t)
  (ha:∀v,assign (.Subscript o i pos) X.env v=(do
   let ov <-holding [v] (eval o X.env)
   let iv <-holding [v,ov] (eval i X.env)
   standAt pos
   holding [v,ov,iv] (setItem ov iv v)
   release [v,ov,iv] []):=by intro _;rfl):PG X (.Subscript o i pos) (TH to ti t):=by
 intro pins s σ H v u Q I r h;rw[ha];refine ZZ (ZU (thn (ho pins s σ H _ I h) λov s1 ⟨x,H1,I1,r1,q1⟩=>?_));refine ZZ (ZU (thn (hi pins s1 σ H1 _ I1 q1) λiv s2 ⟨y,H2,I2,r2,q2⟩=>?_));refine ZZ (wpAny_standAt (ZZ (ZU (thn (hs pins s2 σ H2 x y v ov iv u _ I2 r1 r2 r q2) λ_ s3 ⟨H3,I3,q3⟩=>?_))));exact wpAny_release ⟨σ,H3,I3,q3⟩
def K5(te:TE)(g:TG):TS:=λD σ H=>te σ H λx H1=>g x σ H1 D.nx
theorem qR{tg e:Expr}{te:TE}{g:TG}(he:PE X e te)(hg:PG X tg g)(hs:swapsWithSole [tg] e pos.line X.env=pure false:=by rfl)(hw:swappedStores [tg] e X.env=pure none:=by rfl)
  (h1:(assignEach [tg] X.env).map (·.2)=[assign tg X.env]:=by rfl):PS X (.Assign [tg] e pos) (K5 te g):=by
 intro pins s σ H D I h;refine wpAny_Assign_stores (thn (he pins s σ H _ I h) λv s1 ⟨x,H1,I1,r1,q1⟩=>?_) hs hw;rw[h1];exact thn (hg pins s1 σ H1 x v _ I1 r1 q1) λ_ s2 q=>q
theorem O5{i:Nat}{x:Str}{e:Expr}{te:TE}{pos':Pos}(hN:X.N.Nodup)(hi:X.N[i]?=some x)(hx:Loc X.env.scope x)(he:PE X e te)(hs:swapsWith e (some (.Name x pos')) pos.line X.env=pure false:=by rfl)(hf:X.fn x=true\/X.env.scope.names.lookup x=some .local:=by first | exact .inl rfl | exact .inr rfl | assumption) :
  PS X (.Assign [.Name x pos'] e pos) (K5 te (dR i)):=by
 intro pins s σ H D I h;refine wpAny_Assign_Name (thn (he pins s σ H _ I h) λv s1 ⟨y,H1,I1,r1,q1⟩=>?_) hs;exact k7 I1 hN hi hx r1 (λs2 I2=>⟨_,H1,I2,q1⟩) hf
def SS(i j:Nat)(ta:TA):TS:=λD σ H=>ta σ H λvs H1=>∃v w,vs=[v,w]/\D.nx ((σ.set i (some v)).set j (some w)) H1
theorem O6{i j:Nat}{x y:Str}{a b:Expr}{ta:TA}{px py pt:Pos}{kt k2 pt2}(hc:X.calm=true)(hN:X.N.Nodup)(hi:X.N[i]?=some x)(hj:X.N[j]?=some y)(hij:i≠j)
  (hx:X.env.scope.names.lookup x=some .local) (hy:X.env.scope.names.lookup y=some .local) (ha:PA X [a,b] ta)
  (hw:swappedStores [.Tuple [.Name x px,.Name y py] kt pt] (.Tuple [a,b] k2 pt2) X.env=pure (some [x,y]))
  (hs:swapsWithSole [.Tuple [.Name x px,.Name y py] kt pt] (.Tuple [a,b] k2 pt2) pos.line X.env=pure false:=by rfl) :
  PS X (.Assign [.Tuple [.Name x px,.Name y py] kt pt] (.Tuple [a,b] k2 pt2) pos) (SS i j ta):=by
 intro pins s σ H D I h;rw[exec_Assign_arm];refine ZZ (wpAny_standAt ?_);rw[hs];refine ZZ (ZY ?_);rw[if_neg (by decide)];refine ZZ (Tuple_ (thn (ha _ pins s σ H _ I h) λus s1 ⟨vs,H1,I1,r1,q1⟩=>?_));obtain⟨v,w,e1,q1⟩:=q1;subst e1;obtain⟨u1,u2,rfl,rv,rw'⟩:∃u1 u2,us=[u1,u2]/\RelV v u1/\RelV w u2:=by
  cases r1 with
  |cons p q =>
   cases q with
   |cons p' q' =>
    cases q';exact⟨_,_,rfl,p,p'⟩
 refine wpAny_newObj_type ?_ (by show 2<=ZW;decide);have I2:Inv X pins σ H1 { s1 with heap:=s1.heap.push { cls:=.type "tuple",data:=.seq [u1,u2].toArray } }:=I1.kept (t':=s1.toks) λb o e=>Heap.get?_push_of_some _ e;rw[hw];refine ZZ (ZY ?_);show wpAny (model X.prog X.w) X.A (do rule "assign.swapped-stores";let items <-unpackItems (.ref s1.heap.objs.size) 2 none;assignInOrder [λv=>bindName X.env y v,λv=>bindName X.env x v] items.reverse;pure Flow.next) _ _ _;refine ZZ (wpAny_rule (ZZ (unpackItems_tuple (items:=#[u1,u2]) (I.ok.hd hc) (IsTup.new s1.heap _) λh' hx'=>?_)));have I3:=I2.kept (h':=h') (t':=s1.toks) λb o e=>hx' b o (Nat.ne_of_lt (Heap.lt_size e)) e;show wpAny _ _ (assignInOrder [λv=>bindName X.env y v,λv=>bindName X.env x v] [u2,u1] >>= λ_=>pure Flow.next) _ _ _;refine ZZ (assignInOrder_cons (wpAny_bindName (k7 I3 hN hj (.inl hy) rw' (λs2 I4=>?_) (.inr hy))));refine assignInOrder_cons (wpAny_bindName (k7 I4 hN hi (.inl hx) rv (λs3 I5=>assignInOrder_nil (ZY ?_)) (.inr hx)));rw[List.set_comm _ _ (Ne.symm hij)]at I5;exact⟨_,H1,I5,q1⟩
end
section
variable{X:Cx}{pos:Pos}
def OC(c:TT)(tb:TS):TS:=λD σ H=>∃W:Nat->St->Hp->Prop,(∃m,W m σ H)/\∀m σ H,W m σ H ->
 c σ H λb H1=>if b=true then ∃N:St->Hp->Prop,(∀σ' H',N σ' H'->∃m',m' < m/\W m' σ' H')/\tb { D with nx:=N,ct:=N,bk:=D.nx } σ H1 else D.nx σ H1
theorem jO{c:Expr}{body:List Stmt}{tc:TT}{tb:TS}(hp:PassesOwn (model X.prog X.w) X.A X.env X.xe)(hc:PT X c tc)(hb:PSs X body tb):PS X (.While c body [] pos) (OC tc tb):=by
 intro pins s σ H D I h;obtain⟨W,⟨m0,w0⟩,turn⟩:=h;refine wpAny_While (codeAny_whileLoop (λn s'=>∃σ' H',Inv X pins σ' H' s'/\W n σ' H') ?_ m0 ⟨σ,H,I,w0⟩);rintro n s1 ⟨σ1,H1,I1,w1⟩;refine wpAny_passesOwn hp (thn (hc pins s1 σ1 H1 _ I1 (turn n σ1 H1 w1)) λb s2 ⟨H2,I2,q2⟩=>?_);cases b with
 |true =>
  obtain⟨N,hN,q2⟩:=q2;rw[if_pos rfl];refine wpAny_passesOwn hp (thn (hb pins s2 σ1 H2 _ I2 q2) λf s3 q3=>?_);cases f with
  |next =>
   obtain⟨σ3,H3,I3,n3⟩:=q3;obtain⟨m',hm,w3⟩:=hN σ3 H3 n3;exact⟨m',hm,σ3,H3,I3,w3⟩
  |cont =>
   obtain⟨σ3,H3,I3,n3⟩:=q3;obtain⟨m',hm,w3⟩:=hN σ3 H3 n3;exact⟨m',hm,σ3,H3,I3,w3⟩
  |brk=>exact q3
  |ret v=>exact q3
 |false =>
  rw[if_neg Bool.false_ne_true];exact wpAny_execs_nil ⟨σ1,H2,I2,q2⟩
end
structure It where
 go:Nat->Hp->Prop
 yld:Nat->Hp->V->Hp->Prop
 stop:Nat->Hp->Prop
def kY(X:Cx)(pins:List (Addr×Obj))(H:Hp)(b:Addr):Prop :=
 H b=none/\b≠X.env.locals/\b∉X.fs/\(b∈X.ex\/X.s₀.heap.objs.size<=b)/\(∀x c,X.env.cells.lookup x=some c->c≠b)/\∀p∈X.pn++pins,p.1≠b
theorem Inv.fpOk{X:Cx}{pins:List (Addr×Obj)}{σ:St}{H H':Hp}{s:Shared}{b:Addr}(I:Inv X pins σ H s)(hb:s.heap.objs.size<=b)(hn:H' b=none):kY X pins H' b:=by
 refine⟨hn,Nat.ne_of_gt (Yt I.lt hb),I.nofs hb,.inr (Yr I.sz hb),λx c e z=>?_,λp hp z=>?_⟩
 ·obtain⟨v,q⟩:=I.cell x c e;exact absurd (Yt q.lt (by rw[z];exact hb)) (Nat.lt_irrefl _)
 ·exact absurd (Yt (Heap.lt_size (I.pin p hp).1) (by rw[z];exact hb)) (Nat.lt_irrefl _)
structure Turn(P:Program)(w:World)(K:PySem.W.Frag)(tg:Expr)(J:It)(fp:List Addr)(it:Addr)(tn:Nat->Heap->Prop):Prop where
 mem:it∈fp
 obj:∀i h,tn i h->∀b∈fp,∃o,h.get? b=some o/\∀v,o.data≠.cell v
 keep:∀i h h',tn i h->(∀b∈fp,∀o,h.get? b=some o->h'.get? b=some o)->tn i h'
 item:∀(X:Cx),X.prog=P->X.w=w->X.K=K->X.calm=true->∀(i:Nat) (pins:List (Addr×Obj)) (s:Shared) (σ:St) (H:Hp) (E:Value->Shared->Prop),Inv X pins σ H s->(∀b∈fp,kY X pins H b)->tn i s.heap->J.go i H ->
  wpAny (model P w) X.A (pyNext (.ref it)) (λr s1=>∃u,r=some u /\
   wpAny (model P w) X.A (letOwnedTupleGo tg (.ref it) u) (λ_ s2=>∃x H',Inv X pins σ H' s2/\RelV x u/\J.yld i H x H'/\tn (i+1) s2.heap/\∀b∈fp,H' b=none) E s1) E s
 done:∀(X:Cx),X.prog=P->X.w=w->X.K=K->X.calm=true->∀(i:Nat) (pins:List (Addr×Obj)) (s:Shared) (σ:St) (H:Hp) (E:Value->Shared->Prop),Inv X pins σ H s->(∀b∈fp,kY X pins H b)->tn i s.heap->J.stop i H ->
  wpAny (model P w) X.A (pyNext (.ref it)) (λr s1=>r=none/\Inv X pins σ H s1) E s
 self:∀(A:Around) (i:Nat) (s:Shared) (Q:Value->Shared->Prop) (E:Value->Shared->Prop),tn i s.heap->Q (.ref it) s->wpAny (model P w) A (pyIter (.ref it)) Q E s
abbrev TI:=St->Hp->(It->Hp->Prop)->Prop
def PIE(X:Cx)(pins:List (Addr×Obj))(σ:St)(tg:Expr)(R:It->Hp->Prop)(itv:Value)(s2:Shared):Prop :=
 ∃(it:Addr) (fp:List Addr) (tn:Nat->Heap->Prop) (J:It) (H':Hp),itv=.ref it/\Inv X pins σ H' s2/\Turn X.prog X.w X.K tg J fp it tn/\tn 0 s2.heap/\(∀b∈fp,kY X pins H' b)/\R J H'
def PI(X:Cx)(tg iter:Expr)(wi:TI):Prop :=
 ∀(pins:List (Addr×Obj)) (s:Shared) (σ:St) (H:Hp) (R:It->Hp->Prop),Inv X pins σ H s->wi σ H R ->
  wpAny (model X.prog X.w) X.A (eval iter X.env) (λv s1=>wpAny (model X.prog X.w) X.A (pyIter v) (PIE X pins σ tg R) X.xe s1) X.xe s
theorem NV{M:Model}{A:Around}{E:Value->Shared->Prop}{s:Shared}{tg:Expr}{it:Addr}{u:Value}{o:Obj}{n:String}{vs:Array Value}{Q:Unit->Shared->Prop}(ho:s.heap.get? it=some o)(hc:o.cls=.type n)(hd:o.data=.fields vs)
  (hn:["enumerate","zip","dict_itemiterator","dict_reverseitemiterator","odict_iterator","itertools.zip_longest","itertools.pairwise"].contains n=false) (hQ:Q () s):wpAny M A (letOwnedTupleGo tg (.ref it) u) Q E s:=by
 unfold letOwnedTupleGo;cases tg<;>first
  |exact ZY hQ
  |(cases u<;>first
    |exact ZY hQ
    |(refine ZZ (wpAny_load ho ?_);rw[hc,hd];show wpAny M A (if (["enumerate","zip","dict_itemiterator","dict_reverseitemiterator","odict_iterator","itertools.zip_longest","itertools.pairwise"].contains n&&vs[0]?==some (rawInt _))=true then _ else _) Q E s;rw[if_neg (by intro h;rw[hn,Bool.false_and]at h;cases h)];exact ZY hQ))
def Itl(K:PySem.W.Frag)(a:Addr):It :=
 ⟨λi H=>∃xs x,SqL K H a xs/\xs[i]?=some x,λi H x H'=>H'=H/\∀xs,SqL K H a xs->xs[i]?=some x,λi H=>∃xs,SqL K H a xs/\xs.length<=i⟩
def Itr(lo:Int)(n:Nat):It:=⟨λi _=>i<n,λi H x H'=>H'=H/\x=.int (lo+i),λi _=>n<=i⟩
theorem FT{P:Program}{w:World}{K:PySem.W.Frag}{tg:Expr}(a it:Addr):Turn P w K tg (Itl K a) [it] it (λi h=>h.IsListIter it a i) where
 mem:=by simp
 obj:=λi h st b hb=>by
  have e:b=it:=by simpa using hb
  subst e;obtain⟨o,e,c,d⟩:=st;exact⟨o,e,λv z=>by rw[d]at z;cases z⟩
 keep:=λi h h' st k=>st.at λo e=>k it (by simp) o e
 item:=by
  intro X hP hw hK hc i pins s σ H E I hf st hg;subst hP hw hK;obtain⟨xs,x,hq,hx⟩:=hg;obtain⟨its,rv,p,hz⟩:=I.list hq;obtain⟨u,hu,ru⟩:=rv.get hx;obtain⟨f0,f1,f2,f3,f4,f5⟩:=hf it (by simp);refine wpAny_pyNext_list_item st p.isList (x:=u) (by simpa using hu) λh' st' sb=>?_;have I1:Inv X pins σ H { s with heap:=h' }:=I.turned (t':=s.toks) (λb o hb e=>(sb.2 b hb).trans e) f0 f1 f3 f4 f5;obtain⟨o,e,c,d⟩:=id st';exact⟨u,rfl,NV (s:={ s with heap:=h' }) e c d (by decide) ⟨x,H,I1,ru,⟨rfl,λys hy=>by rw[I.list_inj hy hq];exact hx⟩,st',λb hb=>(hf b hb).1⟩⟩
 done:=by
  intro X hP hw hK hc i pins s σ H E I hf st hg;subst hP hw hK;obtain⟨xs,hq,hx⟩:=hg;obtain⟨its,rv,p,hz⟩:=I.list hq;obtain⟨f0,f1,f2,f3,f4,f5⟩:=hf it (by simp);have hl:=rv.length;exact wpAny_pyNext_list_end (I.ok.hd hc) st p.isList (by simp;lia) λh' eb=>⟨rfl,I.turned (t':=s.toks) (λb o hb e=>eb b o hb e) f0 f1 f3 f4 f5⟩
 self:=λ_ _ _ _ _ st h=>wpAny_pyIter_listiter st h
theorem CF{P:Program}{w:World}{K:PySem.W.Frag}{tg:Expr}(it:Addr)(lo:Int)(n:Nat):Turn P w K tg (Itr lo n) [it] it (λi h=>IsRangeIter h it (lo+(i:Nat)*1) ((n:Int)-(i:Nat)) 1) where
 mem:=by simp
 obj:=λi h st b hb=>by
  have e:b=it:=by simpa using hb
  subst e;exact⟨_,st,λv z=>by
   have z':Data.fields _=Data.cell v:=z;cases z'⟩
 keep:=λi h h' st k=>k it (by simp) _ st
 item:=by
  intro X hP hw hK hc i pins s σ H E I hf st hg;subst hP hw hK;obtain⟨f0,f1,f2,f3,f4,f5⟩:=hf it (by simp);have W:=Walks.range (prog:=X.prog) (w:=X.w) (I.ok.hd hc) it lo 1 n;refine W.item i s _ _ hg st λv h' tk hv st' kk=>?_;obtain⟨t,rfl⟩:=hv;have I1:Inv X pins σ H { s with heap:=h',toks:=tk }:=I.turned (λb o hb e=>kk b o (by simpa using hb) e) f0 f1 f3 f4 f5;refine⟨_,rfl,NV (s:={ s with heap:=h',toks:=tk }) (n:="range_iterator") st' rfl rfl (by decide) ⟨.int (lo+i),H,I1,⟨t,?_⟩,⟨rfl,rfl⟩,st',λb hb=>(hf b hb).1⟩⟩;rw[Int.mul_one]
 done:=by
  intro X hP hw hK hc i pins s σ H E I hf st hg;subst hP hw hK;obtain⟨f0,f1,f2,f3,f4,f5⟩:=hf it (by simp);exact wpAny_pyNext_range_end (I.ok.hd hc) st (by have:n<=i:=hg;lia) λh' eb=>⟨rfl,I.turned (t':=s.toks) (λb o hb e=>eb b o hb e) f0 f1 f3 f4 f5⟩
 self:=λ_ _ _ _ _ st h=>wpAny_pyIter_rangeiter st h
end L2
namespace L2
open PySem PySem.Spec PyProof.Rows
section
variable{X:Cx}{tg:Expr}
def NS(K:PySem.W.Frag)(tl:TE):TI:=λσ H R=>tl σ H λx H1=>∃a,x=.ref a/\(∃xs,SqL K H1 a xs)/\R (Itl K a) H1
theorem bJ{l:Expr}{tl:TE}(hl:PE X l tl):PI X tg l (NS X.K tl):=by
 intro pins s σ H R I h;refine thn (hl pins s σ H _ I h) λv s1 ⟨x,H1,I1,r1,q1⟩=>?_;obtain⟨a,e,⟨xs,hq⟩,q⟩:=q1;subst e;cases r1;obtain⟨its,rv,p,hz⟩:=I1.list hq;refine wpAny_pyIter_list p.isList ?_;refine⟨s1.heap.objs.size,[s1.heap.objs.size],_,_,H1,rfl,I1.kept (t':=s1.toks) λb o e=>Heap.get?_push_of_some _ e,FT a _,⟨_,Heap.get?_push_size _ rfl,rfl,rfl⟩,λb hb=>?_,q⟩;have e:b=s1.heap.objs.size:=by simpa using hb
 subst e;exact I1.fpOk (Nat.le_refl _) (I1.hok.fresh (Nat.le_refl _))
theorem IP{pins:List (Addr×Obj)}{σ:St}{H:Hp}{s:Shared}{R:It->Hp->Prop}{E:Value->Shared->Prop}{lo hi:Int}{t u v:Tok}{tk:Nat}(I:Inv X pins σ H s)(h1 : -(2 ^ 62)<=lo)(h2:lo<2 ^ 62)(h3 : -(2 ^ 62)<=hi)(h4:hi<2 ^ 62)
  (q:R (Itr lo (hi-lo).toNat) H):wpAny (model X.prog X.w) X.A (pyIter (.ref s.heap.objs.size)) (PIE X pins σ tg R) E { s with heap:=s.heap.push { cls:=.type "range",data:=.fields #[.int lo t,.int hi u,.int 1 v] },toks:=tk }:=by
 refine wpAny_pyIter_range (IsRange.new ..) (small_one h1 h2 h3 h4) ?_;have I1:Inv X pins σ H { s with heap:=s.heap.push { cls:=.type "range",data:=.fields #[.int lo t,.int hi u,.int 1 v] },toks:=tk }:=I.kept λb o e=>Heap.get?_push_of_some _ e;refine⟨(s.heap.push { cls:=.type "range",data:=.fields #[.int lo t,.int hi u,.int 1 v] }).objs.size,[(s.heap.push { cls:=.type "range",data:=.fields #[.int lo t,.int hi u,.int 1 v] }).objs.size],_,_,H,rfl,
  I1.kept (t':=tk) λb o e=>Heap.get?_push_of_some _ e,CF _ lo (hi-lo).toNat,?_,λb hb=>?_,q⟩
 ·have e1:lo+((0:Nat):Int)*1=lo:=by simp
  have e2:(((hi-lo).toNat:Nat):Int)-((0:Nat):Int)=Builtin.Range.rangeSize lo hi 1:=by rw[rangeSize_one];split<;>lia
  show IsRangeIter _ _ (lo+((0:Nat):Int)*1) ((((hi-lo).toNat:Nat):Int)-((0:Nat):Int)) 1;rw[e1,e2];exact Heap.get?_push_size _ rfl
 ·have e:b=(s.heap.push { cls:=.type "range",data:=.fields #[.int lo t,.int hi u,.int 1 v] }).objs.size:=by simpa using hb
  subst e;exact I1.fpOk (Nat.le_refl _) (I1.hok.fresh (Nat.le_refl _))
def RY(ta:TA):TI:=λσ H R=>ta σ H λvs H1=>∃j:Int,vs=[.int j]/\-(2 ^ 62)<=j/\j<2 ^ 62/\R (Itr 0 j.toNat) H1
theorem bH{a:Expr}{ta:TA}{p pos:Pos}(hg:Gl X "range")(hm:X.mg "range" = none)(ha:PA X [a] ta)(hs:starEach [a] X.env=[(false,eval a X.env)]:=by rfl):PI X tg (.Call (.Name "range" p) [a] [] pos) (RY ta):=by
 intro pins s σ H R I h;refine Call_ (nT I hg hm boot_range (PyProof.Rows.callWith_type1 (thn (ha pos pins s σ H _ I h) λus s1 ⟨vs,H1,I1,r1,q1⟩=>?_) hs rfl));obtain⟨j,e,q1,q2,q⟩:=q1;subst e;cases r1 with
 |cons r rr =>
  cases rr;obtain⟨t,rfl⟩:=r;exact call_range_1 (IP I1 (by lia) (by lia) q1 q2 (by simpa using q))
def SX(wi:TI)(g:TG)(tb:TS):TS:=λD σ H=>wi σ H λJ H1=>∃W:Nat->Nat->St->Hp->Prop,(∃m,W 0 m σ H1)/\∀i m σ H,W i m σ H ->
 (J.stop i H/\D.nx σ H)\/(J.go i H/\∃N:St->Hp->Prop,(∀σ' H',N σ' H'->∃m',m' < m/\W (i+1) m' σ' H')/\∀x H',J.yld i H x H'->g x σ H' λσ2 H2=>tb { D with nx:=N,ct:=N,bk:=D.nx } σ2 H2)
def uG(fp:List Addr)(h:Heap):List (Addr×Obj):=fp.filterMap λb=>(h.get? b).map λo=>(b,o)
theorem kM{fp:List Addr}{h:Heap}{b:Addr}{o:Obj}(hb:b∈fp)(e:h.get? b=some o):(b,o)∈uG fp h:=List.mem_filterMap.mpr ⟨b,hb,by rw[e];rfl⟩
theorem GC{fp:List Addr}{h:Heap}{p:Addr×Obj}(hp:p∈uG fp h):p.1∈fp/\h.get? p.1=some p.2:=by
 obtain⟨b,hb,e⟩:=List.mem_filterMap.mp hp;cases q:h.get? b with
 |none=>rw[q]at e;cases e
 |some o =>
  rw[q]at e;have e':(b,o)=p:=Option.some.inj e;subst e';exact⟨hb,q⟩
theorem Inv.pinned{pins:List (Addr×Obj)}{σ:St}{H:Hp}{s:Shared}{fp:List Addr}(I:Inv X pins σ H s)(hf:∀b∈fp,kY X pins H b)(ho:∀b∈fp,∃o,s.heap.get? b=some o/\∀v,o.data≠.cell v):Inv X (pins++uG fp s.heap) σ H s :=
 I.pins_of λp hp=>(Zf.mp hp).elim (λz=>I.pin p (List.mem_append_right _ z)) λz=>by
  obtain⟨hb,e⟩:=GC z;obtain⟨f0,f1,f2,_⟩:=hf p.1 hb;obtain⟨o,e',d⟩:=ho p.1 hb;rw[e]at e';cases e';exact⟨e,f0,f1,f2,d⟩
theorem Inv.unpinned{pins pl:List (Addr×Obj)}{σ:St}{H:Hp}{s:Shared}(I:Inv X (pins++pl) σ H s):Inv X pins σ H s:=I.pins_of λp hp=>I.pin p (List.mem_append_right _ (List.mem_append_left _ hp))
theorem cQ{iter:Expr}{body:List Stmt}{wi:TI}{g:TG}{tb:TS}{pos:Pos}(hp:PassesOwn (model X.prog X.w) X.A X.env X.xe)(hc:X.calm=true)(hi:PI X tg iter wi)(hg:PG X tg g)(hb:PSs X body tb)
  (hs:∀x,foldedSetIterable iter X.env x=pure x:=by intro _;rfl):PS X (.For tg iter body [] pos) (SX wi g tb):=by
 intro pins s σ H D I h;refine wpAny_For (thn (hi pins s σ H _ I h) λv s1 h1=>thn h1 λitv s2 h2=>?_) hs;obtain⟨it,fp,tn,J,H2,e,I2,T,st2,f2,W,⟨m0,w0⟩,turn⟩:=h2;subst e;have stat:∀{H':Hp},(∀b∈fp,H' b=none)->∀b∈fp,kY X pins H' b:=λhn b hb=>⟨hn b hb,(f2 b hb).2⟩
 refine codeAny_forLoop_any (λn s'=>∃i σ' H',Inv X pins σ' H' s'/\tn i s'.heap/\(∀b∈fp,H' b=none)/\W i n σ' H') ?_ m0 ⟨0,σ,H2,I2,st2,λb hb=>(f2 b hb).1,w0⟩;rintro n s3 ⟨i,σ3,H3,I3,st3,fr3,w3⟩;rcases turn i n σ3 H3 w3 with⟨stop,qn⟩ | ⟨go,N,hN,step⟩
 ·refine wpAny_passesOwn hp (thn (T.done X rfl rfl rfl hc i pins s3 σ3 H3 X.xe I3 (stat fr3) st3 stop) λr s4 ⟨hr,I4⟩=>?_);subst hr;exact wpAny_execs_nil ⟨σ3,H3,I4,qn⟩
 ·refine wpAny_passesOwn hp (thn (T.item X rfl rfl rfl hc i pins s3 σ3 H3 X.xe I3 (stat fr3) st3 go) λr s4 ⟨u,hr,h4⟩=>?_);subst hr;refine wpAny_passesOwn hp (thn h4 λ_ s5 ⟨x,H5,I5,r5,y5,st5,fr5⟩=>?_);have I5':=I5.pinned (stat fr5) (T.obj _ _ st5);refine wpAny_passesOwn hp (thn (hg _ s5 σ3 H5 x u _ I5' r5 (step x H5 y5)) λ_ s6 ⟨σ6,H6,I6,q6⟩=>?_);refine wpAny_passesOwn hp (thn (hb _ s6 σ6 H6 _ I6 q6) λf s7 q7=>?_);have again:∀{σ7:St}{H7:Hp},Inv X (pins++uG fp s5.heap) σ7 H7 s7->N σ7 H7->∃m,m<n/\∃i σ' H',Inv X pins σ' H' s7/\tn i s7.heap/\(∀b∈fp,H' b=none)/\W i m σ' H':=λ{σ7 H7} I7 n7=>by
   obtain⟨m',hm,w7⟩:=hN σ7 H7 n7;refine⟨m',hm,i+1,σ7,H7,I7.unpinned,T.keep _ _ _ st5 λb hb o e=>(I7.pin (b,o) (List.mem_append_right _ (List.mem_append_right _ (kM hb e)))).1,λb hb=>?_,w7⟩;obtain⟨o,e,d⟩:=T.obj _ _ st5 b hb;exact(I7.pin (b,o) (List.mem_append_right _ (List.mem_append_right _ (kM hb e)))).2.1
  cases f with
  |next=>obtain⟨σ7,H7,I7,n7⟩:=q7;exact again I7 n7
  |cont=>obtain⟨σ7,H7,I7,n7⟩:=q7;exact again I7 n7
  |brk=>obtain⟨σ7,H7,I7,q7⟩:=q7;exact⟨σ7,H7,I7.unpinned,q7⟩
  |ret v=>obtain⟨x7,σ7,H7,I7,r7,q7⟩:=q7;exact⟨x7,σ7,H7,I7.unpinned,r7,q7⟩
end
theorem fI{K:PySem.W.Frag}{a:Addr}{xs:List V}{g:TG}{tb:TS}{D:Ends}{σ:St}{H:Hp}(Pv:Nat->St->Hp->Prop)(h0:Pv 0 σ H)(hl:∀i σ H,i<=xs.length->Pv i σ H->SqL K H a xs)
  (hs:∀i x σ H,xs[i]?=some x->Pv i σ H->g x σ H λσ2 H2=>tb { D with nx:=Pv (i+1),ct:=Pv (i+1),bk:=D.nx } σ2 H2) (hd:∀σ H,Pv xs.length σ H->D.nx σ H) :
  ∃W:Nat->Nat->St->Hp->Prop,(∃m,W 0 m σ H)/\∀i m σ H,W i m σ H ->
   ((Itl K a).stop i H/\D.nx σ H)\/((Itl K a).go i H/\∃N:St->Hp->Prop,(∀σ' H',N σ' H'->∃m',m' < m/\W (i+1) m' σ' H')/\∀x H',(Itl K a).yld i H x H'->g x σ H' λσ2 H2=>tb { D with nx:=N,ct:=N,bk:=D.nx } σ2 H2):=by
 refine⟨λi m σ H=>m=xs.length-i/\i<=xs.length/\Pv i σ H,⟨xs.length,by simp,Nat.zero_le _,h0⟩,?_⟩;rintro i m σ H ⟨rfl,hi,p⟩;have q:=hl i σ H hi p;by_cases hlt:i<xs.length
 ·refine .inr ⟨⟨xs,xs[i],q,by simp[hlt]⟩,Pv (i+1),λσ' H' p'=>⟨xs.length-(i+1),by omega,rfl,hlt,p'⟩,λx H' y=>?_⟩;obtain⟨e,y⟩:=y;subst e;exact hs i x σ _ (y xs q) p
 ·have e:i=xs.length:=by lia
  subst e;exact .inl ⟨⟨xs,q,Nat.le_refl _⟩,hd σ H p⟩
theorem dJ{lo:Int}{n:Nat}{g:TG}{tb:TS}{D:Ends}{σ:St}{H:Hp}(Pv:Nat->St->Hp->Prop)(h0:Pv 0 σ H)
  (hs:∀i σ H,i<n->Pv i σ H->g (.int (lo+i)) σ H λσ2 H2=>tb { D with nx:=Pv (i+1),ct:=Pv (i+1),bk:=D.nx } σ2 H2) (hd:∀σ H,Pv n σ H->D.nx σ H) :
  ∃W:Nat->Nat->St->Hp->Prop,(∃m,W 0 m σ H)/\∀i m σ H,W i m σ H ->
   ((Itr lo n).stop i H/\D.nx σ H)\/((Itr lo n).go i H/\∃N:St->Hp->Prop,(∀σ' H',N σ' H'->∃m',m' < m/\W (i+1) m' σ' H')/\∀x H',(Itr lo n).yld i H x H'->g x σ H' λσ2 H2=>tb { D with nx:=N,ct:=N,bk:=D.nx } σ2 H2):=by
 refine⟨λi m σ H=>m=n-i/\i<=n/\Pv i σ H,⟨n,by simp,Nat.zero_le _,h0⟩,?_⟩;rintro i m σ H ⟨rfl,hi,p⟩;by_cases hlt:i<n
 ·refine .inr ⟨hlt,Pv (i+1),λσ' H' p'=>⟨n-(i+1),by omega,rfl,hlt,p'⟩,λx H' y=>?_⟩;obtain⟨e,y⟩:=y;subst e y;exact hs i σ _ hlt p
 ·have e:i=n:=by lia
  subst e;exact .inl ⟨Nat.le_refl _,hd σ H p⟩
end L2
namespace L2
open PySem PySem.Spec PyProof.Rows
abbrev R2:=V->V->Hp->VK->Prop
def OpR(X:Cx)(f:Value->Value->Sem Value)(r:R2):Prop :=
 ∀(pins:List (Addr×Obj)) (s:Shared) (σ:St) (H:Hp) (x y:V) (v u:Value) (Q:VK),Inv X pins σ H s->RelV x v->RelV y u->r x y H Q ->
  wpAny (model X.prog X.w) X.A (f v u) (EP X pins σ Q) X.xe s
def UnR(X:Cx)(f:Value->Sem Value)(r:V->Hp->VK->Prop):Prop :=
 ∀(pins:List (Addr×Obj)) (s:Shared) (σ:St) (H:Hp) (x:V) (v:Value) (Q:VK),Inv X pins σ H s->RelV x v->r x H Q ->
  wpAny (model X.prog X.w) X.A (f v) (EP X pins σ Q) X.xe s
def dG(X:Cx)(f:Value)(r:List V->Hp->VK->Prop):Prop :=
 ∀(pins:List (Addr×Obj)) (s:Shared) (σ:St) (H:Hp) (xs:List V) (us:List Value) (Q:VK),Inv X pins σ H s->bI xs us->r xs H Q ->
  wpAny (model X.prog X.w) X.A (call f us) (EP X pins σ Q) X.xe s
def TR(X:Cx)(r:V->Hp->(Bool->Hp->Prop)->Prop):Prop :=
 ∀(pins:List (Addr×Obj)) (s:Shared) (σ:St) (H:Hp) (x:V) (v:Value) (Q:Bool->Hp->Prop),Inv X pins σ H s->RelV x v->r x H Q ->
  wpAny (model X.prog X.w) X.A (truthy v) (TP X pins σ Q) X.xe s
def tOp(r:R2)(ta tb:TE):TE:=λσ H Q=>ta σ H λx H1=>tb σ H1 λy H2=>r x y H2 Q
def tUn(r:V->Hp->VK->Prop)(ta:TE):TE:=λσ H Q=>ta σ H λx H1=>r x H1 Q
def rI(C:Int->Int->Prop)(g:Int->Int->V):R2:=λx y H Q=>∃i j,x=.int i/\y=.int j/\C i j/\Q (g i j) H
def rI0(g:Int->Int->V):R2:=λx y H Q=>∃i j,x=.int i/\y=.int j/\Q (g i j) H
def rU(g:Int->V):V->Hp->VK->Prop:=λx H Q=>∃i,x=.int i/\Q (g i) H
section
variable{X:Cx}{a b c:Expr}{ta tb tc:TE}{pos:Pos}
theorem QJ(ha:PE X a ta)(hb:PE X b tb){pins:List (Addr×Obj)}{s:Shared}{σ:St}{H:Hp}{R:V->V->Hp->Prop}(I:Inv X pins σ H s)
  (h:ta σ H λx H1=>tb σ H1 λy H2=>R x y H2) {Q:Value->Shared->Prop}{f:Value->Value->Sem Value}
  (hf:∀v u s2 x y H2,Inv X pins σ H2 s2->RelV x v->RelV y u->R x y H2->wpAny (model X.prog X.w) X.A (f v u) Q X.xe s2) :
  wpAny (model X.prog X.w) X.A (eval a X.env) (λv s₁=>wpAny (model X.prog X.w) X.A (eval b X.env) (λu s₂=>wpAny (model X.prog X.w) X.A (f v u) Q X.xe s₂) X.xe s₁) X.xe s:=by
 refine thn (ha pins s σ H _ I h) λv s1 ⟨x,H1,I1,r1,q1⟩=>?_;refine thn (hb pins s1 σ H1 _ I1 q1) λu s2 ⟨y,H2,I2,r2,q2⟩=>?_;exact hf v u s2 x y H2 I2 r1 r2 q2
theorem aO{op:Operator}{r:R2}(ho:OpR X (binaryOp op) r)(ha:PE X a ta)(hb:PE X b tb):PE X (.BinOp a op b pos) (tOp r ta tb):=by
 intro pins s σ H Q I h;exact wpAny_BinOp (QJ ha hb I h λv u s2 x y H2 I2 rx ry q=>ho pins s2 σ H2 x y v u Q I2 rx ry q)
theorem mV{op:UnaryOp}{r:V->Hp->VK->Prop}(ho:UnR X (unaryOp op) r)(ha:PE X a ta):PE X (.UnaryOp op a pos) (tUn r ta):=by
 intro pins s σ H Q I h;exact UnaryOp_ (thn (ha pins s σ H _ I h) λv s1 ⟨x,H1,I1,r1,q1⟩=>ho pins s1 σ H1 x v Q I1 r1 q1)
theorem opI{f:Value->Value->Sem Value}{C:Int->Int->Prop}{g:Int->Int->Int}
  (rule:∀(i j:Int) (t u:Tok) (s:Shared) (Q:Value->Shared->Prop) (E:Value->Shared->Prop),C i j->Q (.int (g i j) s.toks) { s with toks:=s.toks+1 }->wpAny (model X.prog X.w) X.A (f (.int i t) (.int j u)) Q E s) :
  OpR X f (rI C λi j=>.int (g i j)):=by
 intro pins s σ H x y v u Q I rx ry h;obtain⟨i,j,rfl,rfl,hc,q⟩:=h;obtain⟨t,rfl⟩:=rx;obtain⟨t',rfl⟩:=ry;exact rule i j t t' s _ _ hc ⟨.int (g i j),H,I.tok _,⟨_,rfl⟩,q⟩
theorem PP{f:Value->Value->Sem Value}{g:Int->Int->Int}
  (rule:∀(i j:Int) (t u:Tok) (s:Shared) (Q:Value->Shared->Prop) (E:Value->Shared->Prop),Q (.int (g i j) s.toks) { s with toks:=s.toks+1 }->wpAny (model X.prog X.w) X.A (f (.int i t) (.int j u)) Q E s) :
  OpR X f (rI0 λi j=>.int (g i j)):=by
 intro pins s σ H x y v u Q I rx ry h;obtain⟨i,j,rfl,rfl,q⟩:=h;obtain⟨t,rfl⟩:=rx;obtain⟨t',rfl⟩:=ry;exact rule i j t t' s _ _ ⟨.int (g i j),H,I.tok _,⟨_,rfl⟩,q⟩
theorem L9{f:Value->Value->Sem Value}{g:Int->Int->Bool}
  (rule:∀(i j:Int) (t u:Tok) (s:Shared) (Q:Value->Shared->Prop) (E:Value->Shared->Prop),Q (.bool (g i j)) s->wpAny (model X.prog X.w) X.A (f (.int i t) (.int j u)) Q E s) :
  OpR X f (rI0 λi j=>.bl (g i j)):=by
 intro pins s σ H x y v u Q I rx ry h;obtain⟨i,j,rfl,rfl,q⟩:=h;obtain⟨t,rfl⟩:=rx;obtain⟨t',rfl⟩:=ry;exact rule i j t t' s _ _ ⟨.bl (g i j),H,I,rfl,q⟩
def TU(i j:Int):Prop:=0<j/\j<1073741824
def QR(i j:Int):Prop:=0<=j/\j<=1000000/\i.natAbs<2 ^ 64
def QS(i j:Int):Prop:=(-(2 ^ 64)<i/\i<2 ^ 64)\/(-(2 ^ 64)<j/\j<2 ^ 64)
theorem QS.ok{i j:Int}(h:QS i j):IntMulOk i j:=by
 rcases h with⟨h1,h2⟩ | ⟨h1,h2⟩
 ·exact .of_left (intBits_le_64 h1 h2)
 ·exact .of_right (intBits_le_64 h1 h2)
theorem bV:OpR X (binaryOp .Add) (rI0 λi j=>.int (i+j)):=PP λ_ _ _ _ _ _ _ q=>add_int q
theorem dB:OpR X (binaryOp .Sub) (rI0 λi j=>.int (i-j)):=PP λ_ _ _ _ _ _ _ q=>sub_int q
theorem cX:OpR X (binaryOp .Mult) (rI QS λi j=>.int (i*j)):=opI λ_ _ _ _ _ _ _ hc q=>mul_int q hc.ok
theorem dN:OpR X (binaryOp .FloorDiv) (rI TU λi j=>.int (i / j)):=opI λi j _ _ _ _ _ hc q=>by
 have h1:(0:Int)<j:=hc.1;have h2:j<1073741824:=hc.2;exact floordiv_int (by lia) (by rw[Int.fdiv_eq_ediv_of_nonneg i (by lia)];exact q) (.inl (PyProof.noPylong_small (by omega)))
theorem cI:OpR X (binaryOp .Mod) (rI (λ_ j=>0<j) λi j=>.int (i%j)):=opI λi j _ _ _ _ _ hc q=>by
 have h1:(0:Int)<j:=hc;exact mod_int' (by lia) (by rw[Int.fmod_eq_emod_of_nonneg i (by lia)];exact q)
theorem C2:OpR X (binaryOp .Pow) (rI QR λi j=>.int (i ^ j.toNat)):=opI λ_ _ _ _ _ _ _ hc q=>pow_int_small hc.1 hc.2.1 hc.2.2 q
theorem PM:OpR X (binaryOp .BitXor) (rI0 λi j=>.int (Builtin.bitXor i j)):=PP λ_ _ _ _ _ _ _ q=>xor_int q
theorem unI{f:Value->Sem Value}{g:Int->Int}
  (rule:∀(i:Int) (t:Tok) (s:Shared) (Q:Value->Shared->Prop) (E:Value->Shared->Prop),Q (.int (g i) s.toks) { s with toks:=s.toks+1 }->wpAny (model X.prog X.w) X.A (f (.int i t)) Q E s) :
  UnR X f (rU λi=>.int (g i)):=by
 intro pins s σ H x v Q I rx h;obtain⟨i,rfl,q⟩:=h;obtain⟨t,rfl⟩:=rx;exact rule i t s _ _ ⟨.int (g i),H,I.tok _,⟨_,rfl⟩,q⟩
theorem jD:UnR X (unaryOp .USub) (rU λi=>.int (-i)):=unI λ_ _ _ _ _ q=>neg_int q
end
def RI:V->V->Bool
 |.non,.non=>true | .non,.int _=>true | .int _,.non=>true | .non,.bl _=>true | .bl _,.non=>true | .non,.str _=>true | .str _,.non=>true
 |.int _,.int _=>true | .bl _,.bl _=>true | .str _,.str _=>true | .byt _,.byt _=>true
 |.int _,.str _=>true | .str _,.int _=>true | .bl _,.str _=>true | .str _,.bl _=>true
 |_,_=>false
def rEq:R2:=λx y H Q=>RI x y=true/\Q (.bl (decide (x=y))) H
def rNe:R2:=λx y H Q=>RI x y=true/\Q (.bl (!decide (x=y))) H
theorem FE{i j:Int}:decide (V.int i=V.int j)=(i==j):=by
 rw[Xx];simp
theorem KL{i j:Bool}:decide (V.bl i=V.bl j)=(i==j):=by
 rw[Xx];simp
theorem FD{i j:Str}:decide (V.str i=V.str j)=(i==j):=by
 rw[Xx];simp
theorem FF{i j:Array UInt8}:decide (V.byt i=V.byt j)=(i.toList==j.toList):=by
 rw[Xx];cases i;cases j;simp
section
variable{X:Cx}{a b c:Expr}{ta tb tc:TE}{pos:Pos}
theorem cC{pins:List (Addr×Obj)}{σ:St}{H:Hp}{s:Shared}{Q:VK}{k k':Bool}(I:Inv X pins σ H s)(q:Q (.bl k) H)(e:k=k'):EP X pins σ Q (.bool k') s:=by
 subst e;exact⟨.bl k,H,I,rfl,q⟩
theorem gJ:OpR X (compareOp .Eq) rEq:=by
 intro pins s σ H x y v u Q I rx ry h;obtain⟨hs,q⟩:=h;cases x with
 |non =>
  cases rx;cases y with
  |non=>cases ry;exact PySem.EqNone.eq_none_none (cC I q (by simp))
  |bl j=>cases ry;exact PySem.EqNone.eq_none_bool (cC I q (by simp))
  |int j=>obtain⟨t',rfl⟩:=ry;exact PySem.EqNone.eq_none_int (cC I q (by simp))
  |str j=>obtain⟨t',rfl⟩:=ry;exact PySem.EqNone.eq_none_str (cC I q (by simp))
  |_=>exact absurd (show false=true from hs) Bool.false_ne_true
 |bl i =>
  cases rx;cases y with
  |non=>cases ry;exact PySem.EqNone.eq_bool_none (cC I q (by simp))
  |bl j=>cases ry;exact eq_bool (cC I q KL)
  |str j=>obtain⟨t',rfl⟩:=ry;exact PySem.EqMixed.eq_bool_str (cC I q (by simp))
  |_=>exact absurd (show false=true from hs) Bool.false_ne_true
 |int i =>
  obtain⟨t,rfl⟩:=rx;cases y with
  |non=>cases ry;exact PySem.EqNone.eq_int_none (cC I q (by simp))
  |int j=>obtain⟨t',rfl⟩:=ry;exact eq_int (cC I q FE)
  |str j=>obtain⟨t',rfl⟩:=ry;exact PySem.EqMixed.eq_int_str (cC I q (by simp))
  |_=>exact absurd (show false=true from hs) Bool.false_ne_true
 |str i =>
  obtain⟨t,rfl⟩:=rx;cases y with
  |non=>cases ry;exact PySem.EqNone.eq_str_none (cC I q (by simp))
  |bl j=>cases ry;exact PySem.EqMixed.eq_str_bool (cC I q (by simp))
  |int j=>obtain⟨t',rfl⟩:=ry;exact PySem.EqMixed.eq_str_int (cC I q (by simp))
  |str j=>obtain⟨t',rfl⟩:=ry;exact eq_str (cC I q FD)
  |_=>exact absurd (show false=true from hs) Bool.false_ne_true
 |byt i =>
  obtain⟨t,rfl⟩:=rx;cases y with
  |byt j=>obtain⟨t',rfl⟩:=ry;exact PySem.W.eq_bytes (cC I q FF)
  |_=>exact absurd (show false=true from hs) Bool.false_ne_true
 |_=>cases y<;>exact absurd (show false=true from hs) Bool.false_ne_true
theorem lO:OpR X (compareOp .NotEq) rNe:=by
 intro pins s σ H x y v u Q I rx ry h;obtain⟨hs,q⟩:=h;cases x with
 |non =>
  cases rx;cases y with
  |non=>cases ry;exact PySem.EqNone.ne_none_none (cC I q (by simp))
  |bl j=>cases ry;exact PySem.EqNone.ne_none_bool (cC I q (by simp))
  |int j=>obtain⟨t',rfl⟩:=ry;exact PySem.EqNone.ne_none_int (cC I q (by simp))
  |str j=>obtain⟨t',rfl⟩:=ry;exact PySem.EqNone.ne_none_str (cC I q (by simp))
  |_=>exact absurd (show false=true from hs) Bool.false_ne_true
 |bl i =>
  cases rx;cases y with
  |non=>cases ry;exact PySem.EqNone.ne_bool_none (cC I q (by simp))
  |bl j=>cases ry;exact ne_bool (cC I q (congrArg not KL))
  |str j=>obtain⟨t',rfl⟩:=ry;exact PySem.EqMixed.ne_bool_str (cC I q (by simp))
  |_=>exact absurd (show false=true from hs) Bool.false_ne_true
 |int i =>
  obtain⟨t,rfl⟩:=rx;cases y with
  |non=>cases ry;exact PySem.EqNone.ne_int_none (cC I q (by simp))
  |int j=>obtain⟨t',rfl⟩:=ry;exact ne_int (cC I q (congrArg not FE))
  |str j=>obtain⟨t',rfl⟩:=ry;exact PySem.EqMixed.ne_int_str (cC I q (by simp))
  |_=>exact absurd (show false=true from hs) Bool.false_ne_true
 |str i =>
  obtain⟨t,rfl⟩:=rx;cases y with
  |non=>cases ry;exact PySem.EqNone.ne_str_none (cC I q (by simp))
  |bl j=>cases ry;exact PySem.EqMixed.ne_str_bool (cC I q (by simp))
  |int j=>obtain⟨t',rfl⟩:=ry;exact PySem.EqMixed.ne_str_int (cC I q (by simp))
  |str j=>obtain⟨t',rfl⟩:=ry;exact ne_str (cC I q (congrArg not FD))
  |_=>exact absurd (show false=true from hs) Bool.false_ne_true
 |byt i =>
  obtain⟨t,rfl⟩:=rx;cases y with
  |byt j=>obtain⟨t',rfl⟩:=ry;exact PySem.W.ne_bytes (cC I q (congrArg not FF))
  |_=>exact absurd (show false=true from hs) Bool.false_ne_true
 |_=>cases y<;>exact absurd (show false=true from hs) Bool.false_ne_true
theorem iF:OpR X (compareOp .Lt) (rI0 λi j=>.bl (decide (i<j))):=L9 λ_ _ _ _ _ _ _ q=>lt_int q
theorem AY:OpR X (compareOp .LtE) (rI0 λi j=>.bl (decide (i<=j))):=L9 λ_ _ _ _ _ _ _ q=>le_int q
theorem RT:OpR X (compareOp .Gt) (rI0 λi j=>.bl (decide (j<i))):=L9 λ_ _ _ _ _ _ _ q=>gt_int q
theorem AZ:OpR X (compareOp .GtE) (rI0 λi j=>.bl (decide (j<=i))):=L9 λ_ _ _ _ _ _ _ q=>ge_int q
theorem a7(b:Expr){op:CmpOp}(h:op≠.In:=by decide)(h2:op≠.NotIn:=by decide):behindInMarks op b=false:=by
 have e1:(op==CmpOp.In)=false:=by cases op<;>first | rfl | exact absurd rfl h
 have e2:(op==CmpOp.NotIn)=false:=by cases op<;>first | rfl | exact absurd rfl h2
 cases b<;>simp[behindInMarks,e1,e2]
theorem dZ{op:CmpOp}{r:R2}(ho:OpR X (compareOp op) r)(ha:PE X a ta)(hb:PE X b tb)(hm:behindInMarks op b=false):PE X (.Compare a [op] [b] pos) (tOp r ta tb):=by
 intro pins s σ H Q I h;exact wpAny_Compare1 (QJ ha hb I h λv u s2 x y H2 I2 rx ry q=>ho pins s2 σ H2 x y v u Q I2 rx ry q) hm
def NF(t:TE):TT:=λσ H Q=>t σ H λx H'=>∃k,x=.bl k/\Q k H'
theorem aV{op:CmpOp}{r:R2}(ho:OpR X (compareOp op) r)(ha:PE X a ta)(hb:PE X b tb)(hm:behindInMarks op b=false):PT X (.Compare a [op] [b] pos) (NF (tOp r ta tb)):=by
 intro pins s σ H Q I h;refine wpAny_isTrue_Compare1 (thn (ha pins s σ H _ I h) λv s1 ⟨x,H1,I1,r1,q1⟩=>thn (hb pins s1 σ H1 _ I1 q1) λu s2 ⟨y,H2,I2,r2,q2⟩ =>
  thn (ho pins s2 σ H2 x y v u _ I2 r1 r2 q2) λc s3 ⟨z,H3,I3,r3,k,e,q3⟩=>?_) hm
 subst e;cases r3;exact wpAny_truthy_bool ⟨H3,I3,q3⟩
def CI(r r':R2)(ta tb tc:TE):TE:=λσ H Q=>ta σ H λx H1=>tb σ H1 λy H2=>r x y H2 λz H3=>∃k,z=.bl k /\
 (if k=true then tc σ H3 λw' H4=>r' y w' H4 Q else Q (.bl false) H3)
theorem uI{op op':CmpOp}{r r':R2}(ho:OpR X (compareOp op) r)(ho':OpR X (compareOp op') r')(ha:PE X a ta)(hb:PE X b tb)(hc:PE X c tc)
  (hm:lastMarks [op,op'] [b,c]=false:=by with_unfolding_all rfl):PE X (.Compare a [op,op'] [b,c] pos) (CI r r' ta tb tc):=by
 intro pins s σ H Q I h;refine Compare_chain (thn (ha pins s σ H _ I h) λv s1 ⟨x,H1,I1,r1,q1⟩=>chain_link (thn (hb pins s1 σ H1 _ I1 q1) λu s2 ⟨y,H2,I2,r2,q2⟩ =>
  thn (ho pins s2 σ H2 x y v u _ I2 r1 r2 q2) λd s3 ⟨z,H3,I3,r3,k,e,q3⟩=>?_)) hm
 subst e;cases r3;refine wpAny_truthy_bool ?_;cases k with
 |false=>exact ite_ff ⟨.bl false,H3,I3,rfl,q3⟩
 |true=>exact ite_tt (chain_last (thn (hc pins s3 σ H3 _ I3 q3) λw' s4 ⟨z',H4,I4,r4,q4⟩=>ho' pins s4 σ H4 y z' u w' Q I4 r2 r4 q4))
theorem IS{op op':CmpOp}{r r':R2}(ho:OpR X (compareOp op) r)(ho':OpR X (compareOp op') r')(ha:PE X a ta)(hb:PE X b tb)(hc:PE X c tc)
  (hm:lastMarks [op,op'] [b,c]=false:=by with_unfolding_all rfl):PT X (.Compare a [op,op'] [b,c] pos) (NF (CI r r' ta tb tc)):=by
 intro pins s σ H Q I h;refine isTrue_chain (thn (ha pins s σ H _ I h) λv s1 ⟨x,H1,I1,r1,q1⟩=>test_link (thn (hb pins s1 σ H1 _ I1 q1) λu s2 ⟨y,H2,I2,r2,q2⟩ =>
  thn (ho pins s2 σ H2 x y v u _ I2 r1 r2 q2) λd s3 ⟨z,H3,I3,r3,k,e,q3⟩=>?_)) hm
 subst e;cases r3;refine wpAny_truthy_bool ?_;cases k with
 |false =>
  obtain⟨k',e',q'⟩:=q3;cases e';exact ite_ff ⟨H3,I3,q'⟩
 |true =>
  refine ite_tt (test_last (thn (hc pins s3 σ H3 _ I3 q3) λw' s4 ⟨z',H4,I4,r4,q4⟩=>thn (ho' pins s4 σ H4 y z' u w' _ I4 r2 r4 q4) λd' s5 ⟨z2,H5,I5,r5,k2,e2,q5⟩=>?_));subst e2;cases r5;exact wpAny_truthy_bool ⟨H5,I5,q5⟩
def SF(K:PySem.W.Frag)(x:V)(H:Hp)(k:Bool):Prop :=
 match x with
 |.non=>k=false
 |.bl b=>k=b
 |.int i=>k=(i != 0)
 |.str y=>y.length<=ZW/\k=((y.length:Int) != 0)
 |.byt y=>y.size<=ZW/\k=((y.size:Int) != 0)
 |.ref p=>(∃xs,SqL K H p xs/\k=!xs.isEmpty)\/(∃xs,SqT K H p xs/\k=!xs.isEmpty)\/∃kvs,H p=some (.dK kvs)/\k=!kvs.isEmpty
 |_=>False
theorem DI{κ:Type}{kvs:List (κ×V)}{vs:List (κ×Value)}(r:KV kvs vs):(!vs.isEmpty)=!kvs.isEmpty:=by
 cases r<;>rfl
theorem vA{xs:List V}{its:List Value}(r:bI xs its):(!its.toArray.isEmpty)=!xs.isEmpty:=by
 cases r<;>simp
theorem jI:(ZW:Nat)<2 ^ 63:=by rw[sizeLine_eq];decide
theorem OA:TR X (λx H Q=>∃k,SF X.K x H k/\Q k H):=by
 intro pins s σ H x v Q I rx h;obtain⟨k,e,q⟩:=h;have hl:=jI;have hs:ZW=16777216:=sizeLine_eq;cases x with
 |non =>
  cases rx;have e':k=false:=e;subst e';exact truthy_none ⟨H,I,q⟩
 |bl b =>
  cases rx;have e':k=b:=e;subst e';exact wpAny_truthy_bool ⟨H,I,q⟩
 |int i =>
  obtain⟨t,rfl⟩:=rx;have e':k=(i != 0):=e;subst e';exact PySem.P.truthy_int ⟨H,I,q⟩
 |str y =>
  obtain⟨t,rfl⟩:=rx;obtain⟨hy,e'⟩:y.length<=ZW/\k=((y.length:Int) != 0):=e;subst e';exact PySem.P.truthy_str (by lia) ⟨H,I.tok _,q⟩
 |byt y =>
  obtain⟨t,rfl⟩:=rx;obtain⟨hy,e'⟩:y.size<=ZW/\k=((y.size:Int) != 0):=e;subst e';exact PySem.W.truthy_bytes (by lia) ⟨H,I.tok _,q⟩
 |ref p =>
  cases rx;have e':(∃xs,SqL X.K H p xs/\k=!xs.isEmpty)\/(∃xs,SqT X.K H p xs/\k=!xs.isEmpty)\/∃kvs,H p=some (.dK kvs)/\k=!kvs.isEmpty:=e;rcases e' with⟨xs,hx,e'⟩ | ⟨xs,hx,e'⟩ | ⟨kvs,hx,e'⟩
  ·subst e';obtain⟨its,r,pl,hz⟩:=I.list hx;have hlen:=r.length;exact wpAny_truthy_list pl.isList (by simp only[List.size_toArray];lia) ⟨H,I.tok _,by rw[vA r];exact q⟩
  ·subst e';obtain⟨its,r,pl,hz⟩:=I.tuple hx;have hlen:=r.length;exact truthy_tuple pl (by simp only[List.size_toArray];lia) ⟨H,I.tok _,by rw[vA r];exact q⟩
  ·subst e';obtain⟨hz,hS,vs,r,m⟩:kvs.length<=ZW/\(p==sysModules)=false/\∃vs,KV kvs vs/\s.heap.DictOf (dA X.prog X.w) p vs:=I.hok p _ hx;have hlen:kvs.length=vs.length:=Paired.length r;exact wpAny_truthy_dict hS m (by lia) ⟨H,I.tok _,by rw[DI r];exact q⟩
 |_=>exact(show False from e).elim
theorem cP(ha:PE X a ta)(he:∀whole,isTrue a X.env whole=(do let v <-whole;standAt a.pos;holding [v] (truthy v))) :
  PT X a (λσ H Q=>ta σ H λx H'=>∃k,SF X.K x H' k/\Q k H'):=by
 intro pins s σ H Q I h;exact isTrue_plain (thn (ha pins s σ H _ I h) λv s1 ⟨x,H1,I1,r1,q1⟩=>OA pins s1 σ H1 x v Q I1 r1 q1) (he _)
theorem vals1{x:V}{us:List Value}(r:bI [x] us):∃u,us=[u]/\RelV x u:=by
 cases r with
 |cons r1 r2=>cases r2;exact⟨_,rfl,r1⟩
theorem vals2{x y:V}{us:List Value}(r:bI [x,y] us):∃u w',us=[u,w']/\RelV x u/\RelV y w':=by
 cases r with
 |cons r1 r2 =>
  cases r2 with
  |cons r3 r4=>cases r4;exact⟨_,_,rfl,r1,r3⟩
theorem yF:dG X (.type "int") (λxs H Q=>(∃i,xs=[.int i]/\Q (.int i) H)\/∃k,xs=[.bl k]/\Q (.int (if k then 1 else 0)) H):=by
 intro pins s σ H xs us Q I r h;rcases h with⟨i,rfl,q⟩ | ⟨k,rfl,q⟩
 ·obtain⟨u,rfl,t,rfl⟩:=vals1 r;exact call_int_int ⟨.int i,H,I,⟨_,rfl⟩,q⟩
 ·obtain⟨u,rfl,r1⟩:=vals1 r;cases r1;exact call_int_bool ⟨.int (if k then 1 else 0),H,I.tok _,⟨_,rfl⟩,q⟩
end
end L2
namespace L2
open PySem PySem.Spec PyProof.Rows
structure QO(h:Heap)(x dx C:Addr)(mA:Str->Option Value):Prop where
 obj:h.get? x=some (PySem.W.instObj C dx)
 ns:h.Ns1 dx mA
 ne:dx≠x
theorem GI{h:Heap}{dx:Addr}{mA:Str->Option Value}(n:h.Ns1 dx mA):∃od,h.get? dx=some od/\∀name,PySem.W.lookIn name od=some (mA name):=by
 obtain⟨o,es,ep,ho,hd,hk,_,hm⟩:=n;refine⟨o,ho,λname=>?_⟩;have e:=hm name;unfold nsFind findBy at e;rw[<-Array.find?_toList]at e;unfold PySem.W.lookIn;rw[hd];dsimp only;split
 ·rename_i y q
  rw[q]at e;exact congrArg some e
 ·rename_i q
  rw[q]at e;have a:es.toList.any (·.refKey)=false:=by
   rw[List.any_eq_false];intro y hy;obtain⟨z,t,hkey⟩:=hk y (Array.mem_toList_iff.mp hy);simp[DictEntry.refKey,hkey]
  have a':¬es.toList.any (·.refKey)=true:=by rw[a];exact Bool.false_ne_true
  rw[if_neg a'];exact congrArg some e
theorem QO.look{h:Heap}{x dx C:Addr}{mA:Str->Option Value}(I:QO h x dx C mA):∃od,PySem.W.InstAt h x (PySem.W.instObj C dx) C (some od)/\∀name,PySem.W.lookIn name od=some (mA name) :=
 let⟨od,ho,hl⟩:=GI I.ns
 ⟨od,⟨I.obj,rfl,rfl,ho⟩,hl⟩
section
variable{prog:Program}{w:World}{A:Around}{E:Value->Shared->Prop}{s:Shared}{K:PySem.W.Frag}{x dx C f:Addr}{mA:Str->Option Value}{name:Str}{v:Value}
end
theorem wI.some_of{v:V}{o:Option Value}(r:wI (some v) o):∃u,o=some u/\RelV v u:=by
 cases o with
 |none=>exact(show False from r).elim
 |some u=>exact⟨u,rfl,r⟩
section
variable{P:Program}{w:World}{H H':Hp}{h h':Heap}{a C dx:Addr}{fs fs':List (Str×V)}
theorem MW(hok:HOk P w H h)(e:H a=some (.ins C dx fs)):∃mA,QO h a dx C mA/\(∀f,wI (fs.lookup f) (mA f))/\PySem.Within mA (fs.map (·.1))/\fs.length<=1000/\H dx=some (.own a):=by
 obtain⟨d,z,ne,ob,mA,n,r,q⟩:=(show cH P w H h a (.ins C dx fs) from hok a _ e)
 exact⟨mA,⟨ob,n,ne⟩,r,q,z,d⟩
end
structure Cls(K:PySem.W.Frag)(C:Addr):Prop where
 pg:PySem.W.plainGet K C Str.empty=true
 hd:PySem.W.hasDictIn K C=true
 po:PySem.W.plainOver K C=true
 sa:PySem.W.findIn K (.ref C) "__setattr__" = some (some (.builtin "object.__setattr__"))
theorem Cls.get{K:PySem.W.Frag}{C:Addr}(c:Cls K C)(f:Str):PySem.W.plainGet K C f=true:=c.pg
section
variable{X:Cx}{pins:List (Addr×Obj)}{σ:St}{H:Hp}{s:Shared}{a C dx:Addr}{fs:List (Str×V)}{f:Str}{v:V}{A:Around}{E:Value->Shared->Prop}
end
section
variable{X:Cx}{o e value:Expr}{f:Str}{pos pos' tpos:Pos}{ta tv:TE}
end
section
variable{X:Cx}{pins:List (Addr×Obj)}{σ:St}{H:Hp}{s:Shared}{A:Around}{E:Value->Shared->Prop}{Q:Value->Shared->Prop}{c:Value}{b:Bool}
inductive rK(K:PySem.W.Frag)(H:Hp):V->Value->Prop where
 |non:rK K H .non (.type "NoneType")
 |bl (x:Bool):rK K H (.bl x) (.type "bool")
 |int (i:Int):rK K H (.int i) (.type "int")
 |str (x:Str):rK K H (.str x) (.type "str")
 |flt (x:UInt64):rK K H (.flt x) (.type "float")
 |lst {a:Addr}{xs:List V}(e:H a=some (.lst xs)):rK K H (.ref a) (.type "list")
 |frz {a:Addr}{o:Obj}{xs:List V}(e:H a=some (.frz o (.lst xs))):rK K H (.ref a) (.type "list")
 |tup {a:Addr}{xs:List V}(e:H a=some (.tup xs)):rK K H (.ref a) (.type "tuple")
 |dK {a:Addr}{kvs:List (Key×V)}(e:H a=some (.dK kvs)):rK K H (.ref a) (.type "dict")
 |dT {a:Addr}{kvs:List (List Key×V)}(e:H a=some (.dT kvs)):rK K H (.ref a) (.type "dict")
 |ins {a C dx:Addr}{fs:List (Str×V)}(e:H a=some (.ins C dx fs)) (cl:Cls K C) (ha:PySem.W.findIn K (.ref C) "__class__" = some (some (.builtin "object.__class__")))
   (hn:PySem.W.specialIn K (.builtin "object.__class__") "__get__" = some (some (.builtin "getset_descriptor.__get__"))) (htk:PySem.W.takesIn K (.builtin "object.__class__")=some true)
   (hm:PySem.W.mroIn K C (.type "object")=some true):rK K H (.ref a) (.ref C)
theorem GP{x:V}{u t:Value}(I:Inv X pins σ H s)(rx:RelV x u)(ty:rK X.K H x t)(e:PySem.W.kitOne X.K t c=some b)(h:∀tk,Q (.bool b) { s with toks:=tk }) :
  wpAny (model X.prog X.w) A (call (.builtin "isinstance") [u,c]) Q E s:=by
 cases ty with
 |non=>cases (show u=Value.none from rx);exact PySem.W.kia_one PySem.W.kitx_none I.kIn True.intro e (λz=>nomatch z) h
 |bl y=>cases (show u=Value.bool y from rx);exact PySem.W.kia_one PySem.W.kitx_bool I.kIn True.intro e (λz=>nomatch z) h
 |int i=>obtain⟨t,q⟩:=(show ∃t,u=Value.int i t from rx);cases q;exact PySem.W.kia_one PySem.W.kitx_int I.kIn True.intro e (λz=>nomatch z) h
 |str y=>obtain⟨t,q⟩:=(show ∃t,u=Value.str y t from rx);cases q;exact PySem.W.kia_one PySem.W.kitx_str I.kIn True.intro e (λz=>nomatch z) h
 |flt y=>obtain⟨t,q⟩:=(show ∃t,u=Value.float y t from rx);cases q;exact PySem.W.kia_one PySem.W.kitx_float I.kIn True.intro e (λz=>nomatch z) h
 |@lst a xs ea =>
  cases (show u=Value.ref a from rx);obtain⟨_,_,n,_,h1⟩:=(show cH X.prog X.w H s.heap a (.lst xs) from I.hok a _ ea)
  exact PySem.W.kia_one PySem.W.kitx_list I.kIn ⟨_,h1,rfl⟩ e (λz=>nomatch z) h
 |@frz a ob xs ea =>
  cases (show u=Value.ref a from rx);obtain⟨_,_,_,n,_,h1⟩:=(show cH X.prog X.w H s.heap a (.frz ob (.lst xs)) from I.hok a _ ea)
  exact PySem.W.kia_one PySem.W.kitx_list I.kIn ⟨_,h1,rfl⟩ e (λz=>nomatch z) h
 |@tup a xs ea =>
  cases (show u=Value.ref a from rx);obtain⟨_,_,_,p⟩:=(show cH X.prog X.w H s.heap a (.tup xs) from I.hok a _ ea)
  obtain⟨o,h1,h2,_⟩:=p;exact PySem.W.kia_one PySem.W.kitx_tuple I.kIn ⟨o,h1,h2⟩ e (λz=>nomatch z) h
 |@dK a kvs ea =>
  cases (show u=Value.ref a from rx);obtain⟨_,_,vs,_,p⟩:=(show cH X.prog X.w H s.heap a (.dK kvs) from I.hok a _ ea)
  obtain⟨o,es,ep,h1,h2,_⟩:=p;exact PySem.W.kia_one PySem.W.kitx_dict I.kIn ⟨o,h1,h2.1⟩ e (λz=>nomatch z) h
 |@dT a kvs ea =>
  cases (show u=Value.ref a from rx);obtain⟨_,_,xs,_,o,es,ep,h1,h2,_⟩:=(show cH X.prog X.w H s.heap a (.dT kvs) from I.hok a _ ea)
  exact PySem.W.kia_one PySem.W.kitx_dict I.kIn ⟨o,h1,h2.1⟩ e (λz=>nomatch z) h
 |@ins a C dx fs ea cl ha hn htk hm =>
  cases (show u=Value.ref a from rx);obtain⟨mA,O,_⟩:=MW I.hok ea;obtain⟨od,J,_⟩:=O.look;exact PySem.W.kia_one (PySem.W.kitx_own (cl.get _) cl.hd ha hn htk hm) I.kIn J e (λz=>nomatch z) h
end
end L2
namespace L2
open PySem PySem.Spec PyProof.Rows
structure eX(k:Nat)(A:Around):Prop where
 hd:A.handled=none
 dp:A.depth+3*k+5<recursionLimit
 un:A.units+16*k+200<cLine
theorem eX.mono{j k:Nat}{A:Around}(r:eX k A)(h:j<=k):eX j A:=⟨r.hd,by have:=r.dp;lia,by have:=r.un;lia⟩
theorem eX.deeper{k:Nat}{A:Around}(r:eX (k+1) A)(env:Env):eX k (A.deeper env) :=
 ⟨r.hd,by have:=r.dp;show A.depth+1+3*k+5<_;lia,by have:=r.un;show A.units+3+16*k+200<_;lia⟩
theorem eX.in1{k:Nat}{A:Around}(r:eX (k+1) A):eX k A.in1 :=
 ⟨r.hd,by have:=r.dp;show A.depth+3*k+5<_;lia,by have:=r.un;show A.units+1+16*k+200<_;lia⟩
theorem eX.depth{k:Nat}{A:Around}(r:eX k A):A.depth<recursionLimit:=by have:=r.dp;lia
theorem eX.units{k:Nat}{A:Around}(r:eX k A):A.units+64<cLine:=by have:=r.un;lia
def OG:TA:=λ_ H Q=>Q [] H
def HV(ta:TE)(tr:TA):TA:=λσ H Q=>ta σ H λx H1=>tr σ H1 λxs H2=>Q (x::xs) H2
section
variable{X:Cx}{e:Expr}{es:List Expr}{te:TE}{t:TA}{pos:Pos}
theorem aB:PA X [] OG:=λ_ _ _ _ H Q I h=>Calls.spliced_nil ⟨[],H,I,.nil,h⟩
theorem aA(ha:PE X e te)(hr:PA X es t)(hs:starEach (e::es) X.env=(false,eval e X.env)::starEach es X.env:=by rfl):PA X (e::es) (HV te t):=by
 intro pos pins s σ H Q I h;rw[hs];show wpAny _ _ (spliced ((false,eval e X.env)::backTo pos (starEach es X.env))) _ _ s;refine Calls.spliced_cons (thn (ha pins s σ H _ I h) λu s1 ⟨x,H1,I1,r1,q1⟩=>?_);exact thn (hr pos pins s1 σ H1 _ I1 q1) λus s2 ⟨xs,H2,I2,r2,q2⟩=>⟨x::xs,H2,I2,.cons r1 r2,q2⟩
def SQ(t:TA):TE:=λσ H Q=>t σ H λxs H1=>xs.length<=ZW/\∀p,H1 p=none->Q (.ref p) (upd H1 p (.tup xs))
def SV(t:TA):TE:=λσ H Q=>t σ H λxs H1=>xs.length<=ZW/\∀p,H1 p=none->Q (.ref p) (upd H1 p (.lst xs))
theorem cN{x1}(h:PA X es t):PE X (.Tuple es x1 pos) (SQ t):=by
 intro pins s σ H Q I hq;refine wpAny_Tuple_spliced (thn (h pos pins s σ H _ I hq) λus s1 ⟨xs,H1,I1,r,z,q⟩=>⟨by rw[<-r.length];exact z,?_⟩);have hf:H1 s1.heap.objs.size=none:=I1.hok.fresh (Nat.le_refl _);refine⟨.ref s1.heap.objs.size,upd H1 s1.heap.objs.size (.tup xs),I1.laid (t':=s1.toks) (λb u e=>Heap.get?_push_of_some _ e) (Nat.le_refl _) ?_,rfl,q _ hf⟩;exact⟨z,us,r,⟨_,Heap.get?_push_size _ rfl,rfl,_,rfl⟩⟩
theorem bN(h:PA X es t):PE X (.List es pos) (SV t):=by
 intro pins s σ H Q I hq;refine wpAny_List_spliced (thn (h pos pins s σ H _ I hq) λus s1 ⟨xs,H1,I1,r,z,q⟩=>⟨by rw[<-r.length];exact z,?_⟩);have hf:H1 s1.heap.objs.size=none:=I1.hok.fresh (Nat.le_refl _);refine⟨.ref s1.heap.objs.size,upd H1 s1.heap.objs.size (.lst xs),I1.laid (t':=s1.toks) (λb u e=>Heap.get?_push_of_some _ e) (Nat.le_refl _) ?_,rfl,q _ hf⟩;exact⟨z,us,0,r,Heap.get?_push_size _ rfl⟩
end
abbrev Sp:=List V->Hp->VK->XK->Prop
abbrev CXT:=List Env->Hp->Shared->XK->Value->Shared->Prop
structure M8(P:Program)(w:World)(K:PySem.W.Frag)(mg:Str->Option Value)(base:Heap)(A:Around)(outer:List Env)(s:Shared)(H:Hp):Prop where
 frames:A.frames=some outer
 mod:Mod K mg base
 bs:∀b o,base.get? b=some o->s.heap.get? b=some o/\H b=none
 bsz:base.objs.size<=s.heap.objs.size
 funs:s.heap.FunFrames base outer
 frf:∀b∈frs outer,H b=none
 hok:HOk P w H s.heap
 bare:AllBare s.gens
def CE(outer:List Env)(P:Program)(w:World)(H:Hp)(s:Shared)(Q:VK)(u:Value)(s':Shared):Prop :=
 ∃v H',s'.os=s.os/\AllBare s'.gens/\Un (frs outer) [] H H' s.heap s'.heap/\HOk P w H' s'.heap/\RelV v u/\Q v H'
def CR(CX:CXT)(outer:List Env)(P:Program)(w:World)(H:Hp)(s:Shared)(Q:VK)(E:XK)(r:Result)(s':Shared):Prop :=
 match r with
 |.ok (.ret u)=>CE outer P w H s Q u s'
 |.ok _=>False
 |.error e=>CX outer H s E e s'
structure cJ(P:Program)(w:World)(K:PySem.W.Frag)(mg:Str->Option Value)(base:Heap)(CX:CXT)(k:Nat)(f:Addr)(fd:FuncData)(ps:List Str)(sp:Sp):Prop where
 len:∀vs H Q E,sp vs H Q E->vs.length=ps.length
 run:∀(A:Around) (outer:List Env) (s:Shared) (H:Hp) (args:Args) (us:List Value) (vs:List V) (Q:VK) (E:XK),eX k A->M8 P w K mg base A outer s H->BindsTo s fd args (ps.zip us)->bI vs us->sp vs H Q E ->
  codeAny (model P w) A (.call (.ref f) args) (CR CX outer P w H s Q E) s
section
variable{X:Cx}{pins:List (Addr×Obj)}{σ:St}{H:Hp}{s s':Shared}
theorem Inv.env0(I:Inv X pins σ H s):M8 X.prog X.w X.K X.mg X.base X.A X.stack s H :=
 ⟨I.ok.frames,I.ok.mod,I.bs,Yr I.ok.bsz I.sz,I.stack,I.stkFree,I.hok,I.bare⟩
theorem Inv.after{Q:VK}{u:Value}(I:Inv X pins σ H s)(h:CE X.stack X.prog X.w H s Q u s'):EP X pins σ Q u s':=by
 obtain⟨v,H',os,bare,un,hok,r,q⟩:=h;obtain⟨hh,g,d,t,os'⟩:=s';obtain rfl:os'=s.os:=os;exact⟨v,H',I.call (h':=hh) (g':=g) (d':=d) (t':=t) (ch:=[]) un hok bare (λb z=>absurd z (by simp)),r,q⟩
end
def NH(sp:Sp)(dvs:List V)(E:XK)(t:TA):TE:=λσ H Q=>t σ H λvs H1=>sp (vs++dvs) H1 Q E
def Binds(K:PySem.W.Frag)(fd:FuncData)(ps:List Str)(ds:List Value):Prop :=
 ∀(s:Shared) (us:List Value),K.In s.heap->(us++ds).length=ps.length->BindsTo s fd ⟨us,[]⟩ (ps.zip (us++ds))
theorem Binds.all{K:PySem.W.Frag}{fd:FuncData}{ps:List Str}(h:∀us:List Value,us.length=ps.length->bindArgs fd ⟨us,[]⟩=pure (ps.zip us)):Binds K fd ps []:=λs us _ hl=>by
 rw[List.append_nil]at hl ⊢;exact .of_eq (h us hl)
def wJ(CX:CXT)(X:Cx)(E:XK):Prop:=∀(pins:List (Addr×Obj)) (σ:St) (H:Hp) (s:Shared) (e:Value) (s':Shared),Inv X pins σ H s->CX X.stack H s E e s'->X.xe e s'
section
variable{X:Cx}{CX:CXT}{k:Nat}{f C:Addr}{fd:FuncData}{ps:List Str}{sp:Sp}{dvs:List V}{ds:List Value}{E:XK}{x m:Str}{p pos apos:Pos}{e o:Expr}{es:List Expr}{ta:TE}{t:TA}
theorem OY{pins:List (Addr×Obj)}{σ:St}{H:Hp}{s:Shared}{Q:VK}{us:List Value}{vs:List V}(F:cJ X.prog X.w X.K X.mg X.base CX k f fd ps sp)(hr:eX k X.A)(hb:Binds X.K fd ps ds)(hd:bI dvs ds)(hx:wJ CX X E)
  (I:Inv X pins σ H s) (r:bI vs us) (h:sp (vs++dvs) H Q E):wpAny (model X.prog X.w) X.A (call (.ref f) us) (EP X pins σ Q) X.xe s:=by
 have r2:bI (vs++dvs) (us++ds):=r.append hd;have hl:(us++ds).length=ps.length:=by rw[<-r2.length];exact F.len _ _ _ _ h
 refine wpAny_call (codeAny_mono (F.run X.A X.stack s H ⟨us,[]⟩ (us++ds) (vs++dvs) Q E hr I.env0 (hb s us I.kIn hl) r2 h) λr s' hq=>?_);cases r with
 |error e=>exact hx pins σ H s e s' I hq
 |ok fl =>
  cases fl with
  |ret u=>exact I.after hq
  |next=>exact False.elim hq
  |brk=>exact False.elim hq
  |cont=>exact False.elim hq
theorem EF(F:cJ X.prog X.w X.K X.mg X.base CX k f fd ps sp)(hr:eX k X.A)(hg:Gl X x)(hm:X.mg x=some (.ref f))(hk:PySem.W.keepIn X.K (.ref f)=true)(hb:Binds X.K fd ps ds)(hd:bI dvs ds)(hx:wJ CX X E)
  (ha:PA X (e::es) t) (hdb:(x==("__debug__" : Str))=false:=by decide) (he:starEach (e::es) X.env=(false,eval e X.env)::starEach es X.env:=by rfl) (hpl:(backTo pos (starEach es X.env)).any (·.1)=false:=by rfl) :
  PE X (.Call (.Name x p) (e::es) [] pos) (NH sp dvs E t):=by
 intro pins s σ H Q I h;refine wpAny_Call_Name_kw (tH I hg hm ?_ hdb);refine PySem.W.callWith_K (h₀:=X.base) I.ok.mod.kin hk (thn (ha pos pins s σ H _ I h) λus s1 ⟨vs,H1,I1,r,q⟩=>⟨I1.kIn,?_⟩) he hpl;exact OY F hr hb hd hx I1 r q
end
def PK(X:Cx)(kws:List Keyword)(t:TA):Prop :=
 ∀(pos:Pos) (pins:List (Addr×Obj)) (s:Shared) (σ:St) (H:Hp) (Q:List V->Hp->Prop),Inv X pins σ H s->t σ H Q->wpAny (model X.prog X.w) X.A (evalAll ((backToKw pos (keywordEach kws X.env)).map (·.2))) (AP X pins σ Q) X.xe s
section
variable{X:Cx}{CX:CXT}{k:Nat}{f C:Addr}{fd:FuncData}{ps ks:List Str}{sp:Sp}{E:XK}{x m:Str}{p pos apos kpos:Pos}{e o:Expr}{es:List Expr}{kws:List Keyword}{te ta:TE}{t tk:TA}{nm:Option Str}
theorem O7:PK X [] OG:=λ_ _ _ _ H Q I h=>wpAny_evalAll_nil ⟨[],H,I,.nil,h⟩
theorem L3(ha:PE X e te)(hr:PK X kws t):PK X (⟨nm,e,kpos⟩::kws) (HV te t):=by
 intro pos pins s σ H Q I h;show wpAny _ _ (evalAll ((do let v <-eval e X.env;standAt pos;pure v)::(backToKw pos (keywordEach kws X.env)).map (·.2))) _ _ s;refine wpAny_evalAll_cons (ZZ (thn (ha pins s σ H _ I h) λu s1 ⟨x,H1,I1,r1,q1⟩=>ZZ (wpAny_standAt (ZY ?_))));exact thn (hr pos pins s1 σ H1 _ I1 q1) λus s2 ⟨xs,H2,I2,r2,q2⟩=>⟨x::xs,H2,I2,.cons r1 r2,q2⟩
variable{g:List Value->List Value->List Value}{gV:List V->List V->List V}
end
structure aX(N P:List Str)(sc:Scope):Prop where
 kind:sc.kind=.function
 co:sc.isCoroutine=false
 gen:sc.isGenerator=false
 nd:N.Nodup
 pre:N.take P.length=P
 par:∀x∈P,sc.names.lookup x=some .local\/sc.names.lookup x=some .cell
 nofree:∀y∈sc.names,y.2≠.free
theorem yG{kindOf:Str->Option NameKind}{x:Str}:∀{binds:List (Str×Value)}{m:Str->Option Value},(∀v,(x,v)∉binds)->bindL kindOf binds m x=m x
 |[],_,_=>rfl
 |(n,v)::r,m,h=>by
  unfold bindL;rw[yG λw hw=>h w (Zw _ hw)];split
  ·have:x≠n:=by rintro rfl;exact h v Zd
   simp[this]
  ·rfl
theorem yI{kindOf:Str->Option NameKind}{x:Str}:∀{binds:List (Str×Value)}{m:Str->Option Value},(∀v,(x,v)∉binds)->bindC kindOf binds m x=m x
 |[],_,_=>rfl
 |(n,v)::r,m,h=>by
  unfold bindC;rw[yI λw hw=>h w (Zw _ hw)];split
  ·rfl
  ·have:x≠n:=by rintro rfl;exact h v Zd
   simp[this]
theorem yH{kindOf:Str->Option NameKind}{x:Str}{v:Value}:∀{P:List Str}{vs:List Value}{i:Nat}{m:Str->Option Value},P.Nodup->P[i]?=some x->vs[i]?=some v->kindOf x=some .local ->
  bindL kindOf (P.zip vs) m x=some v
 |[],_,_,_,_,h,_,_=>by simp at h
 |_::_,[],_,_,_,_,h,_=>by simp at h
 |p::P,w::vs,0,m,nd,h1,h2,hk=>by
  simp at h1 h2;subst h1;subst h2;show bindL kindOf ((p,w)::P.zip vs) m p=_;unfold bindL;rw[yG λv hv=>(List.nodup_cons.mp nd).1 (List.of_mem_zip hv).1,if_pos hk];simp
 |p::P,w::vs,i+1,m,nd,h1,h2,hk=>by
  show bindL kindOf ((p,w)::P.zip vs) m x=_;unfold bindL;exact yH (i:=i) (List.nodup_cons.mp nd).2 (by simpa using h1) (by simpa using h2) hk
theorem yJ{kindOf:Str->Option NameKind}{x:Str}{v:Value}:∀{P:List Str}{vs:List Value}{i:Nat}{m:Str->Option Value},P.Nodup->P[i]?=some x->vs[i]?=some v->kindOf x≠some .local ->
  bindC kindOf (P.zip vs) m x=some v
 |[],_,_,_,_,h,_,_=>by simp at h
 |_::_,[],_,_,_,_,h,_=>by simp at h
 |p::P,w::vs,0,m,nd,h1,h2,hk=>by
  simp at h1 h2;subst h1;subst h2;show bindC kindOf ((p,w)::P.zip vs) m p=_;unfold bindC;rw[yI λv hv=>(List.nodup_cons.mp nd).1 (List.of_mem_zip hv).1,if_neg hk];simp
 |p::P,w::vs,i+1,m,nd,h1,h2,hk=>by
  show bindC kindOf ((p,w)::P.zip vs) m x=_;unfold bindC;exact yJ (i:=i) (List.nodup_cons.mp nd).2 (by simpa using h1) (by simpa using h2) hk
def start(N:List Str)(vs:List V):St:=vs.map some++List.replicate (N.length-vs.length) none
def zM(CX:CXT)(P:Program)(w:World)(K:PySem.W.Frag)(mg:Str->Option Value)(base:Heap)(N:List Str)(qual:Str)(scope:Scope)(f:Addr)(cd:Value)(A:Around)(outer:List Env)(s:Shared)(H:Hp)(E:XK):Cx where
 prog:=P
 w:=w
 K:=K
 mg:=mg
 base:=base
 A:=A.deeper (envOfC qual scope s.heap.objs.size f cd)
 N:=N
 s₀:=s
 H₀:=H
 env:=envOfC qual scope s.heap.objs.size f cd
 outer:=outer
 stack:=envOfC qual scope s.heap.objs.size f cd::outer
 ex:=[]
 calm:=true
 fn:=λ_=>true
 pn:=[]
 xe:=λe s'=>wpAny (model P w) (A.deeper (envOfC qual scope s.heap.objs.size f cd)) (leaving (envOfC qual scope s.heap.objs.size f cd) e) (λ_ s''=>CX outer H s E e s'') (λe' s''=>CX outer H s E e' s'') s'
theorem B3{sc:Scope}{n:Nat}{x:Str}(h:sc.names.lookup x=some .cell):∃c,(cellsFrom n sc.names []).lookup x=some c:=by
 have q:=PySem.W.cellsFrom_some sc.names n [] (.inl h);exact Option.isSome_iff_exists.mp q
theorem GQ{CX:CXT}{P:Program}{w:World}{K:PySem.W.Frag}{mg:Str->Option Value}{base:Heap}{N ps:List Str}{qual:Str}{scope:Scope}{f:Addr}{cd:Value}{A:Around}{outer:List Env}{s s1:Shared}{H:Hp}{E:XK}{us:List Value}{vs:List V}
  (S:aX N ps scope) (hd:A.handled=none) (e0:M8 P w K mg base A outer s H) (hl:vs.length=ps.length) (r:bI vs us)
  (x:InCallC s s.heap.objs.size (bindL (envOfC qual scope s.heap.objs.size f cd).kindOf (ps.zip us) λ_=>none) (cellsFrom (s.heap.objs.size+1) scope.names []) (bindC (envOfC qual scope s.heap.objs.size f cd).kindOf (ps.zip us) λ_=>none) s1) :
  Inv (zM CX P w K mg base N qual scope f cd A outer s H E) [] (start N vs) H s1:=by
 have hpl:ps.length<=N.length:=by have:=congrArg List.length S.pre;rw[Yw]at this;lia
 obtain⟨h1,tk,rfl,hk⟩:=x.done;have noA:∀b:Addr,b∉(zM CX P w K mg base N qual scope f cd A outer s H E).ex:=λb z=>absurd (show b∈([]:List Addr) from z) (by simp);refine⟨⟨e0.mod,S.kind,rfl,rfl,Nat.le_refl _,λy z c h1 h2=>?_,λy hy=>?_,λy c _ h=>?_,λ_=>hd,Around.frames_deeper e0.frames,.inr ⟨rfl,rfl⟩,λb z=>absurd z (noA b),e0.bs,e0.bsz,λb _ _=>noA b,λb z=>absurd z (noA b),e0.funs,e0.frf⟩,
  rfl,e0.bare,Un.kept hk,⟨_,x.toInCall.ns,λi y v h1 h2 h3=>?_⟩,λy c h=>⟨_,x.cell y c h⟩,e0.hok.fresh (Nat.le_refl _),λy c h=>?_,λp hp=>absurd (show p∈([]:List (Addr×Obj)) from hp) (by simp),e0.hok.kept hk,?_⟩
 ·exact name_of_addr x.apart (PySem.mem_of_lookup h1) (PySem.mem_of_lookup h2)
 ·have hy:scope.names.lookup y=some .cell\/scope.names.lookup y=some .free:=hy;rcases hy with hy | hy
  ·exact B3 hy
  ·exact absurd rfl (S.nofree _ (PySem.mem_of_lookup hy))
 ·exact Nat.le_of_lt (x.above y c (PySem.mem_of_lookup h))
 ·have hi:i<vs.length:=by
   unfold start at h2;by_cases hi:i<vs.length
   ·exact hi
   ·rw[Zy (by simpa using hi)]at h2;rw[List.getElem?_replicate]at h2;split at h2<;>cases h2
  have ha:vs[i]?=some v:=by
   unfold start at h2;rw[Zx (by simpa using hi),Zk]at h2;cases e:vs[i]? with
   |none=>rw[e]at h2;cases h2
   |some a=>rw[e]at h2;cases h2;rfl
  obtain⟨u,hu,rv⟩:=r.get ha;have hp:ps[i]?=some y:=by
   rw[<-S.pre,List.getElem?_take_of_lt (by lia)];exact h1
  have ndP:ps.Nodup:=by rw[<-S.pre];exact S.nd.sublist (List.take_sublist _ _)
  refine⟨u,rv,?_⟩;rcases S.par y (Zg hp) with k | k
  ·exact .inl ⟨k,yH ndP hp hu k⟩
  ·obtain⟨c,e⟩:=B3 (n:=s.heap.objs.size+1) k;refine .inr ⟨.inl k,c,e,?_⟩;have q:=x.cell y c e;rw[yJ ndP hp hu (by show scope.names.lookup y≠_;rw[k];decide)]at q;exact q
 ·exact e0.hok.fresh (Nat.le_of_lt (x.above y c (PySem.mem_of_lookup h)))
 ·unfold start;show _=N.length;rw[Zm,Zq,List.length_replicate]
  lia
theorem KD{CX:CXT}{P:Program}{w:World}{K:PySem.W.Frag}{mg:Str->Option Value}{base:Heap}{k:Nat}{f:Addr}{name qual:Str}{params:Arguments}{body:List Stmt}{scope:Scope}{dV kV doc pm cdv ct oc:Value}{an od:Option Addr}
  {osl:Array (Option Value)}{N ps:List Str}{sp:Sp}(lk:K.lookup f=some ⟨oc,od,.func (PySem.W.fnOf name qual params body scope dV kV doc pm an cdv ct),osl⟩) (hcd:PySem.W.codeIn K cdv qual=true) (S:aX N ps scope)
  (len:∀vs H Q E,sp vs H Q E->vs.length=ps.length)
  (hbody:∀(A:Around) (outer:List Env) (s:Shared) (H:Hp) (vs:List V) (Q:VK) (E:XK),eX k (A.deeper (envOfC qual scope s.heap.objs.size f cdv))->sp vs H Q E ->
   ∃t,PSs (zM CX P w K mg base N qual scope f cdv A outer s H E) body t/\t { nx:=λ_ H'=>Q .non H',rt:=Q } (start N vs) H) :
  cJ P w K mg base CX (k+1) f (PySem.W.fnOf name qual params body scope dV kV doc pm an cdv ct) ps sp:=by
 refine⟨len,λA outer s H args us vs Q E hr e0 hb r hsp=>?_⟩;have hl:=len _ _ _ _ hsp;have KX:K.In s.heap:=e0.mod.kin.keeps λb o e=>(e0.bs b o e).1;have lim:s.heap.NoLimit:=e0.mod.nolimit.keeps λb o e=>(e0.bs b o e).1;have hkind:∀y∈ps.zip us,scope.names.lookup y.1=some .local\/(scope.names.lookup y.1=some .cell/\((cellsFrom (s.heap.objs.size+1) scope.names []).lookup y.1).isSome=true):=λ⟨n,v⟩ hy=>by
  rcases S.par n (List.of_mem_zip hy).1 with q | q
  ·exact .inl q
  ·exact .inr ⟨q,PySem.W.cellsFrom_some _ _ _ (.inl q)⟩
 refine codeAny_call_function hr.depth (KX _ _ lk) rfl S.co S.gen rfl (PySem.W.codeRec_of KX hcd) (hb _ _ _ _ ?_);refine wpAny_newFunctionEnv_cells S.kind hkind λenv he s1 x=>?_;subst he;refine⟨lim.keeps x.toInCall.keep,codeAny_func ?_⟩;obtain⟨t,ht,hq⟩:=hbody A outer s H vs Q E (hr.deeper _) hsp;have I:Inv (zM CX P w K mg base N qual scope f cdv A outer s H E) [] (start N vs) H s1:=GQ S hr.hd e0 hl r x;refine ZX (ht [] s1 (start N vs) H _ I hq) (λfl s' hs=>?_) λe s' hs=>hs;have fin:∀{σ':St}{H':Hp}{v:V}{u:Value},Inv (zM CX P w K mg base N qual scope f cdv A outer s H E) [] σ' H' s'->RelV v u->Q v H'->CE outer P w H s Q u s' :=
  λ{σ' H' v u} J rv q=>⟨v,H',J.os,J.bare,J.base,J.hok,rv,q⟩
 cases fl with
 |ret u =>
  obtain⟨v,σ',H',J,rv,q⟩:=hs;exact fin J rv q
 |next =>
  obtain⟨σ',H',J,q⟩:=hs;exact fin (v:=V.non) (u:=Value.none) J rfl q
 |brk =>
  obtain⟨_,_,_,q⟩:=hs;exact False.elim q
 |cont =>
  obtain⟨_,_,_,q⟩:=hs;exact False.elim q
end L2
namespace L2
open PySem PySem.Spec PyProof.Rows
section
variable{X:Cx}{x:Str}{p pos:Pos}{e:Expr}{es:List Expr}{t:TA}{id T:String}{r:List V->Hp->VK->Prop}
def tCB(r:List V->Hp->VK->Prop)(t:TA):TE:=λσ H Q=>t σ H λvs H1=>r vs H1 Q
theorem aQ(hc:dG X (.builtin id) r)(hg:Gl X x)(hm:X.mg x=none)(hv:bootBuiltins x=some (.builtin id))(ha:PA X (e::es) t)(hn:x≠"__name__":=by decide)(hdb:(x==("__debug__" : Str))=false:=by decide)
  (he:starEach (e::es) X.env=(false,eval e X.env)::starEach es X.env:=by rfl) (hpl:(backTo pos (starEach es X.env)).any (·.1)=false:=by rfl):PE X (.Call (.Name x p) (e::es) [] pos) (tCB r t):=by
 intro pins s σ H Q I h;refine wpAny_Call_Name_kw (nT I hg hm hv ?_ hn hdb);exact PyProof.Rows.callWith_builtin1 (thn (ha pos pins s σ H _ I h) λus s1 ⟨vs,H1,I1,r1,q1⟩=>hc pins s1 σ H1 vs us Q I1 r1 q1) he hpl
theorem cY(hc:dG X (.type T) r)(hg:Gl X x)(hm:X.mg x=none)(hv:bootBuiltins x=some (.type T))(ha:PA X (e::es) t)(hn:x≠"__name__":=by decide)(hdb:(x==("__debug__" : Str))=false:=by decide)
  (he:starEach (e::es) X.env=(false,eval e X.env)::starEach es X.env:=by rfl) (hpl:(backTo pos (starEach es X.env)).any (·.1)=false:=by rfl):PE X (.Call (.Name x p) (e::es) [] pos) (tCB r t):=by
 intro pins s σ H Q I h;refine wpAny_Call_Name_kw (nT I hg hm hv ?_ hn hdb);exact PyProof.Rows.callWith_type1 (thn (ha pos pins s σ H _ I h) λus s1 ⟨vs,H1,I1,r1,q1⟩=>hc pins s1 σ H1 vs us Q I1 r1 q1) he hpl
end
end L2
namespace HT
open PySem PyProof.Rows
section
open PySem.SeqAt
open PySem.AutoSeq1 (wpAny_loadPart')
open PySem.MeetsSeq PySem.MeetsSeq2 PySem.MeetsSeq3
end
section
variable{prog:Program}{w:World}{A:Around}{E:Value->Shared->Prop}{s:Shared}
def sIx(n d:Nat):Option Int->Nat
 |none=>d
 |some v=>if v<0 then (v+(n:Int)).toNat else min v.toNat n
theorem OX(n d:Nat)(hd:d<=n)(o:Option Int):sIx n d o<=n:=by
 cases o with
 |none=>exact hd
 |some v =>
  show(if v<0 then (v+(n:Int)).toNat else min v.toNat n)<=n;by_cases hv:v<0
  ·rw[if_pos hv];lia
  ·rw[if_neg hv];exact Nat.min_le_right _ _
theorem FJ(v:Int)(n d:Nat):(if v<0 then max (v+(n:Int)) 0 else min v (n:Int))=((sIx n d (some v):Nat):Int):=by
 show(if v<0 then max (v+(n:Int)) 0 else min v (n:Int))=(((if v<0 then (v+(n:Int)).toNat else min v.toNat n):Nat):Int)
 by_cases hv:v<0
 ·simp only[if_pos hv];lia
 ·simp only[if_neg hv];lia
theorem DW(lo hi:Option Int)(n:Nat):Builtin.Slice.sliceAdjust lo hi 1 (n:Int)=(((sIx n 0 lo:Nat):Int),((sIx n n hi:Nat):Int)):=by
 have h1:¬((1:Int)<0):=by lia
 unfold Builtin.Slice.sliceAdjust;simp only[h1,if_false];refine Prod.ext ?_ ?_
 ·cases lo with
  |none=>rfl
  |some v=>exact FJ v n 0
 ·cases hi with
  |none=>rfl
  |some v=>exact FJ v n n
theorem CY(i j:Nat):Builtin.Slice.slicePlaces (i:Int) (j:Int) 1=j-i:=by
 unfold Builtin.Slice.slicePlaces;have h1:(1:Int)>0:=by lia
 simp only[h1,if_true,Int.ediv_one];split<;>lia
theorem tW{v:Value}{o:Option Int}{Q:Option Int->Shared->Prop}(p:IsPart v o)(h:Q o s):wpAny (model prog w) A (Builtin.Slice.slicePartIndex v) Q E s:=by
 cases p with
 |none=>exact slicePart_none h
 |int i t=>exact slicePart_int h
theorem qH{sl:Addr}{vl vu:Value}{lo hi:Option Int}{n:Nat}{Q:Int×Int×Nat->Shared->Prop}(hs:s.heap.IsSliceOf sl vl vu .none)(pl:IsPart vl lo)(pu:IsPart vu hi)
  (h:Q (((sIx n 0 lo:Nat):Int),1,sIx n n hi-sIx n 0 lo) s):wpAny (model prog w) A (Builtin.Slice.sliceApplied (.ref sl) (pure (n:Int))) Q E s:=by
 obtain⟨os,hos,hcs,hds⟩:=id hs;unfold Builtin.Slice.sliceApplied Builtin.Slice.sliceFields;refine ZZ (ZZ (wpAny_field hos hds (x:=vl) rfl (ZZ (wpAny_field hos hds (x:=vu) rfl (ZZ (wpAny_field hos hds (x:=.none) rfl (ZY ?_)))))));refine ZZ (slicePart_none ?_);show wpAny _ _ (if ((1:Int)==0)=true then _ else _) _ _ s;rw[if_neg (by decide)];refine ZZ (tW pl (ZZ (tW pu (ZZ (ZY ?_)))));show wpAny _ _ (match Builtin.Slice.sliceAdjust lo hi 1 (n:Int) with | (lo,hi)=>pure (lo,(1:Int),Builtin.Slice.slicePlaces lo hi 1)) _ _ s;rw[DW lo hi n];show wpAny _ _ (pure (((sIx n 0 lo:Nat):Int),(1:Int),Builtin.Slice.slicePlaces ((sIx n 0 lo:Nat):Int) ((sIx n n hi:Nat):Int) 1)) _ _ s;rw[CY];exact ZY h
theorem JA(xs:Array Value)(i k:Nat):((List.range k).filterMap λ(m:Nat)=>xs[((i:Int)+(m:Int)*1).toNat]?).toArray=((xs.toList.drop i).take k).toArray:=by
 have e:(λ(m:Nat)=>xs[((i:Int)+(m:Int)*1).toNat]?)=λm=>xs[i+m]?:=by
  funext m
  have:((i:Int)+(m:Int)*1).toNat=i+m:=by lia
  rw[this]
 rw[e];have:=pick_run xs i k;rw[List.filterMap_map]at this;have e2:((λx=>xs[x]?)∘λx=>i+x)=λm=>xs[i+m]?:=rfl;rw[e2]at this;rw[this]
theorem pK{t sl:Addr}{items:Array Value}{vl vu:Value}{lo hi:Option Int}{Q:Value->Shared->Prop}(ht:IsTup s.heap t items)(hs:s.heap.IsSliceOf sl vl vu .none)(pl:IsPart vl lo)(pu:IsPart vu hi)
  (hw:¬(sIx items.size 0 lo=0/\sIx items.size items.size hi=items.size))
  (h:Q (.ref s.heap.objs.size) { s with heap:=s.heap.push { cls:=.type "tuple",data:=.seq ((items.toList.drop (sIx items.size 0 lo)).take (sIx items.size items.size hi-sIx items.size 0 lo)).toArray } })
  (hsz:items.size<=ZW):wpAny (model prog w) A (getItem (.ref t) (.ref sl)) Q E s:=by
 have htake:sizeOk (.seq ((items.toList.drop (sIx items.size 0 lo)).take (sIx items.size items.size hi-sIx items.size 0 lo)).toArray):=by
  show((items.toList.drop (sIx items.size 0 lo)).take (sIx items.size items.size hi-sIx items.size 0 lo)).toArray.size<=ZW;rw[List.size_toArray,Yw,Yf,Array.length_toList];omega
 have hj:sIx items.size items.size hi<=items.size:=OX _ _ (Nat.le_refl _) hi;obtain⟨os,hos,hcs,hds⟩:=id hs;have hTs:s.TypeIs (.ref sl) "slice":=⟨os,hos,hcs⟩
 unfold getItem
 try with_reducible refine ZU ?_
 first | refine ZZ (ZY ?_) | skip
 refine ZZ (wpAny_sequenceKey ht.typeIs (by decide) ?_);refine ZZ (wpAny_callSpecial?_slot (name:=Str.ofString "__getitem__") ht.typeIs PyProof.Rows.slot_tuple_getitem
  (wpAny_call_entry PyProof.Rows.slot_tuple_getitem ht.typeIs entry_tuple_getitem ?_ (args_tuple_getitem _ _)))
 show wpAny _ _ (Builtin.Tuple.tupleItemsOf (.ref t) >>= _) _ _ s;refine ZZ (tupleItemsOf_ ht ?_);refine ZZ (wpAny_typeOf hTs ?_);rw[if_pos (by decide)];refine ZZ (qH hs pl pu ?_);have hno:¬((((sIx items.size 0 lo:Nat):Int)==0&&(1:Int)==1&&(sIx items.size items.size hi-sIx items.size 0 lo)==items.size)=true):=by
  intro q;rw[Xw,Xw]at q;have q1:((sIx items.size 0 lo:Nat):Int)=0:=eq_of_beq q.1.1;have q2:sIx items.size items.size hi-sIx items.size 0 lo=items.size:=eq_of_beq q.2;exact hw ⟨by lia,by omega⟩
 show wpAny _ _ (if (((sIx items.size 0 lo:Nat):Int)==0&&(1:Int)==1&&(sIx items.size items.size hi-sIx items.size 0 lo)==items.size)=true then _ else _) _ _ s;rw[if_neg hno,JA]
 first
  |exact ZZ (m:=Builtin.Tuple.tupleExact _) (wpAny_newObj_type (ZY ⟨_,rfl,ZY h⟩) htake)
  |exact ZZ (m:=Builtin.Tuple.tupleExact _) (wpAny_newObj_type (ZZ (ZY (ZY ⟨_,rfl,ZY h⟩))) htake)
  |exact ZZ (ZZ (m:=Builtin.Tuple.tupleExact _) (wpAny_newObj_type (ZY (ZY ⟨_,rfl,ZY h⟩)) htake))
  |exact ZZ (ZZ (m:=Builtin.Tuple.tupleExact _) (wpAny_newObj_type (ZY ⟨_,rfl,ZY h⟩) htake))
end
end HT
namespace L2
open PySem PySem.Spec PyProof.Rows
abbrev TO:=St->Hp->(Option Int->Hp->Prop)->Prop
def PO(X:Cx)(e:Option Expr)(t:TO):Prop :=
 ∀(pins:List (Addr×Obj)) (s:Shared) (σ:St) (H:Hp) (Q:Option Int->Hp->Prop),Inv X pins σ H s->t σ H Q ->
  wpAny (model X.prog X.w) X.A (evalPart e X.env) (λu s'=>∃o H',Inv X pins σ H' s'/\IsPart u o/\Q o H') X.xe s
def K3:TO:=λ_ H Q=>Q none H
def Q1(t:TE):TO:=λσ H Q=>t σ H λx H1=>∃i,x=.int i/\Q (some i) H1
theorem intsAre_of{ns:List Int}:∀{us:List Value},bI (ns.map V.int) us->IntsAre us ns:=by
 induction ns with
 |nil=>intro us r;rw[List.map_nil]at r;cases r;exact .nil
 |cons n ns ih =>
  intro us r;rw[List.map_cons]at r;cases r with
  |cons r1 r2 =>
   obtain⟨t,e⟩:=r1;subst e;exact .cons n t (ih r2)
section
variable{X:Cx}{e:Expr}{te:TE}{lo hi:Option Expr}{tl th:TO}{pos p2:Pos}
theorem LZ:PO X none K3:=by
 intro pins s σ H Q I h;rw[evalPart_none];exact ZY ⟨none,H,I,.none,h⟩
theorem LY(h:PE X e te):PO X (some e) (Q1 te):=by
 intro pins s σ H Q I hw;rw[evalPart_some];refine thn (h pins s σ H _ I hw) λu s1 ⟨x,H1,I1,r1,q1⟩=>?_;obtain⟨i,rfl,q⟩:=q1;obtain⟨t,rfl⟩:=r1;exact⟨some i,H1,I1,.int i t,q⟩
def SlR(X:Cx)(r:V->Option Int->Option Int->Hp->VK->Prop):Prop :=
 ∀(pins:List (Addr×Obj)) (s:Shared) (σ:St) (H:Hp) (x:V) (v vl vu:Value) (lo hi:Option Int) (sl:Addr) (Q:VK),Inv X pins σ H s->RelV x v->s.heap.IsSliceOf sl vl vu .none->IsPart vl lo->IsPart vu hi->r x lo hi H Q ->
  ∃T id,typeLookup (.type T) "__getitem__" = pure (some (.builtin id))/\s.TypeIs v T/\wpAny (model X.prog X.w) X.A (getItem v (.ref sl)) (EP X pins σ Q) X.xe s
def tSl(r:V->Option Int->Option Int->Hp->VK->Prop)(te:TE)(tl th:TO):TE:=λσ H Q=>te σ H λx H1=>tl σ H1 λl H2=>th σ H2 λu H3=>r x l u H3 Q
theorem JB{r:V->Option Int->Option Int->Hp->VK->Prop}(hr:SlR X r)(he:PE X e te)(hl:PO X lo tl)(hu:PO X hi th):PE X (.Subscript e (.Slice lo hi none p2) pos) (tSl r te tl th):=by
 intro pins s σ H Q I h;refine Subscript_ (thn (he pins s σ H _ I h) λv s1 ⟨x,H1,I1,r1,q1⟩=>?_);refine wpAny_Slice (thn (hl pins s1 σ H1 _ I1 q1) λvl s2 ⟨l,H2,I2,pl,q2⟩=>thn (hu pins s2 σ H2 _ I2 q2) λvu s3 ⟨u,H3,I3,pu,q3⟩=>?_);rw[evalPart_none];refine ZY ?_;have I4:Inv X pins σ H3 { s3 with heap:=s3.heap.push { cls:=.type "slice",data:=.fields #[vl,vu,.none] } }:=I3.kept (t':=s3.toks) λb ob q=>Heap.get?_push_of_some _ q;obtain⟨T,id,hT,ht,hg⟩:=hr pins { s3 with heap:=s3.heap.push { cls:=.type "slice",data:=.fields #[vl,vu,.none] } } σ H3 x v vl vu l u s3.heap.objs.size Q I4 r1 (Heap.IsSliceOf.new ..) pl pu q3;show wpAny (model X.prog X.w) X.A (subscriptTail e (.Slice lo hi none p2) v (.ref s3.heap.objs.size)) (EP X pins σ Q) X.xe { s3 with heap:=s3.heap.push { cls:=.type "slice",data:=.fields #[vl,vu,.none] } };exact tail_any (ops:=[.ref s3.heap.objs.size,v]) ht hT hg (by with_unfolding_all rfl)
def G0(xs:List V)(lo hi:Option Int):List V:=(xs.drop (HT.sIx xs.length 0 lo)).take (HT.sIx xs.length xs.length hi-HT.sIx xs.length 0 lo)
theorem sM(xs:List V)(lo hi:Option Int):(G0 xs lo hi).length<=xs.length:=by
 unfold G0;rw[Yw,Yf]
 lia
def RK(K:PySem.W.Frag):V->Option Int->Option Int->Hp->VK->Prop:=λx lo hi H Q=>∃a xs,x=.ref a/\SqT K H a xs /\
 ¬(HT.sIx xs.length 0 lo=0/\HT.sIx xs.length xs.length hi=xs.length)/\∀p,H p=none->Q (.ref p) (upd H p (.tup (G0 xs lo hi)))
theorem OV:SlR X (RK X.K):=by
 intro pins s σ H x v vl vu lo hi sl Q I rx hs pl pu h;obtain⟨a,xs,rfl,hx,hw,q⟩:=h;cases rx;obtain⟨its,r,ht,hz⟩:=I.tuple hx;have hlen:its.toArray.size=xs.length:=by rw[List.size_toArray];exact r.length.symm
 refine⟨"tuple",_,PyProof.Rows.slot_tuple_getitem.lookup,ht.typeIs,?_⟩;refine HT.pK ht hs pl pu (by rw[hlen];exact hw) ?_ (by rw[hlen];exact hz);rw[hlen];refine⟨.ref s.heap.objs.size,_,I.laid (t':=s.toks) (o:=.tup (G0 xs lo hi)) (λb ob q=>Heap.get?_push_of_some _ q) (Nat.le_refl _) ?_,rfl,q _ (I.hok.fresh (Nat.le_refl _))⟩;exact⟨Yr (sM xs lo hi) hz,_,(r.drop (HT.sIx xs.length 0 lo)).take (HT.sIx xs.length xs.length hi-HT.sIx xs.length 0 lo),IsTup.new _ _⟩
end
end L2
namespace L2
open PySem PySem.Spec PyProof.Rows
def ixN(n:Nat)(i:Int):Option Nat:=if 0<=i then (if i<n then some i.toNat else none) else if -(n:Int)<=i then some (i+n).toNat else none
def atI{α:Type}(xs:List α)(i:Int):Option α:=(ixN xs.length i).bind λj=>xs[j]?
theorem EV{n:Nat}{i:Int}{j:Nat}(h:ixN n i=some j):seqIndex? i n=some j/\j<n/\-(n:Int)<=i/\i<n:=by
 unfold ixN at h;by_cases h0:0<=i
 ·rw[if_pos h0]at h;by_cases h1:i<n
  ·rw[if_pos h1]at h;have e:i.toNat=j:=Option.some.inj h;exact⟨by rw[seqIndex_of h0 h1,e],by lia,by lia,h1⟩
  ·rw[if_neg h1]at h;cases h
 ·rw[if_neg h0]at h;by_cases h1 : -(n:Int)<=i
  ·rw[if_pos h1]at h;have e:(i+n).toNat=j:=Option.some.inj h;exact⟨by rw[seqIndex_neg (by lia) h1,e],by lia,h1,by lia⟩
  ·rw[if_neg h1]at h;cases h
theorem zR{α:Type}{xs:List α}{i:Int}{v:α}(h:atI xs i=some v):∃j,seqIndex? i xs.length=some j/\xs[j]?=some v/\j<xs.length/\-(xs.length:Int)<=i/\i<xs.length:=by
 unfold atI at h;cases e:ixN xs.length i with
 |none=>rw[e]at h;cases h
 |some j =>
  rw[e]at h;obtain⟨h1,h2,h3,h4⟩:=EV e;exact⟨j,h1,h,h2,h3,h4⟩
theorem eG{α:Type}{xs:List α}{j:Nat}{v:α}(h:xs[j]?=some v):atI xs (j:Int)=some v:=by
 have hj:j<xs.length:=(Zj.mp h).1;have e:ixN xs.length (j:Int)=some j:=by
  unfold ixN;rw[if_pos (by lia),if_pos (by lia)];simp
 unfold atI;rw[e];exact h
def M7(b:Expr):Prop:=∀o i,subscripted b false o i=operate [o,i] (getItem o i)
def IxR(X:Cx)(r:R2):Prop :=
 ∀(value slice:Expr) (pins:List (Addr×Obj)) (s:Shared) (σ:St) (H:Hp) (x y:V) (v u:Value) (Q:VK),Inv X pins σ H s->RelV x v->RelV y u->r x y H Q ->
  subscripted slice false v u=operate [v,u] (getItem v u)->wpAny (model X.prog X.w) X.A (subscriptTail value slice v u) (EP X pins σ Q) X.xe s
def MtR(X:Cx)(id:String)(r:V->List V->Hp->VK->Prop):Prop :=
 ∀(pins:List (Addr×Obj)) (s:Shared) (σ:St) (H:Hp) (x:V) (xs:List V) (v:Value) (us:List Value) (Q:VK),Inv X pins σ H s->RelV x v->bI xs us->r x xs H Q ->
  wpAny (model X.prog X.w) X.A (call (.builtin id) (v::us)) (EP X pins σ Q) X.xe s
section
variable{X:Cx}{a b:Expr}{ta tb:TE}{pos:Pos}
theorem IxR.or{r r':R2}(h:IxR X r)(h':IxR X r'):IxR X (λx y H Q=>r x y H Q\/r' x y H Q):=by
 intro value slice pins s σ H x y v u Q I rx ry q hs;rcases q with q | q
 ·exact h value slice pins s σ H x y v u Q I rx ry q hs
 ·exact h' value slice pins s σ H x y v u Q I rx ry q hs
theorem aJ{r:R2}(hr:IxR X r)(ha:PE X a ta)(hb:PE X b tb)(hs:M7 b):PE X (.Subscript a b pos) (tOp r ta tb):=by
 intro pins s σ H Q I h;exact Subscript_ (QJ ha hb I h λv u s2 x y H2 I2 rx ry q=>hr a b pins s2 σ H2 x y v u Q I2 rx ry q (hs _ _))
def O0(K:PySem.W.Frag):R2:=λx y H Q=>∃p xs i v,x=.ref p/\y=.int i/\SqL K H p xs/\atI xs i=some v/\Q v H
def OZ(K:PySem.W.Frag):R2:=λx y H Q=>∃p xs i v,x=.ref p/\y=.int i/\SqT K H p xs/\atI xs i=some v/\Q v H
def RN:R2:=λx y H Q=>∃z i c,x=.str z/\y=.int i/\z.length<=ZW/\atI z.cps.toList i=some c/\Q (.str ⟨#[c]⟩) H
theorem bA:IxR X (O0 X.K):=by
 intro value slice pins s σ H x y v u Q I rx ry h hs;obtain⟨p,xs,i,z,rfl,rfl,hq,he,q⟩:=h;cases rx;obtain⟨t,rfl⟩:=ry;obtain⟨its,r,pl,hz⟩:=I.list hq;obtain⟨j,h1,h2,h3,h4,h5⟩:=zR he;obtain⟨w,ew,rw'⟩:=r.get h2;have hl:=r.length;have hn:=jI;have fin:EP X pins σ Q w s:=⟨z,H,I,rw',q⟩
 by_cases h0:0<=i
 ·have hj:i.toNat=j:=by
   rw[seqIndex_of h0 h5]at h1;exact Option.some.inj h1
  exact item_listR pl.isList h0 (by lia) (by rw[hj];simpa using ew) fin hs
 ·have hj:(i+(its.toArray.size:Int)).toNat=j:=by
   rw[seqIndex_neg (by lia) h4]at h1;rw[List.size_toArray,<-hl];exact Option.some.inj h1
  exact subscriptTail_builtinR (x:=w) pl.isList.typeIs slot_list_getitem.lookup
   (wpAny_getItem_list_neg (Q:=λr s'=>r=w/\EP X pins σ Q r s') pl.isList (by lia) (by rw[List.size_toArray]<;>lia) (by lia) (by rw[hj];simpa using ew) ⟨rfl,fin⟩) hs
theorem aT:IxR X (OZ X.K):=by
 intro value slice pins s σ H x y v u Q I rx ry h hs;obtain⟨p,xs,i,z,rfl,rfl,hq,he,q⟩:=h;cases rx;obtain⟨t,rfl⟩:=ry;obtain⟨its,r,pl,hz⟩:=I.tuple hq;obtain⟨j,h1,h2,h3,h4,h5⟩:=zR he;obtain⟨w,ew,rw'⟩:=r.get h2;have hl:=r.length;have hn:=jI;have fin:EP X pins σ Q w s:=⟨z,H,I,rw',q⟩
 exact subscriptTail_builtinR (x:=w) pl.typeIs slot_tuple_getitem.lookup
  (getItem_tuple (j:=j) (Q:=λr s'=>r=w/\EP X pins σ Q r s') pl (by lia) (by lia) (by rw[List.size_toArray,<-hl];exact h1) (by simpa using ew) ⟨rfl,fin⟩) hs
theorem P5:IxR X RN:=by
 intro value slice pins s σ H x y v u Q I rx ry h hs;obtain⟨z,i,c,rfl,rfl,hz,he,q⟩:=h;obtain⟨t,rfl⟩:=rx;obtain⟨t',rfl⟩:=ry;obtain⟨j,h1,h2,h3,h4,h5⟩:=zR he;have hl:z.cps.toList.length=z.length:=by simp[Str.length]
 rw[hl]at h1 h4 h5;have hn:=jI;exact tail_any (typeIs_str s z t) slot_str_getitem.lookup (getItem_str (c:=c) (by
  have e1:decide (i < -(2 ^ 63:Int))=false:=decide_eq_false (by lia);have e2:decide (i>=2 ^ 63)=false:=decide_eq_false (by lia);rw[e1,e2,Bool.or_false]) (by rw[h1];simpa using h2) ⟨.str ⟨#[c]⟩,H,I.tok _,⟨_,rfl⟩,q⟩) hs
def rIx(K:PySem.W.Frag):R2:=λx y H Q=>O0 K x y H Q\/OZ K x y H Q\/RN x y H Q
theorem rB:IxR X (rIx X.K):=bA.or (aT.or P5)
theorem C9(its:List Value)(n j:Nat)(u:Value):Obj.mapSeq (·.setIfInBounds j u) { cls:=.type "list",data:=.seq its.toArray n }={ cls:=.type "list",data:=.seq (its.set j u).toArray n }:=by
 simp[Obj.mapSeq]
theorem Inv.lst{pins:List (Addr×Obj)}{σ:St}{H:Hp}{s:Shared}{p:Addr}{xs:List V}(I:Inv X pins σ H s)(h:H p=some (.lst xs)) :
  ∃(its:List Value) (n:Nat),bI xs its/\s.heap.get? p=some { cls:=.type "list",data:=.seq its.toArray n }/\xs.length<=ZW:=by
 obtain⟨z,its,n,r,e⟩:=I.hok p _ h;exact⟨its,n,r,e,z⟩
theorem Inv.lstUpd{pins:List (Addr×Obj)}{σ:St}{H:Hp}{s:Shared}{p:Addr}{xs ys:List V}{its its':List Value}{n n':Nat}{f:Obj->Obj}(I:Inv X pins σ H s)(h:H p=some (.lst xs))
  (ho:s.heap.get? p=some { cls:=.type "list",data:=.seq its.toArray n }) (hf:f { cls:=.type "list",data:=.seq its.toArray n }={ cls:=.type "list",data:=.seq its'.toArray n' }) (r:bI ys its') (hz:ys.length<=ZW) (t:Nat) :
  Inv X pins σ (upd H p (.lst ys)) { s with heap:=s.heap.update p f,toks:=t }:=by
 have e:(s.heap.update p f).get? p=some { cls:=.type "list",data:=.seq its'.toArray n' }:=by
  rw[Heap.get?_update_self f ho (by rw[hf]<;>rfl),hf]
 refine I.write (x:=p) (e:=p) (by rw[h];trivial) (.inl rfl) (λb u hb q=>(Heap.get?_update_other _ _ (Ne.symm hb)).trans q) ⟨_,e⟩ ?_;exact⟨hz,its',n',r,e⟩
def RL:V->V->V->Hp->(Hp->Prop)->Prop:=λo i v H Q=>∃p xs k j,o=.ref p/\i=.int k/\H p=some (.lst xs)/\ixN xs.length k=some j/\Q (upd H p (.lst (xs.set j v)))
theorem set_list:SG X RL:=by
 intro pins s σ H o i v ov iv u Q I ro ri rv h;obtain⟨p,xs,k,j,rfl,rfl,hp,hj,q⟩:=h;cases ro;obtain⟨t,rfl⟩:=ri;obtain⟨its,n,r,ho,hz⟩:=I.lst hp;obtain⟨h1,h2,h3,h4⟩:=EV hj;have hl:=r.length;have hn:=jI;have I':Inv X pins σ (upd H p (.lst (xs.set j v))) { s with heap:=s.heap.update p (Obj.mapSeq (·.setIfInBounds j u)) } :=
  I.lstUpd hp ho (C9 its n j u) (r.set rv j) (by rw[List.length_set];exact hz) s.toks
 by_cases h0:0<=k
 ·have hk:k.toNat=j:=by
   rw[seqIndex_of h0 h4]at h1;exact Option.some.inj h1
  exact PySem.W.ki_setAt ho h0 (by lia) (by rw[List.size_toArray,<-hl];exact h4) (by rw[hk];exact⟨_,I',q⟩)
 ·have hk:(k+(its.toArray.size:Int)).toNat=j:=by
   rw[seqIndex_neg (by lia) h3]at h1;rw[List.size_toArray,<-hl];exact Option.some.inj h1
  exact PySem.W.ki_setBack ho (by lia) (by rw[List.size_toArray,<-hl];exact h3) (by lia) (by rw[hk];exact⟨_,I',q⟩)
theorem yZ(lo hi:Option Int)(n:Nat):(sliceBounds lo hi none n).1=((HT.sIx n 0 lo:Nat):Int)/\(sliceBounds lo hi none n).2.1=((HT.sIx n n hi:Nat):Int)/\(sliceBounds lo hi none n).2.2=1:=by
 refine⟨?_,?_,rfl⟩
 ·cases lo with
  |none=>simp[sliceBounds,HT.sIx]
  |some i =>
   simp only[sliceBounds,HT.sIx,Option.getD_none,show(1:Int)>0 by decide,if_true];by_cases h:i<0
   ·simp only[h,if_true]<;>lia
   ·simp only[h,if_false]<;>lia
 ·cases hi with
  |none=>simp[sliceBounds,HT.sIx]
  |some i =>
   simp only[sliceBounds,HT.sIx,Option.getD_none,show(1:Int)>0 by decide,if_true];by_cases h:i<0
   ·simp only[h,if_true]<;>lia
   ·simp only[h,if_false]<;>lia
theorem wO(its:List Value)(lo hi:Option Int):slicePick its.toArray lo hi none=((its.drop (HT.sIx its.length 0 lo)).take (HT.sIx its.length its.length hi-HT.sIx its.length 0 lo)).toArray:=by
 obtain⟨h1,h2,h3⟩:=yZ lo hi its.toArray.size;unfold slicePick;rw[h1,h2,h3];simp only[sliceRange_one,pick_run,List.size_toArray]<;>rfl
def S4(K:PySem.W.Frag):V->Option Int->Option Int->Hp->VK->Prop:=λx lo hi H Q=>∃a xs,x=.ref a/\SqL K H a xs/\∀p,H p=none->Q (.ref p) (upd H p (.lst (G0 xs lo hi)))
theorem SM:SlR X (S4 X.K):=by
 intro pins s σ H x v vl vu lo hi sl Q I rx hs pl pu h;obtain⟨a,xs,rfl,hx,q⟩:=h;cases rx;obtain⟨its,r,ht,hz⟩:=I.list hx;have hlen:=r.length;refine⟨"list",_,slot_list_getitem.lookup,ht.isList.typeIs,?_⟩;refine wpAny_getItem_list_slice ht.isList hs pl pu .none (by simp) ?_ (by rw[List.size_toArray]<;>lia);rw[wO,<-hlen];refine⟨.ref s.heap.objs.size,_,I.laid (t':=s.toks) (o:=.lst (G0 xs lo hi)) (λb ob q=>Heap.get?_push_of_some _ q) (Nat.le_refl _) ?_,rfl,q _ (I.hok.fresh (Nat.le_refl _))⟩;exact⟨Yr (sM xs lo hi) hz,_,0,(r.drop (HT.sIx xs.length 0 lo)).take (HT.sIx xs.length xs.length hi-HT.sIx xs.length 0 lo),Heap.get?_push_size _ rfl⟩
def kX:V->Bool
 |.non=>true
 |.bl _=>true
 |.int _=>true
 |.str _=>true
 |_=>false
def eqV:V->V->Bool
 |.non,.non=>true
 |.bl a,.bl b=>a==b
 |.bl a,.int b=>(if a then 1 else 0)==b
 |.int a,.bl b=>a==(if b then 1 else 0)
 |.int a,.int b=>a==b
 |.str a,.str b=>a==b
 |_,_=>false
theorem QF{A:Around}{s:Shared}{y x:V}{u v:Value}(ry:RelV y u)(rx:RelV x v)(fy:kX y=true)(fx:kX x=true):SeqAt.EqAt A s u v (eqV y x):=by
 cases y with
 |non =>
  cases ry;cases x with
  |non=>cases rx;exact SeqAt.EqAt.same _
  |bl b=>cases rx;exact SeqAt.EqAt.none_bool b
  |int b=>obtain⟨t,rfl⟩:=rx;exact SeqAt.EqAt.none_int b t
  |str b=>obtain⟨t,rfl⟩:=rx;exact SeqAt.EqAt.none_str b t
  |_=>exact absurd (show false=true from fx) Bool.false_ne_true
 |bl a =>
  cases ry;cases x with
  |non=>cases rx;exact SeqAt.EqAt.bool_none a
  |bl b=>cases rx;exact SeqAt.EqAt.bool_bool a b
  |int b=>obtain⟨t,rfl⟩:=rx;exact SeqAt.EqAt.bool_int a b t
  |str b=>obtain⟨t,rfl⟩:=rx;exact SeqAt.EqAt.bool_str a b t
  |_=>exact absurd (show false=true from fx) Bool.false_ne_true
 |int a =>
  obtain⟨t',rfl⟩:=ry;cases x with
  |non=>cases rx;exact SeqAt.EqAt.int_none a t'
  |bl b=>cases rx;exact SeqAt.EqAt.int_bool a t' b
  |int b=>obtain⟨t,rfl⟩:=rx;exact SeqAt.EqAt.int_int a t' b t
  |str b=>obtain⟨t,rfl⟩:=rx;exact SeqAt.EqAt.int_str a t' b t
  |_=>exact absurd (show false=true from fx) Bool.false_ne_true
 |str a =>
  obtain⟨t',rfl⟩:=ry;cases x with
  |non=>cases rx;exact SeqAt.EqAt.str_none a t'
  |bl b=>cases rx;exact SeqAt.EqAt.str_bool a t' b
  |int b=>obtain⟨t,rfl⟩:=rx;exact SeqAt.EqAt.str_int a t' b t
  |str b=>obtain⟨t,rfl⟩:=rx;exact SeqAt.EqAt.str_str a t' b t
  |_=>exact absurd (show false=true from fx) Bool.false_ne_true
 |_=>exact absurd (show false=true from fy) Bool.false_ne_true
def eqU(x:V)(u:Value):Bool:=match u with
 |.none=>eqV .non x
 |.bool b=>eqV (.bl b) x
 |.int i _=>eqV (.int i) x
 |.str z _=>eqV (.str z) x
 |_=>false
theorem zK{x y:V}{u:Value}(r:RelV y u)(f:kX y=true):eqU x u=eqV y x:=by
 cases y with
 |non=>cases r;rfl
 |bl b=>cases r;rfl
 |int i=>obtain⟨t,rfl⟩:=r;rfl
 |str z=>obtain⟨t,rfl⟩:=r;rfl
 |_=>exact absurd (show false=true from f) Bool.false_ne_true
theorem p7{x:V}:∀{xs:List V}{us:List Value},bI xs us->xs.all kX=true->us.any (eqU x)=xs.any λy=>eqV y x
 |_,_,.nil,_=>rfl
 |y::xs,u::us,.cons r t,f=>by
  rw[List.all_cons,Xw]at f;rw[List.any_cons,List.any_cons,zK r f.1,p7 t f.2]
theorem iG{A:Around}{s:Shared}{x:V}{v:Value}(rx:RelV x v)(fx:kX x=true):∀{xs:List V}{us:List Value},bI xs us->xs.all kX=true->∀u∈us,SeqAt.EqAt A s u v (eqU x u)
 |_,_,.nil,_=>λu hu=>by cases hu
 |y::xs,u::us,.cons r t,f=>λu' hu=>by
  rw[List.all_cons,Xw]at f;rcases Zn.mp hu with rfl | hu
  ·rw[zK r f.1];exact QF r rx f.1 fx
  ·exact iG rx fx t f.2 u' hu
def inV(x:V)(xs:List V):Bool:=xs.any λy=>eqV y x
def rIn(K:PySem.W.Frag)(neg:Bool):R2:=λx y H Q=>∃p xs,y=.ref p/\(SqL K H p xs\/SqT K H p xs)/\kX x=true/\xs.all kX=true/\Q (.bl (if neg then !inV x xs else inV x xs)) H
theorem qT:OpR X (compareOp .In) (rIn X.K false):=by
 intro pins s σ H x y v u Q I rx ry h;obtain⟨p,xs,rfl,hq,fx,fs,q⟩:=h;cases ry;rcases hq with hq | hq
 ·obtain⟨its,r,pl,hz⟩:=I.list hq;refine SeqAt.in_listAt (eqU x) pl.isList (λw hw=>iG rx fx r fs w (by simpa using hw)) ⟨.bl _,H,I,rfl,?_⟩;rw[show its.toArray.any (eqU x)=its.any (eqU x) by simp,p7 r fs];exact q
 ·obtain⟨its,r,pl,hz⟩:=I.tuple hq;refine SeqAt.in_tupleAt (eqU x) pl (λw hw=>iG rx fx r fs w (by simpa using hw)) ⟨.bl _,H,I,rfl,?_⟩;rw[show its.toArray.any (eqU x)=its.any (eqU x) by simp,p7 r fs];exact q
theorem zD:OpR X (compareOp .NotIn) (rIn X.K true):=by
 intro pins s σ H x y v u Q I rx ry h;obtain⟨p,xs,rfl,hq,fx,fs,q⟩:=h;cases ry;rcases hq with hq | hq
 ·obtain⟨its,r,pl,hz⟩:=I.list hq;refine SeqAt.notIn_listAt (eqU x) pl.isList (λw hw=>iG rx fx r fs w (by simpa using hw)) ⟨.bl _,H,I,rfl,?_⟩;rw[show its.toArray.any (eqU x)=its.any (eqU x) by simp,p7 r fs];exact q
 ·obtain⟨its,r,pl,hz⟩:=I.tuple hq;refine SeqAt.notIn_tupleAt (eqU x) pl (λw hw=>iG rx fx r fs w (by simpa using hw)) ⟨.bl _,H,I,rfl,?_⟩;rw[show its.toArray.any (eqU x)=its.any (eqU x) by simp,p7 r fs];exact q
theorem aN:dG X (.builtin "len") (λxs H Q=>∃p ys,xs=[.ref p]/\(SqL X.K H p ys\/SqT X.K H p ys)/\Q (.int ys.length) H):=by
 intro pins s σ H xs us Q I r h;obtain⟨p,ys,rfl,hq,q⟩:=h;obtain⟨u,rfl,rx⟩:=vals1 r;cases rx;have hn:=jI;rcases hq with hq | hq
 ·obtain⟨its,r',pl,hz⟩:=I.list hq;have hlen:=r'.length;exact Calls.call_len_list pl.isList (by simp only[List.size_toArray]<;>lia) ⟨.int ys.length,H,I.tok _,⟨s.toks+1,by rw[List.size_toArray,hlen]⟩,q⟩
 ·obtain⟨its,r',pl,hz⟩:=I.tuple hq;have hlen:=r'.length;exact len_tuple pl (by simp only[List.size_toArray]<;>lia) ⟨.int ys.length,H,I.tok _,⟨s.toks+1,by rw[List.size_toArray,hlen]⟩,q⟩
theorem fN:dG X (.type "list") (λxs H Q=>∃p ys,xs=[.ref p]/\(SqL X.K H p ys\/SqT X.K H p ys)/\∀l,H l=none->Q (.ref l) (upd H l (.lst ys))):=by
 intro pins s σ H xs us Q I r h;obtain⟨p,ys,rfl,hq,q⟩:=h;obtain⟨u,rfl,rx⟩:=vals1 r;cases rx;have fin:∀(its:List Value),bI ys its->ys.length<=ZW->∀(h':Heap) (c':Nat),(∀b o',s.heap.get? b=some o'->h'.get? b=some o') ->
   h'.get? s.heap.objs.size=some { cls:=.type "list",dict:=none,data:=.seq its.toArray c',slots:=#[] }->EP X pins σ Q (.ref s.heap.objs.size) { s with heap:=h' }:=λits r' hz h' c' kp e =>
  ⟨.ref s.heap.objs.size,_,I.laid (t':=s.toks) kp (Nat.le_refl _) (show cH X.prog X.w _ h' _ (.lst ys) from⟨hz,its,c',r',e⟩),rfl,q _ (I.hok.fresh (Nat.le_refl _))⟩
 rcases hq with hq | hq
 ·obtain⟨its,r',pl,hz⟩:=I.list hq;have hlen:=r'.length;obtain⟨o,ho,hc,n,hd⟩:=pl.isList;exact call_list_seq p (.inl rfl) ho hc hd (λh' c' kp e=>fin its r' hz h' c' kp e) (by simp only[List.size_toArray]<;>lia)
 ·obtain⟨its,r',pl,hz⟩:=I.tuple hq;have hlen:=r'.length;obtain⟨o,ho,hc,n,hd⟩:=pl;exact call_list_seq p (.inr rfl) ho hc hd (λh' c' kp e=>fin its r' hz h' c' kp e) (by simp only[List.size_toArray]<;>lia)
def tyV(K:PySem.W.Frag)(T:String)(x:V)(H:Hp):Prop:=match x with
 |.str _=>T="str"
 |.int _=>T="int"
 |.ref p=>(T="list"/\∃xs,SqL K H p xs)\/(T="tuple"/\∃o,K.lookup p=some o/\o.cls=.type "tuple"/\o.dict=none) \/
   (T="dict"/\((∃kvs,H p=some (.dK kvs))\/∃kvs,H p=some (.dT kvs)))\/(T="set"/\∃S n,H p=some (.set S n))
 |_=>False
theorem HR{pins:List (Addr×Obj)}{σ:St}{H:Hp}{s:Shared}{T:String}{x:V}{v:Value}(I:Inv X pins σ H s)(r:RelV x v)(ty:tyV X.K T x H) :
  s.TypeIs v T/\∀a,v=.ref a->∃ob,s.heap.get? a=some ob/\ob.dict=none:=by
 cases x with
 |str z =>
  obtain⟨t,rfl⟩:=r;cases (show T="str" from ty);exact⟨typeIs_str s z t,λ_ e=>nomatch e⟩
 |int i =>
  obtain⟨t,rfl⟩:=r;cases (show T="int" from ty);exact⟨typeIs_int s i t,λ_ e=>nomatch e⟩
 |ref p =>
  cases r;rcases ty with⟨rfl,xs,hq⟩ | ⟨rfl,o,hk,hc,hd⟩ | ⟨rfl,hk⟩ | ⟨rfl,S,n,hk⟩
  ·obtain⟨its,_,pl,_⟩:=I.list hq;refine⟨pl.isList.typeIs,λa e=>?_⟩;cases e;obtain⟨o,n,e,c,hd,_⟩:=pl;exact⟨o,e,hd⟩
  ·refine⟨⟨o,I.kIn p o hk,hc⟩,λa e=>?_⟩;cases e;exact⟨o,I.kIn _ o hk,hd⟩
  ·have z:∃o,s.heap.get? p=some o/\o.ExactDict:=by
    rcases hk with⟨kvs,hk⟩ | ⟨kvs,hk⟩
    ·obtain⟨_,_,_,_,o,_,_,e,ex,_⟩:=I.hok p _ hk;exact⟨o,e,ex⟩
    ·obtain⟨_,_,_,_,o,_,_,e,ex,_⟩:=I.hok p _ hk;exact⟨o,e,ex⟩
   obtain⟨o,e,ex⟩:=z;refine⟨⟨o,e,ex.1⟩,λa e2=>?_⟩;cases e2;exact⟨o,e,ex.2.1⟩
  ·obtain⟨o,_,_,_,e,ex,_⟩:=I.hok p _ hk;refine⟨⟨o,e,ex.1⟩,λa e2=>?_⟩;cases e2;exact⟨o,e,ex.2.1⟩
 |_=>exact False.elim ty
def SZ(K:PySem.W.Frag)(T:String)(r:V->List V->Hp->VK->Prop)(to:TE):TE:=λσ H Q=>to σ H λx H1=>tyV K T x H1/\r x [] H1 Q
def tBM(K:PySem.W.Frag)(T:String)(r:V->List V->Hp->VK->Prop)(to:TE)(t:TA):TE:=λσ H Q=>to σ H λx H1=>tyV K T x H1/\t σ H1 λxs H2=>r x xs H2 Q
variable{o e:Expr}{es:List Expr}{to:TE}{t:TA}{name:Str}{apos cpos:Pos}{T id:String}{r:V->List V->Hp->VK->Prop}
theorem JC(pa:PlainAttrs T)(slot:Slot T name id)(hty:typeOf (.builtin id)=pure (.type "method_descriptor"))(hm:MtR X id r)(ho:PE X o to)
  (hbase:attributeBase o name X.env (eval o X.env)=eval o X.env:=by rfl) (hline:(apos.endLine==cpos.line)=true:=by rfl):PE X (.Call (.Attribute o name apos) [] [] cpos) (SZ X.K T r to):=by
 intro pins s σ H Q I h;refine wpAny_Call_method0_late hbase hline (thn (ho pins s σ H _ I h) λv s1 ⟨x,H1,I1,r1,ty,q1⟩=>?_);obtain⟨h1,h2⟩:=HR I1 r1 ty;exact⟨T,id,pa,slot,hty,h1,h2,Calls.callWith_builtin rfl (PySem.evalArgs_none (hm pins s1 σ H1 x [] v [] Q I1 r1 .nil q1))⟩
theorem uJ(pa:PlainAttrs T)(slot:Slot T name id)(hty:typeOf (.builtin id)=pure (.type "method_descriptor"))(hm:MtR X id r)(ho:PE X o to)(ha:PA X (e::es) t)
  (hbase:attributeBase o name X.env (eval o X.env)=eval o X.env:=by rfl)
  (hfew:((backTo cpos (starEach (e::es) X.env)).all (λx=>!x.1)&&(backToKw cpos (keywordEach [] X.env)).all (λx=>x.1.isSome)
   && decide ((e::es).length+([]:List Keyword).length+(if ([]:List Keyword).isEmpty then 0 else 1)<30))=true:=by rfl)
  (hline:(apos.endLine==cpos.line)=true:=by rfl) (hs:starEach (e::es) X.env=(false,eval e X.env)::starEach es X.env:=by rfl) (hplain:(backTo cpos (starEach es X.env)).any (·.1)=false:=by rfl) :
  PE X (.Call (.Attribute o name apos) (e::es) [] cpos) (tBM X.K T r to t):=by
 intro pins s σ H Q I h;refine wpAny_Call_method_late hbase hfew hline rfl (thn (ho pins s σ H _ I h) λv s1 ⟨x,H1,I1,r1,ty,q1⟩=>?_);obtain⟨h1,h2⟩:=HR I1 r1 ty;refine⟨T,id,pa,slot,hty,h1,h2,?_⟩;have hA:=ha cpos pins s1 σ H1 _ I1 q1;rw[hs]at hA ⊢;refine Calls.callWith_builtin (by show(false||(backTo cpos (starEach es X.env)).any (·.1))=false;rw[hplain]<;>rfl) (Calls.evalArgs_plain ?_);exact thn hA λus s2 ⟨vs,H2,I2,r2,q2⟩=>hm pins s2 σ H2 x vs v us Q I2 r1 r2 q2
end
end L2
namespace L2
open PySem PySem.Spec PyProof.Rows
def MtM(X:Cx)(id:String)(r:V->List V->Hp->VK->Prop):Prop :=
 ∀(pins:List (Addr×Obj)) (s:Shared) (σ:St) (H:Hp) (x:V) (xs:List V) (v:Value) (us:List Value) (Q:VK),Inv X pins σ H s->RelV x v->bI xs us->r x xs H Q ->
  wpAny (model X.prog X.w) X.A (call (.builtin id) (v::us)) (EP X pins σ Q) X.xe s
theorem bI.one:∀{x:V}{us:List Value},bI [x] us->∃u,us=[u]/\RelV x u:=by
 intro x us h;cases h with
 |cons r h=>cases h;exact⟨_,rfl,r⟩
theorem bI.two:∀{x y:V}{us:List Value},bI [x,y] us->∃u v,us=[u,v]/\RelV x u/\RelV y v:=by
 intro x y us h;cases h with
 |cons r h=>cases h with
  |cons q h=>cases h;exact⟨_,_,rfl,r,q⟩
theorem bI.zero:∀{us:List Value},bI [] us->us=[]
 |_,.nil=>rfl
theorem bI.dropLast{xs:List V}{us:List Value}(h:bI xs us):bI xs.dropLast us.dropLast:=by
 induction h with
 |nil=>exact .nil
 |cons r t ih =>
  cases t with
  |nil=>exact .nil
  |cons q t'=>exact .cons r ih
theorem bI.eraseIdx:∀{xs:List V}{us:List Value}(i:Nat),bI xs us->bI (xs.eraseIdx i) (us.eraseIdx i)
 |_,_,_,.nil=>.nil
 |_,_,0,.cons _ t=>t
 |_,_,i+1,.cons r t=>.cons r (bI.eraseIdx i t)
theorem bI.rep{xs:List V}{us:List Value}(h:bI xs us):∀k:Nat,bI (List.replicate k xs).flatten (List.replicate k us).flatten
 |0=>.nil
 |k+1=>by
  rw[List.replicate_succ,List.replicate_succ,List.flatten_cons,List.flatten_cons];exact bI.append h (bI.rep h k)
theorem DO{α:Type}(l:List α):l.eraseIdx (l.length-1)=l.dropLast:=by
 induction l with
 |nil=>rfl
 |cons a r ih =>
  cases r with
  |nil=>rfl
  |cons b r =>
   have e:(a::b::r).length-1=((b::r).length-1)+1:=by
    have h1:(a::b::r).length=r.length+2:=rfl;have h2:(b::r).length=r.length+1:=rfl
    lia
   rw[e,List.eraseIdx_cons_succ,ih]
   all_goals rfl
theorem foldl_rep(its:List Value):∀(k:Nat) (acc:List Value),
  List.foldl (λx1 x2=>x1++x2) acc.toArray (List.replicate k its.toArray)=(acc++(List.replicate k its).flatten).toArray
 |0,acc=>by simp
 |k+1,acc=>by
  have e:acc.toArray++its.toArray=(acc++its).toArray:=by simp
  have e2:(acc++its)++(List.replicate k its).flatten=acc++(List.replicate (k+1) its).flatten:=by
   rw[List.replicate_succ,List.flatten_cons,Yb]
  rw[<-e2,<-foldl_rep its k (acc++its),<-e,List.replicate_succ,List.foldl_cons]
section
variable{X:Cx}{pins:List (Addr×Obj)}{σ:St}{H:Hp}{s:Shared}{l b:Addr}{xs ys zs:List V}
theorem Inv.lset{its its':List Value}{n:Nat}{f:Array Value->Array Value}{t':Nat}(I:Inv X pins σ H s)(hH:H l=some (.lst xs))
  (e:s.heap.get? l=some { cls:=.type "list",data:=.seq its.toArray n }) (hf:f its.toArray=its'.toArray) (hv:bI ys its') (hz:ys.length<=ZW) :
  Inv X pins σ (upd H l (.lst ys)) { s with heap:=s.heap.update l (Obj.mapSeq f),toks:=t' }:=by
 have q:=PySem.IsL.update e f;rw[hf]at q;refine I.write (x:=l) (e:=l) (by rw[hH];exact trivial) (.inl rfl) (λb' u hb hu=>(Heap.get?_update_other s.heap (Obj.mapSeq f) (Ne.symm hb)).trans hu) ⟨_,q⟩ ?_;exact⟨hz,its',_,hv,q⟩
theorem Inv.lnew{its:List Value}{t':Nat}(I:Inv X pins σ H s)(hv:bI ys its)(hz:ys.length<=ZW) :
  Inv X pins σ (upd H s.heap.objs.size (.lst ys)) { s with heap:=s.heap.push { cls:=.type "list",data:=.seq its.toArray },toks:=t' } :=
 I.laid (λ_ _ q=>Heap.get?_push_of_some _ q) (Nat.le_refl _) ⟨hz,its,0,hv,Heap.get?_push_size _ rfl⟩
theorem Inv.fresh(I:Inv X pins σ H s):H s.heap.objs.size=none:=I.hok.fresh (Nat.le_refl _)
theorem Inv.lstM(I:Inv X pins σ H s)(hH:H l=some (.lst xs)):xs.length<=ZW/\∃(its:List Value) (n:Nat),bI xs its/\xs.length=its.length/\s.heap.get? l=some { cls:=.type "list",data:=.seq its.toArray n }:=by
 obtain⟨z,its,n,r,e⟩:=I.hok l _ hH;exact⟨z,its,n,r,r.length,e⟩
theorem A2{n:Nat}(h:n<=ZW):Builtin.List.listTooLong n=false:=by
 unfold Builtin.List.listTooLong;exact decide_eq_false (by lia)
end
section
variable{X:Cx}
def LS:V->List V->Hp->VK->Prop:=λx vs H Q=>∃l xs y,x=.ref l/\vs=[y]/\H l=some (.lst xs)/\xs.length<ZW/\Q .non (upd H l (.lst (xs++[y])))
theorem bP:MtM X "list.append" LS:=by
 intro pins s σ H x vs v us Q I rx rv h;obtain⟨l,xs,y,rfl,rfl,hH,hz,q⟩:=h;cases rx;obtain⟨u,rfl,ru⟩:=rv.one;obtain⟨z,its,n,r,hl,e⟩:=I.lstM hH;refine call_meets F.slot_list_append ⟨_,e,rfl⟩ F.entry_list_append (F.args_list_append_2 _ _) (PySem.list_append l its.toArray n u (by rw[List.size_toArray];lia)) ⟨e,?_⟩;refine⟨.non,_,I.lset (its':=its++[u]) hH e (by simp) (r.append (.cons ru .nil)) ?_,rfl,q⟩;rw[Zm,ZQ]
 lia
def LR:V->List V->Hp->VK->Prop:=λx vs H Q=>∃l b xs zs,x=.ref l/\vs=[.ref b]/\H l=some (.lst xs)/\H b=some (.lst zs)/\xs.length+zs.length<=ZW/\Q .non (upd H l (.lst (xs++zs)))
theorem QT:MtM X "list.extend" LR:=by
 intro pins s σ H x vs v us Q I rx rv h;obtain⟨l,b,xs,zs,rfl,rfl,hH,hB,hz,q⟩:=h;cases rx;obtain⟨u,rfl,ru⟩:=rv.one;cases ru;obtain⟨z,its,n,r,hl,e⟩:=I.lstM hH;obtain⟨z2,its2,n2,r2,hl2,e2⟩:=I.lstM hB;have hsz:its.toArray.size+its2.toArray.size<=ZW:=by rw[List.size_toArray,List.size_toArray];lia
 have hlong:¬(!its.toArray.isEmpty&&Builtin.List.listTooLong (its.toArray.size+its2.toArray.size))=true:=by
  rw[A2 hsz,Bool.and_false];exact Bool.false_ne_true
 refine call_meets F.slot_list_extend ⟨_,e,rfl⟩ F.entry_list_extend (F.args_list_extend_2 _ _)
  (AutoSeq1.list_extend_list_list_0 l its.toArray n b its2.toArray n2 hlong (by rw[List.size_toArray];lia) (by lia)) ⟨e,e2,?_⟩
 refine⟨.non,_,I.lset (its':=its++its2) hH e (by simp) (r.append r2) ?_,rfl,q⟩;rw[Zm]
 lia
def S6:V->List V->Hp->VK->Prop:=λx vs H Q=>∃l xs y,x=.ref l/\vs=[]/\H l=some (.lst xs)/\xs[xs.length-1]?=some y/\Q y (upd H l (.lst xs.dropLast))
theorem JM:MtM X "list.pop" S6:=by
 intro pins s σ H x vs v us Q I rx rv h;obtain⟨l,xs,y,rfl,rfl,hH,hy,q⟩:=h;cases rx;have hus:=rv.zero;subst hus;obtain⟨z,its,n,r,hl,e⟩:=I.lstM hH;obtain⟨u,hu,ru⟩:=r.get hy;have hy':its.toArray[its.toArray.size-1]?=some u:=by
  show its.toArray[its.length-1]?=some u;rw[<-Array.getElem?_toList,<-hl];exact hu
 refine call_meets F.slot_list_pop ⟨_,e,rfl⟩ F.entry_list_pop (F.args_list_pop_1 _) (MeetsSeq.list_pop_last l its.toArray n u hy' (by rw[List.size_toArray];lia)) ⟨e,?_⟩;refine⟨y,_,I.lset (its':=its.dropLast) hH e ?_ r.dropLast ?_,ru,q⟩
 ·show its.toArray.eraseIdxIfInBounds (its.toArray.size-1)=its.dropLast.toArray;rw[List.size_toArray,List.eraseIdxIfInBounds_toArray,DO]
 ·rw[List.length_dropLast]
  lia
def S8:R2:=λx y H Q=>∃l b xs zs,x=.ref l/\y=.ref b/\H l=some (.lst xs)/\H b=some (.lst zs)/\xs.length+zs.length<=ZW/\∀p,H p=none->Q (.ref p) (upd H p (.lst (xs++zs)))
theorem zE:OpR X (binaryOp .Add) S8:=by
 intro pins s σ H x y v u Q I rx ry h;obtain⟨l,b,xs,zs,rfl,rfl,hH,hB,hz,q⟩:=h;cases rx;cases ry;obtain⟨z,its,n,r,hl,e⟩:=I.lstM hH;obtain⟨z2,its2,n2,r2,hl2,e2⟩:=I.lstM hB;refine PySem.P.add_list e e2 ?_ (by rw[List.size_toArray,List.size_toArray];lia);have ea:its.toArray++its2.toArray=(its++its2).toArray:=by simp
 rw[ea];exact⟨.ref _,_,I.lnew (t':=s.toks) (r.append r2) (by rw[Zm];lia),rfl,q _ I.fresh⟩
def S5:R2:=λx y H Q=>∃l k xs,x=.ref l/\y=.int k/\H l=some (.lst xs)/\-(2 ^ 63)<=k/\k<2 ^ 63/\xs.length*k.toNat<=ZW /\
 ∀p,H p=none->Q (.ref p) (upd H p (.lst (List.replicate k.toNat xs).flatten))
theorem len_rep{α:Type}(xs:List α)(k:Nat):(List.replicate k xs).flatten.length=k*xs.length:=by
 induction k with
 |zero=>simp
 |succ k ih=>rw[List.replicate_succ,List.flatten_cons,Zm,ih,Nat.succ_mul,Nat.add_comm]
theorem uN:OpR X (binaryOp .Mult) S5:=by
 intro pins s σ H x y v u Q I rx ry h;obtain⟨l,k,xs,rfl,rfl,hH,h1,h2,hz,q⟩:=h;cases rx;obtain⟨t,rfl⟩:=ry;obtain⟨z,its,n,r,hl,e⟩:=I.lstM hH;have hlen:its.toArray.size*k.toNat<=ZW:=by rw[List.size_toArray,<-hl];exact hz
 have hcap:¬its.toArray.size*k.toNat>(2 ^ 63-1) / 8:=by
  have:(ZW:Nat)<=(2 ^ 63-1) / 8:=by decide
  lia
 have hfit:¬(!Builtin.List.listFitsIndex k)=true:=by
  rw[fitsIndex_both h1 h2];exact Bool.false_ne_true
 have hlong:¬Builtin.List.listTooLong (its.toArray.size*k.toNat)=true:=by
  rw[A2 hlen];exact Bool.false_ne_true
 have hnew:List.foldl (λx1 x2=>x1++x2) #[] (List.replicate (if its.toArray.isEmpty=true then 0 else k.toNat) its.toArray)=(List.replicate k.toNat its).flatten.toArray:=by
  have f0:∀m:Nat,List.foldl (λx1 x2=>x1++x2) #[] (List.replicate m its.toArray)=(List.replicate m its).flatten.toArray:=λm=>by
   have:=foldl_rep its m [];rw[List.nil_append]at this;exact this
  rw[f0];cases its with
  |nil=>simp
  |cons a r'=>rw[if_neg (by simp)]
 refine wpAny_binaryOp_repeat_ref (T:="list") (U:="int") (by decide) ⟨_,e,rfl⟩ (λs'=>typeIs_int s' k t) noFill_list_mul F.fills_int_mul F.slot_int_rmul repeat_list F.slot_int_index.lookup
  (call_meets F.slot_int_rmul (typeIs_int s k t) F.entry_int_rmul (F.args_int_rmul_2 _ _) (int___rmul___int_list k t l its.toArray n)
   ⟨e,rfl,⟨_,e,rfl⟩,call_meets F.slot_list_mul ⟨_,e,rfl⟩ F.entry_list_mul (F.args_list_mul_2 _ _) (AutoListH.list___mul___list_int_3 l its.toArray n k t hfit hcap hlong) ⟨e,?_⟩⟩)
 rw[hnew];exact⟨.ref _,_,I.lnew (t':=s.toks) (r.rep k.toNat) (by rw[len_rep,Nat.mul_comm];exact hz),rfl,q _ I.fresh⟩
end
section
variable{prog:Program}{w:World}{A:Around}{E:Value->Shared->Prop}{s:Shared}
end
section
variable{X:Cx}
end
end L2
namespace Att
open PySem PySem.W PySem.Calls PyProof.Rows
theorem sZ{P:Params}{h:Heap}:∀(ns:List Int) (vs:List Value),WellAll P h vs (ns.map WData.int)->IntsAre vs ns:=by
 intro ns;induction ns with
 |nil =>
  intro vs w;rw[List.map_nil]at w;cases w;exact .nil
 |cons n ns ih =>
  intro vs w;rw[List.map_cons]at w;cases w with
  |cons a b =>
   cases a;exact .cons _ _ (ih _ b)
theorem F0{l:OpenLaw}{n:Nat}(hn:l.most=some n){P:Params}{h:Heap}{args:List WData}{vals:List Value}
  (hpre:l.row.toRowW.claim.pre args=true) (hwl:WellAll P h vals args) :
  ∃a vs ns,vals=[Value.ref a]/\args=[WData.list (ns.map WData.int)]/\h.get? a=some { cls:=.type "list",data:=.seq vs.toArray }/\IntsAre vs ns/\ns.length<=n:=by
 have hsh:WShape.hasAll [] args [.list .int]=true:=(pre_splitW hpre).1;have hc:l.pre.holds [] { args:=args }=true:=(pre_splitW hpre).2;obtain⟨d,r,rfl,h1,h2⟩:=hasAllW_cons hsh;obtain rfl:=hasAllW_nil h2;obtain⟨xs,rfl,h3⟩:=hasW_list h1;obtain⟨ns,rfl⟩:=items_int h3;have hlen:ns.length<=n:=by
  unfold OpenLaw.pre at hc;have h4:(WTm.not (.lt (.lit (.int (n:Int))) (.len (.arg 0)))).holds [] { args:=[.list (ns.map .int)] }=true:=by
   have h4:=(holds_andW hc).1;rw[hn]at h4;exact h4
  have h5:=condW_of h4 (w_not (w_lt w_lit (w_len_list (w_arg rfl))));rw[Zq]at h5;refine Nat.le_of_not_lt λq=>?_;have q':(n:Int)<((ns.length:Nat):Int):=by omega
  first
   |(rw[decide_eq_true q']at h5;exact absurd h5 (by decide))
   |(simp at h5;omega)
 cases hwl with
 |cons w1 w2 =>
  cases w2;cases w1 with
  |list ho hall=>exact⟨_,_,ns,rfl,rfl,ho,sZ ns _ hall,hlen⟩
theorem F2(l:OpenLaw)(args:List WData):l.row.toRowW.claim.post args (.bool true) args=true :=
 postW_of (r:=l.row.toRowW) (X:=(true==true))
  (show WShape.has [] (.bool true) .bool=true by first | rfl | decide | simp[WShape.has,WShape.arms,WShape.armsAll])
  (show(WTm.eq .res (.lit (.bool true))).value [] { args:=args,res:=some (.bool true),after:=args }=some (.bool (true==true)) from w_eq_bool (w_res rfl) w_lit) rfl
theorem B6{l:OpenLaw}{n:Nat}{q:Program}{loose:List Str}{XP:(Str->Option Value)->Heap->Prop}{YP:World->Heap->Prop}{d:DefRec}
  (hn:l.most=some n) (hdf:d.params.defaults=[])
  (call:∀(w:World) (s₀ s₁:Shared) (mg mb:Str->Option Value) (fa:Addr) (o:Obj) (pm cd doc:Value) (a:Addr) (vs:List Value) (ns:List Int),
   Ground q loose [] XP w s₀ mg mb s₁.heap->YP w s₁.heap ->
   s₁.heap.get? fa=some o->o.data=.func (docDef d.name d.params d.body d.scope pm cd doc)->s₁.heap.CodeRec cd d.name->mg d.name=some (.ref fa) ->
   s₁.heap.get? a=some { cls:=.type "list",data:=.seq vs.toArray }->IntsAre vs ns->ns.length<=n->s₁.gens=#[] ->
   codeAny (model l.prog w) callerA (.call (.ref fa) ⟨[.ref a],[]⟩) (λr s'=>r=.ok (.ret (.bool true))/\OldK s₁.heap s'.heap/\s'.os=s₁.os/\AllBare s'.gens) s₁) :
  WalkO q loose XP YP l.row.toRowW d [] (λf vs=>PySem.call f vs):=by
 intro w s₀ s₁ mg mb G Y fa o pm cd doc dV kV ho hd hcd hD hmg hg args vals as hpre hlay hrd hwl hlo;obtain rfl:dV=.none:=Dflts.none hD hdf;obtain rfl:kV=.none:=Dflts.noKw hD;obtain⟨a,vs,ns,rfl,rfl,hobj,hints,hlen⟩:=F0 hn hpre hwl;refine enter_call (codeAny_mono (call w s₀ s₁ mg mb fa o pm cd doc a vs ns G Y ho (fd_plain hd) hcd hmg hobj hints hlen hg) λr s' hq=>?_);obtain⟨rfl,h2,h3,h4⟩:=hq;exact⟨.inl ⟨.bool true,.bool true,[],rfl,λ_=>rfl,.bool true,F2 l _,λ_=>⟨List.Pairwise.nil,λ_ hm=>(nomatch hm)⟩⟩,h2,h3,h4⟩
section
variable{prog:Program}{w:World}{A:Around}{E:Value->Shared->Prop}{s:Shared}{K:Frag}
end
end Att
namespace L2
open PySem PySem.Spec PyProof.Rows
theorem mC:∀{vs:List Value}{ns:List Int},IntsAre vs ns->bI (ns.map V.int) vs
 |_,_,.nil=>.nil
 |_,_,.cons n t h=>.cons ⟨t,rfl⟩ (mC h)
def jC(s:Stmt):Arguments:=match s with
 |.FunctionDef _ a _ _ _ _ _ _ _ _=>a
 |_=>{ posonlyargs:=[],args:=[],vararg:=none,kwonlyargs:=[],kw_defaults:=[],kwarg:=none,defaults:=[] }
def fJ(s:Stmt):List Stmt:=match s with
 |.FunctionDef _ _ b _ _ _ _ _ _ _=>b
 |_=>[]
def aR(s:Stmt):Scope:=match s with
 |.FunctionDef _ _ _ _ _ _ sc _ _ _=>sc
 |_=>{ kind:=.function,names:=[],isGenerator:=false,isCoroutine:=false }
abbrev CX0:CXT:=λ_ _ _ _ _ _=>False
abbrev E0:XK:=λ_ _ _=>False
theorem a8{X:Cx}:wJ CX0 X E0:=λ_ _ _ _ _ _ _ h=>h.elim
structure Fun(K:PySem.W.Frag)(x qual:Str)(st:Stmt)(f:Addr)(fd:FuncData):Prop where
 ex:∃(oc:Value) (od:Option Addr) (kV doc pm:Value) (an:Option Addr) (cdv ct:Value) (osl:Array (Option Value)),
  fd=PySem.W.fnOf x qual (jC st) (fJ st) (aR st) .none kV doc pm an cdv ct/\K.lookup f=some ⟨oc,od,.func fd,osl⟩/\PySem.W.codeIn K cdv qual=true
 kp:PySem.W.keepIn K (.ref f)=true
section
variable{P:Program}{w:World}{K:PySem.W.Frag}{mg:Str->Option Value}{base:Heap}
theorem Fun.ok{x qual:Str}{st:Stmt}{f:Addr}{fd:FuncData}{N ps:List Str}{k:Nat}{sp:Sp}(F:Fun K x qual st f fd)(S:aX N ps (aR st))(len:∀vs H Q E,sp vs H Q E->vs.length=ps.length)
  (hbody:∀(cdv:Value) (A:Around) (outer:List Env) (s:Shared) (H:Hp) (vs:List V) (Q:VK) (E:XK),eX k (A.deeper (envOfC qual (aR st) s.heap.objs.size f cdv))->sp vs H Q E ->
   ∃t,PSs (zM CX0 P w K mg base N qual (aR st) f cdv A outer s H E).nox (fJ st) t/\t { nx:=λ_ H'=>Q .non H',rt:=Q } (start N vs) H):cJ P w K mg base CX0 (k+1) f fd ps sp:=by
 obtain⟨oc,od,kV,doc,pm,an,cdv,ct,osl,rfl,lk,hcd⟩:=F.ex;refine KD lk hcd S len λA outer s H vs Q E hr hsp=>?_;obtain⟨t,h,q⟩:=hbody cdv A outer s H vs Q E hr hsp;exact⟨t,h.nox,q⟩
theorem Fun.binds{x qual:Str}{st:Stmt}{f:Addr}{fd:FuncData}{ps:List Str}(F:Fun K x qual st f fd)
  (h:∀(kV doc pm:Value) (an:Option Addr) (cdv ct:Value) (us:List Value),us.length=ps.length->bindArgs (PySem.W.fnOf x qual (jC st) (fJ st) (aR st) .none kV doc pm an cdv ct) ⟨us,[]⟩=pure (ps.zip us)):Binds K fd ps []:=by
 obtain⟨oc,od,kV,doc,pm,an,cdv,ct,osl,rfl,lk,hcd⟩:=F.ex;exact .all (h kV doc pm an cdv ct)
theorem J9{x qual:Str}{st:Stmt}{f:Addr}{oc:Value}{od an:Option Addr}{osl:Array (Option Value)}{kV doc pm cdv ct:Value}(l:K.lookup f=some ⟨oc,od,.func (PySem.W.fnOf x qual (jC st) (fJ st) (aR st) .none kV doc pm an cdv ct),osl⟩)
  (c:PySem.W.codeIn K cdv qual=true) (k:PySem.W.keepIn K (.ref f)=true):Fun K x qual st f (PySem.W.fnOf x qual (jC st) (fJ st) (aR st) .none kV doc pm an cdv ct):=⟨⟨oc,od,kV,doc,pm,an,cdv,ct,osl,rfl,l,c⟩,k⟩
end
theorem NT{A:Around}{k:Nat}(hr:eX k A):A.units+1<cLine:=Ys (Nat.add_le_add_left (by decide:1<=64) _) hr.units
section
variable{X:Cx}
theorem pv(i:Nat){x:Str}{pos:Pos}(hN:X.N[i]?=some x:=by rfl)(hv:Vis X.env.scope x:=by first | exact Or.inl rfl | exact Or.inr (Or.inl rfl) | exact Or.inr (Or.inr rfl))(hd:(x==("__debug__" : Str))=false:=by decide)
  (hcd:(x==("__classdict__" : Str))=false:=by decide):PE X (.Name x pos) (K2 i):=PB hN hv hd hcd
end
theorem mP{A B:Prop}(h:B):if false=true then A else B:=by
 rw[if_neg Bool.false_ne_true];exact h
theorem iS{A B:Prop}(h:A):if true=true then A else B:=by
 rw[if_pos rfl];exact h
theorem eV{c A B:Prop}[Decidable c](h1:c->A)(h2:¬c->B):if c then A else B:=by
 by_cases h:c
 ·rw[if_pos h];exact h1 h
 ·rw[if_neg h];exact h2 h
def aW(H H':Hp):Prop:=∀b o,H b=some o->H' b=some o
theorem aW.refl(H:Hp):aW H H:=λ_ _ h=>h
theorem aW.trans{H H1 H2:Hp}(a:aW H H1)(b:aW H1 H2):aW H H2:=λc o h=>b c o (a c o h)
theorem aW.free{H H':Hp}(e:aW H H'){l:Addr}(h:H' l=Option.none):H l=Option.none:=by
 cases q:H l with
 |none=>rfl
 |some o =>
  rw[e l o q]at h;cases h
theorem aW.seq{K:PySem.W.Frag}{H H':Hp}{a:Addr}{xs:List V}(e:aW H H')(h:SqL K H a xs):SqL K H' a xs:=by
 rcases h with(h | ⟨o,h⟩) | h
 ·exact .inl (.inl (e _ _ h))
 ·exact .inl (.inr ⟨o,e _ _ h⟩)
 ·exact .inr h
end L2
set_option Elab.async false
set_option linter.all false
set_option maxRecDepth 100000
set_option maxHeartbeats 4000000
namespace L2
open PySem PySem.Spec PyProof.Rows
def fB(cells:List (Str×Addr)):List (Str×NameKind)->List (Str×Addr)->List (Str×Addr)
 |[],cs=>cs
 |x::r,cs=>fB cells r (if x.2=.free then ((cells.lookup x.1).map λc=>(x.1,c)).toList++cs else cs)
theorem jJ{scope:Scope}{env:Env}(h:∀x∈scope.names,x.2=.free->∃c,env.cells.lookup x.1=some c) :
  closureFor scope env=pure (fB env.cells scope.names []):=by
 have key:∀(l:List (Str×NameKind)) (cs:List (Str×Addr)) (f:Str×NameKind->List (Str×Addr)->Sem (ForInStep (List (Str×Addr)))),
   (∀x∈l,x.2=.free->∃c,env.cells.lookup x.1=some c) ->
   (∀x cs,f x cs=if (x.2==NameKind.free)=true then (cellOf env x.1 >>= λa=>pure (ForInStep.yield ((x.1,a)::cs))) else pure (ForInStep.yield cs)) ->
   forIn l cs f=pure (fB env.cells l cs):=by
  intro l;induction l with
  |nil=>intro cs f _ _;rfl
  |cons x r ih =>
   intro cs f hx hf;rw[List.forIn_cons,hf];by_cases hk:x.2=.free
   ·obtain⟨c,hc⟩:=hx x Zd hk;rw[if_pos (by simp[hk])];have e:cellOf env x.1=pure c:=by unfold cellOf;rw[hc]
    rw[e];simp only[pure_bind];rw[ih _ f (λy hy=>hx y (Zw _ hy)) hf];show _=pure (fB env.cells r (if x.2=.free then ((env.cells.lookup x.1).map λc=>(x.1,c)).toList++cs else cs));rw[if_pos hk,hc];rfl
   ·rw[if_neg (by simp[hk])];simp only[pure_bind];rw[ih _ f (λy hy=>hx y (Zw _ hy)) hf];show _=pure (fB env.cells r (if x.2=.free then ((env.cells.lookup x.1).map λc=>(x.1,c)).toList++cs else cs));rw[if_neg hk]
 simp only[closureFor];rw[key scope.names [] _ h (λx cs=>by obtain⟨n,k⟩:=x;rfl)]
 first | rfl | simp only[pure_bind]
theorem tK{cells:List (Str×Addr)}:∀(l:List (Str×NameKind)) (cs:List (Str×Addr)) {x:Str}{c:Addr},(fB cells l cs).lookup x=some c->cs.lookup x=some c\/cells.lookup x=some c
 |[],_,_,_,h=>.inl h
 |y::r,cs,x,c,h=>by
  have h':(fB cells r (if y.2=.free then ((cells.lookup y.1).map λc=>(y.1,c)).toList++cs else cs)).lookup x=some c:=h;rcases tK r _ h' with q | q
  ·by_cases hk:y.2=.free
   ·rw[if_pos hk]at q;cases hl:cells.lookup y.1 with
    |none=>rw[hl]at q;exact .inl q
    |some d =>
     rw[hl]at q;have q':(((y.1,d)::cs).lookup x)=some c:=q;rw[List.lookup_cons]at q';cases hb:x==y.1 with
     |true =>
      rw[hb]at q';have e:=eq_of_beq hb;subst e
      right
      rw[hl];exact q'
     |false=>rw[hb]at q';exact .inl q'
   ·rw[if_neg hk]at q;exact .inl q
  ·exact .inr q
theorem vT{cells:List (Str×Addr)}:∀(l:List (Str×NameKind)) (cs:List (Str×Addr)) (x:Str),((x,NameKind.free)∈l/\∃c,cells.lookup x=some c)\/(∃c,cs.lookup x=some c)->∃c,(fB cells l cs).lookup x=some c
 |[],cs,x,h=>by
  rcases h with⟨q,_⟩ | q
  ·cases q
  ·exact q
 |y::r,cs,x,h=>by
  show ∃c,(fB cells r (if y.2=.free then ((cells.lookup y.1).map λc=>(y.1,c)).toList++cs else cs)).lookup x=some c;apply vT r;rcases h with⟨q,c,hc⟩ | ⟨c,hc⟩
  ·rcases Zn.mp q with q | q
   ·right
    subst q;rw[if_pos rfl,hc];refine⟨c,?_⟩;show((x,c)::cs).lookup x=some c;rw[List.lookup_cons];simp
   ·exact .inl ⟨q,c,hc⟩
  ·right
   by_cases hk:y.2=.free
   ·rw[if_pos hk];cases hl:cells.lookup y.1 with
    |none=>exact⟨c,hc⟩
    |some d =>
     show ∃c,((y.1,d)::cs).lookup x=some c;rw[List.lookup_cons];cases hb:x==y.1 with
     |true=>exact⟨d,rfl⟩
     |false=>exact⟨c,hc⟩
   ·rw[if_neg hk];exact⟨c,hc⟩
theorem nO{env:Env}:∀{names:List (Str×NameKind)}{x:Str}{k':NameKind},
  (names.map λ(n,k)=>if (k==NameKind.free&&env.scope.kind==.function&&env.kindOf n==some .cell) then (n,NameKind.cell) else (n,k)).lookup x=some k' ->
  ∃k,(x,k)∈names/\(k=k'\/(k=.free/\k'=.cell))
 |[],_,_,h=>by simp at h
 |(n,k)::r,x,k',h=>by
  have ih:=@nO env r x k';have h':List.lookup x ((if (k==NameKind.free&&env.scope.kind==.function&&env.kindOf n==some .cell)=true then (n,NameKind.cell) else (n,k))::_)=some k':=h;by_cases hc:(k==NameKind.free&&env.scope.kind==.function&&env.kindOf n==some .cell)=true
  ·rw[if_pos hc,List.lookup_cons]at h';cases hb:x==n with
   |true =>
    rw[hb]at h';have e:=eq_of_beq hb;subst e;cases h';refine⟨k,Zd,.inr ⟨?_,rfl⟩⟩;simp only[Xw]at hc;exact eq_of_beq hc.1.1
   |false =>
    rw[hb]at h';obtain⟨k2,q,z⟩:=ih h';exact⟨k2,Zw _ q,z⟩
  ·rw[if_neg hc,List.lookup_cons]at h';cases hb:x==n with
   |true =>
    rw[hb]at h';have e:=eq_of_beq hb;subst e;cases h';exact⟨k,Zd,.inl rfl⟩
   |false =>
    rw[hb]at h';obtain⟨k2,q,z⟩:=ih h';exact⟨k2,Zw _ q,z⟩
theorem oV{env:Env}:∀{names:List (Str×NameKind)}{x:Str},names.lookup x=some .free ->
  (names.map λ(n,k)=>if (k==NameKind.free&&env.scope.kind==.function&&env.kindOf n==some .cell) then (n,NameKind.cell) else (n,k)).lookup x=some .cell \/
  (names.map λ(n,k)=>if (k==NameKind.free&&env.scope.kind==.function&&env.kindOf n==some .cell) then (n,NameKind.cell) else (n,k)).lookup x=some .free
 |[],_,h=>by simp at h
 |(n,k)::r,x,h=>by
  have ih:=@oV env r x;show List.lookup x ((if (k==NameKind.free&&env.scope.kind==.function&&env.kindOf n==some .cell)=true then (n,NameKind.cell) else (n,k))::_)=some .cell \/
   List.lookup x ((if (k==NameKind.free&&env.scope.kind==.function&&env.kindOf n==some .cell)=true then (n,NameKind.cell) else (n,k))::_)=some .free
  rw[List.lookup_cons]at h;by_cases hc:(k==NameKind.free&&env.scope.kind==.function&&env.kindOf n==some .cell)=true
  ·rw[if_pos hc];simp only[List.lookup_cons];cases hb:x==n with
   |true=>exact .inl rfl
   |false=>rw[hb]at h;exact ih h
  ·rw[if_neg hc];simp only[List.lookup_cons];cases hb:x==n with
   |true=>rw[hb]at h;exact .inr h
   |false=>rw[hb]at h;exact ih h
def Cx.comp(X:Cx)(N:List Str)(scope:Scope)(cl:List (Str×Addr))(C:Addr)(fp:List Addr)(s:Shared)(H:Hp):Cx :=
 { prog:=X.prog,w:=X.w,K:=X.K,mg:=X.mg,base:=X.base,A:=X.A,N:=N,s₀:=s,H₀:=H,env:=compEnvC scope cl C X.env,outer:=X.stack,stack:=X.stack,ex:=fp,fn:=λ_=>false,calm:=X.calm,pn:=[],xe:=λ_ _=>False }
def inner(js:List (Option Nat))(σ:St):St:=js.map λo=>match o with
 |none=>none
 |some j=>(σ[j]?).getD none
def zJ(N:List Str)(scope:Scope):List Str->List (Option Nat)->Bool
 |[],[]=>true
 |x::r,o::q=>(match o with | none=>true | some j=>N[j]?==some x&&scope.names.lookup x==some .free)&&zJ N scope r q
 |_,_=>false
theorem u7{N:List Str}{scope:Scope}:∀{N':List Str}{js:List (Option Nat)},zJ N scope N' js=true->js.length=N'.length
 |[],[],_=>rfl
 |_::r,_::q,h=>by
  have h':=(Bool.and_eq_true_iff.mp h).2;rw[Yq,Yq,u7 h']
theorem zI{N:List Str}{scope:Scope}:∀{N':List Str}{js:List (Option Nat)}{i:Nat}{x:Str}{j:Nat},zJ N scope N' js=true->N'[i]?=some x->js[i]?=some (some j)->N[j]?=some x/\scope.names.lookup x=some .free
 |[],[],_,_,_,_,h,_=>by simp at h
 |y::r,o::q,0,x,j,h,h1,h2=>by
  have h':=(Bool.and_eq_true_iff.mp h).1;simp at h1 h2;subst h1 h2;have h'':=Bool.and_eq_true_iff.mp h';exact⟨eq_of_beq h''.1,eq_of_beq h''.2⟩
 |y::r,o::q,i+1,x,j,h,h1,h2=>by
  have h':=(Bool.and_eq_true_iff.mp h).2;exact zI (i:=i) h' (by simpa using h1) (by simpa using h2)
theorem BK{js:List (Option Nat)}{σ:St}{i:Nat}{v:V}(h:(inner js σ)[i]?=some (some v)):∃j,js[i]?=some (some j)/\σ[j]?=some (some v):=by
 unfold inner at h;rw[Zk]at h;cases e:js[i]? with
 |none=>rw[e]at h;cases h
 |some o =>
  rw[e]at h;cases o with
  |none=>cases h
  |some j =>
   refine⟨j,rfl,?_⟩;have h':(σ[j]?).getD none=some v:=by simpa using h
   cases q:σ[j]? with
   |none=>rw[q]at h';cases h'
   |some z=>rw[q]at h';simp at h';rw[h']
structure Fills(σ σ':St):Prop where
 len:σ.length=σ'.length
 at_:∀(i:Nat) v,σ[i]?=some (some v)->σ'[i]?=some (some v)
theorem Fills.refl(σ:St):Fills σ σ:=⟨rfl,λ_ _ h=>h⟩
theorem Fills.set{σ σ':St}(f:Fills σ σ'){i:Nat}(x:V)(h:σ[i]?=some none):Fills σ (σ'.set i (some x)):=by
 refine⟨by rw[List.length_set];exact f.len,λj v q=>?_⟩;by_cases e:i=j
 ·subst e;rw[h]at q;cases q
 ·rw[List.getElem?_set_ne e];exact f.at_ j v q
section
variable{X:Cx}{pins:List (Addr×Obj)}{σ:St}{H:Hp}{s:Shared}
theorem KO{N':List Str}{js:List (Option Nat)}{scope:Scope}{fp:List Addr}{m:Str->Option Value}{h1:Heap}{tk:Nat}(I:Inv X pins σ H s)
  (hk:scope.kind=.function) (hcell:∀y∈scope.names,y.2≠.cell) (hfree:∀y∈scope.names,y.2=.free->X.env.kindOf y.1=some .cell\/X.env.kindOf y.1=some .free) (hjs:zJ X.N scope N' js=true)
  (fpok:∀b∈fp,kY X pins H b) (fpl:∀b∈fp,b<s.heap.objs.size) (hns:h1.Ns s.heap.objs.size m) (hsb:∀b o,s.heap.get? b=some o->h1.get? b=some o) :
  Inv (X.comp N' scope (fB X.env.cells scope.names []) s.heap.objs.size fp s H) [] (inner js σ) H { s with heap:=h1,toks:=tk }:=by
 have incl:∀{x c},(fB X.env.cells scope.names []).lookup x=some c->X.env.cells.lookup x=some c:=λ{x c} q=>by
  rcases tK _ _ q with z | z
  ·simp at z
  ·exact z
 have inn:∀{x:Str},(x,NameKind.free)∈scope.names->∃c,(fB X.env.cells scope.names []).lookup x=some c:=λ{x} q=>vT _ _ _ (.inl ⟨q,I.ok.has x (hfree _ q rfl)⟩);have fnot:∀b∈fp,b∉frs X.stack:=λb hb z=>(Zn.mp (I.stkSub b z)).elim (fpok b hb).2.1 (fpok b hb).2.2.1;refine⟨⟨I.ok.mod,?_,I.ok.glob,I.ok.blt,Nat.le_refl _,?_,?_,?_,I.ok.hd,I.ok.frames,.inl rfl,?_,I.bs,Yr I.ok.bsz I.sz,?_,fnot,I.stack,I.stkFree⟩,rfl,I.bare,Un.kept hsb,⟨m,hns,?_⟩,?_,I.fresh,?_,?_,I.hok.kept hsb,?_⟩
 ·exact hk
 ·intro x y c e1 e2;exact I.ok.inj x y c (incl e1) (incl e2)
 ·intro x h;have q:∃k,(x,k)∈scope.names/\k=.free:=by
   rcases h with h | h
   ·obtain⟨k,q1,q2⟩:=nO (env:=X.env) h;rcases q2 with rfl | ⟨q2,_⟩
    ·exact absurd rfl (hcell _ q1)
    ·exact⟨k,q1,q2⟩
   ·obtain⟨k,q1,q2⟩:=nO (env:=X.env) h;rcases q2 with rfl | ⟨_,q2⟩
    ·exact⟨_,q1,rfl⟩
    ·cases q2
  obtain⟨k,q1,rfl⟩:=q;exact inn q1
 ·intro x c h _;cases h
 ·intro b hb;exact⟨Nat.ne_of_lt (fpl b hb),λx c e=>(fpok b hb).2.2.2.2.1 x c (incl e)⟩
 ·intro b o e hb;rcases(fpok b hb).2.2.2.1 with z | z
  ·exact I.ok.noex b o e z
  ·exact absurd (Yt (Heap.lt_size e) (Yr I.ok.bsz z)) (Nat.lt_irrefl _)
 ·intro i x v e1 e2 _;obtain⟨j,q1,q2⟩:=BK e2;obtain⟨q3,q4⟩:=zI hjs e1 q1;have q5:(x,NameKind.free)∈scope.names:=by
   have:∀{l:List (Str×NameKind)},l.lookup x=some .free->(x,NameKind.free)∈l:=by
    intro l;induction l with
    |nil=>intro z;simp at z
    |cons y r ih =>
     intro z;obtain⟨n,k⟩:=y;rw[List.lookup_cons]at z;cases hb:x==n with
     |true=>rw[hb]at z;have e:=eq_of_beq hb;subst e;cases z;exact Zd
     |false=>rw[hb]at z;exact Zw _ (ih z)
   exact this q4
  have kf:=hfree _ q5 rfl;obtain⟨m0,hn0,hl0⟩:=id I.loc;obtain⟨u,r,lk⟩:=hl0 j x v q3 q2 (kf.elim (λz=>.inr (.inl z)) λz=>.inr (.inr z));refine⟨u,r,?_⟩;rcases lk with⟨z,_⟩ | ⟨_,c,hc,o,ho,hd⟩
  ·rcases kf with k | k
   ·rw[k]at z;cases z
   ·rw[k]at z;cases z
  ·obtain⟨c',hc'⟩:=inn q5;have e:=incl hc';rw[hc]at e;cases e;exact .inr ⟨oV q4,c,hc',o,hsb _ _ ho,hd⟩
 ·intro x c e;obtain⟨v,o,ho,hd⟩:=I.cell x c (incl e);exact⟨v,o,hsb _ _ ho,hd⟩
 ·intro x c e;exact I.freeC x c (incl e)
 ·intro p hp;cases hp
 ·show(inner js σ).length=N'.length;unfold inner;rw[Zq];exact u7 hjs
def PF(X:Cx)(ifs:List Expr)(t:TT):Prop :=
 ∀(pins:List (Addr×Obj)) (s:Shared) (σ:St) (H:Hp) (Q:Bool->Hp->Prop),Inv X pins σ H s->t σ H Q ->
  wpAny (model X.prog X.w) X.A (forIn ifs true λc r=>if r=true then do let ok <-isTrue c X.env (eval c X.env);pure (ForInStep.yield ok) else pure (ForInStep.yield r)) (TP X pins σ Q) X.xe s
def rO:TT:=λ_ H Q=>Q true H
theorem b9:PF X [] rO:=λ_ _ _ H _ I h=>wpAny_tests_nil ⟨H,I,h⟩
theorem lL{c:Expr}{t:TT}(h:PT X c t):PF X [c] t:=λpins s σ H Q I hw=>wpAny_tests_one (h pins s σ H Q I hw)
end
section
variable{prog:Program}{w:World}{A:Around}{E:Value->Shared->Prop}{R:Result->Shared->Prop}{s:Shared}
theorem BZ{elt target iter:Expr}{ifs:List Expr}{scope:Scope}{pos:Pos}{it acc:Value}{env:Env}(I:Nat->Shared->Prop)
  (turn:∀n s,I n s->wpAny (model prog w) A (pyNext it) (λr s₁=>match r with
   |none=>R (.ok .next) s₁
   |some v=>wpAny (model prog w) A (letOwnedTupleGo target it v) (λ_ s₀=>wpAny (model prog w) A (assign target env v) (λ_ s₂ =>
     wpAny (model prog w) A (forIn ifs true λc r=>if r=true then do let ok <-isTrue c env (eval c env);pure (ForInStep.yield ok) else pure (ForInStep.yield r)) (λok s₃ =>
      if ok=true then wpAny (model prog w) A (eval elt env) (λx s₄ =>
       wpAny (model prog w) A (call (.builtin "list.append") [acc,x]) (λ_ s₅=>∃m,m<n/\I m s₅) (λ_ _=>False) s₄) (λ_ _=>False) s₃
      else ∃m,m<n/\I m s₃) (λ_ _=>False) s₂) (λ_ _=>False) s₀) (λ_ _=>False) s₁) (λ_ _=>False) s)
  (n:Nat) (h:I n s) :
  codeAny (model prog w) A (.compLoop (.ListComp elt [⟨target,iter,ifs,0⟩] scope pos) 0 it acc env) R s:=by
 refine codeAny_loop rfl I (λn s hI=>?_) n h;show wpAny _ A ((compTurn (.ListComp elt [⟨target,iter,ifs,0⟩] scope pos) 0 it acc env).onRaise (λx=>do noteFrame x env;theTreesLotGoes x)) _ _ s;refine wpAny_noted ?_;rw[compTurn_list];refine ZZ (wpAny_standAt (ZZ (ZX (turn n s hI) (λr s₁ h₁=>?_) λ_ _ h'=>h'.elim)));cases r with
 |none=>exact ZY h₁
 |some v =>
  refine ZZ (ZX h₁ (λ_ s₀ h₀=>?_) λ_ _ h'=>h'.elim);refine ZZ (ZX h₀ (λ_ s₂ h₂=>ZZ (ZX h₂ (λok s₃ h₃=>?_) λ_ _ h'=>h'.elim)) λ_ _ h'=>h'.elim);cases ok with
  |false=>exact ZY ⟨rfl,h₃⟩
  |true =>
   exact ZZ (ZZ (ZX h₃ (λx s₄ h₄=>ZZ (ZX h₄ (λ_ s₅ h₅=>ZY (ZY ⟨rfl,h₅⟩)) λ_ _ h'=>h'.elim)) λ_ _ h'=>h'.elim))
end
section
variable{X:Cx}
def NG(js:List (Option Nat))(wi:TI)(g:TG)(tc:TT)(te:TE):TE:=λσ H Q=>wi σ H λJ H1=>∀D,H1 D=none->∃W:Nat->Nat->List V->Hp->Prop,(∃m,W 0 m [] (upd H1 D (.lst []))) /\
 ∀i m ys H,W i m ys H->(J.stop i H/\Q (.ref D) H)\/(J.go i H/\∃N:List V->Hp->Prop,(∀ys' H',N ys' H'->∃m',m' < m/\W (i+1) m' ys' H')/\∀x H',J.yld i H x H'->g x (inner js σ) H' λσ2 H2=>Fills (inner js σ) σ2/\tc σ2 H2 λb H3 =>
  if b=true then te σ2 H3 λy H4=>H4 D=some (.lst ys)/\ys.length<ZW/\N (ys++[y]) (upd H4 D (.lst (ys++[y]))) else N ys H3)
theorem vS{N':List Str}{js:List (Option Nat)}{scope:Scope}{target iter elt:Expr}{ifs:List Expr}{pos:Pos}{g:TG}{tc:TT}{te:TE}{pins:List (Addr×Obj)}{σ:St}{H:Hp}{s:Shared}{Q:VK}{E:Value->Shared->Prop}
  {RR:Value->Addr->Result->Shared->Prop}{it:Addr}{fp:List Addr}{tn:Nat->Heap->Prop}{J:It}(I:Inv X pins σ H s) (T:Turn X.prog X.w X.K target J fp it tn) (st:tn 0 s.heap) (f:∀b∈fp,kY X pins H b) (hc:X.calm=true)
  (q:∀D,H D=none->∃W:Nat->Nat->List V->Hp->Prop,(∃m,W 0 m [] (upd H D (.lst []))) /\
   ∀i m ys H,W i m ys H->(J.stop i H/\Q (.ref D) H)\/(J.go i H/\∃N:List V->Hp->Prop,(∀ys' H',N ys' H'->∃m',m' < m/\W (i+1) m' ys' H')/\∀x H',J.yld i H x H'->g x (inner js σ) H' λσ2 H2=>Fills (inner js σ) σ2/\tc σ2 H2 λb H3 =>
  if b=true then te σ2 H3 λy H4=>H4 D=some (.lst ys)/\ys.length<ZW/\N (ys++[y]) (upd H4 D (.lst (ys++[y]))) else N ys H3))
  (hg:∀cl C fp s H,PG (X.comp N' scope cl C fp s H) target g) (hf:∀cl C fp s H,PF (X.comp N' scope cl C fp s H) ifs tc) (he:∀cl C fp s H,PE (X.comp N' scope cl C fp s H) elt te)
  (hk:scope.kind=.function) (hcell:∀y∈scope.names,y.2≠.cell) (hfree:∀y∈scope.names,y.2=.free->X.env.kindOf y.1=some .cell\/X.env.kindOf y.1=some .free) (hjs:zJ X.N scope N' js=true)
  (hRR:∀D C H' s',Inv X pins σ H' s'->Q (.ref D) H'->(∃m,s'.heap.Ns C m)->H' C=none->C≠X.env.locals->X.s₀.heap.objs.size<=C->C∉X.fs->(∀x c,X.env.cells.lookup x=some c->c≠C)->(∀p∈X.pn++pins,p.1≠C) ->
   RR (.ref D) C (.ok .next) s') :
  wpAny (model X.prog X.w) X.A (newList []) (λacc s₃=>wpAny (model X.prog X.w) X.A (newFunctionEnv scope X.env.globals (fB X.env.cells scope.names []) [] X.env.qual none .none (some X.env)) (λcenv s₄ =>
   codeAny (model X.prog X.w) X.A (.compStart (.ListComp elt [⟨target,iter,ifs,0⟩] scope pos) 0 (.ref it) acc { cenv with scope:=relabel scope X.env }) (RR acc cenv.locals) s₄) E s₃) E s:=by
 refine wpAny_newObj_type (wpAny_newFunctionEnv hcell (by intro y hy;simp at hy) (λh₁ hns₁ hsb₁=>?_) hk);dsimp only at hns₁ hsb₁ ⊢;have I3:Inv X pins σ (upd H s.heap.objs.size (.lst [])) { s with heap:=s.heap.push { cls:=.type "list",dict:=none,data:=.seq ([]:List Value).toArray } }:=I.lnew (its:=[]) (ys:=[]) (t':=s.toks) .nil (Nat.zero_le _);obtain⟨W,⟨m0,w0⟩,turn⟩:=q s.heap.objs.size I.fresh;generalize hD:s.heap.objs.size=D at I3 turn w0 ⊢;have hsz:(s.heap.push { cls:=.type "list",dict:=none,data:=.seq ([]:List Value).toArray }).objs.size=D+1:=by rw[Heap.size_push,hD]
 have fpl:∀b∈fp,b<D:=λb hb=>by
  obtain⟨o,e,_⟩:=T.obj _ _ st b hb;rw[<-hD];exact Heap.lt_size e
 generalize hs3:({ s with heap:=s.heap.push { cls:=.type "list",dict:=none,data:=.seq ([]:List Value).toArray } }:Shared)=s3 at I3;have eh:s.heap.push { cls:=.type "list",dict:=none,data:=.seq ([]:List Value).toArray }=s3.heap:=by rw[<-hs3]
 rw[eh]at hns₁ hsb₁ hsz ⊢;have f3:∀b∈fp,kY X pins (upd H D (.lst [])) b:=λb hb=>⟨by rw[aL (Nat.ne_of_lt (fpl b hb))];exact(f b hb).1,(f b hb).2⟩
 have keep1:∀b o,s3.heap.get? b=some o->h₁.get? b=some o:=λb o e=>hsb₁.extBut b o (Nat.ne_of_lt (Heap.lt_size e)) (Heap.get?_push_of_some _ e);have I4:=KO (N':=N') (js:=js) (tk:=s.toks+([]:List (Str×Value)).length) I3 hk hcell hfree hjs f3 (λb hb=>by rw[hsz];exact YQ (fpl b hb)) hns₁ keep1;have es:({ s with heap:=h₁,toks:=s.toks+([]:List (Str×Value)).length }:Shared)={ s3 with heap:=h₁,toks:=s.toks+([]:List (Str×Value)).length }:=by rw[<-hs3]
 rw[show({ s with heap:=h₁,toks:=s.toks+([]:List (Str×Value)).length }:Shared)={ s3 with heap:=h₁,toks:=s.toks+([]:List (Str×Value)).length } from es];have st4:tn 0 h₁:=T.keep _ _ _ st λb hb o e=>keep1 b o (eh▸Heap.get?_push_of_some _ e);have hCne:s3.heap.objs.size≠X.env.locals:=Nat.ne_of_gt I3.lt;have loop:∀s4:Shared,tn 0 s4.heap->Inv (X.comp N' scope (fB X.env.cells scope.names []) s3.heap.objs.size fp s3 (upd H D (.lst []))) [] (inner js σ) (upd H D (.lst [])) s4 ->
   codeAny (model X.prog X.w) X.A (.compLoop (.ListComp elt [⟨target,iter,ifs,0⟩] scope pos) 0 (.ref it) (.ref D) (compEnvC scope (fB X.env.cells scope.names []) s3.heap.objs.size X.env)) (RR (.ref D) s3.heap.objs.size) s4:=by
  intro s4 st4 I4;generalize hX:X.comp N' scope (fB X.env.cells scope.names []) s3.heap.objs.size fp s3 (upd H D (.lst []))=X' at I4;have xprog:X'.prog=X.prog:=by rw[<-hX];rfl
  have stat:∀{H':Hp},(∀b∈fp,H' b=none)->∀b∈fp,kY X' [] H' b:=λhn b hb=>by
   rw[<-hX];refine⟨hn b hb,?_,?_,.inl hb,?_,λp hp=>nomatch hp⟩
   ·exact Nat.ne_of_lt (by show b<s3.heap.objs.size;rw[hsz];exact YQ (fpl b hb))
   ·exact λz=>(Zn.mp (I3.stkSub b z)).elim (f3 b hb).2.1 (f3 b hb).2.2.1
   ·intro x c e;rcases tK _ _ e with z | z
    ·simp at z
    ·exact(f3 b hb).2.2.2.2.1 x c z
  have hg':=hg (fB X.env.cells scope.names []) s3.heap.objs.size fp s3 (upd H D (.lst []));have hf':=hf (fB X.env.cells scope.names []) s3.heap.objs.size fp s3 (upd H D (.lst []));have he':=he (fB X.env.cells scope.names []) s3.heap.objs.size fp s3 (upd H D (.lst []));rw[hX]at hg' hf' he';have xA:X'.A=X.A:=by rw[<-hX];rfl
  have xw:X'.w=X.w:=by rw[<-hX];rfl
  have xK:X'.K=X.K:=by rw[<-hX];rfl
  have xc:X'.calm=true:=by rw[<-hX];exact hc
  have xe:X'.env=compEnvC scope (fB X.env.cells scope.names []) s3.heap.objs.size X.env:=by rw[<-hX];rfl
  have xx:X'.xe=λ_ _=>False:=by rw[<-hX];rfl
  have T':Turn X'.prog X'.w X'.K target J fp it tn:=by rw[xprog,xw,xK];exact T
  rw[<-xA,<-xw,<-xprog,<-xe];refine BZ (λn s'=>∃i ys H',Inv X' [] (inner js σ) H' s'/\tn i s'.heap/\(∀b∈fp,H' b=none)/\W i n ys H') ?_ m0 ⟨0,[],_,I4,st4,λb hb=>(f3 b hb).1,w0⟩;rintro n s5 ⟨i,ys,H5,I5,st5,fr5,w5⟩;rcases turn i n ys H5 w5 with⟨stop,q⟩ | ⟨go,N,hN,step⟩
  ·refine thn (T'.done X' rfl rfl rfl xc i [] s5 _ H5 _ I5 (stat fr5) st5 stop) λr s6 ⟨hr,I6⟩=>?_;subst hr;subst hX;have I7:Inv X pins σ H5 s6:=I3.call' (s':=s6) I6.os I6.base I6.hok I6.bare λb hb=>⟨(f3 b hb).2.2.2.1,(f3 b hb).2.1,(f3 b hb).2.2.2.2.1,(f3 b hb).2.2.2.2.2⟩
   obtain⟨m6,hn6,_⟩:=I6.loc;refine hRR D s3.heap.objs.size H5 s6 I7 q ⟨m6,hn6⟩ I6.free hCne I3.sz (I3.nofs (Nat.le_refl _)) (λx c e z=>?_) (λp hp z=>?_)
   ·obtain⟨v,y⟩:=I3.cell x c e;exact absurd (Yt y.lt (by rw[z];exact Nat.le_refl _)) (Nat.lt_irrefl _)
   ·exact absurd (Yt (Heap.lt_size (I3.pin p hp).1) (by rw[z];exact Nat.le_refl _)) (Nat.lt_irrefl _)
  ·refine thn (T'.item X' rfl rfl rfl xc i [] s5 _ H5 _ I5 (stat fr5) st5 go) λr s6 ⟨u,hr,h6⟩=>?_;subst hr;refine thn h6 λ_ s7 ⟨x,H7,I7,r7,y7,st7,fr7⟩=>?_;have I7':=I7.pinned (stat fr7) (T.obj _ _ st7);refine ZX (hg' _ s7 _ H7 x u _ I7' r7 (step x H7 y7)) (λ_ s8 ⟨σ8,H8,I8,fill8,q8⟩=>?_) (λ_ _ z=>by rw[xx]at z;exact z);refine ZX (hf' _ s8 σ8 H8 _ I8 q8) (λb s9 ⟨H9,I9,q9⟩=>?_) (λ_ _ z=>by rw[xx]at z;exact z);have again:∀{H':Hp}{s':Shared}{ys':List V},Inv X' ([]++uG fp s7.heap) σ8 H' s'->N ys' H'->∃m,m<n/\∃i ys H',Inv X' [] (inner js σ) H' s'/\tn i s'.heap/\(∀b∈fp,H' b=none)/\W i m ys H':=λ{H' s' ys'} I' n'=>by
    obtain⟨m',hm,w'⟩:=hN ys' H' n';refine⟨m',hm,i+1,ys',H',I'.unpinned.weak fill8.len fill8.at_,T.keep _ _ _ st7 λb hb o e=>(I'.pin (b,o) (List.mem_append_right _ (List.mem_append_right _ (kM hb e)))).1,λb hb=>?_,w'⟩;obtain⟨o,e,d⟩:=T.obj _ _ st7 b hb;exact(I'.pin (b,o) (List.mem_append_right _ (List.mem_append_right _ (kM hb e)))).2.1
   cases b with
   |false=>exact again I9 q9
   |true =>
    refine ZX (he' _ s9 σ8 H9 _ I9 q9) (λyv s10 ⟨y,H10,I10,ry,hD10,hz,q10⟩=>?_) (λ_ _ z=>by rw[xx]at z;exact z);refine ZX (bP (X:=X') _ s10 σ8 H10 (.ref D) [y] (.ref D) [yv] (λ_ H'=>H'=upd H10 D (.lst (ys++[y]))) I10 rfl (.cons ry .nil) ⟨D,ys,y,rfl,rfl,hD10,hz,rfl⟩) (λ_ s11 ⟨_,H11,I11,_,e11⟩=>?_) (λ_ _ z=>by rw[xx]at z;exact z);subst e11;exact again I11 q10
 have l4:=loop { s3 with heap:=h₁,toks:=s.toks+([]:List (Str×Value)).length } st4 I4;exact codeAny_compStart_list l4 (T.self _ 0 _ _ _ st4 l4)
theorem cG{N':List Str}{js:List (Option Nat)}{scope:Scope}{target iter elt:Expr}{ifs:List Expr}{pos:Pos}{wi:TI}{g:TG}{tc:TT}{te:TE}(hc:X.calm=true)(hi:PI X target iter wi)
  (hg:∀cl C fp s H,PG (X.comp N' scope cl C fp s H) target g) (hf:∀cl C fp s H,PF (X.comp N' scope cl C fp s H) ifs tc) (he:∀cl C fp s H,PE (X.comp N' scope cl C fp s H) elt te)
  (hk:scope.kind=.function:=by rfl) (hcell:(scope.names.all λy=>y.2 != .cell)=true:=by rfl) (hfree:(scope.names.all λy=>y.2 != .free||(X.env.kindOf y.1==some .cell||X.env.kindOf y.1==some .free))=true:=by rfl)
  (hnames:(scope.names.all λy=>y.2 != .local||scope.names.lookup y.1==some .local)=true:=by rfl) (hjs:zJ X.N scope N' js=true:=by rfl) (hs:∀x,foldedSetIterable iter X.env x=pure x:=by intro _;rfl) :
  PE X (.ListComp elt [⟨target,iter,ifs,0⟩] scope pos) (NG js wi g tc te):=by
 have hcell':∀y∈scope.names,y.2≠.cell:=λy hy z=>by have:=List.all_eq_true.mp hcell y hy;simp[z]at this
 have hfree':∀y∈scope.names,y.2=.free->X.env.kindOf y.1=some .cell\/X.env.kindOf y.1=some .free:=λy hy z=>by have:=List.all_eq_true.mp hfree y hy;simpa[z] using this
 have hnames':∀y∈scope.names,y.2=.local->scope.names.lookup y.1=some .local:=λy hy z=>by have:=List.all_eq_true.mp hnames y hy;simpa[z] using this
 intro pins s σ H Q I h;rw[eval_ListComp];refine wpAny_comprehension_free (use:=none) rfl hs (jJ λx hx z=>I.ok.has x.1 (hfree' x hx z)) hk hnames' ?_;refine thn (hi pins s σ H _ I h) λv s1 h1=>thn h1 λitv s2 h2=>?_;obtain⟨it,fp,tn,J,H2,e,I2,T,st2,f2,q2⟩:=h2;subst e;refine vS (RR:=λacc C=>compPost (model X.prog X.w) X.A X.xe none (EP X pins σ Q) acc C) I2 T st2 f2 hc q2 hg hf he hk hcell' hfree' hjs ?_;intro D C H' s' I' q ⟨m,hn⟩ c0 c1 c2 c3 c4 c5;exact⟨m,hn,λh' hs'=>⟨.ref D,H',I'.turned (t':=s'.toks) (λb o hb e=>(hs'.2 b hb).trans e) c0 c1 (.inr c2) c4 c5,rfl,q⟩⟩
theorem bU{N':List Str}{js:List (Option Nat)}{scope:Scope}{target iter elt:Expr}{ifs:List Expr}{pos pos' spos:Pos}{x:Str}{i:Nat}{wi:TI}{g:TG}{tc:TT}{te:TE}(hN:X.N.Nodup)(hi':X.N[i]?=some x)(hx:Loc X.env.scope x)(hc:X.calm=true)(hi:PI X target iter wi)
  (hg:∀cl C fp s H,PG (X.comp N' scope cl C fp s H) target g) (hf:∀cl C fp s H,PF (X.comp N' scope cl C fp s H) ifs tc) (he:∀cl C fp s H,PE (X.comp N' scope cl C fp s H) elt te)
  (hsw:swapsWith (.ListComp elt [⟨target,iter,ifs,0⟩] scope pos) (some (.Name x pos')) spos.line X.env=pure true:=by rfl)
  (hk:scope.kind=.function:=by rfl) (hcell:(scope.names.all λy=>y.2 != .cell)=true:=by rfl) (hfree:(scope.names.all λy=>y.2 != .free||(X.env.kindOf y.1==some .cell||X.env.kindOf y.1==some .free))=true:=by rfl)
  (hnames:(scope.names.all λy=>y.2 != .local||scope.names.lookup y.1==some .local)=true:=by rfl) (hjs:zJ X.N scope N' js=true:=by rfl) (hs:∀x,foldedSetIterable iter X.env x=pure x:=by intro _;rfl)
  (hfn:X.fn x=true\/X.env.scope.names.lookup x=some .local:=by first | exact .inl rfl | exact .inr rfl | assumption) :
  PS X (.Assign [.Name x pos'] (.ListComp elt [⟨target,iter,ifs,0⟩] scope pos) spos) (K5 (NG js wi g tc te) (dR i)):=by
 have hcell':∀y∈scope.names,y.2≠.cell:=λy hy z=>by have:=List.all_eq_true.mp hcell y hy;simp[z]at this
 have hfree':∀y∈scope.names,y.2=.free->X.env.kindOf y.1=some .cell\/X.env.kindOf y.1=some .free:=λy hy z=>by have:=List.all_eq_true.mp hfree y hy;simpa[z] using this
 have hnames':∀y∈scope.names,y.2=.local->scope.names.lookup y.1=some .local:=λy hy z=>by have:=List.all_eq_true.mp hnames y hy;simpa[z] using this
 intro pins s σ H D I h;rw[exec_Assign_Name_used _ _ _ _ hsw];refine ZZ (wpAny_standAt (ZZ ?_));show wpAny _ X.A (do let _ <-comprehension (.ListComp elt [⟨target,iter,ifs,0⟩] scope pos) scope X.env _ (newList []) false (eval iter X.env) (some (assign (.Name x pos') X.env))) _ _ s;refine ZZ (ZX (wpAny_comprehension_free (use:=some (assign (.Name x pos') X.env)) (Q:=λ_ s'=>SP X pins D .next s') rfl hs (jJ λx hx z=>I.ok.has x.1 (hfree' x hx z)) hk hnames' ?_) (λ_ s' hq=>ZY (ZY hq)) λ_ _ e=>e);refine thn (hi pins s σ H _ I h) λv s1 h1=>thn h1 λitv s2 h2=>?_;obtain⟨it,fp,tn,J,H2,e,I2,T,st2,f2,q2⟩:=h2;subst e;refine vS (Q:=λx H1=>dR i x σ H1 D.nx) (RR:=λacc C=>compPost (model X.prog X.w) X.A X.xe (some (assign (.Name x pos') X.env)) (λ_ s'=>SP X pins D .next s') acc C) I2 T st2 f2 hc q2 hg hf he hk hcell' hfree' hjs ?_;intro D' C H' s' I' q ⟨m,hn⟩ c0 c1 c2 c3 c4 c5;obtain⟨oC,es,ep,hoC,hdC,rC⟩:=id hn;have I'':Inv X (pins++[(C,oC)]) σ H' s':=I'.pins_of λp hp=>(Zf.mp hp).elim (λz=>I'.pin p (List.mem_append_right _ z)) λz=>by
  have e:=Zb.mp z;subst e;exact⟨hoC,c0,c1,c3,λv z=>by rw[hdC]at z;cases z⟩
 show wpAny _ X.A (assign (.Name x pos') X.env (.ref D')) _ _ _;refine wpAny_assign_Name (k7 I'' hN hi' hx (v:=.ref D') rfl (λs3 I3=>?_) hfn);have hC3:=I3.pin (C,oC) (List.mem_append_right _ (List.mem_append_right _ (Zb.mpr rfl)));refine⟨m,⟨oC,es,ep,hC3.1,hdC,rC⟩,λh' hs'=>?_⟩;exact⟨_,H',I3.unpinned.turned (t':=s3.toks) (λb o hb e=>(hs'.2 b hb).trans e) c0 c1 (.inr c2) c4 c5,q⟩
end
theorem zN{J:It}{js:List (Option Nat)}{σ:St}{H1:Hp}{R:Hp->Prop}{D:Addr}{g:TG}{tc:TT}{te:TE}(n:Nat)(Pv:Nat->List V->Hp->Prop)(h0:Pv 0 [] (upd H1 D (.lst [])))
  (hs:∀i ys H,i<n->Pv i ys H->J.go i H/\∀x H',J.yld i H x H'->g x (inner js σ) H' λσ2 H2=>Fills (inner js σ) σ2/\tc σ2 H2 λb H3 =>
   if b=true then te σ2 H3 λy H4=>H4 D=some (.lst ys)/\ys.length<ZW/\Pv (i+1) (ys++[y]) (upd H4 D (.lst (ys++[y]))) else Pv (i+1) ys H3)
  (hd:∀ys H,Pv n ys H->J.stop n H/\R H) :
  ∃W:Nat->Nat->List V->Hp->Prop,(∃m,W 0 m [] (upd H1 D (.lst []))) /\
   ∀i m ys H,W i m ys H->(J.stop i H/\R H)\/(J.go i H/\∃N:List V->Hp->Prop,(∀ys' H',N ys' H'->∃m',m' < m/\W (i+1) m' ys' H')/\∀x H',J.yld i H x H'->g x (inner js σ) H' λσ2 H2=>Fills (inner js σ) σ2/\tc σ2 H2 λb H3 =>
    if b=true then te σ2 H3 λy H4=>H4 D=some (.lst ys)/\ys.length<ZW/\N (ys++[y]) (upd H4 D (.lst (ys++[y]))) else N ys H3):=by
 refine⟨λi m ys H=>m=n-i/\i<=n/\Pv i ys H,⟨n,by simp,Nat.zero_le _,h0⟩,?_⟩;rintro i m ys H ⟨rfl,hi,p⟩;by_cases hlt:i<n
 ·obtain⟨go,step⟩:=hs i ys H hlt p;exact .inr ⟨go,Pv (i+1),λys' H' p'=>⟨n-(i+1),by omega,rfl,hlt,p'⟩,step⟩
 ·have e:i=n:=by lia
  subst e;exact .inl (hd ys H p)
theorem comp_map{J:It}{js:List (Option Nat)}{σ:St}{H1:Hp}{R:Hp->Prop}{D:Addr}{g:TG}{te:TE}(n:Nat)(Pv:Nat->List V->Hp->Prop)(h0:Pv 0 [] (upd H1 D (.lst [])))
  (hs:∀i ys H,i<n->Pv i ys H->J.go i H/\∀x H',J.yld i H x H'->g x (inner js σ) H' λσ2 H2=>Fills (inner js σ) σ2/\te σ2 H2 λy H4=>H4 D=some (.lst ys)/\ys.length<ZW/\Pv (i+1) (ys++[y]) (upd H4 D (.lst (ys++[y]))))
  (hd:∀ys H,Pv n ys H->J.stop n H/\R H) :
  ∃W:Nat->Nat->List V->Hp->Prop,(∃m,W 0 m [] (upd H1 D (.lst []))) /\
   ∀i m ys H,W i m ys H->(J.stop i H/\R H)\/(J.go i H/\∃N:List V->Hp->Prop,(∀ys' H',N ys' H'->∃m',m' < m/\W (i+1) m' ys' H')/\∀x H',J.yld i H x H'->g x (inner js σ) H' λσ2 H2=>Fills (inner js σ) σ2/\rO σ2 H2 λb H3 =>
    if b=true then te σ2 H3 λy H4=>H4 D=some (.lst ys)/\ys.length<ZW/\N (ys++[y]) (upd H4 D (.lst (ys++[y]))) else N ys H3):=by
 refine zN n Pv h0 ?_ hd;simp only[rO,if_true];exact hs
end L2
set_option Elab.async false
set_option linter.all false
set_option maxRecDepth 100000
set_option maxHeartbeats 4000000
namespace L2
open PySem PySem.Spec PyProof.Rows
section
variable{X:Cx}{tg:Expr}
end
section
variable{X:Cx}{pins:List (Addr×Obj)}{σ:St}{H:Hp}{s:Shared}{h':Heap}
theorem Inv.turnedNew{t':Nat}{ch:List Addr}{T:Addr}{o:HO}(I:Inv X pins σ H s)(k:∀b u,b∉ch->s.heap.get? b=some u->h'.get? b=some u)(there:∀b u,s.heap.get? b=some u->∃u',h'.get? b=some u')(hT:s.heap.objs.size<=T)
  (hf:∀b∈ch,kY X pins H b) (new:cH X.prog X.w (upd H T o) h' T o):Inv X pins σ (upd H T o) { s with heap:=h',toks:=t' }:=by
 have hn:=I.hok.fresh hT;have nit:∀b u,H b=some u->b∉ch:=λb u e z=>by rw[(hf b z).1]at e;cases e
 refine I.step (g':=s.gens) (d':=s.drawn) (ch:=ch) (λb hb=>?_) (λb o _ _ hc e _=>k b o hc e) (λb o _ _ hc e _=>⟨o.slots,k b o hc e⟩) (λb u hc e n=>?_) (λb u hc e=>there b u e)
  (λb xs e=>?_) (λb ob u e=>?_) (λb ps e=>⟨#[],?_⟩) (λm hm=>?_) (λb u e=>?_) I.bare
 ·exact⟨(hf b hb).2.2.2.1,(hf b hb).2.1,(hf b hb).2.2.2.2.1,(hf b hb).2.2.2.2.2⟩
 ·rw[aL (Nat.ne_of_lt (Yt (Heap.lt_size e) hT))];exact n
 ·rw[aL (aP e hn)];exact e
 ·rw[aL (aP e hn)];exact e
 ·rw[aL (aP e hn),e];simp
 ·obtain⟨ob,es,ep,ho,r⟩:=hm;exact⟨ob,es,ep,k _ ob (λz=>(hf _ z).2.1 rfl) ho,r⟩
 ·by_cases hb:b=T
  ·subst hb;rw[aE]at e;cases e;exact new
  ·rw[aL hb]at e;refine(I.hok b u e).stay (λc v hc q=>k c v ?_ q) (λc q=>by rw[aL (aP q hn)];exact q) λc xs q=>by rw[aL (aP q hn)];exact q
   rcases hc with z | z
   ·rw[z];exact nit b u e
   ·exact nit c _ z
end
def Ite(K:PySem.W.Frag)(a:Addr):It :=
 ⟨λi H=>∃xs x,SqL K H a xs/\xs[i]?=some x,λi H v H'=>∃T x,v=.ref T/\H T=none/\H'=upd H T (.tup [.int i,x])/\∀xs,SqL K H a xs->xs[i]?=some x,λi H=>∃xs,SqL K H a xs/\xs.length<=i⟩
theorem FU{P:Program}{w:World}{K:PySem.W.Frag}{elts:List Expr}{k:Nat}{pos:Pos}(a e it:Addr)(hei:e≠it):Turn P w K (.Tuple elts k pos) (Ite K a) [e,it] e (λi h=>(∃old,IsEnum h e it i old)/\h.IsListIter it a i) where
 mem:=by simp
 obj:=λi h st b hb=>by
  obtain⟨⟨old,he⟩,o,ho,hc,hd⟩:=st;rcases Zn.mp hb with rfl | hb
  ·exact⟨_,he,λv z=>by
    have z':Data.fields _=Data.cell v:=z;cases z'⟩
  ·have e':=Zb.mp hb;subst e';exact⟨o,ho,λv z=>by rw[hd]at z;cases z⟩
 keep:=λi h h' st k=>by
  obtain⟨⟨old,he⟩,hit⟩:=st;exact⟨⟨old,k e (by simp) _ he⟩,hit.at λo x=>k it (by simp) o x⟩
 item:=by
  intro X hP hw hK hc i pins s σ H E I hf st hg;subst hP hw hK;obtain⟨⟨old,he⟩,hit⟩:=st;obtain⟨xs,x,hq,hx⟩:=hg;obtain⟨its,rv,pl,hz⟩:=I.list hq;obtain⟨u,hu,ru⟩:=rv.get hx;have hux:its.toArray[i]?=some u:=by simpa using hu
  refine wpAny_pyNext_enum_item he hit pl.isList hux hei λh' ho hit' hT hsz hk=>?_;refine⟨_,rfl,?_⟩;have kk:∀b v,b∉[e,it]->s.heap.get? b=some v->h'.get? b=some v:=λb v hb q=>hk b v (λz=>hb (by simp[z])) (λz=>hb (by simp[z])) q;have th:∀b v,s.heap.get? b=some v->∃v',h'.get? b=some v':=λb v q=>by
   by_cases h1:b=e
   ·subst h1;exact⟨_,ho⟩
   ·by_cases h2:b=it
    ·subst h2;obtain⟨o,q1,_⟩:=hit';exact⟨_,q1⟩
    ·exact⟨v,hk b v h1 h2 q⟩
  have I1:Inv X pins σ (upd H s.heap.objs.size (.tup [.int i,x])) { s with heap:=h',toks:=s.toks+1 } :=
   I.turnedNew (ch:=[e,it]) kk th (Nat.le_refl _) hf ⟨by show 2<=ZW;decide,[.int i s.toks,u],.cons ⟨_,rfl⟩ (.cons ru .nil),⟨_,hT,rfl,_,rfl⟩⟩
  refine wpAny_letOwnedTupleGo_enum ho λh2 he2 hs2=>?_;have fe:=hf e (by simp);have fi:=hf it (by simp);have hTe:e≠s.heap.objs.size:=Nat.ne_of_lt (Heap.lt_size he);have hTi:it≠s.heap.objs.size:=by obtain⟨o,q1,_⟩:=hit;exact Nat.ne_of_lt (Heap.lt_size q1)
  have I2:Inv X pins σ (upd H s.heap.objs.size (.tup [.int i,x])) { s with heap:=h2,toks:=s.toks+1 } :=
   Inv.turned (s:={ s with heap:=h',toks:=s.toks+1 }) (h':=h2) (t':=s.toks+1) (it:=e) I1 (λb o hb q=>(hs2.2 b hb).trans q) (by rw[aL hTe];exact fe.1) fe.2.1 fe.2.2.2.1 fe.2.2.2.2.1 fe.2.2.2.2.2
  refine⟨.ref s.heap.objs.size,_,I2,rfl,⟨s.heap.objs.size,x,rfl,I.fresh,rfl,λys hys=>by rw[I.list_inj hys hq];exact hx⟩,⟨⟨_,by simpa using he2⟩,hit'.at λo q=>(hs2.2 it hei.symm).trans q⟩,λb hb=>?_⟩;rcases Zn.mp hb with rfl | hb
  ·rw[aL hTe];exact fe.1
  ·have e':=Zb.mp hb;subst e';rw[aL hTi];exact fi.1
 done:=by
  intro X hP hw hK hc i pins s σ H E I hf st hg;subst hP hw hK;obtain⟨⟨old,he⟩,hit⟩:=st;obtain⟨xs,hq,hl⟩:=hg;obtain⟨its,rv,pl,hz⟩:=I.list hq;have hlen:=rv.length;obtain⟨f0,f1,f2,f3,f4,f5⟩:=hf it (by simp);refine wpAny_pyNext_enum_end (I.ok.hd hc) he hit pl.isList (by simp;lia) λh' eb=>⟨rfl,?_⟩
  exact I.turned (t':=s.toks) (λb o hb q=>eb b o hb q) f0 f1 f3 f4 f5
 self:=λ_ _ _ _ _ st h=>by
  obtain⟨⟨old,he⟩,_⟩:=st;exact wpAny_pyIter_enum he h
section
variable{X:Cx}
def RZ(K:PySem.W.Frag)(ta:TA):TI:=λσ H R=>ta σ H λvs H1=>∃a,vs=[.ref a]/\(∃xs,SqL K H1 a xs)/\R (Ite K a) H1
theorem oX{a:Expr}{ta:TA}{p pos:Pos}{elts:List Expr}{k:Nat}{tpos:Pos}(hg:Gl X "enumerate")(hm:X.mg "enumerate" = none)(ha:PA X [a] ta)(hs:starEach [a] X.env=[(false,eval a X.env)]:=by rfl) :
  PI X (.Tuple elts k tpos) (.Call (.Name "enumerate" p) [a] [] pos) (RZ X.K ta):=by
 intro pins s σ H R I h;refine Call_ (nT I hg hm (show bootBuiltins "enumerate" = some (.type "enumerate") by decide +kernel) (PyProof.Rows.callWith_type1 (thn (ha pos pins s σ H _ I h) λus s1 ⟨vs,H1,I1,r1,q1⟩=>?_) hs rfl));obtain⟨l,e,⟨xs,hq⟩,q⟩:=q1;subst e;cases r1 with
 |cons r rr =>
  cases rr;cases r;obtain⟨its,rv,pl,hz⟩:=I1.list hq;refine call_enumerate_list pl.isList λh' he hit hsz hk=>?_;refine wpAny_pyIter_enum he ?_;have I2:Inv X pins σ H1 { s1 with heap:=h' }:=I1.kept (t':=s1.toks) hk;refine⟨s1.heap.objs.size+1,[s1.heap.objs.size+1,s1.heap.objs.size],_,_,H1,rfl,I2,FU l _ _ (Nat.succ_ne_self _),⟨⟨_,by simpa using he⟩,hit⟩,λb hb=>?_,q⟩;rcases Zn.mp hb with rfl | hb
  ·exact I1.fpOk (Nat.le_succ _) (I1.hok.fresh (Nat.le_succ _))
  ·have e':=Zb.mp hb;subst e';exact I1.fpOk (Nat.le_refl _) (I1.hok.fresh (Nat.le_refl _))
end
mutual
inductive Bd(K:PySem.W.Frag)(H:Hp):V->PyData->Prop
 |int (i:Int):Bd K H (.int i) (.int i)
 |non:Bd K H .non .none
 |bl (b:Bool):Bd K H (.bl b) (.bool b)
 |lst {a:Addr}{xs:List V}{ds:List PyData}:SqL K H a xs->Bds K H xs ds->Bd K H (.ref a) (.list ds)
 |tup {a:Addr}{xs:List V}{ds:List PyData}:SqT K H a xs->Bds K H xs ds->Bd K H (.ref a) (.tuple ds)
inductive Bds(K:PySem.W.Frag)(H:Hp):List V->List PyData->Prop
 |nil:Bds K H [] []
 |cons {x:V}{xs:List V}{d:PyData}{ds:List PyData}:Bd K H x d->Bds K H xs ds->Bds K H (x::xs) (d::ds)
end
theorem Bds.ints{K:PySem.W.Frag}{H:Hp}:∀ns:List Int,Bds K H (ns.map V.int) (ns.map PyData.int)
 |[]=>.nil
 |n::ns=>.cons (.int n) (Bds.ints ns)
section
variable{X:Cx}{pins:List (Addr×Obj)}{σ:St}{H:Hp}{s:Shared}
mutual
theorem Bd.reads(I:Inv X pins σ H s):∀{x:V}{d:PyData}{u:Value},Bd X.K H x d->RelV x u->∃as,Reads s.heap u d as
 |_,_,u,.int i,r=>by obtain⟨t,rfl⟩:=r;exact⟨_,.int i t⟩
 |_,_,u,.non,r=>by cases r;exact⟨_,.none⟩
 |_,_,u,.bl b,r=>by cases r;exact⟨_,.bool b⟩
 |_,_,u,.lst hq b,r=>by
  cases r;obtain⟨its,rv,⟨o,n,e,hc,_,hd⟩,hz⟩:=I.list hq;obtain⟨as,h⟩:=Bds.reads I b rv;exact⟨_,.list e hc hd (by simpa using h)⟩
 |_,_,u,.tup hq b,r=>by
  cases r;obtain⟨its,rv,⟨o,e,hc,n,hd⟩,hz⟩:=I.tuple hq;obtain⟨as,h⟩:=Bds.reads I b rv;exact⟨_,.tuple e hc hd (by simpa using h)⟩
theorem Bds.reads(I:Inv X pins σ H s):∀{xs:List V}{ds:List PyData}{us:List Value},Bds X.K H xs ds->bI xs us->∃as,ReadsAll s.heap us ds as
 |_,_,_,.nil,r=>by cases r;exact⟨_,.nil⟩
 |_,_,_,.cons b bs,r=>by
  cases r with
  |cons r rr =>
   obtain⟨as,h⟩:=Bd.reads I b r;obtain⟨bs',h'⟩:=Bds.reads I bs rr;exact⟨_,.cons h h'⟩
end
end
section
variable{X:Cx}
def O3(K:PySem.W.Frag)(neg:Bool):R2:=λx y H Q=>∃dx dy,Bd K H x dx/\Bd K H y dy/\SeqAt.shaped dx=true/\SeqAt.shaped dy=true/\Q (.bl (PyData.eqv dx dy ^^ neg)) H
theorem nQ(hu:X.A.units+64<cLine):OpR X (compareOp .Eq) (O3 X.K false):=by
 intro pins s σ H x y v u Q I rx ry h;obtain⟨dx,dy,bx,b_y,sx,sy,q⟩:=h;obtain⟨as,r1⟩:=bx.reads I rx;obtain⟨bs,r2⟩:=b_y.reads I ry;exact eq_dataH r1 r2 sx sy hu ⟨.bl _,H,I,rfl,by simpa using q⟩
theorem kJ(hu:X.A.units+64<cLine):OpR X (compareOp .NotEq) (O3 X.K true):=by
 intro pins s σ H x y v u Q I rx ry h;obtain⟨dx,dy,bx,b_y,sx,sy,q⟩:=h;obtain⟨as,r1⟩:=bx.reads I rx;obtain⟨bs,r2⟩:=b_y.reads I ry;exact ne_dataH r1 r2 sx sy hu ⟨.bl _,H,I,rfl,by simpa using q⟩
end
section
variable{X:Cx}
def ET(H:Hp):V->String->Prop
 |.non,T=>T="NoneType"
 |.bl _,T=>T="bool"
 |.int _,T=>T="int"
 |.ref a,T=>(T="list"/\∃xs,H a=some (.lst xs))\/(T="tuple"/\∃xs,H a=some (.tup xs))
 |_,_=>False
theorem ET.ty{K:PySem.W.Frag}{H:Hp}{x:V}{T:String}(h:ET H x T):rK K H x (.type T):=by
 cases x with
 |non=>cases (show T="NoneType" from h);exact .non
 |bl b=>cases (show T="bool" from h);exact .bl b
 |int i=>cases (show T="int" from h);exact .int i
 |ref a =>
  rcases h with⟨rfl,xs,e⟩ | ⟨rfl,xs,e⟩
  ·exact .lst e
  ·exact .tup e
 |_=>exact False.elim h
def isT(T c:String):Bool:=T==c||(T=="bool"&&c=="int")
theorem MT{H:Hp}{x:V}{T:String}(h:ET H x T):T="NoneType"\/T="bool"\/T="int"\/T="list"\/T="tuple":=by
 cases x with
 |non=>exact .inl h
 |bl b=>exact .inr (.inl h)
 |int i=>exact .inr (.inr (.inl h))
 |ref a =>
  rcases h with⟨rfl,xs,e⟩ | ⟨rfl,xs,e⟩
  ·exact .inr (.inr (.inr (.inl rfl)))
  ·exact .inr (.inr (.inr (.inr rfl)))
 |_=>exact False.elim h
theorem RW{K:PySem.W.Frag}{T n:String}(hT:T="NoneType"\/T="bool"\/T="int"\/T="list"\/T="tuple")(hn:n="list"\/n="tuple"\/n="int"\/n="bool"):PySem.W.kitOne K (.type T) (.type n)=some (isT T n):=by
 rcases hT with rfl | rfl | rfl | rfl | rfl<;>rcases hn with rfl | rfl | rfl | rfl<;>first | rfl | decide
def S7(H0:Unit):List V->Hp->VK->Prop:=λxs H Q=>∃x T n,xs=[x,.ty n]/\ET H x T/\(n="list"\/n="tuple"\/n="int"\/n="bool")/\Q (.bl (isT T n)) H
theorem KQ:dG X (.builtin "isinstance") (S7 ()):=by
 intro pins s σ H xs us Q I r h;obtain⟨x,T,n,rfl,k,hn,q⟩:=h;obtain⟨u,v,rfl,ru,rv⟩:=vals2 r;cases (show v=Value.type n from rv);exact GP I ru k.ty (RW (MT k) hn) λtk=>⟨.bl _,H,I.tok tk,rfl,q⟩
end
end L2
namespace L2
open PySem PySem.Spec PyProof.Rows
theorem cR{c:Bool}{A B:Prop}(hc:c=false)(h:B):if c=true then A else B:=by subst hc;exact mP h
theorem eJ{c:Bool}{A B:Prop}(hc:c=true)(h:A):if c=true then A else B:=by subst hc;exact iS h
theorem aG{H:Hp}{p:Addr}(h:H p=none)(o:HO):aW H (upd H p o):=λb u q=>by rw[aL (aP q h)];exact q
section
variable{X:Cx}{K:PySem.W.Frag}
theorem dC(h:X.K=K):IxR X (O0 K):=by subst h;exact bA
theorem jB(h:X.K=K):IxR X (OZ K):=by subst h;exact aT
theorem GM(h:X.K=K):OpR X (compareOp .NotIn) (rIn K true):=by subst h;exact zD
theorem pG{es:List Expr}{k:Nat}{t:TGs}{n:Nat}{pos:Pos}(e:X.K=K)(hc:X.calm=true)(h:PGs X es t)
  (hn:(assignEach es X.env).length=n:=by rfl) (hst:(assignEach es X.env).findIdx? (·.1)=none:=by rfl):PG X (.Tuple es k pos) (R1 K n t):=by subst e;exact fU hc h hn hst
end
end L2
namespace MM
def oth(e:Nat):Nat:=if e%2=0 then e+1 else e-1
theorem jG{n e:Nat}(h:e<2*n):oth e<2*n:=by unfold oth;split<;>omega
theorem uL(e:Nat):oth e / 2=e / 2:=by unfold oth;split<;>lia
theorem EI(e:Nat):oth e%2=1-e%2:=by unfold oth;split<;>lia
theorem J2{a b:Nat}(h1:a / 2=b / 2)(h2:a%2=b%2):a=b:=by rw[<-Nat.div_add_mod a 2,<-Nat.div_add_mod b 2,h1,h2]
theorem EH(e:Nat):oth (oth e)=e:=J2 (by rw[uL,uL]) (by rw[EI,EI];exact Nat.sub_sub_self (Nat.le_of_lt_succ (Nat.mod_lt e (Nat.zero_lt_succ 1))))
theorem L8{a b:Nat}(h:oth a=oth b):a=b:=by rw[<-EH a,<-EH b,h]
theorem lQ:∀(N:Nat) (l:List Nat),l.Nodup->(∀x∈l,x<N)->l.length<=N
 |0,[],_,_=>Nat.le_refl _
 |0,x::_,_,h=>absurd (h x Zd) (Nat.not_lt_zero _)
 |N+1,l,nd,h=>by
  have ih:=lQ N (l.erase N) (nd.erase N) (λx hx=>by
   have h1:=(nd.mem_erase_iff).mp hx;have h2:=h x h1.2
   lia)
  have hl:=List.length_erase (a:=N) (l:=l);split at hl<;>lia
def iter(f:Nat->Nat):Nat->Nat->Nat
 |0,e=>e
 |n+1,e=>f (iter f n e)
structure iT(f:Nat->Nat)(N:Nat):Prop where
 lt:∀e,e<N->f e<N
 inj:∀a b,a<N->b<N->f a=f b->a=b
theorem kP{f:Nat->Nat}{N:Nat}(m:iT f N){e:Nat}(h:e<N):∀k,iter f k e<N
 |0=>h
 |k+1=>m.lt _ (kP m h k)
theorem jT(f:Nat->Nat)(e:Nat)(i:Nat):∀k,iter f (i+k) e=iter f k (iter f i e)
 |0=>rfl
 |k+1=>by show f (iter f (i+k) e)=f (iter f k (iter f i e));rw[jT f e i k]
theorem BF{f:Nat->Nat}{N:Nat}(m:iT f N){a b:Nat}(ha:a<N)(hb:b<N):∀k,iter f k a=iter f k b->a=b
 |0,h=>h
 |k+1,h=>BF m ha hb k (m.inj _ _ (kP m ha k) (kP m hb k) h)
def path(f:Nat->Nat)(e k:Nat):List Nat:=(List.range k).map λi=>iter f i e
theorem lN(f:Nat->Nat)(e k:Nat):(path f e k).length=k:=by unfold path;simp
theorem qS(f:Nat->Nat)(e k:Nat):path f e (k+1)=path f e k++[iter f k e]:=by unfold path;rw[List.range_succ,Zt];rfl
theorem uT{f:Nat->Nat}{e k x:Nat}:x∈path f e k↔∃i,i<k/\iter f i e=x:=by
 unfold path;simp[Zh,Zs]
theorem nP{f:Nat->Nat}{N:Nat}(m:iT f N){e:Nat}(he:e<N):∀k,(∀j,0<j->j<k->iter f j e≠e)->(path f e k).Nodup
 |0,_=>List.nodup_nil
 |k+1,h=>by
  rw[qS];have ih:=nP m he k (λj h0 h1=>h j h0 (by lia));rw[List.nodup_append];refine⟨ih,by simp,?_⟩;intro a ha b hb e1;have hb':b=iter f k e:=by simpa using hb
  obtain⟨i,hi,rfl⟩:=uT.mp ha;have q:iter f i e=iter f k e:=e1.trans hb';have hk:k=(k-i)+i:=by lia
  have q2:iter f i e=iter f i (iter f (k-i) e):=by
   rw[<-jT,Nat.sub_add_cancel (Nat.le_of_lt hi)];exact q
  have q3:=BF m he (kP m he _) i q2;exact h (k-i) (by lia) (by lia) q3.symm
theorem EG{f:Nat->Nat}{N:Nat}(m:iT f N){e:Nat}(he:e<N)(k:Nat):∀x∈path f e k,x<N:=λx hx=>by
 obtain⟨i,_,rfl⟩:=uT.mp hx;exact kP m he i
theorem B0{f:Nat->Nat}{N:Nat}(m:iT f N){e:Nat}(he:e<N):∃k,0<k/\k<=N/\iter f k e=e:=by
 refine ZT λh=>?_;have no:∀j,0<j->j<N+1->iter f j e≠e:=λj h0 h1 q=>h ⟨j,h0,by lia,q⟩;have nd:=nP m he (N+1) no;have b:=lQ N _ nd (EG m he _);rw[lN]at b
 lia
def qD(f:Nat->Nat)(e k:Nat):Prop:=0<k/\iter f k e=e/\∀j,0<j->j<k->iter f j e≠e
theorem IJ{f:Nat->Nat}{N:Nat}(m:iT f N){e:Nat}(he:e<N):∃k,qD f e k/\k<=N:=by
 obtain⟨k,h0,h1,h2⟩:=B0 m he;have:∀n k,k<=n->0<k->iter f k e=e->∃k',qD f e k'/\k'<=k:=by
  intro n;induction n with
  |zero=>intro k h1 h2;lia
  |succ n ih =>
   intro k h1 h2 h3;by_cases q:∃j,0<j/\j<k/\iter f j e=e
   ·obtain⟨j,j0,j1,j2⟩:=q;obtain⟨k',r,l⟩:=ih j (by lia) j0 j2;exact⟨k',r,by lia⟩
   ·exact⟨k,⟨h2,h3,λj j0 j1 j2=>q ⟨j,j0,j1,j2⟩⟩,Nat.le_refl _⟩
 obtain⟨k',r,l⟩:=this k k (Nat.le_refl _) h0 h2;exact⟨k',r,by lia⟩
theorem CS{f:Nat->Nat}{e k k':Nat}(a:qD f e k)(b:qD f e k'):k=k':=by
 rcases Nat.lt_trichotomy k k' with h | h | h
 ·exact absurd a.2.1 (b.2.2 k a.1 h)
 ·exact h
 ·exact absurd b.2.1 (a.2.2 k' b.1 h)
theorem uD{f:Nat->Nat}{e k j:Nat}(r:qD f e k)(h0:0<j)(hj:j<=k)(h:iter f j e≠e):j<k:=by
 rcases Xq j k with q | q
 ·exact q
 ·have:j=k:=by lia
  subst this;exact absurd r.2.1 h
abbrev aY:=List (Nat×Nat)
abbrev dM:=List (List Nat)
def place(ts:aY)(e:Nat):Nat:=if e%2=0 then (ts.getD (e / 2) (0,0)).1 else (ts.getD (e / 2) (0,0)).2
def row(os:dM)(p:Nat):List Nat:=os.getD p []
structure SK(pl:Nat->Nat)(M:Nat)(os:dM):Prop where
 ends:∀p e,e∈row os p->e<M/\pl e=p
 has:∀e,e<M->pl e<os.length/\e∈row os (pl e)
 nd:∀p,(row os p).Nodup
 full:∀p,p<os.length->row os p≠[]
 four:∀p,(row os p).length<=4
structure Good(ts:aY)(os:dM):Prop where
 g:SK (place ts) (2*ts.length) os
 one:1<=ts.length
def lK(l:List Nat)(x:Nat):Nat:=l.getD ((l.idxOf x+l.length-1)%l.length) 0
theorem CV{l:List Nat}{x:Nat}(h:x∈l):lK l x∈l:=by
 have h1:=List.idxOf_lt_length_of_mem h;have h2:(l.idxOf x+l.length-1)%l.length<l.length:=Nat.mod_lt _ (by lia);unfold lK;simp only[List.getD,Zz h2,Option.getD_some];exact Zp h2
theorem LW{i j n:Nat}(hi:i<n)(hj:j<n)(h:(i+n-1)%n=(j+n-1)%n):i=j:=by
 have f:∀k,k<n->(((k+n-1)%n)+1)%n=k:=λk hk=>by
  rw[Nat.mod_add_mod,Nat.sub_add_cancel (Yr (Nat.succ_le_of_lt (Ys (Nat.zero_le k) hk)) (Nat.le_add_left n k)),Nat.add_mod_right,Nat.mod_eq_of_lt hk]
 rw[<-f i hi,<-f j hj,h]
theorem CW{l:List Nat}(nd:l.Nodup){x y:Nat}(hx:x∈l)(hy:y∈l)(h:lK l x=lK l y):x=y:=by
 have h1:=List.idxOf_lt_length_of_mem hx;have h2:=List.idxOf_lt_length_of_mem hy;have m1:(l.idxOf x+l.length-1)%l.length<l.length:=Nat.mod_lt _ (by lia);have m2:(l.idxOf y+l.length-1)%l.length<l.length:=Nat.mod_lt _ (by lia);unfold lK at h;simp only[List.getD,Zz m1,Zz m2,Option.getD_some]at h;have e:=(List.getElem_inj nd).mp h;have e':=LW h1 h2 e;have g1:l[l.idxOf x]=x:=List.getElem_idxOf h1;have g2:l[l.idxOf y]=y:=List.getElem_idxOf h2;rw[<-g1,<-g2];simp only[e']
def behind(ts:aY)(os:dM)(e:Nat):Nat:=lK (row os (place ts (oth e))) (oth e)
theorem Good.behind{ts:aY}{os:dM}(g:Good ts os){e:Nat}(he:e<2*ts.length):behind ts os e<2*ts.length/\place ts (behind ts os e)=place ts (oth e):=by
 have h:=g.g.has (oth e) (jG he);exact g.g.ends _ _ (CV h.2)
theorem Good.maps{ts:aY}{os:dM}(g:Good ts os):iT (MM.behind ts os) (2*ts.length) where
 lt:=λe he=>(g.behind he).1
 inj:=λa b ha hb h=>by
  have pa:=(g.behind ha).2;have pb:=(g.behind hb).2;rw[h,pb]at pa;have ma:=(g.g.has (oth a) (jG ha)).2;have mb:=(g.g.has (oth b) (jG hb)).2;unfold MM.behind at h;rw[<-pa]at h ma;exact L8 (CW (g.g.nd _) ma mb h)
end MM
namespace MM
open Classical in
noncomputable def per(f:Nat->Nat)(e:Nat):Nat:=if h:∃k,qD f e k then Classical.choose h else 1
noncomputable def a9(f:Nat->Nat)(e:Nat):List Nat:=path f e (per f e)
theorem O9{f:Nat->Nat}{e k:Nat}(r:qD f e k):per f e=k:=by
 unfold per;rw[dif_pos ⟨k,r⟩];exact CS (Classical.choose_spec (⟨k,r⟩:∃k,qD f e k)) r
theorem fV{f:Nat->Nat}{N:Nat}(m:iT f N){e:Nat}(he:e<N):qD f e (per f e)/\per f e<=N:=by
 obtain⟨k,r,l⟩:=IJ m he;rw[O9 r];exact⟨r,l⟩
theorem u9{f:Nat->Nat}{e k:Nat}(h:iter f k e=e):∀n,iter f (k*n) e=e
 |0=>rfl
 |n+1=>by rw[Nat.mul_succ,Nat.add_comm,jT,h];exact u9 h n
theorem JU{f:Nat->Nat}{e k:Nat}(h:iter f k e=e)(j:Nat):iter f j e=iter f (j%k) e:=by
 have e1:j=k*(j / k)+j%k:=(Nat.div_add_mod j k).symm;have e2:iter f j e=iter f (k*(j / k)+j%k) e:=congrArg (λz=>iter f z e) e1;rw[e2,jT,u9 h]
theorem jR{f:Nat->Nat}{N:Nat}(m:iT f N){x y:Nat}(hx:x<N):y∈a9 f x↔∃k,iter f k x=y:=by
 obtain⟨r,_⟩:=fV m hx;unfold a9;rw[uT];constructor
 ·rintro⟨i,_,h⟩;exact⟨i,h⟩
 ·rintro⟨k,h⟩;exact⟨k%per f x,Nat.mod_lt _ r.1,by rw[<-JU r.2.1];exact h⟩
theorem xE{f:Nat->Nat}{N:Nat}(m:iT f N){x:Nat}(hx:x<N):x∈a9 f x:=(jR m hx).mpr ⟨0,rfl⟩
theorem pE{f:Nat->Nat}{N:Nat}(m:iT f N){x:Nat}(hx:x<N):∀y∈a9 f x,y<N:=EG m hx _
theorem uY{f:Nat->Nat}{N:Nat}(m:iT f N){x:Nat}(hx:x<N):(a9 f x).Nodup:=nP m hx _ (fV m hx).1.2.2
theorem BD{f:Nat->Nat}{N:Nat}(m:iT f N){x:Nat}(hx:x<N):0<(a9 f x).length/\(a9 f x).length<=N:=by
 unfold a9;rw[lN];exact⟨(fV m hx).1.1,(fV m hx).2⟩
theorem GK{f:Nat->Nat}{N:Nat}(m:iT f N){x y:Nat}(hx:x<N)(h:y∈a9 f x):x∈a9 f y:=by
 have hy:=pE m hx y h;obtain⟨k,rfl⟩:=(jR m hx).mp h;obtain⟨r,_⟩:=fV m hx;refine(jR m hy).mpr ⟨per f x*(k+1)-k,?_⟩;have hk:k<=per f x*(k+1):=by
  have:=Nat.le_mul_of_pos_left (k+1) r.1
  lia
 rw[<-jT,Nat.add_sub_cancel' hk];exact u9 r.2.1 _
theorem DD{f:Nat->Nat}{N:Nat}(m:iT f N){x y z:Nat}(hx:x<N)(h1:y∈a9 f x)(h2:z∈a9 f y):z∈a9 f x:=by
 have hy:=pE m hx y h1;obtain⟨k,rfl⟩:=(jR m hx).mp h1;obtain⟨j,rfl⟩:=(jR m hy).mp h2;exact(jR m hx).mpr ⟨k+j,jT f x k j⟩
noncomputable def eY(f:Nat->Nat):Nat->List Nat->List (List Nat)
 |0,_=>[]
 |_,[]=>[]
 |n+1,e::r=>a9 f e::eY f n ((e::r).filter λx=>decide (x∉a9 f e))
theorem gB(f:Nat->Nat)(n:Nat):eY f n []=[]:=by cases n<;>rfl
theorem dD{f:Nat->Nat}{N:Nat}(m:iT f N){e:Nat}(he:e<N)(r:List Nat):((e::r).filter λx=>decide (x∉a9 f e)).length<=r.length:=by
 rw[List.filter_cons,if_neg (by simp[xE m he])];exact List.length_filter_le _ _
theorem lR{f:Nat->Nat}{N:Nat}(m:iT f N):∀(n:Nat) (k:Nat) (l:List Nat),(∀x∈l,x<N)->l.length<=n->l.length<=k->eY f n l=eY f k l
 |0,k,l,_,h,_=>by
  have e:l=[]:=Yg.mp (by lia);subst e;rw[gB,gB]
 |n+1,k,[],_,_,_=>by rw[gB,gB]
 |n+1,0,e::r,_,_,h=>by simp at h
 |n+1,k+1,e::r,hl,h1,h2=>by
  have he:=hl e Zd;have s:=dD m he r;simp only[Yq]at h1 h2;show a9 f e::eY f n _=a9 f e::eY f k _;rw[lR m n k _ (λx hx=>hl x (Yz.mp hx).1) (by lia) (by lia)]
noncomputable def lf(f:Nat->Nat)(l:List Nat):List (List Nat):=eY f l.length l
theorem JR(f:Nat->Nat):lf f []=[]:=rfl
theorem pD{f:Nat->Nat}{N:Nat}(m:iT f N){e:Nat}{r:List Nat}(hl:∀x∈e::r,x<N):lf f (e::r)=a9 f e::lf f ((e::r).filter λx=>decide (x∉a9 f e)):=by
 unfold lf;show a9 f e::eY f r.length _=_;rw[lR m r.length _ _ (λx hx=>hl x (Yz.mp hx).1) (dD m (hl e Zd) r) (Nat.le_refl _)]
noncomputable def eO(f:Nat->Nat)(N:Nat):List (List Nat):=lf f (List.range N)
theorem zG{f:Nat->Nat}{N:Nat}(m:iT f N):∀(n:Nat) (l:List Nat),l.length<=n->(∀x∈l,x<N)->∀d∈lf f l,∃e∈l,d=a9 f e
 |0,l,h,_,d,hd=>by
  have e:l=[]:=Yg.mp (by lia);subst e;cases hd
 |n+1,[],_,_,d,hd=>by cases hd
 |n+1,e::r,h,hl,d,hd=>by
  rw[pD m hl]at hd;rcases Zn.mp hd with rfl | hd
  ·exact⟨e,Zd,rfl⟩
  ·have s:=dD m (hl e Zd) r;simp only[Yq]at h;obtain⟨x,hx,q⟩:=zG m n _ (by lia) (λx hx=>hl x (Yz.mp hx).1) d hd;exact⟨x,(Yz.mp hx).1,q⟩
theorem zH{f:Nat->Nat}{N:Nat}(m:iT f N):∀(n:Nat) (l:List Nat),l.length<=n->(∀x∈l,x<N)->(lf f l).length<=l.length
 |0,l,h,_=>by
  have e:l=[]:=Yg.mp (by lia);subst e;exact Nat.le_refl _
 |n+1,[],_,_=>Nat.le_refl _
 |n+1,e::r,h,hl=>by
  rw[pD m hl];have s:=dD m (hl e Zd) r;simp only[Yq]at h ⊢;have ih:=zH m n _ (Yr s (by lia)) (λx hx=>hl x (Yz.mp hx).1)
  lia
theorem JQ{f:Nat->Nat}{N:Nat}(m:iT f N):∀(n:Nat) (l:List Nat),l.length<=n->(∀x∈l,x<N)->∀x∈l,∃(k:Nat) (d:List Nat),(lf f l)[k]?=some d/\x∈d/\∀(j:Nat) (d':List Nat),(lf f l)[j]?=some d'->x∈d'->j=k
 |0,l,h,_,x,hx=>by
  have e:l=[]:=Yg.mp (by lia);subst e;cases hx
 |n+1,[],_,_,x,hx=>by cases hx
 |n+1,e::r,h,hl,x,hx=>by
  have he:=hl e Zd;have hxN:=hl x hx;have s:=dD m he r;simp only[Yq]at h;rw[pD m hl];by_cases q:x∈a9 f e
  ·refine⟨0,_,rfl,q,λj d' hj hd=>?_⟩;cases j with
   |zero=>rfl
   |succ j =>
    rw[List.getElem?_cons_succ]at hj;obtain⟨y,hy,rfl⟩:=zG m _ _ (Nat.le_refl _) (λz hz=>hl z (Yz.mp hz).1) d' (Zg hj);obtain⟨hy1,hy2⟩:=Yz.mp hy;have hy2':y∉a9 f e:=by simpa using hy2
    exact absurd (DD m he q (GK m (hl y hy1) hd)) hy2'
  ·have hx':x∈(e::r).filter λz=>decide (z∉a9 f e):=Yz.mpr ⟨hx,by simpa using q⟩;obtain⟨k,d,h1,h2,h3⟩:=JQ m n _ (by lia) (λz hz=>hl z (Yz.mp hz).1) x hx';refine⟨k+1,d,by rw[List.getElem?_cons_succ];exact h1,h2,λj d' hj hd=>?_⟩;cases j with
   |zero =>
    rw[List.getElem?_cons_zero]at hj;cases hj;exact absurd hd q
   |succ j =>
    rw[List.getElem?_cons_succ]at hj;rw[h3 j d' hj hd]
end MM
set_option Elab.async false
set_option linter.all false
set_option maxRecDepth 100000
set_option maxHeartbeats 4000000
namespace L2
open PySem PySem.Spec PyProof.Rows
abbrev vn(n:Nat):V:=.int (n:Int)
abbrev vns(l:List Nat):List V:=l.map vn
section
variable{X:Cx}
def O1:V->List V->Hp->VK->Prop:=λx vs H Q=>∃(l:Addr) (ns:List Nat) (v:Nat),x=.ref l/\vs=[vn v]/\H l=some (.lst (vns ns))/\v∈ns/\Q (vn (ns.idxOf v)) H
theorem A6:MtM X "list.index" O1:=by
 intro pins s σ H x vs v us Q I rx rv h;obtain⟨l,ns,k,rfl,rfl,hH,hm,q⟩:=h;cases rx;obtain⟨u,rfl,t,rfl⟩:=rv.one;obtain⟨z,its,n,r,hl,e⟩:=I.lstM hH;have hlen:its.length=ns.length:=by rw[<-hl];simp
 have hj:ns.idxOf k<ns.length:=List.idxOf_lt_length_of_mem hm;have item:∀(m:Nat) (hm:m<its.toArray.size),eqU (vn k) its.toArray[m]=(ns[m]'(by simpa[hlen] using hm)==k):=λm hm'=>by
  have hm2:m<ns.length:=by simpa[hlen] using hm'
  have hx:(vns ns)[m]?=some (vn ns[m]):=by rw[Zk,Zz hm2];rfl
  obtain⟨u',hu',ru'⟩:=r.get hx;have e1:its.toArray[m]=u':=by
   have:its[m]?=some its.toArray[m]:=by simp at hm' ⊢
   rw[this]at hu';exact Option.some.inj hu'
  rw[e1,zK ru' rfl];show((ns[m]:Int)==(k:Int))=(ns[m]==k)
  rw[Xx];simp only[beq_iff_eq]
  lia
 have hsm:((ns.idxOf k:Nat):Int)<2 ^ 63-1:=by
  have h1:=jI;have h2:(vns ns).length=ns.length:=by simp
  lia
 refine call_meets F.slot_list_index ⟨_,e,rfl⟩ F.entry_list_index (F.args_list_index_2 _ _) (SeqAt.list_indexAt l its.toArray n none #[] (.int k t) (eqU (vn k)) (ns.idxOf k) (by simpa[hlen] using hj) hsm ?_ ?_) ⟨e,λy hy=>?_,?_⟩
 ·rw[item];simp
 ·intro m hm' hlt;rw[item];have:=List.not_of_lt_findIdx (p:=(·==k)) (xs:=ns) (i:=m) hlt;simpa using this
 ·have fl:(vns ns).all kX=true:=by rw[List.all_eq_true];intro y hy;obtain⟨n,_,rfl⟩:=Zh.mp hy;rfl
  exact iG (x:=vn k) ⟨t,rfl⟩ rfl r fl y (by simpa using hy)
 ·exact⟨vn (ns.idxOf k),H,I.tok _,⟨_,rfl⟩,q⟩
def gU{α:Type}(l:List α)(i:Nat)(x:α):List α:=l.take i++x::l.drop i
def LO:V->List V->Hp->VK->Prop:=λx vs H Q=>∃(l:Addr) (xs:List V) (i:Nat) (y:V),x=.ref l/\vs=[vn i,y]/\H l=some (.lst xs)/\i<=xs.length/\xs.length<ZW/\Q .non (upd H l (.lst (gU xs i y)))
theorem GD:MtM X "list.insert" LO:=by
 intro pins s σ H x vs v us Q I rx rv h;obtain⟨l,xs,i,y,rfl,rfl,hH,hi,hz,q⟩:=h;cases rx;obtain⟨u1,u2,rfl,⟨t,rfl⟩,r2⟩:=rv.two;obtain⟨z,its,n,r,hl,e⟩:=I.lstM hH;have hfit:Builtin.List.listFitsIndex (i:Int)=true:=by
  unfold Builtin.List.listFitsIndex;have:=jI;simp only[Xw,decide_eq_true_eq]
  lia
 have hc0:¬(!Builtin.List.listFitsIndex (i:Int))=true:=by rw[hfit];exact Bool.false_ne_true
 have hz1:its.toArray.size<=ZW:=by rw[List.size_toArray];lia
 obtain⟨w,hw⟩:∃w:Int,w=(i:Int):=⟨_,rfl⟩
 rw[<-hw]at hc0;have mm:=PySem.AutoSeq1.list_insert_list_int_val_1 l its.toArray n w t u2 hc0 hz1;rw[<-hw];refine call_meets F.slot_list_insert ⟨_,e,rfl⟩ F.entry_list_insert (F.args_list_insert_3 _ _ _) mm ⟨e,?_⟩;refine⟨.non,_,I.lset (its':=gU its i u2) (ys:=gU xs i y) (t':=s.toks) hH e ?_ ?_ ?_,rfl,q⟩
 ·have hk:(if w<0 then (w+(its.toArray.size:Int)).toNat else min w.toNat its.toArray.size)=i:=by
   rw[if_neg (by lia),List.size_toArray]
   lia
  show(its.toArray.extract 0 (if w<0 then (w+(its.toArray.size:Int)).toNat else min w.toNat its.toArray.size)).push u2++its.toArray.extract (if w<0 then (w+(its.toArray.size:Int)).toNat else min w.toNat its.toArray.size)=_;rw[hk];unfold gU;simp;exact List.take_of_length_le (by simp)
 ·unfold gU;exact bI.append (r.take _) (.cons r2 (r.drop _))
 ·unfold gU;rw[Zm,Yq,Yw,Yf]
  lia
theorem EA:∀{xs:List V}{us:List Value},xs.length=us.length->(∀(j:Nat) x u,xs[j]?=some x->us[j]?=some u->RelV x u)->bI xs us
 |[],[],_,_=>.nil
 |x::xs,u::us,hl,h=>.cons (h 0 x u rfl rfl) (EA (by simpa using hl) λj y v h1 h2=>h (j+1) y v (by simpa using h1) (by simpa using h2))
theorem sN:dG X (.type "range") (λxs H Q=>∃j:Int,xs=[.int j]/\∀p,H p=none->Q (.ref p) (upd H p (.rng 0 j))):=by
 intro pins s σ H xs us Q I r h;obtain⟨j,rfl,q⟩:=h;obtain⟨u,rfl,t,rfl⟩:=vals1 r;refine call_range_1 ?_;refine⟨.ref s.heap.objs.size,_,I.laid (o:=.rng 0 j) (λb o e=>Heap.get?_push_of_some _ e) (Nat.le_refl _) ⟨_,_,_,Heap.get?_push_size _ rfl⟩,rfl,q _ I.fresh⟩
end
def nZ(H:Hp)(a:Addr)(ts:MM.aY):Prop:=∃tr:List Addr,H a=some (.lst (tr.map V.ref))/\tr.length=ts.length/\∀(i:Nat) t,ts[i]?=some t->∃r,tr[i]?=some r/\H r=some (.tup [vn t.1,vn t.2])
def wK(H:Hp)(a:Addr)(os:MM.dM):Prop:=∃rr:List Addr,H a=some (.lst (rr.map V.ref))/\rr.length=os.length/\∀(i:Nat) l,os[i]?=some l->∃r,rr[i]?=some r/\H r=some (.lst (vns l))
theorem aW.ts{H H':Hp}(g:aW H H'){a:Addr}{ts:MM.aY}(h:nZ H a ts):nZ H' a ts:=by
 obtain⟨tr,h1,h2,h3⟩:=h;exact⟨tr,g _ _ h1,h2,λi t ht=>by obtain⟨r,q1,q2⟩:=h3 i t ht;exact⟨r,q1,g _ _ q2⟩⟩
theorem aW.os{H H':Hp}(g:aW H H'){a:Addr}{os:MM.dM}(h:wK H a os):wK H' a os:=by
 obtain⟨tr,h1,h2,h3⟩:=h;exact⟨tr,g _ _ h1,h2,λi t ht=>by obtain⟨r,q1,q2⟩:=h3 i t ht;exact⟨r,q1,g _ _ q2⟩⟩
theorem nZ.item{H:Hp}{a:Addr}{ts:MM.aY}(h:nZ H a ts){i:Nat}(hi:i<ts.length):∃xs r,H a=some (.lst xs)/\xs.length=ts.length/\atI xs (i:Int)=some (.ref r)/\H r=some (.tup [vn (ts.getD i (0,0)).1,vn (ts.getD i (0,0)).2]):=by
 obtain⟨tr,h1,h2,h3⟩:=h;obtain⟨r,q1,q2⟩:=h3 i ts[i] (Zz hi);refine⟨_,r,h1,by rw[Zq];exact h2,eG (by rw[Zk,q1];rfl),?_⟩;simp only[List.getD,Zz hi,Option.getD_some];exact q2
theorem wK.item{H:Hp}{a:Addr}{os:MM.dM}(h:wK H a os){i:Nat}(hi:i<os.length):∃xs r,H a=some (.lst xs)/\xs.length=os.length/\atI xs (i:Int)=some (.ref r)/\H r=some (.lst (vns (MM.row os i))):=by
 obtain⟨tr,h1,h2,h3⟩:=h;obtain⟨r,q1,q2⟩:=h3 i os[i] (Zz hi);refine⟨_,r,h1,by rw[Zq];exact h2,eG (by rw[Zk,q1];rfl),?_⟩;unfold MM.row;simp only[List.getD,Zz hi,Option.getD_some];exact q2
theorem DV{l:List Nat}{j:Nat}(h:j<l.length){k:Int}(hk:k=(j:Int)):atI (vns l) k=some (vn (l.getD j 0)):=by
 subst hk;exact eG (by rw[Zk,Zz h];simp[List.getD,h])
theorem FL{l:List Nat}{x:Nat}(h:x∈l):atI (vns l) ((l.idxOf x:Nat)-1:Int)=some (vn (MM.lK l x)):=by
 have h1:=List.idxOf_lt_length_of_mem h;unfold MM.lK;rcases Nat.eq_zero_or_pos (l.idxOf x) with q | q
 ·have e:(l.idxOf x+l.length-1)%l.length=l.length-1:=by rw[q,Nat.zero_add];exact Nat.mod_eq_of_lt (by omega)
  rw[e];unfold atI ixN;rw[if_neg (by lia),if_pos (by simp;lia)];have e2:((l.idxOf x:Nat)-1+((vns l).length:Int)).toNat=l.length-1:=by simp;omega
  show(vns l)[((l.idxOf x:Nat)-1+((vns l).length:Int)).toNat]?=_;rw[e2,Zk,Zz (by lia)];have:l.length-1<l.length:=by lia
  simp[List.getD,this]
 ·have e:(l.idxOf x+l.length-1)%l.length=l.idxOf x-1:=by
   have:l.idxOf x+l.length-1=(l.idxOf x-1)+l.length:=by lia
   rw[this,Nat.add_mod_right];exact Nat.mod_eq_of_lt (by omega)
  rw[e];exact DV (by omega) (by omega)
end L2
set_option linter.all false
set_option maxRecDepth 100000
set_option maxHeartbeats 4000000
namespace L2
open PySem PySem.Spec PyProof.Rows
theorem KN{J:It}{js:List (Option Nat)}{σ:St}{H1:Hp}{R:Hp->Prop}{D:Addr}{g:TG}{te:TE}(n:Nat)(Pe:Nat->V->Prop)(hD:H1 D=none)(hn:n<=100000)
  (go:∀i H',i<n->aW H1 H'->J.go i H') (stop:∀H',aW H1 H'->J.stop n H')
  (hs:∀i H' x H'' (k:V->Hp->Prop),i<n->aW H1 H'->J.yld i H' x H''->(∀v H4,Pe i v->aW H' H4->k v H4)->g x (inner js σ) H'' λσ2 H2=>Fills (inner js σ) σ2/\te σ2 H2 k)
  (hd:∀vs H',vs.length=n->(∀(i:Nat) v,vs[i]?=some v->Pe i v)->aW H1 H'->H' D=some (.lst vs)->R H') :
  ∃W:Nat->Nat->List V->Hp->Prop,(∃m,W 0 m [] (upd H1 D (.lst []))) /\
   ∀i m ys H,W i m ys H->(J.stop i H/\R H)\/(J.go i H/\∃N:List V->Hp->Prop,(∀ys' H',N ys' H'->∃m',m' < m/\W (i+1) m' ys' H')/\∀x H',J.yld i H x H'->g x (inner js σ) H' λσ2 H2=>Fills (inner js σ) σ2/\rO σ2 H2 λb H3 =>
    if b=true then te σ2 H3 λy H4=>H4 D=some (.lst ys)/\ys.length<ZW/\N (ys++[y]) (upd H4 D (.lst (ys++[y]))) else N ys H3):=by
 refine comp_map n (λi ys H'=>ys.length=i/\(∀(j:Nat) v,ys[j]?=some v->Pe j v)/\aW H1 H'/\H' D=some (.lst ys)) ⟨rfl,λj v h=>by simp at h,aG hD _,aE⟩ ?_ ?_
 ·rintro i ys H' hi ⟨hl,hp,g1,hD'⟩;refine⟨go i H' hi g1,λx H'' hy=>hs i H' x H'' _ hi g1 hy λv H4 hv g4=>⟨g4 _ _ hD',?_,?_,?_,?_,aE⟩⟩
  ·rw[hl];exact Yt hi (Yr hn (by decide))
  ·rw[Zm,hl];rfl
  ·intro j v' h;by_cases hj:j<ys.length
   ·rw[Zx hj]at h;exact hp j v' h
   ·rw[Zy (by lia)]at h;have hj2:j-ys.length=0:=by
     have:=(Zj.mp h).1;simp at this;lia
    rw[hj2]at h;simp at h;subst h;have:j=i:=by lia
    subst this;exact hv
  ·exact λb o h=>by rw[aL (aP h hD)];exact g4 _ _ (g1 _ _ h)
 ·rintro ys H' ⟨hl,hp,g1,hD'⟩;exact⟨stop H' g1,hd ys H' hl hp g1 hD'⟩
theorem LN{vs:List V}{n:Nat}{fs:Nat->V}(hl:vs.length=n)(h:∀(i:Nat) v,vs[i]?=some v->v=fs i):vs=(List.range n).map fs:=by
 apply Yp;intro i;by_cases hi:i<n
 ·rw[Zk,Yk hi];obtain⟨v,hv⟩:∃v,vs[i]?=some v:=⟨vs[i],Zz (by lia)⟩
  rw[hv,h i v hv];rfl
 ·rw[Zr (by lia),Zr (by simp;lia)]
theorem bS{J:It}{js:List (Option Nat)}{σ:St}{H1:Hp}{R:Hp->Prop}{D:Addr}{g:TG}{te:TE}(n:Nat)(fs:Nat->V)(hD:H1 D=none)(hn:n<=100000)
  (go:∀i H',i<n->aW H1 H'->J.go i H') (stop:∀H',aW H1 H'->J.stop n H')
  (hs:∀i H' x H'' (k:V->Hp->Prop),i<n->aW H1 H'->J.yld i H' x H''->(∀H4,aW H' H4->k (fs i) H4)->g x (inner js σ) H'' λσ2 H2=>Fills (inner js σ) σ2/\te σ2 H2 k)
  (hd:∀H',aW H1 H'->H' D=some (.lst ((List.range n).map fs))->R H') :
  ∃W:Nat->Nat->List V->Hp->Prop,(∃m,W 0 m [] (upd H1 D (.lst []))) /\
   ∀i m ys H,W i m ys H->(J.stop i H/\R H)\/(J.go i H/\∃N:List V->Hp->Prop,(∀ys' H',N ys' H'->∃m',m' < m/\W (i+1) m' ys' H')/\∀x H',J.yld i H x H'->g x (inner js σ) H' λσ2 H2=>Fills (inner js σ) σ2/\rO σ2 H2 λb H3 =>
    if b=true then te σ2 H3 λy H4=>H4 D=some (.lst ys)/\ys.length<ZW/\N (ys++[y]) (upd H4 D (.lst (ys++[y]))) else N ys H3) :=
 KN n (λi v=>v=fs i) hD hn go stop (λi H' x H'' k hi g1 hy hk=>hs i H' x H'' k hi g1 hy λH4 g4=>hk _ _ rfl g4)
  λvs H' hl hp g1 e=>hd H' g1 (by rw[e,LN hl hp])
def at0(ls:List Int)(j:Nat):Int:=ls.getD j 0
theorem kT{ls:List Int}{j:Nat}(h:j<ls.length):(ls.map V.int)[j]?=some (.int (at0 ls j)):=by
 unfold at0;rw[Zk,Zz h];simp[List.getD,h]
theorem tL{ls:List Int}{j:Nat}(h:j<ls.length):at0 ls j∈ls:=by
 unfold at0;simp[List.getD,h]
theorem cV{ls:List Int}{j:Nat}(h:j<ls.length){k:Int}(hk:k=(j:Int)):atI (ls.map V.int) k=some (.int (at0 ls j)):=by
 subst hk;exact eG (kT h)
theorem P6{n j:Nat}{k:Int}(h:j<n)(hk:k=(j:Int)):ixN n k=some j:=by
 subst hk;unfold ixN;rw[if_pos (by lia),if_pos (by lia)];simp
theorem tI{ds:List PyData}(n:Nat)(h:∀d∈ds,d.canLay0=true/\d.depth<=n):PyData.canLayAll0 ds=true/\PyData.depthAll ds<=n:=by
 induction ds with
 |nil=>exact⟨rfl,Nat.zero_le _⟩
 |cons d ds ih =>
  have h1:=h d Zd;have h2:=ih λx hx=>h x (Zw _ hx);refine⟨by rw[PyData.canLayAll0,h1.1,h2.1];rfl,?_⟩;rw[PyData.depthAll];exact Nat.max_le.mpr ⟨h1.2,h2.2⟩
theorem lay_ints(ns:List Int):PyData.canLayAll0 (ns.map PyData.int)=true/\PyData.depthAll (ns.map PyData.int)<=2:=tI 2 λd hd=>by
 obtain⟨n,_,rfl⟩:=Zh.mp hd;exact⟨rfl,by simp[PyData.depth]⟩
theorem via{tt r:TS}{D:Ends}{σ:St}{H:Hp}(I:St->Hp->Prop)(ht:(∀σ' H',I σ' H'->r D σ' H')->tt { D with nx:=r D } σ H)(hr:∀σ' H',I σ' H'->r D σ' H'):OE tt r D σ H:=ht hr
theorem shaped_ints(ns:List Int):SeqAt.shaped (.list (ns.map PyData.int))=true:=by
 have h:=lay_ints ns;unfold SeqAt.shaped;rw[Xw];refine⟨h.1,decide_eq_true ?_⟩;rw[PyData.depth]
 lia
theorem pL{K:PySem.W.Frag}{a:Addr}{xs:List V}{g:TG}{tb:TS}{D:Ends}{σ:St}{H:Hp}(Pv:Nat->St->Hp->Prop)(h0:Pv 0 σ H)(hl:∀i σ H,i<=xs.length->Pv i σ H->SqL K H a xs)
  (hs:∀(i:Nat) x σ H T,xs[i]?=some x->Pv i σ H->H T=none->g (.ref T) σ (upd H T (.tup [vn i,x])) λσ2 H2=>tb { D with nx:=Pv (i+1),ct:=Pv (i+1),bk:=D.nx } σ2 H2) (hd:∀σ H,Pv xs.length σ H->D.nx σ H) :
  ∃W:Nat->Nat->St->Hp->Prop,(∃m,W 0 m σ H)/\∀i m σ H,W i m σ H ->
   ((Ite K a).stop i H/\D.nx σ H)\/((Ite K a).go i H/\∃N:St->Hp->Prop,(∀σ' H',N σ' H'->∃m',m' < m/\W (i+1) m' σ' H')/\∀x H',(Ite K a).yld i H x H'->g x σ H' λσ2 H2=>tb { D with nx:=N,ct:=N,bk:=D.nx } σ2 H2):=by
 refine⟨λi m σ H=>m=xs.length-i/\i<=xs.length/\Pv i σ H,⟨xs.length,by simp,Nat.zero_le _,h0⟩,?_⟩;rintro i m σ H ⟨rfl,hi,p⟩;have q:=hl i σ H hi p;by_cases hlt:i<xs.length
 ·refine .inr ⟨⟨xs,xs[i],q,by simp[hlt]⟩,Pv (i+1),λσ' H' p'=>⟨xs.length-(i+1),by omega,rfl,hlt,p'⟩,λx H' y=>?_⟩;obtain⟨T,x',rfl,hT,rfl,y⟩:=y;exact hs i x' σ _ T (y xs q) p hT
 ·have e:i=xs.length:=by lia
  subst e;exact .inl ⟨⟨xs,q,Nat.le_refl _⟩,hd σ H p⟩
theorem uF(ns:List Int):∀k,k<=ns.length->PySem.preSum (at0 ns) k=(ns.take k).sum
 |0,_=>by simp[PySem.preSum]
 |k+1,h=>by
  rw[PySem.preSum,uF ns k (by lia),List.take_succ,List.sum_append];have hk:k<ns.length:=by lia
  unfold at0;simp[List.getD,hk]
section
variable{X:Cx}{pins:List (Addr×Obj)}{σ:St}{H:Hp}{s:Shared}
theorem jA{p:Addr}{its:List Value}(pl:PlainL s.heap p its.toArray) :
  (s.heap.push { cls:=.type "list_iterator",data:=.fields #[.ref p,.int 0 0] }).IsListIter s.heap.objs.size p 0/\(s.heap.push { cls:=.type "list_iterator",data:=.fields #[.ref p,.int 0 0] }).IsList p its.toArray:=by
 obtain⟨o,n,e,hc,hd,hs⟩:=pl;exact⟨⟨_,Heap.get?_push_size _ rfl,rfl,rfl⟩,o,Heap.get?_push_of_some _ e,hc,n,hs⟩
theorem oW{p:Addr}{its:List Value}(pl:PlainL s.heap p its.toArray):p<s.heap.objs.size:=by
 obtain⟨o,n,e,_⟩:=pl;exact Heap.lt_size e
theorem rG(hc:X.calm=true):dG X (.builtin "sum") (λxs H Q=>∃(p:Addr) (ns:List Int),xs=[.ref p]/\SqL X.K H p (ns.map V.int)/\Q (.int ns.sum) H):=by
 intro pins s σ H xs us Q I r h;obtain⟨p,ns,rfl,hq,q⟩:=h;obtain⟨u,rfl,rx⟩:=vals1 r;cases rx;obtain⟨its,rv,pl,hz⟩:=I.list hq;have hl:=rv.length;rw[Zq]at hl;have hp:=oW pl;refine call_sum_walkG (wpAny_pyIter_list pl.isList ?_);refine⟨s.heap.objs.size,[s.heap.objs.size,p],[s.heap.objs.size],its.toArray.size,_,_,at0 ns,rfl,Walks.list (show X.A.in1.handled=none from I.ok.hd hc) _ p (Nat.ne_of_lt hp) its.toArray,jA pl,λb hb=>?_,λi v hv=>?_,λh' tk t' hk=>?_⟩
 ·have:=Heap.lt_size (Heap.get?_push_size s.heap (o:={ cls:=.type "list_iterator",data:=.fields #[.ref p,.int 0 0] }) rfl);simp only[Zn,List.not_mem_nil,or_false]at hb;rcases hb with rfl | rfl
  ·exact this
  ·exact Nat.lt_trans hp this
 ·have hi:its[i]?=some v:=by simpa using hv
  have hi2:i<ns.length:=by rw[hl];exact(Zj.mp hi).1
  obtain⟨u',hu,ru⟩:=rv.get (kT hi2);rw[hi]at hu;cases hu;exact ru
 ·refine⟨.int ns.sum,H,I.kept (h':=h') (t':=tk) λb o e=>?_,⟨t',?_⟩,q⟩
  ·refine hk b o ?_ (Heap.get?_push_of_some _ e);simp only[Zn,List.not_mem_nil,or_false];exact Nat.ne_of_lt (Heap.lt_size e)
  ·rw[List.size_toArray,<-hl,uF ns _ (Nat.le_refl _),Yv]
end
end L2
namespace L2
open PySem PySem.Spec PyProof.Rows
theorem all_range(bs:List Bool):(List.range bs.length).all (λi=>bs.getD i true)=bs.all id:=by
 rw[Xx,List.all_eq_true,List.all_eq_true];constructor
 ·intro h b hb;obtain⟨i,hi,rfl⟩:=List.getElem_of_mem hb;have:=h i (by simpa using hi);simpa[List.getD,hi] using this
 ·intro h i hi;have hi':i<bs.length:=by simpa using hi
  have:=h bs[i] (Zp hi');simpa[List.getD,hi'] using this
section
variable{X:Cx}
theorem rJ(hc:X.calm=true):dG X (.builtin "all") (λxs H Q=>∃(p:Addr) (bs:List Bool),xs=[.ref p]/\SqL X.K H p (bs.map V.bl)/\Q (.bl (bs.all id)) H):=by
 intro pins s σ H xs us Q I r h;obtain⟨p,bs,rfl,hq,q⟩:=h;obtain⟨u,rfl,rx⟩:=vals1 r;cases rx;obtain⟨its,rv,pl,hz⟩:=I.list hq;have hl:=rv.length;rw[Zq]at hl;have hp:=oW pl;refine call_all_walk (wpAny_pyIter_list pl.isList ?_);refine⟨s.heap.objs.size,[s.heap.objs.size,p],[s.heap.objs.size],its.toArray.size,_,_,λi=>bs.getD i true,rfl,Walks.list (show X.A.in1.handled=none from I.ok.hd hc) _ p (Nat.ne_of_lt hp) its.toArray,jA pl,λi v s' Q' E' hv hQ=>?_,λh' tk hk=>?_⟩
 ·have hi:its[i]?=some v:=by simpa using hv
  have hi2:i<bs.length:=by rw[hl];exact(Zj.mp hi).1
  obtain⟨u',hu,ru⟩:=rv.get (show(bs.map V.bl)[i]?=some (.bl (bs.getD i true)) by rw[Zk,Zz hi2];simp[List.getD,hi2]);rw[hi]at hu;cases hu;cases ru;exact wpAny_truthy_bool hQ
 ·refine⟨.bl (bs.all id),H,I.kept (h':=h') (t':=tk) λb o e=>?_,?_,q⟩
  ·refine hk b o ?_ (Heap.get?_push_of_some _ e);simp only[Zn,List.not_mem_nil,or_false];exact Nat.ne_of_lt (Heap.lt_size e)
  ·show Value.bool _=Value.bool _;rw[List.size_toArray,<-hl,all_range]
end
end L2
namespace L2
open PySem PySem.Spec PyProof.Rows
section
variable{X:Cx}
theorem rH(hc:X.calm=true):dG X (.builtin "min") (λxs H Q=>∃(p:Addr) (ns:List Int),xs=[.ref p]/\SqL X.K H p (ns.map V.int)/\0<ns.length/\∀m:Int,m∈ns->(∀x∈ns,m<=x)->Q (.int m) H):=by
 intro pins s σ H xs us Q I r h;obtain⟨p,ns,rfl,hq,h0,q⟩:=h;obtain⟨u,rfl,rx⟩:=vals1 r;cases rx;obtain⟨its,rv,pl,hz⟩:=I.list hq;have hl:=rv.length;rw[Zq]at hl;have hp:=oW pl;have hv:∀(i:Nat) (v:Value),its.toArray[i]?=some v->∃t,v=Value.int (at0 ns i) t:=λi v hv=>by
  have hi:its[i]?=some v:=by simpa using hv
  have hi2:i<ns.length:=by rw[hl];exact(Zj.mp hi).1
  obtain⟨u',hu,ru⟩:=rv.get (kT hi2);rw[hi]at hu;cases hu;exact ru
 have hb:=argBest_lt (at0 ns) (its.toArray.size-1);refine call_min_walk (wpAny_pyIter_list pl.isList ?_);refine⟨s.heap.objs.size,[s.heap.objs.size,p],[s.heap.objs.size],its.toArray.size,_,_,_,rfl,Walks.list (show X.A.in1.handled=none from I.ok.hd hc) _ p (Nat.ne_of_lt hp) its.toArray,jA pl,λb hb=>?_,by simp;lia,CmpOf.ints_lt (at0 ns) hv,λv h' tk hP hk=>?_⟩
 ·have:=Heap.lt_size (Heap.get?_push_size s.heap (o:={ cls:=.type "list_iterator",data:=.fields #[.ref p,.int 0 0] }) rfl);simp only[Zn,List.not_mem_nil,or_false]at hb;rcases hb with rfl | rfl
  ·exact this
  ·exact Nat.lt_trans hp this
 ·obtain⟨t,rfl⟩:=hv _ _ hP;have hsz:its.toArray.size=ns.length:=by simp[hl]
  refine⟨.int _,H,I.kept (h':=h') (t':=tk) λb o e=>?_,⟨t,rfl⟩,q _ (tL (by omega)) λx hx=>?_⟩
  ·refine hk b o ?_ (Heap.get?_push_of_some _ e);simp only[Zn,List.not_mem_nil,or_false];exact Nat.ne_of_lt (Heap.lt_size e)
  ·obtain⟨i,hi,rfl⟩:=List.getElem_of_mem hx;have:=hb.2 i (by lia);have e:at0 ns i=ns[i]:=by unfold at0;simp[List.getD,hi]
   rw[<-e];exact this
theorem yE(hc:X.calm=true):dG X (.builtin "max") (λxs H Q=>∃(p:Addr) (ns:List Int),xs=[.ref p]/\SqL X.K H p (ns.map V.int)/\0<ns.length/\∀m:Int,m∈ns->(∀x∈ns,x<=m)->Q (.int m) H):=by
 intro pins s σ H xs us Q I r h;obtain⟨p,ns,rfl,hq,h0,q⟩:=h;obtain⟨u,rfl,rx⟩:=vals1 r;cases rx;obtain⟨its,rv,pl,hz⟩:=I.list hq;have hl:=rv.length;rw[Zq]at hl;have hp:=oW pl;have hv:∀(i:Nat) (v:Value),its.toArray[i]?=some v->∃t,v=Value.int (at0 ns i) t:=λi v hv=>by
  have hi:its[i]?=some v:=by simpa using hv
  have hi2:i<ns.length:=by rw[hl];exact(Zj.mp hi).1
  obtain⟨u',hu,ru⟩:=rv.get (kT hi2);rw[hi]at hu;cases hu;exact ru
 have hb:=argBest_gt (at0 ns) (its.toArray.size-1);refine call_max_walk (wpAny_pyIter_list pl.isList ?_);refine⟨s.heap.objs.size,[s.heap.objs.size,p],[s.heap.objs.size],its.toArray.size,_,_,_,rfl,Walks.list (show X.A.in1.handled=none from I.ok.hd hc) _ p (Nat.ne_of_lt hp) its.toArray,jA pl,λb hb=>?_,by simp;lia,CmpOf.ints_gt (at0 ns) hv,λv h' tk hP hk=>?_⟩
 ·have:=Heap.lt_size (Heap.get?_push_size s.heap (o:={ cls:=.type "list_iterator",data:=.fields #[.ref p,.int 0 0] }) rfl);simp only[Zn,List.not_mem_nil,or_false]at hb;rcases hb with rfl | rfl
  ·exact this
  ·exact Nat.lt_trans hp this
 ·obtain⟨t,rfl⟩:=hv _ _ hP;have hsz:its.toArray.size=ns.length:=by simp[hl]
  refine⟨.int _,H,I.kept (h':=h') (t':=tk) λb o e=>?_,⟨t,rfl⟩,q _ (tL (by omega)) λx hx=>?_⟩
  ·refine hk b o ?_ (Heap.get?_push_of_some _ e);simp only[Zn,List.not_mem_nil,or_false];exact Nat.ne_of_lt (Heap.lt_size e)
  ·obtain⟨i,hi,rfl⟩:=List.getElem_of_mem hx;have:=hb.2 i (by lia);have e:at0 ns i=ns[i]:=by unfold at0;simp[List.getD,hi]
   rw[<-e];exact this
def unl(ns:List Int):Nat:=(firstMet (λi=>ns.getD i 0) ns.length).length
theorem G3(hc:X.calm=true):dG X (.type "set") (λxs H Q=>∃(p:Addr) (ns:List Int),xs=[.ref p]/\SqL X.K H p (ns.map V.int)/\ns.length<4000/\∀(r:Addr) (S:Int->Bool),H r=none->Q (.ref r) (upd H r (.set S (unl ns)))):=by
 intro pins s σ H xs us Q I r h;obtain⟨p,ns,rfl,hq,h0,q⟩:=h;obtain⟨u,rfl,rx⟩:=vals1 r;cases rx;obtain⟨its,rv,pl,hz⟩:=I.list hq;have hl:=rv.length;rw[Zq]at hl;refine call_set_list (ns:=ns) (I.ok.hd hc) pl.isList (by simpa using intsAre_of rv) (by simp;show its.length+1<4096;lia) λh' tk hS hk=>?_;have hS':cH X.prog X.w (upd H s.heap.objs.size (.set (λk'=>(firstMet (λi=>ns.getD i 0) its.toArray.size).any λx=>x==k') (unl ns))) h' s.heap.objs.size (.set (λk'=>(firstMet (λi=>ns.getD i 0) its.toArray.size).any λx=>x==k') (unl ns)):=by
  unfold unl;rw[show its.toArray.size=ns.length by simp[hl]]at hS ⊢;exact hS
 exact⟨.ref s.heap.objs.size,_,I.laid (t':=tk) (λb o e=>hk b o (Heap.lt_size e) e) (Nat.le_refl _) hS',rfl,q _ _ I.fresh⟩
theorem wZ:dG X (.builtin "len") (λxs H Q=>∃(p:Addr) (S:Int->Bool) (n:Nat),xs=[.ref p]/\H p=some (.set S n)/\Q (.int n) H):=by
 intro pins s σ H xs us Q I r h;obtain⟨p,S,n,rfl,hp,q⟩:=h;obtain⟨u,rfl,rx⟩:=vals1 r;cases rx;obtain⟨o,es,ep,t,ho,hx,hd,_,_,hz,hf,hn⟩:=(show s.heap.SetOf (intKind X.prog X.w) p S n from I.hok p _ hp)
 have hz':es.size<4096:=hz;exact call_len_set ho hx hd hf (by lia) ⟨.int n,H,I.tok _,⟨_,by rw[hn]⟩,q⟩
end
theorem rF:∀(l acc:List Int),acc.Nodup->(l.foldl step_dedup acc).length<=acc.length+l.length/\((l.foldl step_dedup acc).length=acc.length+l.length↔(acc++l).Nodup)
 |[],acc,h=>by simp[h]
 |x::l,acc,h=>by
  rw[List.foldl_cons];by_cases hx:x∈acc
  ·have e:step_dedup acc x=acc:=by unfold step_dedup;simp[hx]
   rw[e];have ih:=rF l acc h;refine⟨by simp;lia,⟨λz=>?_,λz=>?_⟩⟩
   ·simp at z;lia
   ·rw[List.nodup_append]at z;exact absurd rfl (z.2.2 x hx x Zd)
  ·have e:step_dedup acc x=acc++[x]:=by unfold step_dedup;simp[hx]
   rw[e];have hn:(acc++[x]).Nodup:=by
    rw[List.nodup_append];exact⟨h,by simp,λa ha b hb z=>by simp at hb;subst hb;subst z;exact hx ha⟩
   have ih:=rF l (acc++[x]) hn;rw[Yb]at ih;simp only[Zm,Yq,List.length_nil]at ih ⊢;refine⟨by lia,?_⟩;rw[show acc.length+(l.length+1)=acc.length+(0+1)+l.length by lia];exact ih.2
theorem EB(ns:List Int):unl ns=ns.length↔ns.Nodup:=by
 unfold unl firstMet;have e:(List.range ns.length).map (λi=>ns.getD i 0)=ns:=by
  apply Yp;intro i;by_cases h:i<ns.length
  ·simp[h]
  ·simp[h]
 rw[e];have:=(rF ns [] List.nodup_nil).2;simpa using this
end L2
namespace L2
open PySem PySem.Spec PyProof.Rows
section
variable{X:Cx}
theorem fL:dG X (.builtin "sorted") (λxs H Q=>∃p ns,xs=[.ref p]/\SqL X.K H p (ns.map V.int)/\ns.length<64/\∀(l:Addr) (ns':List Int),H l=none->ns'.Perm ns->ns'.Pairwise (·<=·)->Q (.ref l) (upd H l (.lst (ns'.map V.int)))):=by
 intro pins s σ H xs us Q I r h;obtain⟨p,ns,rfl,hq,h64,q⟩:=h;obtain⟨u,rfl,rx⟩:=vals1 r;cases rx;obtain⟨its,r',pl,hz⟩:=I.list hq;have hlen:=r'.length;rw[Zq]at hlen;refine sorted_ints (ns:=ns) (vs:=its) pl.isList (intsAre_of r') (by lia) λout ns' a1 a2 a3=>?_;obtain⟨e,he⟩:=sortedAll_at s.heap its out;have rv:=mC a1;refine⟨.ref (s.heap.objs.size+1),_,I.laid (t':=s.toks) (λ_ _=>sortedAll_old) (Nat.le_succ _) (show cH X.prog X.w _ _ _ (.lst (ns'.map V.int)) from⟨?_,out.toList,e,rv,he⟩),rfl,q _ ns' (I.hok.fresh (Nat.le_succ _)) a2 a3⟩;rw[Zq,a2.length_eq];exact Yr (by lia:ns.length<=64) (by decide)
end
end L2
namespace L2
open PySem PySem.Spec PyProof.Rows
section
variable{κ:Type}[DecidableEq κ]
def eP(kvs:List (κ×V))(k:κ):Option V:=(kvs.find? λkv=>decide (kv.1=k)).map (·.2)
def putK(kvs:List (κ×V))(k:κ)(v:V):List (κ×V) :=
 if (kvs.any λkv=>decide (kv.1=k))=true then kvs.map (λkv=>if kv.1=k then (kv.1,v) else kv) else kvs++[(k,v)]
theorem dO{p:κ×V}{r:List (κ×V)}{k:κ}(e:p.1=k):eP (p::r) k=some p.2:=by simp[eP,List.find?_cons,e]
theorem dP{p:κ×V}{r:List (κ×V)}{k:κ}(e:¬p.1=k):eP (p::r) k=eP r k:=by simp[eP,List.find?_cons,e]
theorem oK(k:κ):∀kvs:List (κ×V),(kvs.any λkv=>decide (kv.1=k))=(eP kvs k).isSome
 |[]=>rfl
 |p::r=>by
  rw[List.any_cons];by_cases e:p.1=k
  ·simp only[dO e,decide_eq_true e,Bool.true_or,Option.isSome_some]
  ·rw[dP e,decide_eq_false e,Bool.false_or];exact oK k r
theorem AD(k j:κ)(y:V):∀kvs:List (κ×V),eP (kvs.map λkv=>if kv.1=k then (kv.1,y) else kv) j=(eP kvs j).map λx=>if j=k then y else x
 |[]=>rfl
 |p::r=>by
  have ih:=AD k j y r;rw[List.map_cons];by_cases h:p.1=k
  ·rw[if_pos h];by_cases e:p.1=j
   ·rw[dO (p:=(p.1,y)) e,dO e,Option.map_some,if_pos (e.symm.trans h)]
   ·rw[dP (p:=(p.1,y)) e,dP e,ih]
  ·rw[if_neg h];by_cases e:p.1=j
   ·rw[dO (p:=p) e,dO e,Option.map_some,if_neg (λz=>h (e.trans z))]
   ·rw[dP (p:=p) e,dP e,ih]
theorem w9(k j:κ)(y:V):∀kvs:List (κ×V),eP kvs k=none->eP (kvs++[(k,y)]) j=if j=k then some y else eP kvs j
 |[],_=>by
  by_cases e:k=j
  ·rw[if_pos e.symm];exact dO (p:=(k,y)) e
  ·rw[if_neg (λz=>e z.symm)];exact dP (p:=(k,y)) e
 |p::r,hn=>by
  rw[List.cons_append];have hk:¬p.1=k:=λz=>by rw[dO z]at hn;cases hn
  rw[dP hk]at hn;have ih:=w9 k j y r hn;by_cases e:p.1=j
  ·rw[dO e,dO e,if_neg (λz=>hk (e.trans z))]
  ·rw[dP e,dP e,ih]
theorem oJ(kvs:List (κ×V))(k j:κ)(y:V):eP (putK kvs k y) j=if j=k then some y else eP kvs j:=by
 unfold putK;by_cases a:(kvs.any λkv=>decide (kv.1=k))=true
 ·rw[if_pos a,AD];rw[oK]at a;by_cases e:j=k
  ·obtain⟨x,hx⟩:=Option.isSome_iff_exists.mp a;rw[if_pos e,e,hx,Option.map_some,if_pos rfl]
  ·rw[if_neg e];cases eP kvs j with
   |none=>rfl
   |some x=>rw[Option.map_some,if_neg e]
 ·rw[if_neg a];refine w9 k j y kvs ?_;rw[oK]at a;cases q:eP kvs k with
  |none=>rfl
  |some x=>rw[q]at a;exact(a rfl).elim
theorem gK(kvs:List (κ×V))(k:κ)(v:V):(putK kvs k v).length<=kvs.length+1:=by
 unfold putK;split
 ·rw[Zq];lia
 ·rw[Zm,Yq,List.length_nil];lia
theorem wI.isSome_eq{o:Option V}{u:Option Value}(r:wI o u):o.isSome=u.isSome:=by
 cases o with
 |none=>cases u with
  |none=>rfl
  |some _=>exact(show False from r).elim
 |some _=>cases u with
  |none=>exact(show False from r).elim
  |some _=>rfl
theorem KV.val{kvs:List (κ×V)}{vs:List (κ×Value)}(r:KV kvs vs)(k:κ):wI (eP kvs k) (valueAt vs k):=by
 unfold KV at r;induction r with
 |nil=>exact True.intro
 |@cons p q ps qs h t ih =>
  obtain⟨h1,h2⟩:=h;by_cases e:p.1=k
  ·have e':q.1=k:=h1.symm.trans e;have b:valueAt (q::qs) k=some q.2:=by simp[valueAt,List.find?_cons,e']
   rw[dO e,b];exact h2
  ·have e':¬q.1=k:=λz=>e (h1.trans z);have b:valueAt (q::qs) k=valueAt qs k:=by simp[valueAt,List.find?_cons,e']
   rw[dP e,b];exact ih
theorem KV.any{kvs:List (κ×V)}{vs:List (κ×Value)}(r:KV kvs vs)(k:κ):(kvs.any λkv=>decide (kv.1=k))=vs.any λkv=>decide (kv.1=k):=by
 unfold KV at r;induction r with
 |nil=>rfl
 |cons h t ih=>rw[List.any_cons,List.any_cons,ih,h.1]
theorem KV.repl{kvs:List (κ×V)}{vs:List (κ×Value)}(r:KV kvs vs)(k:κ){y:V}{u:Value}(ry:RelV y u) :
  KV (kvs.map λkv=>if kv.1=k then (kv.1,y) else kv) (vs.map λkv=>if kv.1=k then (kv.1,u) else kv):=by
 unfold KV at r ⊢;induction r with
 |nil=>exact .nil
 |@cons p q ps qs h t ih =>
  rw[List.map_cons,List.map_cons];refine .cons ?_ ih;obtain⟨h1,h2⟩:=h;by_cases e:p.1=k
  ·rw[if_pos e,if_pos (h1.symm.trans e)];exact⟨h1,ry⟩
  ·rw[if_neg e,if_neg (λz=>e (h1.trans z))];exact⟨h1,h2⟩
theorem KV.put{kvs:List (κ×V)}{vs:List (κ×Value)}(r:KV kvs vs)(k:κ){y:V}{u:Value}(ry:RelV y u):KV (putK kvs k y) (stored vs k u):=by
 unfold putK stored;rw[r.any k];by_cases e:(vs.any λkv=>decide (kv.1=k))=true
 ·rw[if_pos e,if_pos e];exact r.repl k ry
 ·rw[if_neg e,if_neg e];exact Paired.snoc r ⟨rfl,ry⟩
theorem KV.length{kvs:List (κ×V)}{vs:List (κ×Value)}(r:KV kvs vs):kvs.length=vs.length:=Paired.length r
end
theorem xT{P:Program}{w:World}{k:Key}{u:Value}(r:RelV (kV k) u):(dA P w).is k u=true:=by
 cases k with
 |inl i=>obtain⟨t,e⟩:=(show ∃t,u=Value.int i t from r);subst e;exact A8 P w i t
 |inr x=>obtain⟨t,e⟩:=(show ∃t,u=Value.str x t from r);subst e;exact A7 P w x t
theorem xU{P:Program}{w:World}:∀{ks:List Key}{us:List Value},bI (ks.map kV) us->ItemsAre (dA P w) ks us
 |[],_,r=>by rw[List.map_nil]at r;cases r;exact .nil
 |k::ks,_,r=>by
  rw[List.map_cons]at r;cases r with
  |cons h t=>exact .cons (xT h) (xU t)
abbrev KT(H:Hp):List (List Key×V)->List (List Key×Addr×Value)->Prop:=Paired λp q=>p.1=q.1/\H q.2.1=some (.tup (p.1.map kV))/\RelV p.2 q.2.2
theorem KT.val{H:Hp}{kvs:List (List Key×V)}{xs:List (List Key×Addr×Value)}(r:KT H kvs xs)(k:List Key):wI (eP kvs k) ((atKey xs k).map (·.2)):=by
 induction r with
 |nil=>exact True.intro
 |@cons p q ps qs h t ih =>
  obtain⟨h1,_,h2⟩:=h;by_cases e:p.1=k
  ·have e':q.1=k:=h1.symm.trans e;have b:atKey (q::qs) k=some q.2:=by simp[atKey,List.find?_cons,e']
   rw[dO e,b];exact h2
  ·have e':¬q.1=k:=λz=>e (h1.trans z);have b:atKey (q::qs) k=atKey qs k:=by simp[atKey,List.find?_cons,e']
   rw[dP e,b];exact ih
theorem KT.repl{H:Hp}{kvs:List (List Key×V)}{xs:List (List Key×Addr×Value)}(r:KT H kvs xs)(k:List Key){y:V}{u:Value}(ry:RelV y u) :
  KT H (kvs.map λkv=>if kv.1=k then (kv.1,y) else kv) (xs.map (putAt k u)):=by
 induction r with
 |nil=>exact .nil
 |@cons p q ps qs h t ih =>
  rw[List.map_cons,List.map_cons];refine .cons ?_ ih;obtain⟨h1,h2,h3⟩:=h;unfold putAt;by_cases e:p.1=k
  ·rw[if_pos e,if_pos (h1.symm.trans e)];exact⟨h1,h2,ry⟩
  ·rw[if_neg e,if_neg (λz=>e (h1.trans z))];exact⟨h1,h2,h3⟩
theorem KT.put{H:Hp}{kvs:List (List Key×V)}{xs:List (List Key×Addr×Value)}(r:KT H kvs xs)(k:List Key){b:Addr}{y:V}{u:Value}(hb:H b=some (.tup (k.map kV)))(ry:RelV y u) :
  KT H (putK kvs k y) (storedH xs k b u):=by
 have e:(kvs.any λkv=>decide (kv.1=k))=(atKey xs k).isSome:=by
  rw[oK,(r.val k).isSome_eq,Option.isSome_map]
 unfold putK storedH;rw[e];by_cases q:(atKey xs k).isSome=true
 ·rw[if_pos q,if_pos q];exact r.repl k ry
 ·rw[if_neg q,if_neg q];exact Paired.snoc r ⟨rfl,hb,ry⟩
theorem KT.keeps{H H':Hp}{kvs:List (List Key×V)}{xs:List (List Key×Addr×Value)}(r:KT H kvs xs)(ht:∀b ys,H b=some (.tup ys)->H' b=some (.tup ys)):KT H' kvs xs :=
 Paired.mapP r λ_ _ z=>⟨z.1,ht _ _ z.2.1,z.2.2⟩
section
variable{P:Program}{w:World}{H:Hp}{h:Heap}{a:Addr}
theorem NM{u:HO}(ok:HOk P w H h)(e:Rd H a u):cH P w H h a u:=e.ok ok
theorem x4{kvs:List (Key×V)}(ok:HOk P w H h)(e:Rd H a (.dK kvs)):kvs.length<=ZW/\(a==sysModules)=false/\∃vs,KV kvs vs/\h.DictOf (dA P w) a vs :=
 show cH P w H h a (.dK kvs) from NM ok e
theorem NW{kvs:List (Key×V)}(ok:HOk P w H h)(e:H a=some (.dK kvs)):kvs.length<=ZW/\(a==sysModules)=false/\∃vs,KV kvs vs/\h.DictOf (dA P w) a vs:=x4 ok (.inl e)
theorem u5{ks:List Key}(ok:HOk P w H h)(e:H a=some (.tup (ks.map kV))):(tupleKind (dA P w)).is h ks a:=by
 obtain⟨_,its,r,o,h1,h2,n,h3⟩:=(show cH P w H h a (.tup (ks.map kV)) from ok a _ e)
 exact⟨o,its.toArray,n,h1,h2,h3,by simpa using xU r⟩
theorem BR{kvs:List (List Key×V)}(ok:HOk P w H h)(e:Rd H a (.dT kvs)):kvs.length<=ZW/\(a==sysModules)=false /\
  ∃xs,KT H kvs xs/\h.DictOfH (tupleKind (dA P w)) a xs:=by
 obtain⟨z,y,xs,r,o,es,ep,h1,h2,h3,h4,h5⟩:=(show cH P w H h a (.dT kvs) from NM ok e)
 refine⟨z,y,xs,r,o,es,ep,h1,h2,h3,h4,λx hx=>?_,h5⟩;have all:∀{l:List (List Key×V)}{m:List (List Key×Addr×Value)},KT H l m->∀x∈m,(tupleKind (dA P w)).is h x.1 x.2.1:=by
  intro l m q;induction q with
  |nil=>intro x hx;exact nomatch hx
  |@cons p q ps qs hq t ih =>
   intro x hx;rcases Zn.mp hx with e | hx
   ·subst e;exact u5 ok (by rw[<-hq.1];exact hq.2.1)
   ·exact ih x hx
 exact all r x hx
theorem R7{kvs:List (List Key×V)}(ok:HOk P w H h)(e:H a=some (.dT kvs)):kvs.length<=ZW/\(a==sysModules)=false /\
  ∃xs,KT H kvs xs/\h.DictOfH (tupleKind (dA P w)) a xs:=BR ok (.inl e)
end
def l8(H:Hp)(a:Addr)(y:V)(r:Option V):Prop :=
 (∃kvs k,Rd H a (.dK kvs)/\y=kV k/\r=eP kvs k)\/∃kvs k b,Rd H a (.dT kvs)/\y=.ref b/\H b=some (.tup (k.map kV))/\r=eP kvs k
def DY(H:Hp)(a:Addr)(y v:V)(H':Hp):Prop :=
 (∃kvs k,H a=some (.dK kvs)/\y=kV k/\kvs.length<ZW/\H'=upd H a (.dK (putK kvs k v))) \/
 ∃kvs k b,H a=some (.dT kvs)/\y=.ref b/\H b=some (.tup (k.map kV))/\kvs.length<ZW/\H'=upd H a (.dT (putK kvs k v))
theorem l8.k{H:Hp}{a:Addr}{kvs:List (Key×V)}{k:Key}(e:H a=some (.dK kvs)):l8 H a (kV k) (eP kvs k):=.inl ⟨kvs,k,.inl e,rfl,rfl⟩
theorem DY.k{H:Hp}{a:Addr}{kvs:List (Key×V)}{k:Key}{v:V}(e:H a=some (.dK kvs))(hl:kvs.length<ZW):DY H a (kV k) v (upd H a (.dK (putK kvs k v))):=.inl ⟨kvs,k,e,rfl,hl,rfl⟩
section
variable{X:Cx}{pins:List (Addr×Obj)}{σ:St}{H:Hp}{s:Shared}{a:Addr}{y v:V}{u r:Value}{o:Option V}{A:Around}{E:Value->Shared->Prop}
theorem Inv.big(I:Inv X pins σ H s):sysModules<s.heap.objs.size:=by
 have h:ZV<s.heap.objs.size:=(I.mod.glob.keeps I.bk).lt;exact Nat.lt_trans (by decide) h
theorem GZ{Q:Value->Shared->Prop}(hu:A.units+1<cLine)(I:Inv X pins σ H s)(g:l8 H a y (some v))(ry:RelV y u)(h:∀w' s',Inv X pins σ H s'->RelV v w'->Q w' s') :
  wpAny (model X.prog X.w) A (getItem (.ref a) u) Q E s:=by
 rcases g with⟨kvs,k,e,ey,l⟩ | ⟨kvs,k,b,e,ey,eb,l⟩
 ·subst ey;obtain⟨z,hd,vs,rel,dd⟩:=x4 I.hok e;obtain⟨w',hw,rw'⟩:=wI.some_of (v:=v) (o:=valueAt vs k) (by rw[l];exact rel.val k);exact wpAny_getItem_of (xT ry) dd.mapOf hw (h w' _ (I.tok _) rw')
 ·subst ey;cases (show u=Value.ref b from ry);obtain⟨z,hd,xs,rel,dd⟩:=BR I.hok e;obtain⟨w',hw,rw'⟩:=wI.some_of (v:=v) (o:=(atKey xs k).map (·.2)) (by rw[l];exact rel.val k);obtain⟨p,hp,hp2⟩:=Xz.mp hw;refine wpAny_getItem_heap (tupleKind_room_in1 hu) (u5 I.hok eb) dd hp ?_;rw[hp2];exact h w' _ (I.tok _) rw'
theorem TM{Q:Value->Shared->Prop}(hu:A.units+1<cLine)(I:Inv X pins σ H s)(g:l8 H a y o)(ry:RelV y u)(h:∀s',Inv X pins σ H s'->Q (.bool o.isSome) s') :
  wpAny (model X.prog X.w) A (compareOp .In u (.ref a)) Q E s:=by
 rcases g with⟨kvs,k,e,ey,l⟩ | ⟨kvs,k,b,e,ey,eb,l⟩
 ·subst ey;obtain⟨z,hd,vs,rel,dd⟩:=x4 I.hok e;refine wpAny_in_of (xT ry) hd dd.mapOf ?_;rw[<-(rel.val k).isSome_eq,<-l];exact h _ (I.tok _)
 ·subst ey;cases (show u=Value.ref b from ry);obtain⟨z,hd,xs,rel,dd⟩:=BR I.hok e;refine wpAny_in_heap (tupleKind_room_in1 hu) (u5 I.hok eb) hd dd ?_;have q:=(rel.val k).isSome_eq;rw[Option.isSome_map]at q;rw[<-q,<-l];exact h _ (I.tok _)
theorem M3{Q:Value->Shared->Prop}(hu:A.units+1<cLine)(I:Inv X pins σ H s)(g:l8 H a y o)(ry:RelV y u)(h:∀s',Inv X pins σ H s'->Q (.bool (!o.isSome)) s') :
  wpAny (model X.prog X.w) A (compareOp .NotIn u (.ref a)) Q E s:=by
 rcases g with⟨kvs,k,e,ey,l⟩ | ⟨kvs,k,b,e,ey,eb,l⟩
 ·subst ey;obtain⟨z,hd,vs,rel,dd⟩:=x4 I.hok e;refine wpAny_notIn_of (xT ry) hd dd.mapOf ?_;rw[<-(rel.val k).isSome_eq,<-l];exact h _ (I.tok _)
 ·subst ey;cases (show u=Value.ref b from ry);obtain⟨z,hd,xs,rel,dd⟩:=BR I.hok e;refine wpAny_notIn_heap (tupleKind_room_in1 hu) (u5 I.hok eb) hd dd ?_;have q:=(rel.val k).isSome_eq;rw[Option.isSome_map]at q;rw[<-q,<-l];exact h _ (I.tok _)
theorem zL{h':Heap}{t':Nat}{ob:HO}(I:Inv X pins σ H s)(mu:Mut (H a))(hs:Heap.SameBut a s.heap h')(he:∃q,h'.get? a=some q)(new:cH X.prog X.w (upd H a ob) h' a ob) :
  Inv X pins σ (upd H a ob) { s with heap:=h',toks:=t' } :=
 I.write (x:=a) (e:=a) mu (.inl rfl) (λb q hb z=>(hs.2 b hb).trans z) he new
theorem KJ{P:Program}{w:World}{H':Hp}{h':Heap}{kvs:List (Key×V)}{vs:List (Key×Value)}(z:kvs.length<=ZW)(hd:(a==sysModules)=false)(rel:KV kvs vs)(dd:h'.DictOf (dA P w) a vs) :
  cH P w H' h' a (.dK kvs):=⟨z,hd,vs,rel,dd⟩
theorem GY{H':Hp}{Q:Unit->Shared->Prop}(hu:A.units+1<cLine)(I:Inv X pins σ H s)(g:DY H a y v H')(ry:RelV y u)(rv:RelV v r)(h:∀s',Inv X pins σ H' s'->Q () s') :
  wpAny (model X.prog X.w) A (setItem (.ref a) u r) Q E s:=by
 rcases g with⟨kvs,k,e,ey,l,eH⟩ | ⟨kvs,k,b,e,ey,eb,l,eH⟩
 ·subst ey eH;obtain⟨z,hd,vs,rel,dd⟩:=NW I.hok e;have hz:vs.length<=ZW:=by rw[<-rel.length];exact z
  have hl:(putK kvs k v).length<=ZW:=by have:=gK kvs k v;lia
  refine wpAny_setItem_pairs (hsz:=hz) (xT ry) dd λh' dd' hs=>h _ ?_;have he:∃q,h'.get? a=some q:=let⟨q,_,_,hq,_⟩:=dd';⟨q,hq⟩;exact zL I (by rw[e];exact True.intro) hs he (KJ hl hd (rel.put k rv) dd')
 ·subst ey eH;cases (show u=Value.ref b from ry);obtain⟨z,hd,xs,rel,dd⟩:=R7 I.hok e;have hz:xs.length<=ZW:=by rw[<-Paired.length rel];exact z
  have hl:(putK kvs k v).length<=ZW:=by have:=gK kvs k v;lia
  refine wpAny_setItem_heap (hsz:=hz) (tupleKind_room_in1 hu) (u5 I.hok eb) dd λh' dd' hs=>h _ ?_;obtain⟨q,es,ep,hq,h2,h3,h4,_,h5⟩:=dd';refine zL I (by rw[e];exact True.intro) hs ⟨q,hq⟩ ⟨hl,hd,_,(rel.put k eb rv).keeps λc ys ec=>?_,q,es,ep,hq,h2,h3,h4,h5⟩;rw[aL (rW ec e (λz=>nomatch z))];exact ec
end
section
variable{X:Cx}{pins:List (Addr×Obj)}{σ:St}{H:Hp}{s:Shared}{a:Addr}{kvs:List (Key×V)}{k:Key}{u:Value}{A:Around}{E:Value->Shared->Prop}
theorem R8{Q:Value->Shared->Prop}(I:Inv X pins σ H s)(e:Rd H a (.dK kvs))(h:∀t s',Inv X pins σ H s'->Q (.int kvs.length t) s'):wpAny (model X.prog X.w) A (call (.builtin "len") [.ref a]) Q E s:=by
 obtain⟨z,hd,vs,rel,dd⟩:=x4 I.hok e;refine call_len_dict hd dd (by rw[<-rel.length];rw[sizeLine_eq]at z;lia) ?_;rw[<-rel.length];exact h _ _ (I.tok _)
end
def SI(i:Expr):Prop:=∀ov iv,subscripted i false ov iv=operate [ov,iv] (getItem ov iv)
theorem K8{prog:Program}{w:World}{A:Around}{E:Value->Shared->Prop}{s:Shared}{env:Env}{value slice:Expr}{pos:Pos}{T id:String}{Q:Value->Shared->Prop}
  (hl:typeLookup (.type T) "__getitem__" = pure (some (.builtin id))) (hs:SI slice)
  (h:wpAny (model prog w) A (eval value env) (λo s₁=>wpAny (model prog w) A (eval slice env) (λi s₂=>s₂.TypeIs o T/\wpAny (model prog w) A (getItem o i) Q E s₂) E s₁) E s) :
  wpAny (model prog w) A (eval (.Subscript value slice pos) env) Q E s:=by
 refine Subscript_ (ZX h (λo s₁ h₁=>ZX h₁ (λi s₂ h₂=>?_) λ_ _ x=>x) λ_ _ x=>x);obtain⟨hT,h₂⟩:=h₂;unfold subscriptTail;refine ZZ ?_;rw[getitemInPython_of_ne hT.not_modules];refine ZZ (wpAny_specialOf hT hl ?_);have fin:wpAny (model prog w) A (subscripted slice false o i) (λr s₃=>wpAny (model prog w) A (letTemporaryGo value o r >>= λ_=>pure r) Q E s₃) E s₂:=by
  rw[hs o i];exact wpAny_operating (ZX h₂ (λr s₃ h₃=>ZZ (wpAny_letTemporaryGo (ZY h₃))) λ_ _ x=>x)
 first
  |exact ZY (ZZ fin)
  |exact ZZ (ZY (ZZ fin))
  |exact ZZ fin
theorem BV{X:Cx}{pins:List (Addr×Obj)}{σ:St}{H:Hp}{s:Shared}{a:Addr}{y:V}{o:Option V}(I:Inv X pins σ H s)(g:l8 H a y o):s.TypeIs (.ref a) "dict":=by
 rcases g with⟨kvs,k,e,_,_⟩ | ⟨kvs,k,b,e,_,_,_⟩
 ·obtain⟨_,_,vs,_,dd⟩:=x4 I.hok e;exact dd.typeIs
 ·obtain⟨_,_,xs,_,dd⟩:=BR I.hok e;exact dd.typeIs
def Q6(td ty:TE):TE:=λσ H Q=>td σ H λx H1=>ty σ H1 λy H2=>∃a v,x=.ref a/\l8 H2 a y (some v)/\Q v H2
def SY(ty td:TE):TE:=λσ H Q=>ty σ H λy H1=>td σ H1 λx H2=>∃a o,x=.ref a/\l8 H2 a y o/\Q (.bl o.isSome) H2
def K4(ty td:TE):TE:=λσ H Q=>ty σ H λy H1=>td σ H1 λx H2=>∃a o,x=.ref a/\l8 H2 a y o/\Q (.bl (!o.isSome)) H2
def RJ(td ty tv:TE):TS:=λD σ H=>tv σ H λv H1=>td σ H1 λx H2=>ty σ H2 λy H3=>∃a H4,x=.ref a/\DY H3 a y v H4/\D.nx σ H4
section
variable{X:Cx}{o i e value:Expr}{pos pos' tpos:Pos}{td ty tv:TE}
theorem L5(hu:X.A.units+1<cLine)(ho:PE X o td)(hi:PE X i ty)(hs:SI i):PE X (.Subscript o i pos) (Q6 td ty):=by
 intro pins s σ H Q I h;refine K8 PySem.F.slot_dict_getitem.lookup hs (thn (ho pins s σ H _ I h) λu s1 ⟨x,H1,I1,rx,q1⟩=>thn (hi pins s1 σ H1 _ I1 q1) λiv s2 ⟨y,H2,I2,ry,a,v,ex,g,q2⟩=>?_);subst ex;obtain rfl:u=Value.ref a:=rx;exact⟨BV I2 g,GZ hu I2 g ry λw' s3 I3 rw'=>⟨v,H2,I3,rw',q2⟩⟩
theorem PJ(hu:X.A.units+1<cLine)(hi:PE X i ty)(ho:PE X o td):PC X .In i o (SY ty td):=by
 intro pins s σ H Q I h;refine thn (hi pins s σ H _ I h) λiv s1 ⟨y,H1,I1,ry,q1⟩=>thn (ho pins s1 σ H1 _ I1 q1) λu s2 ⟨x,H2,I2,rx,a,ov,ex,g,q2⟩=>?_;subst ex;obtain rfl:u=Value.ref a:=rx;exact TM hu I2 g ry λs3 I3=>⟨.bl ov.isSome,H2,I3,rfl,q2⟩
theorem xO(hu:X.A.units+1<cLine)(hi:PE X i ty)(ho:PE X o td):PC X .NotIn i o (K4 ty td):=by
 intro pins s σ H Q I h;refine thn (hi pins s σ H _ I h) λiv s1 ⟨y,H1,I1,ry,q1⟩=>thn (ho pins s1 σ H1 _ I1 q1) λu s2 ⟨x,H2,I2,rx,a,ov,ex,g,q2⟩=>?_;subst ex;obtain rfl:u=Value.ref a:=rx;exact M3 hu I2 g ry λs3 I3=>⟨.bl (!ov.isSome),H2,I3,rfl,q2⟩
theorem zB(hu:X.A.units+1<cLine)(ho:PE X o td)(hi:PE X i ty)(hv:PE X value tv)(hs:swapsWith value (some (.Subscript o i pos')) pos.line X.env=pure false) :
  PS X (.Assign [.Subscript o i pos'] value pos) (RJ td ty tv):=by
 intro pins s σ H D I h;refine wpAny_Assign_Subscript (thn (hv pins s σ H _ I h) λr s1 ⟨v,H1,I1,rv,q1⟩=>thn (ho pins s1 σ H1 _ I1 q1) λu s2 ⟨x,H2,I2,rx,q2⟩=>thn (hi pins s2 σ H2 _ I2 q2) λiv s3 ⟨y,H3,I3,ry,a,H4,ex,g,q3⟩=>?_) hs;subst ex;obtain rfl:u=Value.ref a:=rx;exact GY hu I3 g ry rv λs4 I4=>⟨σ,H4,I4,q3⟩
end
theorem BU{P:Program}{w:World}{H:Hp}(h:Heap)(hb:sysModules<h.objs.size):cH P w H (h.push { cls:=.type "dict",data:=.dict #[] }) h.objs.size (.dK []) :=
 ⟨Nat.zero_le _,beq_eq_false_iff_ne.mpr (Ne.symm (Nat.ne_of_lt hb)),[],.nil,Heap.DictOf.new h⟩
def OH:TE:=λ_ H Q=>∀p,H p=none->Q (.ref p) (upd H p (.dK []))
section
variable{X:Cx}{pos:Pos}
theorem AV:PE X (.Dict [] [] pos) OH:=λpins s σ H Q I h =>
 wpAny_Dict_empty ⟨.ref s.heap.objs.size,_,I.laid (a:=s.heap.objs.size) (o:=.dK []) (t':=s.toks) (λ_ _ q=>Heap.get?_push_of_some _ q) (Nat.le_refl _) (BU s.heap I.big),rfl,h _ (I.hok.fresh (Nat.le_refl _))⟩
end
end L2
namespace L2
open PySem PySem.Spec PyProof.Rows
section
variable{X:Cx}{e ste:Expr}{te:TE}{lo hi:Option Expr}{tl th tk:TO}{pos p2:Pos}
end
theorem zA{α:Type}(d:List Nat)(F:Nat->α):(List.range d.length).map (λi=>F (d.getD i 0))=d.map F:=by
 apply Yp;intro i;by_cases h:i<d.length
 ·rw[Zk,Zk,Yk h,Zz h];simp[List.getD,h]
 ·rw[Zr (by simp;lia),Zr (by simp;lia)]
end L2
namespace L2
open PySem PyProof.Rows
end L2
namespace PySem
set_option maxRecDepth 100000
namespace F
end F
section
variable{prog:Program}{w:World}{A:Around}{E:Value->Shared->Prop}{s:Shared}
end
section
variable{prog:Program}{w:World}{A:Around}{s:Shared}
end
section
variable{prog:Program}{w:World}{A:Around}{E:Value->Shared->Prop}{s:Shared}
end
end PySem
namespace L2
open PySem PySem.Spec PyProof.Rows
section
variable{X:Cx}{e:Expr}{te:TE}{p p2 pos pos2:Pos}
end
end L2
namespace L2
open PySem PySem.Spec PyProof.Rows
section
variable{X:Cx}{K:PySem.W.Frag}{e ste:Expr}{te:TE}{lo hi:Option Expr}{tl th tk:TO}{p p2 pos pos2:Pos}
end
end L2
namespace SO
open PySem PyProof PyProof.Rows
structure Kept(k:SortKind)(z:Array Keyed)(t:SortSt):Prop where
 kd:kindOf t=k
 pm:(arrOf t).Perm z
 nf:failedOf t=none
 np:pendingOf t=#[]
def rk(ρ:Keyed->Int)(xs:Array Keyed)(i:Nat):Int:=(xs[i]?.map ρ).getD 0
def Up(ρ:Keyed->Int)(xs:Array Keyed)(m:Nat):Prop:=∀i j,i<=j->j<m->rk ρ xs i<=rk ρ xs j
def Dn(ρ:Keyed->Int)(xs:Array Keyed)(m:Nat):Prop:=∀i j,i<=j->j<m->rk ρ xs j<=rk ρ xs i
theorem AQ{ρ:Keyed->Int}{xs ys:Array Keyed}{i j:Nat}(e:xs[i]?=ys[j]?):rk ρ xs i=rk ρ ys j:=by
 simp only[rk,e]
theorem xJ{ρ:Keyed->Int}{xs:Array Keyed}{a d:Nat}(ha:a<xs.size)(hd:d<=a)(i:Nat) :
  rk ρ (bubble xs a d) i=if i=a-d then rk ρ xs a else if a-d<i/\i<=a then rk ρ xs (i-1) else rk ρ xs i:=by
 have e:=getElem?_bubble ha d hd i;split
 ·next q=>rw[if_pos q]at e;exact AQ e
 ·next q =>
  rw[if_neg q]at e;split
  ·next q2=>rw[if_pos q2]at e;exact AQ e
  ·next q2=>rw[if_neg q2]at e;exact AQ e
theorem qP{ρ:Keyed->Int}{xs:Array Keyed}{a b:Nat}(hb:b<=xs.size)(i:Nat) :
  rk ρ (mirror xs a b ((b-a) / 2)) i=if a<=i/\i<b then rk ρ xs (a+b-1-i) else rk ρ xs i:=by
 have e:=getElem?_mirror_all (i:=a) hb i;split
 ·next q=>rw[if_pos q]at e;exact AQ e
 ·next q=>rw[if_neg q]at e;exact AQ e
theorem uE{ρ:Keyed->Int}{xs:Array Keyed}{a b:Nat}(hb:b<=xs.size)
  (h:∀i,a<=i->i<b->rk ρ xs i=rk ρ xs (b-1)) (i:Nat):rk ρ (mirror xs a b ((b-a) / 2)) i=rk ρ xs i:=by
 rw[qP hb];by_cases q:a<=i/\i<b
 ·rw[if_pos q];have h1:=h (a+b-1-i) (by omega) (by omega);have h2:=h i q.1 q.2
  lia
 ·rw[if_neg q]
def Tells(M:Model)(A:Around)(E:Value->Shared->Prop)(s:Shared)(k:SortKind)(z:Array Keyed)(ρ:Keyed->Int):Prop :=
 ∀(p q:Keyed) (t:SortSt) (Q:Option Bool->SortSt->Prop),p∈z.toList->q∈z.toList->kindOf t=k ->
  Q (some (decide (ρ p<ρ q))) t->wpS M A E s (lt' p q) Q t
section
variable{M:Model}{A:Around}{E:Value->Shared->Prop}{s:Shared}{k:SortKind}{z:Array Keyed}{ρ:Keyed->Int}
theorem Kept.len{t:SortSt}(h:Kept k z t):(arrOf t).size=z.size:=h.pm.size_eq
theorem Kept.put{t:SortSt}(h:Kept k z t){xs:Array Keyed}(q:xs.Perm (arrOf t)):Kept k z (setArr t xs) :=
 ⟨h.kd,q.trans h.pm,h.nf,h.np⟩
theorem Kept.nth{t:SortSt}(h:Kept k z t){i:Nat}(hi:i<z.size) :
  ∃p,(arrOf t)[i]?=some p/\p∈z.toList/\rk ρ (arrOf t) i=ρ p:=by
 have hi':i<(arrOf t).size:=by rw[h.len];exact hi
 have e:(arrOf t)[i]?=some (arrOf t)[i]:=getElem?_pos _ i hi';refine⟨_,e,(Array.perm_iff_toList_perm.mp h.pm).mem_iff.mp (by simp),?_⟩;simp[rk,e]
theorem less(T:Tells M A E s k z ρ){t:SortSt}(h:Kept k z t){i j:Nat}(hi:i<z.size)(hj:j<z.size){Q:Option Bool->SortSt->Prop}
  (q:Q (some (decide (rk ρ (arrOf t) i<rk ρ (arrOf t) j))) t):wpS M A E s (ltAt' i j) Q t:=by
 obtain⟨a,ea,ma,ra⟩:=h.nth (ρ:=ρ) hi;obtain⟨b,eb,mb,rb⟩:=h.nth (ρ:=ρ) hj;rw[ra,rb]at q;rw[ltAt'_eq];refine wpS_bind (wpS_get ?_);have e1:elem' (arrOf t) i=pure a:=by rw[elem'_eq,ea]
 have e2:elem' (arrOf t) j=pure b:=by rw[elem'_eq,eb]
 show wpS M A E s (elem' (arrOf t) i >>= λu=>elem' (arrOf t) j >>= λv=>lt' u v) Q t;rw[e1,e2];exact wpS_bind (wpS_pure (wpS_bind (wpS_pure (T a b t Q ma mb h.kd q))))
def Slot(ρ:Keyed->Int)(xs:Array Keyed)(m l r:Nat):Prop :=
 l<=r/\r<=m/\(∀i,i<l->rk ρ xs i<=rk ρ xs m)/\(∀i,r<=i->i<m->rk ρ xs m<rk ρ xs i)
theorem Up.slotted{xs:Array Keyed}{m l:Nat}(hm:m<xs.size)(hu:Up ρ xs m)(h:Slot ρ xs m l l):Up ρ (bubble xs m (m-l)) (m+1):=by
 obtain⟨_,h2,h3,h4⟩:=h;intro i j hij hj;have el:m-(m-l)=l:=by lia
 rw[xJ hm (by lia),xJ hm (by lia),el];by_cases c1:i<l
 ·rw[if_neg (by lia),if_neg (by lia)];by_cases c2:j=l
  ·rw[if_pos c2];exact h3 i c1
  ·rw[if_neg c2];by_cases c3:l<j/\j<=m
   ·rw[if_pos c3];exact hu _ _ (by lia) (by omega)
   ·rw[if_neg c3];exact hu _ _ hij (by lia)
 ·by_cases c2:j=l
  ·have:i=l:=by lia
   rw[if_pos c2,if_pos this];exact Int.le_refl _
  ·rw[if_neg c2,if_pos (show l<j/\j<=m by lia)];by_cases c3:i=l
   ·rw[if_pos c3];exact Int.le_of_lt (h4 _ (by lia) (by lia))
   ·rw[if_neg c3,if_pos (by lia)];exact hu _ _ (by omega) (by lia)
theorem JX(T:Tells M A E s k z ρ){t:SortSt}{n d:Nat}(hn:n<=z.size)(hd:d<=n)(hK:Kept k z t)(hu:Up ρ (arrOf t) d)
  {Q:Bool->SortSt->Prop}(q:∀t',Kept k z t'->Up ρ (arrOf t') n->Q true t'):wpS M A E s (binarySort' 0 n d) Q t:=by
 rw[binarySort'_eq];simp only[Nat.zero_add];refine wpS_bind (wpS_mono (wpS_forRange (Q:=λc t'=>c=(none,())/\Kept k z t'/\Up ρ (arrOf t') n)
  (λm c t'=>c=(none,())/\Kept k z t'/\Up ρ (arrOf t') (min m n)) ?_ ?_ ?_) λc t' h=>by obtain⟨rfl,a,b⟩:=h;exact wpS_pure (q t' a b))
 ·rintro m c t' h1 h2 ⟨rfl,hK',hu'⟩;rw[Nat.min_eq_left (by lia)]at hu';have hm:m<z.size:=by lia
  have hm':m<(arrOf t').size:=by rw[hK'.len];exact hm
  refine wpS_bind (wpS_mono (wpS_forRange (Q:=λc t2=>t2=t'/\∃l,c=(none,l,l)/\Slot ρ (arrOf t') m l l)
   (λx c t2=>t2=t'/\∃l r,c=(none,l,r)/\r-l<=m-x/\Slot ρ (arrOf t') m l r) ?_ ?_ ?_) ?_)
  ·rintro x c t2 _ hx ⟨rfl,l,r,rfl,hs,hS⟩;dsimp only;obtain⟨s1,s2,s3,s4⟩:=hS;by_cases hlr:l>=r
   ·rw[if_pos hlr];exact wpS_pure ⟨rfl,l,by rw[show r=l by lia],Nat.le_refl _,by lia,s3,λi a b=>s4 i (by lia) b⟩
   ·rw[if_neg hlr];refine wpS_bind (less T hK' hm (show(l+r) / 2<z.size by lia) ?_);by_cases hc:rk ρ (arrOf t2) m<rk ρ (arrOf t2) ((l+r) / 2)
    ·rw[decide_eq_true hc];simp only[if_true];refine wpS_pure ⟨rfl,l,(l+r) / 2,rfl,by omega,by lia,by lia,s3,λi a b=>?_⟩;exact Int.lt_of_lt_of_le hc (hu' _ _ a b)
    ·rw[decide_eq_false hc];simp only[Bool.false_eq_true,if_false];refine wpS_pure ⟨rfl,(l+r) / 2+1,r,rfl,by omega,by lia,by lia,λi a=>?_,s4⟩;have:=hu' i ((l+r) / 2) (by lia) (by lia)
     lia
  ·rintro c t2 ⟨rfl,l,r,rfl,hs,hS⟩;have e:r=l:=by have:=hS.1;lia
   subst e;exact⟨rfl,_,rfl,hS⟩
  ·exact⟨rfl,0,m,rfl,by lia,by lia,by lia,λi a=>by lia,λi a b=>by lia⟩
  ·rintro c t2 ⟨rfl,l,rfl,hS⟩;dsimp only;rw[moveDown'_eq];refine wpS_bind (wpS_modify (wpS_pure ⟨rfl,hK'.put (bubble_perm _ _ _),?_⟩));rw[Nat.min_eq_left (by lia)];exact hu'.slotted hm' hS
 ·rintro c t' ⟨e,hK',hu'⟩;refine⟨e,hK',?_⟩
  rwa [show min (max (max d 1) n) n=n by lia]at hu'
 ·refine⟨rfl,hK,λi j hij hj=>?_⟩;by_cases hd0:d=0
  ·rw[show i=j by lia];exact Int.le_refl _
  ·exact hu i j hij (by lia)
end
end SO
namespace SO
open PySem PyProof PyProof.Rows
section
variable{prog:Program}{w:World}{A:Around}{E:Value->Shared->Prop}{s:Shared}{k:SortKind}{z:Array Keyed}{ρ:Keyed->Int}
theorem Up.one(xs:Array Keyed){m:Nat}(h:m<=1):Up ρ xs m:=λi j a b=>by
 rw[show i=j by lia];exact Int.le_refl _
theorem Up.more{xs:Array Keyed}{m:Nat}(hu:Up ρ xs m)(h:¬rk ρ xs m<rk ρ xs (m-1)):Up ρ xs (m+1):=by
 intro i j a b;by_cases c:j<m
 ·exact hu i j a c
 ·rw[show j=m by lia];by_cases c2:i=m
  ·rw[c2];exact Int.le_refl _
  ·have:=hu i (m-1) (by lia) (by lia);lia
theorem Dn.more{xs:Array Keyed}{m:Nat}(hu:Dn ρ xs m)(h:rk ρ xs m<=rk ρ xs (m-1)):Dn ρ xs (m+1):=by
 intro i j a b;by_cases c:j<m
 ·exact hu i j a c
 ·rw[show j=m by lia];by_cases c2:i=m
  ·rw[c2];exact Int.le_refl _
  ·have:=hu i (m-1) (by lia) (by lia);lia
theorem Dn.same{xs ys:Array Keyed}{m:Nat}(hu:Dn ρ xs m)(h:∀i,rk ρ ys i=rk ρ xs i):Dn ρ ys m:=λi j a b=>by
 rw[h,h];exact hu i j a b
theorem Dn.turned{xs:Array Keyed}{m:Nat}(hm:m<=xs.size)(hu:Dn ρ xs m):Up ρ (mirror xs 0 m ((m-0) / 2)) m:=λi j a b=>by
 rw[qP hm,qP hm,if_pos (by lia),if_pos (by lia)];exact hu _ _ (by omega) (by omega)
theorem rising(T:Tells (model prog w) A E s k z ρ){t:SortSt}{a n:Nat}(hn:n<=z.size)(h1:1<=a)(h2:a<=n)(hK:Kept k z t)(hu:Up ρ (arrOf t) a)
  {Q:AscSt->SortSt->Prop}
  (q:∀m,a<=m->m<=n->Up ρ (arrOf t) m->(m=n\/rk ρ (arrOf t) m<rk ρ (arrOf t) (m-1))->Q (none,m) t) :
  wpS (model prog w) A E s (ascLoop a n) Q t:=by
 unfold ascLoop;refine wpS_forRange (λx c t'=>c=(none,x)/\t'=t/\Up ρ (arrOf t) x) ?_ ?_ ⟨rfl,rfl,hu⟩
 ·rintro x c t' g1 g2 ⟨rfl,rfl,hx⟩;dsimp only;refine wpS_bind (less T hK (show x<z.size by lia) (show x-1<z.size by lia) ?_);by_cases c:rk ρ (arrOf t') x<rk ρ (arrOf t') (x-1)
  ·rw[decide_eq_true c];simp only[if_true];exact wpS_pure (q x g1 (by lia) hx (Or.inr c))
  ·rw[decide_eq_false c];simp only[Bool.false_eq_true,if_false];exact wpS_pure ⟨rfl,rfl,hx.more c⟩
 ·rintro c t' ⟨rfl,rfl,hx⟩;have e:max a n=n:=by lia
  rw[e]at hx ⊢;exact q n h2 (Nat.le_refl _) hx (Or.inl rfl)
def Flat(ρ:Keyed->Int)(xs:Array Keyed)(m e:Nat):Prop:=e+1<=m/\∀i,m-(e+1)<=i->i<m->rk ρ xs i=rk ρ xs (m-1)
theorem Flat.nought(xs:Array Keyed){m:Nat}(h:1<=m):Flat ρ xs m 0:=⟨h,λi a b=>by rw[show i=m-1 by lia]⟩
theorem Flat.more{xs:Array Keyed}{m e:Nat}(h:Flat ρ xs m e)(g:rk ρ xs m=rk ρ xs (m-1)):Flat ρ xs (m+1) (e+1) :=
 ⟨by have:=h.1;lia,λi a b=>by
  rw[show m+1-1=m by lia];by_cases c:i=m
  ·rw[c]
  ·rw[g];exact h.2 i (by lia) (by lia)⟩
theorem back(T:Tells (model prog w) A E s k z ρ){t:SortSt}{m n:Nat}(hn:n<=z.size)(h1:1<=m)(h2:m<=n)(hK:Kept k z t)(hd:Dn ρ (arrOf t) m)
  {Q:Option Nat->SortSt->Prop}(q:∀m' t',1<=m'->m'<=n->Kept k z t'->Up ρ (arrOf t') m'->Q (some m') t') :
  wpS (model prog w) A E s (tail3 m n) Q t:=by
 unfold tail3;have hs:m<=(arrOf t).size:=by rw[hK.len];lia
 refine wpS_bind (wpS_reverse ?_);have hK':=hK.put (mirror_perm (arrOf t) 0 m ((m-0) / 2));refine wpS_bind (rising T hn h1 h2 hK' (hd.turned hs) λm' g1 g2 g3 _=>?_);exact wpS_pure (q m' _ (by lia) g2 hK' g3)
theorem M0(T:Tells (model prog w) A E s k z ρ){t:SortSt}{m n:Nat}(hn:n<=z.size)(h1:1<=m)(h2:m<=n)(hK:Kept k z t)(hd:Dn ρ (arrOf t) m)
  {Q:DescSt->SortSt->Prop}
  (q:∀m' e t',1<=m'->m'<=n->Kept k z t'->Dn ρ (arrOf t') m'->Flat ρ (arrOf t') m' e->Q (none,m',e) t') :
  wpS (model prog w) A E s (descLoop m n) Q t:=by
 unfold descLoop;refine wpS_forRange (λx c t'=>∃e,c=(none,x,e)/\Kept k z t'/\Dn ρ (arrOf t') x/\Flat ρ (arrOf t') x e) ?_ ?_ ⟨0,rfl,hK,hd,Flat.nought _ h1⟩
 ·rintro x c t' g1 g2 ⟨e,rfl,hK',hx,hF⟩;dsimp only;have hs:x<=(arrOf t').size:=by rw[hK'.len];lia
  refine wpS_bind (less T hK' (show x<z.size by lia) (show x-1<z.size by lia) ?_);by_cases c:rk ρ (arrOf t') x<rk ρ (arrOf t') (x-1)
  ·rw[decide_eq_true c];simp only[if_true];have hm:=hx.more (Int.le_of_lt c);by_cases c2:e>0
   ·rw[if_pos c2];refine wpS_bind (wpS_reverse (wpS_pure ⟨0,rfl,hK'.put (mirror_perm _ _ _ _),hm.same (uE hs hF.2),Flat.nought _ (by lia)⟩))
   ·rw[if_neg c2];exact wpS_pure ⟨0,rfl,hK',hm,Flat.nought _ (by lia)⟩
  ·rw[decide_eq_false c];simp only[Bool.false_eq_true,if_false];refine wpS_bind (less T hK' (show x-1<z.size by lia) (show x<z.size by lia) ?_);by_cases c2:rk ρ (arrOf t') (x-1)<rk ρ (arrOf t') x
   ·rw[decide_eq_true c2];simp only[if_true];exact wpS_pure (q x e t' (by lia) (by lia) hK' hx hF)
   ·rw[decide_eq_false c2];simp only[Bool.false_eq_true,if_false];have e2:rk ρ (arrOf t') x=rk ρ (arrOf t') (x-1):=by lia
    exact wpS_pure ⟨e+1,rfl,hK',hx.more (by lia),hF.more e2⟩
 ·rintro c t' ⟨e,rfl,hK',hx,hF⟩;have e2:max m n=n:=by lia
  rw[e2]at hx hF ⊢;exact q n e t' (by lia) (Nat.le_refl _) hK' hx hF
theorem KG(T:Tells (model prog w) A E s k z ρ){t:SortSt}{m n:Nat}(hn:n<=z.size)(h2:m+1<=n)(hK:Kept k z t)(hd:Dn ρ (arrOf t) (m+1))
  {Q:Option Nat->SortSt->Prop}(q:∀m' t',1<=m'->m'<=n->Kept k z t'->Up ρ (arrOf t') m'->Q (some m') t') :
  wpS (model prog w) A E s (descPart m n) Q t:=by
 unfold descPart;refine wpS_bind (wpS_lift (wpAny_rule ⟨rfl,?_⟩));refine wpS_bind (M0 T hn (by lia) h2 hK hd λm' e t' g1 g2 g3 g4 g5=>?_);dsimp only;have hs:m'<=(arrOf t').size:=by rw[g3.len];lia
 by_cases c:e>0
 ·rw[if_pos c];exact wpS_bind (wpS_reverse (back T hn g1 g2 (g3.put (mirror_perm _ _ _ _)) (g4.same (uE hs g5.2)) q))
 ·rw[if_neg c];exact back T hn g1 g2 g3 g4 q
theorem run(T:Tells (model prog w) A E s k z ρ){t:SortSt}{n:Nat}(hn:n<=z.size)(h1:1<=n)(hK:Kept k z t)
  {Q:Option Nat->SortSt->Prop}(q:∀m' t',1<=m'->m'<=n->Kept k z t'->Up ρ (arrOf t') m'->Q (some m') t') :
  wpS (model prog w) A E s (countRun' 0 n) Q t:=by
 rw[countRun0_eq];refine wpS_bind (rising T hn (Nat.le_refl 1) h1 hK (Up.one _ (Nat.le_refl 1)) λm g1 g2 g3 g4=>?_);dsimp only;by_cases c:m=n
 ·rw[if_pos (by simpa using c)];exact wpS_pure (q m t g1 g2 hK g3)
 rw[if_neg (by simpa using c)];have lt:=g4.resolve_left c;have hs:m<=(arrOf t).size:=by rw[hK.len];lia
 by_cases c2:m>1
 ·rw[if_pos c2];refine wpS_bind (less T hK (show 0<z.size by lia) (show m-1<z.size by lia) ?_);by_cases c3:rk ρ (arrOf t) 0<rk ρ (arrOf t) (m-1)
  ·rw[decide_eq_true c3];simp only[if_true];exact wpS_pure (q m t g1 g2 hK g3)
  ·rw[decide_eq_false c3];simp only[Bool.false_eq_true,if_false];have lev:∀i,0<=i->i<m->rk ρ (arrOf t) i=rk ρ (arrOf t) (m-1):=λi _ b=>by
    have a1:=g3 0 i (by lia) b;have a2:=g3 i (m-1) (by lia) (by lia)
    lia
   have hd:Dn ρ (arrOf t) m:=λi j a b=>by
    rw[lev i (by lia) (by lia),lev j (by lia) b];exact Int.le_refl _
   exact wpS_bind (wpS_reverse (KG T hn (by lia) (hK.put (mirror_perm _ _ _ _)) ((hd.more (Int.le_of_lt lt)).same (uE hs lev)) q))
 ·rw[if_neg c2];have e:m=1:=by lia
  have hd:Dn ρ (arrOf t) m:=λi j a b=>by rw[show i=j by lia];exact Int.le_refl _
  exact KG T hn (by lia) hK (hd.more (Int.le_of_lt lt)) q
end
end SO
namespace SO
open PySem PyProof PyProof.Rows
section
variable{prog:Program}{w:World}{A:Around}{E:Value->Shared->Prop}{s:Shared}{k:SortKind}{z:Array Keyed}{ρ:Keyed->Int}
def KW(ρ:Keyed->Int)(z:Array Keyed)(t:SortSt):Prop :=
 (arrOf t).Perm z/\Up ρ (arrOf t) z.size/\failedOf t=none/\(pendingOf t).size<=1
theorem Kept.ended{t:SortSt}(h:Kept k z t)(hu:Up ρ (arrOf t) z.size)(x:Nat×Nat×Nat):KW ρ z (setPending t ((pendingOf t).push x)):=by
 refine⟨h.pm,hu,h.nf,?_⟩;show((pendingOf t).push x).size<=1;rw[h.np];exact Nat.le_refl 1
theorem ordered(T:Tells (model prog w) A E s k z ρ){t:SortSt}(h2:2<=z.size)(h64:z.size<64)(hK:Kept k z t)
  {Q:Unit->SortSt->Prop}(q:∀t',(arrOf t').Perm z->failedOf t'=none->Up ρ (arrOf t') z.size->Q () t') :
  wpS (model prog w) A E s sortRuns' Q t:=by
 have least:minRun' z.size z.size 0=z.size:=by
  cases e:z.size with
  |zero=>lia
  |succ f=>rw[e]at h64;rw[minRun'_succ,if_pos h64]
 rw[sortRuns'_eq];refine wpS_bind (wpS_get ?_);dsimp only;simp only[hK.len,least];refine wpS_bind (wpS_mono (wpS_forRange (Q:=λc t'=>c=(none,z.size)/\KW ρ z t')
  (λx c t'=>(x=0/\c=(none,0)/\Kept k z t')\/(0<x/\c=(none,z.size)/\KW ρ z t')) ?_ ?_ ?_) ?_)
 ·rintro x c t' _ hx (⟨rfl,rfl,hK'⟩ | ⟨g,rfl,hE⟩)
  ·dsimp only;rw[if_neg (by lia)];simp only[Nat.sub_zero,Nat.min_self,Nat.zero_add];refine wpS_bind (run T (Nat.le_refl _) (by lia) hK' λm t2 g1 g2 g3 g4=>?_);dsimp only;by_cases c:m<z.size
   ·rw[if_pos c];refine wpS_bind (wpS_lift (wpAny_rule ⟨rfl,?_⟩));refine wpS_bind (JX T (Nat.le_refl _) g2 g3 g4 λt3 g5 g6=>?_);simp only[Bool.not_true,Bool.false_eq_true,if_false];refine wpS_bind (wpS_get ?_);have e:(pendingOf t3).back?=none:=by rw[g5.np];rfl
    rw[e];exact wpS_bind (wpS_modify (wpS_pure (Or.inr ⟨by lia,rfl,g5.ended g6 _⟩)))
   ·rw[if_neg c];have e1:m=z.size:=by lia
    subst e1;refine wpS_bind (wpS_get ?_);have e:(pendingOf t2).back?=none:=by rw[g3.np];rfl
    rw[e];exact wpS_bind (wpS_modify (wpS_pure (Or.inr ⟨by lia,rfl,g3.ended g4 _⟩)))
  ·dsimp only;rw[if_pos (Nat.le_refl _)];exact wpS_pure ⟨rfl,hE⟩
 ·rintro c t' (⟨g,_,_⟩ | ⟨_,e,hE⟩)
  ·lia
  ·exact⟨e,hE⟩
 ·exact Or.inl ⟨rfl,rfl,hK⟩
 ·rintro c t' ⟨rfl,hE⟩;dsimp only;refine wpS_bind (wpS_mono (wpS_forRange (Q:=λc t2=>c=(none,())/\t2=t') (λ_ c t2=>c=(none,())/\t2=t') ?_ (λ_ _ h=>h) ⟨rfl,rfl⟩) ?_)
  ·rintro x c t2 _ _ ⟨rfl,rfl⟩;refine wpS_bind (wpS_get ?_);rw[if_pos hE.2.2.2];exact wpS_pure ⟨rfl,rfl⟩
  ·rintro c t2 ⟨rfl,rfl⟩;exact wpS_pure (q _ hE.1 hE.2.2.1 hE.2.1)
def mQ(h:Heap)(a:Addr)(vs:List Value):Heap :=
 ((h.update a (Obj.mapSeq λ_=>#[])).push (seqObj "tuple" vs.toArray 0)).push (seqObj "list" #[] 0)
abbrev cS(vs:List Value):Array Keyed:=vs.toArray.zip vs.toArray
theorem gC(vs:List Value):(cS vs).size=vs.length:=by simp[cS]
theorem xC{a:Addr}{vs:List Value}{n:Nat}{P:Fin->Shared->Prop}(ho:s.heap.get? a=some (seqObj "list" vs.toArray n))(h64:vs.length<64)
  (hk:2<=vs.length->∀{Q:SortKind->Shared->Prop},Q k { s with heap:=mQ s.heap a vs }->wpAny (model prog w) A (keyKind' vs.toArray) Q E { s with heap:=mQ s.heap a vs })
  (T:Tells (model prog w) A (λ_ _=>False) { s with heap:=mQ s.heap a vs } k (cS vs) ρ)
  (h:∀xs:Array Keyed,xs.Perm (cS vs)->Up ρ xs vs.length->P (.done (.ret .none)) { s with heap:=sortedHeap s.heap a vs (xs.map (·.2)) }) :
  wpAny (model prog w) A (Builtin.«list.sort» ⟨[.ref a],[]⟩) P E s:=by
 have ha:a<s.heap.objs.size:=Heap.lt_size ho;obtain⟨n1,ho1⟩:∃n1,(s.heap.update a (Obj.mapSeq λ_=>#[])).get? a=some (seqObj "list" #[] n1):=⟨_,get?_update_seq ho (λ_=>#[])⟩
 have ho2:(mQ s.heap a vs).get? a=some (seqObj "list" #[] n1):=Heap.get?_push_of_some _ (Heap.get?_push_of_some _ ho1);have room:∀xs:Array Keyed,xs.Perm (cS vs)->(xs.map (·.2)).size<=ZW+1:=λxs p=>by
  rw[Array.size_map,p.size_eq,gC,sizeLine_eq];lia
 rw[list_sort_plain];refine ZZ (listItems_at ho rfl ?_);refine ZZ (listUpdate_at ho rfl ?_);refine ZZ (seqEpoch_at ho1 rfl ?_);refine ZZ (wpAny_newTuple ?_);refine ZZ (wpAny_newList ?_);refine ZU ?_;show wpAny (model prog w) A _ P E { s with heap:=mQ s.heap a vs };dsimp only;have last:∀t:SortSt,(arrOf t).Perm (cS vs)->failedOf t=none->Up ρ (arrOf t) vs.length ->
   wpAny (model prog w) A (do
    let out:=(arrOf t).map (·.2)
    let touched:=(<-seqEpoch a) != n1
    Builtin.List.listUpdate (.ref a) λ_=>out
    if let some e:=failedOf t then rule "list.sort.comparison-raised";throw e
    if touched then rule "list.sort.modified";raiseError "ValueError" "list modified during sort"
    ret .none) P E { s with heap:=mQ s.heap a vs }:=by
  intro t p f u;refine ZZ (seqEpoch_at ho2 rfl ?_);refine ZZ (listUpdate_at ho2 rfl ?_ (hsz2:=room _ p));rw[f];simp only[bne_self_eq_false,Bool.false_eq_true,if_false];exact ZY (h _ p u)
 by_cases c:vs.length<2
 ·have c':vs.toArray.size<2:=by simpa using c
  rw[if_pos c',if_pos c'];refine ZZ (ZY ?_);rw[StateT.run_pure];refine ZZ (ZY ?_);exact last (SortSt.mk' general' (cS vs) #[] 7 none) (Array.Perm.refl _) rfl (Up.one _ (by lia))
 ·have c':¬vs.toArray.size<2:=by simpa using c
  rw[if_neg c',if_neg c'];refine ZZ (hk (by lia) ?_);refine ZZ (ZX (ordered (Q:=λ_ t=>(arrOf t).Perm (cS vs)/\failedOf t=none/\Up ρ (arrOf t) (cS vs).size) T
   (t:=SortSt.mk' k (cS vs) #[] 7 none) (by rw[gC];lia) (by rw[gC];exact h64) ⟨rfl,Array.Perm.refl _,rfl,rfl⟩
   λt' a1 a2 a3=>⟨a1,a2,a3⟩) ?_ λ_ _ e=>e.elim)
  rintro⟨⟨⟩,t⟩ s' ⟨rfl,p,f,u⟩;rw[gC]at u;exact last t p f u
def ahead(h:Heap)(vs:List Value):Heap :=
 ((h.push (seqObj "list" #[] 0)).update h.objs.size (Obj.mapSeq (·++vs.toArray))).push (seqObj "list" vs.toArray 0)
theorem AH{l:Addr}{vs:List Value}{Q:Value->Shared->Prop}(hl:s.heap.IsList l vs.toArray)(h64:vs.length<64)
  (hk:2<=vs.length->∀{E:Value->Shared->Prop}{Q:SortKind->Shared->Prop},Q k { s with heap:=mQ (ahead s.heap vs) (s.heap.objs.size+1) vs } ->
   wpAny (model prog w) A.in1.in1 (keyKind' vs.toArray) Q E { s with heap:=mQ (ahead s.heap vs) (s.heap.objs.size+1) vs })
  (T:Tells (model prog w) A.in1.in1 (λ_ _=>False) { s with heap:=mQ (ahead s.heap vs) (s.heap.objs.size+1) vs } k (cS vs) ρ)
  (h:∀xs:Array Keyed,xs.Perm (cS vs)->Up ρ xs vs.length->Q (.ref (s.heap.objs.size+1)) { s with heap:=sortedAll s.heap vs (xs.map (·.2)) }) :
  wpAny (model prog w) A (call (.builtin "sorted") [.ref l]) Q E s:=by
 have sz:((s.heap.push (seqObj "list" #[] 0)).update s.heap.objs.size (Obj.mapSeq (·++vs.toArray))).objs.size=s.heap.objs.size+1:=by
  rw[Heap.size_update,size_push']
 have ho:(ahead s.heap vs).get? (s.heap.objs.size+1)=some (seqObj "list" vs.toArray 0):=by
  unfold ahead;rw[<-sz];exact Heap.get?_push_size _ rfl
 refine Calls.call_function_entry kind_sorted plain_sorted entry_sorted (args_sorted1 _) ?_;unfold Builtin.«sorted»;refine ZZ (m:=checkCount "sorted" 1 1 _) (ZY ?_);refine ZZ (collect_list hl ?_);refine ZZ (wpAny_newList ?_);rw[sz];show wpAny (model prog w) _ _ _ _ { s with heap:=ahead s.heap vs };refine ZZ (ZU (wpAny_call_entry slot_list_sort ⟨_,ho,rfl⟩ entry_list_sort
  (xC (s:={ s with heap:=ahead s.heap vs }) (k:=k) (ρ:=ρ) ho h64 (λg _ q=>hk g q) T λxs p u=>⟨_,rfl,?_⟩) (args_list_sort _)))
 exact ZY ⟨_,rfl,h xs p u⟩
end
end SO
namespace SO
def lx:List Int->List Int->Bool
 |[],[]=>false
 |[],_::_=>true
 |_::_,[]=>false
 |a::x,b::y=>if a=b then lx x y else decide (a<b)
theorem EO:∀x:List Int,lx x x=false
 |[]=>rfl
 |a::x=>by unfold lx;rw[if_pos rfl];exact EO x
theorem uU:∀x y u:List Int,lx x y=true->lx y u=true->lx x u=true
 |[],[],_,h,_=>by simp[lx]at h
 |[],_::_,[],_,h=>by simp[lx]at h
 |[],_::_,_::_,_,_=>rfl
 |_::_,[],_,h,_=>by simp[lx]at h
 |_::_,_::_,[],_,h=>by simp[lx]at h
 |a::x,b::y,c::u,h1,h2=>by
  unfold lx at h1 h2 ⊢;by_cases e1:a=b
  ·rw[if_pos e1]at h1;by_cases e2:b=c
   ·rw[if_pos e2]at h2;rw[if_pos (e1.trans e2)];exact uU x y u h1 h2
   ·rw[if_neg e2]at h2;rw[if_neg (by lia)];rw[e1];exact h2
  ·rw[if_neg e1]at h1;have l1:=of_decide_eq_true h1;by_cases e2:b=c
   ·rw[if_neg (by lia)];exact decide_eq_true (by lia)
   ·rw[if_neg e2]at h2;have l2:=of_decide_eq_true h2;rw[if_neg (by lia)];exact decide_eq_true (by lia)
theorem uV:∀x y:List Int,lx x y=false->lx y x=false->x=y
 |[],[],_,_=>rfl
 |[],_::_,h,_=>by simp[lx]at h
 |_::_,[],_,h=>by simp[lx]at h
 |a::x,b::y,h1,h2=>by
  unfold lx at h1 h2;by_cases e:a=b
  ·rw[if_pos e]at h1;rw[if_pos e.symm]at h2;rw[e,uV x y h1 h2]
  ·rw[if_neg e]at h1;rw[if_neg (λg=>e g.symm)]at h2;have l1:=of_decide_eq_false h1;have l2:=of_decide_eq_false h2;lia
def place(L:List (List Int))(x:List Int):Nat:=L.countP λy=>lx y x
theorem IX(L:List (List Int)){x y:List Int}(h:lx x y=true):place L x<=place L y :=
 List.countP_mono_left λu _ g=>uU u x y g h
theorem place_lt:∀(L:List (List Int)) {x y:List Int},x∈L->lx x y=true->place L x<place L y
 |[],_,_,m,_=>by cases m
 |u::L,x,y,m,h=>by
  unfold place;rw[List.countP_cons,List.countP_cons];have a:=IX L h;unfold place at a;by_cases e:u=x
  ·subst e;rw[EO,h];simp;lia
  ·have b:=place_lt L (x:=x) (y:=y) (by cases m with | head=>exact absurd rfl e | tail _ g=>exact g) h;unfold place at b;by_cases g:lx u x=true
   ·rw[g,uU _ _ _ g h];simp;lia
   ·have g':lx u x=false:=by simpa using g
    rw[g'];simp;lia
theorem xM(L:List (List Int)){x y:List Int}(hx:x∈L)(hy:y∈L):decide ((place L x:Int)<place L y)=lx x y:=by
 cases h:lx x y with
 |true=>exact decide_eq_true (by have:=place_lt L hx h;lia)
 |false =>
  refine decide_eq_false ?_;cases g:lx y x with
  |true=>have:=place_lt L hy g;lia
  |false=>rw[uV x y h g];lia
end SO
namespace SO
open PySem PyProof PyProof.Rows
section
variable{prog:Program}{w:World}{A:Around}{E:Value->Shared->Prop}{s:Shared}
theorem MA(b:Bool){x y:Int}{t u:Tok}{Q:Bool->Shared->Prop}(h:Q (decide (x<y)) s):wpAny (model prog w) A (oneLt' b (.int x t) (.int y u)) Q E s:=by
 cases b with
 |true=>exact oneLt_int h
 |false=>exact PySem.W.kat_one _ _ (wpAny_lt_int h)
theorem BB{b fin:Bool}{Q:Bool->Shared->Prop}:∀{xs ys:List Value}{ns ms:List Int}(i:Nat),IntsAre xs ns->IntsAre ys ms ->
  fin=decide (ns.length<ms.length)->Q (lx ns ms) s->PySem.W.KatLex prog w A b fin Q (xs.zip ys) i s
 |_,_,_,_,i,.nil,.nil,e,q=>by subst e;exact PySem.W.kat_nil q
 |_,_,_,_,i,.nil,.cons _ _ _,e,q=>by
  subst e;refine PySem.W.kat_nil ?_;rw[decide_eq_true (by simp)];exact q
 |_,_,_,_,i,.cons _ _ _,.nil,e,q=>by
  subst e;refine PySem.W.kat_nil ?_;rw[decide_eq_false (by simp)];exact q
 |_,_,_,_,i,.cons (vs:=xs) (ns:=ns) n t hx,.cons (vs:=ys) (ns:=ms) m u hy,e,q=>by
  rw[List.zip_cons_cons];refine PySem.W.kat_cons (wpAny_eqBool_int ?_);unfold lx at q;by_cases c:n=m
  ·rw[if_pos c]at q;rw[show(n==m)=true by simpa using c];refine PySem.W.kat_yes (BB (i+1) hx hy ?_ q);rw[e];simp
  ·rw[if_neg c]at q;rw[show(n==m)=false by simpa using c];exact PySem.W.kat_no (MA _ q)
def zT(h:Heap)(vs:List Value)(kf:Value->List Int):Prop :=
 ∀v∈vs,∃a o xs n,v=.ref a/\h.get? a=some o/\o.cls=.type "tuple"/\o.data=.seq xs n/\IntsAre xs.toList (kf v)
def rank(vs:List Value)(kf:Value->List Int)(p:Keyed):Int:=place (vs.map kf) (kf p.1)
theorem mF{vs:List Value}{p:Keyed}(h:p∈(cS vs).toList):p.1∈vs:=by
 have:p∈vs.zip vs:=by simpa[cS] using h
 exact(List.of_mem_zip (a:=p.1) (b:=p.2) this).1
theorem vB{xs:List Value}{ns:List Int}(h:IntsAre xs ns):xs.length=ns.length:=by
 induction h with
 |nil=>rfl
 |cons _ _ _ ih=>simp[ih]
theorem tT{vs:List Value}{kf:Value->List Int}{b:Bool}(h:zT s.heap vs kf):Tells (model prog w) A E s (tuples' b) (cS vs) (rank vs kf):=by
 intro p q t Q hp hq hk hQ;have mp:=mF hp;have mq:=mF hq;obtain⟨a,o,xs,n,e1,g1,_,d1,i1⟩:=h _ mp;obtain⟨a',o',xs',n',e2,g2,_,d2,i2⟩:=h _ mq;have r:decide (rank vs kf p<rank vs kf q)=lx (kf p.1) (kf q.1):=xM _ (Ym mp) (Ym mq);rw[r]at hQ;rw[lt'_eq];refine wpS_bind (wpS_get ?_);rw[hk,e1,e2];refine wpS_bind (wpS_lift (wpAny_attempt (PySem.W.kat_lt g1 d1 g2 d2 (BB 0 i1 i2 ?_ ⟨rfl,?_⟩))))
 ·have l1:=vB i1;have l2:=vB i2;simp only[Array.length_toList]at l1 l2;rw[l1,l2]
 ·exact wpS_pure hQ
end
end SO
namespace SO
open PySem PyProof PyProof.Rows
open AutoSeq1 (wpAny_loadPart')
theorem EX:∀{xs:List Value}{ns:List Int},IntsAre xs ns->∀i,i<xs.length->∃n t,xs[i]?=some (.int n t)/\ns[i]?=some n
 |_,_,.nil,i,h=>by simp at h
 |_,_,.cons n t _,0,_=>⟨n,t,rfl,rfl⟩
 |_,_,.cons _ _ r,i+1,h=>by
  obtain⟨n,t,e1,e2⟩:=EX r i (by simpa using h);exact⟨n,t,by simpa using e1,by simpa using e2⟩
section
variable{prog:Program}{w:World}{A:Around}{E:Value->Shared->Prop}{s:Shared}
end
end SO
namespace SO
open PySem PyProof PyProof.Rows
theorem zX:∀vs:List Value,vs.zip vs=vs.map λv=>(v,v)
 |[]=>rfl
 |v::vs=>by rw[List.zip_cons_cons,zX vs];rfl
theorem rM(vs:List Value):(cS vs).toList=vs.map λv=>(v,v):=by
 rw[<-zX];simp[cS]
theorem twice{vs:List Value}{q:Keyed}(h:q∈(cS vs).toList):q.2=q.1:=by
 rw[rM]at h;obtain⟨v,_,rfl⟩:=Zh.mp h;rfl
theorem pY{vs:List Value}{kf:Value->List Int}{xs:Array Keyed}(p:xs.Perm (cS vs))(u:Up (rank vs kf) xs vs.length) :
  (xs.map (·.2)).toList.Perm vs/\(xs.map (·.2)).toList.Pairwise λa b=>lx (kf b) (kf a)=false:=by
 have pl:=Array.perm_iff_toList_perm.mp p;constructor
 ·have e:=pl.map (·.2);rw[rM,Yh]at e;have e2:vs.map ((λq:Keyed=>q.2)∘λv=>(v,v))=vs:=by
   have:((λq:Keyed=>q.2)∘λv:Value=>(v,v))=id:=rfl;rw[this,List.map_id]
  rw[e2]at e;rw[Array.toList_map];exact e
 ·rw[Array.toList_map,List.pairwise_map,List.pairwise_iff_getElem];intro i j hi hj hij;have z:xs.size=vs.length:=by rw[p.size_eq,gC]
  have hi':i<xs.size:=by simpa using hi
  have hj':j<xs.size:=by simpa using hj
  have r:=u i j (by lia) (by lia);have mi:xs[i]∈(cS vs).toList:=pl.mem_iff.mp (by simp);have mj:xs[j]∈(cS vs).toList:=pl.mem_iff.mp (by simp);have ri:rk (rank vs kf) xs i=rank vs kf xs[i]:=by simp[rk,hi']
  have rj:rk (rank vs kf) xs j=rank vs kf xs[j]:=by simp[rk,hj']
  rw[ri,rj]at r;have t:=xM (vs.map kf) (x:=kf xs[j].1) (y:=kf xs[i].1) (Ym (mF mj)) (Ym (mF mi));rw[decide_eq_false (by unfold rank at r;lia)]at t;simp only[Array.getElem_toList];rw[twice mi,twice mj];exact t.symm
theorem yK{h:Heap}{vs:List Value}{b:Addr}{o:Obj}(hb:h.get? b=some o):(mQ (ahead h vs) (h.objs.size+1) vs).get? b=some o:=by
 have lt:=Heap.lt_size hb;unfold mQ ahead;refine Heap.get?_push_of_some _ (Heap.get?_push_of_some _ ?_);rw[Heap.get?_update_ne _ _ _ _ (Nat.ne_of_lt (YQ lt))];refine Heap.get?_push_of_some _ ?_;rw[Heap.get?_update_ne _ _ _ _ (Nat.ne_of_lt lt)];exact Heap.get?_push_of_some _ hb
section
variable{prog:Program}{w:World}{A:Around}{E:Value->Shared->Prop}{s:Shared}
theorem zT.mono{h h':Heap}{vs:List Value}{kf:Value->List Int}(H:zT h vs kf)(g:∀b o,h.get? b=some o->h'.get? b=some o):zT h' vs kf:=λv m=>by
 obtain⟨a,o,xs,n,e,g1,r⟩:=H v m;exact⟨a,o,xs,n,e,g _ _ g1,r⟩
end
end SO
namespace L2
open PySem PySem.Spec PyProof.Rows
section
variable{X:Cx}
theorem mB:∀{ps:List Addr}{us:List Value},bI (ps.map V.ref) us->us=ps.map Value.ref
 |[],us,r=>by rw[List.map_nil]at r;cases r;rfl
 |p::ps,us,r=>by
  rw[List.map_cons]at r;cases r with
  |cons a b =>
   rw[mB b];cases a;rfl
theorem qQ:∀(ps:List Addr),bI (ps.map V.ref) (ps.map Value.ref)
 |[]=>.nil
 |_::ps=>.cons rfl (qQ ps)
def keyOf(kf:Addr->List Int):Value->List Int
 |.ref a=>kf a
 |_=>[]
theorem xN{ps:List Addr}{us:List Value}(h:us.Perm (ps.map Value.ref)):∃ps':List Addr,us=ps'.map Value.ref/\ps'.Perm ps:=by
 have e:us=(us.map λu=>match u with | .ref a=>a | _=>0).map Value.ref:=by
  rw[Yh];refine(List.map_id us).symm.trans (Yn λu m=>?_);obtain⟨a,_,rfl⟩:=Zh.mp (h.mem_iff.mp m);rfl
 refine⟨_,e,?_⟩;have g:=h.map λu:Value=>match u with | .ref a=>a | _=>0
 rw[Yh]at g;have i:((λu:Value=>match u with | .ref a=>a | _=>0)∘Value.ref)=id:=rfl;rw[i,List.map_id]at g;exact g
end
end L2
namespace SO
open PySem PyProof PyProof.Rows
section
variable{prog:Program}{w:World}{A:Around}{E:Value->Shared->Prop}{s:Shared}
theorem DL{h:Heap}{kf:Value->List Int}:∀{vs:List Value},zT h vs kf->(∀v∈vs,kf v≠[]) ->
  ∃fs:List Value,PySem.W.KatTups h vs fs/\fs.length=vs.length/\∀f∈fs,∃n t,f=.int n t
 |[],_,_=>⟨[],PySem.W.KatTups.nil,rfl,λ_ m=>by cases m⟩
 |v::vs,H,ne=>by
  obtain⟨fs,k,l,g⟩:=DL (vs:=vs) (λu m=>H u (.tail _ m)) λu m=>ne u (.tail _ m);obtain⟨a,o,xs,n,e,g1,c,d,i⟩:=H v (.head _);have hz:0<xs.toList.length:=by
   rw[vB i];exact List.length_pos_iff.mpr (ne v (.head _))
  obtain⟨n0,t0,e0,_⟩:=EX i 0 hz;subst e;refine⟨.int n0 t0::fs,PySem.W.KatTups.cons g1 c d (by simpa using e0) k,by simp[l],λf m=>?_⟩;cases m with
  |head=>exact⟨n0,t0,rfl⟩
  |tail _ m=>exact g f m
theorem AG{l:Addr}{vs:List Value}{kf:Value->List Int}{Q:Value->Shared->Prop}(hl:s.heap.IsList l vs.toArray)(h64:vs.length<64)
  (H:zT s.heap vs kf) (ne:∀v∈vs,kf v≠[])
  (h:∀out:Array Value,out.toList.Perm vs->(out.toList.Pairwise λa b=>lx (kf b) (kf a)=false)->Q (.ref (s.heap.objs.size+1)) { s with heap:=sortedAll s.heap vs out }) :
  wpAny (model prog w) A (call (.builtin "sorted") [.ref l]) Q E s:=by
 have H':zT (mQ (ahead s.heap vs) (s.heap.objs.size+1) vs) vs kf:=H.mono λ_ _=>yK;refine AH (k:=tuples' true) (ρ:=rank vs kf) hl h64 (λh2 _ _ q=>?_) (tT H') λxs p u=>h _ (pY p u).1 (pY p u).2;obtain⟨fs,k,lf,g⟩:=DL H' ne;refine PySem.W.kat_kind (T:=Value.type "int") k (by lia) (λv m=>?_) (by decide) q;obtain⟨n,t,rfl⟩:=g v m;exact .now
end
end SO
namespace L2
open PySem PySem.Spec PyProof.Rows
section
variable{X:Cx}
theorem pZ:dG X (.builtin "sorted") (λxs H Q=>∃(p:Addr) (ps:List Addr) (kf:Addr->List Int),xs=[.ref p]/\SqL X.K H p (ps.map V.ref)/\(∀q∈ps,kf q≠[]/\SqT X.K H q ((kf q).map V.int))/\ps.length<64 /\
  ∀(l:Addr) (ps':List Addr),H l=none->ps'.Perm ps->(ps'.Pairwise λa b=>SO.lx (kf b) (kf a)=false)->Q (.ref l) (upd H l (.lst (ps'.map V.ref)))):=by
 intro pins s σ H xs us Q I r h;obtain⟨p,ps,kf,rfl,hq,hk,h64,q⟩:=h;obtain⟨u,rfl,rx⟩:=vals1 r;cases rx;obtain⟨its,r',pl,hz⟩:=I.list hq;have ei:=mB r';subst ei;refine SO.AG (kf:=keyOf kf) pl.isList (by rw[Zq];exact h64) (λv m=>?_) (λv m=>?_) λout a1 a2=>?_
 ·obtain⟨a,ma,rfl⟩:=Zh.mp m;obtain⟨its',r2,⟨o,g1,c1,n,d1⟩,_⟩:=I.tuple (hk a ma).2;exact⟨a,o,its'.toArray,n,rfl,g1,c1,d1,(show IntsAre its' (kf a) from intsAre_of r2)⟩
 ·obtain⟨a,ma,rfl⟩:=Zh.mp m;exact(hk a ma).1
 ·obtain⟨ps',e1,e2⟩:=xN a1;rw[e1,List.pairwise_map]at a2;obtain⟨e,he⟩:=sortedAll_at s.heap (ps.map Value.ref) out;refine⟨.ref (s.heap.objs.size+1),_,I.laid (t':=s.toks) (λ_ _=>sortedAll_old) (Nat.le_succ _) (show cH X.prog X.w _ _ _ (.lst (ps'.map V.ref)) from⟨?_,out.toList,e,?_,he⟩),rfl,q _ ps' (I.hok.fresh (Nat.le_succ _)) e2 a2⟩
  ·rw[Zq,e2.length_eq];exact Yr (by lia:ps.length<=64) (by decide)
  ·rw[e1];exact qQ ps'
end
end L2
namespace SO
open PySem PyProof PyProof.Rows
section
variable{prog:Program}{w:World}{A:Around}{E:Value->Shared->Prop}{s:Shared}{k:SortKind}{ρ:Keyed->Int}
end
end SO
namespace L2
open PySem PySem.Spec PyProof.Rows
section
variable{X:Cx}
end
end L2
namespace SO
open PySem PyProof PyProof.Rows
section
variable{prog:Program}{w:World}{A:Around}{E:Value->Shared->Prop}{s:Shared}
end
end SO
namespace L2
open PySem PySem.Spec PyProof.Rows
section
variable{X:Cx}
end
end L2
namespace L2
open PySem PySem.Spec PyProof.Rows
section
variable{X:Cx}
end
end L2
namespace L2
open PySem PySem.Spec PyProof.Rows
section
variable{X:Cx}{pins:List (Addr×Obj)}{σ:St}{H:Hp}{s:Shared}{h':Heap}
theorem Inv.turnedCh{t':Nat}{ch:List Addr}(I:Inv X pins σ H s)(k:∀b u,b∉ch->s.heap.get? b=some u->h'.get? b=some u)(hf:∀b∈ch,kY X pins H b):Inv X pins σ H { s with heap:=h',toks:=t' }:=by
 have nit:∀b u,H b=some u->b∉ch:=λb u e z=>by rw[(hf b z).1]at e;cases e
 refine I.step (g':=s.gens) (d':=s.drawn) (ch:=ch) (λb hb=>?_) (λb o _ _ hc e _=>k b o hc e) (λb o _ _ hc e _=>⟨o.slots,k b o hc e⟩) (λb u hc e n=>n) (λb u hc e=>⟨u,k b u hc e⟩)
  (λb xs e=>e) (λb ob u e=>e) (λb ps e=>⟨#[],by rw[e];simp⟩) (λm hm=>?_) (λb u e=>?_) I.bare
 ·exact⟨(hf b hb).2.2.2.1,(hf b hb).2.1,(hf b hb).2.2.2.2.1,(hf b hb).2.2.2.2.2⟩
 ·obtain⟨ob,es,ep,ho,r⟩:=hm;exact⟨ob,es,ep,k _ ob (λz=>(hf _ z).2.1 rfl) ho,r⟩
 ·refine(I.hok b u e).stay (λc v hc q=>k c v ?_ q) (λc q=>q) λc xs q=>q;rcases hc with z | z
  ·rw[z];exact nit b u e
  ·exact nit c _ z
end
def Itz(a b:Addr):It :=
 ⟨λi H=>∃xs ys x y,H a=some (.lst xs)/\H b=some (.lst ys)/\xs[i]?=some x/\ys[i]?=some y,λi H v H'=>∃T x y,v=.ref T/\H T=none/\H'=upd H T (.tup [x,y])/\(∀xs,H a=some (.lst xs)->xs[i]?=some x)/\∀ys,H b=some (.lst ys)->ys[i]?=some y,λi H=>∃xs ys,H a=some (.lst xs)/\H b=some (.lst ys)/\(xs.length<=i\/ys.length<=i)⟩
theorem HS{P:Program}{w:World}{K:PySem.W.Frag}{elts:List Expr}{k:Nat}{pos:Pos}(a b z TI TO i1 i2:Addr)(d:[z,TI,TO,i1,i2].Nodup) :
  Turn P w K (.Tuple elts k pos) (Itz a b) [z,TI,TO,i1,i2] z (λi h=>IsZip h z TI TO .none/\IsPair h TI (.ref i1) (.ref i2)/\(∃u v,IsPair h TO u v)/\h.IsListIter i1 a i/\h.IsListIter i2 b i):=by
 simp only[List.nodup_cons,Zn,List.not_mem_nil,or_false,not_or]at d;obtain⟨⟨d1,d2,d3,d4⟩,⟨d5,d6,d7⟩,⟨d8,d9⟩,d10,_⟩:=d;have apart:∀{H:Hp}{l l':Addr}{xs ys:List V},H l=some (.lst xs)->H l'=some (.lst ys)->(∀c∈[z,TI,TO,i1,i2],H c=none)->ZipApart z TI TO i1 i2 l l':=λ{H l l' xs ys} h h' hn =>
  ⟨Ne.symm d1,Ne.symm d2,Ne.symm d3,Ne.symm d4,d5,d6,d7,d8,d9,d10,aP h (hn z (by simp)),aP h (hn TO (by simp)),aP h (hn i1 (by simp)),aP h (hn i2 (by simp)),
   aP h' (hn z (by simp)),aP h' (hn TO (by simp)),aP h' (hn i1 (by simp)),aP h' (hn i2 (by simp))⟩
 refine⟨by simp,?_,?_,?_,?_,?_⟩
 ·rintro i h ⟨hz,hTI,⟨u,v,hTO⟩,⟨o1,h1,c1,e1⟩,⟨o2,h2,c2,e2⟩⟩ b' hb;simp only[Zn,List.not_mem_nil,or_false]at hb;rcases hb with rfl | rfl | rfl | rfl | rfl
  ·exact⟨_,hz,λv q=>by have q':Data.fields _=Data.cell v:=q;cases q'⟩
  ·exact⟨_,hTI,λv q=>by have q':Data.seq _ _=Data.cell v:=q;cases q'⟩
  ·exact⟨_,hTO,λv q=>by have q':Data.seq _ _=Data.cell v:=q;cases q'⟩
  ·exact⟨_,h1,λv q=>by rw[e1]at q;cases q⟩
  ·exact⟨_,h2,λv q=>by rw[e2]at q;cases q⟩
 ·rintro i h h' ⟨hz,hTI,⟨u,v,hTO⟩,h1,h2⟩ kk;exact⟨kk z (by simp) _ hz,kk TI (by simp) _ hTI,⟨u,v,kk TO (by simp) _ hTO⟩,h1.at λo e=>kk i1 (by simp) o e,h2.at λo e=>kk i2 (by simp) o e⟩
 ·intro X hP hw hK hc i pins s σ H E I hf st hg;subst hP hw hK;obtain⟨hz,hTI,⟨u,v,hTO⟩,h1,h2⟩:=st;obtain⟨xs,ys,x,y,ha,hb,hx,hy⟩:=hg;have D:=apart ha hb λc hc=>(hf c hc).1;obtain⟨_,its,n,rv,hl,e⟩:=I.lstM ha;obtain⟨_,its2,n2,rv2,hl2,e2⟩:=I.lstM hb;obtain⟨u1,hu1,ru1⟩:=rv.get hx;obtain⟨u2,hu2,ru2⟩:=rv2.get hy;have hux:its.toArray[i]?=some u1:=by simpa using hu1
  have huy:its2.toArray[i]?=some u2:=by simpa using hu2
  refine wpAny_pyNext_zip_item D hz hTI hTO h1 h2 ⟨_,e,rfl,n,rfl⟩ ⟨_,e2,rfl,n2,rfl⟩ hux huy λh' a1 a2 a3 a4 a5 a6 hk=>?_;refine⟨_,rfl,?_⟩;have kk:∀c o,c∉[z,TO,i1,i2]->s.heap.get? c=some o->h'.get? c=some o:=λc o hc q=>hk c o (λx=>hc (by simp[x])) (λx=>hc (by simp[x])) (λx=>hc (by simp[x])) (λx=>hc (by simp[x])) q;have th:∀c o,s.heap.get? c=some o->∃o',h'.get? c=some o':=λc o q=>by
   by_cases c1:c=z
   ·subst c1;exact⟨_,a1⟩
   ·by_cases c2:c=TO
    ·subst c2;exact⟨_,a2⟩
    ·by_cases c3:c=i1
     ·subst c3;obtain⟨o',q1,_⟩:=a3;exact⟨_,q1⟩
     ·by_cases c4:c=i2
      ·subst c4;obtain⟨o',q1,_⟩:=a4;exact⟨_,q1⟩
      ·exact⟨o,hk c o c1 c2 c3 c4 q⟩
  have sub:∀c∈[z,TO,i1,i2],c∈[z,TI,TO,i1,i2]:=λc hc=>by simp at hc ⊢;rcases hc with rfl | rfl | rfl | rfl<;>simp
  have I1:Inv X pins σ (upd H s.heap.objs.size (.tup [x,y])) { s with heap:=h',toks:=s.toks } :=
   I.turnedNew (ch:=[z,TO,i1,i2]) kk th (Nat.le_refl _) (λc hc=>hf c (sub c hc)) ⟨by show 2<=ZW;decide,[u1,u2],.cons ru1 (.cons ru2 .nil),⟨_,a5,rfl,_,rfl⟩⟩
  have fz:=hf z (by simp);have neT:∀c∈[z,TI,TO,i1,i2],c≠s.heap.objs.size:=λc hc=>by
   simp only[Zn,List.not_mem_nil,or_false]at hc;rcases hc with rfl | rfl | rfl | rfl | rfl
   ·exact Nat.ne_of_lt (Heap.lt_size hz)
   ·exact Nat.ne_of_lt (Heap.lt_size hTI)
   ·exact Nat.ne_of_lt (Heap.lt_size hTO)
   ·obtain⟨_,q,_⟩:=h1;exact Nat.ne_of_lt (Heap.lt_size q)
   ·obtain⟨_,q,_⟩:=h2;exact Nat.ne_of_lt (Heap.lt_size q)
  refine wpAny_letOwnedTupleGo_zip a1 λh2' hz2 hs2=>?_;have I2:Inv X pins σ (upd H s.heap.objs.size (.tup [x,y])) { s with heap:=h2',toks:=s.toks } :=
   Inv.turned (s:={ s with heap:=h',toks:=s.toks }) (h':=h2') (t':=s.toks) (it:=z) I1 (λc o hc q=>(hs2.2 c hc).trans q) (by rw[aL (neT z (by simp))];exact fz.1) fz.2.1 fz.2.2.2.1 fz.2.2.2.2.1 fz.2.2.2.2.2
  refine⟨.ref s.heap.objs.size,_,I2,rfl,⟨s.heap.objs.size,x,y,rfl,I.fresh,rfl,λzs hzs=>by rw[ha]at hzs;cases hzs;exact hx,λzs hzs=>by rw[hb]at hzs;cases hzs;exact hy⟩,
   ⟨hz2,(hs2.2 TI (Ne.symm d1)).trans (hk TI _ (Ne.symm d1) d5 d6 d7 hTI),⟨_,_,(hs2.2 TO (Ne.symm d2)).trans a2⟩,a3.at λo q=>(hs2.2 i1 (Ne.symm d3)).trans q,a4.at λo q=>(hs2.2 i2 (Ne.symm d4)).trans q⟩,λc hc=>?_⟩
  rw[aL (neT c hc)];exact(hf c hc).1
 ·intro X hP hw hK hc i pins s σ H E I hf st hg;subst hP hw hK;obtain⟨hz,hTI,⟨u,v,hTO⟩,h1,h2⟩:=st;obtain⟨xs,ys,ha,hb,hx⟩:=hg;have D:=apart ha hb λc hc=>(hf c hc).1;obtain⟨_,its,n,rv,hl,e⟩:=I.lstM ha;obtain⟨_,its2,n2,rv2,hl2,e2⟩:=I.lstM hb;have sub:∀c∈[z,TO,i1,i2],c∈[z,TI,TO,i1,i2]:=λc hc=>by simp at hc ⊢;rcases hc with rfl | rfl | rfl | rfl<;>simp
  refine wpAny_pyNext_zip_end (I.ok.hd hc) D hz hTI hTO h1 h2 ⟨_,e,rfl,n,rfl⟩ ⟨_,e2,rfl,n2,rfl⟩ ?_ λh' hk=>⟨rfl,?_⟩
  ·rcases hx with q | q
   ·left;simp;lia
   ·right;simp;lia
  ·exact I.turnedCh (t':=s.toks) (ch:=[z,TO,i1,i2]) (λc o hc q=>hk c o (λx=>hc (by simp[x])) (λx=>hc (by simp[x])) (λx=>hc (by simp[x])) (λx=>hc (by simp[x])) q) λc hc=>hf c (sub c hc)
 ·intro A i s Q E st h;exact wpAny_pyIter_zip st.1 h
section
variable{X:Cx}
def TF(ta:TA):TI:=λσ H R=>ta σ H λvs H1=>∃a b xs ys,vs=[.ref a,.ref b]/\H1 a=some (.lst xs)/\H1 b=some (.lst ys)/\R (Itz a b) H1
theorem O8{a b:Expr}{ta:TA}{p pos:Pos}{elts:List Expr}{k:Nat}{tpos:Pos}(hg:Gl X "zip")(hm:X.mg "zip" = none)(ha:PA X [a,b] ta)(hs:starEach [a,b] X.env=[(false,eval a X.env),(false,eval b X.env)]:=by rfl)(hs2:starEach [b] X.env=[(false,eval b X.env)]:=by rfl) :
  PI X (.Tuple elts k tpos) (.Call (.Name "zip" p) [a,b] [] pos) (TF ta):=by
 intro pins s σ H R I h;refine Call_ (nT I hg hm boot_zip (PyProof.Rows.callWith_type1 (thn (ha pos pins s σ H _ I h) λus s1 ⟨vs,H1,I1,r1,q1⟩=>?_) (by rw[hs,hs2]) (by rw[hs2];rfl)));obtain⟨l,l2,xs,ys,e,hx,hy,q⟩:=q1;subst e;cases r1 with
 |cons r rr =>
  cases rr with
  |cons r' rr =>
   cases rr;cases r;cases r';obtain⟨_,its,n,rv,hl,e⟩:=I1.lstM hx;obtain⟨_,its2,n2,rv2,hl2,e2⟩:=I1.lstM hy;refine call_zip_2 ⟨_,e,rfl,n,rfl⟩ ⟨_,e2,rfl,n2,rfl⟩ λh' z1 z2 z3 z4 z5 hsz hk=>?_;refine wpAny_pyIter_zip z1 ?_;have I2:Inv X pins σ H1 { s1 with heap:=h' }:=I1.kept (t':=s1.toks) hk;refine⟨s1.heap.objs.size+4,[s1.heap.objs.size+4,s1.heap.objs.size+2,s1.heap.objs.size+3,s1.heap.objs.size,s1.heap.objs.size+1],_,_,H1,rfl,I2,HS l l2 _ _ _ _ _ (by simp),⟨z1,z2,⟨_,_,z3⟩,z4,z5⟩,λc hc=>?_,q⟩;have hc':s1.heap.objs.size<=c:=by
    simp only[Zn,List.not_mem_nil,or_false]at hc;rcases hc with rfl | rfl | rfl | rfl | rfl<;>lia
   exact I1.fpOk hc' (I1.hok.fresh hc')
end
theorem MZ{a b:Addr}{xs ys:List V}{g:TG}{tb:TS}{D:Ends}{σ:St}{H:Hp}(Pv:Nat->St->Hp->Prop)(hlen:xs.length=ys.length)(h0:Pv 0 σ H)(hl:∀i σ H,i<=xs.length->Pv i σ H->H a=some (.lst xs)/\H b=some (.lst ys))
  (hs:∀(i:Nat) x y σ H T,xs[i]?=some x->ys[i]?=some y->Pv i σ H->H T=none->g (.ref T) σ (upd H T (.tup [x,y])) λσ2 H2=>tb { D with nx:=Pv (i+1),ct:=Pv (i+1),bk:=D.nx } σ2 H2) (hd:∀σ H,Pv xs.length σ H->D.nx σ H) :
  ∃W:Nat->Nat->St->Hp->Prop,(∃m,W 0 m σ H)/\∀i m σ H,W i m σ H ->
   ((Itz a b).stop i H/\D.nx σ H)\/((Itz a b).go i H/\∃N:St->Hp->Prop,(∀σ' H',N σ' H'->∃m',m' < m/\W (i+1) m' σ' H')/\∀x H',(Itz a b).yld i H x H'->g x σ H' λσ2 H2=>tb { D with nx:=N,ct:=N,bk:=D.nx } σ2 H2):=by
 refine⟨λi m σ H=>m=xs.length-i/\i<=xs.length/\Pv i σ H,⟨xs.length,by simp,Nat.zero_le _,h0⟩,?_⟩;rintro i m σ H ⟨rfl,hi,p⟩;obtain⟨q1,q2⟩:=hl i σ H hi p;by_cases hlt:i<xs.length
 ·refine .inr ⟨⟨xs,ys,xs[i],ys[i]'(by lia),q1,q2,by simp[hlt],by rw[Zz (by lia)]⟩,Pv (i+1),λσ' H' p'=>⟨xs.length-(i+1),by lia,rfl,hlt,p'⟩,λx H' y=>?_⟩;obtain⟨T,x',y',rfl,hT,rfl,y1,y2⟩:=y;exact hs i x' y' σ _ T (y1 xs q1) (y2 ys q2) p hT
 ·have e:i=xs.length:=by lia
  subst e;exact .inl ⟨⟨xs,ys,q1,q2,.inl (Nat.le_refl _)⟩,hd σ H p⟩
end L2
namespace L2
open PySem PySem.Spec PyProof.Rows
end L2
namespace L2
open PySem PyProof.Rows
theorem pS:∀xs ys:List Int,PyData.eqvAll (xs.map PyData.int) (ys.map PyData.int)=decide (xs=ys)
 |[],[]=>rfl
 |[],_::_=>rfl
 |_::_,[]=>rfl
 |x::xs,y::ys=>by
  simp only[List.map_cons,PyData.eqvAll,pS xs ys,PyData.eqv];by_cases h:x=y
  ·subst h;simp
  ·simp[h]
theorem eZ(xs ys:List Int):PyData.eqv (.list (xs.map PyData.int)) (.list (ys.map PyData.int))=decide (xs=ys):=by
 rw[PyData.eqv,pS]
end L2
namespace SO
open PySem PyProof PyProof.Rows
section
variable{prog:Program}{w:World}{A:Around}{E:Value->Shared->Prop}{s:Shared}
end
section
variable{prog:Program}{w:World}{A:Around}{E:Value->Shared->Prop}{s:Shared}{d it:Addr}{o:Obj}{es:Array DictEntry}{ep i:Nat}
end
section
variable{prog:Program}{w:World}{A:Around}{R:Result->Shared->Prop}{I:Addr}{fp wr:List Addr}{n:Nat}{P:Nat->Value->Prop}{St:Nat->Heap->Prop}
end
end SO
namespace SO
open PySem PyProof PyProof.Rows
section
variable{prog:Program}{w:World}{A:Around}{E:Value->Shared->Prop}{s:Shared}{a b:Addr}{oa ob:Obj}{es es':Array DictEntry}{ep ep':Nat}
end
end SO
namespace L2
open PySem PySem.Spec PyProof.Rows
section
variable{X:Cx}
end
end L2
namespace L2
open PySem PySem.Spec PyProof.Rows
section
variable{X:Cx}{pins:List (Addr×Obj)}{σ:St}{H:Hp}{s:Shared}{a:Addr}{y d:V}{u r:Value}{o:Option V}{A:Around}{E:Value->Shared->Prop}
end
section
variable{X:Cx}{o e f:Expr}{apos cpos:Pos}{td ty tx:TE}
end
end L2
namespace L2
open PySem PySem.Spec PyProof.Rows
def CH:List (TE×TE)->St->Hp->(List (V×V)->Hp->Prop)->Prop
 |[],_,H,Q=>Q [] H
 |(tk,tv)::r,σ,H,Q=>tk σ H λx H1=>tv σ H1 λy H2=>CH r σ H2 λps H3=>Q ((x,y)::ps) H3
abbrev VV:List (V×V)->List (Value×Value)->Prop:=Paired λp q=>RelV p.1 q.1/\RelV p.2 q.2
def PPs(X:Cx)(pos:Pos)(keys:List (Option Expr))(values:List Expr)(trs:List (TE×TE)):Prop :=
 ∀(pins:List (Addr×Obj)) (s:Shared) (σ:St) (H:Hp) (Q:List (V×V)->Hp->Prop),Inv X pins σ H s->CH trs σ H Q ->
  wpAny (model X.prog X.w) X.A (evalPairs (pairTrees keys values X.env pos)) (λvs s'=>∃ps H',Inv X pins σ H' s'/\VV ps vs/\Q ps H') X.xe s
theorem LX{X:Cx}{pos:Pos}:PPs X pos [] [] []:=λpins s σ H Q I h=>pairTrees_nil_walk ⟨[],H,I,.nil,h⟩
theorem IT{X:Cx}{pos:Pos}{k v:Expr}{ks:List (Option Expr)}{vs:List Expr}{tk tv:TE}{trs:List (TE×TE)}(hk:PE X k tk)(hv:PE X v tv)(hr:PPs X pos ks vs trs) :
  PPs X pos (some k::ks) (v::vs) ((tk,tv)::trs):=λpins s σ H Q I h =>
 pairTrees_cons_walk (thn (hk pins s σ H _ I h) λu s1 ⟨x,H1,I1,rx,q1⟩=>thn (hv pins s1 σ H1 _ I1 q1) λw2 s2 ⟨y,H2,I2,ry,q2⟩ =>
  thn (hr pins s2 σ H2 _ I2 q2) λws s3 ⟨ps,H3,I3,rel,q3⟩=>⟨(x,y)::ps,H3,I3,.cons ⟨rx,ry⟩ rel,q3⟩)
def jH(kvs more:List (Key×V)):List (Key×V):=more.foldl (λacc kv=>putK acc kv.1 kv.2) kvs
theorem KV.merge:∀{more:List (Key×V)}{rs:List (Key×Value)}{kvs:List (Key×V)}{vs:List (Key×Value)},KV more rs->KV kvs vs->KV (jH kvs more) (merged vs rs):=by
 intro more rs kvs vs r;unfold KV at r;induction r generalizing kvs vs with
 |nil=>intro q;exact q
 |@cons p q ps qs h t ih =>
  intro r0;have e:KV (putK kvs p.1 p.2) (stored vs q.1 q.2):=by
   have:=r0.put p.1 h.2;rw[<-h.1];exact this
  exact ih e
theorem mW:∀(more kvs:List (Key×V)),(jH kvs more).length<=kvs.length+more.length
 |[],kvs=>by show kvs.length<=kvs.length+0;lia
 |p::r,kvs=>by
  have h1:=mW r (putK kvs p.1 p.2);have h2:=gK kvs p.1 p.2;show(jH (putK kvs p.1 p.2) r).length<=_;rw[Yq];lia
theorem vU{P:Program}{w:World}:∀{kvs:List (Key×V)}{ws:List (Value×Value)},VV (kvs.map λkv=>(kV kv.1,kv.2)) ws->∃rs,Carries (dA P w) ws rs/\KV kvs rs
 |[],_,r=>by rw[List.map_nil]at r;cases r;exact⟨[],True.intro,.nil⟩
 |p::kvs,_,r=>by
  rw[List.map_cons]at r;cases r with
  |@cons a b as bs h t =>
   obtain⟨rs,c,q⟩:=vU (P:=P) (w:=w) t;obtain⟨b1,b2⟩:=b;exact⟨(p.1,b2)::rs,⟨xT h.1,rfl,c⟩,.cons ⟨rfl,h.2⟩ q⟩
def Q5(trs:List (TE×TE)):TE:=λσ H Q=>∀p,H p=none->CH trs σ (upd H p (.dK [])) λps H2=>H2 p=some (.dK [])/\∃kvs:List (Key×V),ps=kvs.map (λkv=>(kV kv.1,kv.2))/\kvs.length<=15/\Q (.ref p) (upd H2 p (.dK (jH [] kvs)))
theorem L4{X:Cx}{pos:Pos}{keys:List (Option Expr)}{values:List Expr}{trs:List (TE×TE)}(h:PPs X pos keys values trs)(hall:keys.all (·.isSome)=true)(hl:keys.length=values.length)(h0:keys≠[])
  (h15:keys.length<=15):PE X (.Dict keys values pos) (Q5 trs):=by
 intro pins s σ H Q I q;have hn:=I.hok.fresh (Nat.le_refl s.heap.objs.size);have I1:=I.laid (a:=s.heap.objs.size) (o:=.dK []) (h':=s.heap.push { cls:=.type "dict",data:=.dict #[] }) (t':=s.toks) (λ_ _ q=>Heap.get?_push_of_some _ q) (Nat.le_refl _) (BU s.heap I.big);refine wpAny_Dict_walk (knd:=dA X.prog X.w) hall hl h0 h15 (thn (h pins _ σ _ _ I1 (q _ hn)) λws s2 ⟨ps,H2,I2,rel,e,kvs,ep,lk,q2⟩=>?_);subst ep;obtain⟨rs,c,rk⟩:=vU (P:=X.prog) (w:=X.w) rel;obtain⟨z,hd,vs0,r0,dd⟩:=NW I2.hok e;cases r0;refine⟨rs,c,dd,λh' dd' hs=>⟨.ref s.heap.objs.size,_,?_,rfl,q2⟩⟩;have hz:(jH [] kvs).length<=ZW:=by
  have h1:=mW kvs [];rw[List.length_nil]at h1;rw[sizeLine_eq];lia
 have he:∃q,h'.get? s.heap.objs.size=some q:=let⟨q,_,_,hq,_⟩:=dd';⟨q,hq⟩;exact zL I2 (by rw[e];exact True.intro) hs he (KJ hz hd (rk.merge .nil) dd')
section
variable{X:Cx}
theorem G6:dG X (.builtin "len") (λxs H Q=>∃a kvs,xs=[V.ref a]/\H a=some (.dK kvs)/\Q (.int kvs.length) H):=by
 intro pins s σ H xs us Q I r h;obtain⟨a,kvs,rfl,ha,q⟩:=h;obtain⟨u,rfl,ru⟩:=vals1 r;cases ru;exact R8 I (.inl ha) λt s' I'=>⟨.int kvs.length,H,I',⟨t,rfl⟩,q⟩
end
end L2
namespace L2
open PySem PySem.Spec PyProof.Rows
section
variable{X:Cx}
def LQ:V->List V->Hp->VK->Prop:=λx vs H Q=>∃(l:Addr) (ns:List Int) (v:Int),x=.ref l/\vs=[.int v]/\H l=some (.lst (ns.map V.int))/\v∈ns/\Q (vn (ns.idxOf v)) H
theorem GE:MtM X "list.index" LQ:=by
 intro pins s σ H x vs v us Q I rx rv h;obtain⟨l,ns,k,rfl,rfl,hH,hm,q⟩:=h;cases rx;obtain⟨u,rfl,t,rfl⟩:=rv.one;obtain⟨z,its,n,r,hl,e⟩:=I.lstM hH;have hlen:its.length=ns.length:=by rw[<-hl];simp
 have hj:ns.idxOf k<ns.length:=List.idxOf_lt_length_of_mem hm;have item:∀(m:Nat) (hm:m<its.toArray.size),eqU (.int k) its.toArray[m]=(ns[m]'(by simpa[hlen] using hm)==k):=λm hm'=>by
  have hm2:m<ns.length:=by simpa[hlen] using hm'
  have hx:(ns.map V.int)[m]?=some (.int ns[m]):=by rw[Zk,Zz hm2];rfl
  obtain⟨u',hu',ru'⟩:=r.get hx;have e1:its.toArray[m]=u':=by
   have:its[m]?=some its.toArray[m]:=by simp at hm' ⊢
   rw[this]at hu';exact Option.some.inj hu'
  rw[e1,zK ru' rfl];rfl
 have hsm:((ns.idxOf k:Nat):Int)<2 ^ 63-1:=by
  have h1:=jI;have h2:(ns.map V.int).length=ns.length:=by simp
  lia
 refine call_meets F.slot_list_index ⟨_,e,rfl⟩ F.entry_list_index (F.args_list_index_2 _ _) (SeqAt.list_indexAt l its.toArray n none #[] (.int k t) (eqU (.int k)) (ns.idxOf k) (by simpa[hlen] using hj) hsm ?_ ?_) ⟨e,λy hy=>?_,?_⟩
 ·rw[item];simp
 ·intro m hm' hlt;rw[item];have:=List.not_of_lt_findIdx (p:=(·==k)) (xs:=ns) (i:=m) hlt;simpa using this
 ·have fl:(ns.map V.int).all kX=true:=by rw[List.all_eq_true];intro y hy;obtain⟨n,_,rfl⟩:=Zh.mp hy;rfl
  exact iG (x:=.int k) ⟨t,rfl⟩ rfl r fl y (by simpa using hy)
 ·exact⟨vn (ns.idxOf k),H,I.tok _,⟨_,rfl⟩,q⟩
end
end L2
namespace L2
open PySem PySem.Spec PyProof.Rows
def bT(H H':Hp):Prop:=∀b o,H b=some o->H' b=some o\/((∃ps,o=.tbl ps)/\∃ps,H' b=some (.tbl ps))
theorem aW.st{H H':Hp}(g:aW H H'):bT H H':=λb o h=>.inl (g b o h)
theorem bT.trans{H H1 H2:Hp}(a:bT H H1)(b:bT H1 H2):bT H H2:=λc o h=>by
 rcases a c o h with z | ⟨z1,ps,z2⟩
 ·exact b c o z
 ·rcases b c _ z2 with w | ⟨_,w⟩
  ·exact .inr ⟨z1,ps,w⟩
  ·exact .inr ⟨z1,w⟩
theorem bT.k{H H':Hp}(g:bT H H'){b:Addr}{o:HO}(n:∀ps,o≠.tbl ps)(h:H b=some o):H' b=some o:=(g b o h).resolve_right λ⟨⟨ps,z⟩,_⟩=>n ps z
theorem bT.l{H H':Hp}(g:bT H H'){b:Addr}{xs:List V}(h:H b=some (.lst xs)):H' b=some (.lst xs):=g.k (λ_ z=>by cases z) h
theorem bT.t{H H':Hp}(g:bT H H'){b:Addr}{xs:List V}(h:H b=some (.tup xs)):H' b=some (.tup xs):=g.k (λ_ z=>by cases z) h
theorem bT.free{H H':Hp}(g:bT H H'){l:Addr}(h:H' l=none):H l=none:=by
 cases q:H l with
 |none=>rfl
 |some o =>
  rcases g l o q with z | ⟨_,_,z⟩
  ·rw[h]at z;cases z
  ·rw[h]at z;cases z
def wM(c:Addr)(q:Str):HO:=.ext λh=>h.CodeRec (.ref c) q
def FnO(f:Addr)(o:Obj):HO:=.ext λh=>h.get? f=some o
def Tb(tp:Addr)(pos:Pos)(qual:Str)(H:Hp):Prop:=∃ps:Array Value,H tp=some (.tbl ps)/\TriplesOk ps.toList /\
 (codeAmong pos ps.toList=none\/∃c,codeAmong pos ps.toList=some (.ref c)/\H c=some (wM c qual))
theorem Tb.same{tp:Addr}{pos:Pos}{qual:Str}{H H':Hp}(h:Tb tp pos qual H)(g:aW H H'):Tb tp pos qual H':=by
 obtain⟨ps,h1,h2,h3⟩:=h;refine⟨ps,g _ _ h1,h2,h3.imp id λ⟨c,e1,e2⟩=>⟨c,e1,g _ _ e2⟩⟩
abbrev GL(qual:Str)(params:Arguments)(body:Expr)(scope:Scope)(cl:List (Str×Addr))(pm:Value)(c:Addr)(ct:Value):Obj:=PySem.W.kla_obj "<lambda>" qual params body scope cl pm c ct
section
variable{X:Cx}{pins:List (Addr×Obj)}{σ:St}{H:Hp}{s:Shared}
def Q3(X:Cx)(tp:Addr)(params:Arguments)(body:Expr)(scope:Scope)(pos:Pos)(qual:Str):TE:=λ_ H Q=>Tb tp pos qual H /\
 ∀(f c:Addr) (ct:Value) (H1:Hp),bT H H1->Tb tp pos qual H1->H f=none->H1 f=some (FnO f (GL qual params body scope (fB X.env.cells scope.names []) ((X.mg "__name__").getD .none) c ct))->H1 c=some (wM c qual)->Q (.ref f) H1
theorem KF{P:Program}{w:World}{H:Hp}{h:Heap}{f:Addr}{o:Obj}(e:h.get? f=some o):cH P w H h f (FnO f o):=⟨e,⟨o,e⟩,λ_ _ x k=>k _ x⟩
theorem KP{P:Program}{w:World}{H:Hp}{h:Heap}{c:Addr}{q:Str}(e:h.CodeRec (.ref c) q):cH P w H h c (wM c q):=by
 refine⟨e,?_,λh1 h2 x k=>?_⟩
 ·obtain⟨c',o,vs,t,z,h1,_⟩:=e;cases z;exact⟨o,h1⟩
 ·obtain⟨c',o,vs,t,z,g1,g2⟩:=x;cases z;exact⟨c,o,vs,t,rfl,k _ g1,g2⟩
theorem PH{params:Arguments}{body:Expr}{scope:Scope}{pos:Pos}{cA tp:Addr}{qual:Str}(hq:X.env.qual++"<lambda>" = qual)(hcode:X.env.code=.ref cA)(C:PySem.W.CodeHd X.base cA tp)(hB:X.base.BuiltinsAt X.mg tp)
  (hfree:∀y∈scope.names,y.2=.free->X.env.kindOf y.1=some .cell\/X.env.kindOf y.1=some .free) (hdef:defaultsOf params X.env=([],[]):=by rfl) :
  PE X (.Lambda params body scope pos) (Q3 X tp params body scope pos qual):=by
 subst hq;intro pins s σ H Q I h;obtain⟨⟨ps,h1,h2,h3⟩,q⟩:=h;have hcl:closureFor scope X.env=pure (fB X.env.cells scope.names []):=jJ λy hy hk=>I.ok.has y.1 (hfree y hy hk);have hP:s.heap.get? tp=some (PySem.W.tabObj ps):=I.hok tp _ h1;have hns:=I.ok.mod.glob.keeps I.bk;have ntp:∀b,H b=none->b≠tp:=λb n z=>by rw[z,h1]at n;cases n
 have hgP:ZV≠tp:=by
  obtain⟨o,es,ep,e,_⟩:=I.ok.mod.glob;exact ntp _ (I.bs _ _ e).2
 have hB':s.heap.BuiltinsAt X.mg tp:=by
  obtain⟨bm,o,b1,b2,b3,b4,b5,b6⟩:=hB;exact⟨bm,o,b1,b2,b3,b4,I.bk _ _ b5,b6⟩
 refine PySem.W.kla_eval hdef ?_;rcases h3 with hn | ⟨c,hc,hcO⟩
 ·refine PySem.W.kla_makeFunction (mg:=X.mg) hcl I.ok.glob hns hcode (C.keeps I.bk) hP h2 hn hgP hB' λc ct h' tk hx hge hlt hrec htb=>?_;have fc:H c=none:=I.hok.fresh hge;have lf:s.heap.objs.size<=h'.objs.size:=Nat.le_of_lt (Ys hge hlt);have ff:H h'.objs.size=none:=I.hok.fresh lf;have cf:c≠h'.objs.size:=Nat.ne_of_lt hlt
  let o1:HO:=.tbl (ps++#[rawInt pos.line,rawInt pos.col,.ref c])
  let fo:=GL (X.env.qual++"<lambda>") params body scope (fB X.env.cells scope.names []) ((X.mg "__name__").getD .none) c ct
  let H1:Hp:=upd (upd (upd H tp o1) c (wM c (X.env.qual++"<lambda>"))) h'.objs.size (FnO h'.objs.size fo)
  have ntc:tp≠c:=aP h1 fc;have ntf:tp≠h'.objs.size:=aP h1 ff;have old:∀b u,H b=some u->b≠tp->H1 b=some u:=λb u e n=>by
   show upd (upd (upd H tp o1) c _) h'.objs.size _ b=_;rw[aL (aP e ff),aL (aP e fc),aL n];exact e
  have at_t:H1 tp=some o1:=by
   show upd (upd (upd H tp o1) c _) h'.objs.size _ tp=_;rw[aL ntf,aL ntc,aE]
  have at_c:H1 c=some (wM c (X.env.qual++"<lambda>")):=by
   show upd (upd (upd H tp o1) c _) h'.objs.size _ c=_;rw[aL cf,aE]
  have at_f:H1 h'.objs.size=some (FnO h'.objs.size fo):=aE;have k:∀b u,b≠tp->s.heap.get? b=some u->(h'.push fo).get? b=some u:=λb u n e=>Heap.get?_push_of_some _ (hx b u n e);have htb':(h'.push fo).get? tp=some (PySem.W.tabObj (ps++#[rawInt pos.line,rawInt pos.col,.ref c])):=Heap.get?_push_of_some _ htb;have un:Un X.fs [] H H1 s.heap (h'.push fo):=by
   refine⟨λb u e n _ _=>k b u (ntp b n) e,λb u e n _ _=>⟨u.slots,k b u (ntp b n) e⟩,λb u e n _=>?_,λb u e _=>?_,λb xs e=>old b _ e λz=>?_,λb u v e=>old b _ e λz=>?_,λb qs e=>?_⟩
   ·have l:=Heap.lt_size e;show upd (upd (upd H tp o1) c _) h'.objs.size _ b=_;rw[aL (Nat.ne_of_lt (Yt l lf)),aL (Nat.ne_of_lt (Yt l hge)),aL (ntp b n)];exact n
   ·by_cases z:b=tp
    ·rw[z];exact⟨_,htb'⟩
    ·exact⟨u,k b u z e⟩
   ·rw[z,h1]at e;cases e
   ·rw[z,h1]at e;cases e
   ·by_cases z:b=tp
    ·rw[z,h1]at e;cases e;rw[z];exact⟨_,at_t⟩
    ·exact⟨#[],by rw[old b _ e z];simp⟩
  have hok:HOk X.prog X.w H1 (h'.push fo):=λb u e=>by
   by_cases z1:b=h'.objs.size
   ·subst z1;rw[at_f]at e;cases e;exact KF (Heap.get?_push_size _ rfl)
   ·by_cases z2:b=c
    ·subst z2;rw[at_c]at e;cases e;refine KP ?_;obtain⟨c',o,vs,t,z,g1,g2⟩:=hrec;exact⟨c',o,vs,t,z,Heap.get?_push_of_some _ g1,g2⟩
    ·by_cases z3:b=tp
     ·subst z3;rw[at_t]at e;cases e;exact htb'
     ·have e':H b=some u:=by
       have e2:upd (upd (upd H tp o1) c _) h'.objs.size _ b=some u:=e;rw[aL z1,aL z2,aL z3]at e2;exact e2
      refine(I.hok b u e').stay (λd v hd r=>k d v (λz=>?_) r) (λd r=>old d _ r λz=>?_) λd xs r=>old d _ r λz=>?_
      ·rcases hd with rfl | hd
       ·exact z3 z
       ·rw[z,h1]at hd;cases hd
      ·rw[z,h1]at r;cases r
      ·rw[z,h1]at r;cases r
  refine⟨.ref h'.objs.size,H1,I.un un hok,rfl,q _ c ct H1 (λb o e=>?_) ⟨_,at_t,?_,.inr ⟨c,?_,at_c⟩⟩ ff at_f at_c⟩
  ·by_cases z:b=tp
   ·rw[z,h1]at e;cases e;rw[z];exact .inr ⟨⟨_,rfl⟩,_,at_t⟩
   ·exact .inl (old b o e z)
  ·rw[Array.toList_append];exact TriplesOk_snoc _ _ _ _ h2
  ·rw[Array.toList_append];exact codeAmong_snoc _ h2 hn
 ·refine PySem.W.kla_makeFunctionHit (mg:=X.mg) hcl I.ok.glob hns hcode (C.keeps I.bk) hP h2 hc hB' λct h' tk hk lf=>?_;have ff:H h'.objs.size=none:=I.hok.fresh lf;have g:=aG ff (FnO h'.objs.size (GL (X.env.qual++"<lambda>") params body scope (fB X.env.cells scope.names []) ((X.mg "__name__").getD .none) c ct));exact⟨.ref h'.objs.size,_,I.laid (λb u e=>Heap.get?_push_of_some _ (hk b u e)) lf (KF (Heap.get?_push_size _ rfl)),rfl,q _ c ct _ g.st (Tb.same ⟨ps,h1,h2,.inr ⟨c,hc,hcO⟩⟩ g) ff aE (g _ _ hcO)⟩
end
end L2
namespace L2
open PySem PySem.Spec PyProof.Rows
section
variable{X:Cx}{pins:List (Addr×Obj)}{σ:St}{H:Hp}{s:Shared}
abbrev uZ(X:Cx)(qual:Str)(scope:Scope)(L f c:Addr):Env:=PySem.W.envX qual scope L f (.ref c) (fB X.env.cells scope.names [])
def Cx.lam(X:Cx)(A:Around)(N:List Str)(qual:Str)(scope:Scope)(f c:Addr)(s:Shared)(H:Hp):Cx :=
 { prog:=X.prog,w:=X.w,K:=X.K,mg:=X.mg,base:=X.base,A:=A.deeper (uZ X qual scope s.heap.objs.size f c),N:=N,s₀:=s,H₀:=H,env:=uZ X qual scope s.heap.objs.size f c,outer:=X.stack,stack:=uZ X qual scope s.heap.objs.size f c::X.stack,ex:=[],fn:=λ_=>false,calm:=true,pn:=[],xe:=λ_ _=>False }
theorem iY{x:Str}:∀{l:List (Str×NameKind)}{k:NameKind},l.lookup x=some k->(x,k)∈l
 |[],_,h=>by simp at h
 |(n,k')::r,k,h=>by
  rw[List.lookup_cons]at h;cases hb:x==n with
  |true=>rw[hb]at h;have e:=eq_of_beq hb;subst e;cases h;exact Zd
  |false=>rw[hb]at h;exact Zw _ (iY h)
theorem MO{A:Around}{k:Nat}{N':List Str}{js:List (Option Nat)}{qual:Str}{scope:Scope}{f c:Addr}{x:Str}{v:V}{u:Value}{m:Str->Option Value}{h1:Heap}{tk:Nat}(I:Inv X pins σ H s)(hr:eX k A)(hA:A.frames=some X.stack)
  (hk:scope.kind=.function) (hcell:∀y∈scope.names,y.2≠.cell) (hfree:∀y∈scope.names,y.2=.free->X.env.kindOf y.1=some .cell\/X.env.kindOf y.1=some .free)
  (hjs:zJ X.N scope (x::N') (none::js)=true) (hx:scope.names.lookup x=some .local) (hm:m x=some u) (rv:RelV v u) (hns:h1.Ns s.heap.objs.size m) (hsb:∀b o,s.heap.get? b=some o->h1.get? b=some o) :
  Inv (X.lam A (x::N') qual scope f c s H) [] (some v::inner js σ) H { s with heap:=h1,toks:=tk }:=by
 have incl:∀{y d},(fB X.env.cells scope.names []).lookup y=some d->X.env.cells.lookup y=some d:=λ{y d} q=>by
  rcases tK _ _ q with z | z
  ·simp at z
  ·exact z
 have inn:∀{y:Str},(y,NameKind.free)∈scope.names->∃d,(fB X.env.cells scope.names []).lookup y=some d:=λ{y} q=>vT _ _ _ (.inl ⟨q,I.ok.has y (hfree _ q rfl)⟩);have noA:∀b:Addr,b∉(X.lam A (x::N') qual scope f c s H).ex:=λb z=>absurd (show b∈([]:List Addr) from z) (by simp);refine⟨⟨I.ok.mod,hk,rfl,rfl,Nat.le_refl _,λy z d e1 e2=>I.ok.inj y z d (incl e1) (incl e2),λy hy=>?_,λy d hy _=>absurd hy Bool.false_ne_true,λ_=>hr.hd,Around.frames_deeper hA,.inr ⟨rfl,rfl⟩,λb z=>absurd z (noA b),I.bs,Yr I.ok.bsz I.sz,λb _ _=>noA b,λb z=>absurd z (noA b),I.stack,I.stkFree⟩,
  rfl,I.bare,Un.kept hsb,⟨m,hns,λi y w e1 e2 _=>?_⟩,λy d e=>?_,I.hok.fresh (Nat.le_refl _),λy d e=>I.freeC y d (incl e),λp hp=>absurd (show p∈([]:List (Addr×Obj)) from hp) (by simp),I.hok.kept hsb,?_⟩
 ·have hy:scope.names.lookup y=some .cell\/scope.names.lookup y=some .free:=hy;rcases hy with hy | hy
  ·exact absurd rfl (hcell _ (iY hy))
  ·exact inn (iY hy)
 ·cases i with
  |zero =>
   have e1:some x=some y:=e1;have e2:some (some v)=some (some w):=e2;cases e1;cases e2;exact⟨u,rv,.inl ⟨hx,hm⟩⟩
  |succ i =>
   have e2:(inner js σ)[i]?=some (some w):=e2;have e1:N'[i]?=some y:=e1;obtain⟨j,q1,q2⟩:=BK e2;obtain⟨q3,q4⟩:=zI (Bool.and_eq_true_iff.mp hjs).2 e1 q1;have q5:=iY q4;have kf:=hfree _ q5 rfl;obtain⟨m0,hn0,hl0⟩:=id I.loc;obtain⟨u',r,lk⟩:=hl0 j y w q3 q2 (kf.elim (λz=>.inr (.inl z)) λz=>.inr (.inr z));refine⟨u',r,?_⟩;rcases lk with⟨z,_⟩ | ⟨_,d,hd,o,ho,hd'⟩
   ·rcases kf with kk | kk
    ·rw[kk]at z;cases z
    ·rw[kk]at z;cases z
   ·obtain⟨d',hc'⟩:=inn q5;have e:=incl hc';rw[hd]at e;cases e;exact .inr ⟨.inr q4,d,hc',o,hsb _ _ ho,hd'⟩
 ·obtain⟨w,o,ho,hd⟩:=I.cell y d (incl e);exact⟨w,o,hsb _ _ ho,hd⟩
 ·show(inner js σ).length+1=N'.length+1;unfold inner;rw[Zq,u7 (Bool.and_eq_true_iff.mp hjs).2]
structure SJ(X:Cx)(N':List Str)(js:List (Option Nat))(x:Str)(qual:Str)(params:Arguments)(body:Expr)(scope:Scope):Prop where
 kind:scope.kind=.function
 co:scope.isCoroutine=false
 gen:scope.isGenerator=false
 cell:∀y∈scope.names,y.2≠.cell
 free:∀y∈scope.names,y.2=.free->X.env.kindOf y.1=some .cell\/X.env.kindOf y.1=some .free
 js:zJ X.N scope (x::N') (none::js)=true
 par:scope.names.lookup x=some .local
 bind:∀(cl:List (Str×Addr)) (pm cd ct u:Value),bindArgs (PySem.W.kla_fn "<lambda>" qual params body scope cl pm cd ct) ⟨[u],[]⟩=pure [(x,u)]
theorem LK{A:Around}{k:Nat}{N':List Str}{js:List (Option Nat)}{qual:Str}{params:Arguments}{body:Expr}{scope:Scope}{f c:Addr}{pm ct:Value}{x:Str}{v:V}{u:Value}{te:TE}{Q:VK}{E:Value->Shared->Prop}
  (S:SJ X N' js x qual params body scope) (hr:eX k A) (hA:A.frames=some X.stack) (I:Inv X pins σ H s) (hf:H f=some (FnO f (GL qual params body scope (fB X.env.cells scope.names []) pm c ct))) (hc:H c=some (wM c qual)) (rv:RelV v u)
  (ht:PE (X.lam A (x::N') qual scope f c s H) body te) (hq:te (some v::inner js σ) H Q):wpAny (model X.prog X.w) A (call (.ref f) [u]) (EP X pins σ Q) E s:=by
 have go:s.heap.get? f=some (GL qual params body scope (fB X.env.cells scope.names []) pm c ct):=(I.hok f _ hf).1;have gc:s.heap.CodeRec (.ref c) qual:=(I.hok c _ hc).1;refine wpAny_call (codeAny_mono (?_:codeAny (model X.prog X.w) A (.call (.ref f) ⟨[u],[]⟩) (CR CX0 X.stack X.prog X.w H s Q E0) s) λr s' hz=>?_)
 ·refine PySem.W.kla_callFunE hr.depth go rfl S.co S.gen rfl gc ?_;rw[S.bind];refine ZY (wpAny_newFunctionEnv S.cell (λy hy=>?_) (λh₁ hns hsb=>⟨I.nolimit.fresh _ hsb,?_⟩) S.kind)
  ·have:y=(x,u):=by simpa using hy
   rw[this];exact S.par
  ·have hk1:∀b o,s.heap.get? b=some o->h₁.get? b=some o:=λb o e=>hsb.extBut b o (Nat.ne_of_lt (Heap.lt_size e)) (Heap.get?_push_of_some _ e);show codeAny _ _ (.expr body (uZ X qual scope s.heap.objs.size f c)) _ _;have J:Inv (X.lam A (x::N') qual scope f c s H) [] (some v::inner js σ) H { s with heap:=h₁,toks:=s.toks+[(x,u)].length }:=MO I hr hA S.kind S.cell S.free S.js S.par (by simp) rv hns hk1;refine PySem.W.kla_codeExpr (ZX (ht [] _ _ H Q J hq) (λw s' hw=>?_) λe s' z=>z.elim);obtain⟨v',H',J',r',q'⟩:=hw;exact⟨v',H',J'.os,J'.bare,J'.base,J'.hok,r',q'⟩
 ·cases r with
  |error e=>exact False.elim hz
  |ok fl =>
   cases fl with
   |ret w=>exact I.after hz
   |next=>exact False.elim hz
   |brk=>exact False.elim hz
   |cont=>exact False.elim hz
end
end L2
namespace L2
open PySem PySem.Spec PyProof.Rows
section
variable{X:Cx}{pins:List (Addr×Obj)}{σ:St}{H:Hp}{s:Shared}
theorem RO{d k:Addr}{od ok:Obj}(I:Inv X pins σ H s)(fd:kY X pins H d)(fk:kY X pins H k)(gd:s.heap.get? d=some od)(gk:s.heap.get? k=some ok)(nd:∀v,od.data≠.cell v)(nk:∀v,ok.data≠.cell v) :
  Inv X ((d,od)::(k,ok)::pins) σ H s:=I.pins_of λp hp=>by
 rcases Zn.mp hp with rfl | hp
 ·exact⟨gd,fd.1,fd.2.1,fd.2.2.1,nd⟩
 ·rcases Zn.mp hp with rfl | hp
  ·exact⟨gk,fk.1,fk.2.1,fk.2.2.1,nk⟩
  ·exact I.pin p (List.mem_append_right _ hp)
theorem HQ{p1 p2:Addr×Obj}(I:Inv X (p1::p2::pins) σ H s):Inv X pins σ H s:=I.pins_of λp hp=>I.pin p (List.mem_append_right _ (Zw _ (Zw _ hp)))
theorem JE{g:Int->Int}{its out:List Value}{ns:List Int}(hi:IntsAre its ns)(ko:KskOut false (ns.map g) its out):∃ns',IntsAre out ns'/\ns'.Perm ns/\ns'.Pairwise λx y=>g x<=g y:=by
 obtain⟨ps,hp,rfl,hs⟩:=ko;have rel:∀p∈ps,p.1=g (numOf p.2)/\p.2∈its:=λp m=>by
  have m':=hp.mem_iff.mp m;rw[<-hi.nums,Yh,List.zip_map_left]at m';obtain⟨⟨a,b⟩,hz,rfl⟩:=Zh.mp m';obtain⟨e,h2⟩:=mem_zip_self hz;have e:a=b:=e;subst e;exact⟨rfl,h2⟩
 refine⟨(ps.map Prod.snd).map numOf,intsAre_map _ λv hv=>?_,?_,?_⟩
 ·obtain⟨p,m,rfl⟩:=Zh.mp hv;exact hi.all _ (rel p m).2
 ·have h1:=(hp.map Prod.snd).map numOf;rw[List.map_snd_zip (by rw[Zq,hi.length];exact Nat.le_refl _),hi.nums]at h1;exact h1
 ·rw[Yh,List.pairwise_map];refine hs.imp_of_mem λ{p q} hp' hq h=>?_;have h:p.1<=q.1:=by simpa using h
  rw[(rel p hp').1,(rel q hq).1]at h;exact h
theorem TL{d k:Addr}{m:Str->Option Value}{h':Heap}{tk c:Nat}{out:List Value}{ns':List Int}(I:Inv X pins σ H s)(fd:kY X pins H d)(fk:kY X pins H k)(hm:s.heap.Ns X.env.locals m)(F:Fr X.base X.env.locals h' m)
  (N:News X.base X.env.locals h' ((d,seqObj "list" out.toArray c)::(mL X.base s.heap X.env.locals).filter λp=>decide (p.1≠k/\p.1≠d))) (hi:IntsAre out ns') (hl:ns'.length<64) :
  Inv X pins σ (upd H d (.lst (ns'.map V.int))) { s with heap:=h',toks:=tk }:=by
 have kp:∀b o,b≠X.env.locals->b≠k->b≠d->s.heap.get? b=some o->h'.get? b=some o:=λb o n1 n2 n3 e=>by
  cases q:X.base.get? b with
  |some u =>
   have z:=I.bk b u q;rw[e]at z;cases z;exact F.keep b _ q
  |none=>exact(N (b,o) (Zw _ (Yz.mpr ⟨A9 n1 q e,decide_eq_true ⟨n2,n3⟩⟩))).1
 have gd:h'.get? d=some (seqObj "list" out.toArray c):=(N _ Zd).1;have nd:∀b u,H b=some u->b≠d:=λb u e=>aP e fd.1;have cd:∀{b:Addr},b∉[k,d]->b≠k/\b≠d:=λ{b} h=>⟨λz=>h (by simp[z]),λz=>h (by simp[z])⟩
 refine I.step (g':=s.gens) (d':=s.drawn) (ch:=[k,d]) (λb hb=>?_) (λb o n1 _ hc e _=>kp b o n1 (cd hc).1 (cd hc).2 e) (λb o n1 _ hc e _=>⟨o.slots,kp b o n1 (cd hc).1 (cd hc).2 e⟩) (λb o hc _ n=>by rw[aL (cd hc).2];exact n)
  (λb o hc e=>?_) (λb xs e=>by rw[aL (nd _ _ e)];exact e) (λb o u e=>by rw[aL (nd _ _ e)];exact e) (λb ps e=>⟨#[],by rw[aL (nd _ _ e),e];simp⟩) (λm' hm'=>?_) (λb u e=>?_) I.bare
 ·have hb:b=k\/b=d:=by simpa using hb
  rcases hb with rfl | rfl
  ·exact⟨fk.2.2.2.1,fk.2.1,fk.2.2.2.2.1,fk.2.2.2.2.2⟩
  ·exact⟨fd.2.2.2.1,fd.2.1,fd.2.2.2.2.1,fd.2.2.2.2.2⟩
 ·by_cases z:b=X.env.locals
  ·obtain⟨o',_,_,g1,_⟩:=F.ns;rw[z];exact⟨o',g1⟩
  ·exact⟨o,kp b o z (cd hc).1 (cd hc).2 e⟩
 ·rw[hm'.eq_nsMap,<-hm.eq_nsMap];exact F.ns
 ·by_cases z:b=d
  ·subst z;rw[aE]at e;cases e;exact⟨by rw[Zq];exact Yr (Nat.le_of_lt hl) (by decide),out,c,mC hi,gd⟩
  ·rw[aL z]at e;have nl:∀b u,H b=some u->b≠X.env.locals:=λb u e z=>by rw[z,I.free]at e;cases e
   have nk:∀b u,H b=some u->b≠k:=λb u e=>aP e fk.1;refine(I.hok b u e).stay (λx v hx r=>?_) (λx r=>by rw[aL (nd _ _ r)];exact r) λx xs r=>by rw[aL (nd _ _ r)];exact r
   rcases hx with rfl | hx
   ·exact kp x v (nl _ _ e) (nk _ _ e) z r
   ·exact kp x v (nl _ _ hx) (nk _ _ hx) (nd _ _ hx) r
end
end L2
namespace L2
open PySem PySem.Spec PyProof.Rows
section
variable{X:Cx}{pins:List (Addr×Obj)}{σ:St}{H:Hp}{s:Shared}
theorem FX{f d k:Addr}{e1:Nat}{its:List Value}{ns:List Int}{g:Int->Int}{R:PySem.Fin->Shared->Prop}{E:Value->Shared->Prop}(hdk:k≠d)(fd:kY X pins H d)(fk:kY X pins H k)(hi:IntsAre its ns)(h64:ns.length<64)
  (I:Inv X ((d,seqObj "list" #[] e1)::(k,seqObj "list" #[] 0)::pins) σ H s)
  (turn:∀(n:Int) (t:Tok) (pins':List (Addr×Obj)) (s':Shared),n∈ns->Inv X pins' σ H s'->wpAny (model X.prog X.w) X.A.in1.in1 (call (.ref f) [.int n t]) (EP X pins' σ λw H'=>H'=H/\w=.int (g n)) (λ_ _=>False) s')
  (done:∀(ns':List Int) (s':Shared),ns'.Perm ns->(ns'.Pairwise λx y=>g x<=g y)->Inv X pins σ (upd H d (.lst (ns'.map V.int))) s'->R (.done (.ret .none)) s') :
  wpAny (model X.prog X.w) X.A.in1.in1 (ksk_rest d (.ref f) false its.toArray e1 (.ref k)) R E s:=by
 have hlen:=hi.length;have ncl:∀(xs:Array Value) (n:Nat) (v:Option Value),(seqObj "list" xs n).data≠.cell v:=λxs n v z=>by cases z
 unfold ksk_rest;refine ZZ (wpAny_rule ?_);rw[List.forIn_toArray];refine ZZ (ksk_fold (λi s'=>∃(kA:Array Value) (e:Nat),Inv X ((d,seqObj "list" #[] e1)::(k,seqObj "list" kA e)::pins) σ H s'/\IntsAre kA.toList ((ns.map g).take i)) its 0 s ⟨#[],0,I,by simpa using IntsAre.nil⟩ (λj x s' hx hJ=>?_) λs' hJ=>?_)
 ·obtain⟨kA,e,I',hk⟩:=hJ;rw[Nat.zero_add]at hk ⊢;have hj:j<its.length:=(Zj.mp hx).1;obtain⟨n,hn⟩:∃n,ns[j]?=some n:=⟨_,Zz (by lia)⟩
  obtain⟨t,ht⟩:=hi.get j n hn;rw[hx]at ht;cases ht;have hz:kA.size<=64:=by
   have q:=hk.length;rw[Array.length_toList,Yw,Zq]at q
   lia
  refine ZZ (wpAny_attempt (ZX (turn n t _ s' (Zg hn) I') (λv s2 hv=>?_) λ_ _ z=>z.elim));obtain⟨w,H',I2,rw',rfl,rfl⟩:=hv;obtain⟨t2,rfl⟩:∃t2,v=.int (g n) t2:=rw';have nk:=I2.pin (k,seqObj "list" kA e) (List.mem_append_right _ (Zw _ Zd));have nd:=I2.pin (d,seqObj "list" #[] e1) (List.mem_append_right _ Zd);have sb:=Heap.SameBut.update s2.heap k (Obj.mapSeq (·.push (.int (g n) t2)));obtain⟨e',he'⟩:∃e',(s2.heap.update k (Obj.mapSeq (·.push (.int (g n) t2)))).get? k=some (seqObj "list" (kA.push (.int (g n) t2)) e'):=⟨_,get?_update_seq nk.1 _⟩
  refine ZZ (listUpdate_at nk.1 rfl (ZY ⟨rfl,kA.push (.int (g n) t2),e',?_,?_⟩) (Yr hz (by decide)) (by rw[Array.size_push];exact Yr (Nat.succ_le_succ hz) (by decide)))
  ·refine RO ((HQ I2).turned (it:=k) (λb o nb eb=>(sb.2 b nb).trans eb) fk.1 fk.2.1 fk.2.2.2.1 fk.2.2.2.2.1 fk.2.2.2.2.2) fd fk ((sb.2 d (Ne.symm hdk)).trans nd.1) he' (ncl _ _) (ncl _ _)
  ·have e3:(ns.map g).take (j+1)=(ns.map g).take j++[g n]:=by rw[List.take_add_one,Zk,hn];rfl
   rw[Array.toList_push,e3];exact ksk_snoc hk
 ·obtain⟨kA,e,I',hk⟩:=hJ;have hk:IntsAre kA.toList (ns.map g):=by
   rw[Nat.zero_add,List.take_of_length_le (by rw[Zq];lia)]at hk;exact hk
  have nk:=I'.pin (k,seqObj "list" kA e) (List.mem_append_right _ (Zw _ Zd));have nd:=I'.pin (d,seqObj "list" #[] e1) (List.mem_append_right _ Zd);obtain⟨m,F⟩:=I'.fr;have nb:∀b,b=k\/b=d->X.base.get? b=none:=λb hb=>by
   cases q:X.base.get? b with
   |none=>rfl
   |some o =>
    have l:=Yt (Heap.lt_size q) I'.ok.bsz;have:b∈X.ex\/X.s₀.heap.objs.size<=b:=by rcases hb with rfl | rfl;exact fk.2.2.2.1;exact fd.2.2.2.1
    rcases this with z | z
    ·exact absurd z (I'.ok.noex b o q)
    ·exact absurd (Yt l z) (Nat.lt_irrefl _)
  refine ZZ (listItems_at nk.1 rfl (ksk_end_ (news:=(mL X.base s'.heap X.env.locals).filter λp=>decide (p.1≠k/\p.1≠d)) (e:=e) F (λp hp=>?_) hdk (λp hp=>?_) (λp hp=>?_) hk (by rw[Zq,hlen]) (by lia) λh' tk out c F' N' ko=>?_))
  ·rcases Zf.mp hp with hp | hp
   ·exact JL p (Yz.mp hp).1
   ·rcases Zn.mp hp with rfl | hp
    ·exact⟨nk.1,nk.2.2.1,nb _ (.inl rfl)⟩
    ·rw[Zb.mp hp];exact⟨nd.1,nd.2.2.1,nb _ (.inr rfl)⟩
  ·exact(of_decide_eq_true (Yz.mp hp).2).1
  ·exact(of_decide_eq_true (Yz.mp hp).2).2
  ·obtain⟨ns',a1,a2,a3⟩:=JE hi ko;have N2:News X.base X.env.locals h' ((d,seqObj "list" out.toList.toArray c)::(mL X.base s'.heap X.env.locals).filter λp=>decide (p.1≠k/\p.1≠d)):=by rw[Array.toArray_toList];exact N'
   exact done ns' _ a2 a3 (TL (tk:=tk) (HQ I') fd fk F.ns F' N2 a1 (by rw[a2.length_eq];exact h64))
theorem IG{f l:Addr}{ns:List Int}{g:Int->Int}{Q:VK}{E:Value->Shared->Prop}(I:Inv X pins σ H s)(hl:SqL X.K H l (ns.map V.int))(h64:ns.length<64)
  (turn:∀(n:Int) (t:Tok) (pins':List (Addr×Obj)) (s':Shared),n∈ns->Inv X pins' σ H s'->wpAny (model X.prog X.w) X.A.in1.in1 (call (.ref f) [.int n t]) (EP X pins' σ λw H'=>H'=H/\w=.int (g n)) (λ_ _=>False) s')
  (done:∀(d:Addr) (ns':List Int),H d=none->ns'.Perm ns->(ns'.Pairwise λx y=>g x<=g y)->Q (.ref d) (upd H d (.lst (ns'.map V.int)))) :
  wpAny (model X.prog X.w) X.A (call (.builtin "sorted") [.ref l] [("key",.ref f)]) (EP X pins σ Q) E s:=by
 obtain⟨its,r',pl,hz⟩:=I.list hl;have hi:IntsAre its ns:=intsAre_of r';have hlen:=hi.length;have h6:its.length<=64:=by lia
 have ncl:∀(xs:Array Value) (n:Nat) (v:Option Value),(seqObj "list" xs n).data≠.cell v:=λxs n v z=>by cases z
 have hsz:((s.heap.push (seqObj "list" #[] 0)).update s.heap.objs.size (Obj.mapSeq (·++its.toArray))).objs.size=s.heap.objs.size+1:=by rw[Heap.size_update,size_push']
 generalize hA:(s.heap.push (seqObj "list" #[] 0)).update s.heap.objs.size (Obj.mapSeq (·++its.toArray))=hp at hsz;have kA:∀b o,s.heap.get? b=some o->hp.get? b=some o:=λb o q=>by
  have l:=Heap.lt_size q;rw[<-hA,Heap.get?_update_ne _ _ _ _ (Nat.ne_of_lt l)];exact Heap.get?_push_of_some _ q
 have gL:(hp.push (seqObj "list" its.toArray 0)).get? (s.heap.objs.size+1)=some (seqObj "list" its.toArray 0):=by rw[<-hsz];exact Heap.get?_push_size _ rfl
 refine call_function_entry_kw kind_sorted plain_sorted entry_sorted (ksk_s1 _ _) ?_;unfold Builtin.«sorted»;refine ZZ (m:=checkCount "sorted" 1 1 _) (ZY (ZZ (collect_list pl.isList (ZZ (wpAny_newList ?_ (Yr h6 (by decide)))) (Yr h6 (by decide)))));rw[hA];show wpAny _ _ _ _ _ { s with heap:=hp.push (seqObj "list" its.toArray 0) };rw[hsz];refine ZZ (ZU (wpAny_call_entry_kw slot_list_sort ⟨_,gL,rfl⟩ entry_list_sort ?_ (ksk_l1 _ _)));show wpAny (model X.prog X.w) X.A.in1.in1 (Builtin.«list.sort» ⟨[.ref (s.heap.objs.size+1)],[(Str.ofString "key",.ref f)]⟩) _ _ _;rw[ksk_t1];unfold ksk_tree;refine ZZ (listItems_at gL rfl (ZZ (listUpdate_at gL rfl ?_ (by rw[List.size_toArray];exact Yr h6 (by decide)) (Nat.zero_le _))));obtain⟨e1,g1⟩:∃e1,((hp.push (seqObj "list" its.toArray 0)).update (s.heap.objs.size+1) (Obj.mapSeq λ_=>(#[]:Array Value))).get? (s.heap.objs.size+1)=some (seqObj "list" #[] e1):=⟨_,get?_update_seq gL λ_=>#[]⟩
 have sz1:((hp.push (seqObj "list" its.toArray 0)).update (s.heap.objs.size+1) (Obj.mapSeq λ_=>(#[]:Array Value))).objs.size=s.heap.objs.size+2:=by rw[Heap.size_update,size_push',hsz]
 have k1:∀b o,s.heap.get? b=some o->((hp.push (seqObj "list" its.toArray 0)).update (s.heap.objs.size+1) (Obj.mapSeq λ_=>(#[]:Array Value))).get? b=some o:=λb o q=>by
  have l:=Heap.lt_size q;rw[Heap.get?_update_ne _ _ _ _ (Nat.ne_of_lt (YQ l))];exact Heap.get?_push_of_some _ (kA b o q)
 generalize (hp.push (seqObj "list" its.toArray 0)).update (s.heap.objs.size+1) (Obj.mapSeq λ_=>(#[]:Array Value))=hq at g1 sz1 k1;refine ZZ (seqEpoch_at g1 rfl (ZZ (wpAny_newTuple (ZZ (wpAny_newList (ZU ?_) (Nat.zero_le _))) (Yr h6 (by decide)))));have sz2:(hq.push (seqObj "tuple" its.toArray 0)).objs.size=s.heap.objs.size+3:=by rw[size_push',sz1]
 show wpAny _ _ (ksk_rest (s.heap.objs.size+1) (.ref f) false its.toArray e1 (.ref (hq.push (seqObj "tuple" its.toArray 0)).objs.size)) _ _ { s with heap:=(hq.push (seqObj "tuple" its.toArray 0)).push (seqObj "list" #[] 0) };rw[sz2];have gk:((hq.push (seqObj "tuple" its.toArray 0)).push (seqObj "list" #[] 0)).get? (s.heap.objs.size+3)=some (seqObj "list" #[] 0):=by rw[<-sz2];exact Heap.get?_push_size _ rfl
 have fD:=I.fpOk (H':=H) (b:=s.heap.objs.size+1) (Nat.le_add_right _ _) (I.hok.fresh (Nat.le_add_right _ _));have fK:=I.fpOk (H':=H) (b:=s.heap.objs.size+3) (Nat.le_add_right _ _) (I.hok.fresh (Nat.le_add_right _ _));have I0:Inv X pins σ H { s with heap:=(hq.push (seqObj "tuple" its.toArray 0)).push (seqObj "list" #[] 0),toks:=s.toks }:=I.kept λb o q=>Heap.get?_push_of_some _ (Heap.get?_push_of_some _ (k1 b o q));refine FX (g:=g) (show s.heap.objs.size+3≠s.heap.objs.size+1 by lia) fD fK hi h64 (RO I0 fD fK (Heap.get?_push_of_some _ (Heap.get?_push_of_some _ g1)) gk (ncl _ _) (ncl _ _)) turn λns' s' p1 p2 I9=>⟨_,rfl,ZY ⟨_,rfl,?_⟩⟩
 exact⟨.ref (s.heap.objs.size+1),_,I9,rfl,done _ ns' fD.1 p1 p2⟩
end
end L2
namespace L2
open PySem PySem.Spec PyProof.Rows
theorem bT.seq{K:PySem.W.Frag}{H H':Hp}{a:Addr}{xs:List V}(e:bT H H')(h:SqL K H a xs):SqL K H' a xs:=by
 rcases h with(h | ⟨o,h⟩) | h
 ·exact .inl (.inl (e.l h))
 ·exact .inl (.inr ⟨o,e.k (λ_ z=>by cases z) h⟩)
 ·exact .inr h
section
variable{X:Cx}
def OD(K:PySem.W.Frag)(tp:Addr)(wR:Pos)(qual:Str)(js:List (Option Nat))(ta:TA)(te:TE):TE:=λσ H Q=>ta σ H λvs H1=>Tb tp wR qual H1/\∃(l:Addr) (ns:List Int) (g:Int->Int),vs=[.ref l]/\SqL K H1 l (ns.map V.int)/\ns.length<64 /\
 ∀H2,bT H1 H2->Tb tp wR qual H2->(∀n∈ns,te (some (.int n)::inner js σ) H2 λw H'=>H'=H2/\w=.int (g n)) /\
  ∀(d:Addr) (ns':List Int),H2 d=none->ns'.Perm ns->(ns'.Pairwise λx y=>g x<=g y)->Q (.ref d) (upd H2 d (.lst (ns'.map V.int)))
theorem C0{K:PySem.W.Frag}{p pos wR kpos:Pos}{e body:Expr}{params:Arguments}{scope:Scope}{cA tp:Addr}{qual:Str}{N':List Str}{js:List (Option Nat)}{x:Str}{k:Nat}{ta:TA}{te:TE}(hK:X.K=K)(hr:eX (k+3) X.A)(hq:X.env.qual++"<lambda>" = qual)(hcode:X.env.code=.ref cA)
  (C:PySem.W.CodeHd X.base cA tp) (hB:X.base.BuiltinsAt X.mg tp) (S:SJ X N' js x qual params body scope) (hg:Gl X "sorted") (hm:X.mg "sorted" = none) (ha:PA X [e] ta)
  (hb:∀(f c:Addr) (s:Shared) (H:Hp),eX k (X.A.in1.in1.deeper (uZ X qual scope s.heap.objs.size f c))->PE (X.lam X.A.in1.in1 (x::N') qual scope f c s H) body te) (hdef:defaultsOf params X.env=([],[]):=by rfl)
  (he:backTo pos (starEach [e] X.env)=(false,eval e X.env)::backTo pos (starEach [] X.env):=by rfl) (hpl:(backTo pos (starEach [e] X.env)).any (·.1)=false:=by rfl) :
  PE X (.Call (.Name "sorted" p) [e] [⟨some "key",.Lambda params body scope wR,kpos⟩] pos) (OD K tp wR qual js ta te):=by
 subst hK;intro pins s σ H Q I h;refine wpAny_Call_Name_kw (nT I hg hm boot_sorted ?_ (by decide) (by decide));refine callWith_kw (thn (ha pos pins s σ H _ I h) λus s1 ⟨vs,H1,I1,r1,tb,l,ns,g,hv,hl,h64,q⟩=>?_) he hpl rfl rfl;have hkw:PK X [⟨some "key",.Lambda params body scope wR,kpos⟩] (HV (Q3 X tp params body scope wR qual) OG):=L3 (PH hq hcode C hB S.free hdef) O7;refine thn (hkw pos pins s1 σ H1 (λzs H2=>∃(f c:Addr) (ct:Value),zs=[.ref f]/\bT H1 H2/\Tb tp wR qual H2/\H2 f=some (FnO f (GL qual params body scope (fB X.env.cells scope.names []) ((X.mg "__name__").getD .none) c ct))/\H2 c=some (wM c qual)) I1
  ⟨tb,λf c ct H2 g1 g2 _ g4 g5=>⟨f,c,ct,rfl,g1,g2,g4,g5⟩⟩) λws s2 ⟨zs,H2,I2,rz,f,c,ct,ez,g1,g2,g4,g5⟩=>?_
 subst hv;subst ez;obtain⟨u,rfl,ru⟩:=vals1 r1;cases ru;obtain⟨w,rfl,rw'⟩:=vals1 rz;cases rw';obtain⟨ht,hd⟩:=q H2 g1 g2;have hrA:eX (k+1) X.A.in1.in1:=(eX.in1 (k:=k+1) (eX.in1 (k:=k+2) hr))
 refine IG (g:=g) I2 (g1.seq hl) h64 (λn t pins' s' hn I'=>?_) hd;exact LK (v:=.int n) S hrA I'.ok.frames I' g4 g5 ⟨t,rfl⟩ (hb f c s' H2 (hrA.deeper _)) (ht n hn)
end
end L2
namespace L2
open PySem PySem.Spec PyProof.Rows
theorem GJ{P:Program}{w:World}{K:PySem.W.Frag}{mg mb:Str->Option Value}{k:Nat}{fa a cA tp:Addr}{fd:FuncData}{x:Str}{sp:Sp}{s₁:Shared}{vs:List Value}{ns:List Int}
  (KX:K.In s₁.heap) (hns:s₁.heap.Ns ZV mg) (hb:s₁.heap.Ns builtinsNs mb) (hbb:∀x:Str,x≠"__name__"->mb x=bootBuiltins x) (hlim:s₁.heap.NoLimit) (hg:s₁.gens=#[])
  (ha:s₁.heap.get? a=some { cls:=.type "list",data:=.seq vs.toArray }) (hi:IntsAre vs ns) (hl:ns.length<=ZW) (hr:eX k callerA) (C:PySem.W.CodeHd s₁.heap cA tp) (hT:s₁.heap.get? tp=some (PySem.W.tabObj #[])) (hN:PySem.W.noTabs K=true) (hB:s₁.heap.BuiltinsAt mg tp)
  (F:∀base:Heap,K.In base->base.Ns ZV mg->PySem.W.CodeHd base cA tp->base.BuiltinsAt mg tp->cJ P w K mg base CX0 k fa fd [x] sp) (hbind:∀(s:Shared) (u:Value),BindsTo s fd ⟨[u],[]⟩ [(x,u)])
  (hsp:∀H:Hp,H tp=some (.tbl #[])->SqL K H a (ns.map V.int)->sp [.ref a] H (λv _=>v=.bl true) λ_ _ _=>False) :
  codeAny (model P w) callerA (.call (.ref fa) ⟨[.ref a],[]⟩) (λr s'=>r=.ok (.ret (.bool true))/\OldK s₁.heap s'.heap/\s'.os=s₁.os/\AllBare s'.gens) s₁:=by
 have rv:=mC hi;have lenV:=hi.length;have nta:tp≠a:=λz=>by rw[z,ha]at hT;cases hT
 have kt:K.lookup tp=none:=by
  cases q:K.lookup tp with
  |none=>rfl
  |some o =>
   have e:=KX _ _ q;rw[hT]at e;cases e;exact absurd (show false=true from List.all_eq_true.mp hN _ (PySem.W.mem_of_lookupK q)) Bool.false_ne_true
 have core:∀H:Hp,H tp=some (.tbl #[])->SqL K H a (ns.map V.int)->HOk P w H s₁.heap->(∀b,H b≠none->b=tp\/(b=a/\∃o xs,H b=some (.frz o (.lst xs))))->(H a≠none->K.lookup a=none) ->
   codeAny (model P w) callerA (.call (.ref fa) ⟨[.ref a],[]⟩) (λr s'=>r=.ok (.ret (.bool true))/\OldK s₁.heap s'.heap/\s'.os=s₁.os/\AllBare s'.gens) s₁:=by
  intro H ht hS hok hA hK;have nH:∀{b:Addr}{o:Obj},s₁.heap.get? b=some o->o.cls≠.none->o.cls≠.type "list"->H b=none:=λ{b o} e n1 n2=>by
   cases q:H b with
   |none=>rfl
   |some u =>
    rcases hA b (by rw[q];simp) with z | ⟨z,_⟩
    ·rw[z,hT]at e;cases e;exact absurd rfl n1
    ·rw[z,ha]at e;cases e;exact absurd rfl n2
  have nD:∀{b:Addr}{o:Obj}{es:Array DictEntry}{ep:Nat},s₁.heap.get? b=some o->o.data=.dict es ep->H b=none:=λ{b o es ep} e d=>by
   cases q:H b with
   |none=>rfl
   |some u =>
    rcases hA b (by rw[q];simp) with z | ⟨z,_⟩
    ·rw[z,hT]at e;cases e;cases d
    ·rw[z,ha]at e;cases e;cases d
  have nsK:∀{b:Addr}{m:Str->Option Value},s₁.heap.Ns b m->(wV s₁.heap H).Ns b m:=λ{b m} ⟨o,es,ep,e,d,r⟩=>⟨o,es,ep,pJ e (nD e d),d,r⟩
  have hKb:K.In (wV s₁.heap H):=λb o e=>pJ (KX b o e) (by
   cases q:H b with
   |none=>rfl
   |some u =>
    rcases hA b (by rw[q];simp) with z | ⟨z,_⟩
    ·rw[z,kt]at e;cases e
    ·subst z;rw[hK (by rw[q];simp)]at e;cases e)
  have hC:PySem.W.CodeHd (wV s₁.heap H) cA tp:=by
   obtain⟨o,vs',file,tf,flags,tg,inF,text,tt,e1,e2,r⟩:=C;exact⟨o,vs',file,tf,flags,tg,inF,text,tt,pJ e1 (nH e1 (by rw[e2];intro z;cases z) (by rw[e2];simp)),e2,r⟩
  have hB':(wV s₁.heap H).BuiltinsAt mg tp:=by
   obtain⟨bm,o,b1,b2,b3,b4,b5,b6,r⟩:=hB;exact⟨bm,o,b1,b2,b3,b4,pJ b5 (nH b5 (by rw[b6];intro z;cases z) (by rw[b6];simp)),b6,r⟩
  have hM:Mod K mg (wV s₁.heap H):=⟨hKb,nsK hns,⟨mb,nsK hb,hbb⟩,let⟨mc,h1,h2⟩:=hlim;⟨mc,nsK h1,h2⟩⟩
  have e0:M8 P w K mg (wV s₁.heap H) callerA [] s₁ H:=⟨rfl,hM,λb o e=>MJ e,Nat.le_of_eq (GV _ _),trivial,λb hb=>absurd (show b∈([]:List Addr) from hb) (by simp),hok,.of_eq hg⟩
  refine codeAny_mono ((F _ hKb (nsK hns) hC hB').run callerA [] s₁ H ⟨[.ref a],[]⟩ [.ref a] [.ref a] _ _ hr e0 (hbind s₁ (.ref a)) (.cons rfl .nil) (hsp H ht hS)) λr s' h=>?_;cases r with
  |error e=>exact False.elim h
  |ok fl =>
   cases fl with
   |next=>exact False.elim h
   |brk=>exact False.elim h
   |cont=>exact False.elim h
   |ret u =>
    obtain⟨v,H',os,bare,un,hok',r',q⟩:=h;have q':v=.bl true:=q;subst q';obtain rfl:u=Value.bool true:=r';have kp:∀b o,b≠tp->s₁.heap.get? b=some o->s'.heap.get? b=some o:=λb o n e=>by
     cases q:H b with
     |none=>exact un.keep b o e q (by intro z;exact absurd (show b∈([]:List Addr) from z) (by simp)) (by simp)
     |some u =>
      rcases hA b (by rw[q];simp) with z | ⟨z,ob,xs,z2⟩
      ·exact absurd z n
      ·have z3:=un.frzs b ob _ z2;obtain⟨e1,_⟩:=hok b _ z2;obtain⟨e2,_⟩:=hok' b _ z3;rw[e]at e1;cases e1;exact e2
    obtain⟨more,hm⟩:=un.tbls tp _ ht;have gm:s'.heap.get? tp=some (PySem.W.tabObj (#[]++more)):=hok' tp _ hm;refine⟨rfl,⟨λb o e=>?_,λb o e=>?_⟩,os,bare⟩
    ·by_cases z:b=tp
     ·subst z;rw[hT]at e;cases e;exact .inr (.inl ⟨(C.tab hT).isCodeTable,rfl,_,more,rfl,gm⟩)
     ·exact .inl (kp b o z e)
    ·by_cases z:b=tp
     ·subst z;exact⟨_,gm⟩
     ·exact⟨o,kp b o z e⟩
 cases hk:K.lookup a with
 |some o =>
  have e:=KX a o hk;rw[ha]at e;cases e;refine core (λb=>if b=tp then some (.tbl #[]) else none) (if_pos rfl) (.inr ⟨_,vs.toArray,_,hk,rfl,rfl,rfl,by rw[List.size_toArray,lenV];exact hl,by simpa using rv⟩) (λb u z=>?_) (λb z=>?_) λz=>absurd (if_neg (Ne.symm nta)) z
  ·by_cases h1:b=tp
   ·have z':=(if_pos h1).symm.trans z;cases z';subst h1;exact hT
   ·have z':=(if_neg h1).symm.trans z;cases z'
  ·by_cases h1:b=tp
   ·exact .inl h1
   ·exact absurd (if_neg h1) z
 |none =>
  let so:Obj:={ cls:=.type "list",data:=.seq vs.toArray }
  let H0:Hp:=λb=>if b=tp then some (.tbl #[]) else if b=a then some (.frz so (.lst (ns.map V.int))) else none
  have at_a:H0 a=some (.frz so (.lst (ns.map V.int))):=(if_neg (Ne.symm nta)).trans (if_pos rfl);refine core H0 (if_pos rfl) (.inl (.inr ⟨so,at_a⟩)) (λb u z=>?_) (λb z=>?_) λ_=>hk
  ·by_cases h1:b=tp
   ·have z':=(if_pos h1).symm.trans z;cases z';subst h1;exact hT
   ·by_cases h2:b=a
    ·subst h2;rw[at_a]at z;cases z;exact⟨ha,by rw[Zq];exact hl,vs,_,rv,ha⟩
    ·have z':=((if_neg h1).trans (if_neg h2)).symm.trans z;cases z'
  ·by_cases h1:b=tp
   ·exact .inl h1
   ·by_cases h2:b=a
    ·subst h2;exact .inr ⟨rfl,_,_,at_a⟩
    ·exact absurd ((if_neg h1).trans (if_neg h2)) z
theorem HL{l:PySem.W.OpenLaw}{n k:Nat}{q:Program}{loose:List Str}{XP:(Str->Option Value)->Heap->Prop}{YP:World->Heap->Prop}{d dm:DefRec}{K:Params->PySem.W.Frag}{sp:Addr->PySem.W.Frag->Sp}{x nm:Str}
  (hn:l.most=some n) (hn2:n<=ZW) (hdf:d.params.defaults=[]) (hr:eX k callerA) (hf:(recsOf q).find? (λe=>e.name==nm)=some dm) (hN:∀w:World,PySem.W.noTabs (K w.params)=true)
  (hY:∀(w:World) (h:Heap),YP w h->(K w.params).In h)
  (F:∀(w:World) (mg:Str->Option Value) (fa:Addr) (h:Heap),(K w.params).In h->h.Ns ZV mg->mg d.name=some (.ref fa) ->
   ∃(fd:FuncData) (cA tp:Addr),(∀(s:Shared) (u:Value),BindsTo s fd ⟨[u],[]⟩ [(x,u)])/\PySem.W.tabIn (K w.params) nm=some (cA,tp) /\
    ∀base:Heap,(K w.params).In base->base.Ns ZV mg->PySem.W.CodeHd base cA tp->base.BuiltinsAt mg tp->cJ l.prog w (K w.params) mg base CX0 k fa fd [x] (sp tp (K w.params)))
  (hsp:∀(tp:Addr) (K:PySem.W.Frag) (H:Hp) (a:Addr) (ns:List Int),ns.length<=n->H tp=some (.tbl #[])->SqL K H a (ns.map V.int)->sp tp K [.ref a] H (λv _=>v=.bl true) λ_ _ _=>False) :
  PySem.W.WalkO q loose XP YP l.row.toRowW d [] (λf vs=>PySem.call f vs):=by
 refine Att.B6 hn hdf λw s₀ s₁ mg mb fa o pm cd doc a vs ns G Y ho hd hcd hmg hobj hints hlen hg=>?_;have KX:=hY w _ Y;obtain⟨fd,cA,tp,hb,ht,hF⟩:=F w mg fa _ KX G.T.g hmg;obtain⟨hC,hT⟩:=PySem.W.tab_of G.T KX hf ht;have hB:s₁.heap.BuiltinsAt mg tp:=by
  obtain⟨bm,ob,b1,b2,b3,b4,b5,b6⟩:=G.T.bmain;refine⟨bm,ob,b1,b2,λz=>?_,λz=>?_,b3,b4,b5,b6⟩
  ·obtain⟨o',es,ep,e,d',_⟩:=G.T.g;rw[z,e]at b3;cases b3;rw[d']at b6;cases b6
  ·rw[z,hT]at b3;cases b3;cases b4
 exact GJ KX G.T.g G.T.b G.T.builtins G.T.nolimit hg hobj hints (Yr hlen hn2) hr hC hT (hN w) hB hF hb λH h1 hS=>hsp tp _ H a ns hlen h1 hS
theorem OB{K:PySem.W.Frag}{x:Str}{f c tp:Addr}{oc oc':Value}{od od':Option Addr}{fd:FuncData}{sl sl':Array (Option Value)}{vs:Array Value}(a:PySem.W.nsIn K ZV x=some (some (.ref f)))(l:K.lookup f=some ⟨oc,od,.func fd,sl⟩)(hc:fd.code=.ref c)
  (lc:K.lookup c=some ⟨oc',od',.fields vs,sl'⟩) (hv:vs[11]?=some (.ref tp)):PySem.W.tabIn K x=some (c,tp):=by
 unfold PySem.W.tabIn;simp only[a,l,hc,lc,hv]
structure G9(K:PySem.W.Frag)(x qual:Str)(st:Stmt)(f:Addr)(fd:FuncData)(cA:Addr):Prop where
 ex:∃(oc:Value) (od:Option Addr) (kV doc pm:Value) (an:Option Addr) (ct:Value) (osl:Array (Option Value)),
  fd=PySem.W.fnOf x qual (jC st) (fJ st) (aR st) .none kV doc pm an (.ref cA) ct/\K.lookup f=some ⟨oc,od,.func fd,osl⟩/\PySem.W.codeIn K (.ref cA) qual=true
theorem G9.ok{P:Program}{w:World}{K:PySem.W.Frag}{mg:Str->Option Value}{base:Heap}{x qual:Str}{st:Stmt}{f cA:Addr}{fd:FuncData}{N ps:List Str}{k:Nat}{sp:Sp}(F:G9 K x qual st f fd cA)(S:aX N ps (aR st))(len:∀vs H Q E,sp vs H Q E->vs.length=ps.length)
  (hbody:∀(A:Around) (outer:List Env) (s:Shared) (H:Hp) (vs:List V) (Q:VK) (E:XK),eX k (A.deeper (envOfC qual (aR st) s.heap.objs.size f (.ref cA)))->sp vs H Q E ->
   ∃t,PSs (zM CX0 P w K mg base N qual (aR st) f (.ref cA) A outer s H E).nox (fJ st) t/\t { nx:=λ_ H'=>Q .non H',rt:=Q } (start N vs) H):cJ P w K mg base CX0 (k+1) f fd ps sp:=by
 obtain⟨oc,od,kV,doc,pm,an,ct,osl,rfl,lk,hcd⟩:=F.ex;refine KD lk hcd S len λA outer s H vs Q E hr hsp=>?_;obtain⟨t,h,q⟩:=hbody A outer s H vs Q E hr hsp;exact⟨t,h.nox,q⟩
theorem G9.of{K:PySem.W.Frag}{mg:Str->Option Value}{x:Str}{st:Stmt}{f fM cA:Addr}{fd fdM:FuncData}{oc:Value}{od:Option Addr}{sl:Array (Option Value)}(F:Fun K x x st f fd)(m:mg x=some (.ref f))(m':mg x=some (.ref fM))(l:K.lookup fM=some ⟨oc,od,.func fdM,sl⟩)(h:fdM.code=.ref cA):G9 K x x st f fd cA:=by
 rw[m]at m';cases m';obtain⟨⟨oc',od',kV,doc,pm,an,cdv,ct,osl,rfl,lk,hcd⟩,_⟩:=F;rw[lk]at l;cases l;have e:cdv=.ref cA:=h;subst e;exact⟨_,_,kV,doc,pm,an,ct,_,rfl,lk,hcd⟩
section
variable{X:Cx}
theorem vV(hc:X.calm=true):dG X (.type "list") (λxs H Q=>∃(p:Addr) (n:Nat),xs=[.ref p]/\H p=some (.rng 0 n)/\n<=1000000/\∀l,H l=none->Q (.ref l) (upd H l (.lst (vns (List.range n))))):=by
 intro pins s σ H xs us Q I r h;obtain⟨p,n,rfl,hp,hn,q⟩:=h;obtain⟨u,rfl,rx⟩:=vals1 r;cases rx;obtain⟨t,u,v,e⟩:=(show cH X.prog X.w H s.heap p (.rng 0 n) from I.hok p _ hp)
 have hsz:Builtin.Range.rangeSize 0 (n:Int) 1=n:=by rw[rangeSize_one];split<;>lia
 refine call_list_range (I.ok.hd hc) (show IsRange s.heap p 0 n 1 t u v from e) (small_one (by lia) (by lia) (by lia) (by lia)) hsz (by lia) λh' tk acc c' k e' it=>?_;have hv:bI (vns (List.range n)) acc.toList:=by
  refine EA (by simp[it.1]) λj x u hx hu=>?_;rw[Zk]at hx;obtain⟨m,hm,rfl⟩:=Xz.mp hx;obtain⟨hj,rfl⟩:=Zj.mp hm;obtain⟨t,rfl⟩:=it.2 j u (by simpa using hu);exact⟨t,by simp⟩
 exact⟨.ref s.heap.objs.size,_,I.laid (t':=tk) k (Nat.le_refl _) (show cH X.prog X.w _ h' _ (.lst (vns (List.range n))) from⟨by simp;exact Yr hn (by decide),acc.toList,c',hv,by rw[e']⟩),rfl,q _ I.fresh⟩
end
end L2
namespace L2
open PySem PySem.Spec PyProof.Rows
section
variable{P:Program}{w:World}{H H':Hp}{h h':Heap}{a:Addr}{o:HO}
theorem cH.here(x:cH P w H h a o):∃u,h.get? a=some u:=by
 cases o with
 |lst xs=>exact let⟨_,_,_,_,e⟩:=x;⟨_,e⟩
 |tup xs=>exact let⟨_,_,_,_,e,_⟩:=x;⟨_,e⟩
 |dK kvs=>exact let⟨_,_,_,_,_,_,_,e,_⟩:=x;⟨_,e⟩
 |dT kvs=>exact let⟨_,_,_,_,_,_,_,e,_⟩:=x;⟨_,e⟩
 |set S n=>exact let⟨_,_,_,_,e,_⟩:=x;⟨_,e⟩
 |ins C dx fs=>exact let⟨_,_,_,e,_⟩:=x;⟨_,e⟩
 |own y=>exact x
 |xd fs=>obtain⟨_,h1,_⟩:=x;obtain⟨_,_,_,e,_⟩:=h1;exact⟨_,e⟩
 |rng lo hi=>exact let⟨_,_,_,e⟩:=x;⟨_,e⟩
 |frz ob u=>exact⟨_,x.1⟩
 |tbl ps=>exact⟨_,(show h.get? a=some _ from x)⟩
 |met f y=>exact⟨_,(show h.get? a=some _ from x)⟩
 |ext φ=>exact x.2.1
theorem HOk.gone(x:HOk P w H h)(e:h.get? a=none):H a=none:=by
 cases q:H a with
 |none=>rfl
 |some o =>
  obtain⟨u,z⟩:=(x a o q).here;rw[e]at z;cases z
theorem HOk.hid{fs:List Addr}(x:HOk P w H h)(n:∀b∈fs,H b=none):HOk P w H (PySem.W.hideAll h fs):=λa o e=>by
 refine(x a o e).stay (λb u hb q=>PySem.W.hideAll_get fs q λm=>?_) (λ_ q=>q) λ_ _ q=>q;have z:=n b m;rcases hb with rfl | hb
 ·rw[z]at e;cases e
 ·rw[z]at hb;cases hb
end
def CXr(P:Program)(w:World)(C:Addr):CXT:=λouter H s E e s' =>
 ∃(x:Addr) (a0:Value) (B:Heap) (H':Hp),e=.ref x/\s'.os=s.os/\AllBare s'.gens/\Un (frs outer) [] H H' s.heap s'.heap /\
  (∀b o,s.heap.get? b=some o->H b=none->b∉frs outer->B.get? b=some o)/\(∀b o,s.heap.get? b=some o->b∉frs outer->∃u,B.get? b=some u)/\HOk P w H' B/\Heap.FlyingW B outer x (.ref C) a0 s'.heap/\E e none H'
theorem QD{K:PySem.W.Frag}{h:Heap}{C:Addr}{bmB:List Value}{newId:String}(X:K.In h)(q:PySem.W.excIn K C bmB newId=true) :
  ∃bm N nm qn bs hdct sn sub ab col dd k0 k1 k2 k3 k5 mN,h.get? C=some (excClassObj nm qn C N bs bm hdct sn sub ab col dd k0 k1 k2 k3 k5 newId)/\h.Ns N mN/\mN "__init__" = none/\OwnTail h bmB bm:=by
 unfold PySem.W.excIn at q;split at q
 ·rename_i dd cd sl ho
  split at q
  ·rename_i C' bm k0 k1 k2 k3 n k5 hm hs
   simp only[Xw,beq_iff_eq,Bool.not_eq_true']at q;obtain⟨⟨⟨⟨⟨e1,e2⟩,e3⟩,e4⟩,e5⟩,e6⟩:=q;subst e1;subst e2;cases cd with
   |mk nm bs mro ns qn hd sn sub ab col del =>
    cases sl with
    |mk l =>
     change mro=_ at hm;change l=_ at hs;change del=false at e3;cases hm;cases hs;cases e3;refine⟨bm,ns,nm,qn,bs,hd,sn,sub,ab,col,dd,k0,k1,k2,k3,k5,h.nsMap ns,?_,?_,?_,PySem.W.tail_of_in X e4⟩
     ·exact X _ _ ho
     ·exact Heap.Ns.of_isNs (PySem.W.isNs_of_in X e5)
     ·exact PySem.W.nsMap_none_of_in X e5 e6
  ·cases q
 ·cases q
def OF(E:XK):TS:=λ_ _ H=>∀x:Addr,E (.ref x) none H
section
variable{P:Program}{w:World}{K:PySem.W.Frag}{mg:Str->Option Value}{base:Heap}{N:List Str}{qual:Str}{scope:Scope}{f C:Addr}{cd:Value}{A:Around}{outer:List Env}{s₀:Shared}{H₀:Hp}{E:XK}
 {x:Str}{Bs newId initId:String}{bm:List Value}{np cpos pos p:Pos}{msg:Str}{j:Nat}
theorem jP(O:PySem.W.excIn K C bm newId=true)(FB:ExcBaseFacts Bs newId initId bm)(hm:mg x=some (.ref C))(hg:scope.names.lookup x=some .globalImplicit:=by rfl)(hd:(x==("__debug__" : Str))=false:=by decide) :
  PS (zM (CXr P w C) P w K mg base N qual scope f cd A outer s₀ H₀ E) (.Raise (some (.Call (.Name x np) [.Constant (.str msg) j p] [] cpos)) none pos) (OF E):=by
 intro pins s σ H D I h;obtain⟨bm',N',nm,qn,bs,hdct,sn,sub,ab,col,dd,k0,k1,k2,k3,k5,mN,hC,hN,hni,T⟩:=QD I.ok.mod.kin O;refine wpAny_Raise_call_subT (nm:=nm) (q:=qn) (C:=C) (N:=N') (bs:=bs) (bm:=bm') (hdct:=hdct) (sn:=sn) (sub:=sub) (ab:=ab) (col:=col) (dd:=dd)
  (k0:=k0) (k1:=k1) (k2:=k2) (k3:=k3) (k5:=k5) FB (T.hasType FB.hasBase) (I.ok.hd rfl) rfl hni (tH I hg hm ⟨rfl,?_⟩ hd)
 refine Calls.evalArgs_plain (thn ((aA PD aB:PA _ [.Constant (.str msg) j p] _) cpos pins s σ H (λvs H1=>vs.length=1/\H1=H) I ⟨rfl,rfl⟩) ?_);rintro us s2 ⟨vs,H2,I2,r,hl,rfl⟩;refine⟨rfl,?_,I2.bk C _ hC,hN.keeps I2.bk,T.keeps I2.bk,λh' e hx=>?_⟩
 ·show us.length<=ZW;rw[<-r.length,hl];decide
 ·have hst:s2.heap.FunFrames base (envOfC qual scope s₀.heap.objs.size f cd::outer):=I2.stack;have hin:∀env∈envOfC qual scope s₀.heap.objs.size f cd::outer,∀b,env.frame=some b->b∈frs (envOfC qual scope s₀.heap.objs.size f cd::outer):=λenv he b hb=>List.mem_filterMap.mpr ⟨env,he,hb⟩;have hfree:∀b∈frs (envOfC qual scope s₀.heap.objs.size f cd::outer),H2 b=none:=I2.stkFree;have hub:Un (frs outer) [] H₀ H2 s₀.heap s2.heap:=I2.base;have old:∀b o,s₀.heap.get? b=some o->b∉frs outer->b∉frs (envOfC qual scope s₀.heap.objs.size f cd::outer):=λb o hb hn hm=>by
   obtain⟨env,he,hf⟩:=List.mem_filterMap.mp hm;rcases Zn.mp he with rfl | he
   ·have z:s₀.heap.objs.size=b:=Option.some.inj hf;exact Nat.lt_irrefl _ (z▸Heap.lt_size hb)
   ·exact hn (List.mem_filterMap.mpr ⟨env,he,hf⟩)
  have sub:∀b,b∈frs outer->b∈frs (envOfC qual scope s₀.heap.objs.size f cd::outer):=λb hb=>by
   obtain⟨env,he,hf⟩:=List.mem_filterMap.mp hb;exact List.mem_filterMap.mpr ⟨env,Zw _ he,hf⟩
  refine wpAny_leaves_madeW (base:=PySem.W.hideAll s2.heap (frs (envOfC qual scope s₀.heap.objs.size f cd::outer))) (h:=s2.heap) (L:=s₀.heap.objs.size) I2.ok.frames rfl
   (λb o q=>PySem.W.of_hideAll _ q) (PySem.W.funFrames_hide hst hin) hx λh2 t f1 f2 f3 f4=>?_
  have kp:∀b o,s2.heap.get? b=some o->b∉frs (envOfC qual scope s₀.heap.objs.size f cd::outer)->h2.get? b=some o:=λb o q n=>f1.1 b o (PySem.W.hideAll_get _ q n);have sl:∀b o,s2.heap.get? b=some o->b∈frs (envOfC qual scope s₀.heap.objs.size f cd::outer)->∃z,h2.get? b=some { o with slots:=z }:=λb o q m=>by
   obtain⟨_,o',ho',hd'⟩:=hst.mem m;rw[q]at ho';cases ho';exact f4 b o (hx.keeps b o q) hd'
  refine⟨e,.ref t,_,H2,rfl,I2.os,I2.bare,⟨?_,?_,hub.free,?_,hub.tups,hub.frzs,hub.tbls⟩,?_,?_,I2.hok.hid hfree,f1,h e⟩
  ·exact λb o q n hb hx=>kp b o (hub.keep b o q n hb hx) (old b o q hb)
  ·intro b o q n hb hx;obtain⟨z,e1⟩:=hub.slot b o q n hb hx;obtain⟨z',e2⟩:=sl b _ e1 (sub b hb);exact⟨z',e2⟩
  ·intro b o q hx;obtain⟨o',e1⟩:=hub.there b o q hx;by_cases hm:b∈frs (envOfC qual scope s₀.heap.objs.size f cd::outer)
   ·obtain⟨z,e2⟩:=sl b _ e1 hm;exact⟨_,e2⟩
   ·exact⟨_,kp b _ e1 hm⟩
  ·exact λb o q n hb=>PySem.W.hideAll_get _ (hub.keep b o q n hb (by simp)) (old b o q hb)
  ·intro b o q hb;obtain⟨u,z⟩:=hub.there b o q (by simp);exact⟨u,PySem.W.hideAll_get _ z (old b o q hb)⟩
end
end L2
namespace L2
open PySem PySem.Spec PyProof.Rows
abbrev Cx.at'(X:Cx)(A:Around)(calm:Bool)(pn:List (Addr×Obj))(xe:Value->Shared->Prop):Cx:={ X with A:=A,calm:=calm,pn:=pn,xe:=xe }
abbrev ND(X:Cx)(pn:List (Addr×Obj))(xe:Value->Shared->Prop):Cx:=X.at' X.A X.calm pn xe
abbrev zO(X:Cx)(pn:List (Addr×Obj))(xe:Value->Shared->Prop)(e:Addr):Cx:=X.at' (X.A.mark (some (.ref e))) false pn xe
section
variable{X:Cx}{pins pins' pn:List (Addr×Obj)}{σ:St}{H H':Hp}{s s':Shared}{A:Around}{calm:Bool}{xe:Value->Shared->Prop}
theorem Inv.swap(I:Inv X pins σ H s)(hp:∀p∈pn++pins',p∈X.pn++pins)(hA:A.frames=X.A.frames)(hc:calm=true->A.handled=none):Inv (X.at' A calm pn xe) pins' σ H s :=
 let o:=I.ok
 ⟨⟨o.mod,o.kind,o.glob,o.blt,o.above,o.inj,o.has,o.cab,hc,hA.trans o.frames,o.stk,o.exf,o.bs,o.bsz,o.noex,o.exfs,o.funs,o.frf⟩,I.os,I.bare,I.base,I.loc,I.cell,I.free,I.freeC,λp q=>I.pin p (hp p q),I.hok,I.len⟩
end
section
variable{X:Cx}{C Cb:Addr}{E:XK}{body suite:List Stmt}{b₀:Stmt}{y n:Str}{i:Nat}{np hpos pos:Pos}{tb ts:TS}
end
end L2
namespace L2
open PySem PySem.Spec PyProof.Rows PySem.W
structure SL(K:Frag)(C:Addr):Prop where
 ga:findIn K (.ref C) "__getattribute__" = some (some (.builtin "BaseException.__getattribute__"))
 gt:findIn K (.ref C) "__getattr__" = some none
 cl:findIn K (.ref C) "__class__" = some (some (.builtin "object.__class__"))
 sb:subIn K (.ref C) (.type "BaseException")=some true
 so:subIn K (.ref C) (.type "object")=some true
 ic:isClsIn K C=true
section
variable{prog:Program}{w:World}{A:Around}{E:Value->Shared->Prop}{h:Heap}{g:Array GenState}{d:Drawn}{t:Nat}{os:OsState}{a C:Addr}{K:Frag}
end
structure HA(K:Frag)(C D:Addr):Prop where
 ic:isClsIn K D=true
 ty:typeIn K (.ref D)=some (.type "type")
 sb:subIn K (.ref C) (.ref D)=some true
 ex:subIn K (.ref D) (.type "BaseException")=some true
theorem MS{K:Frag}{C D:Addr}{b:Bool}(ic:isClsIn K D=true)(ty:typeIn K (.ref D)=some (.type "type"))(sb:subIn K (.ref C) (.ref D)=some b):kitCls K (.ref C) (.ref D)=some b:=by
 have e:((clsIn K D).isSome&&typeIn K (.ref D)==some (.type "type"))=true:=by rw[show(clsIn K D).isSome=true from ic,ty];decide
 unfold kitCls;dsimp only;rw[if_pos e,sb]
theorem HA.exm{K:Frag}{C D:Addr}(h:HA K C D):exmOne K (.ref C) (.ref D)=some true:=by
 unfold exmOne;rw[h.ex,if_pos (by decide)];exact MS h.ic h.ty h.sb
section
variable{X:Cx}
end
end L2
namespace L2
open PySem PySem.Spec PyProof.Rows
section
variable{P:Program}{w:World}{K:PySem.W.Frag}{mg:Str->Option Value}{base:Heap}{N:List Str}{qual:Str}{scope:Scope}{f C:Addr}{cd:Value}{A:Around}{outer:List Env}{s₀:Shared}{H₀:Hp}{E:XK}
end
end L2
namespace L2
open PySem PySem.Spec PyProof.Rows
def Q0(n:Nat)(E:XK)(tb ts:TS):TS:=λD σ H=>tb D σ H/\∀(x:Addr) (σ':St) (H':Hp),σ'.length=n->E (.ref x) none H'->ts D σ' H'
section
variable{X:Cx}{C Cb:Addr}{E:XK}{body suite:List Stmt}{b₀:Stmt}{y:Str}{np hpos pos:Pos}{tb ts:TS}
theorem LV(hx0:X.ex=[])(hst:X.stack=X.env::X.outer)(hf:X.env.frame=some X.env.locals)(hcalm:X.calm=true)(hm:X.mg y=some (.ref Cb))(hg:Gl X y)(hex:PySem.W.exmOne X.K (.ref C) (.ref Cb)=some true)
  (hb:∀pn xe,wJ (CXr X.prog X.w C) (ND X pn xe) E->PSs (ND X pn xe) body tb)
  (hs:∀pn xe e,PSs (zO X pn xe e) (b₀::suite) ts) (hd:(y==("__debug__" : Str))=false:=by decide) :
  PS X (.Try body [.ExceptHandler (some (.Name y np)) none (b₀::suite) hpos] [] [] pos) (Q0 X.N.length E tb ts):=by
 intro pins s σ H D I ⟨h1,h2⟩;refine wpAny_Try_except ?_;refine ZX (hb (X.pn++pins) _ ?pass [] s σ H D (I.swap (by simp) rfl I.ok.hd) h1) ?fin λe s' he=>he
 case fin =>
  intro f s' hf;cases f with
  |next =>
   obtain⟨σ',H',J,q⟩:=hf;exact ZY ⟨σ',H',J.swap (A:=X.A) (calm:=X.calm) (pn:=X.pn) (xe:=X.xe) (pins':=pins) (by simp) rfl I.ok.hd,q⟩
  |brk =>
   obtain⟨σ',H',J,q⟩:=hf;exact⟨σ',H',J.swap (A:=X.A) (calm:=X.calm) (pn:=X.pn) (xe:=X.xe) (pins':=pins) (by simp) rfl I.ok.hd,q⟩
  |cont =>
   obtain⟨σ',H',J,q⟩:=hf;exact⟨σ',H',J.swap (A:=X.A) (calm:=X.calm) (pn:=X.pn) (xe:=X.xe) (pins':=pins) (by simp) rfl I.ok.hd,q⟩
  |ret u =>
   obtain⟨v,σ',H',J,r,q⟩:=hf;exact⟨v,σ',H',J.swap (A:=X.A) (calm:=X.calm) (pn:=X.pn) (xe:=X.xe) (pins':=pins) (by simp) rfl I.ok.hd,r,q⟩
 case pass =>
  intro pins' σ1 H1 s1 e s' I1 hc;obtain⟨x,a0,B,H',rfl,hos,bare,un,kB,tB,okB,fly,hE⟩:=hc;have J1:Inv X pins σ1 H1 s1:=I1.swap (A:=X.A) (calm:=X.calm) (pn:=X.pn) (xe:=X.xe) (pins':=pins) (λp q=>List.mem_append_left _ q) rfl I.ok.hd;have fly:Heap.FlyingW B X.stack x (.ref C) a0 s'.heap:=fly;have un:Un (frs X.stack) [] H1 H' s1.heap s'.heap:=un;have kB:∀b o,s1.heap.get? b=some o->H1 b=none->b∉frs X.stack->B.get? b=some o:=kB;have tB:∀b o,s1.heap.get? b=some o->b∉frs X.stack->∃u,B.get? b=some u:=tB;have hfree:∀b∈frs X.stack,H1 b=none:=J1.stkFree;have xfree:H' x=none:=okB.gone fly.2.1;have next:∀h5,Heap.FlyingW B X.stack x (.ref C) a0 h5->s'.heap.UpToSlots h5->Inv X pins σ1 H' { s' with heap:=h5 }:=λh5 f5 up=>by
   refine J1.call' (ch:=[]) hos ⟨λb o q n hb _=>f5.1 b o (kB b o q n hb),λb o q n hb hx=>?_,un.free,λb o q hx=>?_,un.tups,un.frzs,un.tbls⟩ (okB.kept f5.1) bare (λb z=>absurd z (by simp))
   ·obtain⟨sl,e1⟩:=un.slot b o q n hb hx;obtain⟨_,o',e2,nf⟩:=J1.stack.mem hb;rw[q]at e2;cases e2;obtain⟨sl',e3⟩:=up b _ e1 nf;exact⟨sl',e3⟩
   ·cases e4:H1 b with
    |some ho =>
     obtain⟨u,z⟩:=tB b o q λhb=>by rw[hfree b hb]at e4;cases e4
     exact⟨u,f5.1 b u z⟩
    |none =>
     by_cases hb:b∈frs X.stack
     ·obtain⟨sl,e1⟩:=un.slot b o q e4 hb hx;obtain⟨_,o',e2,nf⟩:=J1.stack.mem hb;rw[q]at e2;cases e2;obtain⟨sl',e3⟩:=up b _ e1 nf;exact⟨_,e3⟩
     ·exact⟨_,f5.1 b o (kB b o q e4 hb)⟩
  have hfr:X.A.frames=some (X.env::X.outer):=by rw[<-hst];exact I.ok.frames
  rw[hst]at fly next;refine wpAny_looks_onW hfr hf fly λh4 held4 up4=>?_;refine wpAny_landsW held4 λh5 fly5 up5=>?_;have J5:=next h5 fly5 (up4.trans up5);refine wpAny_handleBy_cons (codeAny_handlers_test ?_) (by intro q;cases q);have C5:∀xe,Inv (zO X (X.pn++pins) xe x) [] σ1 H' { s' with heap:=h5 }:=λxe=>J5.swap (by simp) rfl (λz=>by cases z);refine tH (C5 λ_ _=>True) hg hm ?_ hd;obtain⟨ob,hob,hcl⟩:=fly5.there;have LT:PySem.W.Looks (model X.prog X.w) h5 (typeOf (.ref x)) (.ref C):=hcl▸(PySem.W.Looks.ld hob).andThen .now;refine PySem.W.exm_one J5.kIn LT hex _ _ _ _ (λ_ _ q=>q) ?_;refine codeAny_handlers_suite ?_;refine lands_againW fly5 λh6 fly6 up6=>?_;have J6:=next h6 fly6 ((up4.trans up5).trans up6);have K7:∀xe,Inv (zO X (X.pn++pins) xe x) [] σ1 H' { s' with heap:=h6 }:=λxe=>J6.swap (by simp) rfl (λz=>by cases z);refine thn (hs (X.pn++pins) _ x [] _ _ _ D (K7 _) (h2 x σ1 H' J1.len hE)) ?_;intro f s8 hsp;have back:∀{xe:Value->Shared->Prop}{σ8:St}{H8:Hp},Inv (zO X (X.pn++pins) xe x) [] σ8 H8 s8->Inv X pins σ8 H8 s8:=λJ=>J.swap (A:=X.A) (calm:=X.calm) (pn:=X.pn) (xe:=X.xe) (pins':=pins) (by simp) rfl I.ok.hd;cases f with
  |next =>
   obtain⟨σ8,H8,J8,q⟩:=hsp;exact⟨_,_,back J8,q⟩
  |brk =>
   obtain⟨σ8,H8,J8,q⟩:=hsp;exact⟨_,_,back J8,q⟩
  |cont =>
   obtain⟨σ8,H8,J8,q⟩:=hsp;exact⟨_,_,back J8,q⟩
  |ret u =>
   obtain⟨v,σ8,H8,J8,r,q⟩:=hsp;exact⟨v,_,_,back J8,r,q⟩
end
end L2
namespace L2
open PySem PySem.Spec PyProof.Rows
section
variable{X:Cx}
theorem mD{pins:List (Addr×Obj)}{σ:St}{H:Hp}{s:Shared}(I:Inv X pins σ H s):∀{xs:List V}{ds:List PyData}{us:List Value},Bds X.K H xs ds->bI xs us->us.length=ds.length/\∀(i:Nat) u d,us[i]?=some u->ds[i]?=some d->∃as,Reads s.heap u d as
 |_,_,_,.nil,.nil=>⟨rfl,λi u d h=>by simp at h⟩
 |_,_,_,.cons b bs,.cons r t=>by
  obtain⟨h1,h2⟩:=mD I bs t;refine⟨by simp[h1],λi u d e1 e2=>?_⟩;cases i with
  |zero =>
   simp only[List.getElem?_cons_zero,Option.some.injEq]at e1 e2;subst e1;subst e2;exact b.reads I r
  |succ i =>
   simp only[List.getElem?_cons_succ]at e1 e2;exact h2 i u d e1 e2
open Classical in
noncomputable def sV(h:Heap)(dx:PyData)(u:Value):Bool:=if ∃d as,d.canLay0=true/\Reads h u d as/\PyData.eqv d dx=true then true else false
theorem CG{h:Heap}{dx d:PyData}{u:Value}{as:List Addr}(r:Reads h u d as)(c:d.canLay0=true):sV h dx u=PyData.eqv d dx:=by
 unfold sV;cases e:PyData.eqv d dx with
 |true=>rw[if_pos ⟨d,as,c,r,e⟩]
 |false =>
  rw[if_neg];rintro⟨d',as',c',r',e'⟩;have:=SeqAt.Reads.unique d' d u as' as c' r' r;subst this;rw[e]at e';cases e'
theorem zS{h:Heap}{dx:PyData}:∀{us:List Value}{ds:List PyData},us.length=ds.length->(∀(i:Nat) u d,us[i]?=some u->ds[i]?=some d->∃as,Reads h u d as)->(∀d∈ds,d.canLay0=true)->us.any (sV h dx)=ds.any λd=>PyData.eqv d dx
 |[],[],_,_,_=>rfl
 |u::us,d::ds,hl,hr,hc=>by
  obtain⟨as,r⟩:=hr 0 u d rfl rfl;rw[List.any_cons,List.any_cons,CG r (hc d Zd),zS (by simpa using hl) (λi u' d' e1 e2=>hr (i+1) u' d' (by simpa using e1) (by simpa using e2)) λd' hd=>hc d' (Zw _ hd)]
def smD(d:PyData):Prop:=d.canLay0=true/\d.depth<=8
theorem DQ{pins:List (Addr×Obj)}{σ:St}{H:Hp}{s:Shared}(I:Inv X pins σ H s){A:Around}(hu:A.units+8<cLine){x:V}{v:Value}{dx:PyData}(bx:Bd X.K H x dx)(rx:RelV x v)(cx:smD dx){us:List Value}{ds:List PyData}(hl:us.length=ds.length)(hr:∀(i:Nat) u d,us[i]?=some u->ds[i]?=some d->∃as,Reads s.heap u d as)(hc:∀d∈ds,smD d):∀u∈us,SeqAt.EqAt A s u v (sV s.heap dx u):=λu hm=>by
 obtain⟨i,hi,rfl⟩:=Yy.mp hm;have h2:ds[i]?=some (ds[i]'(by lia)):=Zz (by lia);obtain⟨as,r⟩:=hr i _ _ (Zz hi) h2;obtain⟨bs,r2⟩:=bx.reads I rx;have c:=hc _ (Zg h2);rw[CG r c.1];refine SeqAt.eqAt_reads _ dx A s _ v as bs r r2 c.1 cx.1 ?_;have:=Nat.min_le_right (ds[i]'(by lia)).depth dx.depth;have:=cx.2
 lia
def O2(K:PySem.W.Frag)(neg:Bool):R2:=λx y H Q=>∃p xs dx ds,y=.ref p/\SqL K H p xs/\Bd K H x dx/\Bds K H xs ds/\smD dx/\(∀d∈ds,smD d)/\Q (.bl (if neg then !(ds.any λd=>PyData.eqv d dx) else ds.any λd=>PyData.eqv d dx)) H
theorem PN(hu:X.A.units+64<cLine):OpR X (compareOp .In) (O2 X.K false):=by
 intro pins s σ H x y v u Q I rx ry h;obtain⟨p,xs,dx,ds,rfl,hq,bx,bs,cx,cs,q⟩:=h;cases ry;obtain⟨its,r,pl,hz⟩:=I.list hq;obtain⟨hl,hr⟩:=mD I bs r;refine SeqAt.in_listAt (sV s.heap dx) pl.isList (λw hw=>DQ I (by show X.A.units+1+8<cLine;lia) bx rx cx hl hr cs w (by simpa using hw)) ⟨.bl _,H,I,rfl,?_⟩;rw[show its.toArray.any (sV s.heap dx)=its.any (sV s.heap dx) by simp,zS hl hr λd hd=>(cs d hd).1];exact q
theorem F5(hu:X.A.units+64<cLine):OpR X (compareOp .NotIn) (O2 X.K true):=by
 intro pins s σ H x y v u Q I rx ry h;obtain⟨p,xs,dx,ds,rfl,hq,bx,bs,cx,cs,q⟩:=h;cases ry;obtain⟨its,r,pl,hz⟩:=I.list hq;obtain⟨hl,hr⟩:=mD I bs r;refine SeqAt.notIn_listAt (sV s.heap dx) pl.isList (λw hw=>DQ I (by show X.A.units+1+8<cLine;lia) bx rx cx hl hr cs w (by simpa using hw)) ⟨.bl _,H,I,rfl,?_⟩;rw[show its.toArray.any (sV s.heap dx)=its.any (sV s.heap dx) by simp,zS hl hr λd hd=>(cs d hd).1];exact q
def EE(K:PySem.W.Frag):V->List V->Hp->VK->Prop:=λx vs H Q=>∃(l:Addr) (xs:List V) (v:V) (dx:PyData) (ds:List PyData) (j:Nat),x=.ref l/\vs=[v]/\H l=some (.lst xs)/\Bd K H v dx/\Bds K H xs ds/\smD dx/\(∀d∈ds,smD d)/\(∃d,ds[j]?=some d/\PyData.eqv d dx=true)/\(∀m d,m<j->ds[m]?=some d->PyData.eqv d dx=false)/\Q (vn j) H
theorem GG(hu:X.A.units+64<cLine):MtM X "list.index" (EE X.K):=by
 intro pins s σ H x vs v us Q I rx rv h;obtain⟨l,xs,k,dx,ds,j,rfl,rfl,hH,bx,bs,cx,cs,⟨dj,ej,hj⟩,hm,q⟩:=h;cases rx;obtain⟨u,rfl,ru⟩:=rv.one;obtain⟨z,its,n,r,hl',e⟩:=I.lstM hH;obtain⟨hl,hr⟩:=mD I bs r;have item:∀(m:Nat) (hm:m<its.toArray.size) (d:PyData),ds[m]?=some d->sV s.heap dx its.toArray[m]=PyData.eqv d dx:=λm hm' d hd=>by
  obtain⟨as,r'⟩:=hr m its.toArray[m] d (by simp at hm' ⊢) hd;exact CG r' (cs d (Zg hd)).1
 have hj':j<ds.length:=(Zj.mp ej).1;have hsm:((j:Nat):Int)<2 ^ 63-1:=by
  have h1:=jI;have:=r.length
  lia
 refine call_meets F.slot_list_index ⟨_,e,rfl⟩ F.entry_list_index (F.args_list_index_2 _ _) (SeqAt.list_indexAt l its.toArray n none #[] u (sV s.heap dx) j (by rw[List.size_toArray];lia) hsm ?_ ?_) ⟨e,λy hy=>?_,?_⟩
 ·rw[item j _ dj ej];exact hj
 ·intro m hm' hlt;rw[item m hm' ds[m] (Zz (by lia))];exact hm m _ hlt (Zz (by lia))
 ·exact DQ I (by show X.A.units+1+8<cLine;lia) bx ru cx hl hr cs y (by simpa using hy)
 ·exact⟨vn j,H,I.tok _,⟨_,rfl⟩,q⟩
end
end L2
namespace SO
open PySem PyProof PyProof.Rows
section
variable{prog:Program}{w:World}{A:Around}{E:Value->Shared->Prop}{s:Shared}{k:SortKind}{ρ:Keyed->Int}
abbrev P8(h:Heap)(vs:List Value):Heap:=(h.push (seqObj "list" #[] 0)).update h.objs.size (Obj.mapSeq (·++vs.toArray))
theorem SA{l:Addr}{vs:List Value}{Q:List Value->Shared->Prop}(hl:∃o,s.heap.get? l=some o/\o.cls=.type "tuple"/\∃n,o.data=.seq vs.toArray n)
  (h:Q vs { s with heap:=P8 s.heap vs }) (hz:vs.length<=ZW):wpAny (model prog w) A (collect (.ref l)) Q E s:=by
 obtain⟨o,ho,hc,n,hd⟩:=hl;have hp:(s.heap.push (seqObj "list" #[] 0)).get? l=some o:=Heap.get?_push_of_some _ ho;have hS:(s.heap.push (seqObj "list" #[] 0)).get? s.heap.objs.size=some (seqObj "list" #[] 0):=Heap.get?_push_size _ rfl;unfold collect;refine ZZ (wpAny_runValue (codeAny_builtin entry_proto_collect' ?_));show wpAny _ _ (do again (.builtin "list.__iadd__" ⟨[<-newList [],.ref l],[]⟩)) _ _ s;refine ZZ (wpAny_newList (ZY ⟨Code.quiet_builtin _ (by decide +kernel),codeAny_builtin entry_list_iadd' ?_⟩));show wpAny _ _ (Builtin.List.listExtendWith (.ref s.heap.objs.size) (.ref l) (.ref s.heap.objs.size)) _ _ { s with heap:=s.heap.push (seqObj "list" #[] 0) };unfold Builtin.List.listExtendWith;refine ZZ (wpAny_typeOf (T:="tuple") ⟨o,hp,hc⟩ ?_);rw[if_pos (by rw[show(Value.type "tuple"==Value.type "tuple")=true by rfl,Bool.or_true])];refine ZZ (listItems_at hp hd (ZZ (listItems_at (xs:=#[]) (n:=0) hS rfl ?_)));rw[if_neg (by simp)];refine ZZ (listUpdate_at (xs:=#[]) (n:=0) hS rfl (ZY ?_) (Nat.zero_le _) (by show(#[]++vs.toArray).size<=ZW+1;rw[Array.size_append];have:=List.size_toArray (as:=vs);show 0+vs.toArray.size<=ZW+1;lia));have hU:=get?_update_seq hS (·++vs.toArray);show wpAny (model prog w) A (load s.heap.objs.size >>= λo=>match o.data with | .seq xs _=>pure xs.toList | _=>unsupported "internal:collect") Q E { s with heap:=P8 s.heap vs };refine ZZ (wpAny_load hU ?_);show wpAny _ _ (pure ((#[]:Array Value)++vs.toArray).toList) Q E _;rw[show((#[]:Array Value)++vs.toArray).toList=vs by simp];exact ZY h
theorem CL{l:Addr}{vs:List Value}{Q:Value->Shared->Prop}(hl:∃o,s.heap.get? l=some o/\o.cls=.type "tuple"/\∃n,o.data=.seq vs.toArray n)(h64:vs.length<64)
  (hk:2<=vs.length->∀{E:Value->Shared->Prop}{Q:SortKind->Shared->Prop},Q k { s with heap:=mQ (ahead s.heap vs) (s.heap.objs.size+1) vs } ->
   wpAny (model prog w) A.in1.in1 (keyKind' vs.toArray) Q E { s with heap:=mQ (ahead s.heap vs) (s.heap.objs.size+1) vs })
  (T:Tells (model prog w) A.in1.in1 (λ_ _=>False) { s with heap:=mQ (ahead s.heap vs) (s.heap.objs.size+1) vs } k (cS vs) ρ)
  (h:∀xs:Array Keyed,xs.Perm (cS vs)->Up ρ xs vs.length->Q (.ref (s.heap.objs.size+1)) { s with heap:=sortedAll s.heap vs (xs.map (·.2)) }) :
  wpAny (model prog w) A (call (.builtin "sorted") [.ref l]) Q E s:=by
 have sz:(P8 s.heap vs).objs.size=s.heap.objs.size+1:=by rw[Heap.size_update,size_push']
 have ho:(ahead s.heap vs).get? (s.heap.objs.size+1)=some (seqObj "list" vs.toArray 0):=by
  unfold ahead;rw[<-sz];exact Heap.get?_push_size _ rfl
 refine Calls.call_function_entry kind_sorted plain_sorted entry_sorted (args_sorted1 _) ?_;unfold Builtin.«sorted»;refine ZZ (m:=checkCount "sorted" 1 1 _) (ZY (ZZ (SA hl (ZZ (wpAny_newList ?_)) (Yr (by lia:vs.length<=64) (by decide)))));rw[sz];show wpAny (model prog w) _ _ _ _ { s with heap:=ahead s.heap vs };refine ZZ (ZU (wpAny_call_entry slot_list_sort ⟨_,ho,rfl⟩ entry_list_sort
  (xC (s:={ s with heap:=ahead s.heap vs }) (k:=k) (ρ:=ρ) ho h64 (λg _ q=>hk g q) T λxs p u=>⟨_,rfl,?_⟩) (args_list_sort _)))
 exact ZY ⟨_,rfl,h xs p u⟩
theorem yX{l:Addr}{vs:List Value}{kf:Value->List Int}{Q:Value->Shared->Prop}(hl:∃o,s.heap.get? l=some o/\o.cls=.type "tuple"/\∃n,o.data=.seq vs.toArray n)(h64:vs.length<64)
  (H:zT s.heap vs kf) (ne:∀v∈vs,kf v≠[])
  (h:∀out:Array Value,out.toList.Perm vs->(out.toList.Pairwise λa b=>lx (kf b) (kf a)=false)->Q (.ref (s.heap.objs.size+1)) { s with heap:=sortedAll s.heap vs out }) :
  wpAny (model prog w) A (call (.builtin "sorted") [.ref l]) Q E s:=by
 have H':zT (mQ (ahead s.heap vs) (s.heap.objs.size+1) vs) vs kf:=H.mono λ_ _=>yK;refine CL (k:=tuples' true) (ρ:=rank vs kf) hl h64 (λh2 _ _ q=>?_) (tT H') λxs p u=>h _ (pY p u).1 (pY p u).2;obtain⟨fs,k,lf,g⟩:=DL H' ne;refine PySem.W.kat_kind (T:=Value.type "int") k (by lia) (λv m=>?_) (by decide) q;obtain⟨n,t,rfl⟩:=g v m;exact .now
end
end SO
namespace L2
open PySem PySem.Spec PyProof.Rows
section
variable{X:Cx}
theorem wX:dG X (.builtin "sorted") (λxs H Q=>∃(p:Addr) (ps:List Addr) (kf:Addr->List Int),xs=[.ref p]/\H p=some (.tup (ps.map V.ref))/\(∀q∈ps,kf q≠[]/\H q=some (.tup ((kf q).map V.int)))/\ps.length<64 /\
  ∀(l:Addr) (ps':List Addr),H l=none->ps'.Perm ps->(ps'.Pairwise λa b=>SO.lx (kf b) (kf a)=false)->Q (.ref l) (upd H l (.lst (ps'.map V.ref)))):=by
 intro pins s σ H xs us Q I r h;obtain⟨p,ps,kf,rfl,hq,hk,h64,q⟩:=h;obtain⟨u,rfl,rx⟩:=vals1 r;cases rx;obtain⟨its,r',⟨o,g1,c1,n,d1⟩,hz⟩:=I.tuple (SqT.of hq);have ei:=mB r';subst ei;refine SO.yX (kf:=keyOf kf) ⟨o,g1,c1,n,d1⟩ (by rw[Zq];exact h64) (λv m=>?_) (λv m=>?_) λout a1 a2=>?_
 ·obtain⟨a,ma,rfl⟩:=Zh.mp m;obtain⟨its',r2,⟨o,g1,c1,n,d1⟩,_⟩:=I.tuple (SqT.of (K:=X.K) (hk a ma).2);exact⟨a,o,its'.toArray,n,rfl,g1,c1,d1,(show IntsAre its' (kf a) from intsAre_of r2)⟩
 ·obtain⟨a,ma,rfl⟩:=Zh.mp m;exact(hk a ma).1
 ·obtain⟨ps',e1,e2⟩:=xN a1;rw[e1,List.pairwise_map]at a2;obtain⟨e,he⟩:=sortedAll_at s.heap (ps.map Value.ref) out;refine⟨.ref (s.heap.objs.size+1),_,I.laid (t':=s.toks) (λ_ _=>sortedAll_old) (Nat.le_succ _) (show cH X.prog X.w _ _ _ (.lst (ps'.map V.ref)) from⟨?_,out.toList,e,?_,he⟩),rfl,q _ ps' (I.hok.fresh (Nat.le_succ _)) e2 a2⟩
  ·rw[Zq,e2.length_eq];exact Yr (by lia:ps.length<=64) (by decide)
  ·rw[e1];exact qQ ps'
end
end L2
namespace ST
open PySem PySem.SetTable
abbrev Bl(m:Nat):SetTable:={ mask:=m,place:=#[],dummies:=#[],finger:=0,led:=true,moves:=0,plain:=true }
def ad(m:Nat)(p:Probe):Probe:=(Bl m).advance p
def nth(m:Nat)(p:Probe):Nat->Probe
 |0=>p
 |n+1=>ad m (nth m p n)
theorem iX(m:Nat)(p:Probe)(a:Nat):∀b,nth m p (a+b)=nth m (nth m p a) b
 |0=>rfl
 |b+1=>by rw[<-Nat.add_assoc];show ad m _=ad m _;rw[iX m p a b]
theorem uS(m:Nat)(p:Probe)(n:Nat):nth m (ad m p) n=nth m p (n+1):=by
 rw[Nat.add_comm n 1,iX];rfl
def st(m:Nat)(h:Int):Probe:=(Bl m).probeStart h
def lp(m:Nat)(h:Int):Nat->Nat×Nat
 |0=>(bits h%(m+1),bits h)
 |k+1=>leap m (lp m h k).1 (lp m h k).2
structure At(m:Nat)(h:Int)(k:Nat)(p:Probe):Prop where
 i:p.i=(lp m h k).1
 pe:p.perturb=(lp m h k).2
 j:p.j=p.i
 mo:p.more=runEnd m p.i-p.i
 du:p.dummy=none
theorem NK(m:Nat)(h:Int):At m h 0 (st m h):=⟨rfl,rfl,rfl,rfl,rfl⟩
theorem tM{m:Nat}{p:Probe}(h:0<p.more):ad m p={ p with j:=p.j+1,more:=p.more-1 }:=if_pos h
theorem tN{m:Nat}{p:Probe}(h:p.more=0):ad m p={ p with j:=(leap m p.i p.perturb).1,more:=runEnd m (leap m p.i p.perturb).1-(leap m p.i p.perturb).1,i:=(leap m p.i p.perturb).1,perturb:=(leap m p.i p.perturb).2 }:=if_neg (by lia)
theorem CQ{m:Nat}{p:Probe}:∀k,k<=p.more->nth m p k={ p with j:=p.j+k,more:=p.more-k }
 |0,_=>rfl
 |k+1,h=>by
  have ih:=CQ (m:=m) (p:=p) k (by lia);show ad m (nth m p k)=_;have hm:0<p.more-k:=by lia
  rw[ih,tM hm];show({ p with j:=p.j+k+1,more:=p.more-k-1 }:Probe)=_;rw[show p.more-k-1=p.more-(k+1) from rfl];rfl
theorem EM{m:Nat}{h:Int}{k:Nat}{p:Probe}(a:At m h k p):At m h (k+1) (nth m p (p.more+1)):=by
 have e:nth m p (p.more+1)=ad m (nth m p p.more):=rfl;rw[e,CQ p.more (Nat.le_refl _),tN (by show p.more-p.more=0;lia)];refine⟨?_,?_,rfl,rfl,a.du⟩
 ·show(leap m p.i p.perturb).1=(leap m (lp m h k).1 (lp m h k).2).1;rw[a.i,a.pe]
 ·show(leap m p.i p.perturb).2=(leap m (lp m h k).1 (lp m h k).2).2;rw[a.i,a.pe]
theorem more_le{m:Nat}{h:Int}{k:Nat}{p:Probe}(a:At m h k p):p.more<=9:=by
 rw[a.mo];unfold runEnd;split<;>lia
theorem SC(m:Nat)(h:Int):∀k,∃n,n<=10*k/\At m h k (nth m (st m h) n)
 |0=>⟨0,Nat.le_refl _,NK m h⟩
 |k+1=>by
  obtain⟨n,hn,a⟩:=SC m h k;refine⟨n+((nth m (st m h) n).more+1),?_,?_⟩
  ·have:=more_le a;lia
  ·rw[iX];exact EM a
theorem M4(h:Int):bits h<2 ^ 64:=by
 unfold bits;have h0:0<=h%(2 ^ 64:Int):=Xj _ (by decide);have h1:h%(2 ^ 64:Int)<2 ^ 64:=Xk _ (by decide)
 lia
theorem RQ(m:Nat)(h:Int):∀k,(lp m h k).2=bits h / 32 ^ k
 |0=>by show bits h=_;simp
 |k+1=>by
  show(lp m h k).2 / 32=_;rw[RQ m h k,Nat.div_div_eq_div_mul,Nat.pow_succ]
theorem RP(m:Nat)(h:Int){k:Nat}(hk:13<=k):(lp m h k).2=0:=by
 rw[RQ];refine Nat.div_eq_of_lt (Yt (M4 h) ?_);exact Yr (by decide:2 ^ 64<=32 ^ 13) (Nat.pow_le_pow_right (by decide) hk)
def cyc(m:Nat):Nat->Nat->Nat
 |i,0=>i
 |i,k+1=>(cyc m i k*5+1)%(m+1)
theorem DA(m:Nat)(h:Int):∀k,(lp m h (13+k)).1=cyc m (lp m h 13).1 k
 |0=>rfl
 |k+1=>by
  show((lp m h (13+k)).1*5+1+(lp m h (13+k)).2 / 32)%(m+1)=(cyc m (lp m h 13).1 k*5+1)%(m+1);rw[RP m h (by lia),DA m h k]
theorem NO(m:Nat)(h:Int):∀k,(lp m h k).1<m+1
 |0=>Nat.mod_lt _ (Nat.succ_pos m)
 |k+1=>Nat.mod_lt _ (Nat.succ_pos m)
def Ful(m:Nat):Prop:=∀i,i<m+1->∀j,j<m+1->∃k,k<m+1/\cyc m i k=j
theorem TK:Ful 7:=by unfold Ful;decide +kernel
theorem R4:Ful 31:=by unfold Ful;decide +kernel
theorem comes{m:Nat}(f:Ful m)(h:Int){j:Nat}(hj:j<m+1):∃n,n<=10*m+130/\(nth m (st m h) n).j=j:=by
 obtain⟨k,hk,e⟩:=f (lp m h 13).1 (NO m h 13) j hj;obtain⟨n,hn,a⟩:=SC m h (13+k);refine⟨n,by lia,?_⟩;rw[a.j,a.i,DA,e]
theorem JK(m:Nat)(h:Int):∀n,(nth m (st m h) n).dummy=none
 |0=>rfl
 |n+1=>by
  have ih:=JK m h n;show(ad m (nth m (st m h) n)).dummy=none;by_cases hm:0<(nth m (st m h) n).more
  ·rw[tM hm];exact ih
  ·rw[tN (by lia)];exact ih
theorem pH(m:Nat)(h:Int):∀n,(nth m (st m h) n).j+(nth m (st m h) n).more<m+1
 |0=>by
  show bits h%(m+1)+(runEnd m (bits h%(m+1))-bits h%(m+1))<m+1;have:bits h%(m+1)<m+1:=Nat.mod_lt (bits h) (Nat.succ_pos m);unfold runEnd;split<;>lia
 |n+1=>by
  have ih:=pH m h n;show(ad m (nth m (st m h) n)).j+(ad m (nth m (st m h) n)).more<m+1;by_cases hm:0<(nth m (st m h) n).more
  ·rw[tM hm];show _+1+(_-1)<_;lia
  ·rw[tN (by lia)];have:(leap m (nth m (st m h) n).i (nth m (st m h) n).perturb).1<m+1:=Nat.mod_lt _ (Nat.succ_pos m);show(leap m (nth m (st m h) n).i (nth m (st m h) n).perturb).1+(runEnd m (leap m (nth m (st m h) n).i (nth m (st m h) n).perturb).1-(leap m (nth m (st m h) n).i (nth m (st m h) n).perturb).1)<_;generalize (leap m (nth m (st m h) n).i (nth m (st m h) n).perturb).1=x at this ⊢;unfold runEnd;split<;>lia
end ST
set_option maxRecDepth 100000
namespace ST
theorem tJ(m i a:Nat):∀k,cyc m (cyc m i a) k=cyc m i (a+k)
 |0=>rfl
 |k+1=>by show(cyc m (cyc m i a) k*5+1)%(m+1)=(cyc m i (a+k)*5+1)%(m+1);rw[tJ m i a k]
theorem E4{m:Nat}(h0:cyc m 0 (m+1)=0)(h:∀j,j<m+1->∃k,k<m+1/\cyc m 0 k=j):Ful m:=λi hi j hj=>by
 obtain⟨a,ha,rfl⟩:=h i hi;obtain⟨b,hb,rfl⟩:=h j hj;rcases Xq b a with z | z
 ·refine⟨m+1+b-a,by omega,?_⟩;rw[tJ,show a+(m+1+b-a)=(m+1)+b by lia,<-tJ,h0]
 ·refine⟨b-a,by lia,?_⟩;rw[tJ,show a+(b-a)=b by lia]
def JW:List Nat:=[0,1,70,111,28,109,2,123,120,25,126,71,20,5,58,83,112,49,54,31,12,29,114,43,104,73,110,119,4,53,42,3,96,97,38,79,124,77,98,91,88,121,94,39,116,101,26,51,80,17,22,127,108,125,82,11,72,41,78,87,100,21,10,99,64,65,6,47,92,45,66,59,56,89,62,7,84,69,122,19,48,113,118,95,76,93,50,107,40,9,46,55,68,117,106,67,32,33,102,15,60,13,34,27,24,57,30,103,52,37,90,115,16,81,86,63,44,61,18,75,8,105,14,23,36,85,74,35]
theorem SE:∀j,j<128->JW.getD j 0<128/\cyc 127 0 (JW.getD j 0)=j:=by decide +kernel
theorem QA:Ful 127:=E4 (by decide +kernel) λj hj=>⟨_,SE j hj⟩
def JV:List Nat:=[0,1,326,495,412,365,2,379,376,281,254,327,404,261,58,339,496,305,438,415,140,413,370,43,360,73,366,247,132,309,426,3,480,97,38,335,380,461,226,219,344,377,478,167,372,357,282,179,464,401,150,255,108,509,82,395,328,169,78,87,100,405,138,355,448,193,262,175,348,45,450,59,312,473,190,7,340,453,506,19,432,497,374,95,76,93,306,235,296,265,302,439,68,501,362,195,416,289,486,15,316,141,162,411,280,57,414,359,308,37,218,371,400,81,86,447,44,189,18,75,264,361,14,279,36,85,74,35,384,385,198,367,284,237,386,251,248,153,126,199,276,133,442,211,368,177,310,287,12,285,242,427,232,457,238,119,4,181,298,387,352,481,422,207,252,333,98,91,216,249,350,39,244,229,154,51,336,273,22,127,492,381,466,267,200,41,462,471,484,277,10,227,320,65,134,47,220,429,322,443,184,345,62,391,212,325,378,403,304,369,246,479,460,477,178,107,168,137,174,311,452,373,234,67,288,161,358,399,188,13,34,283,152,441,286,231,180,421,90,243,272,465,470,319,428,61,402,459,136,233,398,151,420,469,458,419,256,257,70,239,156,109,258,123,120,25,510,71,148,5,314,83,240,49,182,159,396,157,114,299,104,329,110,503,388,53,170,259,224,353,294,79,124,205,482,475,88,121,222,423,116,101,26,435,208,145,406,511,364,253,338,139,72,425,334,343,356,149,394,99,192,449,6,431,92,301,194,315,56,217,446,263,84,197,250,275,176,241,118,351,332,349,50,491,40,9,46,183,324,245,106,451,160,33,230,271,60,397,418,155,24,313,158,103,52,293,474,115,144,337,342,191,300,445,274,331,8,105,270,23,292,341,330,291,128,129,454,111,28,493,130,507,504,409,382,455,20,389,186,467,112,433,54,31,268,29,498,171,488,201,494,375,260,437,42,131,96,225,166,463,508,77,354,347,472,505,94,295,500,485,410,307,80,17,278,383,236,125,210,11,456,297,206,215,228,21,266,483,64,321,390,303,476,173,66,187,440,89,318,135,468,69,122,147,48,113,502,223,204,221,434,363,424,393,430,55,196,117,490,323,32,417,102,143,444,269,290,27,408,185,30,487,436,165,346,499,16,209,214,63,172,317,146,203,392,489,142,407,164,213,202,163]
theorem SD:∀j,j<512->JV.getD j 0<512/\cyc 511 0 (JV.getD j 0)=j:=by decide +kernel
theorem P9:Ful 511:=E4 (by decide +kernel) λj hj=>⟨_,SD j hj⟩
end ST
namespace ST
open PySem PySem.SetTable
theorem vW{xs:Array Nat}{j:Nat}(up:∀a b (h1:a<xs.size) (h2:b<xs.size),a<b->xs[a]<xs[b]):∀(fuel lo hi:Nat),hi-lo<=fuel->lo<=hi->hi<=xs.size->(∀i (h:i<xs.size),i<lo->xs[i]<j)->(∀i (h:i<xs.size),hi<=i->j<=xs[i]) ->
  below.go xs j fuel lo hi<=xs.size/\(∀i (h:i<xs.size),i<below.go xs j fuel lo hi->xs[i]<j)/\(∀i (h:i<xs.size),below.go xs j fuel lo hi<=i->j<=xs[i])
 |0,lo,hi,hf,hl,hh,h1,h2=>by
  have:lo=hi:=by lia
  subst this;exact⟨hh,h1,h2⟩
 |fuel+1,lo,hi,hf,hl,hh,h1,h2=>by
  unfold below.go;by_cases hlt:lo<hi
  ·rw[if_pos hlt];have hm:(lo+hi) / 2<xs.size:=by lia
   have e:xs.getD ((lo+hi) / 2) j=xs[(lo+hi) / 2]:=by simp[Array.getD,hm]
   show _<=_/\_;dsimp only;by_cases hc:xs.getD ((lo+hi) / 2) j<j
   ·rw[if_pos hc];refine vW up fuel _ hi (by omega) (by lia) hh (λi h hi'=>?_) h2;by_cases q:i=(lo+hi) / 2
    ·subst q;rw[<-e];exact hc
    ·have:=up i ((lo+hi) / 2) h hm (by lia);rw[e]at hc;lia
   ·rw[if_neg hc];refine vW up fuel lo _ (by omega) (by lia) (by lia) h1 (λi h hi'=>?_);by_cases q:i=(lo+hi) / 2
    ·subst q;rw[<-e];lia
    ·have:=up ((lo+hi) / 2) i hm h (by lia);rw[e]at hc;lia
  ·rw[if_neg hlt];have:lo=hi:=by lia
   subst this;exact⟨hh,h1,h2⟩
theorem QY{l:List Nat}(r:l.Pairwise (· < ·)):∀a b (h1:a<l.toArray.size) (h2:b<l.toArray.size),a<b->l.toArray[a]<l.toArray[b]:=λa b h1 h2 h=>by
 simp only[List.getElem_toArray];exact List.pairwise_iff_getElem.mp r a b (by simpa using h1) (by simpa using h2) h
theorem B4{l:List Nat}(r:l.Pairwise (· < ·))(j:Nat):below l.toArray j<=l.length/\(∀i (h:i<l.length),i<below l.toArray j->l[i]<j)/\(∀i (h:i<l.length),below l.toArray j<=i->j<=l[i]):=by
 have:=vW (xs:=l.toArray) (j:=j) (QY r) l.toArray.size 0 l.toArray.size (by lia) (Nat.zero_le _) (Nat.le_refl _) (λi h hi=>by lia) (λi h hi=>by lia);simpa[below] using this
theorem below_at{l:List Nat}(r:l.Pairwise (· < ·)){i j:Nat}(h:l[i]?=some j):below l.toArray j=i:=by
 obtain⟨h1,h2,h3⟩:=B4 r j;obtain⟨hi,e⟩:=Zj.mp h;by_cases q:i<below l.toArray j
 ·have:=h2 i hi q;lia
 ·by_cases q2:below l.toArray j<i
  ·have a:=h3 (below l.toArray j) (by lia) (Nat.le_refl _);have b:=List.pairwise_iff_getElem.mp r (below l.toArray j) i (by omega) hi q2
   lia
  ·lia
structure Pl(t:SetTable)(l:List Nat):Prop where
 pl:t.place=l.toArray
 up:l.Pairwise (· < ·)
 du:t.dummies=#[]
theorem Pl.live{t:SetTable}{l:List Nat}(p:Pl t l){i j:Nat}(h:l[i]?=some j):t.slot j=.live i:=by
 unfold slot;rw[p.pl,below_at p.up h];have e:l.toArray[i]?=some j:=by simpa using h
 simp[h]
theorem Pl.empty{t:SetTable}{l:List Nat}(p:Pl t l){j:Nat}(h:j∉l):t.slot j=.empty:=by
 unfold slot;rw[p.pl,p.du];have e:¬(l.toArray[below l.toArray j]?==some j)=true:=by
  intro z;rw[beq_iff_eq]at z;refine h (Zg (i:=below l.toArray j) ?_);simpa using z
 have e2:has #[] j=false:=by unfold has;simp
 dsimp only;rw[if_neg e,e2];rfl
theorem MV(m:Nat)(p:Probe):(ad m p).dummy=p.dummy:=by
 by_cases h:0<p.more
 ·rw[tM h]
 ·rw[tN (by lia)]
theorem J3{t:SetTable}{l:List Nat}(P:Pl t l){hA:Nat->Int}{h:Int}:∀(d fuel:Nat) (p:Probe),d<fuel->(∀e,e<d->∃i,l[i]?=some (nth t.mask p e).j/\hA i≠h) ->
  ((nth t.mask p d).j∉l->probe.go t hA h fuel p=some (.empty (nth t.mask p d).j p.dummy))/\(∀i,l[i]?=some (nth t.mask p d).j->hA i=h->probe.go t hA h fuel p=some (.candidate (nth t.mask p d).j i (nth t.mask p (d+1))))
 |0,0,_,hf,_=>absurd hf (by lia)
 |0,fuel+1,p,hf,hb=>by
  refine⟨λhn=>?_,λi hi he=>?_⟩
  ·unfold probe.go;rw[show p.j=(nth t.mask p 0).j from rfl,P.empty hn]
  ·unfold probe.go;rw[show p.j=(nth t.mask p 0).j from rfl,P.live hi];simp only[he,beq_self_eq_true,if_true];rfl
 |d+1,0,_,hf,_=>absurd hf (by lia)
 |d+1,fuel+1,p,hf,hb=>by
  obtain⟨i,hi,hne⟩:=hb 0 (by lia);have ih:=J3 P (hA:=hA) (h:=h) d fuel (ad t.mask p) (by lia) λe he=>by
   obtain⟨i',a,b⟩:=hb (e+1) (by lia);exact⟨i',by rw[uS];exact a,b⟩
  rw[uS,uS,MV]at ih;have go1:probe.go t hA h (fuel+1) p=probe.go t hA h fuel (ad t.mask p):=by
   rw[probe.go];rw[show p.j=(nth t.mask p 0).j from rfl,P.live hi];have:(hA i==h)=false:=by rw[beq_eq_false_iff_ne];exact hne
   simp only[this];rfl
  rw[go1];exact ih
theorem least{P:Nat->Prop}:∀{n:Nat},P n->∃N,N<=n/\P N/\∀e,e<N->¬P e
 |0,h=>⟨0,Nat.le_refl _,h,λe he=>absurd he (by lia)⟩
 |n+1,h=>by
  by_cases q:∃e,e<=n/\P e
  ·obtain⟨e,he,pe⟩:=q;obtain⟨N,h1,h2,h3⟩:=least (P:=λk=>P k) (n:=e) pe;exact⟨N,by lia,h2,h3⟩
  ·exact⟨n+1,Nat.le_refl _,h,λe he pe=>q ⟨e,by lia,pe⟩⟩
termination_by n=>n
theorem sub_len{α:Type}[DecidableEq α]:∀{a b:List α},a.Nodup->(∀x∈a,x∈b)->a.length<=b.length
 |[],_,_,_=>Nat.zero_le _
 |x::a,b,nd,h=>by
  have hx:=h x Zd;obtain⟨n1,n2⟩:=List.nodup_cons.mp nd;have:=sub_len (a:=a) (b:=b.erase x) n2 λy hy=>(List.mem_erase_of_ne (show y≠x from λz=>n1 (by rw[<-z];exact hy))).mpr (h y (Zw _ hy));rw[List.length_erase_of_mem hx]at this;have:=List.length_pos_of_mem hx;simp only[Yq];lia
theorem xD{l:List Nat}{m:Nat}(hl:l.length<m+1):∃j,j<m+1/\j∉l:=by
 apply ZT;intro z;have:=sub_len (a:=List.range (m+1)) (b:=l) List.nodup_range λx hx=>ZT λq=>z ⟨x,Zs.mp hx,q⟩;rw[Yj]at this
 lia
abbrev Msk(m:Nat):Prop:=m=7\/m=31\/m=127\/m=511
theorem KA{m:Nat}(h:Msk m):Ful m:=by
 rcases h with rfl | rfl | rfl | rfl
 ·exact TK
 ·exact R4
 ·exact QA
 ·exact P9
structure Tab(t:SetTable)(l:List Nat)(hs:List Int):Prop where
 p:Pl t l
 ma:Msk t.mask
 ln:l.length=hs.length
 lt:∀j∈l,j<t.mask+1
 way:∀(i:Nat) h j,hs[i]?=some h->l[i]?=some j->∃n,(nth t.mask (st t.mask h) n).j=j/\∀e,e<n->(nth t.mask (st t.mask h) e).j∈l
theorem Tab.first{t:SetTable}{l:List Nat}{hs:List Int}(T:Tab t l hs)(hl:hs.length<t.mask+1)(h:Int) :
  ∃N,N<=10*t.mask+130/\(nth t.mask (st t.mask h) N).j∉l/\∀e,e<N->(nth t.mask (st t.mask h) e).j∈l:=by
 obtain⟨j,h1,h2⟩:=xD (l:=l) (by rw[T.ln];exact hl);obtain⟨n,hn,e⟩:=comes (KA T.ma) h h1;obtain⟨N,a,b,c⟩:=least (P:=λk=>(nth t.mask (st t.mask h) k).j∉l) (n:=n) (by rw[e];exact h2);exact⟨N,by lia,b,λe he=>ZT λz=>c e he z⟩
theorem Tab.before{t:SetTable}{l:List Nat}{hs:List Int}(T:Tab t l hs){h:Int}{N:Nat}(hN:(nth t.mask (st t.mask h) N).j∉l){i:Nat}(hi:hs[i]?=some h):∃n,n<N/\l[i]?=some (nth t.mask (st t.mask h) n).j:=by
 have hl:i<l.length:=by rw[T.ln];exact(Zj.mp hi).1
 obtain⟨n,e,a⟩:=T.way i h l[i] hi (Zz hl);refine⟨n,?_,by rw[e];exact Zz hl⟩;apply ZT;intro z;by_cases q:n=N
 ·subst q;rw[e]at hN;exact hN (Zp hl)
 ·exact hN (a N (by lia))
def cW{α:Type}(l:List α)(p:Nat)(x:α):List α:=l.take p++x::l.drop p
theorem EY{α:Type}(l:List α)(p:Nat)(x:α):insertAt l.toArray p x=(cW l p x).toArray:=by
 unfold insertAt cW;have e:(l.drop p).take (l.length-p)=l.drop p:=List.take_of_length_le (by rw[Yf];lia);simp[e]
theorem lS{α:Type}{l:List α}{p:Nat}{x y:α}:y∈cW l p x↔y=x\/y∈l:=by
 unfold cW;rw[Zf,Zn];have h:y∈l↔y∈l.take p\/y∈l.drop p:=by rw[<-Zf,List.take_append_drop]
 rw[h];constructor
 ·rintro(h | h | h)
  ·exact .inr (.inl h)
  ·exact .inl h
  ·exact .inr (.inr h)
 ·rintro(h | h | h)
  ·exact .inr (.inl h)
  ·exact .inl h
  ·exact .inr (.inr h)
theorem vC{α:Type}(l:List α)(p:Nat)(x:α):(cW l p x).length=l.length+1:=by
 unfold cW;simp only[Zm,Yq,Yw,Yf];lia
theorem GR{α:Type}(l:List α)(p:Nat)(x:α):(cW l p x).Perm (x::l):=by
 have:=List.perm_middle (a:=x) (l₁:=l.take p) (l₂:=l.drop p);rw[List.take_append_drop]at this;exact this
theorem BI{α:Type}{l:List α}{p:Nat}(hp:p<=l.length)(x:α)(i:Nat):(cW l p x)[i]?=if i<p then l[i]? else if i=p then some x else l[i-1]?:=by
 unfold cW;have lt:(l.take p).length=p:=by rw[Yw];lia
 by_cases h:i<p
 ·rw[if_pos h,Zx (by lia),List.getElem?_take_of_lt h]
 ·rw[if_neg h,Zy (by lia),lt];by_cases q:i=p
  ·rw[if_pos q,q,Nat.sub_self];rfl
  ·rw[if_neg q];obtain⟨k,rfl⟩:∃k,i=p+k+1:=⟨i-p-1,by lia⟩
   rw[show p+k+1-p=k+1 by lia,List.getElem?_cons_succ,List.getElem?_drop];rfl
theorem BH{α β:Type}(f:α->β)(l:List α)(p:Nat)(x:α):(cW l p x).map f=cW (l.map f) p (f x):=by
 unfold cW;rw[Zt,List.map_cons,List.map_take,List.map_drop]
theorem Tab.put{t:SetTable}{l:List Nat}{hs:List Int}(T:Tab t l hs){h:Int}{j n:Nat}(hj:j∉l)(hn:(nth t.mask (st t.mask h) n).j=j)(ha:∀e,e<n->(nth t.mask (st t.mask h) e).j∈l) :
  ∃p,p<=hs.length/\(t.put j).2=p/\(t.put j).1={ t with place:=(cW l p j).toArray,dummies:=#[] }/\Tab (t.put j).1 (cW l p j) (cW hs p h):=by
 obtain⟨b1,b2,b3⟩:=B4 T.p.up j;have hp:below t.place j=below l.toArray j:=by rw[T.p.pl]
 have e0:has t.dummies j=false:=by rw[T.p.du];unfold has;simp
 have e1:(t.put j).1={ t with place:=(cW l (below l.toArray j) j).toArray,dummies:=#[] }:=by
  unfold SetTable.put;dsimp only;rw[e0,hp,T.p.pl,EY,T.p.du];rfl
 refine⟨below l.toArray j,by rw[<-T.ln];exact b1,hp,e1,?_⟩;have hm:(t.put j).1.mask=t.mask:=by rw[e1]
 have jlt:j<t.mask+1:=by have:=pH t.mask h n;rw[hn]at this;lia
 refine⟨⟨by rw[e1],?_,by rw[e1]⟩,by rw[hm];exact T.ma,by rw[vC,vC,T.ln],λx hx=>?_,λi h' j' h1 h2=>?_⟩
 ·unfold cW;rw[List.pairwise_append];refine⟨T.p.up.sublist (List.take_sublist _ _),?_,λa ha b hb=>?_⟩
  ·rw[List.pairwise_cons];refine⟨λb hb=>?_,T.p.up.sublist (List.drop_sublist _ _)⟩;obtain⟨k,hk,rfl⟩:=Yy.mp hb;rw[List.getElem_drop];rw[Yf]at hk;have:=b3 (below l.toArray j+k) (by lia) (by lia);have ne:l[below l.toArray j+k]'(by lia)≠j:=λz=>hj (z▸Zp _)
   lia
  ·obtain⟨k,hk,rfl⟩:=Yy.mp ha;rw[List.getElem_take];rw[Yw]at hk;have q1:=b2 k (by lia) (by lia);rcases Zn.mp hb with rfl | hb
   ·exact q1
   ·obtain⟨k2,hk2,rfl⟩:=Yy.mp hb;rw[List.getElem_drop];rw[Yf]at hk2;have:=b3 (below l.toArray j+k2) (by lia) (by lia);omega
 ·rw[hm];rcases lS.mp hx with rfl | hx
  ·exact jlt
  ·exact T.lt x hx
 ·rw[hm];rw[BI b1]at h2;rw[BI (by rw[<-T.ln];exact b1)]at h1;by_cases q1:i<below l.toArray j
  ·rw[if_pos q1]at h1 h2;obtain⟨n',a,b⟩:=T.way i h' j' h1 h2;exact⟨n',a,λe he=>lS.mpr (.inr (b e he))⟩
  ·rw[if_neg q1]at h1 h2;by_cases q2:i=below l.toArray j
   ·rw[if_pos q2]at h1 h2;cases h1;cases h2;exact⟨n,hn,λe he=>lS.mpr (.inr (ha e he))⟩
   ·rw[if_neg q2]at h1 h2;obtain⟨n',a,b⟩:=T.way (i-1) h' j' h1 h2;exact⟨n',a,λe he=>lS.mpr (.inr (b e he))⟩
abbrev Ow:=Array (Option Nat)
def og(O:Ow)(j:Nat):Option Nat:=O.getD j none
theorem zF{O:Ow}{j:Nat}(h:j<O.size):(O.getD j (some 0)).isNone=true↔og O j=none:=by
 unfold og;simp[Array.getD,h]
theorem E6{m:Nat}(f:Ful m){O:Ow}(hz:O.size=m+1){h:Int}(hf:∃j,j<m+1/\og O j=none):∀(fuel k n:Nat),fuel+k=m+15->At m h k (nth m (st m h) n)->(∀e,e<n->og O (nth m (st m h) e).j≠none)->(∀r,r<k->og O (lp m h r).1≠none) ->
  ∃n',layClean.free m O fuel (lp m h k).1 (lp m h k).2=some (nth m (st m h) n').j/\og O (nth m (st m h) n').j=none/\∀e,e<n'->og O (nth m (st m h) e).j≠none
 |0,k,n,hk,_,_,hB=>by
  exfalso;obtain⟨j,h1,h2⟩:=hf;obtain⟨q,hq,e⟩:=f (lp m h 13).1 (NO m h 13) j h1;refine hB (13+q) (by lia) ?_;rw[DA,e];exact h2
 |fuel+1,k,n,hk,hA,hP,hB=>by
  unfold layClean.free;have hi:(nth m (st m h) n).i=(lp m h k).1:=hA.i;have hjl:=pH m h n;have hmo:=hA.mo;rw[hA.j,hi]at hjl;rw[hi]at hmo;have run:∀q,q<=(nth m (st m h) n).more->(nth m (st m h) (n+q)).j=(lp m h k).1+q:=λq hq=>by
   rw[iX,CQ q hq];show(nth m (st m h) n).j+q=_;rw[hA.j,hi]
  have rl:(lp m h k).1<=runEnd m (lp m h k).1:=by unfold runEnd;split<;>lia
  cases e:(List.range (runEnd m (lp m h k).1+1-(lp m h k).1)).find? λq=>(O.getD ((lp m h k).1+q) (some 0)).isNone with
  |some q =>
   have h1:=List.find?_some e;have h2:=Zs.mp (List.mem_of_find?_eq_some e);have hq:q<=(nth m (st m h) n).more:=by rw[hmo];omega
   refine⟨n+q,by rw[run q hq],?_,λe' he=>?_⟩
   ·rw[run q hq];exact(zF (by lia)).mp h1
   ·by_cases c:e' < n
    ·exact hP e' c
    ·obtain⟨d,rfl⟩:∃d,e'=n+d:=⟨e' - n,by lia⟩
     rw[run d (by lia)];intro z;obtain⟨as,bs,e3,e4⟩:=(List.find?_eq_some_iff_append.mp e).2;have hd:d∈as:=by
      have e5:as=List.range q:=by
       have l1:(List.range (runEnd m (lp m h k).1+1-(lp m h k).1))[as.length]?=some q:=by rw[e3];simp
       have l2:=(Zj.mp l1)
       obtain⟨l3,l4⟩:=l2;rw[List.getElem_range]at l4;have:=congrArg (List.take as.length) e3;rw[List.take_append_of_le_length (Nat.le_refl _),Yv,List.take_range,l4]at this;rw[<-this,Nat.min_eq_left (by lia)]
      rw[e5];exact Zs.mpr (by lia)
     have:=e4 d hd;rw[(zF (by lia)).mpr z]at this;simp at this
  |none =>
   have h1:=List.find?_eq_none.mp e;have occ:∀q,q<=(nth m (st m h) n).more->og O ((lp m h k).1+q)≠none:=λq hq z=>by
    have:=h1 q (Zs.mpr (by omega));rw[(zF (by lia)).mpr z]at this;exact this rfl
   have hA':=EM hA;rw[<-iX]at hA';refine E6 f hz hf fuel (k+1) _ (by lia) hA' (λe' he=>?_) (λr hr=>?_)
   ·by_cases c:e' < n
    ·exact hP e' c
    ·obtain⟨d,rfl⟩:∃d,e'=n+d:=⟨e' - n,by lia⟩
     rw[run d (by lia)];exact occ d (by lia)
   ·by_cases c:r<k
    ·exact hB r c
    ·have:r=k:=by lia
     subst this;exact occ 0 (Nat.zero_le _)
structure Ld(m:Nat)(hs:List Int)(O:Ow)(k:Nat):Prop where
 sz:O.size=m+1
 un:∀j q,og O j=some q->q<k/\∀j',og O j'=some q->j'=j
 al:∀q,q<k->∃j h,og O j=some q/\j<m+1/\hs[q]?=some h/\∃n,(nth m (st m h) n).j=j/\∀e,e<n->og O (nth m (st m h) e).j≠none
theorem qY{O:Ow}{j:Nat}(h:j<O.size)(v:Option Nat)(i:Nat):og (O.setIfInBounds j v) i=if i=j then v else og O i:=by
 unfold og;by_cases c:i=j
 ·subst c;simp[Array.getD,h]
 ·rw[if_neg c];simp only[Array.getD,Array.size_setIfInBounds];by_cases hi:i<O.size
  ·simp[hi,Array.getElem_setIfInBounds,Ne.symm c]
  ·simp[hi]
theorem Ld.put{m:Nat}{hs:List Int}{O:Ow}{k:Nat}(L:Ld m hs O k){h:Int}(hk:hs[k]?=some h){n:Nat}(h0:og O (nth m (st m h) n).j=none)(ha:∀e,e<n->og O (nth m (st m h) e).j≠none):Ld m hs (O.setIfInBounds (nth m (st m h) n).j (some k)) (k+1):=by
 have hj:(nth m (st m h) n).j<O.size:=by rw[L.sz];have:=pH m h n;lia
 have mono:∀{i},og O i≠none->og (O.setIfInBounds (nth m (st m h) n).j (some k)) i≠none:=λ{i} hi=>by
  rw[qY hj];split
  ·simp
  ·exact hi
 refine⟨by rw[Array.size_setIfInBounds];exact L.sz,λj q e=>?_,λq hq=>?_⟩
 ·rw[qY hj]at e;by_cases c:j=(nth m (st m h) n).j
  ·rw[if_pos c]at e;cases e;refine⟨by lia,λj' e'=>?_⟩;rw[qY hj]at e';by_cases c':j'=(nth m (st m h) n).j
   ·rw[c,c']
   ·rw[if_neg c']at e';have:=(L.un j' k e').1;lia
  ·rw[if_neg c]at e;obtain⟨a,b⟩:=L.un j q e;refine⟨by lia,λj' e'=>?_⟩;rw[qY hj]at e';by_cases c':j'=(nth m (st m h) n).j
   ·rw[if_pos c']at e';cases e';lia
   ·rw[if_neg c']at e';exact b j' e'
 ·by_cases c:q<k
  ·obtain⟨j,h',a,b,d,n',e1,e2⟩:=L.al q c;refine⟨j,h',?_,b,d,n',e1,λe he=>mono (e2 e he)⟩;rw[qY hj,if_neg (λz=>by rw[z,h0]at a;cases a)];exact a
  ·have:q=k:=by lia
   subst this;refine⟨_,h,by rw[qY hj,if_pos rfl],by rw[<-L.sz];exact hj,hk,n,rfl,λe he=>mono (ha e he)⟩
def us(m:Nat)(O:Ow):List Nat:=(List.range (m+1)).filter λj=>(og O j).isSome
theorem nB{m:Nat}{O:Ow}{j:Nat}(hz:O.size=m+1):j∈us m O↔og O j≠none:=by
 unfold us;rw[Yz,Zs];constructor
 ·rintro⟨_,h⟩ z;rw[z]at h;cases h
 ·intro h;refine⟨?_,by cases e:og O j with | none=>exact absurd e h | some x=>rfl⟩;apply ZT;intro c;apply h;unfold og;simp[Array.getD,hz,c]
def od(m:Nat)(O:Ow):List Nat:=(us m O).map λj=>(og O j).getD 0
theorem EL{m:Nat}{hs:List Int}{O:Ow}{k:Nat}(L:Ld m hs O k):(od m O).Perm (List.range k):=by
 have nd:(us m O).Nodup:=List.nodup_range.filter _;refine(List.perm_ext_iff_of_nodup ?_ List.nodup_range).mpr λq=>?_
 ·unfold od;refine List.nodup_iff_pairwise_ne.mpr (List.pairwise_map.mpr ((List.nodup_iff_pairwise_ne.mp nd).imp_of_mem λ{a b} ha hb hab z=>?_));have h1:=(nB L.sz).mp ha;have h2:=(nB L.sz).mp hb;cases e1:og O a with
  |none=>exact h1 e1
  |some x =>
   cases e2:og O b with
   |none=>exact h2 e2
   |some y =>
    rw[e1,e2]at z;have z:x=y:=z;subst z;exact hab ((L.un b x e2).2 a e1)
 ·unfold od;rw[Zh,Zs];constructor
  ·rintro⟨j,hj,e⟩;have h1:=(nB L.sz).mp hj;cases e1:og O j with
   |none=>exact absurd e1 h1
   |some x=>rw[e1]at e;have e:x=q:=e;subst e;exact(L.un j x e1).1
  ·intro hq;obtain⟨j,h,a,_⟩:=L.al q hq;exact⟨j,(nB L.sz).mpr (by rw[a];simp),by rw[a];rfl⟩
theorem N7{m:Nat}{hs:List Int}{O:Ow}{k:Nat}(L:Ld m hs O k):(us m O).length=k:=by
 have:=(EL L).length_eq;rw[od,Zq,Yj]at this;exact this
theorem Ld.step{m:Nat}(f:Ful m){hs:List Int}{O:Ow}{k:Nat}(L:Ld m hs O k)(hk:k<m+1){h:Int}(hh:hs[k]?=some h):∃j,layClean.free m O (turns m) (bits h%(m+1)) (bits h)=some j/\Ld m hs (O.setIfInBounds j (some k)) (k+1):=by
 obtain⟨j,h1,h2⟩:=xD (l:=us m O) (m:=m) (by rw[N7 L];exact hk);have hf:∃j,j<m+1/\og O j=none:=⟨j,h1,ZT λz=>h2 ((nB L.sz).mpr z)⟩
 obtain⟨n,a,b,c⟩:=E6 f L.sz (h:=h) hf (m+15) 0 0 rfl (NK m h) (λe he=>absurd he (by lia)) (λr hr=>absurd hr (by lia));exact⟨_,a,L.put hh b c⟩
def stp(m:Nat)(acc:Option (Ow×Nat))(h:Int):Option (Ow×Nat):=do
 let(owner,k) <-acc
 let j <-layClean.free m owner (turns m) (bits h%(m+1)) (bits h)
 pure (owner.setIfInBounds j (some k),k+1)
theorem JS{m:Nat}(f:Ful m){hs:List Int}(hl:hs.length<m+1):∀(k:Nat) (O:Ow),k<=hs.length->Ld m hs O k->∃O',(hs.drop k).foldl (stp m) (some (O,k))=some (O',hs.length)/\Ld m hs O' hs.length:=by
 intro k;induction hd:hs.length-k generalizing k with
 |zero =>
  intro O hk L;have:k=hs.length:=by lia
  subst this;exact⟨O,by rw[List.drop_length];rfl,L⟩
 |succ d ih =>
  intro O hk L;have hlt:k<hs.length:=by lia
  obtain⟨j,e,L'⟩:=L.step f (by lia) (Zz hlt);obtain⟨O',a,b⟩:=ih (k+1) (by lia) _ (by lia) L';refine⟨O',?_,b⟩;rw[List.drop_eq_getElem_cons hlt,List.foldl_cons];have:stp m (some (O,k)) hs[k]=some (O.setIfInBounds j (some k),k+1):=by
   unfold stp;simp[e]
  rw[this];exact a
theorem MP{m:Nat}(hm:Msk m){hs:List Int}(hl:hs.length<m+1)(finger moves:Nat)(led plain:Bool):∃(l order:List Nat),laid m finger moves led plain hs.toArray=some ({ mask:=m,place:=l.toArray,dummies:=#[],finger,led,moves,plain },order.toArray)/\order.Perm (List.range hs.length) /\
  Tab { mask:=m,place:=l.toArray,dummies:=#[],finger,led,moves,plain } l (order.filterMap (hs[·]?)):=by
 have L0:Ld m hs (Array.replicate (m+1) none) 0:=⟨by simp,λj q e=>by unfold og at e;simp[Array.getD]at e,λq hq=>absurd hq (by lia)⟩
 obtain⟨O,e,L⟩:=JS (KA hm) hl 0 _ (Nat.zero_le _) L0;rw[List.drop_zero]at e;have e1:layClean m hs.toArray=some O:=by
  unfold layClean;rw[List.foldl_toArray];have:hs.foldl (stp m) (some (Array.replicate (m+1) none,0))=some (O,hs.length):=e;exact congrArg (λz=>z.map (·.1)) this
 have hp:=EL L;have live:((List.range (m+1)).filterMap λj=>(O.getD j none).map (j,·))=(us m O).map λj=>(j,(og O j).getD 0):=by
  unfold us;generalize List.range (m+1)=xs;induction xs with
  |nil=>rfl
  |cons x xs ih =>
   rw[List.filterMap_cons,List.filter_cons];unfold og at ih ⊢;cases c:O.getD x none with
   |none=>simp only[Option.map_none,Option.isSome_none];exact ih
   |some y=>simp only[Option.map_some,Option.isSome_some,if_true,List.map_cons,c,Option.getD_some];rw[ih]
 have e2:laid m finger moves led plain hs.toArray=some ({ mask:=m,place:=(us m O).toArray,dummies:=#[],finger,led,moves,plain },(od m O).toArray):=by
  unfold laid;rw[e1];show some _=some _;rw[live,Yh,Yh];have:((us m O).map ((λx=>x.1)∘λj=>(j,(og O j).getD 0)))=us m O:=by
   rw[show((λx:Nat×Nat=>x.1)∘λj=>(j,(og O j).getD 0))=id from rfl,List.map_id]
  rw[this];rfl
 have flt:∀q∈od m O,q<hs.length:=λq hq=>Zs.mp (hp.mem_iff.mp hq);have fm:∀(xs:List Nat),(∀q∈xs,q<hs.length)->(xs.filterMap (hs[·]?)).length=xs.length/\∀i:Nat,(xs.filterMap (hs[·]?))[i]?=(xs[i]?).bind (hs[·]?):=by
  intro xs;induction xs with
  |nil=>intro _;exact⟨rfl,λi=>by simp⟩
  |cons x xs ih =>
   intro h;obtain⟨a,b⟩:=ih λq hq=>h q (Zw _ hq);have hx:=h x Zd;rw[List.filterMap_cons,Zz hx];refine⟨by simp[a],λi=>?_⟩;cases i with
   |zero=>simp[hx]
   |succ i=>simp[b i]
 obtain⟨f1,f2⟩:=fm _ flt;refine⟨us m O,od m O,e2,hp,⟨⟨rfl,?_,rfl⟩,hm,?_,λj hj=>?_,λi h j h1 h2=>?_⟩⟩
 ·exact List.pairwise_lt_range.filter _
 ·rw[f1,od,Zq]
 ·exact Zs.mp (Yz.mp hj).1
 ·rw[f2]at h1;have hd:(od m O)[i]?=some ((og O j).getD 0):=by unfold od;rw[Zk,h2];rfl
  rw[hd]at h1;have hju:=(nB L.sz).mp (Zg h2);cases c:og O j with
  |none=>exact absurd c hju
  |some q =>
   rw[c]at h1;have h1:hs[q]?=some h:=h1;obtain⟨j',h',a,_,d,n,p1,p2⟩:=L.al q (L.un j q c).1;rw[h1]at d;cases d;have:j'=j:=(L.un j q c).2 j' a;subst this;exact⟨n,p1,λe he=>(nB L.sz).mpr (p2 e he)⟩
end ST
set_option maxRecDepth 100000
namespace ST
open PySem PySem.SetTable
variable{prog:Program}{w:World}{A:Around}{E:Value->Shared->Prop}{s:Shared}
abbrev IK(prog:Program)(w:World):=intKind prog w
theorem items_int{ks:List Int}{vs:List Value}(h:ItemsAre (IK prog w) ks vs):∀v∈vs,∃k t,v=.int k t:=by
 induction h with
 |nil=>intro v hv;simp at hv
 |cons h1 _ ih =>
  intro v hv;rcases Zn.mp hv with rfl | hv
  ·obtain⟨t,rfl⟩:=Value.isInt_shape h1;exact⟨_,t,rfl⟩
  ·exact ih v hv
theorem KR{ks:List Int}{b:Addr}{Q:Bool->Shared->Prop}(hk:IsTupleKey (IK prog w) s.heap ks b)(h:Q true s):wpAny (model prog w) A (hashByValue 8 (.ref b)) Q E s:=by
 have hT:=hk.typeIs;obtain⟨o,items,n,ho,_,hd,hi⟩:=hk;unfold hashByValue;refine ZZ (wpAny_specialOf hT F.slot_tuple_hash.lookup ?_);dsimp only;refine ZZ (wpAny_seqItems ho hd ?_);refine ZZ ?_;show wpAny _ _ (forIn items _ _) _ _ s;rw[<-Array.forIn_toList];refine wpAny_forIn_list _ (λrest r s'=>r.1=none/\s'=s/\∀v∈rest,∃k t,v=.int k t) _ ?_ ?_ _ _ ⟨rfl,rfl,items_int hi⟩
 ·rintro v rest r s' ⟨hr,rfl,hall⟩;obtain⟨k,t,rfl⟩:=hall v Zd;refine ZZ (ZY ?_);exact ZY ⟨rfl,rfl,λu hu'=>hall u (Zw _ hu')⟩
 ·rintro⟨r1,r2⟩ s' ⟨hr,rfl,_⟩;simp only at hr;subst hr;exact ZY h
theorem A4{ks:List Int}{b:Addr}{Q:Bool->Shared->Prop}(hk:IsTupleKey (IK prog w) s.heap ks b)(h:Q false s):wpAny (model prog w) A (ofAClassStatement 8 (.ref b)) Q E s:=by
 have hT:=hk.typeIs;obtain⟨o,items,n,ho,_,hd,hi⟩:=hk;unfold ofAClassStatement;refine ZZ (wpAny_typeOf hT ?_);refine ZZ (ZY ?_);simp only[Bool.not_true,Bool.false_eq_true,if_false];refine ZZ (wpAny_seqItems ho hd ?_);refine ZZ ?_;show wpAny _ _ (forIn items _ _) _ _ s;rw[<-Array.forIn_toList];refine wpAny_forIn_list _ (λrest r s'=>r.1=none/\s'=s/\∀v∈rest,∃k t,v=.int k t) _ ?_ ?_ _ _ ⟨rfl,rfl,items_int hi⟩
 ·rintro v rest r s' ⟨hr,rfl,hall⟩;obtain⟨k,t,rfl⟩:=hall v Zd;refine ZZ (ZY ?_);exact ZY ⟨rfl,rfl,λu hu'=>hall u (Zw _ hu')⟩
 ·rintro⟨r1,r2⟩ s' ⟨hr,rfl,_⟩;simp only at hr;subst hr;exact ZY h
theorem N8{ks:List Int}{b:Addr}{Q:Bool->Shared->Prop}(hk:IsTupleKey (IK prog w) s.heap ks b){st:List Value}(hst:∀v∈st,∃x c,v=.ref c/\IsTupleKey (IK prog w) s.heap x c)(h:Q false s):wpAny (model prog w) A (searchCouldBeSeen (.ref b) st) Q E s:=by
 unfold searchCouldBeSeen;refine ZZ ?_;refine wpAny_forIn_list _ (λrest r s'=>r.1=none/\s'=s/\∀v∈rest,∃x c,v=.ref c/\IsTupleKey (IK prog w) s.heap x c) _ ?_ ?_ _ _ ⟨rfl,rfl,hst⟩
 ·rintro v rest r s' ⟨hr,rfl,hall⟩;obtain⟨x,c,rfl,hx⟩:=hall v Zd;have hrest:=λu hu'=>hall u (Zw _ hu');dsimp only;by_cases q:(b==c||carriedByValue (.ref b)&&carriedByValue (.ref c))=true
  ·rw[if_pos q];exact ZY ⟨rfl,rfl,hrest⟩
  ·rw[if_neg q];refine ZZ ((tupleKind (IK prog w)).quiet hk ?_);simp only[Bool.not_true,Bool.false_eq_true,if_false];refine ZZ ((tupleKind (IK prog w)).quiet hx ?_);simp only[Bool.not_true,Bool.false_eq_true,if_false];refine ZZ (A4 hk ?_);simp only[Bool.false_eq_true,if_false];refine ZZ (A4 hx ?_);simp only[Bool.false_eq_true,if_false];exact ZY ⟨rfl,rfl,hrest⟩
 ·rintro⟨r1,r2⟩ s' ⟨hr,rfl,_⟩;simp only at hr;subst hr;exact ZY h
end ST
set_option maxRecDepth 100000
namespace ST
open PySem PySem.SetTable
variable{prog:Program}{w:World}{A:Around}{E:Value->Shared->Prop}{s:Shared}
abbrev hk(prog:Program)(w:World)(k:List Int):Int:=tupleKeyHash (IK prog w) k
def ent(prog:Program)(w:World)(x:List Int×Addr):Int×Value:=(hk prog w x.1,.ref x.2)
abbrev Xs:=List (List Int×Addr)
theorem DR{xs:Xs}{i:Nat}{x:List Int×Addr}(h:xs[i]?=some x):(xs.map (ent prog w)).toArray[i]?=some (hk prog w x.1,.ref x.2):=by
 rw[List.getElem?_toArray,Zk,h];rfl
theorem JO{m:Nat}(h:Msk m):(m%2==0)=false:=by rcases h with rfl | rfl | rfl | rfl<;>rfl
theorem Tab.fits{t:SetTable}{l:List Nat}{hs:List Int}(T:Tab t l hs)(few:hs.length<t.mask+1){n:Nat}(hn:n=hs.length):t.fits n=true:=by
 unfold SetTable.fits SetTable.fill;rw[T.p.pl,T.p.du];simp[T.ln,hn];lia
theorem FZ{a b:Addr}{k:List Int}{xs:Xs}{o:Obj}{ep:Nat}{t:SetTable}{l:List Nat}{Q:SetFound->Shared->Prop}(room:A.units<cLine)(ho:s.heap.get? a=some o)(hd:o.data=.set (xs.map (ent prog w)).toArray ep t)
  (T:Tab t l (xs.map λx=>hk prog w x.1)) (few:xs.length<t.mask+1) (hks:∀x∈xs,IsTupleKey (IK prog w) s.heap x.1 x.2) (hb:IsTupleKey (IK prog w) s.heap k b) {N:Nat}(hN:(nth t.mask (st t.mask (hk prog w k)) N).j∉l) (hB:∀e,e<N->(nth t.mask (st t.mask (hk prog w k)) e).j∈l) (hNl:N<=10*t.mask+130)
  (q:∀f,((∃x∈xs,x.1=k)->f=.there none)->((¬∃x∈xs,x.1=k)->f=.free (nth t.mask (st t.mask (hk prog w k)) N).j false)->Q f s) :
  ∀(fuel n d:Nat) (stand:Option Probe),n+d=N->d<fuel->stand.getD (t.probeStart (hk prog w k))=nth t.mask (st t.mask (hk prog w k)) n->(∀e,e<n->∀(i:Nat) x,l[i]?=some (nth t.mask (st t.mask (hk prog w k)) e).j->xs[i]?=some x->x.1≠k) ->
   wpAny (model prog w) A (setSearchFrom a (.ref b) (hk prog w k) true fuel stand) Q E s:=by
 have hfit:=T.fits (by rw[Zq];exact few) (n:=(xs.map (ent prog w)).toArray.size) (by simp);intro fuel;induction fuel with
 |zero=>intro n d stand _ hf;lia
 |succ fuel ih =>
  intro n d stand hnd hf hst hno;unfold setSearchFrom;refine ZZ (wpAny_setState_of ho hd hfit ?_);dsimp only;have gw:t.gaveWay=false:=JO T.ma;rw[gw];simp only[Bool.false_eq_true,if_false];rw[hst];obtain⟨m1,hm1,hP,hlt⟩:=least (P:=λe=>(nth t.mask (st t.mask (hk prog w k)) (n+e)).j∉l\/∃i:Nat,∃x,l[i]?=some (nth t.mask (st t.mask (hk prog w k)) (n+e)).j/\xs[i]?=some x/\hk prog w x.1=hk prog w k) (n:=d) (.inl (by rw[hnd];exact hN));have at_l:∀{i:Nat}{j:Nat},l[i]?=some j->∃x,xs[i]?=some x:=λ{i j} h=>by
   have hi:i<l.length:=(Zj.mp h).1;rw[T.ln,Zq]at hi;exact⟨_,Zz hi⟩
  have pr:∀hA:Nat->Int,(∀i,hA i=(((xs.map (ent prog w)).toArray[i]?).map (·.1)).getD 0) ->
    ((nth t.mask (st t.mask (hk prog w k)) (n+m1)).j∉l->t.probe hA (hk prog w k) (nth t.mask (st t.mask (hk prog w k)) n)=some (.empty (nth t.mask (st t.mask (hk prog w k)) (n+m1)).j none)) /\
    (∀(i:Nat) x,l[i]?=some (nth t.mask (st t.mask (hk prog w k)) (n+m1)).j->xs[i]?=some x->hk prog w x.1=hk prog w k->t.probe hA (hk prog w k) (nth t.mask (st t.mask (hk prog w k)) n)=some (.candidate (nth t.mask (st t.mask (hk prog w k)) (n+m1)).j i (nth t.mask (st t.mask (hk prog w k)) (n+m1+1)))):=λhA hh=>by
   have hAx:∀{i:Nat}{x},xs[i]?=some x->hA i=hk prog w x.1:=λ{i x} h=>by rw[hh,DR h];rfl
   have g:=J3 T.p (hA:=hA) (h:=hk prog w k) m1 (10*turns t.mask) (nth t.mask (st t.mask (hk prog w k)) n) (by unfold turns;lia) λe he=>by
    have hne:=hlt e he;have hin:(nth t.mask (st t.mask (hk prog w k)) (n+e)).j∈l:=ZT λz=>hne (.inl z);obtain⟨i,hi,e1⟩:=Yy.mp hin;have e2:l[i]?=some (nth t.mask (st t.mask (hk prog w k)) (n+e)).j:=by rw[Zz hi,e1]
    obtain⟨x,hx⟩:=at_l e2;exact⟨i,by rw[<-iX];exact e2,λz=>hne (.inr ⟨i,x,e2,hx,by rw[<-hAx hx];exact z⟩)⟩
   rw[<-iX,<-iX,JK]at g;exact⟨g.1,λi x h1 h2 h3=>g.2 i h1 (by rw[hAx h2];exact h3)⟩
  by_cases hin:(nth t.mask (st t.mask (hk prog w k)) (n+m1)).j∈l
  ·obtain⟨i,x,h1,h2,h3⟩:=hP.resolve_left (λz=>z hin);rw[(pr _ ?hh).2 i x h1 h2 h3]
   case hh=>intro i;rfl
   dsimp only;have hmem:=Zg h2;have fin:wpAny (model prog w) A (do
     let some (_,y):=(xs.map (ent prog w)).toArray[i]? | unsupported "internal:set-entry"
     let equal <-holding [y] (eqBool y (.ref b))
     let(es',_,t') <-setState a
     if true&&equal then return .there none
     let some same:=t'.sameMemory t.moves t.mask | unsupported "set.changed-during-lookup:is-the-new-block-at-the-old-address"
     let still <-match (if same then t'.slot (nth t.mask (st t.mask (hk prog w k)) (n+m1)).j else .empty) with
      |.live i'=>match es'[i']? with
       |some (_,y')=>do pure (if <-isSame y' y then some i' else none)
       |none=>pure none
      |_=>pure none
     match still with
     |none=>rule "set.search.anew";setSearchFrom a (.ref b) (hk prog w k) true fuel none
     |some i'=>if equal then return .there (some i') else setSearchFrom a (.ref b) (hk prog w k) true fuel (some (nth t.mask (st t.mask (hk prog w k)) (n+m1+1)))) Q E s:=by
    rw[DR h2];dsimp only;refine ZZ (ZU ((tupleKind (IK prog w)).eqBool room (hks x hmem) hb ?_));refine ZZ (wpAny_setState_of ho hd hfit ?_);dsimp only;by_cases hq:x.1=k
    ·rw[decide_eq_true hq];simp only[Bool.and_self,if_true];exact ZY (q _ (λ_=>rfl) λz=>absurd ⟨x,hmem,hq⟩ z)
    ·rw[decide_eq_false hq];simp only[Bool.and_false,Bool.false_eq_true,if_false];have sm:t.sameMemory t.moves t.mask=some true:=by unfold sameMemory;simp
     rw[sm];dsimp only;simp only[if_true];rw[T.p.live h1];dsimp only;rw[DR h2];dsimp only;refine ZZ (wpAny_isSame_ref_self (ZZ (ZY ?_)));simp only[if_true];have lt1:n+m1<N:=by
      apply ZT;intro z;have:n+m1=N:=by lia
      rw[this]at hin;exact hN hin
     refine ih (n+m1+1) (N-(n+m1+1)) _ ?_ ?_ rfl λe he i' x' g1 g2=>?_
     ·omega
     ·omega
     ·by_cases c:e<n
      ·exact hno e c i' x' g1 g2
      ·obtain⟨d',rfl⟩:∃d',e=n+d':=⟨e-n,by omega⟩
       by_cases c2:d' < m1
       ·intro z;exact hlt d' c2 (.inr ⟨i',x',g1,g2,by rw[z]⟩)
       ·have:d'=m1:=by lia
        subst this;have ei:i'=i:=by
         have h5:=below_at T.p.up g1;have h6:=below_at T.p.up h1;rw[<-h5,<-h6]
        subst ei;rw[h2]at g2;cases g2;exact hq
   cases hled:t.led with
   |true=>simp only[Bool.not_true,Bool.false_eq_true,if_false];exact fin
   |false =>
    simp only[Bool.not_false,if_true];refine ZZ (N8 hb (λv hv=>?_) ?_)
    ·simp only[Zh,Array.mem_toList_iff,Array.mem_filter,List.mem_toArray]at hv;obtain⟨⟨h',v'⟩,⟨⟨x',hx',ex⟩,_⟩,rfl⟩:=hv;unfold ent at ex;cases ex;exact⟨x'.1,x'.2,rfl,hks x' hx'⟩
    ·simp only[Bool.false_eq_true,if_false];exact fin
  ·rw[(pr _ ?hh).1 hin]
   case hh=>intro i;rfl
   dsimp only;have en:n+m1=N:=by
    apply ZT;intro z;exact hin (hB _ (by lia))
   refine ZY (q _ (λ⟨x,hx,ex⟩=>?_) λ_=>by rw[en]);exfalso;obtain⟨i,hi,e1⟩:=Yy.mp hx;have h2:xs[i]?=some x:=by rw[Zz hi,e1]
   obtain⟨n',hn',e3⟩:=T.before hN (i:=i) (by rw[Zk,h2,<-ex];rfl);by_cases c:n' < n
   ·exact hno n' c i x e3 h2 ex
   ·obtain⟨d',rfl⟩:∃d',n'=n+d':=⟨n' - n,by lia⟩
    exact hlt d' (by lia) (.inr ⟨i,x,e3,h2,by rw[ex]⟩)
end ST
set_option maxRecDepth 100000
namespace ST
open PySem PySem.SetTable
variable{prog:Program}{w:World}{A:Around}{E:Value->Shared->Prop}{s:Shared}
def iR(prog:Program)(w:World)(led:Bool)(h:Heap)(a:Addr)(xs:Xs):Prop :=
 ∃o ep t l,h.get? a=some o/\o.ExactSet/\o.data=.set (xs.map (ent prog w)).toArray ep t/\Tab t l (xs.map λx=>hk prog w x.1)/\xs.length*5<t.mask*3/\t.plain=true/\t.led=led/\(∀x∈xs,IsTupleKey (IK prog w) h x.1 x.2)/\(xs.map (·.1)).Nodup
theorem u6{h h':Heap}{a b:Addr}{k:List Int}{o:Obj}{es ep t}(ho:h.get? a=some o)(hd:o.data=.set es ep t)(hs:Heap.SameBut a h h')(x:IsTupleKey (IK prog w) h k b):IsTupleKey (IK prog w) h' k b:=by
 obtain⟨o',items,n,ho',hc,hd',hi⟩:=x;have hne:b≠a:=by
  rintro rfl;obtain rfl:o'=o:=Option.some.inj (ho'.symm.trans ho);rw[hd]at hd';exact nomatch hd'
 exact⟨o',items,n,(hs.2 b hne).trans ho',hc,hd',hi⟩
theorem IQ{h:Heap}{a:Addr}{o:Obj}{es:Array (Int×Value)}{ep:Nat}{t:SetTable}(ho:h.get? a=some o)(hd:o.data=.set es ep t)(es':Array (Int×Value))(t':SetTable) :
  (h.update a (Obj.putSet es' t')).get? a=some { o with data:=.set es' (ep+1) t' }:=by
 have:=Heap.get?_update_self (Obj.putSet es' t') ho (by rw[putSet_of es' t' hd];rfl);rw[putSet_of es' t' hd]at this;exact this
theorem F3{α:Type}{xs:List α}{order:List Nat}(hp:order.Perm (List.range xs.length)):(order.filterMap (xs[·]?)).Perm xs:=by
 have:=hp.filterMap (xs[·]?);rw[List.filterMap_getElem?_range_length]at this;exact this
theorem AS{α β:Type}(f:α->β)(xs:List α)(order:List Nat):order.filterMap ((xs.map f)[·]?)=(order.filterMap (xs[·]?)).map f:=by
 rw[List.map_filterMap];congr 1
 funext i
 rw[Zk]
theorem QL{a b:Addr}{k:List Int}{xs:Xs}{led:Bool}{Q:Bool->Shared->Prop}(room:A.units<cLine)(hS:iR prog w led s.heap a xs)(hb:IsTupleKey (IK prog w) s.heap k b)(hn:xs.length+1<=101)
  (q:∀(r:Bool) h' xs',Heap.SameBut a s.heap h'->iR prog w led h' a xs'->((∃x∈xs,x.1=k)->xs'=xs)->((¬∃x∈xs,x.1=k)->xs'.Perm ((k,b)::xs))->Q r { s with heap:=h' }) :
  wpAny (model prog w) A (setAddHashed a (.ref b) (hk prog w k)) Q E s:=by
 obtain⟨o,ep,t,l,ho,hex,hd,T,few,pln,hled,hks,nd⟩:=hS;have fw:xs.length<t.mask+1:=by rcases T.ma with e | e | e | e<;>rw[e]at few ⊢<;>lia
 have hfit:=T.fits (by rw[Zq];exact fw) (n:=(xs.map (ent prog w)).toArray.size) (by simp);obtain⟨N,hNl,hN,hB⟩:=T.first (by rw[Zq];exact fw) (hk prog w k);unfold setAddHashed setAddHashedIn;refine ZU (ZZ (wpAny_setState_of ho hd hfit ?_));dsimp only;have bs:byScan (.ref b) (xs.map (ent prog w)).toArray=false:=rfl;rw[bs];simp only[Bool.false_eq_true,if_false];unfold setSearch;refine ZZ (FZ room ho hd T fw hks hb hN hB hNl (λf h1 h2=>?_) 100000 0 N none (by lia) (by rcases T.ma with e | e | e | e<;>rw[e]at hNl<;>lia) rfl λe he=>absurd he (by lia));by_cases hx:∃x∈xs,x.1=k
 ·rw[h1 hx];refine ZY ?_;have e:s={ s with heap:=s.heap }:=by cases s;rfl
  rw[e];exact q _ _ xs (Heap.SameBut.refl a s.heap) ⟨o,ep,t,l,ho,hex,hd,T,few,pln,hled,hks,nd⟩ (λ_=>rfl) λz=>absurd hx z
 ·rw[h2 hx];dsimp only;refine ZZ (wpAny_setState_of ho hd hfit ?_);dsimp only;obtain⟨p,hp,e2,e1,T'⟩:=T.put (h:=hk prog w k) hN rfl hB;rw[e2];have tpl:(t.put (nth t.mask (st t.mask (hk prog w k)) N).j).1.plain=true:=by rw[e1];exact pln
  rw[tpl];simp only[if_true];refine ZZ (KR hb ?_);simp only[if_true];have eI:insertAt (xs.map (ent prog w)).toArray p (hk prog w k,Value.ref b)=((cW xs p (k,b)).map (ent prog w)).toArray:=by
   rw[EY,BH];rfl
  rw[eI];have tl:(t.put (nth t.mask (st t.mask (hk prog w k)) N).j).1.led=led:=by rw[e1];exact hled
  have tm:(t.put (nth t.mask (st t.mask (hk prog w k)) N).j).1.mask=t.mask:=by rw[e1]
  generalize (t.put (nth t.mask (st t.mask (hk prog w k)) N).j).1=t1 at T' tpl tl tm ⊢;have eH:(cW xs p (k,b)).map (λx=>hk prog w x.1)=cW (xs.map λx=>hk prog w x.1) p (hk prog w k):=BH _ _ _ _;rw[<-eH]at T';have ln1:(cW xs p (k,b)).length=xs.length+1:=vC _ _ _;have szl:((cW xs p (k,b)).map (ent prog w)).toArray.size=xs.length+1:=by simp[ln1]
  have sz:((cW xs p (k,b)).map (ent prog w)).toArray.size<=ZW:=by rw[szl];exact Yr hn (by decide)
  refine ZZ (wpAny_storeSet_of ho hd ?_ sz);have ho1:=IQ ho hd ((cW xs p (k,b)).map (ent prog w)).toArray t1;have hsb1:=Heap.SameBut.update s.heap a (Obj.putSet ((cW xs p (k,b)).map (ent prog w)).toArray t1);generalize s.heap.update a (Obj.putSet ((cW xs p (k,b)).map (ent prog w)).toArray t1)=h1' at ho1 hsb1 ⊢;have pm:=GR xs p (k,b);have hks1:∀x∈cW xs p (k,b),IsTupleKey (IK prog w) h1' x.1 x.2:=λx hx=>by
   refine u6 ho hd hsb1 ?_;rcases lS.mp hx with rfl | hx
   ·exact hb
   ·exact hks x hx
  have nd1:((cW xs p (k,b)).map (·.1)).Nodup:=by
   refine(pm.map (·.1)).nodup_iff.mpr (List.nodup_cons.mpr ⟨λz=>?_,nd⟩);obtain⟨x,h3,h4⟩:=Zh.mp z;exact hx ⟨x,h3,h4⟩
  have ex1:({ o with data:=.set ((cW xs p (k,b)).map (ent prog w)).toArray (ep+1) t1 }:Obj).ExactSet:=hex;have ft1:t1.fill=xs.length+1:=by unfold SetTable.fill;rw[T'.p.pl,T'.p.du];simp[T'.ln,ln1]
  by_cases full:t1.tooFull=true
  ·rw[full];simp only[Bool.not_false,Bool.and_self,if_true];obtain⟨u,M,eu,hM,sA,big,few1,few2,few3⟩:∃u M:Nat,xs.length+1=u/\Msk M/\sizeAbove (grown u)=M+1/\M+1<=512/\u<M+1/\u*5<M*3/\u<t.mask+1:=by
    unfold SetTable.tooFull at full;rw[ft1,tm,decide_eq_true_iff]at full;rcases T.ma with e | e | e | e<;>rw[e]at few full ⊢
    ·exact⟨5,31,by lia,.inr (.inl rfl),by decide,by decide,by decide,by decide,by decide⟩
    ·exact⟨19,127,by lia,.inr (.inr (.inl rfl)),by decide,by decide,by decide,by decide,by decide⟩
    ·exact⟨77,511,by lia,.inr (.inr (.inr rfl)),by decide,by decide,by decide,by decide,by decide⟩
    ·lia
   rw[show(xs.map (ent prog w)).toArray.size+1=u by simp;lia];unfold setRelay;have fw1:(cW xs p (k,b)).length<t1.mask+1:=by rw[ln1,tm];lia
   have hfit1:=T'.fits (by rw[Zq];exact fw1) (n:=((cW xs p (k,b)).map (ent prog w)).toArray.size) (by simp);refine ZZ (ZZ (wpAny_setState_of ho1 rfl hfit1 ?_));dsimp only;rw[sA];rw[if_neg (show ¬(M+1>ZW) from Nat.not_lt.mpr (Yr big (by decide)))];obtain⟨l2,order,eL,op,T2⟩:=MP hM (hs:=(cW xs p (k,b)).map λx=>hk prog w x.1) (by rw[Zq,ln1];lia) t1.finger (t1.movedTo M) t1.led t1.plain;have eR:t1.relaid (((cW xs p (k,b)).map (ent prog w)).toArray.map (·.1)) (grown u)=some ({ mask:=M,place:=l2.toArray,dummies:=#[],finger:=t1.finger,led:=t1.led,moves:=t1.movedTo M,plain:=t1.plain },order.toArray):=by
    unfold SetTable.relaid;rw[sA,<-eL];congr 1;simp[ent]
   rw[eR];rw[Zq,ln1]at op;have op':order.Perm (List.range (cW xs p (k,b)).length):=by rw[ln1];exact op
   rw[AS]at T2;have ps:=F3 op';have eF:order.toArray.filterMap (((cW xs p (k,b)).map (ent prog w)).toArray[·]?)=((order.filterMap ((cW xs p (k,b))[·]?)).map (ent prog w)).toArray:=by
    rw[List.filterMap_toArray,<-AS];simp
   have szo:((order.filterMap ((cW xs p (k,b))[·]?)).map (ent prog w)).toArray.size=xs.length+1:=by simp[ps.length_eq,ln1]
   refine ZZ (wpAny_of_eq (a:=(((order.filterMap ((cW xs p (k,b))[·]?)).map (ent prog w)).toArray,({ mask:=M,place:=l2.toArray,dummies:=#[],finger:=t1.finger,led:=t1.led,moves:=t1.movedTo M,plain:=t1.plain }:SetTable))) ?_ ?_)
   ·show(if ((order.toArray.filterMap (((cW xs p (k,b)).map (ent prog w)).toArray[·]?)).size != ((cW xs p (k,b)).map (ent prog w)).toArray.size)=true then _ else _)=_;rw[eF,szo,szl];simp
   ·dsimp only;have sz2:((order.filterMap ((cW xs p (k,b))[·]?)).map (ent prog w)).toArray.size<=ZW:=by rw[szo,<-szl];exact sz
    refine wpAny_storeSet_of ho1 rfl ?_ sz2;have ho2:=IQ ho1 rfl ((order.filterMap ((cW xs p (k,b))[·]?)).map (ent prog w)).toArray { mask:=M,place:=l2.toArray,dummies:=#[],finger:=t1.finger,led:=t1.led,moves:=t1.movedTo M,plain:=t1.plain };have hsb2:=Heap.SameBut.update h1' a (Obj.putSet ((order.filterMap ((cW xs p (k,b))[·]?)).map (ent prog w)).toArray { mask:=M,place:=l2.toArray,dummies:=#[],finger:=t1.finger,led:=t1.led,moves:=t1.movedTo M,plain:=t1.plain });refine ZY (q true _ (order.filterMap ((cW xs p (k,b))[·]?)) (hsb1.trans hsb2) ⟨_,_,_,l2,ho2,hex,rfl,T2,?_,tpl,tl,λx hx=>u6 ho1 rfl hsb2 (hks1 x (ps.mem_iff.mp hx)),(ps.map (·.1)).nodup_iff.mpr nd1⟩ (λz=>absurd z hx) λ_=>ps.trans pm);show(order.filterMap ((cW xs p (k,b))[·]?)).length*5<M*3;rw[ps.length_eq,ln1];lia
  ·rw[Bool.not_eq_true]at full;rw[full];simp only[Bool.not_false,Bool.and_false,Bool.false_eq_true,if_false];refine ZY (q true _ (cW xs p (k,b)) hsb1 ⟨_,_,t1,_,ho1,hex,rfl,T',?_,tpl,tl,hks1,nd1⟩ (λz=>absurd z hx) λ_=>pm);unfold SetTable.tooFull at full;rw[ft1,decide_eq_false_iff_not]at full;rw[ln1];lia
end ST
set_option maxRecDepth 100000
namespace ST
open PySem PySem.SetTable
section
variable{prog:Program}{w:World}{A:Around}{E:Value->Shared->Prop}{s:Shared}
abbrev byT(w:World):Bool:=w.params.followText "set-order"
abbrev sX(w:World):Obj:={ cls:=.type "set",dict:=none,data:=.set #[] 0 (.fresh 0 0 (!byT w)) }
theorem LI(a:Value){Q:Value->Shared->Prop}(h:Q (.ref s.heap.objs.size) { s with heap:=s.heap.push (sX w) }) :
  codeAny (model prog w) A (.call (.builtin "set.__new__") ⟨[.type "set",a],[]⟩) (wants Q E) s:=by
 refine codeAny_of_tree ?_;show wpAny _ A.in1 (checkBuiltinCall "set.__new__" ⟨[.type "set",a],[]⟩ >>= λ_=>again (.builtin "set.__new__" ⟨[.type "set",a],[]⟩)) _ _ s;refine ZZ (wpAny_of_eq (F.newCall_set_1 a) (ZY ⟨plainId_quiet F.plain_set_new _,codeAny_builtin F.entry_set_new ?_⟩));rw[Around.under_plainId F.plain_set_new _];unfold Builtin.«set.__new__» Builtin.Frozenset.newClass;have hs:=sub_set_self;obtain⟨hp,g,d,tk,os⟩:=s;dsimp only
 wp_walk
 refine wpAny_askSetting (ZY ?_);dsimp only;simp only[newObj];exact ZZ (wpAny_alloc (ZY (ZY h)))
end
structure Acc(vs:Xs)(i:Nat)(xs:Xs):Prop where
 sub:∀x∈xs,x∈vs
 al:∀x∈vs.take i,∃y∈xs,y.1=x.1
theorem iR.moved{prog:Program}{w:World}{led:Bool}{h h':Heap}{a:Addr}{xs:Xs}(S:iR prog w led h a xs)(k:∀b o,(b=a\/∃x∈xs,b=x.2)->h.get? b=some o->h'.get? b=some o):iR prog w led h' a xs:=by
 obtain⟨o,ep,t,l,ho,hex,hd,T,few,pln,hled,hks,nd⟩:=S;refine⟨o,ep,t,l,k a o (.inl rfl) ho,hex,hd,T,few,pln,hled,λx hx=>?_,nd⟩;obtain⟨o',its,n,h1,h2⟩:=hks x hx;exact⟨o',its,n,k _ _ (.inr ⟨x,hx,rfl⟩) h1,h2⟩
theorem iR.len{prog:Program}{w:World}{led:Bool}{h:Heap}{a:Addr}{xs:Xs}(S:iR prog w led h a xs){dom:List (List Int)}(hd:∀x∈xs,x.1∈dom):xs.length<=dom.length:=by
 obtain⟨o,ep,t,l,ho,hex,hd',T,few,pln,hled,hks,nd⟩:=S;have:=sub_len nd (b:=dom) λk hk=>by
  obtain⟨x,hx,rfl⟩:=Zh.mp hk;exact hd x hx
 rw[Zq]at this;exact this
section
variable{prog:Program}{w:World}{A:Around}{R:Result->Shared->Prop}{I:Addr}{fp wr:List Addr}{G:Array GenState->Array GenState->Prop}{n:Nat}{P:Nat->Value->Prop}{St:Nat->Shared->Prop}
theorem HN(W:WalksS prog w A.in1 I fp wr G n P St)(S:Addr)(hSf:S∉fp)(led:Bool)(vs:Xs)(hP:∀i v,P i v->∃x,vs[i]?=some x/\v=.ref x.2)(room:A.in1.units<cLine)(hvw:∀x∈vs,x.2∉wr)(dom:List (List Int))(hdom:dom.length<=100)(hvd:∀x∈vs,x.1∈dom) :
  ∀(k i:Nat) (s:Shared) (xs:Xs),n-i=k->i<=n->St i s->iR prog w led s.heap S xs->(∀x∈vs,IsTupleKey (IK prog w) s.heap x.1 x.2)->Acc vs i xs ->
   (∀s' xs',Moved (S::wr) G s s'->iR prog w led s'.heap S xs'->Acc vs n xs'->R (.ok (.ret .none)) s') ->
   codeAny (model prog w) A (.builtin "set.update.loop" ⟨[.ref S,.ref I],[]⟩) R s:=by
 have hSw:S∉wr:=λh=>hSf (W.sub _ h);have hsub:∀b∈wr,b∈S::wr:=λb hb=>Zw _ hb;have mv:∀{s s':Shared}{xs:Xs},(∀x∈xs,x∈vs)->Moved wr G s s'->iR prog w led s.heap S xs->iR prog w led s'.heap S xs:=λ{s s' xs} hx hm hS=>hS.moved λb o hb e=>hm.heap b o (by
  rcases hb with rfl | ⟨x,h1,rfl⟩
  ·exact hSw
  ·exact hvw x (hx x h1)) e
 intro k;induction k with
 |zero =>
  intro i s xs hk hi hst hS hv ha hR;have hin:i=n:=by lia
  subst hin;refine codeAny_builtin PyProof.Rows.F.entry_set_update_loop ?_;rw[Around.under_plainId PyProof.Rows.F.plain_set_update_loop _];show wpAny _ A.in1 (pyNext (.ref I) >>= _) _ _ s;refine ZZ (W.done s _ _ hst λs' hm=>?_);exact ZY (hR s' xs (hm.mono hsub) (mv ha.sub hm hS) ha)
 |succ k ih =>
  intro i s xs hk hi hst hS hv ha hR;have hlt:i<n:=by lia
  refine codeAny_builtin PyProof.Rows.F.entry_set_update_loop ?_;rw[Around.under_plainId PyProof.Rows.F.plain_set_update_loop _];show wpAny _ A.in1 (pyNext (.ref I) >>= _) _ _ s;refine ZZ (W.item i s _ _ hlt hst λv s' hPv hst' hm=>?_);obtain⟨x,hx,rfl⟩:=hP i v hPv;have hxm:=Zg hx;have hS':=mv ha.sub hm hS;have hv':∀y∈vs,IsTupleKey (IK prog w) s'.heap y.1 y.2:=λy hy=>by
   obtain⟨o',its,n',h1,h2⟩:=hv y hy;exact⟨o',its,n',hm.heap _ _ (hvw y hy) h1,h2⟩
  show wpAny _ A.in1 (holding [Value.ref x.2] (setAdd S (.ref x.2)) >>= _) _ _ s';refine ZZ (ZU ?_);unfold setAdd;refine ZU (ZZ ((tupleKind (IK prog w)).pyHash room (hv' x hxm) ?_));have ln:=hS'.len (dom:=dom) λy hy=>hvd y (ha.sub y hy);refine QL (s:={ s' with toks:=s'.toks+(x.1.length+1) }) room hS' (hv' x hxm) (by lia) λr h' xs' hsb hS2 h1 h2=>?_;have hks':∀y∈vs,IsTupleKey (IK prog w) h' y.1 y.2:=λy hy=>by
   obtain⟨o,ep,t,l,ho,_,hd,_⟩:=hS';exact u6 ho hd hsb (hv' y hy)
  have acc:Acc vs (i+1) xs':=by
   by_cases c:∃y∈xs,y.1=x.1
   ·rw[h1 c];refine⟨ha.sub,λz hz=>?_⟩;rw[List.take_add_one,hx]at hz;rcases Zf.mp hz with hz | hz
    ·exact ha.al z hz
    ·rw[show z=x by simpa using hz];exact c
   ·have pm:=h2 c;refine⟨λz hz=>?_,λz hz=>?_⟩
    ·rcases Zn.mp (pm.mem_iff.mp hz) with rfl | hz
     ·exact hxm
     ·exact ha.sub z hz
    ·rw[List.take_add_one,hx]at hz;rcases Zf.mp hz with hz | hz
     ·obtain⟨y,q1,q2⟩:=ha.al z hz;exact⟨y,pm.mem_iff.mpr (Zw _ q1),q2⟩
     ·rw[show z=x by simpa using hz];exact⟨x,pm.mem_iff.mpr (by cases x;exact Zd),rfl⟩
  refine ZY ⟨plainId_quiet PyProof.Rows.F.plain_set_update_loop _,ih (i+1) _ xs' (by lia) hlt (W.frame _ s' _ _ hst' (Nat.le_add_right _ _) λb hb o e=>?_) hS2 hks' acc λs'' xs'' hm''=>hR s'' xs'' (Moved.trans W.gtrans ((hm.mono hsub).then_heap (Nat.le_add_right _ _) λb o hb e=>?_) hm'')⟩
  ·rw[hsb.2 b (λz:b=S=>hSf (by rw[<-z];exact hb))];exact e
  ·rw[hsb.2 b (λz:b=S=>hb (by rw[z];exact Zd))];exact e
end
end ST
set_option maxRecDepth 100000
namespace ST
open PySem PySem.SetTable
section
variable{prog:Program}{w:World}{A:Around}{E:Value->Shared->Prop}{s:Shared}
theorem KB{h:Heap}{a:Addr}(e:h.get? a=some (sX w)):iR prog w (!byT w) h a []:=by
 refine⟨sX w,0,.fresh 0 0 (!byT w),[],e,⟨rfl,rfl,rfl⟩,rfl,⟨⟨rfl,List.Pairwise.nil,rfl⟩,.inl rfl,rfl,λj hj=>by simp at hj,λi h j h1=>by simp at h1⟩,by show 0*5<7*3;decide,rfl,rfl,λx hx=>by simp at hx,List.nodup_nil⟩
set_option maxHeartbeats 3200000 in
theorem G1{l:Addr}{items:Array Value}{vs:Xs}{Q:Value->Shared->Prop}(hh:A.handled=none)(hl:s.heap.IsList l items)(hi:items.toList=vs.map λx=>.ref x.2)(hv:∀x∈vs,IsTupleKey (IK prog w) s.heap x.1 x.2)(room:A.in1.in1.in1.units<cLine)(dom:List (List Int))(hdom:dom.length<=100)(hvd:∀x∈vs,x.1∈dom)
  (h:∀(h':Heap) (tk:Nat) (xs:Xs),iR prog w (!byT w) h' s.heap.objs.size xs->Acc vs vs.length xs->(∀b o,b<s.heap.objs.size->s.heap.get? b=some o->h'.get? b=some o)->Q (.ref s.heap.objs.size) { s with heap:=h',toks:=tk }) :
  wpAny (model prog w) A (call (.type "set") [.ref l]) Q E s:=by
 obtain⟨c,tl,z1⟩:=F.called_set.mro;have z2:=F.called_set.made;have z3:=F.called_set.sub;refine wpAny_call (codeAny_of_tree ?_);show wpAny _ _ (callAny (.type "set") _) _ _ _;refine ZY ⟨Code.quiet_builtin _ (by decide +kernel),codeAny_builtin F.entry_type_call ?_⟩;rw[Around.under_plain (weight_type_call_type "set" [.ref l] []) rfl];have z4:=F.called_set.notType;have z5:=F.called_set.canCreate;have z6:=F.typeCall_set_1 (.ref l)
 repeat any_goals first | assumption | wp_step
 refine codeAny_mono (LI (.ref l) (E:=E) (Q:=λu s1=>u=.ref s.heap.objs.size/\s1={ s with heap:=s.heap.push (sX w) }) ⟨rfl,rfl⟩) λr s1 hr=>?_;cases r with
 |error e=>exact hr
 |ok fl =>
  cases fl with
  |ret u =>
   obtain⟨rfl,rfl⟩:=hr;have hS:(s.heap.push (sX w)).get? s.heap.objs.size=some (sX w):=Heap.get?_push_size _ rfl;have hT:Shared.TypeIs { s with heap:=s.heap.push (sX w) } (.ref s.heap.objs.size) "set":=⟨_,hS,rfl⟩
   have z7:=F.called_set.init.lookup;have z8:=F.called_set.init.bind (.ref s.heap.objs.size)
   repeat any_goals first | assumption | wp_step
   refine codeAny_mono (codeAny_call_builtin (R:=wants (λr s2=>r=.none/\∃h' tk xs,s2={ s with heap:=h',toks:=tk }/\iR prog w (!byT w) h' s.heap.objs.size xs/\Acc vs vs.length xs/\(∀b o,b<s.heap.objs.size->s.heap.get? b=some o->h'.get? b=some o)) E) F.called_set.init.plain F.entry_set_init (check_set_init_1 hT ?_)) λr2 s2 hr2=>?_
   ·obtain⟨ol,g1,g2,nl,g3⟩:=hl;obtain⟨ocls,odict,odata,oslots⟩:=ol;simp only at g2 g3;subst g2;subst g3;have g4:(s.heap.push (sX w)).get? l=some { cls:=.type "list",dict:=odict,data:=.seq items nl,slots:=oslots }:=Heap.get?_push_of_some _ g1;have z9:=F.sub_list_set;have z10:=F.sub_list_frozenset;have z11:(Value.type "list"==Value.type "dict")=false:=by decide
    have g5:(s.heap.push (sX w)).IsList l items:=⟨_,g4,rfl,nl,rfl⟩
    unfold Builtin.«set.__init__» noKeywords Builtin.Frozenset.updateFrom;generalize hPI:pyIter=PI
    wp_walk
    subst hPI;refine wpAny_pyIter_list g5 (ZZ (wpAny_runValue ?_));have lt:l<s.heap.objs.size:=Heap.lt_size g1;have h3:A.in1.in1.in1.handled=none:=by simp[hh]
    have n1:l≠(s.heap.push (sX w)).objs.size:=by rw[Heap.size_push];exact Nat.ne_of_lt (YQ lt)
    have n2:s.heap.objs.size∉[(s.heap.push (sX w)).objs.size,l]:=by
     rw[Heap.size_push];intro z;rcases Zn.mp z with z | z
     ·exact absurd z (Nat.ne_of_lt (Nat.lt_succ_self _))
     ·exact absurd (Zb.mp z) (Nat.ne_of_gt lt)
    have old:∀x∈vs,x.2<s.heap.objs.size:=λx hx=>by obtain⟨o,its,n,e,_⟩:=hv x hx;exact Heap.lt_size e
    have hn:items.size=vs.length:=by rw[<-Array.length_toList,hi,Zq]
    have W:=(Walks.list h3 (s.heap.push (sX w)).objs.size l n1 items).toS (prog:=prog) (w:=w);refine HN W s.heap.objs.size n2 (!byT w) vs (λi v e=>?_) room (λx hx z=>?_) dom hdom hvd (items.size-0) 0 _ [] (by lia) (Nat.zero_le _) ⟨⟨_,Heap.get?_push_size _ rfl,rfl,rfl⟩,g5.push _⟩ (KB (Heap.get?_push_of_some _ hS)) (λx hx=>?_) ⟨λx hx=>by simp at hx,λx hx=>by simp at hx⟩ λs' xs hm hS' ha=>?_
    ·have e:items[i]?=some v:=e;rw[<-Array.getElem?_toList,hi,Zk]at e;cases q:vs[i]? with
     |none=>rw[q]at e;cases e
     |some x=>rw[q]at e;exact⟨x,rfl,(Option.some.inj e).symm⟩
    ·have:=old x hx;rw[Zb.mp z,Heap.size_push]at this;exact absurd this (Nat.not_lt.mpr (Nat.le_succ _))
    ·obtain⟨o,its,n,e,r⟩:=hv x hx;exact⟨o,its,n,Heap.get?_push_of_some _ (Heap.get?_push_of_some _ e),r⟩
    ·obtain⟨h',g',d',tk',os'⟩:=s';have eg:g'=s.gens:=hm.gens;have ed:d'=s.drawn:=hm.drawn;have eo:os'=s.os:=hm.os;subst eg;subst ed;subst eo;show wpAny _ _ _ _ _ _;refine ZY ?_;show wpAny _ _ (ret Value.none) _ _ _;refine ZY ⟨rfl,h',tk',xs,rfl,hS',by rw[<-hn];exact ha,λb o hb e=>?_⟩;refine hm.heap b o (λz=>?_) (Heap.get?_push_of_some _ (Heap.get?_push_of_some _ e));rcases Zn.mp z with z | z
     ·exact absurd z (Nat.ne_of_lt hb)
     ·rw[Zb.mp z,Heap.size_push]at hb;exact absurd hb (Nat.not_lt.mpr (Nat.le_succ _))
   ·cases r2 with
    |error e=>exact hr2
    |ok fl2 =>
     cases fl2 with
     |ret r =>
      obtain⟨rfl,h',tk,xs,rfl,hS',ha,hk'⟩:=hr2
      repeat any_goals first | assumption | wp_step
      exact h _ _ xs hS' ha hk'
     |_=>exact hr2.elim
  |_=>exact hr.elim
end
end ST
set_option maxRecDepth 100000
namespace ST
open PySem PySem.SetTable
end ST
set_option maxRecDepth 100000
namespace ST
open PySem PySem.SetTable
section
variable{prog:Program}{w:World}{A:Around}{E:Value->Shared->Prop}{s:Shared}{S:Addr}{es:Array (Int×Value)}{ep:Nat}{t:SetTable}{l:List Nat}
end
end ST
set_option maxRecDepth 100000
namespace L2
open PySem PySem.Spec PyProof.Rows
def QN(P:Program)(w:World)(S:Addr)(xs:ST.Xs)(h:Heap):Prop:=∃o ep t l,h.get? S=some o/\o.ExactSet/\o.data=.set (xs.map (ST.ent P w)).toArray ep t/\ST.Tab t l (xs.map λx=>ST.hk P w x.1)/\xs.length<t.mask+1/\t.plain=true/\t.led=!ST.byT w
def DX(P:Program)(w:World)(S:Addr)(xs:ST.Xs):HO:=.ext (QN P w S xs)
theorem LH{P:Program}{w:World}{H:Hp}{h:Heap}{S:Addr}{xs:ST.Xs}(f:QN P w S xs h):cH P w H h S (DX P w S xs):=by
 refine⟨f,let⟨o,_,_,_,e,_⟩:=f;⟨o,e⟩,λh1 h2 f1 k=>?_⟩;obtain⟨o,ep,t,l,e,r⟩:=f1;exact⟨o,ep,t,l,k o e,r⟩
theorem LJ{P:Program}{w:World}{S:Addr}{xs:ST.Xs}{h:Heap}(x:ST.iR P w (!ST.byT w) h S xs):QN P w S xs h/\(xs.map (·.1)).Nodup:=by
 obtain⟨o,ep,t,l,ho,hex,hd,T,few,pln,hled,hks,nd⟩:=x;refine⟨⟨o,ep,t,l,ho,hex,hd,T,?_,pln,hled⟩,nd⟩;rcases T.ma with e | e | e | e<;>rw[e]at few ⊢<;>lia
theorem BG{P:Program}{w:World}:∀{ks:List Int}{us:List Value},bI (ks.map V.int) us->ItemsAre (intKind P w) ks us
 |[],_,.nil=>.nil
 |k::ks,_,.cons r t=>by
  obtain⟨u,rfl⟩:=r;exact .cons (by simp[intKind,Value.isInt]) (BG t)
section
variable{X:Cx}
theorem MU{pins:List (Addr×Obj)}{σ:St}{H:Hp}{s:Shared}(I:Inv X pins σ H s){a:Addr}{ks:List Int}(h:SqT X.K H a (ks.map V.int)):IsTupleKey (intKind X.prog X.w) s.heap ks a:=by
 obtain⟨its,r,⟨o,g1,c1,n,d1⟩,_⟩:=I.tuple h;exact⟨o,its.toArray,n,g1,c1,d1,by simpa using BG r⟩
theorem G2(hc:X.calm=true)(hu:X.A.units+8<cLine):dG X (.type "set") (λxs H Q=>∃(p:Addr) (vs:ST.Xs) (dom:List (List Int)),xs=[.ref p]/\SqL X.K H p (vs.map λx=>V.ref x.2)/\(∀x∈vs,SqT X.K H x.2 (x.1.map V.int))/\dom.length<=100/\(∀x∈vs,x.1∈dom) /\
  ∀(D:Addr) (ys:ST.Xs),H D=none->ST.Acc vs vs.length ys->(ys.map (·.1)).Nodup->Q (.ref D) (upd H D (DX X.prog X.w D ys))):=by
 intro pins s σ H xs us Q I r h;obtain⟨p,vs,dom,rfl,hq,hk,hd,hv,q⟩:=h;obtain⟨u,rfl,rx⟩:=vals1 r;cases rx;obtain⟨its,r',pl,hz⟩:=I.list hq;have ei:its=vs.map λx=>Value.ref x.2:=by
  have:(vs.map λx=>V.ref x.2)=(vs.map (·.2)).map V.ref:=by rw[Yh];rfl
  rw[this]at r';rw[mB r',Yh];rfl
 refine ST.G1 (vs:=vs) (I.ok.hd hc) pl.isList (by simpa using ei) (λx hx=>MU I (hk x hx)) (by show X.A.units+1+1+1<cLine;lia) dom hd hv λh' tk ys hS ha hkp=>?_;obtain⟨f,nd⟩:=LJ hS;exact⟨.ref s.heap.objs.size,_,I.laid (t':=tk) (λb o e=>hkp b o (Heap.lt_size e) e) (Nat.le_refl _) (LH f),rfl,q _ ys I.fresh ha nd⟩
end
end L2
set_option maxRecDepth 100000
namespace SO
open PySem PyProof PyProof.Rows
open AutoSeq1 (wpAny_loadPart')
section
variable{prog:Program}{w:World}{A:Around}{R:Result->Shared->Prop}{s:Shared}
end
end SO
namespace L2
open PySem PySem.Spec PyProof.Rows
section
variable{X:Cx}
end
end L2
namespace L2
open PySem PySem.Spec PyProof.Rows
section
variable{X:Cx}
theorem G4{K:PySem.W.Frag}(hK:X.K=K)(hc:X.calm=true):dG X (.builtin "min") (λxs H Q=>∃(p:Addr) (ns:List Int),xs=[.ref p]/\SqT K H p (ns.map V.int)/\0<ns.length/\∀m:Int,m∈ns->(∀x∈ns,m<=x)->Q (.int m) H):=by
 subst hK;intro pins s σ H xs us Q I r h;obtain⟨p,ns,rfl,hq,h0,q⟩:=h;obtain⟨u,rfl,rx⟩:=vals1 r;cases rx;obtain⟨its,rv,pl,hz⟩:=I.tuple hq;have hl:=rv.length;rw[Zq]at hl;have hp:=pl.lt;have hv:∀(i:Nat) (v:Value),its.toArray[i]?=some v->∃t,v=Value.int (at0 ns i) t:=λi v hv=>by
  have hi:its[i]?=some v:=by simpa using hv
  have hi2:i<ns.length:=by rw[hl];exact(Zj.mp hi).1
  obtain⟨u',hu,ru⟩:=rv.get (kT hi2);rw[hi]at hu;cases hu;exact ru
 have hb:=argBest_lt (at0 ns) (its.toArray.size-1);refine call_min_walk (wpAny_pyIter_tuple pl ?_);refine⟨s.heap.objs.size,[s.heap.objs.size,p],[s.heap.objs.size],its.toArray.size,_,_,_,rfl,Walks.tuple (show X.A.in1.handled=none from I.ok.hd hc) _ p (Nat.ne_of_lt hp) its.toArray,⟨⟨_,Heap.get?_push_size _ rfl,rfl,rfl⟩,IsTup.push pl _⟩,λb hb=>?_,by simp;lia,CmpOf.ints_lt (at0 ns) hv,λv h' tk hP hk=>?_⟩
 ·have:=Heap.lt_size (Heap.get?_push_size s.heap (o:={ cls:=.type "tuple_iterator",data:=.fields #[.ref p,.int 0 0] }) rfl);simp only[Zn,List.not_mem_nil,or_false]at hb;rcases hb with rfl | rfl
  ·exact this
  ·exact Nat.lt_trans hp this
 ·obtain⟨t,rfl⟩:=hv _ _ hP;have hsz:its.toArray.size=ns.length:=by simp[hl]
  refine⟨.int _,H,I.kept (h':=h') (t':=tk) λb o e=>?_,⟨t,rfl⟩,q _ (tL (by omega)) λx hx=>?_⟩
  ·refine hk b o ?_ (Heap.get?_push_of_some _ e);simp only[Zn,List.not_mem_nil,or_false];exact Nat.ne_of_lt (Heap.lt_size e)
  ·obtain⟨i,hi,rfl⟩:=List.getElem_of_mem hx;have:=hb.2 i (by lia);have e:at0 ns i=ns[i]:=by unfold at0;simp[List.getD,hi]
   rw[<-e];exact this
theorem G5{K:PySem.W.Frag}(hK:X.K=K)(hc:X.calm=true):dG X (.builtin "max") (λxs H Q=>∃(p:Addr) (ns:List Int),xs=[.ref p]/\SqT K H p (ns.map V.int)/\0<ns.length/\∀m:Int,m∈ns->(∀x∈ns,x<=m)->Q (.int m) H):=by
 subst hK;intro pins s σ H xs us Q I r h;obtain⟨p,ns,rfl,hq,h0,q⟩:=h;obtain⟨u,rfl,rx⟩:=vals1 r;cases rx;obtain⟨its,rv,pl,hz⟩:=I.tuple hq;have hl:=rv.length;rw[Zq]at hl;have hp:=pl.lt;have hv:∀(i:Nat) (v:Value),its.toArray[i]?=some v->∃t,v=Value.int (at0 ns i) t:=λi v hv=>by
  have hi:its[i]?=some v:=by simpa using hv
  have hi2:i<ns.length:=by rw[hl];exact(Zj.mp hi).1
  obtain⟨u',hu,ru⟩:=rv.get (kT hi2);rw[hi]at hu;cases hu;exact ru
 have hb:=argBest_gt (at0 ns) (its.toArray.size-1);refine call_max_walk (wpAny_pyIter_tuple pl ?_);refine⟨s.heap.objs.size,[s.heap.objs.size,p],[s.heap.objs.size],its.toArray.size,_,_,_,rfl,Walks.tuple (show X.A.in1.handled=none from I.ok.hd hc) _ p (Nat.ne_of_lt hp) its.toArray,⟨⟨_,Heap.get?_push_size _ rfl,rfl,rfl⟩,IsTup.push pl _⟩,λb hb=>?_,by simp;lia,CmpOf.ints_gt (at0 ns) hv,λv h' tk hP hk=>?_⟩
 ·have:=Heap.lt_size (Heap.get?_push_size s.heap (o:={ cls:=.type "tuple_iterator",data:=.fields #[.ref p,.int 0 0] }) rfl);simp only[Zn,List.not_mem_nil,or_false]at hb;rcases hb with rfl | rfl
  ·exact this
  ·exact Nat.lt_trans hp this
 ·obtain⟨t,rfl⟩:=hv _ _ hP;have hsz:its.toArray.size=ns.length:=by simp[hl]
  refine⟨.int _,H,I.kept (h':=h') (t':=tk) λb o e=>?_,⟨t,rfl⟩,q _ (tL (by omega)) λx hx=>?_⟩
  ·refine hk b o ?_ (Heap.get?_push_of_some _ e);simp only[Zn,List.not_mem_nil,or_false];exact Nat.ne_of_lt (Heap.lt_size e)
  ·obtain⟨i,hi,rfl⟩:=List.getElem_of_mem hx;have:=hb.2 i (by lia);have e:at0 ns i=ns[i]:=by unfold at0;simp[List.getD,hi]
   rw[<-e];exact this
end
end L2
namespace L2
open PySem PySem.Spec PyProof.Rows
theorem F1{prog:Program}{w:World}{A:Around}{E:Value->Shared->Prop}{s:Shared}{r:Addr}{a b i:Int}{t u v t':Tok}{Q:Value->Shared->Prop}(hr:s.heap.get? r=some { cls:=.type "range",data:=.fields #[.int a t,.int b u,.int 1 v] })
  (h:Q (.bool (!(decide (a<=i)&&decide (i<b)))) s):wpAny (model prog w) A (compareOp .NotIn (.int i t') (.ref r)) Q E s:=by
 have hT:s.TypeIs (.ref r) "range":=⟨_,hr,rfl⟩
 show wpAny _ _ (do return .bool (!(<-contains (.ref r) (.int i t')))) Q E s;refine ZZ (wpAny_contains_slot hT F.slot_range_contains (wpAny_call_entry F.slot_range_contains hT F.entry_range_contains ?_ (F.args_range_contains_2 _ _)));obtain⟨hp,g,d,tk,os⟩:=s
 wp_walk using wpAny_loadPart' hr
 refine⟨_,rfl,wpAny_truthy_bool (ZY ?_)⟩;have e:(Builtin.Range.rangePlace? a b 1 i).isSome=(decide (a<=i)&&decide (i<b)):=by
  unfold Builtin.Range.rangePlace?;simp only[show(1:Int)>0 from by decide,if_true,Int.emod_one];by_cases z:a<=i/\i<b
  ·simp[z.1,z.2]
  ·have:(decide (a<=i)&&decide (i<b))=false:=by simp;lia
   simp[this]
 rw[e];exact h
section
variable{X:Cx}
theorem AX:OpR X (compareOp .NotIn) (λx y H Q=>∃(p:Addr) (i lo hi:Int),x=.int i/\y=.ref p/\H p=some (.rng lo hi)/\Q (.bl (!(decide (lo<=i)&&decide (i<hi)))) H):=by
 intro pins s σ H x y v u Q I rx ry h;obtain⟨p,i,lo,hi,rfl,rfl,hp,q⟩:=h;obtain⟨t',rfl⟩:=rx;cases ry;obtain⟨t,u,v,e⟩:=(show cH X.prog X.w H s.heap p (.rng lo hi) from I.hok p _ hp)
 exact F1 e ⟨.bl _,H,I,rfl,q⟩
theorem w8:dG X (.builtin "len") (λxs H Q=>∃(p:Addr) (ys:ST.Xs),xs=[.ref p]/\H p=some (DX X.prog X.w p ys)/\ys.length<1000/\Q (.int ys.length) H):=by
 intro pins s σ H xs us Q I r h;obtain⟨p,ys,rfl,hp,hl,q⟩:=h;obtain⟨u,rfl,rx⟩:=vals1 r;cases rx;obtain⟨f,_,_⟩:=I.hok p _ hp;obtain⟨o,ep,t,l,ho,hex,hd,T,fw,pln,hled⟩:=f;have sz:((ys.map (ST.ent X.prog X.w)).toArray).size=ys.length:=by simp
 exact call_len_set ho hex hd (T.fits (by rw[Zq];exact fw) (by simp)) (by rw[sz];lia) ⟨.int ys.length,H,I.tok _,⟨_,by rw[sz]⟩,q⟩
end
end L2
namespace L2
open PySem PySem.Spec PyProof.Rows
section
variable{X:Cx}
theorem NP:∀{ns:List Int}{its:List Value},bI (ns.map V.int) its->PySem.W.kf_ints its=true
 |[],_,r=>by cases r;rfl
 |a::ns,its,r=>by
  cases r with
  |cons h r =>
   have e:=NP (ns:=ns) r;obtain⟨t,rfl⟩:=h;exact e
theorem x3{α β:Type}(f:α->β):∀(l:List α) (i:Nat),(l.map f).eraseIdx i=(l.eraseIdx i).map f
 |[],_=>rfl
 |_::_,0=>rfl
 |a::l,i+1=>by rw[List.map_cons,List.eraseIdx_cons_succ,List.eraseIdx_cons_succ,List.map_cons,x3 f l i]
def RM:V->List V->Hp->VK->Prop:=λx vs H Q=>∃(l:Addr) (ns:List Int) (v:Int),x=.ref l/\vs=[.int v]/\H l=some (.lst (ns.map V.int))/\v∈ns/\Q .non (upd H l (.lst ((ns.erase v).map V.int)))
theorem MK:MtM X "list.remove" RM:=by
 intro pins s σ H x vs v us Q I rx rv h;obtain⟨l,ns,k,rfl,rfl,hH,hm,q⟩:=h;cases rx;obtain⟨u,rfl,t,rfl⟩:=rv.one;obtain⟨z,its,n,r,hl,e⟩:=I.lstM hH;have hlen:its.length=ns.length:=by rw[<-hl];simp
 have hj:ns.idxOf k<ns.length:=List.idxOf_lt_length_of_mem hm;have item:∀(m:Nat) (hm:m<its.toArray.size),PyProof.Rows.isInt k its.toArray[m]=(ns[m]'(by simpa[hlen] using hm)==k):=λm hm'=>by
  have hm2:m<ns.length:=by simpa[hlen] using hm'
  have hx:(ns.map V.int)[m]?=some (.int ns[m]):=by rw[Zk,Zz hm2];rfl
  obtain⟨u',hu',ru'⟩:=r.get hx;have e1:its.toArray[m]=u':=by
   have:its[m]?=some its.toArray[m]:=by simp at hm' ⊢
   rw[this]at hu';exact Option.some.inj hu'
  rw[e1];obtain⟨t',rfl⟩:=ru';rfl
 have hsz:its.toArray.size<=ZW:=by rw[List.size_toArray];lia
 refine call_meets F.slot_list_remove ⟨_,e,rfl⟩ F.entry_list_remove (F.args_list_remove_2 _ _)
  (MeetsSeq.list_remove l its.toArray n (.int k t) (PyProof.Rows.isInt k) (λy hy=>PySem.W.kf_eq (NP r) y (by simpa using hy)) (ns.idxOf k) (by simpa[hlen] using hj) ?_ ?_ hsz) ⟨e,?_⟩
 ·rw[item];simp
 ·intro m hm' hlt;rw[item];have:=List.not_of_lt_findIdx (p:=(·==k)) (xs:=ns) (i:=m) hlt;simpa using this
 ·refine⟨.non,_,I.lset (its':=its.eraseIdx (ns.idxOf k)) hH e ?_ ?_ ?_,rfl,q⟩
  ·show its.toArray.eraseIdxIfInBounds (ns.idxOf k)=_;rw[List.eraseIdxIfInBounds_toArray]
  ·rw[List.erase_eq_eraseIdx_of_idxOf (a:=k) rfl];have e3:(ns.eraseIdx (ns.idxOf k)).map V.int=(ns.map V.int).eraseIdx (ns.idxOf k):=(x3 V.int ns _).symm;rw[e3];exact r.eraseIdx _
  ·rw[Zq];have:(ns.erase k).length<=ns.length:=List.length_erase_le;have h2:(ns.map V.int).length=ns.length:=by simp
   lia
end
end L2
namespace AW
abbrev Ts:=List (Int×Int)
abbrev Os:=List (List Int)
def plc(ts:Ts)(e:Nat):Int:=((ts[e / 2]?).map λt=>if e%2=0 then t.1 else t.2).getD (-1)
def InW(m:Int)(ts:Ts):Prop:=∀t∈ts,(0<=t.1/\t.1<m)/\0<=t.2/\t.2<m
def all2(ts:Ts):List Int:=(List.range (2*ts.length)).map λn:Nat=>(n:Int)
def endsAt(ts:Ts)(p:Int):List Int:=(all2 ts).filter λe=>plc ts e.toNat==p
inductive Rch(ts:Ts):Int->Prop
 |zero:Rch ts 0
 |fwd {t:Int×Int}:t∈ts->Rch ts t.1->Rch ts t.2
 |bwd {t:Int×Int}:t∈ts->Rch ts t.2->Rch ts t.1
def nA(m:Int)(ts:Ts):Prop:=∀p:Int,0<=p->p<m->Rch ts p
theorem JN{ts:Ts}{e:Int}:e∈all2 ts↔0<=e/\e<2*ts.length:=by
 unfold all2;rw[Zh];constructor
 ·rintro⟨n,hn,rfl⟩;have:=Zs.mp hn
  lia
 ·rintro⟨h0,h1⟩;exact⟨e.toNat,Zs.mpr (by lia),by lia⟩
theorem xQ{α β:Type}{f:α->β}(hf:∀a b,f a=f b->a=b):∀{l:List α},l.Nodup->(l.map f).Nodup
 |[],_=>List.nodup_nil
 |a::l,h=>by
  obtain⟨h1,h2⟩:=List.nodup_cons.mp h;rw[List.map_cons,List.nodup_cons];refine⟨λq=>?_,xQ hf h2⟩;obtain⟨b,hb,e⟩:=Zh.mp q;exact h1 (hf _ _ e▸hb)
theorem qG{l l':List Int}(p:l.Perm l')(h:l.Pairwise (·<=·))(h':l'.Pairwise (·<=·)):l=l' :=
 p.eq_of_pairwise (λa b _ _ h1 h2=>Int.le_antisymm h1 h2) h h'
theorem L1{ts:Ts}{t:Int×Int}{e:Nat}(h:e<2*ts.length):plc (ts++[t]) e=plc ts e:=by
 unfold plc;rw[Zx (by lia)]
theorem IV(ts:Ts)(t:Int×Int):plc (ts++[t]) (2*ts.length)=t.1:=by
 unfold plc;rw[show 2*ts.length / 2=ts.length by lia,Yx];show(if 2*ts.length%2=0 then t.1 else t.2)=t.1;rw[if_pos (by lia)]
theorem IU(ts:Ts)(t:Int×Int):plc (ts++[t]) (2*ts.length+1)=t.2:=by
 unfold plc;rw[show(2*ts.length+1) / 2=ts.length by lia,Yx];show(if (2*ts.length+1)%2=0 then t.1 else t.2)=t.2;rw[if_neg (by lia)]
theorem G7(ts:Ts)(t:Int×Int):all2 (ts++[t])=all2 ts++[(2*ts.length:Int),2*ts.length+1]:=by
 unfold all2;rw[Zm,show 2*(ts.length+[t].length)=2*ts.length+1+1 by simp;lia,List.range_succ,List.range_succ];simp
theorem BP(ts:Ts)(t:Int×Int)(p:Int):endsAt (ts++[t]) p=endsAt ts p++((if t.1=p then [(2*ts.length:Int)] else [])++if t.2=p then [(2*ts.length+1:Int)] else []):=by
 unfold endsAt;rw[G7,List.filter_append];congr 1
 ·refine List.filter_congr λe he=>?_;obtain⟨h0,h1⟩:=JN.mp he;rw[L1 (by lia)]
 ·have e0:plc (ts++[t]) (2*(ts.length:Int)).toNat=t.1:=by rw[show(2*(ts.length:Int)).toNat=2*ts.length by lia,IV]
  have e1:plc (ts++[t]) (2*(ts.length:Int)+1).toNat=t.2:=by rw[show(2*(ts.length:Int)+1).toNat=2*ts.length+1 by lia,IU]
  simp only[List.filter_cons,List.filter_nil,e0,e1,beq_iff_eq];by_cases h1:t.1=p<;>by_cases h2:t.2=p<;>simp[h1,h2]
def nb(t:Int×Int)(p:Int):List Int:=(if t.1=p then [t.2] else [])++if t.2=p then [t.1] else []
def nbs(ts:Ts)(p:Int):List Int:=ts.flatMap λt=>nb t p
theorem A5(ts:Ts)(t:Int×Int)(p:Int):nbs (ts++[t]) p=nbs ts p++nb t p:=by
 unfold nbs;rw[List.flatMap_append];simp
theorem kN{ts:Ts}{p q:Int}:q∈nbs ts p↔∃t∈ts,(t.1=p/\t.2=q)\/(t.2=p/\t.1=q):=by
 unfold nbs nb;rw[List.mem_flatMap];constructor
 ·rintro⟨t,ht,h⟩;refine⟨t,ht,?_⟩;rcases Zf.mp h with h | h
  ·split at h
   ·exact .inl ⟨by assumption,(Zb.mp h).symm⟩
   ·cases h
  ·split at h
   ·exact .inr ⟨by assumption,(Zb.mp h).symm⟩
   ·cases h
 ·rintro⟨t,ht,⟨h1,h2⟩ | ⟨h1,h2⟩⟩
  ·exact⟨t,ht,List.mem_append_left _ (by rw[if_pos h1,h2];simp)⟩
  ·exact⟨t,ht,List.mem_append_right _ (by rw[if_pos h1,h2];simp)⟩
theorem Rch.step{ts:Ts}{p q:Int}(h:Rch ts p)(hq:q∈nbs ts p):Rch ts q:=by
 obtain⟨t,ht,⟨rfl,rfl⟩ | ⟨rfl,rfl⟩⟩:=kN.mp hq
 ·exact h.fwd ht
 ·exact h.bwd ht
theorem C8{m:Int}{ts:Ts}(h:InW m ts){p q:Int}(hq:q∈nbs ts p):0<=q/\q<m:=by
 obtain⟨t,ht,⟨rfl,rfl⟩ | ⟨rfl,rfl⟩⟩:=kN.mp hq
 ·exact(h t ht).2
 ·exact(h t ht).1
theorem Rch.within{ts:Ts}{S:Int->Prop}(h0:S 0)(hs:∀p,S p->∀q∈nbs ts p,S q){p:Int}(h:Rch ts p):S p:=by
 induction h with
 |zero=>exact h0
 |fwd ht _ ih=>exact hs _ ih _ (kN.mpr ⟨_,ht,.inl ⟨rfl,rfl⟩⟩)
 |bwd ht _ ih=>exact hs _ ih _ (kN.mpr ⟨_,ht,.inr ⟨rfl,rfl⟩⟩)
structure zU(m:Nat)(ts:Ts)(R:List Bool)(W:List Int):Prop where
 len:R.length=m
 zero:R[0]?=some true
 ok:∀p:Nat,R[p]?=some true->Rch ts p
 win:∀p∈W,∃n:Nat,p=n/\R[n]?=some true
 cl:∀p:Nat,R[p]?=some true->(p:Int)∈W\/∀q∈nbs ts p,R[q.toNat]?=some true
structure l5(m:Nat)(ts:Ts)(R:List Bool)(W:List Int)(p0 k:Nat):Prop where
 len:R.length=m
 zero:R[0]?=some true
 ok:∀p:Nat,R[p]?=some true->Rch ts p
 win:∀p∈W,∃n:Nat,p=n/\R[n]?=some true
 own:R[p0]?=some true
 cl:∀p:Nat,R[p]?=some true->(p:Int)∈W\/(p=p0/\∀(j:Nat) q,j<k->(nbs ts p0)[j]?=some q->R[q.toNat]?=some true)\/∀q∈nbs ts p,R[q.toNat]?=some true
theorem zU.start{m:Nat}{ts:Ts}(h:0<m):zU m ts ((List.range m).map λp=>decide (p=0)) [0] where
 len:=by simp
 zero:=by simp[h]
 ok:=λp hp=>by
  rw[Zk]at hp;cases e:(List.range m)[p]? with
  |none=>rw[e]at hp;cases hp
  |some n =>
   obtain⟨hn,rfl⟩:=Zj.mp e;rw[e]at hp;simp at hp;subst hp;exact .zero
 win:=λp hp=>⟨0,by simpa using hp,by simp[h]⟩
 cl:=λp hp=>by
  rw[Zk]at hp;cases e:(List.range m)[p]? with
  |none=>rw[e]at hp;cases hp
  |some n =>
   obtain⟨hn,rfl⟩:=Zj.mp e;rw[e]at hp;simp at hp;subst hp;exact .inl (by simp)
theorem zU.done{m:Nat}{ts:Ts}{R:List Bool}(hin:InW m ts)(h:zU m ts R []):R.all id=true↔nA m ts:=by
 rw[List.all_eq_true];constructor
 ·intro ha p h0 h1;obtain⟨n,rfl⟩:=Xv h0;have hn:n<R.length:=by rw[h.len];lia
  refine h.ok n ?_;rw[Zz hn];have:=ha _ (Zp hn);exact congrArg some this
 ·intro hw b hb;obtain⟨n,hn,rfl⟩:=Yy.mp hb;have hr:Rch ts (n:Int):=hw n (by lia) (by rw[h.len]at hn;lia);have e:=(hr.within (S:=λp=>0<=p/\R[p.toNat]?=some true) ⟨Int.le_refl _,h.zero⟩ λp hp q hq=>by
   obtain⟨k,rfl⟩:=Xv hp.1;refine⟨(C8 hin hq).1,?_⟩;rcases h.cl k (by simpa using hp.2) with z | z
   ·cases z
   ·exact z q hq).2
  rw[show(n:Int).toNat=n by lia,Zz hn]at e;exact Option.some.inj e
theorem l5.start{m:Nat}{ts:Ts}{R:List Bool}{W:List Int}{p0:Nat}(h:zU m ts R (W++[(p0:Int)])):l5 m ts R W p0 0 where
 len:=h.len
 zero:=h.zero
 ok:=h.ok
 win:=λp hp=>h.win p (List.mem_append_left _ hp)
 own:=by
  obtain⟨n,e,hn⟩:=h.win (p0:Int) (by simp);have:n=p0:=by lia
  exact this▸hn
 cl:=λp hp=>by
  rcases h.cl p hp with z | z
  ·rcases Zf.mp z with z | z
   ·exact .inl z
   ·have:p=p0:=by have:=Zb.mp z;lia
    exact .inr (.inl ⟨this,λj q hj=>absurd hj (Nat.not_lt_zero _)⟩)
  ·exact .inr (.inr z)
theorem l5.skip{m:Nat}{ts:Ts}{R:List Bool}{W:List Int}{p0 k:Nat}{q:Int}(h:l5 m ts R W p0 k)(hq:(nbs ts p0)[k]?=some q)(hr:R[q.toNat]?=some true):l5 m ts R W p0 (k+1) where
 len:=h.len
 zero:=h.zero
 ok:=h.ok
 win:=h.win
 own:=h.own
 cl:=λp hp=>by
  rcases h.cl p hp with z | ⟨z1,z2⟩ | z
  ·exact .inl z
  ·refine .inr (.inl ⟨z1,λj q' hj hq'=>?_⟩);by_cases hjk:j<k
   ·exact z2 j q' hjk hq'
   ·have:j=k:=by lia
    subst this;rw[hq]at hq';cases hq';exact hr
  ·exact .inr (.inr z)
theorem k8{R:List Bool}{i j:Nat}(hi:i<R.length):(R.set i true)[j]?=some true↔j=i\/R[j]?=some true:=by
 by_cases e:i=j
 ·subst e;rw[List.getElem?_set_self hi];simp
 ·rw[List.getElem?_set_ne e];constructor
  ·exact .inr
  ·rintro(z | z)
   ·exact absurd z.symm e
   ·exact z
theorem l5.reach{m:Nat}{ts:Ts}{R:List Bool}{W:List Int}{p0 k q:Nat}(h:l5 m ts R W p0 k)(hq:(nbs ts p0)[k]?=some (q:Int))(hm:q<m):l5 m ts (R.set q true) (W++[(q:Int)]) p0 (k+1):=by
 have hl:q<R.length:=by rw[h.len];exact hm
 have up:∀j:Nat,R[j]?=some true->(R.set q true)[j]?=some true:=λj hj=>(k8 hl).mpr (.inr hj);have hrq:Rch ts q:=(h.ok p0 h.own).step (Zg hq);refine⟨by rw[List.length_set];exact h.len,up 0 h.zero,λp hp=>?_,λp hp=>?_,up _ h.own,λp hp=>?_⟩
 ·rcases(k8 hl).mp hp with rfl | hp
  ·exact hrq
  ·exact h.ok p hp
 ·rcases Zf.mp hp with z | z
  ·obtain⟨n,e,hn⟩:=h.win p z;exact⟨n,e,up n hn⟩
  ·exact⟨q,Zb.mp z,(k8 hl).mpr (.inl rfl)⟩
 ·rcases(k8 hl).mp hp with rfl | hp
  ·exact .inl (by simp)
  ·rcases h.cl p hp with z | ⟨z1,z2⟩ | z
   ·exact .inl (List.mem_append_left _ z)
   ·refine .inr (.inl ⟨z1,λj q' hj hq'=>?_⟩);by_cases hjk:j<k
    ·exact up _ (z2 j q' hjk hq')
    ·have:j=k:=by lia
     subst this;rw[hq]at hq';cases hq';exact(k8 hl).mpr (.inl (by lia))
   ·exact .inr (.inr λq' hq'=>up _ (z q' hq'))
theorem l5.finish{m:Nat}{ts:Ts}{R:List Bool}{W:List Int}{p0 k:Nat}(h:l5 m ts R W p0 k)(hk:(nbs ts p0).length<=k):zU m ts R W where
 len:=h.len
 zero:=h.zero
 ok:=h.ok
 win:=h.win
 cl:=λp hp=>by
  rcases h.cl p hp with z | ⟨rfl,z2⟩ | z
  ·exact .inl z
  ·refine .inr λq hq=>?_;obtain⟨j,hj,e⟩:=Yy.mp hq;exact z2 j q (by lia) (by rw[Zz hj,e])
  ·exact .inr z
def iH(R:List Bool):Nat:=(R.filter (! ·)).length
theorem vD:∀{R:List Bool}{i:Nat},R[i]?=some false->iH (R.set i true)+1=iH R
 |[],_,h=>by simp at h
 |b::R,0,h=>by
  have e:b=false:=by simpa using h
  subst e;simp[iH]
 |b::R,i+1,h=>by
  have h':R[i]?=some false:=by simpa using h
  have ih:=vD h';unfold iH at ih ⊢;rw[List.set_cons_succ];cases b<;>simp<;>lia
theorem mG:∀(l m:List Int),l.Nodup->(∀x∈l,x∈m)->l.length<=m.length
 |[],_,_,_=>Nat.zero_le _
 |x::l,m,nd,h=>by
  have h1:=List.nodup_cons.mp nd;have ih:=mG l (m.erase x) h1.2 λy hy=>(List.mem_erase_of_ne (λz=>h1.1 (by rw[<-z];exact hy))).mpr (h y (Zw _ hy));have hx:=List.length_erase_of_mem (h x Zd);have:0<m.length:=List.length_pos_of_mem (h x Zd);simp only[Yq]
  lia
def upTo(m:Nat):List Int:=(List.range m).map λn:Nat=>(n:Int)
theorem mem_upTo{m:Nat}{p:Int}:p∈upTo m↔0<=p/\p<m:=by
 unfold upTo;rw[Zh];constructor
 ·rintro⟨n,hn,rfl⟩;have:=Zs.mp hn
  lia
 ·rintro⟨h0,h1⟩;exact⟨p.toNat,Zs.mpr (by lia),by lia⟩
theorem C7(m:Nat):(upTo m).Nodup:=xQ (λa b h=>by lia) List.nodup_range
theorem uW(m:Nat):(upTo m).length=m:=by simp[upTo]
structure rL(m:Nat)(ts:Ts)(C:List Int):Prop where
 nd:C.Nodup
 zero:0∈C
 win:∀p∈C,0<=p/\p<m
 ok:∀p∈C,Rch ts p
def QQ(ts:Ts)(C:List Int):Prop:=∀t∈ts,t.1∈C↔t.2∈C
theorem rL.le{m:Nat}{ts:Ts}{C:List Int}(h:rL m ts C):C.length<=m:=by
 have:=mG C (upTo m) h.nd λp hp=>mem_upTo.mpr (h.win p hp)
 rwa [uW]at this
theorem rL.whole{m:Nat}{ts:Ts}{C:List Int}(h:rL m ts C)(e:C.length=m):nA m ts:=λp h0 h1=>by
 by_cases hp:p∈C
 ·exact h.ok p hp
 ·have:=mG (p::C) (upTo m) (List.nodup_cons.mpr ⟨hp,h.nd⟩) λq hq=>by
   rcases Zn.mp hq with rfl | hq
   ·exact mem_upTo.mpr ⟨h0,h1⟩
   ·exact mem_upTo.mpr (h.win q hq)
  rw[uW,Yq]at this
  lia
theorem rL.full{m:Nat}{ts:Ts}{C:List Int}(h:rL m ts C)(c:QQ ts C)(w:nA m ts):C.length=m:=by
 refine Nat.le_antisymm h.le ?_;have:=mG (upTo m) C (C7 m) λp hp=>by
  obtain⟨h0,h1⟩:=mem_upTo.mp hp;refine(w p h0 h1).within (S:=λp=>p∈C) h.zero λp hp q hq=>?_;obtain⟨t,ht,⟨rfl,rfl⟩ | ⟨rfl,rfl⟩⟩:=kN.mp hq
  ·exact(c t ht).mp hp
  ·exact(c t ht).mpr hp
 rwa [uW]at this
theorem rL.start{m:Nat}{ts:Ts}(h:0<m):rL m ts [0]:=⟨by simp,by simp,λp hp=>by have:=Zb.mp hp;lia,λp hp=>by rw[Zb.mp hp];exact .zero⟩
theorem rL.add{m:Nat}{ts:Ts}{C:List Int}(h:rL m ts C){p q:Int}(hp:p∈C)(hq:q∉C)(hn:q∈nbs ts p)(hw:InW m ts):rL m ts (C++[q]) where
 nd:=by
  rw[List.nodup_append];exact⟨h.nd,by simp,λa ha b hb z=>by rw[Zb.mp hb]at z;exact hq (z▸ha)⟩
 zero:=List.mem_append_left _ h.zero
 win:=λx hx=>by
  rcases Zf.mp hx with z | z
  ·exact h.win x z
  ·rw[Zb.mp z];exact C8 hw hn
 ok:=λx hx=>by
  rcases Zf.mp hx with z | z
  ·exact h.ok x z
  ·rw[Zb.mp z];exact(h.ok p hp).step hn
end AW
namespace L2
open PySem PySem.Spec PyProof.Rows
theorem scm{N P:List Str}{sc:Scope}(a:sc.kind=.function:=by rfl)(b:sc.isCoroutine=false:=by rfl)(c:sc.isGenerator=false:=by rfl)(d:N.Nodup:=by decide +kernel)(e:N.take P.length=P:=by rfl)(f:∀x∈P,sc.names.lookup x=some .local\/sc.names.lookup x=some .cell:=by decide +kernel)(g:∀y∈sc.names,y.2≠.free:=by decide +kernel):aX N P sc:=⟨a,b,c,d,e,f,g⟩
structure Fn4(K:PySem.W.Frag)(mg:Str->Option Value)(x:Str)(s:Stmt)(ps:List Str)(a:Addr)(d:FuncData):Prop where
 F:Fun K x x s a d
 m:mg x=some (.ref a)
 k:PySem.W.keepIn K (.ref a)=true
 b:Binds K d ps []
abbrev FnX(K:PySem.W.Frag)(x:Str)(s:Stmt):Prop:=∃f:Addr,PySem.W.nsIn K ZV x=some (some (.ref f))/\∃(oc:Value) (od:Option Addr) (kV dc pm:Value) (an:Option Addr) (cd ct:Value) (sl:Array (Option Value)),K.lookup f=some ⟨oc,od,.func (PySem.W.fnOf x x (jC s) (fJ s) (aR s) .none kV dc pm an cd ct),sl⟩/\PySem.W.codeIn K cd x=true/\PySem.W.keepIn K (.ref f)=true
theorem bX{K:PySem.W.Frag}{mg:Str->Option Value}{h:Heap}{x:Str}{s:Stmt}{ps:List Str}(X:K.In h)(G:h.Ns ZV mg)(e:FnX K x s)(hb:∀(kV doc pm:Value) (an:Option Addr) (cdv ct:Value) (us:List Value),us.length=ps.length->bindArgs (PySem.W.fnOf x x (jC s) (fJ s) (aR s) .none kV doc pm an cdv ct) ⟨us,[]⟩=pure (ps.zip us)):∃f d,Fn4 K mg x s ps f d:=by
 obtain⟨f,a,oc,od,kV,dc,pm,an,cd,ct,sl,l,c,k⟩:=e;have F:=J9 (st:=s) l c k;exact⟨f,_,F,PySem.W.mg_of X G a,k,F.binds hb⟩
theorem QC{K:PySem.W.Frag}{mg:Str->Option Value}{h:Heap}{x:Str}{s:Stmt}{ps:List Str}(X:K.In h)(G:h.Ns ZV mg)(e:FnX K x s)(hb:∀(kV doc pm:Value) (an:Option Addr) (cdv ct:Value) (us:List Value),us.length=ps.length->bindArgs (PySem.W.fnOf x x (jC s) (fJ s) (aR s) .none kV doc pm an cdv ct) ⟨us,[]⟩=pure (ps.zip us)):∃f d,Fn4 K mg x s ps f d/\∀(s:Shared) (us:List Value),us.length=ps.length->BindsTo s d ⟨us,[]⟩ (ps.zip us):=by
 obtain⟨f,a,oc,od,kV,dc,pm,an,cd,ct,sl,l,c,k⟩:=e;have F:=J9 (st:=s) l c k;exact⟨f,_,⟨F,PySem.W.mg_of X G a,k,F.binds hb⟩,λs us hl=>.of_eq (hb _ _ _ _ _ _ us hl)⟩
theorem bK{X:Cx}{CX:CXT}{k:Nat}{f:Addr}{fd:FuncData}{ps:List Str}{sp:Sp}{E:XK}{x:Str}{p pos:Pos}{e:Expr}{es:List Expr}{s:Stmt}{t:TA}(F:cJ X.prog X.w X.K X.mg X.base CX k f fd ps sp){j:Nat}(hr:eX j X.A)(c:Fn4 X.K X.mg x s ps f fd)(hx:wJ CX X E)
  (ha:PA X (e::es) t) (hj:k<=j:=by decide) (hg:Gl X x:=by rfl) (hdb:(x==("__debug__" : Str))=false:=by decide) (he:starEach (e::es) X.env=(false,eval e X.env)::starEach es X.env:=by rfl) (hpl:(backTo pos (starEach es X.env)).any (·.1)=false:=by rfl) :
  PE X (.Call (.Name x p) (e::es) [] pos) (NH sp [] E t):=EF F (hr.mono hj) hg c.m c.k c.b .nil hx ha hdb he hpl
structure Mth(T:String)(name:Str)(id:String):Prop where
 a:PlainAttrs T
 b:Slot T name id
 c:typeOf (.builtin id)=pure (.type "method_descriptor")
theorem mAp:Mth "list" "append" "list.append":=⟨PySem.F.plainAttrs_list,PySem.F.slot_list_append,PySem.F.type_list_append⟩
theorem mSp:Mth "str" "split" "str.split":=⟨PySem.F.plainAttrs_str,PySem.F.slot_str_split,PySem.F.type_str_split⟩
theorem mJn:Mth "str" "join" "str.join":=⟨PySem.F.plainAttrs_str,PySem.F.slot_str_join,PySem.F.type_str_join⟩
theorem mCo:Mth "str" "count" "str.count":=⟨PySem.F.plainAttrs_str,PySem.F.slot_str_count,PySem.F.type_str_count⟩
theorem jQ{X:Cx}{o e:Expr}{es:List Expr}{to:TE}{t:TA}{name:Str}{apos cpos:Pos}{T id:String}{r:V->List V->Hp->VK->Prop}(M:Mth T name id)(hm:MtR X id r)(ho:PE X o to)(ha:PA X (e::es) t)
  (hbase:attributeBase o name X.env (eval o X.env)=eval o X.env:=by rfl)
  (hfew:((backTo cpos (starEach (e::es) X.env)).all (λx=>!x.1)&&(backToKw cpos (keywordEach [] X.env)).all (λx=>x.1.isSome)
   && decide ((e::es).length+([]:List Keyword).length+(if ([]:List Keyword).isEmpty then 0 else 1)<30))=true:=by rfl)
  (hline:(apos.endLine==cpos.line)=true:=by rfl) (hs:starEach (e::es) X.env=(false,eval e X.env)::starEach es X.env:=by rfl) (hplain:(backTo cpos (starEach es X.env)).any (·.1)=false:=by rfl) :
  PE X (.Call (.Attribute o name apos) (e::es) [] cpos) (tBM X.K T r to t):=uJ M.a M.b M.c hm ho ha hbase hfew hline hs hplain
theorem bC{X:Cx}{pos:Pos}(i:Nat){x:Str}{e:Expr}{te:TE}{pos':Pos}(hN:X.N.Nodup)(he:PE X e te)(hi:X.N[i]?=some x:=by rfl)(hx:Loc X.env.scope x:=by first | exact Or.inl rfl | exact Or.inr rfl)(hs:swapsWith e (some (.Name x pos')) pos.line X.env=pure false:=by rfl)(hf:X.fn x=true\/X.env.scope.names.lookup x=some .local:=by first | exact .inl rfl | exact .inr rfl | assumption) :
  PS X (.Assign [.Name x pos'] e pos) (K5 te (dR i)):=O5 hN hi hx he hs hf
end L2
namespace K49
open PySem L2
def top(i:Nat):Stmt:=PySem.Challenge.pw_fewbends_k49_whole_rows_in_a_full_grid.main.body.getD i (.Pass ⟨0,0,0,0⟩)
abbrev nG:Stmt:=top 2
theorem AK:aX ["head"] ["head"] (aR nG):=scm
abbrev jF:Stmt:=top 3
theorem lA:aX ["heads","end","head"] ["heads","end"] (aR jF):=scm
abbrev fR:Stmt:=top 4
theorem oN:aX ["head","onward"] ["head","onward"] (aR fR):=scm
abbrev eQ:Stmt:=top 9
theorem gQ:aX ["many","ties"] ["many","ties"] (aR eQ):=scm
abbrev fT:Stmt:=top 10
theorem iV:aX ["many","ties","ends","number","tie"] ["many","ties"] (aR fT):=scm
abbrev fS:Stmt:=top 11
theorem iU:aX ["many","ties","near","a","b","reached","waiting","place","neighbour"] ["many","ties"] (aR fS):=scm
abbrev lD:Stmt:=top 12
theorem y0:aX ["end"] ["end"] (aR lD):=scm
abbrev nE:Stmt:=top 13
theorem AJ:aX ["web","end"] ["web","end"] (aR nE):=scm
abbrev qO:Stmt:=top 14
theorem CP:aX ["web","end"] ["web","end"] (aR qO):=scm
abbrev uB:Stmt:=top 15
theorem xI:aX ["web","end","order"] ["web","end"] (aR uB):=scm
abbrev y6:Stmt:=top 16
theorem AL:aX ["web","told","seen","first","land","end"] ["web"] (aR y6):=scm
abbrev lF:Stmt:=top 17
theorem oP:aX ["web","first","land","end"] ["web","first"] (aR lF):=scm
abbrev qN:Stmt:=top 18
theorem CO:aX ["web"] ["web"] (aR qN):=scm
abbrev kF:Stmt:=top 20
theorem wQ:aX ["number","outer"] ["number","outer"] (aR kF):=scm
abbrev nI:Stmt:=top 21
theorem AM:aX ["land","corners","lefts"] ["land","corners","lefts"] (aR nI):=scm
abbrev kI:Stmt:=top 23
theorem mU:aX ["laid","many","ties"] ["laid"] (aR kI):=scm
abbrev lJ:Stmt:=top 24
theorem oS:aX ["laid","ends"] ["laid"] (aR lJ):=scm
abbrev eS:Stmt:=top 25
theorem gR:aX ["laid","sums"] ["laid"] (aR eS):=scm
abbrev lE:Stmt:=top 26
theorem oO:aX ["laid","corners","lefts"] ["laid"] (aR lE):=scm
abbrev oT:Stmt:=top 27
theorem xF:aX ["laid","ends_at","orders"] ["laid"] (aR oT):=scm
abbrev kH:Stmt:=top 28
theorem mT:aX ["laid","web","corners","end","back"] ["laid"] (aR kH):=scm
abbrev nF:Stmt:=top 29
theorem rP:aX ["laid","sums"] ["laid"] (aR nF):=scm
abbrev kG:Stmt:=top 32
theorem mS:aX ["laid","parting","whole"] ["laid","parting"] (aR kG):=scm
abbrev qM:Stmt:=top 33
theorem tZ:aX ["laid"] ["laid"] (aR qM):=scm
abbrev jE:Stmt:=top 34
theorem k9:aX ["laid","parting","pieces","numbers","number","piece","between","tie"] ["laid","parting"] (aR jE):=scm
abbrev lC:Stmt:=top 35
theorem oM:aX ["laid","tie","whole","numbers","between","onward","number","place","count"] ["laid","tie","whole","numbers","between"] (aR lC):=scm
abbrev eK:Stmt:=top 36
theorem gI:aX ["whole","corners","outer","number","land","corner","turning"] ["whole"] (aR eK):=scm
abbrev eU:Stmt:=top 37
theorem gS:aX ["parting","outer_land","frame"] ["parting"] (aR eU):=scm
abbrev lI:Stmt:=top 39
theorem y4:aX ["_law_script","_law_k"] ["_law_script","_law_k"] (aR lI):=scm
abbrev y9:Stmt:=top 40
theorem AO:aX ["_law_cell","_law_k","_law_again","_law_number"] ["_law_cell","_law_k"] (aR y9):=scm
abbrev nJ:Stmt:=top 41
theorem rQ:aX ["_law_number","_law_many","_law_told","_law_k"] ["_law_number","_law_many"] (aR nJ):=scm
abbrev qJ:Stmt:=top 42
theorem CN:aX ["_law_end"] ["_law_end"] (aR qJ):=scm
abbrev qI:Stmt:=top 43
theorem CM:aX ["_law_ties","_law_end"] ["_law_ties","_law_end"] (aR qI):=scm
abbrev nN:Stmt:=top 44
theorem rT:aX ["_law_ties","_law_orders_here","_law_end","_law_order"] ["_law_ties","_law_orders_here","_law_end"] (aR nN):=scm
abbrev qK:Stmt:=top 45
theorem tX:aX ["_law_ties","_law_orders_here","_law_told","_law_left","_law_land","_law_here"] ["_law_ties","_law_orders_here"] (aR qK):=scm
abbrev nK:Stmt:=top 47
theorem rR:aX ["_law_laid","_law_rows","_law_end"] ["_law_laid"] (aR nK):=scm
abbrev qL:Stmt:=top 48
theorem tY:aX ["_law_laid","_law_near","_law_one","_law_other_here","_law_come","_law_waiting","_law_place_here"] ["_law_laid"] (aR qL):=scm
abbrev nM:Stmt:=top 49
theorem rS:aX ["_law_laid","_law_orders_here","_law_end","_law_after","_law_back"] ["_law_laid","_law_orders_here","_law_end"] (aR nM):=scm
abbrev lH:Stmt:=top 50
theorem oR:aX ["_law_laid","_law_many","_law_ties","_law_heads","_law_tie","_law_head","_law_gone","_law_orders_here","_law_some","_law_sums"] ["_law_laid"] (aR lH):=scm
abbrev t9:Stmt:=top 51
theorem xG:aX ["_law_laid","_law_inner","_law_some","_law_tie","_law_between","_law_here","_law_left","_law_ahead"] ["_law_laid","_law_inner","_law_some","_law_tie","_law_between"] (aR t9):=scm
abbrev lG:Stmt:=top 52
theorem oQ:aX ["_law_inner","_law_pieces","_law_orders_here","_law_land","_law_corners"] ["_law_inner","_law_pieces"] (aR lG):=scm
abbrev iE:Stmt:=top 53
theorem kW:aX ["_law_laid","_law_parting","_law_inner","_law_pieces","_law_between","_law_tie"] ["_law_laid","_law_parting"] (aR iE):=scm
abbrev y8:Stmt:=top 54
theorem AN:aX ["_law_script","_law_x","_law_y","_law_head","_law_corners","_law_steps","_law_k","_law_number","_law_room","_law_far"] ["_law_script"] (aR y8):=scm
abbrev uA:Stmt:=top 55
theorem xH:aX ["_law_script","_law_corners","_law_steps","_law_points","_law_others","_law_order","_law_ties","_law_x","_law_y","_law_here","_law_piece","_law_head","_law_far","_law_again","_law_ahead","_law_some","_law_made"] ["_law_script","_law_corners","_law_steps"] (aR uA):=scm
abbrev II:Stmt:=top 56
theorem IH:aX ["_law_script","_law_corners","_law_steps","_law_laid","_law_parting","_law_handed","_law_found"] ["_law_script"] (aR II):=scm
set_option genInjectivity false in
structure Adr where
 cA:Addr
 tp:Addr
 fA:Addr
 cM:Addr
 dW:Tok
 tF:Tok
 vZ:Addr
 vL:FuncData
 m7:Addr
 mZ:FuncData
 jZ:Addr
 jW:FuncData
 iO:Addr
 iL:FuncData
 j6:Addr
 jY:FuncData
 j5:Addr
 jX:FuncData
 sP:Addr
 sE:FuncData
 vX:Addr
 vJ:FuncData
 yR:Addr
 yC:FuncData
 B9:Addr
 BY:FuncData
 FP:Addr
 FG:FuncData
 sR:Addr
 sG:FuncData
 yQ:Addr
 yB:FuncData
 p8:Addr
 pT:FuncData
 wB:Addr
 vN:FuncData
 qB:Addr
 pW:FuncData
 sU:Addr
 sJ:FuncData
 iP:Addr
 iM:FuncData
 sQ:Addr
 sF:FuncData
 v9:Addr
 vM:FuncData
 qA:Addr
 pV:FuncData
 vY:Addr
 vK:FuncData
 p9:Addr
 pU:FuncData
 yP:Addr
 yA:FuncData
 m5:Addr
 mY:FuncData
 sO:Addr
 sD:FuncData
 gZ:Addr
 gX:FuncData
 iQ:Addr
 iN:FuncData
 sT:Addr
 sI:FuncData
 FR:Addr
 FI:FuncData
 wC:Addr
 vO:FuncData
 yM:Addr
 x6:FuncData
 yL:Addr
 x5:FuncData
 wH:Addr
 vR:FuncData
 yN:Addr
 x8:FuncData
 wF:Addr
 vP:FuncData
 yO:Addr
 x9:FuncData
 wG:Addr
 vQ:FuncData
 lZ:Addr
 lX:FuncData
 B7:Addr
 BW:FuncData
 sS:Addr
 sH:FuncData
 lY:Addr
 lW:FuncData
 FQ:Addr
 FH:FuncData
 B8:Addr
 BX:FuncData
 NZ:Addr
 NX:FuncData
structure Txt(K:PySem.W.Frag)(mg:Str->Option Value)(t:Adr):Prop where
 vF:Fn4 K mg "opposite" nG ["head"] t.vZ t.vL
 c9:Fn4 K mg "end_heading" jF ["heads","end"] t.m7 t.mZ
 jU:Fn4 K mg "quarters_right" fR ["head","onward"] t.jZ t.jW
 iI:Fn4 K mg "ties_name_places" eQ ["many","ties"] t.iO t.iL
 fX:Fn4 K mg "ends_at_places" fT ["many","ties"] t.j6 t.jY
 jV:Fn4 K mg "hangs_together" fS ["many","ties"] t.j5 t.jX
 gM:Fn4 K mg "other_end" lD ["end"] t.sP t.sE
 vE:Fn4 K mg "place_of" nE ["web","end"] t.vX t.vJ
 xZ:Fn4 K mg "goes_to" qO ["web","end"] t.yR t.yC
 pQ:Fn4 K mg "behind" uB ["web","end"] t.B9 t.BY
 pN:Fn4 K mg "lands" y6 ["web"] t.FP t.FG
 rY:Fn4 K mg "land_from" lF ["web","first"] t.sR t.sG
 xY:Fn4 K mg "is_flat" qN ["web"] t.yQ t.yB
 pM:Fn4 K mg "wanted_sum" kF ["number","outer"] t.p8 t.pT
 vG:Fn4 K mg "land_sum" nI ["land","corners","lefts"] t.wB t.vN
 pP:Fn4 K mg "check_laid" kI ["laid"] t.qB t.pW
 sC:Fn4 K mg "ends_part" lJ ["laid"] t.sU t.sJ
 iJ:Fn4 K mg "lands_turn_round" eS ["laid"] t.iP t.iM
 lU:Fn4 K mg "land_sums" lE ["laid"] t.sQ t.sF
 lT:Fn4 K mg "map_of" oT ["laid"] t.v9 t.vM
 kS:Fn4 K mg "corners_of" kH ["laid"] t.qA t.pV
 nV:Fn4 K mg "outer_of" nF ["laid"] t.vY t.vK
 pO:Fn4 K mg "is_parting" kG ["laid","parting"] t.p9 t.pU
 xX:Fn4 K mg "is_laid" qM ["laid"] t.yP t.yA
 mX:Fn4 K mg "pieces_lead" jE ["laid","parting"] t.m5 t.mY
 rX:Fn4 K mg "tie_leads" lC ["laid","tie","whole","numbers","between"] t.sO t.sD
 gW:Fn4 K mg "lands_are_oblongs" eK ["whole"] t.gZ t.gX
 iK:Fn4 K mg "frame_is_outside" eU ["parting"] t.iQ t.iN
 dS:Fn4 K mg "_law_cell_at" lI ["_law_script","_law_k"] t.sT t.sI
 kQ:Fn4 K mg "_law_mix" y9 ["_law_cell","_law_k"] t.FR t.FI
 vH:Fn4 K mg "_law_turned" nJ ["_law_number","_law_many"] t.wC t.vO
 mJ:Fn4 K mg "_law_other" qJ ["_law_end"] t.yM t.x6
 mI:Fn4 K mg "_law_place" qI ["_law_ties","_law_end"] t.yL t.x5
 kR:Fn4 K mg "_law_behind" nN ["_law_ties","_law_orders_here","_law_end"] t.wH t.vR
 rE:Fn4 K mg "_law_lands" qK ["_law_ties","_law_orders_here"] t.yN t.x8
 nW:Fn4 K mg "_law_orders" nK ["_law_laid"] t.wF t.vP
 xW:Fn4 K mg "_law_hangs" qL ["_law_laid"] t.yO t.x9
 nX:Fn4 K mg "_law_corner" nM ["_law_laid","_law_orders_here","_law_end"] t.wG t.vQ
 r8:Fn4 K mg "_law_is_laid" lH ["_law_laid"] t.lZ t.lX
 BN:Fn4 K mg "_law_path" t9 ["_law_laid","_law_inner","_law_some","_law_tie","_law_between"] t.B7 t.BW
 rZ:Fn4 K mg "_law_oblongs" lG ["_law_inner","_law_pieces"] t.sS t.sH
 lV:Fn4 K mg "_law_is_parting" iE ["_law_laid","_law_parting"] t.lY t.lW
 E8:Fn4 K mg "_law_row" y8 ["_law_script"] t.FQ t.FH
 BO:Fn4 K mg "_law_full" uA ["_law_script","_law_corners","_law_steps"] t.B8 t.BX
 R6:Fn4 K mg "law" II ["_law_script"] t.NZ t.NX
 HD:mg "all" = none
 N0:mg "bool" = none
 gG:mg "enumerate" = none
 NA:mg "int" = none
 yS:mg "isinstance" = none
 b7:mg "len" = none
 qE:mg "list" = none
 HC:mg "max" = none
 DZ:mg "min" = none
 bW:mg "range" = none
 M9:mg "set" = none
 fC:mg "sorted" = none
 HB:mg "sum" = none
 QU:mg "zip" = none
 bQ:mg "QUARTERS_ROUND" = some (.int 4 t.dW)
 mH:mg "FRAME" = some (.int (-2) t.tF)
 iZ:mg "BendError" = some (.ref t.fA)
 dQ:mg "NoLaid" = some (.ref t.cM)
 wN:PySem.W.excIn K t.cM [.type "ValueError",.type "Exception",.type "BaseException",.type "object"] "ValueError.__new__" = true
 KZ:L2.HA K t.cM t.fA
 KY:PySem.W.subIn K (.ref t.cM) (.type "ValueError")=some true
 tO:L2.HA K t.cM t.cM
 x_K:L2.SL K t.cM
 hG:mg "ValueError" = none
 FC:G9 K "map_of" "map_of" oT t.v9 t.vM t.cA
end K49
abbrev K49.lawK:Nat:=60
namespace L2
open PySem PyProof.Rows
def TsI(H:Hp)(a:Addr)(ts:AW.Ts):Prop:=∃tr:List Addr,H a=some (.lst (tr.map V.ref))/\tr.length=ts.length/\∀(i:Nat) t,ts[i]?=some t->∃r,tr[i]?=some r/\H r=some (.tup [.int t.1,.int t.2])
def OsI(H:Hp)(a:Addr)(os:AW.Os):Prop:=∃tr:List Addr,H a=some (.lst (tr.map V.ref))/\tr.length=os.length/\∀(i:Nat) l,os[i]?=some l->∃r,tr[i]?=some r/\H r=some (.lst (l.map V.int))
theorem TsI.same{H H':Hp}{a:Addr}{ts:AW.Ts}(h:TsI H a ts)(g:aW H H'):TsI H' a ts:=by
 obtain⟨tr,h1,h2,h3⟩:=h;exact⟨tr,g _ _ h1,h2,λi t e=>let⟨r,q1,q2⟩:=h3 i t e;⟨r,q1,g _ _ q2⟩⟩
theorem TsI.nth{H:Hp}{a:Addr}{ts:AW.Ts}{tr:List Addr}(h1:tr.length=ts.length)(h2:∀(i:Nat) t,ts[i]?=some t->∃r,tr[i]?=some r/\H r=some (.tup [.int t.1,.int t.2])){i:Nat}{x:V}(hx:(tr.map V.ref)[i]?=some x) :
  ∃t r,ts[i]?=some t/\x=.ref r/\H r=some (.tup [.int t.1,.int t.2]):=by
 rw[Zk]at hx;cases e:ts[i]? with
 |none =>
  have:tr[i]?=none:=Zr (by rw[h1];exact List.getElem?_eq_none_iff.mp e);rw[this]at hx;cases hx
 |some t =>
  obtain⟨r,q1,q2⟩:=h2 i t e;rw[q1]at hx;cases hx;exact⟨t,r,rfl,rfl,q2⟩
structure dU(H H':Hp)(r:Addr)(rr:List Addr)(ls:List (List V)):Prop where
 at_:H' r=some (.lst (rr.map V.ref))
 len:rr.length=ls.length
 row:∀(i:Nat) l,ls[i]?=some l->∃x,rr[i]?=some x/\H' x=some (.lst l)
 nd:rr.Nodup
 nin:r∉rr
 new:H r=none
 news:∀x∈rr,H x=none
theorem dU.keep{H H' H2:Hp}{r:Addr}{rr:List Addr}{ls:List (List V)}(n:dU H H' r rr ls)(g:aW H' H2):dU H H2 r rr ls :=
 ⟨g _ _ n.at_,n.len,λi l h=>let⟨x,h1,h2⟩:=n.row i l h;⟨x,h1,g _ _ h2⟩,n.nd,n.nin,n.new,n.news⟩
theorem aW.fresh{H H':Hp}(g:aW H H'){x:Addr}(hx:H x=none)(o:HO):aW H (upd H' x o):=λb u h=>by rw[aL (aP h hx)];exact g _ _ h
theorem dU.set{H0 H:Hp}{o x:Addr}{rr:List Addr}{ls:List (List V)}(n:dU H0 H o rr ls){p:Nat}{l:List V}(hx:rr[p]?=some x):dU H0 (upd H x (.lst l)) o rr (ls.set p l) where
 at_:=by rw[aL (show o≠x from λz=>n.nin (z▸Zg hx))];exact n.at_
 len:=by rw[List.length_set];exact n.len
 row:=λi m h=>by
  by_cases e:p=i
  ·subst e;have hp:p<ls.length:=n.len▸(Zj.mp hx).1;rw[List.getElem?_set_self hp]at h;cases h;exact⟨x,hx,aE⟩
  ·rw[List.getElem?_set_ne e]at h;obtain⟨y,h1,h2⟩:=n.row i m h;refine⟨y,h1,?_⟩;have ne:y≠x:=by
    rintro rfl;obtain⟨a1,b1⟩:=Zj.mp h1;obtain⟨a2,b2⟩:=Zj.mp hx;exact e ((List.getElem_inj n.nd).mp (b2.trans b1.symm))
   rw[aL ne];exact h2
 nd:=n.nd
 nin:=n.nin
 new:=n.new
 news:=n.news
theorem dU.os{H H':Hp}{r:Addr}{rr:List Addr}{os:AW.Os}(n:dU H H' r rr (os.map λl=>l.map V.int)):OsI H' r os :=
 ⟨rr,n.at_,by rw[n.len,Zq],λi l h=>n.row i _ (by rw[Zk,h];rfl)⟩
theorem iB{J:It}{js:List (Option Nat)}{σ:St}{H1:Hp}{R:Hp->Prop}{D:Addr}{g:TG}{te:TE}(n:Nat)(fs:Nat->List V)(hD:H1 D=none)(hn:n<=100000)
  (go:∀i H',i<n->aW H1 H'->J.go i H') (stop:∀H',aW H1 H'->J.stop n H')
  (hs:∀i H' x H'' (k:V->Hp->Prop),i<n->aW H1 H'->J.yld i H' x H''->(∀a H4,H' a=none->aW H' H4->H4 a=some (.lst (fs i))->k (.ref a) H4)->g x (inner js σ) H'' λσ2 H2=>Fills (inner js σ) σ2/\te σ2 H2 k)
  (hd:∀(rr:List Addr) H',dU H1 H' D rr ((List.range n).map fs)->aW H1 H'->R H') :
  ∃W:Nat->Nat->List V->Hp->Prop,(∃m,W 0 m [] (upd H1 D (.lst []))) /\
   ∀i m ys H,W i m ys H->(J.stop i H/\R H)\/(J.go i H/\∃N:List V->Hp->Prop,(∀ys' H',N ys' H'->∃m',m' < m/\W (i+1) m' ys' H')/\∀x H',J.yld i H x H'->g x (inner js σ) H' λσ2 H2=>Fills (inner js σ) σ2/\rO σ2 H2 λb H3 =>
    if b=true then te σ2 H3 λy H4=>H4 D=some (.lst ys)/\ys.length<ZW/\N (ys++[y]) (upd H4 D (.lst (ys++[y]))) else N ys H3):=by
 refine comp_map n (λi ys H'=>∃rr:List Addr,ys=rr.map V.ref/\dU H1 H' D rr ((List.range i).map fs)/\aW H1 H') ⟨[],rfl,⟨aE,rfl,λi l h=>by simp at h,List.nodup_nil,by simp,hD,by simp⟩,aG hD _⟩ ?_ ?_
 ·rintro i ys H' hi ⟨rr,rfl,w,g1⟩;have hl:rr.length=i:=by rw[w.len];simp
  refine⟨go i H' hi g1,λx H'' hy=>hs i H' x H'' _ hi g1 hy λa H4 ha g4 e4=>⟨g4 _ _ w.at_,?_,rr++[a],?_,?_,?_⟩⟩
  ·rw[Zq,hl];exact Yt hi (Yr hn (by decide))
  ·rw[Zt];rfl
  ·have aD:a≠D:=λz=>by rw[z,w.at_]at ha;cases ha
   have ain:a∉rr:=λz=>by
    obtain⟨j,hj,e⟩:=Yy.mp z;have hj':j<((List.range i).map fs).length:=w.len▸hj;obtain⟨y,h1,h2⟩:=w.row j _ (Zz hj');rw[Zz hj,e]at h1;cases h1;rw[ha]at h2;cases h2
   refine⟨by rw[Zt];exact aE,by simp[hl],λj l h=>?_,?_,?_,hD,?_⟩
   ·by_cases hj:j<i
    ·have e:((List.range (i+1)).map fs)[j]?=((List.range i).map fs)[j]?:=by simp[hj,YQ hj]
     rw[e]at h;obtain⟨y,h1,h2⟩:=w.row j l h;have yD:y≠D:=λz=>w.nin (z▸Zg h1);exact⟨y,by rw[Zx (by lia)];exact h1,by rw[aL yD];exact g4 _ _ h2⟩
    ·have hj2:j=i:=by
      have:=(Zj.mp h).1;simp at this;lia
     subst hj2;have e:l=fs j:=by simpa using h.symm
     subst e;exact⟨a,by rw[<-hl,Yx],by rw[aL aD];exact e4⟩
   ·rw[List.nodup_append];refine⟨w.nd,by simp,λb hb c hc z=>?_⟩;have e:c=a:=by simpa using hc
    subst e;subst z;exact ain hb
   ·intro z;rcases Zf.mp z with z | z
    ·exact w.nin z
    ·exact aD (Zb.mp z).symm
   ·intro y hy;rcases Zf.mp hy with z | z
    ·exact w.news y z
    ·rw[Zb.mp z];exact g1.free ha
  ·exact(g1.trans g4).fresh hD _
 ·rintro ys H' ⟨rr,rfl,w,g1⟩;exact⟨stop H' g1,hd rr H' w g1⟩
theorem dU.item{H0 H:Hp}{o:Addr}{rr:List Addr}{n:Nat}{f:Nat->List V}(w:dU H0 H o rr ((List.range n).map f)){p:Nat}(hp:p<n) :
  ∃x,rr[p]?=some x/\H x=some (.lst (f p))/\H0 x=none/\atI (rr.map V.ref) (p:Int)=some (.ref x):=by
 obtain⟨x,h1,h2⟩:=w.row p (f p) (by simp[hp]);exact⟨x,h1,h2,w.news x (Zg h1),eG (by rw[Zk,h1];rfl)⟩
theorem set_range{n p:Nat}{f:Nat->List V}{v:List V}:((List.range n).map f).set p v=(List.range n).map λi=>if i=p then v else f i:=by
 refine Yp λi=>?_;rw[List.getElem?_set];by_cases e:p=i
 ·subst e;by_cases h:p<n<;>simp[h]
 ·rw[if_neg e];by_cases h:i<n
  ·simp[h,Ne.symm e]
  ·simp[h]
theorem dU.put{H0 H:Hp}{o x:Addr}{rr:List Addr}{n p:Nat}{f:Nat->List V}(w:dU H0 H o rr ((List.range n).map f))(hx:rr[p]?=some x)(l:List V) :
  dU H0 (upd H x (.lst l)) o rr ((List.range n).map λi=>if i=p then l else f i):=by
 rw[<-set_range];exact w.set hx
theorem dU.other{H0 H:Hp}{o x:Addr}{rr:List Addr}{ls:List (List V)}(n:dU H0 H o rr ls)(h1:x≠o)(h2:x∉rr)(u:HO):dU H0 (upd H x u) o rr ls :=
 ⟨by rw[aL (Ne.symm h1)];exact n.at_,n.len,λi l h=>by
  obtain⟨y,a,b⟩:=n.row i l h;have ne:y≠x:=λz=>h2 (by rw[<-z];exact Zg a);exact⟨y,a,by rw[aL ne];exact b⟩,n.nd,n.nin,n.new,n.news⟩
theorem dU.notIn{H0 H:Hp}{o x:Addr}{rr:List Addr}{ls:List (List V)}(n:dU H0 H o rr ls)(hx:H x=none):x∉rr:=λz=>by
 obtain⟨i,hi,e⟩:=Yy.mp z;obtain⟨y,a,b⟩:=n.row i _ (Zz (n.len▸hi));rw[Zz hi,e]at a;cases a;rw[hx]at b;cases b
theorem SN{tt r:TS}{D:Ends}{σ:St}{H:Hp}(I:St->Hp->Prop)(ht:∀N:St->Hp->Prop,(∀σ' H',I σ' H'->N σ' H')->tt { D with nx:=N } σ H)(hr:∀σ' H',I σ' H'->r D σ' H'):OE tt r D σ H:=ht _ hr
end L2
namespace AW
def J0(m:Int)(ts:Ts):Bool:=ts.all λt=>(decide (0<=t.1)&&decide (t.1<m))&&(decide (0<=t.2)&&decide (t.2<m))
theorem JZ{m:Int}{ts:Ts}:J0 m ts=true↔InW m ts:=by
 unfold J0 InW;rw[List.all_eq_true];simp only[Xw,decide_eq_true_eq]
end AW
variable{P:PySem.Program}{w:PySem.World}{K:PySem.W.Frag}{mg:PySem.Str->Option PySem.Value}{base:PySem.Heap}{t:K49.Adr}
namespace K49
open PySem L2 PyProof.Rows
theorem ch0{σ:L2.St}{H:Hp}{Q:VK}{i j:Nat}{x m:Int}(h1:σ[i]?=some (some (.int x)))(h2:σ[j]?=some (some (.int m)))(q:Q (.bl (decide (0<=x)&&decide (x<m))) H) :
  CI (rI0 λi j=>V.bl (decide (i<=j))) (rI0 λi j=>V.bl (decide (i<j))) (tC (V.int 0)) (K2 i) (K2 j) σ H Q:=by
 refine⟨_,h1,_,_,rfl,rfl,_,rfl,?_⟩;by_cases c:(0:Int)<=x
 ·rw[if_pos (decide_eq_true c)];rw[decide_eq_true c,Bool.true_and]at q;exact⟨_,h2,_,_,rfl,rfl,q⟩
 ·rw[if_neg (by simpa using c)];rw[decide_eq_false c,Bool.false_and]at q;exact q
def Q8:Sp:=λvs H Q _=>∃(m:Int) (a:Addr) (ts:AW.Ts),vs=[.int m,.ref a]/\TsI H a ts/\ts.length<=1000/\∀H',aW H H'->Q (.bl (AW.J0 m ts)) H'
theorem PR(T:Txt K mg t):cJ P w K mg base CX0 1 t.iO t.iL ["many","ties"] Q8:=by
 refine T.iI.F.ok gQ (λvs H Q E h=>?_) (λcdv A outer s H vs Q E hr h=>?_)
 ·obtain⟨m,a,ts,rfl,_⟩:=h;rfl
 obtain⟨m,a,ts,rfl,⟨tr,e1,e2,e3⟩,hl,q⟩:=h;have nd:=gQ.nd;have nd_a_b_many:(["a","b","many"]:List Str).Nodup:=by decide
 refine⟨_,(aH (aU (aQ (rJ rfl) rfl T.HD boot_all (aA (cG (N':=["a","b","many"]) (js:=[none,none,some 0]) rfl (bJ (pv 1)) (λ_ _ _ _ _=>(pG (K:=K) (n:=2) rfl rfl (bB (aK (i:=0) nd_a_b_many rfl (Or.inl rfl)) (bB (aK (i:=1) nd_a_b_many rfl (Or.inl rfl)) cZ)))) (λ_ _ _ _ _=>b9) (λ_ _ _ _ _=>(uK (uI AY iF aC (pv 0) (pv 2)) (zC (uI AY iF aC (pv 1) (pv 2)))))) aB)))),?_⟩;refine(bO _ rfl a rfl ⟨_,SqL.of e1⟩ (λD hD=>?_))
 let fs:Nat->Bool:=λk=>(ts[k]?).any λt=>(decide (0<=t.1)&&decide (t.1<m))&&(decide (0<=t.2)&&decide (t.2<m))
 refine bS ts.length (λk=>.bl (fs k)) hD (by lia) (λi H' hi g2=>?_) (λH' g2=>⟨_,SqL.of (g2 _ _ e1),by rw[Zq];lia⟩) ?_ ?_
 ·obtain⟨r,q1,_⟩:=e3 i ts[i] (Zz hi);exact⟨_,.ref r,SqL.of (g2 _ _ e1),by rw[Zk,q1];rfl⟩
 ·rintro i H' x H'' k hi g2 ⟨rfl,hx⟩ hk;obtain⟨t,r,et,rfl,er⟩:=TsI.nth (a:=a) e2 e3 (hx _ (SqL.of (g2 _ _ e1)));have hf:fs i=((decide (0<=t.1)&&decide (t.1<m))&&(decide (0<=t.2)&&decide (t.2<m))):=by show(ts[i]?).any _=_;rw[et];rfl
  have hk0:=hk H'' (aW.refl _);rw[hf]at hk0;refine(aZ r _ rfl (SqT.of (g2 _ _ er)) rfl ?_);refine(cU _ _ rfl _ _ rfl rfl ⟨ ((Fills.refl _).set _ rfl).set _ rfl,?_⟩);refine ch0 (x:=t.1) (m:=m) rfl rfl ⟨_,rfl,?_⟩;by_cases c:(decide (0<=t.1)&&decide (t.1<m))=true
  ·rw[if_pos c];rw[c,Bool.true_and]at hk0;exact ch0 (x:=t.2) (m:=m) rfl rfl hk0
  ·rw[if_neg c];rw[Bool.eq_false_iff.mpr c,Bool.false_and]at hk0;exact hk0
 ·intro H' g2 hD';rw[show(List.range ts.length).map (λk=>V.bl (fs k))=((List.range ts.length).map fs).map V.bl by rw[Yh];rfl]at hD';refine⟨D,_,rfl,SqL.of hD',?_⟩;have e:((List.range ts.length).map fs).all id=AW.J0 m ts:=by
   unfold AW.J0;rw[Xx,List.all_eq_true,List.all_eq_true];constructor
   ·intro h x hx;obtain⟨i,hi,rfl⟩:=Yy.mp hx;have:=h (fs i) (Zh.mpr ⟨i,Zs.mpr hi,rfl⟩);have e:fs i=_:=(show(ts[i]?).any _=_ from by rw[Zz hi])
    rw[e]at this;exact this
   ·intro h b hb;obtain⟨i,hi,rfl⟩:=Zh.mp hb;have hi:=Zs.mp hi;have e:fs i=_:=(show(ts[i]?).any _=_ from by rw[Zz hi])
    rw[e];exact h _ (Zp hi)
  rw[e];exact q H' g2
def RF:Sp:=λvs H Q _=>∃(m:Nat) (a:Addr) (ts:AW.Ts),vs=[vn m,.ref a]/\TsI H a ts/\AW.InW m ts/\m<=45000/\ts.length<=45000 /\
 ∀(r:Addr) (H':Hp),aW H H'->OsI H' r ((List.range m).map λp:Nat=>AW.endsAt ts p)->Q (.ref r) H'
theorem JI(T:Txt K mg t):cJ P w K mg base CX0 1 t.j6 t.jY ["many","ties"] RF:=by
 refine T.fX.F.ok iV (λvs H Q E h=>?_) (λcdv A outer s H vs Q E hr h=>?_)
 ·obtain⟨m,a,ts,rfl,_⟩:=h;rfl
 obtain⟨m,a,ts,rfl,⟨tr,e1,e2,e3⟩,hw,hm,hl,q⟩:=h;have nd:=iV.nd;have nd_place:(["place"]:List Str).Nodup:=by decide
 refine⟨_,(aF (bU (i:=2) nd rfl (Or.inl rfl)  (N':=["place"]) (js:=[none]) rfl (bH rfl T.bW (aA (pv 0) aB)) (λ_ _ _ _ _=>(aK (i:=0) nd_place rfl (Or.inl rfl))) (λ_ _ _ _ _=>b9) (λ_ _ _ _ _=>(bN aB)))
  (aF (cQ PassesOwn.never rfl (oX rfl T.gG (aA (pv 1) aB)) (fU rfl (bB (aK (i:=3) nd rfl (Or.inl rfl)) (bB (aK (i:=4) nd rfl (Or.inl rfl)) cZ))) (aF (cF (jQ mAp bP (aJ bA (pv 2) (aJ aT (pv 4) aC (λ_ _=>rfl)) (λ_ _=>rfl)) (aA (aO cX aC (pv 3)) aB)))
  (aH (cF (jQ mAp bP (aJ bA (pv 2) (aJ aT (pv 4) aC (λ_ _=>rfl)) (λ_ _=>rfl)) (aA (aO bV (aO cX aC (pv 3)) aC) aB))))))
  (aH (aU (pv 2))))),?_⟩
 refine(j9 _ rfl (m:Int) rfl (by lia) (by lia) (λD hD=>?_));refine iB m (λ_=>[]) hD (by lia) (λi H' hi g2=>?_) (λH' g2=>?_) ?_ ?_
 ·show i<((m:Int)-0).toNat;lia
 ·show((m:Int)-0).toNat<=m;lia
 ·rintro i H' x H'' k hi g2 hy hk;obtain⟨e,y⟩:=hy;subst e;exact⟨(Fills.refl _).set _ rfl,(by show 0<=ZW;decide),λl hl'=>hk l _ hl' (aG hl' _) aE⟩
 ·intro rr H1 w1 g1
  let F:Nat->Nat->List V:=λk p=>(AW.endsAt (ts.take k) p).map V.int
  refine(bO _ rfl a rfl ⟨_,SqL.of (g1 _ _ e1)⟩ (pL (K:=K) (a:=a) (xs:=tr.map V.ref) (λk σ H'=>(∃v3 v4,σ=[some (vn m),some (.ref a),some (.ref D),v3,v4])/\dU H H' D rr ((List.range m).map (F k))/\aW H H') ⟨⟨_,_,rfl⟩,?_,g1⟩ ?_ ?_ ?_))
  ·have e:F 0=λ_=>[]:=by funext p;show(AW.endsAt (ts.take 0) p).map V.int=[];rw[List.take_zero];rfl
   rw[e];exact w1
  ·rintro i σ H' hi ⟨_,_,g2⟩;exact SqL.of (g2 _ _ e1)
  ·rintro i x σ H' Tp hx ⟨⟨v3,v4,rfl⟩,w2,g2⟩ hTp;obtain⟨⟨u,v⟩,r,et,rfl,er⟩:=TsI.nth (a:=a) e2 e3 hx;obtain⟨⟨u0,u1⟩,v0,v1⟩:=hw _ (Zg et);obtain⟨p1,rfl⟩:=Xv u0;obtain⟨p2,rfl⟩:=Xv v0;have u1:p1<m:=Int.ofNat_lt.mp u1;have v1:p2<m:=Int.ofNat_lt.mp v1;have hi:i<ts.length:=(Zj.mp et).1;have g3:=g2.trans (aG hTp (.tup [vn i,.ref r]));have w3:=w2.keep (aG hTp (.tup [vn i,.ref r]));have small:∀(k p:Nat),(F k p).length<ZW:=λk p=>by
    show((AW.endsAt (ts.take k) p).map V.int).length<ZW;have h1:(AW.endsAt (ts.take k) p).length<=(AW.all2 (ts.take k)).length:=List.length_filter_le ..;have h2:(AW.all2 (ts.take k)).length<=90000:=by unfold AW.all2;rw[Zq,Yj,Yw];lia
    rw[Zq];exact Ys (Yr h1 h2) (by decide)
   refine(aZ Tp _ rfl (SqT.of aE) rfl (cU _ _ rfl _ _ rfl rfl ?_));obtain⟨x1,a1,b1,c1,d1⟩:=w3.item u1;refine⟨_,rfl,(aI _ rfl r _ _ _ rfl ⟨ rfl,(fH (SqT.of (g3 _ _ er)) rfl D _ _ _ rfl (hV rfl (SqL.of w3.at_) d1 (.inl ⟨rfl,_,SqL.of b1⟩) _ rfl (aZ _ _ rfl rfl (.inl ⟨by decide,by decide⟩) (bG x1 _ _ rfl rfl b1 (small i p1) ?_))))⟩)⟩;have w4:=w3.put a1 (F i p1++[V.int (2*(i:Int))]);have g4:=g3.fresh c1 (.lst (F i p1++[V.int (2*(i:Int))]));obtain⟨x2,a2,b2,c2,d2⟩:=w4.item v1;refine⟨_,rfl,(aI _ rfl r _ _ _ rfl ⟨ rfl,(fH (SqT.of (g4 _ _ er)) rfl D _ _ _ rfl (hV rfl (SqL.of w4.at_) d2 (.inl ⟨rfl,_,SqL.of b2⟩) _ rfl (aZ _ _ rfl rfl (.inl ⟨by decide,by decide⟩) ⟨ _,(jL _ rfl rfl x2 _ _ rfl (gO rfl b2 ?_ ⟨_,_,rfl⟩ ?_ (g4.fresh c2 _)))⟩)))⟩)⟩
   ·show(if p2=p1 then F i p1++[V.int (2*(i:Int))] else F i p2).length<ZW;have h1:=small i p1;have h2:=small i p2;split
    ·rw[Zm];have h3:(AW.endsAt (ts.take i) p1).length<=(AW.all2 (ts.take i)).length:=List.length_filter_le ..;have h4:(AW.all2 (ts.take i)).length<=90000:=by unfold AW.all2;rw[Zq,Yj,Yw];lia
     have h5:(F i p1).length=(AW.endsAt (ts.take i) p1).length:=Zq ..;exact Ys (show _<=90001 by rw[h5];simp;lia) (by decide)
    ·exact h2
   ·have w5:=w4.put a2 ((if p2=p1 then F i p1++[V.int (2*(i:Int))] else F i p2)++[V.int (2*(i:Int)+1)]);have e:(λj=>if j=p2 then (if p2=p1 then F i p1++[V.int (2*(i:Int))] else F i p2)++[V.int (2*(i:Int)+1)] else if j=p1 then F i p1++[V.int (2*(i:Int))] else F i j)=F (i+1):=by
     funext j
     have ht:ts.take (i+1)=ts.take i++[((p1:Int),(p2:Int))]:=by rw[List.take_add_one,et];rfl
     have hlt:(ts.take i).length=i:=by rw[Yw];lia
     show _=(AW.endsAt (ts.take (i+1)) j).map V.int;rw[ht,AW.BP,hlt,Zt,Zt];have c1:((p1:Int)=(j:Int))↔(j=p1):=by lia
     have c2:((p2:Int)=(j:Int))↔(j=p2):=by lia
     simp only[c1,c2];by_cases k2:j=p2
     ·subst k2;by_cases k1:j=p1
      ·subst k1;simp[F]
      ·simp[F,k1]
     ·by_cases k1:j=p1
      ·subst k1;simp[F,k2]
      ·simp[F,k1,k2]
    rw[e]at w5;exact w5
  ·rintro σ H' ⟨⟨v3,v4,rfl⟩,w2,g2⟩;refine⟨_,rfl,q D H' g2 ?_⟩;have e:F (tr.map V.ref).length=λp:Nat=>(AW.endsAt ts p).map V.int:=by funext p;show(AW.endsAt (ts.take _) p).map V.int=_;rw[Zq,e2,Yv]
   rw[e]at w2;refine dU.os (rr:=rr) (H:=H) ?_;rw[Yh];exact w2
def OP:Sp:=λvs H Q _=>∃(m:Nat) (a:Addr) (ts:AW.Ts),vs=[vn m,.ref a]/\TsI H a ts/\AW.InW m ts/\0<m/\m<=1000/\ts.length<=1000 /\
 ∀(b:Bool) (H':Hp),aW H H'->(b=true↔AW.nA m ts)->Q (.bl b) H'
def KU(H:Hp)(m:Nat)(ts:AW.Ts)(D rA wA:Addr)(rr:List Addr)(R:List Bool)(W:List Int)(H':Hp):Prop :=
 dU H H' D rr ((List.range m).map λp:Nat=>(AW.nbs ts p).map V.int)/\H' rA=some (.lst (R.map V.bl))/\H' wA=some (.lst (W.map V.int))/\aW H H'
theorem EN(ts:AW.Ts)(p:Int):(AW.nbs ts p).length<=2*ts.length:=by
 induction ts with
 |nil=>exact Nat.le_refl _
 |cons t ts ih =>
  unfold AW.nbs AW.nb at ih ⊢;rw[List.flatMap_cons,Zm,Yq,Zm];have h1:(if t.1=p then [t.2] else []).length<=1:=by split<;>simp
  have h2:(if t.2=p then [t.1] else []).length<=1:=by split<;>simp
  lia
theorem MG(T:Txt K mg t):cJ P w K mg base CX0 1 t.j5 t.jX ["many","ties"] OP:=by
 refine T.jV.F.ok iU (λvs H Q E h=>?_) (λcdv A outer s H vs Q E hr h=>?_)
 ·obtain⟨m,a,ts,rfl,_⟩:=h;rfl
 obtain⟨m,a,ts,rfl,⟨tr,e1,e2,e3⟩,hw,hm0,hm,hl,q⟩:=h;have nd:=iU.nd;have nd_place:(["place"]:List Str).Nodup:=by decide
 refine⟨_,(aF (bU (i:=2) nd rfl (Or.inl rfl)  (N':=["place"]) (js:=[none]) rfl (bH rfl T.bW (aA (pv 0) aB)) (λ_ _ _ _ _=>(aK (i:=0) nd_place rfl (Or.inl rfl))) (λ_ _ _ _ _=>b9) (λ_ _ _ _ _=>(bN aB)))
  (aF (cQ PassesOwn.never rfl (bJ (pv 1)) (fU rfl (bB (aK (i:=3) nd rfl (Or.inl rfl)) (bB (aK (i:=4) nd rfl (Or.inl rfl)) cZ))) (aF (cF (jQ mAp bP (aJ bA (pv 2) (pv 3) (λ_ _=>rfl)) (aA (pv 4) aB)))
  (aH (cF (jQ mAp bP (aJ bA (pv 2) (pv 4) (λ_ _=>rfl)) (aA (pv 3) aB))))))
  (aF (bU (i:=5) nd rfl (Or.inl rfl)  (N':=["place"]) (js:=[none]) rfl (bH rfl T.bW (aA (pv 0) aB)) (λ_ _ _ _ _=>(aK (i:=0) nd_place rfl (Or.inl rfl))) (λ_ _ _ _ _=>b9) (λ_ _ _ _ _=>(dZ gJ (pv 0) aC (a7 _))))
  (aF (bC 6 nd (bN (aA aC aB)))
  (aF (jO PassesOwn.never (cP (pv 6) (λ_=>rfl)) (aF (bC 7 nd (JC PySem.F.plainAttrs_list PySem.F.slot_list_pop PySem.F.type_list_pop JM (pv 6)))
  (aH (cQ PassesOwn.never rfl (bJ (aJ bA (pv 2) (pv 7) (λ_ _=>rfl))) (aK (i:=8) nd rfl (Or.inl rfl)) (aH (b8 (eM (cP (aJ bA (pv 5) (pv 8) (λ_ _=>rfl)) (λ_=>rfl))) (aF (qR cO (CZ (pv 5) (pv 8) set_list))
  (aH (cF (jQ mAp bP (pv 6) (aA (pv 8) aB))))) bD))))))
  (aH (aU (aQ (rJ rfl) rfl T.HD boot_all (aA (pv 5) aB))))))))),?_⟩
 refine(j9 _ rfl (m:Int) rfl (by lia) (by lia) (λD hD=>?_));refine iB m (λ_=>[]) hD (by lia) (λi H' hi g2=>?_) (λH' g2=>?_) ?_ ?_
 ·show i<((m:Int)-0).toNat;lia
 ·show((m:Int)-0).toNat<=m;lia
 ·rintro i H' x H'' k hi g2 ⟨e,y⟩ hk;subst e;exact⟨(Fills.refl _).set _ rfl,(by show 0<=ZW;decide),λl hl'=>hk l _ hl' (aG hl' _) aE⟩
 intro rr H1 w1 g1
 let F:Nat->Nat->List V:=λk p=>(AW.nbs (ts.take k) p).map V.int
 have small:∀(k p:Nat),(F k p).length<=2000:=λk p=>by
  show((AW.nbs (ts.take k) p).map V.int).length<=2000;have h1:=EN (ts.take k) p;rw[Yw]at h1;rw[Zq];lia
 refine(bO _ rfl a rfl ⟨_,SqL.of (g1 _ _ e1)⟩ (fI (K:=K) (a:=a) (xs:=tr.map V.ref) (λk σ H'=>(∃v3 v4,σ=[some (vn m),some (.ref a),some (.ref D),v3,v4,none,none,none,none])/\dU H H' D rr ((List.range m).map (F k))/\aW H H') ⟨⟨_,_,rfl⟩,?_,g1⟩ ?_ ?_ ?_))
 ·have e:F 0=λ_=>[]:=by funext p;show(AW.nbs (ts.take 0) p).map V.int=[];rw[List.take_zero];rfl
  rw[e];exact w1
 ·rintro i σ H' hi ⟨_,_,g2⟩;exact SqL.of (g2 _ _ e1)
 ·rintro i x σ H' hx ⟨⟨v3,v4,rfl⟩,w2,g2⟩;obtain⟨⟨u,v⟩,r,et,rfl,er⟩:=TsI.nth (a:=a) e2 e3 hx;obtain⟨⟨u0,u1⟩,v0,v1⟩:=hw _ (Zg et);obtain⟨p1,rfl⟩:=Xv u0;obtain⟨p2,rfl⟩:=Xv v0;have u1:p1<m:=Int.ofNat_lt.mp u1;have v1:p2<m:=Int.ofNat_lt.mp v1;refine(aZ r _ rfl (SqT.of (g2 _ _ er)) rfl (cU _ _ rfl _ _ rfl rfl ?_));obtain⟨x1,a1,b1,c1,d1⟩:=w2.item u1;refine⟨_,rfl,(aI _ rfl D _ _ _ rfl (hV rfl (SqL.of w2.at_) d1 (.inl ⟨rfl,_,SqL.of b1⟩) _ rfl (bG x1 _ _ rfl rfl b1 (Ys (small i p1) (by decide)) ?_)))⟩;have w4:=w2.put a1 (F i p1++[V.int (p2:Int)]);have g4:=g2.fresh c1 (.lst (F i p1++[V.int (p2:Int)]));obtain⟨x2,a2,b2,c2,d2⟩:=w4.item v1;refine⟨_,rfl,(aI _ rfl D _ _ _ rfl (hV rfl (SqL.of w4.at_) d2 (.inl ⟨rfl,_,SqL.of b2⟩) _ rfl (bG x2 _ _ rfl rfl b2 ?_ ⟨ ⟨_,_,rfl⟩,?_,g4.fresh c2 _⟩)))⟩
  ·show(if p2=p1 then F i p1++[V.int (p2:Int)] else F i p2).length<ZW;have h1:=small i p1;have h2:=small i p2;refine Ys (show _<=2001 from ?_) (by decide);split
   ·rw[Zm];simp;lia
   ·lia
  ·have w5:=w4.put a2 ((if p2=p1 then F i p1++[V.int (p2:Int)] else F i p2)++[V.int (p1:Int)]);have e:(λj=>if j=p2 then (if p2=p1 then F i p1++[V.int (p2:Int)] else F i p2)++[V.int (p1:Int)] else if j=p1 then F i p1++[V.int (p2:Int)] else F i j)=F (i+1):=by
    funext j
    have ht:ts.take (i+1)=ts.take i++[((p1:Int),(p2:Int))]:=by rw[List.take_add_one,et];rfl
    show _=(AW.nbs (ts.take (i+1)) j).map V.int;rw[ht,AW.A5,Zt];unfold AW.nb;have c1:((p1:Int)=(j:Int))↔(j=p1):=by lia
    have c2:((p2:Int)=(j:Int))↔(j=p2):=by lia
    simp only[c1,c2];by_cases k2:j=p2
    ·subst k2;by_cases k1:j=p1
     ·subst k1;simp[F]
     ·simp[F,k1]
    ·by_cases k1:j=p1
     ·subst k1;simp[F,k2]
     ·simp[F,k1,k2]
   rw[e]at w5;exact w5
 rintro σ H2 ⟨⟨v3,v4,rfl⟩,w2,g2⟩;have eF:F (tr.map V.ref).length=λp:Nat=>(AW.nbs ts p).map V.int:=by funext p;show(AW.nbs (ts.take _) p).map V.int=_;rw[Zq,e2,Yv]
 rw[eF]at w2;refine(j9 _ rfl (m:Int) rfl (by lia) (by lia) (λrA hrA=>?_));refine bS m (λp=>.bl (decide ((V.int (0+(p:Int)))=V.int 0))) hrA (by lia) (λi H' hi g3=>?_) (λH' g3=>?_) ?_ ?_
 ·show i<((m:Int)-0).toNat;lia
 ·show((m:Int)-0).toNat<=m;lia
 ·rintro i H' x H'' k hi g3 ⟨e,y⟩ hk;subst e;subst y;exact⟨(Fills.refl _).set _ rfl,_,rfl,rfl,hk _ (aW.refl _)⟩
 intro H3 g3 eR;have eR0:(List.range m).map (λp:Nat=>V.bl (decide ((V.int (0+(p:Int)))=V.int 0)))=((List.range m).map λp=>decide (p=0)).map V.bl:=by
  rw[Yh];refine Yn λp _=>?_;show V.bl (decide _)=V.bl (decide (p=0));have hp:(V.int (0+(p:Int))=V.int 0)↔p=0:=⟨λz=>by have:=V.int.inj z;lia,λz=>by rw[z];rfl⟩
  simp only[hp]
 rw[eR0]at eR;refine⟨(by show 1<=ZW;decide),λwA hwA=>?_⟩;have w3:=w2.keep g3;have g23:=g2.trans g3;have rD:rA≠D:=λz=>by rw[z,w2.at_]at hrA;cases hrA
 have rin:rA∉rr:=w2.notIn hrA;have wD:wA≠D:=λz=>by rw[z,w3.at_]at hwA;cases hwA
 have win:wA∉rr:=w3.notIn hwA;have wr:wA≠rA:=λz=>by rw[z,eR]at hwA;cases hwA
 have r0:H rA=none:=g2.free hrA;have w0:H wA=none:=g23.free hwA;refine⟨λM σ H'=>∃R W v3 v4 v7 v8,(M=2*AW.iH R+W.length/\M<=2001)/\σ=[some (vn m),some (.ref a),some (.ref D),v3,v4,some (.ref rA),some (.ref wA),v7,v8]/\KU H m ts D rA wA rr R W H'/\AW.zU m ts R W,
  (cB _ _ _ _ _ _ _ ⟨ ⟨rfl,?bnd⟩,rfl,⟨w3.other wD win _,by rw[aL (Ne.symm wr)];exact eR,by exact aE,g23.fresh w0 _⟩,AW.zU.start hm0⟩),?_⟩
 case bnd =>
  have h1:AW.iH ((List.range m).map λp=>decide (p=0))<=m:=by
   unfold AW.iH;exact Yr (List.length_filter_le ..) (by simp)
  show _+1<=2001
  lia
 rintro M σ H' ⟨R,W,v3,v4,v7,v8,⟨rfl,hB⟩,rfl,⟨w4,hR,hW,g4⟩,hS⟩;refine⟨_,rfl,_,.inl ⟨_,SqL.of hW,rfl⟩,?_⟩;rcases List.eq_nil_or_concat W with rfl | ⟨W0,pz,rfl⟩
 ·refine mP (bF _ rfl rA R rfl (SqL.of hR) (q _ H' g4 (hS.done hw)))
 rw[List.concat_eq_append]at *;obtain⟨p0,rfl,hp0⟩:=hS.win pz (by simp);have hpm:p0<m:=by rw[<-hS.len];exact(Zj.mp hp0).1
 have eW:(W0++[(p0:Int)]).map V.int=W0.map V.int++[vn p0]:=by rw[Zt];rfl
 rw[eW];rw[show(!(W0.map V.int++[vn p0]).isEmpty)=true by simp];refine iS ⟨λσ' H''=>∃R' W' v3 v4 v7 v8,2*AW.iH R'+W'.length<2*AW.iH R+(W0++[(p0:Int)]).length/\σ'=[some (vn m),some (.ref a),some (.ref D),v3,v4,some (.ref rA),some (.ref wA),v7,v8]/\KU H m ts D rA wA rr R' W' H''/\AW.zU m ts R' W',?_,?_⟩
 ·rintro σ' H'' ⟨R',W',v3,v4,v7,v8,hM,rfl,hI,hS'⟩;exact⟨_,hM,(bE R' W' _ _ _ _ ⟨rfl,by lia⟩ ⟨ rfl,hI,hS'⟩)⟩
 rw[eW]at hW;refine(jL _ rfl (.inl ⟨rfl,_,SqL.of hW⟩) wA _ (vn p0) rfl ⟨ rfl,hW,by rw[Zm];simp,?_⟩);rw[List.dropLast_concat];have w5:=w4.other wD win (.lst (W0.map V.int));have g5:=g4.fresh w0 (.lst (W0.map V.int));obtain⟨x1,a1,b1,c1,d1⟩:=w5.item hpm;have hlen:(W0++[(p0:Int)]).length=W0.length+1:=by simp
 rw[hlen];refine⟨_,rfl,(aI _ rfl D _ _ _ rfl (kC rfl (SqL.of w5.at_) d1 x1 rfl ⟨_,SqL.of b1⟩ (fI (K:=K) (a:=x1) (xs:=(AW.nbs ts p0).map V.int) (λk σ H''=>∃R' W' v8,2*AW.iH R'+W'.length<2*AW.iH R+(W0.length+1) /\
  σ=[some (vn m),some (.ref a),some (.ref D),v3,v4,some (.ref rA),some (.ref wA),some (vn p0),v8]/\KU H m ts D rA wA rr R' W' H''/\AW.l5 m ts R' W' p0 k) (oF R W0 _ (by lia) rfl ⟨w5,by rw[aL (Ne.symm wr)];exact hR,aE,g5⟩ (.start hS)) ?_ ?_ ?_)))⟩
 ·rintro i σ H'' hi ⟨R',W',v8,_,_,⟨w6,_⟩,_⟩;obtain⟨x2,a2,b2,_⟩:=w6.item hpm;rw[a1]at a2;cases a2;exact SqL.of b2
 ·rintro i x σ H'' hx ⟨R',W',v8,hM,rfl,⟨w6,hR',hW',g6⟩,hI⟩;rw[Zk]at hx;cases eq':(AW.nbs ts p0)[i]? with
  |none=>rw[eq']at hx;cases hx
  |some qz =>
   rw[eq']at hx;cases hx;obtain⟨q0,q1⟩:=AW.C8 hw (Zg eq');obtain⟨qn,rfl⟩:=Xv q0;have q1:qn<m:=Int.ofNat_lt.mp q1;have hql:qn<R'.length:=by rw[hI.len];exact q1
   have eb:R'[qn]?=some R'[qn]:=Zz hql;refine⟨_,rfl,(aI _ rfl rA _ _ (.bl R'[qn]) rfl (bZ rfl (SqL.of hR') (eG (by rw[Zk,eb];rfl)) (R'[qn]) rfl ?_))⟩;cases hb:R'[qn]with
   |true =>
    refine mP (oF R' W' _ hM rfl ⟨w6,hR',hW',g6⟩ (hI.skip eq' ?_));rw[show((qn:Int)).toNat=qn from rfl,eb,hb]
   |false =>
    rw[hb]at eb;have hset:(R'.map V.bl).set qn (.bl true)=(R'.set qn true).map V.bl:=by rw[List.map_set]
    have hf:=AW.vD eb;refine iS ⟨_,rfl,(aI _ rfl rA _ _ qn rfl ⟨ rfl,hR',?_,?_⟩)⟩
    ·exact P6 (by rw[Zq];exact hql) rfl
    rw[hset];refine(fQ _ rfl (.inl ⟨rfl,_,SqL.of (by rw[aL wr];exact hW')⟩) _ rfl (bG wA _ _ rfl rfl (by rw[aL wr];exact hW') ?_ ?_))
    ·rw[Zq];exact Ys (show _<=2001 by rw[hlen]at hB;lia) (by decide)
    refine(oF (R'.set qn true) (W'++[(qn:Int)]) _ ?_ rfl ⟨(w6.other rD rin _).other wD win _,?_,?_,(g6.fresh r0 _).fresh w0 _⟩ (hI.reach eq' q1))
    ·rw[Zm];simp;lia
    ·rw[aL (Ne.symm wr)];exact aE
    ·rw[Zt];exact aE
 ·rintro σ H'' ⟨R',W',v8,hM,rfl,hI,hS'⟩;exact(bE R' W' _ _ _ _ (by simpa using hM) ⟨ rfl,hI,hS'.finish (by rw[Zq];exact Nat.le_refl _)⟩)
def OU(K:PySem.W.Frag):Sp:=λvs H Q _=>∃(a:Addr) (ns:List Int) (k:Int),vs=[.ref a,.int k]/\SqL K H a (ns.map V.int)/\0<=k/\∀c:Int,Q (.int c) H
theorem QK{ns:List Int}{k:Int}(h0:0<=k)(h:k<(ns.length:Int)):∃v:Int,atI (ns.map V.int) k=some (.int v):=by
 have hk:k.toNat<ns.length:=by lia
 have ek:k=((k.toNat:Nat):Int):=by lia
 have q:atI (ns.map V.int) ((k.toNat:Nat):Int)=some (.int ns[k.toNat]):=eG (by rw[Zk,Zz hk]<;>rfl);rw[<-ek]at q;exact⟨_,q⟩
theorem mE(T:Txt K mg t):cJ P w K mg base CX0 1 t.sT t.sI ["_law_script","_law_k"] (OU K):=by
 refine T.dS.F.ok y4 (λvs H Q E h=>?_) (λcdv A outer s H vs Q E hr h=>?_)
 ·obtain⟨a,ns,k,rfl,_⟩:=h;rfl
 obtain⟨a,ns,k,rfl,hS,h0,q⟩:=h;refine⟨_,(aF (b8 (aV iF (pv 1) (aQ aN rfl T.b7 PySem.boot_len (aA (pv 0) aB)) (a7 _)) (aH (aU (aJ bA (pv 0) (pv 1) (λ_ _=>rfl)))) bD)
  (aH (aU aC))),?_⟩
 refine(bR _ rfl _ rfl a _ rfl (jN (.inl hS) _ _ rfl rfl _ rfl ?_));refine eV (λc=>?_) (λc=>?_)
 ·have c':k<(((ns.map V.int).length:Nat):Int):=of_decide_eq_true c;rw[Zq]at c';obtain⟨v,hv⟩:=QK h0 c';exact⟨_,rfl,(aI _ rfl a _ _ _ rfl ⟨ rfl,hS,hv,q v⟩)⟩
 ·exact q 0
def RD:Sp:=λvs H Q _=>∃c k:Int,vs=[.int c,.int k]/\0<=k/\k<=1000/\∀m:Int,0<=m->m<1000000000->Q (.int m) H
theorem qU(T:Txt K mg t):cJ P w K mg base CX0 1 t.FR t.FI ["_law_cell","_law_k"] RD:=by
 refine T.kQ.F.ok AO (λvs H Q E h=>?_) (λcdv A outer s H vs Q E hr h=>?_)
 ·obtain⟨a,k,rfl,_⟩:=h;rfl
 obtain⟨c,k,rfl,h0,h1,q⟩:=h;have nd:=AO.nd;refine⟨_,(aF (b8 (aV AZ (pv 0) (aO C2 aC aC) (a7 _)) (aF (cQ PassesOwn.never rfl (bH rfl T.bW (aA (pv 1) aB)) (aK (i:=2) nd rfl (Or.inl rfl)) (aH (bC 0 nd (aO dN (pv 0) (aO C2 aC aC)))))
  (aH (aU (aO cI (pv 0) (aO C2 aC aC))))) bD)
  (aF (bC 3 nd (aO cI (aO cX (aO bV (aO bV (aO cI (pv 0) aC) (aO cX (aO cX (pv 1) (pv 1)) aC)) (pv 1)) aC) aC))
  (aF (bC 3 nd (aO cI (aO cX (pv 3) (pv 3)) aC))
  (aH (aU (aO dN (aO cI (aO cX (pv 3) (aO bV (pv 3) aC)) aC) aC)))))),?_⟩
 have p18:QR 10 18:=⟨by decide,by decide,by decide⟩
 have p6:QR 10 6:=⟨by decide,by decide,by decide⟩
 refine(bM _ rfl _ _ rfl rfl p18 (j8 _ _ rfl rfl _ rfl ?_));refine eV (λ_=>?_) (λ_=>?_)
 ·refine(j9 _ rfl k rfl (by lia) (by lia) (dJ (lo:=0) (n:=k.toNat) (λ_ σ H'=>H'=H/\∃(c':Int) (o:Option V),σ=[some (.int c'),some (.int k),o,none]) ⟨rfl,c,none,rfl⟩ ?_ ?_))
  ·rintro i σ H' hi ⟨rfl,c',o,rfl⟩;exact(bM _ rfl _ _ rfl rfl p6 (cE _ _ rfl rfl ⟨by decide,by decide⟩ rfl ⟨ _,_,rfl⟩))
  ·rintro σ H' ⟨rfl,c',o,rfl⟩;refine(bM _ rfl _ _ rfl rfl p6 (aZ _ _ rfl rfl (by show(0:Int)<10 ^ 6;decide) (q _ (Xj _ (by decide)) ?_)));exact Int.lt_trans (Xk _ (by decide)) (by decide)
 ·refine(bM _ rfl _ _ rfl rfl (by show(0:Int)<1000003;decide) (bR _ rfl _ rfl _ _ rfl (tR rfl (.inl ⟨by lia,by lia⟩) _ _ rfl rfl (.inr ⟨by decide,by decide⟩) (j8 _ _ rfl rfl _ rfl (dH _ _ rfl rfl _ _ rfl (tR rfl (.inr ⟨by decide,by decide⟩) _ _ rfl rfl (by show(0:Int)<2147483629;decide) ?_))))));have b1:∀x:Int,0<=x%2147483629/\x%2147483629<2147483629:=λx=>⟨Xj _ (by decide),Xk _ (by decide)⟩
  have b2:∀x:Int,0<=x%2147483587/\x%2147483587<2147483587:=λx=>⟨Xj _ (by decide),Xk _ (by decide)⟩
  have b3:∀x:Int,0<=x%2147483579/\x%2147483579<2147483579:=λx=>⟨Xj _ (by decide),Xk _ (by decide)⟩
  generalize hn1:((c%1000003+k*k*7919+k)*48271%2147483629:Int)=n1;have r1:=b1 ((c%1000003+k*k*7919+k)*48271);rw[hn1]at r1;refine(bR _ rfl _ rfl _ _ rfl (tR rfl (.inl ⟨by lia,by lia⟩) _ _ rfl rfl (by show(0:Int)<2147483587;decide) ?_));have r2:=b2 (n1*n1);generalize n1*n1%2147483587=n2 at r2 ⊢;refine(bR _ rfl _ rfl _ _ rfl (tD rfl _ _ rfl rfl (.inl ⟨by lia,by lia⟩) (aZ _ _ rfl rfl (by show(0:Int)<2147483579;decide) (aZ _ _ rfl rfl ⟨by decide,by decide⟩ ?_))));have r3:=b3 (n2*(n2+2));generalize n2*(n2+2)%2147483579=n3 at r3 ⊢;exact q _ (by lia) (by lia)
def NL:Sp:=λvs H Q _=>∃e:Nat,vs=[vn e]/\Q (vn (MM.oth e)) H
theorem qW(T:Txt K mg t):cJ P w K mg base CX0 1 t.yM t.x6 ["_law_end"] NL:=by
 refine T.mJ.F.ok CN (λvs H Q E h=>?_) (λcdv A outer s H vs Q E hr h=>?_)
 ·obtain⟨e,rfl,_⟩:=h;rfl
 obtain⟨e,rfl,q⟩:=h;refine⟨_,(aH (aU (aO dB (aO bV (pv 0) aC) (aO cX aC (aO cI (pv 0) aC))))),?_⟩;refine(bF _ rfl _ _ rfl rfl (bM _ rfl _ _ rfl rfl (by show(0:Int)<2;decide) (aZ _ _ rfl rfl (.inl ⟨by decide,by decide⟩) ⟨ _,_,rfl,rfl,?_⟩)));have e1:(e:Int)+1-2*((e:Int)%2)=((MM.oth e:Nat):Int):=by unfold MM.oth;split<;>lia
 show Q (.int ((e:Int)+1-2*((e:Int)%2))) H;rw[e1];exact q
def K9:Sp:=λvs H Q _=>∃(a:Addr) (ts:MM.aY) (e:Nat),vs=[.ref a,vn e]/\nZ H a ts/\e<2*ts.length/\Q (vn (MM.place ts e)) H
theorem FM{x y:Nat}(e:Nat):atI [vn x,vn y] ((e:Int)%2)=some (vn (if e%2=0 then x else y)):=by
 rcases Nat.mod_two_eq_zero_or_one e with h | h
 ·rw[show(e:Int)%2=0 by lia,if_pos h];rfl
 ·rw[show(e:Int)%2=1 by lia,if_neg (by lia)];rfl
theorem qV(T:Txt K mg t):cJ P w K mg base CX0 1 t.yL t.x5 ["_law_ties","_law_end"] K9:=by
 refine T.mI.F.ok CM (λvs H Q E h=>?_) (λcdv A outer s H vs Q E hr h=>?_)
 ·obtain⟨a,ts,e,rfl,_⟩:=h;rfl
 obtain⟨a,ts,e,rfl,ht,he,q⟩:=h;refine⟨_,(aH (aU (aJ rB (aJ bA (pv 0) (aO dN (pv 1) aC) (λ_ _=>rfl)) (aO cI (pv 1) aC) (λ_ _=>rfl)))),?_⟩;obtain⟨xs,r,h1,h2,h3,h4⟩:=ht.item (i:=e / 2) (by lia);refine(bR _ rfl _ rfl _ _ rfl (fH rfl ⟨by decide,by decide⟩ a xs _ _ rfl ⟨ rfl,SqL.of h1,(by show atI xs ((e:Int) / 2)=_;rw[show(e:Int) / 2=((e / 2:Nat):Int) by lia];exact h3),?_⟩));refine(bM _ rfl _ _ rfl rfl (by show(0:Int)<2;decide) (.inr (.inl (aS r _ _ _ rfl rfl (SqT.of h4) ⟨ FM e,?_⟩))));unfold MM.place at q;split
 ·rename_i h;rw[if_pos h]at q;exact q
 ·rename_i h;rw[if_neg h]at q;exact q
def RH:Sp:=λvs H Q _=>∃(a o:Addr) (ts:MM.aY) (os:MM.dM) (e:Nat),vs=[.ref a,.ref o,vn e]/\nZ H a ts/\wK H o os/\MM.Good ts os/\e<2*ts.length/\Q (vn (MM.behind ts os e)) H
theorem nR(T:Txt K mg t):cJ P w K mg base CX0 2 t.wH t.vR ["_law_ties","_law_orders_here","_law_end"] RH:=by
 refine T.kR.F.ok rT (λvs H Q E h=>?_) (λcdv A outer s H vs Q E hr h=>?_)
 ·obtain⟨a,o,ts,os,e,rfl,_⟩:=h;rfl
 obtain⟨a,o,ts,os,e,rfl,ht,ho,g,he,q⟩:=h;have nd:=rT.nd;refine⟨_,(aF (bC 3 nd (aJ bA (pv 1) (bK (qV T) hr T.mI a8 (aA (pv 0) (aA (bK (qW T) hr T.mJ a8 (aA (pv 2) aB)) aB))) (λ_ _=>rfl)))
  (aH (aU (aJ bA (pv 3) (aO dB (uJ PySem.F.plainAttrs_list PySem.F.slot_list_index PySem.F.type_list_index A6 (pv 3) (aA (bK (qW T) hr T.mJ a8 (aA (pv 2) aB)) aB)) aC) (λ_ _=>rfl))))),?_⟩
 have hp:=g.g.has (MM.oth e) (MM.jG he);obtain⟨xs,r,h1,h2,h3,h4⟩:=ho.item hp.1;refine(fZ _ rfl _ rfl _ rfl (fF e rfl a ts (MM.oth e) rfl ht (fG (MM.jG he) o xs _ _ rfl rfl ⟨ SqL.of h1,h3,?_⟩)));refine(kZ _ rfl _ rfl (.inl ⟨rfl,_,SqL.of h4⟩) _ rfl (fF e rfl r _ _ rfl rfl (D9 h4 hp.2 _ _ rfl rfl (aS r _ _ _ rfl rfl (SqL.of h4) ⟨ FL hp.2,q⟩))))
end K49
namespace L2
open PySem PyProof.Rows
structure fP(H H':Hp)(r:Addr)(rr:List Addr)(ls:MM.dM):Prop where
 at_:H' r=some (.lst (rr.map V.ref))
 len:rr.length=ls.length
 row:∀(i:Nat) l,ls[i]?=some l->∃x,rr[i]?=some x/\H' x=some (.lst (vns l))
 nd:rr.Nodup
 nin:r∉rr
 new:H r=none
 news:∀x∈rr,H x=none
theorem fP.keep{H H' H2:Hp}{r:Addr}{rr:List Addr}{ls:MM.dM}(n:fP H H' r rr ls)(g:∀b o,b=r\/b∈rr->H' b=some o->H2 b=some o):fP H H2 r rr ls :=
 ⟨g _ _ (.inl rfl) n.at_,n.len,λi l h=>by obtain⟨x,h1,h2⟩:=n.row i l h;exact⟨x,h1,g _ _ (.inr (Zg h1)) h2⟩,n.nd,n.nin,n.new,n.news⟩
theorem fP.ex{H H':Hp}{r:Addr}{rr:List Addr}{ls:MM.dM}(n:fP H H' r rr ls){x:Addr}(hx:x∈rr):∃l,H' x=some (.lst (vns l)):=by
 obtain⟨i,hi,rfl⟩:=Yy.mp hx;have hi':i<ls.length:=by rw[<-n.len];exact hi
 obtain⟨y,h1,h2⟩:=n.row i (ls[i]'hi') (Zz hi');rw[Zz hi]at h1;cases h1;exact⟨_,h2⟩
theorem fP.push{H H' H2:Hp}{r x:Addr}{rr:List Addr}{ls:MM.dM}{l:List Nat}(n:fP H H' r rr ls)(hx:H x=none)(hxr:x∉rr)(hxn:x≠r)(at2:H2 r=some (.lst ((rr++[x]).map V.ref)))(ax:H2 x=some (.lst (vns l)))
  (g:∀b o,b∈rr->H' b=some o->H2 b=some o):fP H H2 r (rr++[x]) (ls++[l]) where
 at_:=at2
 len:=by rw[Zm,Zm,n.len];rfl
 row:=λi m h=>by
  rcases Xq i ls.length with q | q
  ·rw[Zx q]at h;obtain⟨y,h1,h2⟩:=n.row i m h;exact⟨y,by rw[Zx (by rw[n.len];exact q)];exact h1,g _ _ (Zg h1) h2⟩
  ·have hi:i=ls.length:=by
    obtain⟨z,_⟩:=Zj.mp h;rw[Zm]at z;simp at z
    lia
   subst hi;rw[Yx]at h;cases h;exact⟨x,by rw[<-n.len,Yx],ax⟩
 nd:=by
  rw[List.nodup_append];refine⟨n.nd,by simp,λa ha b hb z=>?_⟩;have e:b=x:=by simpa using hb
  subst e;subst z;exact hxr ha
 nin:=λz=>by
  rcases Zf.mp z with z | z
  ·exact n.nin z
  ·have e:r=x:=by simpa using z
   exact hxn e.symm
 new:=n.new
 news:=λy hy=>by
  rcases Zf.mp hy with z | z
  ·exact n.news y z
  ·have e:y=x:=by simpa using z
   subst e;exact hx
theorem yV(l m:List Nat):vns (l++m)=vns l++vns m:=Zt
theorem EZ(x:Nat)(l:List Nat):inV (vn x) (vns l)=decide (x∈l):=by
 unfold inV;rw[Xx,List.any_eq_true,decide_eq_true_iff];constructor
 ·rintro⟨y,hy,h⟩;obtain⟨n,hn,rfl⟩:=Zh.mp hy;have h':((n:Int)==(x:Int))=true:=h;have:n=x:=by have:=beq_iff_eq.mp h';lia
  subst this;exact hn
 ·intro h;exact⟨vn x,Zh.mpr ⟨x,h,rfl⟩,by show((x:Int)==(x:Int))=true;simp⟩
theorem HM(l:List Nat):(vns l).all kX=true:=by rw[List.all_eq_true];intro y hy;obtain⟨n,_,rfl⟩:=Zh.mp hy;rfl
theorem iA{K:PySem.W.Frag}{H:Hp}:∀l:List Nat,Bds K H (vns l) (l.map λn:Nat=>PyData.int (n:Int))
 |[]=>.nil
 |n::l=>.cons (.int n) (iA l)
theorem dF(l:List Nat):SeqAt.shaped (.list (l.map λn:Nat=>PyData.int (n:Int)))=true:=by
 have e:(l.map λn:Nat=>PyData.int (n:Int))=(l.map λn:Nat=>(n:Int)).map PyData.int:=by rw[Yh];rfl
 rw[e];generalize (l.map λn:Nat=>(n:Int))=ns;simp[SeqAt.shaped,PyData.canLay0,PyData.canLayAll0,PyData.depth,PyData.depthAll,PySem.W.ke_canLayAll0,PySem.W.ke_depthAll]
theorem pR(l m:List Nat):PyData.eqv (.list (l.map λn:Nat=>PyData.int (n:Int))) (.list (m.map λn:Nat=>PyData.int (n:Int)))=decide (l=m):=by
 have e:∀l:List Nat,(l.map λn:Nat=>PyData.int (n:Int))=(l.map λn:Nat=>(n:Int)).map PyData.int:=λl=>by rw[Yh];rfl
 rw[e,e];unfold PyData.eqv;rw[PySem.W.ked_eqvAll];have inj:∀l m:List Nat,(l.map λn:Nat=>(n:Int))=(m.map λn:Nat=>(n:Int))->l=m:=by
  intro l;induction l with
  |nil=>intro m h;cases m with
   |nil=>rfl
   |cons _ _=>simp at h
  |cons a l ih=>intro m h;cases m with
   |nil=>simp at h
   |cons b m =>
    simp only[List.map_cons,List.cons.injEq]at h;rw[ih m h.2,show a=b by lia]
 by_cases h:l=m
 ·subst h;simp
 ·rw[decide_eq_false h,decide_eq_false (λz=>h (inj l m z))]
end L2
namespace K49
open PySem L2 PyProof.Rows
def IC:Sp:=λvs H Q _=>∃(a o:Addr) (ts:MM.aY) (os:MM.dM),vs=[.ref a,.ref o]/\nZ H a ts/\wK H o os/\MM.Good ts os/\ts.length<=45000 /\
 ∀(r:Addr) (rr:List Addr) (H':Hp),aW H H'->fP H H' r rr (MM.eO (MM.behind ts os) (2*ts.length))->Q (.ref r) H'
theorem xP(T:Txt K mg t):cJ P w K mg base CX0 3 t.yN t.x8 ["_law_ties","_law_orders_here"] IC:=by
 refine T.rE.F.ok tX (λvs H Q E h=>?_) (λcdv A outer s H vs Q E hr h=>?_)
 ·obtain⟨a,o,ts,os,rfl,_⟩:=h;rfl
 obtain⟨a,o,ts,os,rfl,ht,ho,g,h500,q⟩:=h;have nd:=tX.nd;have nd_l_end_l_land:(["_law_end","_law_land"]:List Str).Nodup:=by decide
 refine⟨_,(aF (bC 2 nd (bN aB))
  (aF (bC 3 nd (cY (vV rfl) rfl T.qE boot_list (aA (cY sN rfl T.bW boot_range (aA (aO cX aC (aQ aN rfl T.b7 PySem.boot_len (aA (pv 0) aB))) aB)) aB)))
  (aF (jO PassesOwn.never (aV (kJ hr.units) (pv 3) (bN aB) (a7 _)) (aF (bC 4 nd (bN (aA (aJ bA (pv 3) aC (λ_ _=>rfl)) aB)))
  (aF (bC 5 nd (bK (nR T) hr T.kR a8 (aA (pv 0) (aA (pv 1) (aA (aJ bA (pv 3) aC (λ_ _=>rfl)) aB)))))
  (aF (jO PassesOwn.never (aV lO (pv 5) (aJ bA (pv 4) aC (λ_ _=>rfl)) (a7 _)) (aF (cF (jQ mAp bP (pv 4) (aA (pv 5) aB)))
  (aH (bC 5 nd (bK (nR T) hr T.kR a8 (aA (pv 0) (aA (pv 1) (aA (pv 5) aB))))))))
  (aF (cF (jQ mAp bP (pv 2) (aA (pv 4) aB)))
  (aH (bU (i:=3) nd rfl (Or.inl rfl)  (N':=["_law_end","_law_land"]) (js:=[none,some 4]) rfl (bJ (pv 3)) (λ_ _ _ _ _=>(aK (i:=0) nd_l_end_l_land rfl (Or.inl rfl))) (λ_ _ _ _ _=>(lL (aV (GM (K:=K) rfl) (pv 0) (pv 1) rfl))) (λ_ _ _ _ _=>(pv 0)))))))))
  (aH (aU (pv 2)))))),?_⟩
 have m:=g.maps;obtain⟨tr0,hta,htl,_⟩:=id ht;refine⟨(by show 0<=ZW;decide),λtr htr=>?_⟩;have g1:=aG htr (.lst []);refine(bF _ rfl a _ rfl (.inl (SqL.of (g1 _ _ hta))) (gH _ _ rfl rfl (.inl ⟨by decide,by decide⟩) _ rfl (λp hp=>?_)));have e2:(2:Int)*((tr0.map V.ref).length:Nat)=((2*ts.length:Nat):Int):=by rw[Zq,htl];push_cast;rfl
 rw[e2]at *;have g2:=aG hp (.rng 0 ((2*ts.length:Nat):Int));refine(aZ p (2*ts.length) rfl aE (by lia) (λlr hlr=>?_));have g3:=aG hlr (.lst (vns (List.range (2*ts.length))));have ntl:tr≠lr:=aP (g2 _ _ aE) hlr;generalize hf:MM.behind ts os=f at m q;generalize hN:2*ts.length=N at m q hlr g3 g2 hp;have n0:fP H (upd (upd (upd H tr (.lst [])) p (.rng 0 (N:Int))) lr (.lst (vns (List.range N)))) tr [] [] :=
  ⟨g3 _ _ (g2 _ _ aE),rfl,λi l h=>by simp at h,List.nodup_nil,by simp,htr,λx hx=>by cases hx⟩
 refine⟨λk σ H1=>∃(lr:Addr) (left:List Nat) (rr:List Addr) (done:MM.dM) (o4 o5:Option V),k=left.length/\σ=[some (.ref a),some (.ref o),some (.ref tr),some (.ref lr),o4,o5]/\aW H H1/\H1 lr=some (.lst (vns left)) /\
  fP H H1 tr rr done/\lr≠tr/\done++MM.lf f left=MM.eO f N/\(∀x∈left,x<N)/\left.length<=N,(cB _ lr (List.range N) ([]) ([]) none none (dI rfl rfl ((g1.trans g2).trans g3) aE n0 (Ne.symm ntl) rfl ⟨ λx hx=>Zs.mp hx,by simp⟩)),?_⟩
 clear n0 g3 g2 hp hlr ntl lr p g1;rintro k σ H1 ⟨lr,left,rr,done,o4,o5,rfl,rfl,g1,el,n1,nlt,eq,hlt,hll⟩;refine⟨_,rfl,(by show 0<=ZW;decide),λp hp=>?_⟩;have gp:=aG hp (.lst []);refine(cE _ _ (.lst (SqL.of (gp _ _ el)) (iA left)) (.lst (SqL.of aE) (iA [])) (dF left) (dF []) ⟨ _,rfl,?_⟩);rw[pR];have n2:fP H (upd H1 p (.lst [])) tr rr done:=n1.keep λb o' _ h=>gp _ _ h;have g2:=g1.trans gp;have el2:=gp _ _ el;generalize upd H1 p (.lst [])=H2 at n2 g2 el2 gp;clear hp;cases left with
 |nil =>
  refine cR rfl ?_;rw[MM.JR,List.append_nil]at eq;exact⟨_,rfl,q tr rr H2 g2 (eq▸n2)⟩
 |cons e r =>
  refine eJ (by simp) ?_;have heN:e<N:=hlt e Zd;obtain⟨rd,rdN⟩:=MM.fV m heN;have hdl:done.length<=N:=by
   have h1:=MM.zH m _ (List.range N) (Nat.le_refl _) (λx hx=>Zs.mp hx);have h2:(done++MM.lf f (e::r)).length=(MM.eO f N).length:=by rw[eq]
   rw[Zm]at h2;unfold MM.eO at h2;rw[Yj]at h1
   lia
  have p1:atI (vns (e::r)) 0=some (vn e):=DV (l:=e::r) (j:=0) (by simp) rfl;refine⟨_,λσ' H' h=>h,?_⟩;refine(aI _ rfl lr _ _ _ rfl ⟨ rfl,SqL.of el2,p1,(by show 1<=ZW;decide),λla hla=>?_⟩);have g3:=aG hla (.lst [vn e]);have nla:la≠tr/\la≠lr/\la∉rr:=by
   refine⟨(aP n2.at_ hla).symm,(aP el2 hla).symm,λz=>?_⟩;obtain⟨l,hl⟩:=n2.ex z;rw[hla]at hl;cases hl
  refine(fZ _ rfl _ rfl _ rfl (aS lr _ _ _ rfl rfl (SqL.of (g3 _ _ el2)) (k6 p1 a o ts os e rfl ⟨ (g2.trans g3).ts ht,(g2.trans g3).os ho,g,by rw[hN];exact heN,?_⟩)));rw[hf];refine⟨λk σ H4=>∃j,k=MM.per f e-j/\0<j/\j<=MM.per f e/\σ=[some (.ref a),some (.ref o),some (.ref tr),some (.ref lr),some (.ref la),some (vn (MM.iter f j e))]/\(∀b o,b≠la->H2 b=some o->H4 b=some o)/\H4 la=some (.lst (vns (MM.path f e j))),
   (jK _ 1 rfl Nat.one_pos rd.1 rfl (λb o' hb h=>g3 _ _ h) aE),?_⟩
  rintro k σ H4 ⟨j,rfl,hj0,hj,rfl,b4,e4⟩;have hH:∀b o',H b=some o'->H4 b=some o':=λb o' h=>b4 b o' (aP (g2 _ _ h) hla) (g2 _ _ h);have p0:atI (vns (MM.path f e j)) 0=some (vn e):=by
   have hl:0<(MM.path f e j).length:=by rw[MM.lN];exact hj0
   refine(DV hl (k:=0) rfl).trans ?_;congr 2;unfold MM.path;simp[List.getD,hj0];rfl
  refine⟨_,rfl,(aI _ rfl la _ _ _ rfl (hV rfl (SqL.of e4) p0 rfl _ rfl ?_))⟩;by_cases hc:MM.iter f j e=e
  ·refine cR (by rw[hc];simp) ?_;have ej:j=MM.per f e:=by
    rcases Xq j (MM.per f e) with z | z
    ·exact absurd hc (rd.2.2 j hj0 z)
    ·lia
   subst ej;have n4:fP H H4 tr rr done:=n2.keep λb o' hb h=>b4 b o' (by rcases hb with rfl | hb;exact Ne.symm nla.1;rintro rfl;exact nla.2.2 hb) h;refine(fQ _ rfl (.inl ⟨rfl,_,SqL.of n4.at_⟩) _ rfl (bG tr _ _ rfl rfl n4.at_ ?_ ?_))
   ·rw[Zq,n4.len];exact Ys (by lia:done.length<=90000) (by decide)
   have el5:(upd H4 tr (.lst (rr.map V.ref++[.ref la]))) lr=some (.lst (vns (e::r))):=by rw[aL nlt];exact b4 _ _ (Ne.symm nla.2.1) el2
   have la5:(upd H4 tr (.lst (rr.map V.ref++[.ref la]))) la=some (.lst (vns (MM.a9 f e))):=by rw[aL nla.1];exact e4
   have hH5:aW H (upd H4 tr (.lst (rr.map V.ref++[.ref la]))):=λb o' h=>by rw[aL (aP h htr)];exact hH b o' h
   have n5:fP H (upd H4 tr (.lst (rr.map V.ref++[.ref la]))) tr (rr++[la]) (done++[MM.a9 f e]) :=
    n4.push (g2.free hla) nla.2.2 nla.1 (by rw[aE,Zt];rfl) la5 λb o' hb h=>by rw[aL (show b≠tr from λz=>n4.nin (z▸hb))];exact h
   generalize upd H4 tr (.lst (rr.map V.ref++[.ref la]))=H5 at el5 la5 hH5 n5;refine(bO _ rfl lr rfl ⟨_,SqL.of el5⟩ (λD hD=>?_));refine zN (e::r).length (λi ys H'=>ys=vns (((e::r).take i).filter λx=>decide (x∉MM.a9 f e))/\H'=upd H5 D (.lst ys)) ⟨by simp,rfl⟩ ?_ ?_
   ·rintro i ys H' hi ⟨rfl,rfl⟩;have gD:=aG hD (.lst (vns (((e::r).take i).filter λx=>decide (x∉MM.a9 f e))));have hx:(vns (e::r))[i]?=some (vn (e::r)[i]):=by rw[Zk,Zz hi];rfl
    refine⟨⟨_,_,SqL.of (gD _ _ el5),hx⟩,?_⟩;rintro x' H'' ⟨rfl,hx'⟩;have e6:=hx' _ (SqL.of (gD _ _ el5));rw[hx]at e6;cases e6;refine⟨(Fills.refl _).set _ rfl,?_⟩;refine(bR _ rfl _ rfl la _ rfl (bZ (.inl (SqL.of (gD _ _ la5))) rfl (HM _) _ rfl ?_));rw[EZ];have ts1:=take_succ_filter (λx=>decide (x∉MM.a9 f e)) (e::r) i _ (Zz hi);have hfl:((List.take i (e::r)).filter λx=>decide (x∉MM.a9 f e)).length<=90000:=by
     have h1:=List.length_filter_le (λx=>decide (x∉MM.a9 f e)) (List.take i (e::r));have h2:(List.take i (e::r)).length<=(e::r).length:=List.length_take_le' _ _
     lia
    by_cases hxm:(e::r)[i]∈MM.a9 f e
    ·refine cR (by simp[hxm]) ?_;rw[ts1,if_neg (by simp[hxm]),List.append_nil];exact⟨rfl,rfl⟩
    ·refine eJ (by simp[hxm]) ?_;refine(N1 _ rfl aE ?_ ?_ ?_)
     ·rw[Zq];exact Ys hfl (by decide)
     ·rw[ts1,if_pos (by simp[hxm]),yV];rfl
     ·rw[kD]
   ·rintro ys H' ⟨rfl,rfl⟩;have gD:=aG hD (.lst (vns (((e::r).take (e::r).length).filter λx=>decide (x∉MM.a9 f e))));refine⟨⟨_,SqL.of (gD _ _ el5),by rw[Zq];exact Nat.le_refl _⟩,?_⟩;have sh:=MM.dD m heN r;refine⟨_,?_,(bE D _ (rr++[la]) (done++[MM.a9 f e]) _ _ rfl (dI rfl (hH5.trans gD) aE (n5.keep λb o' _ h=>gD _ _ h) ((aP n5.at_ hD).symm) ?_ ?_ ?_))⟩
    ·rw[Yv];simp only[Yq];lia
    ·rw[Yv,Yb];rw[MM.pD m hlt]at eq;exact eq
    ·intro x hx;rw[Yv]at hx;exact hlt x (Yz.mp hx).1
    ·rw[Yv];simp only[Yq]at hll;lia
  ·refine eJ (by simp;lia) ?_;have hjp:=MM.uD rd hj0 hj hc;refine⟨_,λσ' H' h=>h,?_⟩;refine(fQ _ rfl (.inl ⟨rfl,_,SqL.of e4⟩) _ rfl (bG la _ _ rfl rfl e4 ?_ ?_))
   ·rw[Zq,MM.lN];exact Ys (by lia:j<=90000) (by decide)
   have e7:vns (MM.path f e j)++[vn (MM.iter f j e)]=vns (MM.path f e (j+1)):=by rw[MM.qS,yV];rfl
   rw[e7];have hH5:aW H (upd H4 la (.lst (vns (MM.path f e (j+1))))):=λb o' h=>by rw[aL (aP (g2 _ _ h) hla)];exact hH b o' h
   refine(fZ _ rfl _ rfl _ rfl (fE a o ts os (MM.iter f j e) rfl (hH5.ts ht) ⟨ hH5.os ho,g,by rw[hN];exact MM.kP m heN j,?_⟩));rw[hf];exact(AA (MM.per f e-(j+1)) (by lia) (j+1) rfl (by lia) (by lia) rfl ⟨ λb o' hb h=>by rw[aL hb];exact b4 b o' hb h,aE⟩)
end K49
namespace MM
theorem GT{l:List Nat}{i x y:Nat}:y∈L2.gU l i x↔y=x\/y∈l:=by
 unfold L2.gU;rw[Zf,Zn];have h:y∈l↔y∈l.take i\/y∈l.drop i:=by rw[<-Zf,List.take_append_drop]
 rw[h];constructor
 ·rintro(h | h | h)
  ·exact .inr (.inl h)
  ·exact .inl h
  ·exact .inr (.inr h)
 ·rintro(h | h | h)
  ·exact .inr (.inl h)
  ·exact .inl h
  ·exact .inr (.inr h)
theorem BJ{l:List Nat}(nd:l.Nodup){i x:Nat}(h:x∉l):(L2.gU l i x).Nodup:=by
 unfold L2.gU;have p:(l.take i++x::l.drop i).Perm (x::l):=by
  have q:=List.perm_middle (a:=x) (l₁:=l.take i) (l₂:=l.drop i);rw[List.take_append_drop]at q;exact q
 exact(p.nodup_iff).mpr (List.nodup_cons.mpr ⟨h,nd⟩)
theorem GU{α:Type}(l:List α)(i:Nat)(x:α):(L2.gU l i x).length=l.length+1:=by
 unfold L2.gU;rw[Zm,Yq,<-Nat.add_assoc,<-Zm,List.take_append_drop]
theorem GS(l:List Nat)(i x:Nat):L2.gU (L2.vns l) i (L2.vn x)=L2.vns (L2.gU l i x):=by
 unfold L2.gU L2.vns;rw[Zt,List.map_cons,List.map_take,List.map_drop]
end MM
namespace K49
open PySem L2 PyProof.Rows
def IB:Sp:=λvs H Q _=>∃(num:Int) (n:Nat),vs=[.int num,vn n]/\0<=num/\n<=400/\∀(r:Addr) (ps:List Nat),H r=none->ps.Nodup->(∀x∈ps,x<n)->ps.length=n->Q (.ref r) (upd H r (.lst (vns ps)))
theorem C3(T:Txt K mg t):cJ P w K mg base CX0 1 t.wC t.vO ["_law_number","_law_many"] IB:=by
 refine T.vH.F.ok rQ (λvs H Q E h=>?_) (λcdv A outer s H vs Q E hr h=>?_)
 ·obtain⟨num,n,rfl,_⟩:=h;rfl
 obtain⟨num,n,rfl,h0,hn,q⟩:=h;have nd:=rQ.nd;refine⟨_,(aF (bC 2 nd (bN aB))
  (aF (cQ PassesOwn.never rfl (bH rfl T.bW (aA (pv 1) aB)) (aK (i:=3) nd rfl (Or.inl rfl)) (aF (cF (uJ PySem.F.plainAttrs_list PySem.F.slot_list_insert PySem.F.type_list_insert GD (pv 2) (aA (aO cI (pv 0) (aO bV (pv 3) aC)) (aA (pv 3) aB))))
  (aH (bC 0 nd (aO dN (pv 0) (aO bV (pv 3) aC))))))
  (aH (aU (pv 2))))),?_⟩
 refine⟨(by show 0<=ZW;decide),λr hr0=>?_⟩;refine(j9 _ rfl n rfl (by lia) (by lia) (dJ (lo:=0) (n:=(n:Int).toNat) (λi σ H'=>∃(num':Int) (ps:List Nat) (o:Option V),0<=num'/\σ=[some (.int num'),some (vn n),some (.ref r),o]/\H'=upd H r (.lst (vns ps))/\ps.Nodup/\(∀x∈ps,x<i)/\ps.length=i)
  (bG num ([]) none h0 rfl rfl List.nodup_nil ⟨ (λx hx=>by cases hx),rfl⟩) ?_ ?_))
 ·rintro i σ H' hi ⟨num',ps,o,h0',rfl,rfl,hnd,hlt,hl⟩;have hi':i<400:=by lia
  have e1:num' % (0+(i:Int)+1)=(((num' % (0+(i:Int)+1)).toNat:Nat):Int):=by
   have:=Xj num' (show(0+(i:Int)+1)≠0 by lia)
   lia
  have e2:(num' % (0+(i:Int)+1)).toNat<=i:=by
   have:=Xk num' (show 0<(0+(i:Int)+1) by lia)
   lia
  refine(jM _ rfl (.inl ⟨rfl,_,SqL.of aE⟩) _ rfl _ rfl (dH _ _ rfl rfl _ _ rfl ⟨ rfl,(by show(0:Int)<0+(i:Int)+1;lia),(aI _ rfl r _ ((num' % (0+(i:Int)+1)).toNat) (vn i) rfl ⟨ ?_,aE,?_,?_,?_⟩)⟩))
  ·show[V.int (num' % (0+(i:Int)+1)),V.int (0+(i:Int))]=[V.int (((num' % (0+(i:Int)+1)).toNat:Nat):Int),V.int (i:Int)]
   rw[<-e1,Int.zero_add]
  ·rw[Zq];lia
  ·rw[Zq];exact Ys (by lia:ps.length<=1000) (by decide)
  refine(bR _ rfl _ rfl _ _ rfl (tD rfl _ _ rfl rfl ⟨by show(0:Int)<0+(i:Int)+1;lia,by show 0+(i:Int)+1<1073741824;lia⟩ ?_));refine(bG _ (gU ps (num' % (0+(i:Int)+1)).toNat i) _ ?_ rfl ?_ ?_ ⟨ ?_,?_⟩)
  ·exact Int.ediv_nonneg h0' (by lia)
  ·rw[kD,MM.GS]
  ·exact MM.BJ hnd λz=>Nat.lt_irrefl _ (hlt i z)
  ·intro x hx;rcases MM.GT.mp hx with rfl | hx
   ·lia
   ·have:=hlt x hx;lia
  ·rw[MM.GU,hl]
 ·rintro σ H' ⟨num',ps,o,h0',rfl,rfl,hnd,hlt,hl⟩;exact⟨_,rfl,q r ps hr0 hnd (λx hx=>by have:=hlt x hx;lia) (by lia)⟩
end K49
namespace MM
end MM
namespace L2
open PySem PyProof.Rows
end L2
namespace MM
noncomputable def kL(ts:aY)(os:dM):Nat:=(eO (behind ts os) (2*ts.length)).length
theorem DC{f:Nat->Nat}{N:Nat}(m:iT f N):(eO f N).flatten.Perm (List.range N):=by
 have one:=λ{x:Nat}(hx:x<N)=>JQ m _ (List.range N) (Nat.le_refl _) (λz hz=>Zs.mp hz) x (Zs.mpr hx);have mem:=λ(d:List Nat) (hd:d∈eO f N)=>zG m _ (List.range N) (Nat.le_refl _) (λz hz=>Zs.mp hz) d hd;have lt:∀d∈eO f N,∀x∈d,x<N:=λd hd x hx=>by
  obtain⟨e,he,rfl⟩:=mem d hd;exact pE m (Zs.mp he) x hx
 refine(List.perm_ext_iff_of_nodup ?_ List.nodup_range).mpr λx=>?_
 ·rw[List.nodup_iff_pairwise_ne,List.pairwise_flatten];refine⟨λd hd=>?_,?_⟩
  ·obtain⟨e,he,rfl⟩:=mem d hd;have:=uY m (Zs.mp he)
   rwa [List.nodup_iff_pairwise_ne]at this
  ·rw[List.pairwise_iff_getElem];intro i j hi hj hij x hx y hy e;subst e;obtain⟨k,d,_,_,h3⟩:=one (lt _ (Zp hi) x hx);have e1:=h3 i _ (Zz hi) hx;have e2:=h3 j _ (Zz hj) hy
   lia
 ·rw[List.mem_flatten,Zs];constructor
  ·rintro⟨d,hd,hx⟩;exact lt d hd x hx
  ·intro hx;obtain⟨k,d,h1,h2,_⟩:=one hx;exact⟨d,Zg h1,h2⟩
def su(l:List Nat)(f:Nat->Int):Int:=(l.map f).sum
theorem yW(x:Nat)(l:List Nat)(f:Nat->Int):su (x::l) f=f x+su l f:=by unfold su;rw[List.map_cons,List.sum_cons]
theorem AF{f g:Nat->Int}:∀{l:List Nat},(∀x∈l,f x=g x)->su l f=su l g
 |[],_=>rfl
 |x::l,h=>by rw[yW,yW,h x Zd,AF λy hy=>h y (Zw _ hy)]
def trm(c l:Nat->Int)(e:Nat):Int:=2-c e+l e-l (oth e)
noncomputable abbrev lls(ts:aY)(os:dM):List (List Nat):=eO (behind ts os) (2*ts.length)
end MM
namespace L2
open PySem PyProof.Rows
theorem EW{n j:Nat}(h:j<n):ixN n (j:Int)=some j:=by
 unfold ixN;rw[if_pos (by lia),if_pos (by lia)];simp
end L2
namespace MM
theorem BL{α:Type}{l:List α}{i j:Nat}{x d:α}(h:i≠j):(l.set i x).getD j d=l.getD j d:=by
 rw[Zv,Zv,List.getElem?_set_ne h]
theorem wW{α:Type}{l:List α}{i:Nat}{x d:α}(h:i<l.length):(l.set i x).getD i d=x:=by
 rw[Zv,List.getElem?_set_self h];rfl
end MM
namespace L2
open PySem PyProof.Rows
def qC(H:Hp)(w:Addr)(n:Nat)(ts:MM.aY)(os:MM.dM):Prop:=∃tA oA:Addr,H w=some (.tup [vn n,.ref tA,.ref oA])/\nZ H tA ts/\wK H oA os
theorem aW.web{H H':Hp}(g:aW H H'){w:Addr}{n:Nat}{ts:MM.aY}{os:MM.dM}(h:qC H w n ts os):qC H' w n ts os:=by
 obtain⟨tA,oA,h1,h2,h3⟩:=h;exact⟨tA,oA,g _ _ h1,g.ts h2,g.os h3⟩
end L2
namespace K49
open PySem L2 PyProof.Rows
theorem oY(T:Txt K mg t):cJ P w K mg base CX0 1 t.sP t.sE ["end"] NL:=by
 refine T.gM.F.ok y0 (λvs H Q E h=>?_) (λcdv A outer s H vs Q E hr h=>?_)
 ·obtain⟨e,rfl,_⟩:=h;rfl
 obtain⟨e,rfl,q⟩:=h;refine⟨_,(aH (aU (aO PM (pv 0) aC))),?_⟩;refine(bF _ rfl _ _ rfl rfl ?_);have e1:Builtin.bitXor (e:Int) 1=((MM.oth e:Nat):Int):=by
  rw[PyProof.Rows.bitXor_and,PyProof.Rows.bitAnd_m1];unfold MM.oth;split<;>lia
 show Q (.int (Builtin.bitXor (e:Int) 1)) H;rw[e1];exact q
def IA:Sp:=λvs H Q _=>∃(wa:Addr) (n:Nat) (ts:MM.aY) (os:MM.dM) (e:Nat),vs=[.ref wa,vn e]/\qC H wa n ts os/\e<2*ts.length/\Q (vn (MM.place ts e)) H
theorem JF(T:Txt K mg t):cJ P w K mg base CX0 1 t.vX t.vJ ["web","end"] IA:=by
 refine T.vE.F.ok AJ (λvs H Q E h=>?_) (λcdv A outer s H vs Q E hr h=>?_)
 ·obtain⟨wa,n,ts,os,e,rfl,_⟩:=h;rfl
 obtain⟨wa,n,ts,os,e,rfl,⟨tA,oA,hw,ht,ho⟩,he,q⟩:=h;refine⟨_,(aH (aU (aJ rB (aJ rB (aJ aT (pv 0) aC (λ_ _=>rfl)) (aO dN (pv 1) aC) (λ_ _=>rfl)) (aO cI (pv 1) aC) (λ_ _=>rfl)))),?_⟩;obtain⟨xs,r,h1,h2,h3,h4⟩:=ht.item (i:=e / 2) (by lia);refine(aI _ rfl wa _ _ (.ref tA) rfl (bZ rfl (SqT.of hw) rfl _ rfl (aZ _ _ rfl rfl ⟨by decide,by decide⟩ (.inl (aS tA xs _ _ rfl rfl (SqL.of h1) ⟨ (by show atI xs ((e:Int) / 2)=_;rw[show(e:Int) / 2=((e / 2:Nat):Int) by lia];exact h3),?_⟩)))));refine(bM _ rfl _ _ rfl rfl (by show(0:Int)<2;decide) (.inr (.inl (aS r _ _ _ rfl rfl (SqT.of h4) ⟨ FM e,?_⟩))));unfold MM.place at q;split
 ·rename_i h;rw[if_pos h]at q;exact q
 ·rename_i h;rw[if_neg h]at q;exact q
def OQ:Sp:=λvs H Q _=>∃(wa:Addr) (n:Nat) (ts:MM.aY) (os:MM.dM) (e:Nat),vs=[.ref wa,vn e]/\qC H wa n ts os/\e<2*ts.length/\Q (vn (MM.place ts (MM.oth e))) H
theorem MH(T:Txt K mg t):cJ P w K mg base CX0 2 t.yR t.yC ["web","end"] OQ:=by
 refine T.xZ.F.ok CP (λvs H Q E h=>?_) (λcdv A outer s H vs Q E hr h=>?_)
 ·obtain⟨wa,n,ts,os,e,rfl,_⟩:=h;rfl
 obtain⟨wa,n,ts,os,e,rfl,hw,he,q⟩:=h;refine⟨_,(aH (aU (bK (JF T) hr T.vE a8 (aA (pv 0) (aA (bK (oY T) hr T.gM a8 (aA (pv 1) aB)) aB))))),?_⟩;exact(fZ _ rfl _ rfl e rfl (fE wa n ts os (MM.oth e) rfl hw ⟨ MM.jG he,q⟩))
def IF:Sp:=λvs H Q _=>∃(wa:Addr) (n:Nat) (ts:MM.aY) (os:MM.dM) (e:Nat),vs=[.ref wa,vn e]/\qC H wa n ts os/\MM.Good ts os/\e<2*ts.length/\Q (vn (MM.behind ts os e)) H
theorem qX(T:Txt K mg t):cJ P w K mg base CX0 3 t.B9 t.BY ["web","end"] IF:=by
 refine T.pQ.F.ok xI (λvs H Q E h=>?_) (λcdv A outer s H vs Q E hr h=>?_)
 ·obtain⟨wa,n,ts,os,e,rfl,_⟩:=h;rfl
 obtain⟨wa,n,ts,os,e,rfl,hw,g,he,q⟩:=h;have nd:=xI.nd;refine⟨_,(aF (bC 2 nd (aJ rB (aJ aT (pv 0) aC (λ_ _=>rfl)) (bK (MH T) hr T.xZ a8 (aA (pv 0) (aA (pv 1) aB))) (λ_ _=>rfl)))
  (aH (aU (aJ bA (pv 2) (aO dB (uJ PySem.F.plainAttrs_list PySem.F.slot_list_index PySem.F.type_list_index A6 (pv 2) (aA (bK (oY T) hr T.gM a8 (aA (pv 1) aB)) aB)) aC) (λ_ _=>rfl))))),?_⟩
 obtain⟨tA,oA,hw1,ht,ho⟩:=id hw;have hp:=g.g.has (MM.oth e) (MM.jG he);obtain⟨xs,r,h1,h2,h3,h4⟩:=ho.item hp.1;refine(aI _ rfl wa _ _ (.ref oA) rfl (tS rfl (SqT.of hw1) rfl _ rfl _ rfl (fE wa n ts os e rfl hw ⟨ he,.inl (aS oA xs _ _ rfl rfl (SqL.of h1) ⟨ h3,?_⟩)⟩)));exact(kZ _ rfl _ rfl (.inl ⟨rfl,_,SqL.of h4⟩) _ rfl (fF e rfl r _ _ rfl rfl (D9 h4 hp.2 _ _ rfl rfl (aS r _ _ _ rfl rfl (SqL.of h4) ⟨ FL hp.2,q⟩))))
def CK:Sp:=λvs H Q _=>∃(wa:Addr) (n:Nat) (ts:MM.aY) (os:MM.dM) (e:Nat),vs=[.ref wa,vn e]/\qC H wa n ts os/\MM.Good ts os/\ts.length<=45000/\e<2*ts.length/\∀r,H r=none->Q (.ref r) (upd H r (.lst (vns (MM.a9 (MM.behind ts os) e))))
theorem A1(T:Txt K mg t):cJ P w K mg base CX0 4 t.sR t.sG ["web","first"] CK:=by
 refine T.rY.F.ok oP (λvs H Q E h=>?_) (λcdv A outer s H vs Q E hr h=>?_)
 ·obtain⟨wa,n,ts,os,e,rfl,_⟩:=h;rfl
 obtain⟨wa,n,ts,os,e,rfl,hw,g,h500,he,q⟩:=h;have nd:=oP.nd;refine⟨_,(aF (bC 2 nd (bN (aA (pv 1) aB)))
  (aF (bC 3 nd (bK (qX T) hr T.pQ a8 (aA (pv 0) (aA (pv 1) aB))))
  (aF (jO PassesOwn.never (aV lO (pv 3) (pv 1) (a7 _)) (aF (cF (jQ mAp bP (pv 2) (aA (pv 3) aB)))
  (aH (bC 3 nd (bK (qX T) hr T.pQ a8 (aA (pv 0) (aA (pv 3) aB)))))))
  (aH (aU (pv 2)))))),?_⟩
 have m:=g.maps;obtain⟨rd,rdN⟩:=MM.fV m he;refine⟨_,rfl,(by show 1<=ZW;decide),λla hla=>?_⟩;have g1:=aG hla (.lst [vn e]);refine⟨_,rfl,_,(k6 rfl wa n ts os e rfl ⟨ g1.web hw,g,he,?_⟩)⟩;generalize hf:MM.behind ts os=f at m rd rdN q;refine⟨λk σ H4=>∃j,k=MM.per f e-j/\0<j/\j<=MM.per f e/\σ=[some (.ref wa),some (vn e),some (.ref la),some (vn (MM.iter f j e))]/\H4=upd H la (.lst (vns (MM.path f e j))),(cE _ 1 rfl Nat.one_pos rd.1 rfl rfl),?_⟩;rintro k σ H4 ⟨j,rfl,hj0,hj,rfl,rfl⟩;refine(kZ _ rfl _ rfl rfl _ rfl ?_);by_cases hc:MM.iter f j e=e
 ·refine cR (by rw[hc];simp) ?_;have ej:j=MM.per f e:=by
   rcases Xq j (MM.per f e) with z | z
   ·exact absurd hc (rd.2.2 j hj0 z)
   ·lia
  subst ej;exact⟨_,rfl,q la hla⟩
 ·refine eJ (by simp;lia) ?_;have hjp:=MM.uD rd hj0 hj hc;refine⟨_,λσ' H' h=>h,?_⟩;refine(fQ _ rfl (.inl ⟨rfl,_,SqL.of aE⟩) _ rfl (bG la _ _ rfl rfl aE ?_ ?_))
  ·rw[Zq,MM.lN];exact Ys (by lia:j<=90000) (by decide)
  have e7:vns (MM.path f e j)++[vn (MM.iter f j e)]=vns (MM.path f e (j+1)):=by rw[MM.qS,yV];rfl
  rw[e7,kD];refine⟨_,rfl,_,(k6 rfl wa n ts os (MM.iter f j e) rfl ⟨ (aG hla _).web hw,g,MM.kP m he j,?_⟩)⟩;rw[hf];exact(AA (MM.per f e-(j+1)) (by lia) (j+1) rfl (by lia) (by lia) rfl rfl)
end K49
namespace MM
theorem BM{p:Nat->Bool}{N i:Nat}(hi:i<N)(h0:∀j,j<i->p j=false)(h1:p i=true):∃r,(List.range N).filter p=i::r:=by
 have e:N=(i+1)+(N-(i+1)):=by omega
 rw[e,List.range_add,List.range_succ,List.filter_append,List.filter_append];have e1:(List.range i).filter p=[]:=by
  rw[List.filter_eq_nil_iff];intro a ha;rw[h0 a (Zs.mp ha)];exact Bool.false_ne_true
 rw[e1,List.nil_append,List.filter_cons,if_pos h1];exact⟨_,rfl⟩
end MM
namespace K49
open PySem L2 PyProof.Rows
def LC:Sp:=λvs H Q _=>∃(wa:Addr) (n:Nat) (ts:MM.aY) (os:MM.dM),vs=[.ref wa]/\qC H wa n ts os/\MM.Good ts os/\ts.length<=45000 /\
 ∀(r:Addr) (rr:List Addr) (H':Hp),aW H H'->fP H H' r rr (MM.eO (MM.behind ts os) (2*ts.length))->Q (.ref r) H'
theorem oZ(T:Txt K mg t):cJ P w K mg base CX0 5 t.FP t.FG ["web"] LC:=by
 refine T.pN.F.ok AL (λvs H Q E h=>?_) (λcdv A outer s H vs Q E hr h=>?_)
 ·obtain⟨wa,n,ts,os,rfl,_⟩:=h;rfl
 obtain⟨wa,n,ts,os,rfl,hw,g,h500,q⟩:=h;have nd:=AL.nd;have nd_end:(["end"]:List Str).Nodup:=by decide
 refine⟨_,(aF (bC 1 nd (bN aB))
  (aF (bU (i:=2) nd rfl (Or.inl rfl)  (N':=["end"]) (js:=[none]) rfl (bH rfl T.bW (aA (aO cX aC (aQ aN rfl T.b7 PySem.boot_len (aA (aJ aT (pv 0) aC (λ_ _=>rfl)) aB))) aB)) (λ_ _ _ _ _=>(aK (i:=0) nd_end rfl (Or.inl rfl))) (λ_ _ _ _ _=>b9) (λ_ _ _ _ _=>cO))
  (aF (cQ PassesOwn.never rfl (bH rfl T.bW (aA (aO cX aC (aQ aN rfl T.b7 PySem.boot_len (aA (aJ aT (pv 0) aC (λ_ _=>rfl)) aB))) aB)) (aK (i:=3) nd rfl (Or.inl rfl)) (aH (b8 (eM (cP (aJ bA (pv 2) (pv 3) (λ_ _=>rfl)) (λ_=>rfl))) (aF (bC 4 nd (bK (A1 T) hr T.rY a8 (aA (pv 0) (aA (pv 3) aB))))
  (aF (cQ PassesOwn.never rfl (bJ (pv 4)) (aK (i:=5) nd rfl (Or.inl rfl)) (aH (qR cO (CZ (pv 2) (pv 5) set_list))))
  (aH (cF (jQ mAp bP (pv 1) (aA (pv 4) aB)))))) bD)))
  (aH (aU (pv 1)))))),?_⟩
 have m:=g.maps;obtain⟨tA,oA,hw1,ht,ho⟩:=id hw;obtain⟨tr,tr1,tr2,tr3⟩:=id ht;have eN:(2:Int)*((tr.map V.ref).length:Nat)=((2*ts.length:Nat):Int):=by rw[Zq,tr2];push_cast;rfl
 refine⟨(by show 0<=ZW;decide),λD1 hD1=>?_⟩;have g1:=aG hD1 (.lst []);refine(aI _ rfl wa _ _ (.ref tA) rfl (bY rfl (SqT.of (g1 _ _ hw1)) rfl tA _ rfl (.inl (SqL.of (g1 _ _ tr1))) (gH _ _ rfl rfl (.inl ⟨by decide,by decide⟩) _ rfl ⟨ ?_,?_,λD2 hD2=>?_⟩)))
 ·show -(2 ^ 62)<=(2:Int)*((tr.map V.ref).length:Nat);lia
 ·show(2:Int)*((tr.map V.ref).length:Nat)<2 ^ 62;rw[eN];lia
 have eN2:((2:Int)*((tr.map V.ref).length:Nat)).toNat=2*ts.length:=by rw[eN];exact Int.toNat_natCast _
 generalize hf:MM.behind ts os=f at m q;generalize hN:2*ts.length=N at m q eN eN2;refine comp_map N (λi ys H'=>ys=(List.replicate i false).map V.bl/\H'=upd (upd H D1 (.lst [])) D2 (.lst ys)) ⟨rfl,rfl⟩ ?_ ?_
 ·rintro i ys H' hi ⟨rfl,rfl⟩;refine⟨(by show i<((2:Int)*((tr.map V.ref).length:Nat)).toNat;lia),?_⟩;rintro x H'' ⟨rfl,rfl⟩;refine⟨(Fills.refl _).set _ rfl,aE,?_,?_,?_⟩
  ·rw[Zq,List.length_replicate];exact Yt hi (Yr (by lia:N<=90000) (by decide))
  ·rw[List.replicate_succ',Zt];rfl
  ·rw[kD]
 rintro ys H2 ⟨rfl,rfl⟩;refine⟨(by show((2:Int)*((tr.map V.ref).length:Nat)).toNat<=N;lia),?_⟩;have g2':=aG hD2 (.lst ((List.replicate N false).map V.bl));have g2:=g1.trans g2';have nD:D1≠D2:=aP aE hD2;have n0:fP H (upd (upd H D1 (.lst [])) D2 (.lst ((List.replicate N false).map V.bl))) D1 [] []:=⟨g2' _ _ aE,rfl,λi l h=>by simp at h,List.nodup_nil,by simp,hD1,λx hx=>by cases hx⟩
 have e0:(upd (upd H D1 (.lst [])) D2 (.lst ((List.replicate N false).map V.bl))) D2=some (.lst ((List.replicate N false).map V.bl)):=aE;have hD2H:H D2=none:=g1.free hD2;generalize upd (upd H D1 (.lst [])) D2 (.lst ((List.replicate N false).map V.bl))=H2 at g2 n0 e0;clear g2' hD2 g1;refine(aI _ rfl wa _ _ (.ref tA) rfl (bY rfl (SqT.of (g2 _ _ hw1)) rfl tA _ rfl (.inl (SqL.of (g2 _ _ tr1))) (gH _ _ rfl rfl (.inl ⟨by decide,by decide⟩) _ rfl ⟨ ?_,?_,?_⟩)))
 ·show -(2 ^ 62)<=(2:Int)*((tr.map V.ref).length:Nat);lia
 ·show(2:Int)*((tr.map V.ref).length:Nat)<2 ^ 62;rw[eN];lia
 refine dJ (lo:=0) (n:=((2:Int)*((tr.map V.ref).length:Nat)).toNat) (λi σ H'=>∃(rr:List Addr) (done:MM.dM) (sn:List Bool) (o3 o4 o5:Option V),σ=[some (.ref wa),some (.ref D1),some (.ref D2),o3,o4,o5]/\aW H H'/\fP H H' D1 rr done/\D2∉rr /\
   H' D2=some (.lst (sn.map V.bl))/\sn.length=N/\done++MM.lf f ((List.range N).filter λx=>!sn.getD x false)=MM.eO f N/\∀j,j<i->sn.getD j false=true)
  (bE ([]) ([]) (List.replicate N false) none none none rfl (tE g2 n0 (by simp) e0 (by simp) ?_ (λj hj=>absurd hj (Nat.not_lt_zero _)))) ?_ ?_
 ·have e:(List.range N).filter (λx=>!(List.replicate N false).getD x false)=List.range N:=by
   rw[List.filter_eq_self];intro a ha;have:=Zs.mp ha;simp[Zv,List.getElem?_replicate,this]
  rw[e];rfl
 ·rintro i σ H3 hi ⟨rr,done,sn,o3,o4,o5,rfl,g3,n3,dr,es,sl,eq,hs⟩;rw[eN2]at hi;have hi0:(0:Int)+(i:Int)=(i:Int):=Int.zero_add _;rw[hi0];have hat:atI (sn.map V.bl) (i:Int)=some (.bl (sn.getD i false)):=eG (by rw[Zk,Zv,Zz (show i<sn.length by lia)];rfl);refine⟨_,rfl,(aI _ rfl D2 _ _ _ rfl (bZ rfl (SqL.of es) hat _ rfl ?_))⟩;cases hb:sn.getD i false with
  |true =>
   refine cR rfl ?_;refine(bE rr done sn _ _ _ rfl (tE g3 n3 dr es sl eq (λj hj=>?_)));rcases Xq j i with z | z
   ·exact hs j z
   ·have:j=i:=by lia
    subst this;exact hb
  |false =>
   refine eJ rfl ?_;refine⟨_,rfl,_,(k6 rfl wa n ts os i rfl ⟨ g3.web hw,g,h500,by lia,λla hla=>?_⟩)⟩;rw[hf];have gl:=aG hla (.lst (vns (MM.a9 f i)));have lanD1:la≠D1:=(aP n3.at_ hla).symm;have lanD2:la≠D2:=(aP es hla).symm;have lar:la∉rr:=λz=>by obtain⟨l,hl⟩:=n3.ex z;rw[hla]at hl;cases hl
   have hll:=MM.pE m hi;have lan:=MM.uY m hi;have lal:=(MM.BD m hi).2;have selfl:=MM.xE m hi;refine(bO _ rfl la rfl ⟨_,SqL.of aE⟩ (fI (xs:=vns (MM.a9 f i)) (λj σ H'=>∃(sn':List Bool) (o5:Option V),σ=[some (.ref wa),some (.ref D1),some (.ref D2),some (vn i),some (.ref la),o5]/\H'=upd (upd H3 la (.lst (vns (MM.a9 f i)))) D2 (.lst (sn'.map V.bl))/\sn'.length=N /\
     ∀x,sn'.getD x false=(sn.getD x false||decide (x∈(MM.a9 f i).take j)))
    (aZ sn _ rfl ?_ sl (λx=>by simp)) (λj σ H' _ h=>by obtain⟨sn',o,_,rfl,_⟩:=h;exact SqL.of (by rw[aL lanD2];exact aE)) ?_ ?_))
   ·funext b
    by_cases hb':b=D2
    ·subst hb';rw[aE];exact gl _ _ es
    ·rw[aL hb']
   ·rintro j x σ H' hx ⟨sn',o,rfl,rfl,sl',hsn⟩;obtain⟨hj,ej⟩:=Zj.mp hx;rw[Zq]at hj;have ex:x=vn (MM.a9 f i)[j]:=by rw[<-ej];simp
    subst ex;have hxN:=hll _ (Zp hj);refine⟨_,rfl,(aI _ rfl D2 _ _ ((MM.a9 f i)[j]) rfl (bY rfl aE (EW (by rw[Zq];lia)) (sn'.set (MM.a9 f i)[j] true) _ rfl ?_ ⟨ by rw[List.length_set];exact sl',λy=>?_⟩))⟩
    ·rw[kD,List.map_set]
    ·have hmem:y∈(MM.a9 f i).take (j+1)↔y∈(MM.a9 f i).take j\/y=(MM.a9 f i)[j]:=by
      rw[List.take_add_one,Zz hj,Zf];simp
     by_cases hy:(MM.a9 f i)[j]=y
     ·subst hy;rw[MM.wW (by lia)];simp[hmem]
     ·rw[MM.BL hy,hsn y];have:(y∈(MM.a9 f i).take (j+1))=(y∈(MM.a9 f i).take j):=by
       rw[eq_iff_iff,hmem];constructor
       ·rintro(z | z)
        ·exact z
        ·exact absurd z.symm hy
       ·exact .inl
      simp only[this]
   ·rintro σ H' ⟨sn',o,rfl,rfl,sl',hsn⟩;rw[Zq,Yv]at hsn;have n4:fP H (upd (upd H3 la (.lst (vns (MM.a9 f i)))) D2 (.lst (sn'.map V.bl))) D1 rr done:=n3.keep λb u hb h=>by
     rw[aL (show b≠D2 by rcases hb with rfl | hb;exact nD;rintro rfl;exact dr hb)];exact gl _ _ h
    have g4:aW H (upd (upd H3 la (.lst (vns (MM.a9 f i)))) D2 (.lst (sn'.map V.bl))):=λb u h=>by rw[aL (aP h hD2H)];exact gl _ _ (g3 _ _ h)
    have la4:(upd (upd H3 la (.lst (vns (MM.a9 f i)))) D2 (.lst (sn'.map V.bl))) la=some (.lst (vns (MM.a9 f i))):=by rw[aL lanD2];exact aE
    have es4:(upd (upd H3 la (.lst (vns (MM.a9 f i)))) D2 (.lst (sn'.map V.bl))) D2=some (.lst (sn'.map V.bl)):=aE;generalize upd (upd H3 la (.lst (vns (MM.a9 f i)))) D2 (.lst (sn'.map V.bl))=H4 at n4 g4 la4 es4;have hdl:done.length<=N:=by
     have h1:=MM.zH m _ (List.range N) (Nat.le_refl _) (λx hx=>Zs.mp hx);have h2:=congrArg List.length eq;rw[Zm]at h2;unfold MM.eO at h2;rw[Yj]at h1
     lia
    refine(fQ _ rfl (.inl ⟨rfl,_,SqL.of n4.at_⟩) _ rfl (bG D1 _ _ rfl rfl n4.at_ ?_ ?_))
    ·rw[Zq,n4.len];exact Ys (by lia:done.length<=90000) (by decide)
    have n5:=n4.push (x:=la) (l:=MM.a9 f i) (H2:=upd H4 D1 (.lst (rr.map V.ref++[.ref la]))) (g3.free hla) lar lanD1 (by rw[aE,Zt];rfl) (by rw[aL lanD1];exact la4) λb u hb h=>by rw[aL (show b≠D1 from λz=>n4.nin (z▸hb))];exact h
    refine(bE (rr++[la]) (done++[MM.a9 f i]) sn' _ _ _ rfl (tE ?_ n5 ?_ ?_ sl' ?_ (λj hj=>?_)))
    ·exact λb u h=>by rw[aL (aP h hD1)];exact g4 _ _ h
    ·intro z;rcases Zf.mp z with z | z
     ·exact dr z
     ·have:D2=la:=by simpa using z
      exact lanD2 this.symm
    ·rw[aL (Ne.symm nD)];exact es4
    ·obtain⟨r,hr'⟩:=MM.BM (p:=λx=>!sn.getD x false) hi (λj hj=>by rw[hs j hj];rfl) (by rw[hb];rfl);have e2:(List.range N).filter (λx=>!sn'.getD x false)=(i::r).filter λx=>decide (x∉MM.a9 f i):=by
      rw[<-hr',List.filter_filter];refine List.filter_congr λx _=>?_;rw[hsn x];by_cases z:x∈MM.a9 f i<;>simp[z]
     rw[hr',MM.pD m (λx hx=>by rw[<-hr']at hx;exact Zs.mp (Yz.mp hx).1)]at eq;rw[Yb,e2];exact eq
    ·rw[hsn j];rcases Xq j i with z | z
     ·rw[hs j z];rfl
     ·have:j=i:=by lia
      subst this;simp[selfl]
 ·rintro σ H3 ⟨rr,done,sn,o3,o4,o5,rfl,g3,n3,dr,es,sl,eq,hs⟩;rw[eN2]at hs;have e:(List.range N).filter (λx=>!sn.getD x false)=[]:=by
   rw[List.filter_eq_nil_iff];intro a ha;rw[hs a (Zs.mp ha)];exact Bool.false_ne_true
  rw[e,MM.JR,List.append_nil]at eq;exact⟨_,rfl,q D1 rr H3 g3 (eq▸n3)⟩
end K49
namespace MM
end MM
namespace L2
open PySem PyProof.Rows
def dT(ts:MM.aY):List PyData:=ts.map λt=>.tuple [.int (t.1:Int),.int (t.2:Int)]
theorem KS{K:PySem.W.Frag}{H:Hp}:∀(xs:List V) (ds:List PyData),xs.length=ds.length->(∀(i:Nat) x d,xs[i]?=some x->ds[i]?=some d->Bd K H x d)->Bds K H xs ds
 |[],[],_,_=>.nil
 |[],_::_,h,_=>by cases h
 |_::_,[],h,_=>by cases h
 |x::xs,d::ds,h,f=>.cons (f 0 x d rfl rfl) (KS xs ds (by simpa using h) λi x' d' h1 h2=>f (i+1) x' d' h1 h2)
theorem FK{K:PySem.W.Frag}{H:Hp}{a:Addr}{ts:MM.aY}(h:nZ H a ts):Bd K H (.ref a) (.list (dT ts)):=by
 obtain⟨tr,h1,h2,h3⟩:=h;refine .lst (SqL.of h1) (KS _ _ (by unfold dT;rw[Zq,Zq,h2]) λi x d hx hd=>?_);unfold dT at hd;rw[Zk]at hx hd;cases ht:ts[i]? with
 |none=>rw[ht]at hd;cases hd
 |some u =>
  rw[ht]at hd;cases hd;obtain⟨r,q1,q2⟩:=h3 i u ht;rw[q1]at hx;cases hx;exact .tup (SqT.of q2) (.cons (.int _) (.cons (.int _) .nil))
theorem KM(ts:MM.aY):PyData.canLayAll0 (dT ts)=true/\PyData.depthAll (dT ts)<=3:=tI 3 λd hd=>by
 obtain⟨n,_,rfl⟩:=Zh.mp hd;exact⟨rfl,by simp[PyData.depth,PyData.depthAll]⟩
end L2
namespace MM
end MM
namespace K49
open PySem L2 PyProof.Rows
noncomputable def flB(n:Nat)(ts:MM.aY)(os:MM.dM):Bool:=decide (V.int ((n:Int)+((MM.kL ts os:Nat):Int))=V.int ((ts.length:Nat)+2))
def OS:Sp:=λvs H Q _=>∃(wa:Addr) (n:Nat) (ts:MM.aY) (os:MM.dM),vs=[.ref wa]/\qC H wa n ts os/\MM.Good ts os/\ts.length<=45000/\∀(H':Hp),aW H H'->Q (.bl (flB n ts os)) H'
theorem MI(T:Txt K mg t):cJ P w K mg base CX0 6 t.yQ t.yB ["web"] OS:=by
 refine T.xY.F.ok CO (λvs H Q E h=>?_) (λcdv A outer s H vs Q E hr h=>?_)
 ·obtain⟨wa,n,ts,os,rfl,_⟩:=h;rfl
 obtain⟨wa,n,ts,os,rfl,hw,g,h500,q⟩:=h;obtain⟨tA,oA,h1,h2,h3⟩:=id hw;obtain⟨tr,t1,t2,t3⟩:=id h2;refine⟨_,(aH (aU (dZ gJ (aO bV (aJ rB (pv 0) aC (λ_ _=>rfl)) (aQ aN rfl T.b7 PySem.boot_len (aA (bK (oZ T) hr T.pN a8 (aA (pv 0) aB)) aB))) (aO bV (aQ aN rfl T.b7 PySem.boot_len (aA (aJ rB (pv 0) aC (λ_ _=>rfl)) aB)) aC) (a7 _)))),?_⟩;refine⟨_,rfl,.inr (.inl (aS wa _ _ _ rfl rfl (SqT.of h1) ⟨ rfl,?_⟩))⟩;refine(aI _ rfl wa n ts os rfl ⟨ hw,g,h500,λr rr H' g1 n1=>(dH r _ rfl (.inl (SqL.of n1.at_)) _ _ rfl ⟨ rfl,?_⟩)⟩);refine⟨_,rfl,.inr (.inl (aS wa _ _ _ rfl rfl (SqT.of (g1 _ _ h1)) ⟨ rfl,?_⟩))⟩;refine(dH tA _ rfl (.inl (SqL.of (g1 _ _ t1))) _ _ rfl ⟨ rfl,rfl,?_⟩);have:=q H' g1;unfold flB MM.kL at this;rw[<-n1.len,<-t2]at this;simpa only[Zq] using this
end K49
namespace L2
open PySem PyProof.Rows
theorem LM(m:Nat)(c:Int):(List.range m).map (λ_=>V.int c)=(List.replicate m c).map V.int:=by
 apply Yp;intro i;by_cases h:i<m
 ·simp[h]
 ·simp[h]
theorem FN{m:Nat}{c:Int}{e:Nat}(h:e<m):at0 (List.replicate m c) e=c:=by unfold at0;simp[List.getD,h]
theorem l9{d:List Nat}{i:Nat}(h:i<d.length):(vns d)[i]?=some (vn (d.getD i 0)):=by
 rw[Zk,Zz h];simp[List.getD,h]
theorem getD_mem{d:List Nat}{i:Nat}(h:i<d.length):d.getD i 0∈d:=by simp[List.getD,h]
end L2
namespace K49
open PySem L2 PyProof.Rows
def RB:Sp:=λvs H Q _=>∃h:Int,vs=[.int h]/\Q (.int ((h+2)%4)) H
theorem PV(T:Txt K mg t):cJ P w K mg base CX0 1 t.vZ t.vL ["head"] RB:=by
 refine T.vF.F.ok AK (λvs H Q E h=>?_) (λcdv A outer s H vs Q E hr h=>?_)
 ·obtain⟨e,rfl,_⟩:=h;rfl
 obtain⟨h,rfl,q⟩:=h;refine⟨_,(aH (aU (aO cI (aO bV (pv 0) aC) (iW (v:=.int 4) rfl T.bQ ⟨_,rfl⟩)))),?_⟩;exact(bF _ rfl _ _ rfl rfl (aZ _ _ rfl rfl (by show(0:Int)<4;decide) q))
end K49
namespace AW
open MM
def cT(ts:aY):Ts:=ts.map λt=>((t.1:Int),(t.2:Int))
theorem nY(ts:aY):(cT ts).length=ts.length:=Zq _
theorem IW{ts:aY}{e:Nat}(h:e<2*ts.length):plc (cT ts) e=(place ts e:Int):=by
 have hi:e / 2<ts.length:=by lia
 unfold plc place cT;rw[Zk,Zz hi,Zv,Zz hi];simp only[Option.map_some,Option.getD_some];split<;>rfl
end AW
namespace L2
open PySem
def hx(hs:List Int)(x:Nat):Int:=(at0 hs (x / 2)+2*((x%2:Nat):Int))%4
theorem P7(hs:List Int)(x:Nat):0<=hx hs x/\hx hs x<4:=⟨Xj _ (by decide),Xk _ (by decide)⟩
structure SH(T:MM.aY)(hs:List Int)(m:Nat)(os:MM.dM):Prop where
 len:os.length=m
 mem:∀p,p<m->∀e,e∈MM.row os p↔e<2*T.length/\MM.place T e=p
 srt:∀p,p<m->(MM.row os p).Pairwise λa b=>hx hs a<hx hs b
theorem R0{hs:List Int}{r:List Nat}(s:r.Pairwise λa b=>hx hs a<hx hs b):r.Nodup:=s.imp λ{a b} h q=>by rw[q]at h;lia
theorem E2{hs:List Int}{r:List Nat}(s:r.Pairwise λa b=>hx hs a<hx hs b):r.length<=4:=by
 have h:=MM.lQ 4 (r.map λa=>(hx hs a).toNat) (List.Pairwise.map _ (λa b (q:hx hs a<hx hs b) z=>by
  have:=P7 hs a;have:=P7 hs b;lia) s) (λy hy=>by
  obtain⟨a,_,rfl⟩:=Zh.mp hy;have:=P7 hs a;show(hx hs a).toNat<4
  lia)
 rw[Zq]at h;exact h
def cx(T:MM.aY)(hs:List Int)(os:MM.dM)(y:Nat):Int:=(hx hs (MM.oth y)-hx hs (MM.behind T os y)-1)%4+1
def eE(T:MM.aY)(p:Nat):List Nat:=(List.range (2*T.length)).filter λe=>decide (MM.place T e=p)
theorem c6{T:MM.aY}{p e:Nat}:e∈eE T p↔e<2*T.length/\MM.place T e=p:=by
 unfold eE;rw[Yz,Zs,decide_eq_true_iff]
theorem BQ(T:MM.aY)(p:Nat):AW.endsAt (AW.cT T) (p:Int)=(eE T p).map λn:Nat=>(n:Int):=by
 unfold AW.endsAt AW.all2 eE;rw[List.filter_map,AW.nY];congr 1;refine List.filter_congr λe he=>?_;show(AW.plc (AW.cT T) ((e:Int)).toNat==(p:Int))=_;rw[Int.toNat_natCast,AW.IW (Zs.mp he)];by_cases z:MM.place T e=p
 ·rw[z];simp
 ·rw[decide_eq_false z];exact beq_false_of_ne λq=>z (by lia)
def hle(hs:List Int)(a b:Nat):Bool:=decide (hx hs a<=hx hs b)
def cK(T:MM.aY)(hs:List Int)(m:Nat):MM.dM:=(List.range m).map λp=>(eE T p).mergeSort (hle hs)
def Dst(T:MM.aY)(hs:List Int):Prop:=∀a b,a<2*T.length->b<2*T.length->MM.place T a=MM.place T b->hx hs a=hx hs b->a=b
theorem iD(hs:List Int)(l:List Nat):(l.mergeSort (hle hs)).Perm l:=List.mergeSort_perm l _
theorem CJ(hs:List Int)(l:List Nat):(l.mergeSort (hle hs)).Pairwise λa b=>hx hs a<=hx hs b:=by
 have:=List.pairwise_mergeSort (le:=hle hs) (λa b c h1 h2=>by
  unfold hle at *;simp only[decide_eq_true_eq]at *
  lia) (λa b=>by
  unfold hle;simp only[Bool.or_eq_true,decide_eq_true_eq]
  lia) l
 exact this.imp λh=>of_decide_eq_true h
theorem uC{T:MM.aY}{hs:List Int}{m p:Nat}(hp:p<m):MM.row (cK T hs m) p=(eE T p).mergeSort (hle hs):=by
 unfold MM.row cK;rw[Zv,Zk,Yk hp];rfl
theorem EJ{T:MM.aY}{hs:List Int}{m:Nat}(D:Dst T hs):SH T hs m (cK T hs m):=by
 refine⟨by unfold cK;rw[Zq,Yj],λp hp e=>?_,λp hp=>?_⟩
 ·rw[uC hp,(iD hs _).mem_iff];exact c6
 ·rw[uC hp];have nd:((eE T p).mergeSort (hle hs)).Nodup:=(iD hs _).nodup_iff.mpr (List.nodup_range.filter _);refine((CJ hs (eE T p)).and nd).imp_of_mem λ{a b} ha hb h=>?_;have ha:=c6.mp ((iD hs _).mem_iff.mp ha);have hb:=c6.mp ((iD hs _).mem_iff.mp hb);rcases Int.lt_or_eq_of_le h.1 with z | z
  ·exact z
  ·exact absurd (D a b ha.1 hb.1 (ha.2.trans hb.2.symm) z) h.2
theorem uM{R:Nat->Nat->Prop}:∀{l1 l2:List Nat},l1.Perm l2->l1.Pairwise R->l2.Pairwise R->(∀a∈l1,∀b∈l1,R a b->R b a->a=b)->l1=l2
 |[],l2,p,_,_,_=>by rw[List.nil_perm.mp p]
 |a::r,[],p,_,_,_=>by have:=p.length_eq;simp at this
 |a::r,b::q,p,s1,s2,h=>by
  have e:a=b:=by
   have ha:a∈b::q:=p.mem_iff.mp Zd;have hb:b∈a::r:=p.mem_iff.mpr Zd;rcases Zn.mp ha with z | z
   ·exact z
   ·rcases Zn.mp hb with w | w
    ·exact w.symm
    ·exact h a Zd b hb ((List.pairwise_cons.mp s1).1 b w) ((List.pairwise_cons.mp s2).1 a z)
  subst e;rw[uM (List.perm_cons a |>.mp p) (List.pairwise_cons.mp s1).2 (List.pairwise_cons.mp s2).2 λx hx y hy=>h x (Zw _ hx) y (Zw _ hy)]
theorem HY{T:MM.aY}{hs:List Int}{p:Nat}(D:Dst T hs){g:Int->Int}(hg:∀e∈eE T p,g (e:Int)=hx hs e){ns:List Int}(h1:ns.Perm ((eE T p).map λn:Nat=>(n:Int)))(h2:ns.Pairwise λx y=>g x<=g y) :
  ns=((eE T p).mergeSort (hle hs)).map λn:Nat=>(n:Int):=by
 have e0:ns=(ns.map Int.toNat).map λn:Nat=>(n:Int):=by
  rw[Yh];refine(List.map_id ns).symm.trans (Yn λx hx=>?_);obtain⟨k,_,rfl⟩:=Zh.mp (h1.mem_iff.mp hx);simp
 have pm:(ns.map Int.toNat).Perm (eE T p):=by
  have:=h1.map Int.toNat;rw[Yh,show(Int.toNat∘λn:Nat=>(n:Int))=id from funext λn=>by simp,List.map_id]at this;exact this
 rw[e0];congr 1;refine uM (R:=λa b=>hx hs a<=hx hs b) (pm.trans (iD hs _).symm) ?_ (CJ hs _) λa ha b hb q1 q2=>?_
 ·rw[e0,List.pairwise_map]at h2;refine h2.imp_of_mem λ{a b} ha hb h=>?_;rw[hg a (pm.mem_iff.mp ha),hg b (pm.mem_iff.mp hb)]at h;exact h
 ·have ha:=c6.mp (pm.mem_iff.mp ha);have hb:=c6.mp (pm.mem_iff.mp hb);exact D a b ha.1 hb.1 (ha.2.trans hb.2.symm) (by lia)
end L2
namespace L2
open PySem PySem.Spec PyProof.Rows
theorem Tb.upd{tp:Addr}{pos:Pos}{qual:Str}{H:Hp}{D:Addr}{xs ys:List V}(h:Tb tp pos qual H)(hD:H D=some (.lst xs)):Tb tp pos qual (upd H D (.lst ys)):=by
 obtain⟨ps,h1,h2,h3⟩:=h;refine⟨ps,?_,h2,h3.imp id λ⟨c,e1,e2⟩=>⟨c,e1,?_⟩⟩
 ·rw[aL (rW h1 hD (by intro z;cases z))];exact h1
 ·rw[aL (rW e2 hD (by intro z;cases z))];exact e2
theorem bT.fresh{H H':Hp}(g:bT H H'){x:Addr}(hx:H x=none)(o:HO):bT H (upd H' x o):=λb u h=>by rw[aL (aP h hx)];exact g b u h
theorem DT{J:It}{js:List (Option Nat)}{σ:St}{H1:Hp}{R:Hp->Prop}{D tp:Addr}{pos:Pos}{qual:Str}{g:TG}{te:TE}(n:Nat)(fs:Nat->List V)(hD:H1 D=none)(hn:n<=100000)(hT:Tb tp pos qual H1)
  (go:∀i H',i<n->bT H1 H'->J.go i H') (stop:∀H',bT H1 H'->J.stop n H')
  (hs:∀i H' x H'' (k:V->Hp->Prop),i<n->bT H1 H'->Tb tp pos qual H'->J.yld i H' x H''->(∀a H4,H' a=none->bT H' H4->Tb tp pos qual H4->H4 a=some (.lst (fs i))->k (.ref a) H4)->g x (inner js σ) H'' λσ2 H2=>Fills (inner js σ) σ2/\te σ2 H2 k)
  (hd:∀(rr:List Addr) H',dU H1 H' D rr ((List.range n).map fs)->bT H1 H'->Tb tp pos qual H'->R H') :
  ∃W:Nat->Nat->List V->Hp->Prop,(∃m,W 0 m [] (L2.upd H1 D (.lst []))) /\
   ∀i m ys H,W i m ys H->(J.stop i H/\R H)\/(J.go i H/\∃N:List V->Hp->Prop,(∀ys' H',N ys' H'->∃m',m' < m/\W (i+1) m' ys' H')/\∀x H',J.yld i H x H'->g x (inner js σ) H' λσ2 H2=>Fills (inner js σ) σ2/\rO σ2 H2 λb H3 =>
    if b=true then te σ2 H3 λy H4=>H4 D=some (.lst ys)/\ys.length<ZW/\N (ys++[y]) (L2.upd H4 D (.lst (ys++[y]))) else N ys H3):=by
 refine comp_map n (λi ys H'=>∃rr:List Addr,ys=rr.map V.ref/\dU H1 H' D rr ((List.range i).map fs)/\bT H1 H'/\Tb tp pos qual H') ⟨[],rfl,⟨aE,rfl,λi l h=>by simp at h,List.nodup_nil,by simp,hD,by simp⟩,(aG hD _).st,hT.same (aG hD _)⟩ ?_ ?_
 ·rintro i ys H' hi ⟨rr,rfl,w,g1,t1⟩;have hl:rr.length=i:=by rw[w.len];simp
  refine⟨go i H' hi g1,λx H'' hy=>hs i H' x H'' _ hi g1 t1 hy λa H4 ha g4 t4 e4=>⟨g4.l w.at_,?_,rr++[a],?_,?_,?_,t4.upd (g4.l w.at_)⟩⟩
  ·rw[Zq,hl];exact Yt hi (Yr hn (by decide))
  ·rw[Zt];rfl
  ·have aD:a≠D:=λz=>by rw[z,w.at_]at ha;cases ha
   have ain:a∉rr:=λz=>by
    obtain⟨j,hj,e⟩:=Yy.mp z;have hj':j<((List.range i).map fs).length:=w.len▸hj;obtain⟨y,h1,h2⟩:=w.row j _ (Zz hj');rw[Zz hj,e]at h1;cases h1;rw[ha]at h2;cases h2
   refine⟨by rw[Zt];exact aE,by simp[hl],λj l h=>?_,?_,?_,hD,?_⟩
   ·by_cases hj:j<i
    ·have e:((List.range (i+1)).map fs)[j]?=((List.range i).map fs)[j]?:=by simp[hj,YQ hj]
     rw[e]at h;obtain⟨y,h1,h2⟩:=w.row j l h;have yD:y≠D:=λz=>w.nin (z▸Zg h1);exact⟨y,by rw[Zx (by lia)];exact h1,by rw[aL yD];exact g4.l h2⟩
    ·have hj2:j=i:=by
      have:=(Zj.mp h).1;simp at this;lia
     subst hj2;have e:l=fs j:=by simpa using h.symm
     subst e;exact⟨a,by rw[<-hl,Yx],by rw[aL aD];exact e4⟩
   ·rw[List.nodup_append];refine⟨w.nd,by simp,λb hb c hc z=>?_⟩;have e:c=a:=by simpa using hc
    subst e;subst z;exact ain hb
   ·intro z;rcases Zf.mp z with z | z
    ·exact w.nin z
    ·exact aD (Zb.mp z).symm
   ·intro y hy;rcases Zf.mp hy with z | z
    ·exact w.news y z
    ·rw[Zb.mp z];exact g1.free ha
  ·exact(g1.trans g4).fresh hD _
 ·rintro ys H' ⟨rr,rfl,w,g1,t1⟩;exact⟨stop H' g1,hd rr H' w g1 t1⟩
end L2
namespace K49
open PySem L2 PyProof.Rows
def LG(K:PySem.W.Frag):Sp:=λvs H Q _=>∃(ha:Addr) (hs:List Int) (e:Nat),vs=[.ref ha,vn e]/\SqL K H ha (hs.map V.int)/\e / 2<hs.length/\(∀i,i<hs.length->0<=at0 hs i/\at0 hs i<4)/\Q (.int (hx hs e)) H
theorem pC(T:Txt K mg t):cJ P w K mg base CX0 2 t.m7 t.mZ ["heads","end"] (LG K):=by
 refine T.c9.F.ok lA (λvs H Q E h=>?_) (λcdv A outer s H vs Q E hr h=>?_)
 ·obtain⟨_,_,_,rfl,_⟩:=h;rfl
 obtain⟨ha,hs,e,rfl,hS,he,hb,q⟩:=h;have nd:=lA.nd;refine⟨_,(aF (bC 2 nd (aJ bA (pv 0) (aO dN (pv 1) aC) (λ_ _=>rfl)))
  (aH (aU (uH (aV gJ (aO cI (pv 1) aC) aC (a7 _)) (pv 2) (bK (PV T) hr T.vF a8 (aA (pv 2) aB)))))),?_⟩
 have b:=hb _ he;refine(bR _ rfl _ rfl _ _ rfl (fH rfl ⟨by decide,by decide⟩ ha _ _ _ rfl ⟨ rfl,hS,cV he (by lia),?_⟩));refine(bM _ rfl _ _ rfl rfl (by show(0:Int)<2;decide) ⟨ rfl,_,rfl,eV (λz=>?_) (λz=>?_)⟩)
 ·have z:V.int ((e:Int)%2)=V.int 0:=of_decide_eq_true z;have z:(e:Int)%2=0:=V.int.inj z;have e1:hx hs e=at0 hs (e / 2):=by unfold hx;lia
  rw[e1]at q;exact⟨_,rfl,q⟩
 ·have z:¬(e:Int)%2=0:=λy=>z (decide_eq_true (by show V.int ((e:Int)%2)=V.int 0;rw[y]));have e1:hx hs e=(at0 hs (e / 2)+2)%4:=by unfold hx;lia
  rw[e1]at q;exact⟨_,rfl,_,rfl,q⟩
def S2:Sp:=λvs H Q _=>∃a b:Int,vs=[.int a,.int b]/\Q (.int ((a-b-1)%4+1)) H
theorem RU(T:Txt K mg t):cJ P w K mg base CX0 1 t.jZ t.jW ["head","onward"] S2:=by
 refine T.jU.F.ok oN (λvs H Q E h=>?_) (λcdv A outer s H vs Q E hr h=>?_)
 ·obtain⟨a,b,rfl,_⟩:=h;rfl
 obtain⟨a,b,rfl,q⟩:=h;refine⟨_,(aH (aU (aO bV (aO cI (aO dB (aO dB (pv 0) (pv 1)) aC) (iW (v:=.int 4) rfl T.bQ ⟨_,rfl⟩)) aC))),?_⟩;exact(bR _ rfl _ rfl _ _ rfl (CD rfl _ _ rfl rfl (aZ _ _ rfl rfl (by show(0:Int)<4;decide) ⟨ _,_,rfl,rfl,q⟩)))
abbrev wR:Pos:=⟨101,31,101,68⟩
abbrev NN:Str:="map_of"++".<locals>."++"<lambda>"
abbrev TB(tp:Addr)(H:Hp):Prop:=Tb tp wR NN H
abbrev BT(base:Heap)(mg:Str->Option Value)(t:Adr):Prop:=PySem.W.CodeHd base t.cA t.tp/\base.BuiltinsAt mg t.tp
def dE(H:Hp)(m:Addr)(n:Nat)(T:MM.aY)(hs:List Int)(ta ha:Addr):Prop:=H m=some (.tup [vn n,.ref ta,.ref ha])/\nZ H ta T/\H ha=some (.lst (hs.map V.int))
structure LdP(n:Nat)(T:MM.aY)(hs:List Int):Prop where
 hl:hs.length=T.length
 hb:∀i,i<hs.length->0<=at0 hs i/\at0 hs i<4
 pl:∀e,e<2*T.length->MM.place T e<n
 ds:Dst T hs
 n1:n<=45000
 t1:T.length<=45000
 g:MM.Good T (cK T hs n)
theorem QZ{H H':Hp}(g:bT H H'){a:Addr}{ts:MM.aY}(h:nZ H a ts):nZ H' a ts:=by
 obtain⟨tr,h1,h2,h3⟩:=h;exact⟨tr,g.l h1,h2,λi x hx=>let⟨r,q1,q2⟩:=h3 i x hx;⟨r,q1,g.t q2⟩⟩
theorem RS{H H':Hp}(g:bT H H'){a:Addr}{os:MM.dM}(h:wK H a os):wK H' a os:=by
 obtain⟨tr,h1,h2,h3⟩:=h;exact⟨tr,g.l h1,h2,λi x hx=>let⟨r,q1,q2⟩:=h3 i x hx;⟨r,q1,g.l q2⟩⟩
theorem dE.st{H H':Hp}(g:bT H H'){m ta ha:Addr}{n:Nat}{T:MM.aY}{hs:List Int}(h:dE H m n T hs ta ha):dE H' m n T hs ta ha:=⟨g.t h.1,QZ g h.2.1,g.l h.2.2⟩
theorem HU{H:Hp}{a:Addr}{T:MM.aY}(h:nZ H a T):TsI H a (AW.cT T):=by
 obtain⟨tr,h1,h2,h3⟩:=h;refine⟨tr,h1,by rw[AW.nY];exact h2,λi x hx=>?_⟩;unfold AW.cT at hx;rw[Zk]at hx;obtain⟨y,hy,rfl⟩:=Xz.mp hx;exact h3 i y hy
theorem DJ{T:MM.aY}{n:Nat}(h:∀e,e<2*T.length->MM.place T e<n):AW.InW n (AW.cT T):=λx hx=>by
 obtain⟨y,hy,rfl⟩:=Zh.mp hx;obtain⟨k,hk,rfl⟩:=Yy.mp hy;have q1:=h (2*k) (by lia);have q2:=h (2*k+1) (by lia);unfold MM.place at q1 q2;rw[if_pos (by lia),show 2*k / 2=k by lia,Zv,Zz hk]at q1;rw[if_neg (by lia),show(2*k+1) / 2=k by lia,Zv,Zz hk]at q2;have q1:T[k].1<n:=q1;have q2:T[k].2<n:=q2;exact⟨⟨Int.natCast_nonneg _,by show(T[k].1:Int)<n;lia⟩,Int.natCast_nonneg _,by show(T[k].2:Int)<n;lia⟩
theorem R5{n:Nat}{T:MM.aY}{hs:List Int}(L:LdP n T hs){p:Nat}(hp:p<n):(eE T p).length<=4:=by
 have:=E2 ((EJ L.ds).srt p hp);rw[uC hp,(iD hs _).length_eq]at this;exact this
def LA(tp:Addr):Sp:=λvs H Q _=>∃(m:Addr) (n:Nat) (T:MM.aY) (hs:List Int) (ta ha:Addr),vs=[.ref m]/\dE H m n T hs ta ha/\LdP n T hs/\TB tp H /\
 ∀(r ra oA:Addr) (rr:List Addr) (H':Hp),bT H H'->TB tp H'->H r=none->H ra=none->H' r=some (.tup [vn n,.ref ra,.ref oA])->nZ H' ra T->dU H H' oA rr ((cK T hs n).map vns)->Q (.ref r) H'
theorem lP(T:Txt K mg t)(B:BT base mg t):cJ P w K mg base CX0 6 t.v9 t.vM ["laid"] (LA t.tp):=by
 refine T.FC.ok xF (λvs H Q E h=>?_) (λA outer s H vs Q E hr h=>?_)
 ·obtain⟨_,_,_,_,_,_,rfl,_⟩:=h;rfl
 obtain⟨m,n,TT,hs,ta,ha,rfl,hL,L,tb,q⟩:=h;have nd:=xF.nd;have nd_ends_laid:(["ends","laid"]:List Str).Nodup:=by decide
 refine' ⟨_,?hp,?hq⟩
 case hp =>
  refine' aF (bC 1 nd (bK (JI T) hr T.fX a8 (aA (aJ aT (pv 0) aC (λ_ _=>rfl)) (aA (aJ aT (pv 0) aC (λ_ _=>rfl)) aB)))) ?r1
  case r1 =>
   refine' aF ?b ?c
   case b =>
    refine' bU (i:=2) nd rfl (Or.inl rfl) (N':=["ends","laid"]) (js:=[none,some 0]) rfl (bJ (pv 1)) (λ_ _ _ _ _=>(aK (i:=0) nd_ends_laid rfl (Or.inl rfl))) (λ_ _ _ _ _=>b9) (λ_ _ _ _ _=>?el)
    case el =>
     exact C0 (K:=K) (k:=2) (cA:=t.cA) (tp:=t.tp) (N':=["laid"]) (js:=[some 1]) (x:="end") (qual:=NN) rfl hr rfl rfl B.1 B.2 ⟨rfl,rfl,rfl,by decide,λy hy hk=>by
       have e:y.1="laid":=by revert y;decide
       rw[e];exact .inl rfl,rfl,rfl,λ_ _ _ _ _=>rfl⟩ rfl T.fC (aA (pv 0) aB)
      (λ_ _ _ _ hr'=>EF (pC T) (hr'.mono (by decide)) rfl T.c9.m T.c9.k T.c9.b .nil a8 (aA (aJ (jB (K:=K) rfl) (pv 1) aC (λ_ _=>rfl)) (aA (pv 0) aB)))
   case c =>
    exact aH (aU (cN (aA (aJ aT (pv 0) aC (λ_ _=>rfl)) (aA (cY fN rfl T.qE boot_list (aA (aJ aT (pv 0) aC (λ_ _=>rfl)) aB)) (aA (pv 2) aB)))))
 case hq =>
  refine(aI _ rfl m _ _ _ rfl (bZ rfl (SqT.of hL.1) rfl _ rfl (aS m _ _ _ rfl rfl (SqT.of hL.1) (oG rfl n ta (AW.cT TT) rfl (HU hL.2.1) (DJ L.pl) ⟨ L.n1,by rw[AW.nY];exact L.t1,λr1 H1 g1 ⟨tr,o1,o2,o3⟩=>?_⟩))));have hL1:=hL.st g1.st;refine(bO _ rfl r1 rfl ⟨_,SqL.of o1⟩ (λD hD=>?_));have trl:tr.length=n:=by rw[o2,Zq,Yj]
  refine DT n (λp=>vns ((eE TT p).mergeSort (hle hs))) hD (Yr L.n1 (by decide)) (tb.same g1) (λi H' hi g2=>⟨_,_,SqL.of (g2.l o1),Zz (by rw[Zq,trl];exact hi)⟩) (λH' g2=>⟨_,SqL.of (g2.l o1),by rw[Zq,trl];exact Nat.le_refl _⟩) ?_ ?_
  ·rintro i H' x H'' k hi g2 t2 ⟨rfl,hY⟩ hk;have ex:=hY _ (SqL.of (g2.l o1));obtain⟨rw_,q1,q2⟩:=o3 i _ (by rw[Zk,Yk hi];rfl);rw[Zk,q1]at ex;cases ex;have q2:H1 rw_=some (.lst (((eE TT i).map λn:Nat=>(n:Int)).map V.int)):=by rw[<-BQ];exact q2
   have f4:=R5 L hi;refine⟨(Fills.refl _).set _ rfl,(jL _ rfl t2 rw_ _ (λn=>hx hs n.toNat) rfl ⟨ SqL.of (g2.l q2),by rw[Zq];lia,λH2 g3 t3=>⟨λe he=>?_,λd ns' hd p1 p2=>?_⟩⟩)⟩
   ·obtain⟨e',he',rfl⟩:=Zh.mp he;have he':=(c6.mp he').1;have hl:=L.hl;exact(aI _ rfl m _ _ _ rfl (bZ rfl (SqT.of (g3.t (g2.t hL1.1))) rfl _ rfl (bG ha hs e' rfl (SqL.of (g3.l (g2.l hL1.2.2))) (by lia) L.hb ⟨ rfl,by show V.int (hx hs e')=V.int (hx hs (e':Int).toNat);rw[Int.toNat_natCast]⟩)))
   ·have e:=HY L.ds (λx _=>by show hx hs (x:Int).toNat=_;rw[Int.toNat_natCast]) p1 p2;refine hk d _ (g3.free hd) (g3.fresh (g3.free hd) _) (t3.same (aG hd _)) ?_;rw[aE,e,Yh];rfl
  ·intro rr H2 w2 g2 t2;have hL2:=hL1.st g2;obtain⟨tt,z1,z2,z3⟩:=id hL2.2.1;refine(aI _ rfl m _ _ _ rfl (bZ rfl (SqT.of hL2.1) rfl _ rfl (aS m _ _ _ rfl rfl (SqT.of hL2.1) (CD rfl ta _ rfl (.inl (SqL.of z1)) (λra hra=>?_)))));refine⟨_,rfl,(by show 3<=ZW;decide),λr hr'=>?_⟩;have s1:=aG hra (.lst (tt.map V.ref));have s2:=aG hr' (.tup [vn n,.ref ra,.ref D]);have s3:=s1.trans s2;have f1:∀{x:Addr},H2 x=none->H x=none:=λh=>g1.free (g2.free h);refine q r ra D rr _ ((g1.st.trans g2).trans s3.st) (t2.same s3) (f1 (s1.free hr')) (f1 hra) aE ⟨tt,s2 _ _ aE,z2,λi x hx=>let⟨y,y1,y2⟩:=z3 i x hx;⟨y,y1,s3 _ _ y2⟩⟩ ?_;have e:(cK TT hs n).map vns=(List.range n).map λp=>vns ((eE TT p).mergeSort (hle hs)):=by unfold cK;rw[Yh];rfl
   rw[e];have w3:=w2.keep s3;exact⟨w3.at_,w3.len,w3.row,w3.nd,w3.nin,g1.free w3.new,λx hx=>g1.free (w3.news x hx)⟩
theorem kK{H H':Hp}{oA:Addr}{rr:List Addr}{os:MM.dM}(n:dU H H' oA rr (os.map vns)):wK H' oA os :=
 ⟨rr,n.at_,by rw[n.len,Zq],λi l h=>n.row i _ (by rw[Zk,h];rfl)⟩
noncomputable def cL(n:Nat)(T:MM.aY)(hs:List Int):List Int:=(List.range (2*T.length)).map (cx T hs (cK T hs n))
theorem zQ(n:Nat)(T:MM.aY)(hs:List Int):(cL n T hs).length=2*T.length:=by unfold cL;rw[Zq,Yj]
theorem NY{n:Nat}{T:MM.aY}{hs:List Int}{e:Nat}(h:e<2*T.length):at0 (cL n T hs) e=cx T hs (cK T hs n) e:=by
 unfold at0 cL;rw[Zv,Zk,Yk h];rfl
def RG(tp:Addr):Sp:=λvs H Q _=>∃(m:Addr) (n:Nat) (T:MM.aY) (hs:List Int) (ta ha:Addr),vs=[.ref m]/\dE H m n T hs ta ha/\LdP n T hs/\TB tp H /\
 ∀(r:Addr) (H':Hp),bT H H'->TB tp H'->H r=none->H' r=some (.lst ((cL n T hs).map V.int))->Q (.ref r) H'
theorem JJ(T:Txt K mg t)(B:BT base mg t):cJ P w K mg base CX0 7 t.qA t.pV ["laid"] (RG t.tp):=by
 have fO:=lP (P:=P) (w:=w) (base:=base) T B;refine T.kS.F.ok mT (λvs H Q E h=>?_) (λcdv A outer s H vs Q E hr h=>?_)
 ·obtain⟨_,_,_,_,_,_,rfl,_⟩:=h;rfl
 obtain⟨m,n,TT,hs,ta,ha,rfl,hL,L,tb,q⟩:=h;have nd:=mT.nd;refine⟨_,(aF (bC 1 nd (bK fO hr T.lT a8 (aA (pv 0) aB)))
  (aF (bC 2 nd (bN aB))
  (aF (cQ PassesOwn.never rfl (bH rfl T.bW (aA (aO cX aC (aQ aN rfl T.b7 PySem.boot_len (aA (aJ aT (pv 0) aC (λ_ _=>rfl)) aB))) aB)) (aK (i:=3) nd rfl (Or.inl rfl)) (aF (bC 4 nd (bK (pC T) hr T.c9 a8 (aA (aJ aT (pv 0) aC (λ_ _=>rfl)) (aA (bK (oY T) hr T.gM a8 (aA (pv 3) aB)) aB))))
  (aH (cF (jQ mAp bP (pv 2) (aA (bK (RU T) hr T.jU a8 (aA (pv 4) (aA (bK (pC T) hr T.c9 a8 (aA (aJ aT (pv 0) aC (λ_ _=>rfl)) (aA (bK (qX T) hr T.pQ a8 (aA (pv 1) (aA (pv 3) aB))) aB))) aB))) aB))))))
  (aH (aU (pv 2)))))),?_⟩
 refine⟨_,rfl,(bE m n TT hs ta ha rfl ⟨ hL,L,tb,λwa ra oA rr H1 g1 t1 _ _ e1 e2 w1=>?_⟩)⟩;have W:qC H1 wa n TT (cK TT hs n):=⟨ra,oA,e1,e2,kK w1⟩
 have hL1:=hL.st g1;refine⟨(by show 0<=ZW;decide),λD hD=>?_⟩;have s1:=aG hD (.lst []);obtain⟨tr,z1,z2,z3⟩:=id hL1.2.1;have hl:=L.hl;have b1:=L.t1;have eN:(2:Int)*((tr.map V.ref).length:Nat)=((2*TT.length:Nat):Int):=by rw[Zq,z2];push_cast;rfl
 refine(aI _ rfl m _ _ (.ref ta) rfl (bY rfl (SqT.of (s1 _ _ hL1.1)) rfl ta _ rfl (.inl (SqL.of (s1 _ _ z1))) (gH _ _ rfl rfl (.inl ⟨by decide,by decide⟩) _ rfl ⟨ ?_,?_,?_⟩)))
 ·show -(2 ^ 62)<=(2:Int)*((tr.map V.ref).length:Nat);lia
 ·show(2:Int)*((tr.map V.ref).length:Nat)<2 ^ 62;rw[eN];lia
 have eN2:((2:Int)*((tr.map V.ref).length:Nat)).toNat=2*TT.length:=by rw[eN];exact Int.toNat_natCast _
 rw[eN2];refine dJ (n:=2*TT.length) (λi σ H'=>∃o3 o4,σ=[some (.ref m),some (.ref wa),some (.ref D),o3,o4]/\H'=upd H1 D (.lst (((cL n TT hs).take i).map V.int))) ⟨_,_,rfl,rfl⟩ ?_ ?_
 ·rintro i σ H' hi ⟨o3,o4,rfl,rfl⟩;have s2:=aG hD (.lst (((cL n TT hs).take i).map V.int));have hL2:=hL1.st s2.st;have W2:=s2.web W;have lo:=MM.jG hi;have hb:=L.g.behind hi;have len:((cL n TT hs).take i).length=i:=by rw[Yw,zQ];lia
  refine(aI _ rfl m _ _ (.ref ha) rfl (tS rfl (SqT.of hL2.1) rfl _ rfl i (by show[V.int (0+(i:Int))]=[vn i];rw[Int.zero_add]) (bG _ hs (MM.oth i) rfl (SqL.of hL2.2.2) (by lia) L.hb ?_)));refine(jM _ rfl (.inl ⟨rfl,_,SqL.of aE⟩) _ rfl _ rfl (aS m _ _ (.ref ha) rfl rfl (SqT.of hL2.1) (gN rfl _ rfl _ rfl (fE wa n TT _ i (by show[V.ref wa,V.int (0+(i:Int))]=[V.ref wa,vn i];rw[Int.zero_add]) W2 (HH L.g hi _ hs _ rfl (SqL.of hL2.2.2) (N4 (by lia) L.hb _ _ rfl (bG D _ _ rfl rfl aE ?_ ?_)))))))
  ·rw[Zq,len];exact Ys (show i<=90000 by lia) (by decide)
  ·refine⟨_,_,rfl,?_⟩;rw[kD];congr 2;have e3:(cL n TT hs).take (i+1)=(cL n TT hs).take i++[cx TT hs (cK TT hs n) i]:=by
    rw[List.take_add_one];unfold cL;rw[Zk,Yk hi];rfl
   rw[e3,Zt];rfl
 ·rintro σ H' ⟨o3,o4,rfl,rfl⟩;refine⟨_,rfl,q D _ (g1.fresh (g1.free hD) _) (t1.same (aG hD _)) (g1.free hD) ?_⟩;rw[aE,List.take_of_length_le (by rw[zQ];exact Nat.le_refl _)]
def OM:Sp:=λvs H Q _=>∃(da ca la:Addr) (d:List Nat) (cs ls:List Int),vs=[.ref da,.ref ca,.ref la]/\H da=some (.lst (vns d))/\H ca=some (.lst (cs.map V.int))/\H la=some (.lst (ls.map V.int))/\(∀x∈d,x<cs.length/\x<ls.length/\MM.oth x<ls.length)/\d.length<=90000/\∀H',aW H H'->Q (.int (MM.su d (MM.trm (at0 cs) (at0 ls)))) H'
theorem C6(T:Txt K mg t):cJ P w K mg base CX0 2 t.wB t.vN ["land","corners","lefts"] OM:=by
 refine T.vG.F.ok AM (λvs H Q E h=>?_) (λcdv A outer s H vs Q E hr h=>?_)
 ·obtain⟨da,ca,la,d,cs,ls,rfl,_⟩:=h;rfl
 obtain⟨da,ca,la,d,cs,ls,rfl,hd,hc,hl,hb,h1000,q⟩:=h;have nd_end_lefts_corners:(["end","lefts","corners"]:List Str).Nodup:=by decide
 refine⟨_,(aH (aU (aQ (rG rfl) rfl T.HB boot_sum (aA (cG (N':=["end","lefts","corners"]) (js:=[none,some 2,some 1]) rfl (bJ (pv 0)) (λ_ _ _ _ _=>(aK (i:=0) nd_end_lefts_corners rfl (Or.inl rfl))) (λ_ _ _ _ _=>b9) (λ_ _ _ _ _=>(aO dB (aO bV (aO dB aC (aJ (dC (K:=K) rfl) (pv 2) (pv 0) (λ_ _=>rfl))) (aJ (dC (K:=K) rfl) (pv 1) (pv 0) (λ_ _=>rfl))) (aJ (dC (K:=K) rfl) (pv 1) (bK (oY T) hr T.gM a8 (aA (pv 0) aB)) (λ_ _=>rfl))))) aB)))),?_⟩;refine(bO _ rfl da rfl ⟨_,SqL.of hd⟩ (λD hD=>?_));refine bS d.length (λi=>.int (MM.trm (at0 cs) (at0 ls) (d.getD i 0))) hD (by lia) (λi H' hi g'=>⟨_,_,SqL.of (g' _ _ hd),l9 hi⟩) (λH' g'=>⟨_,SqL.of (g' _ _ hd),by rw[Zq];exact Nat.le_refl _⟩) ?_ ?_
 ·rintro i H' x H'' k hi g' ⟨rfl,hx⟩ hk;have ex:=hx _ (SqL.of (g' _ _ hd));rw[l9 hi]at ex;cases ex;obtain⟨b1,b2,b3⟩:=hb _ (getD_mem hi);exact(gN ((Fills.refl _).set _ rfl) _ rfl _ rfl (aS ca _ _ _ rfl rfl (SqL.of (g' _ _ hc)) (jN (cV b1 rfl) _ _ rfl rfl _ rfl (aI _ rfl la _ _ _ rfl (bY rfl (SqL.of (g' _ _ hl)) (cV b2 rfl) _ _ rfl rfl (fZ _ rfl _ rfl (d.getD i 0) rfl (aS la _ _ _ rfl rfl (SqL.of (g' _ _ hl)) (CD (cV b3 rfl) _ _ rfl rfl (hk _ (aW.refl _))))))))))
 intro H2 g2 eD;rw[zA d (λe=>V.int (MM.trm (at0 cs) (at0 ls) e)),show d.map (λe=>V.int (MM.trm (at0 cs) (at0 ls) e))=(d.map (MM.trm (at0 cs) (at0 ls))).map V.int by rw[Yh];rfl]at eD;exact⟨D,_,rfl,SqL.of eD,q H2 g2⟩
noncomputable def sL(n:Nat)(T:MM.aY)(hs:List Int):List Int:=(MM.lls T (cK T hs n)).map λd=>MM.su d λy=>2-cx T hs (cK T hs n) y
theorem xV{T:MM.aY}{os:MM.dM}(g:MM.Good T os):(MM.lls T os).length<=2*T.length:=by
 have:=MM.zH g.maps _ (List.range (2*T.length)) (Nat.le_refl _) (λ_ h=>Zs.mp h);rw[Yj]at this;exact this
theorem pF{T:MM.aY}{os:MM.dM}(g:MM.Good T os){d:List Nat}(hd:d∈MM.lls T os):d.length<=2*T.length/\∀x∈d,x<2*T.length:=by
 obtain⟨y,hy,rfl⟩:=MM.zG g.maps _ (List.range (2*T.length)) (Nat.le_refl _) (λ_ h=>Zs.mp h) d hd;exact⟨(MM.BD g.maps (Zs.mp hy)).2,MM.pE g.maps (Zs.mp hy)⟩
def LD(tp:Addr):Sp:=λvs H Q _=>∃(m:Addr) (n:Nat) (T:MM.aY) (hs:List Int) (ta ha:Addr),vs=[.ref m]/\dE H m n T hs ta ha/\LdP n T hs/\TB tp H /\
 ∀(r:Addr) (H':Hp),bT H H'->TB tp H'->H r=none->H' r=some (.lst ((sL n T hs).map V.int))->Q (.ref r) H'
theorem A0(T:Txt K mg t)(B:BT base mg t):cJ P w K mg base CX0 8 t.sQ t.sF ["laid"] (LD t.tp):=by
 have fO:=lP (P:=P) (w:=w) (base:=base) T B;have kU:=JJ (P:=P) (w:=w) (base:=base) T B;refine T.lU.F.ok oO (λvs H Q E h=>?_) (λcdv A outer s H vs Q E hr h=>?_)
 ·obtain⟨_,_,_,_,_,_,rfl,_⟩:=h;rfl
 obtain⟨m,n,TT,hs,ta,ha,rfl,hL,L,tb,q⟩:=h;have nd:=oO.nd;have nd_land_corners_lefts:(["land","corners","lefts"]:List Str).Nodup:=by decide
 have nd_corner:(["corner"]:List Str).Nodup:=by decide
 refine⟨_,(aF (bC 1 nd (bK kU hr T.kS a8 (aA (pv 0) aB)))
  (aF (bC 2 nd (cG (N':=["corner"]) (js:=[none]) rfl (bJ (pv 1)) (λ_ _ _ _ _=>(aK (i:=0) nd_corner rfl (Or.inl rfl))) (λ_ _ _ _ _=>b9) (λ_ _ _ _ _=>aC)))
  (aH (aU (cG (N':=["land","corners","lefts"]) (js:=[none,some 1,some 2]) rfl (bJ (bK (oZ T) hr T.pN a8 (aA (bK fO hr T.lT a8 (aA (pv 0) aB)) aB))) (λ_ _ _ _ _=>(aK (i:=0) nd_land_corners_lefts rfl (Or.inl rfl))) (λ_ _ _ _ _=>b9) (λ_ _ _ _ _=>(bK (C6 T) hr T.vG a8 (aA (pv 0) (aA (pv 1) (aA (pv 2) aB)))))))))),?_⟩
 have b1:=L.t1;refine⟨_,rfl,(bE m n TT hs ta ha rfl ⟨ hL,L,tb,λcr H1 g1 t1 n1 e1=>?_⟩)⟩;have cl:=zQ n TT hs;refine(bO _ rfl cr rfl ⟨_,SqL.of e1⟩ (λD hD=>?_));refine bS (2*TT.length) (λ_=>.int 0) hD (by lia) (λi H' hi g'=>⟨_,_,SqL.of (g' _ _ e1),Zz (by rw[Zq,cl];exact hi)⟩) (λH' g'=>⟨_,SqL.of (g' _ _ e1),by rw[Zq,cl];exact Nat.le_refl _⟩) (λi H' x H'' k hi g' hY hk=>?_) ?_
 ·obtain⟨rfl,_⟩:=hY;exact⟨(Fills.refl _).set _ rfl,hk _ (aW.refl _)⟩
 intro H2 g2 eD;rw[LM]at eD;have hL2:=(hL.st g1).st g2.st;refine⟨_,rfl,(bE m n TT hs ta ha rfl ⟨ hL2,L,t1.same g2,λwa ra oA rr H3 g3 t3 _ _ f1 f2 w3=>?_⟩)⟩;refine(aS wa n TT _ rfl ⟨ra,oA,f1,f2,kK w3⟩ L.g ⟨ L.t1,λlr lrr H4 g4 nl=>?_⟩);refine⟨lr,rfl,⟨_,SqL.of nl.at_⟩,λD2 hD2=>?_⟩;have e4:=g4 _ _ (g3.l (g2 _ _ e1));have eD4:=g4 _ _ (g3.l eD);have fl:=xV L.g;have ll:(lrr.map V.ref).length=(MM.lls TT (cK TT hs n)).length:=by rw[Zq];exact nl.len
 have gA:bT H H4:=((g1.trans g2.st).trans g3).trans g4.st;refine bS (MM.lls TT (cK TT hs n)).length (λi=>.int ((sL n TT hs).getD i 0)) hD2 (by lia) (λi H' hi g'=>⟨_,_,SqL.of (g' _ _ nl.at_),Zz (by rw[ll];exact hi)⟩) (λH' g'=>⟨_,SqL.of (g' _ _ nl.at_),by rw[ll];exact Nat.le_refl _⟩) (λi H' x H'' k hi g' hY hk=>?_) ?_
 ·obtain⟨rfl,hY⟩:=hY;have ex:=hY _ (SqL.of (g' _ _ nl.at_));obtain⟨la,q1,q2⟩:=nl.row i _ (Zz hi);rw[Zk,q1]at ex;cases ex;have lf:=pF L.g (Zp hi);refine(tQ ((Fills.refl _).set _ rfl) _ rfl _ rfl _ rfl (bE la cr D _ _ _ rfl (gO (g' _ _ q2) (g' _ _ e4) (g' _ _ eD4) (λx hx=>?_) (by lia) (λH5 g5=>?_))))
  ·have:=lf.2 x hx;have:=MM.jG this;rw[cl,List.length_replicate];exact⟨‹_›,‹_›,‹_›⟩
  ·have e:MM.su (MM.lls TT (cK TT hs n))[i] (MM.trm (at0 (cL n TT hs)) (at0 (List.replicate (2*TT.length) 0)))=(sL n TT hs).getD i 0:=by
    unfold sL;rw[Zv,Zk,Zz hi];show _=MM.su _ _;refine MM.AF λx hx=>?_;have h1:=lf.2 x hx;unfold MM.trm;rw[NY h1,FN h1,FN (MM.jG h1)]
    lia
   rw[e];exact hk _ g5
 ·intro H5 g5 e5;refine q D2 H5 (gA.trans g5.st) ((t3.same g4).same g5) (gA.free hD2) ?_;rw[e5];congr 2;have e6:(MM.lls TT (cK TT hs n)).length=(sL n TT hs).length:=by unfold sL;rw[Zq]
  rw[e6];refine Yp λi=>?_;rw[Zk,Zk];by_cases h:i<(sL n TT hs).length
  ·rw[Yk h,Zz h];simp[List.getD,h]
  ·rw[Zr (by simpa using h),Zr (by simpa using h)];rfl
def FW(tp:Addr):Sp:=λvs H Q _=>∃(m:Addr) (n:Nat) (T:MM.aY) (hs:List Int) (ta ha:Addr),vs=[.ref m]/\dE H m n T hs ta ha/\LdP n T hs/\TB tp H/\(∀x∈sL n T hs,x=4\/x = -4)/\(-4)∈sL n T hs /\
 ∀H':Hp,bT H H'->TB tp H'->Q (vn ((sL n T hs).idxOf (-4))) H'
theorem uO(T:Txt K mg t)(B:BT base mg t):cJ P w K mg base CX0 9 t.vY t.vK ["laid"] (FW t.tp):=by
 have l7:=A0 (P:=P) (w:=w) (base:=base) T B;refine T.nV.F.ok rP (λvs H Q E h=>?_) (λcdv A outer s H vs Q E hr h=>?_)
 ·obtain⟨_,_,_,_,_,_,rfl,_⟩:=h;rfl
 obtain⟨m,n,TT,hs,ta,ha,rfl,hL,L,tb,h4,hm,q⟩:=h;have nd:=rP.nd;refine⟨_,(aF (bC 1 nd (bK l7 hr T.lU a8 (aA (pv 0) aB)))
  (aH (aU (uJ PySem.F.plainAttrs_list PySem.F.slot_list_index PySem.F.type_list_index GE (pv 1) (aA (aQ (rH rfl) rfl T.DZ boot_min (aA (pv 1) aB)) aB))))),?_⟩
 refine⟨_,rfl,(bE m n TT hs ta ha rfl ⟨ hL,L,tb,λr H1 g1 t1 n1 e1=>?_⟩)⟩;refine(fQ _ rfl (.inl ⟨rfl,_,SqL.of e1⟩) _ rfl (aZ r _ rfl (SqL.of e1) (List.length_pos_of_mem hm) (λx hx hle=>?_)));have e:x = -4:=by
  have a1:=hle _ hm;rcases h4 x hx with z | z
  ·lia
  ·exact z
 subst e;exact(bG r _ _ rfl rfl e1 hm (q H1 g1 t1))
end K49
namespace L2
open PySem PySem.Spec PyProof.Rows
section
variable{X:Cx}{K:PySem.W.Frag}
theorem BE(h:X.K=K){tg l:Expr}{tl:TE}(hl:PE X l tl):PI X tg l (NS K tl):=by subst h;exact bJ hl
theorem wU(h:X.K=K):dG X (.builtin "sorted") (λxs H Q=>∃(p:Addr) (ps:List Addr) (kf:Addr->List Int),xs=[.ref p]/\SqL K H p (ps.map V.ref)/\(∀q∈ps,kf q≠[]/\SqT K H q ((kf q).map V.int))/\ps.length<64 /\
  ∀(l:Addr) (ps':List Addr),H l=none->ps'.Perm ps->(ps'.Pairwise λa b=>SO.lx (kf b) (kf a)=false)->Q (.ref l) (upd H l (.lst (ps'.map V.ref)))):=by subst h;exact pZ
end
end L2
namespace K49
open PySem L2 PyProof.Rows
theorem P0{a b c d:Int}(h:SO.lx [a,b] [c,d]=false):c<=a:=by
 unfold SO.lx at h;split at h
 ·lia
 ·have:=of_decide_eq_false h;lia
structure TpE(H H':Hp)(hs:List Int)(qs:List Addr):Prop where
 at_:∀e q,qs[e]?=some q->H' q=some (.tup [.int (hx hs e),vn e])
 nd:qs.Nodup
def enB(T:MM.aY)(p i:Nat):List Nat:=(List.range i).filter λe=>decide (MM.place T e=p)
theorem KH(T:MM.aY)(p i:Nat):enB T p (i+1)=if MM.place T i=p then enB T p i++[i] else enB T p i:=by
 unfold enB;rw[List.range_succ,List.filter_append];by_cases z:MM.place T i=p
 ·rw[if_pos z];simp[z]
 ·rw[if_neg z];simp[z]
theorem QG{T:MM.aY}{p i e:Nat}(h:e∈enB T p i):e<i:=Zs.mp (Yz.mp h).1
def OL:Sp:=λvs H Q _=>∃(m:Addr) (n:Nat) (T:MM.aY) (hs:List Int) (ta ha:Addr),vs=[.ref m]/\dE H m n T hs ta ha/\LdP n T hs /\
 ∀(oA:Addr) (rr:List Addr) (H':Hp),aW H H'->dU H H' oA rr ((cK T hs n).map vns)->Q (.ref oA) H'
theorem uP(T:Txt K mg t):cJ P w K mg base CX0 3 t.wF t.vP ["_law_laid"] OL:=by
 refine T.nW.F.ok rR (λvs H Q E h=>?_) (λcdv A outer s H vs Q E hr h=>?_)
 ·obtain⟨_,_,_,_,_,_,rfl,_⟩:=h;rfl
 obtain⟨m,n,TT,hs,ta,ha,rfl,hL,L,q⟩:=h;have nd:=rR.nd;have nd_l_row:(["_law_row_here"]:List Str).Nodup:=by decide
 have nd_l_head_l_end:(["_law_head","_law_end"]:List Str).Nodup:=by decide
 have nd_l_place_here:(["_law_place_here"]:List Str).Nodup:=by decide
 refine⟨_,(aF (bU (i:=1) nd rfl (Or.inl rfl)  (N':=["_law_place_here"]) (js:=[none]) rfl (bH rfl T.bW (aA (aJ aT (pv 0) aC (λ_ _=>rfl)) aB)) (λ_ _ _ _ _=>(aK (i:=0) nd_l_place_here rfl (Or.inl rfl))) (λ_ _ _ _ _=>b9) (λ_ _ _ _ _=>(bN aB)))
  (aF (cQ PassesOwn.never rfl (bH rfl T.bW (aA (aO cX aC (aQ aN rfl T.b7 PySem.boot_len (aA (aJ aT (pv 0) aC (λ_ _=>rfl)) aB))) aB)) (aK (i:=2) nd rfl (Or.inl rfl)) (aH (cF (jQ mAp bP (aJ bA (pv 1) (bK (qV T) hr T.mI a8 (aA (aJ aT (pv 0) aC (λ_ _=>rfl)) (aA (pv 2) aB))) (λ_ _=>rfl)) (aA (cN (aA (aO cI (aO bV (aJ bA (aJ aT (pv 0) aC (λ_ _=>rfl)) (aO dN (pv 2) aC) (λ_ _=>rfl)) (aO cX aC (aO cI (pv 2) aC))) aC) (aA (pv 2) aB))) aB)))))
  (aH (aU (cG (N':=["_law_row_here"]) (js:=[none]) rfl (bJ (pv 1)) (λ_ _ _ _ _=>(aK (i:=0) nd_l_row rfl (Or.inl rfl))) (λ_ _ _ _ _=>b9) (λ_ _ _ _ _=>(cG (N':=["_law_head","_law_end"]) (js:=[none,none]) rfl (BE (K:=K) rfl (aQ (wU (K:=K) rfl) rfl T.fC boot_sorted (aA (pv 0) aB))) (λ_ _ _ _ _=>(pG (K:=K) (n:=2) rfl rfl (bB (aK (i:=0) nd_l_head_l_end rfl (Or.inl rfl)) (bB (aK (i:=1) nd_l_head_l_end rfl (Or.inl rfl)) cZ)))) (λ_ _ _ _ _=>b9) (λ_ _ _ _ _=>(pv 1))))))))),?_⟩
 have hl:=L.hl;have b0:=L.n1;have b1:=L.t1;refine(aI _ rfl m _ _ _ rfl (AC rfl (SqT.of hL.1) rfl (n:Int) rfl (by lia) (by lia) (λD hD=>?_)));refine iB n (λ_=>[]) hD (by lia) (λi H' hi g2=>?_) (λH' g2=>?_) ?_ ?_
 ·show i<((n:Int)-0).toNat;lia
 ·show((n:Int)-0).toNat<=n;lia
 ·rintro i H' x H'' k hi g2 hy hk;obtain⟨e,y⟩:=hy;subst e;exact⟨(Fills.refl _).set _ rfl,(by show 0<=ZW;decide),λl hl'=>hk l _ hl' (aG hl' _) aE⟩
 intro rr H1 w1 g1;obtain⟨tr,z1,z2,z3⟩:=id hL.2.1;have eN:(2:Int)*((tr.map V.ref).length:Nat)=((2*TT.length:Nat):Int):=by rw[Zq,z2];push_cast;rfl
 refine(aI _ rfl m _ _ (.ref ta) rfl (bY rfl (SqT.of (g1 _ _ hL.1)) rfl ta _ rfl (.inl (SqL.of (g1 _ _ z1))) (gH _ _ rfl rfl (.inl ⟨by decide,by decide⟩) _ rfl ⟨ ?_,?_,?_⟩)))
 ·show -(2 ^ 62)<=(2:Int)*((tr.map V.ref).length:Nat);lia
 ·show(2:Int)*((tr.map V.ref).length:Nat)<2 ^ 62;rw[eN];lia
 have eN2:((2:Int)*((tr.map V.ref).length:Nat)).toNat=2*TT.length:=by rw[eN];exact Int.toNat_natCast _
 rw[eN2];refine dJ (n:=2*TT.length) (λi σ H'=>∃(qs:List Addr) (o2:Option V),σ=[some (.ref m),some (.ref D),o2]/\qs.length=i/\TpE H H' hs qs/\dU H H' D rr ((List.range n).map λp=>(enB TT p i).map λe=>V.ref (qs.getD e 0))/\aW H H') (cE ([]) _ rfl rfl ⟨λe q h=>by simp at h,List.nodup_nil⟩ w1 g1) ?_ ?_
 ·rintro i σ H' hi ⟨qs,o2,rfl,ql,tp,w2,g2⟩;have hp:=L.pl i hi;have hL2:=hL.st g2.st;obtain⟨x1,a1,c1,d1,f1⟩:=w2.item hp;refine⟨_,rfl,(aI _ rfl m _ _ (.ref ta) rfl (bZ rfl (SqT.of hL2.1) rfl _ rfl (oF ta TT i (by show[V.ref ta,V.int (0+(i:Int))]=[V.ref ta,vn i];rw[Int.zero_add]) hL2.2.1 hi (aS D _ _ _ rfl rfl (SqL.of w2.at_) ⟨ f1,.inl ⟨rfl,_,SqL.of c1⟩,?_⟩))))⟩;refine(aI _ rfl m _ _ (.ref ha) rfl (bZ rfl (SqT.of hL2.1) rfl _ rfl (aZ _ _ rfl rfl ⟨by decide,by decide⟩ (aS ha _ _ _ rfl rfl (SqL.of hL2.2.2) (iC (cV (j:=i / 2) (by lia) (by lia)) _ rfl _ _ rfl rfl (tD (by show(0:Int)<2;decide) _ _ rfl rfl (.inl ⟨by decide,by decide⟩) (dH _ _ rfl rfl _ _ rfl (N5 rfl (by show(0:Int)<4;decide) _ rfl (by show 2<=ZW;decide) (λq hq=>?_)))))))));have e0:HO.tup [V.int ((at0 hs (i / 2)+2*((0+(i:Int))%2))%4),V.int (0+(i:Int))]=.tup [.int (hx hs i),vn i]:=by
   unfold hx;rw[Int.zero_add];rfl
  rw[e0];have s1:=aG hq (.tup [.int (hx hs i),vn i]);have nq:q≠x1:=aP c1 hq |>.symm;have sm:∀p,(enB TT p i).length<=90000:=λp=>by
   have:(enB TT p i).length<=(List.range i).length:=List.length_filter_le ..;rw[Yj]at this;lia
  refine(bG x1 _ _ rfl rfl (s1 _ _ c1) (by rw[Zq];exact Ys (sm _) (by decide)) (cE (qs++[q]) _ rfl (by simp[ql]) ⟨λe x h=>?_,?_⟩ ?_ ((g2.trans s1).fresh d1 _)))
  ·rcases Xq e qs.length with z | z
   ·rw[Zx z]at h;have:=s1 _ _ (tp.at_ e x h);rw[aL (rW this (s1 _ _ c1) (by intro z;cases z))];exact this
   ·have hlt:=(Zj.mp h).1;have:e=qs.length:=by simp at hlt;lia
    subst this;rw[Yx]at h;cases h;rw[aL nq,aE,ql]
  ·rw[List.nodup_append];refine⟨tp.nd,by simp,λa ha b hb z=>?_⟩;have e:b=q:=by simpa using hb
   subst e;subst z;obtain⟨j,hj,e⟩:=Yy.mp ha;have:=tp.at_ j a (by rw[Zz hj,e]);rw[hq]at this;cases this
  ·have w3:=(w2.keep s1).put a1 ((enB TT (MM.place TT i) i).map (λe=>V.ref (qs.getD e 0))++[V.ref q]);have e:(λj=>if j=MM.place TT i then (enB TT (MM.place TT i) i).map (λe=>V.ref (qs.getD e 0))++[V.ref q] else (enB TT j i).map λe=>V.ref (qs.getD e 0))=λp=>(enB TT p (i+1)).map λe=>V.ref ((qs++[q]).getD e 0):=by
    funext p
    have old:(enB TT p i).map (λe=>V.ref ((qs++[q]).getD e 0))=(enB TT p i).map λe=>V.ref (qs.getD e 0):=Yn λe he=>by
     have:=QG he;rw[Zv,Zx (by lia),<-Zv]
    rw[KH];by_cases z:MM.place TT i=p
    ·subst z;rw[if_pos rfl,if_pos rfl,Zt,old];congr 1;show _=[V.ref ((qs++[q]).getD i 0)]
     rw[Zv,<-ql,Yx];rfl
    ·rw[if_neg (Ne.symm z),if_neg z,old]
   rw[<-e];exact w3
 ·rintro σ H2 ⟨qs,o2,rfl,ql,tp,w2,g2⟩;have idx:∀e,e<2*TT.length->qs.idxOf (qs.getD e 0)=e:=λe he=>by
   have h:e<qs.length:=by lia
   rw[Zv,Zz h];exact tp.nd.idxOf_getElem e h
  have tup:∀e,e<2*TT.length->H2 (qs.getD e 0)=some (.tup [.int (hx hs e),vn e]):=λe he=>by
   have h:e<qs.length:=by lia
   refine tp.at_ e _ ?_;rw[Zv,Zz h];rfl
  refine(bO _ rfl D rfl ⟨_,SqL.of w2.at_⟩ (λD2 hD2=>?_));have rl:(rr.map V.ref).length=n:=by rw[Zq,w2.len,Zq,Yj]
  refine iB n (λp=>vns ((eE TT p).mergeSort (hle hs))) hD2 (by lia) (λi H' hi g'=>⟨_,_,SqL.of (g' _ _ w2.at_),Zz (by rw[rl];exact hi)⟩) (λH' g'=>⟨_,SqL.of (g' _ _ w2.at_),by rw[rl];exact Nat.le_refl _⟩) ?_ ?_
  ·rintro i H' x H'' k hi g' ⟨rfl,hY⟩ hk;have ex:=hY _ (SqL.of (g' _ _ w2.at_));obtain⟨x1,a1,c1,d1,_⟩:=w2.item hi;rw[Zk,a1]at ex;cases ex;have f4:=R5 L hi;have el:∀e∈eE TT i,e<2*TT.length:=λe he=>(c6.mp he).1;have c1:H'' x1=some (.lst (((eE TT i).map λe=>qs.getD e 0).map V.ref)):=by rw[Yh];exact g' _ _ c1
   refine(oH ((Fills.refl _).set _ rfl) _ rfl x1 ((eE TT i).map (λe=>qs.getD e 0)) (λa=>[hx hs (qs.idxOf a),(qs.idxOf a:Int)]) rfl ⟨ SqL.of c1,λa ha=>⟨by simp,?_⟩,by rw[Zq];lia,λl ps' hl' p1 p2=>?_⟩)
   ·obtain⟨e,he,rfl⟩:=Zh.mp ha;show SqT K H'' (qs.getD e 0) ([hx hs (qs.idxOf (qs.getD e 0)),(qs.idxOf (qs.getD e 0):Int)].map V.int);rw[idx e (el e he)];exact SqT.of (g' _ _ (tup e (el e he)))
   ·have em:(ps'.map qs.idxOf).Perm (eE TT i):=by
     have:=p1.map qs.idxOf;rw[Yh,Yn (f:=qs.idxOf∘λe=>qs.getD e 0) (g:=id) (λe he=>idx e (el e he)),List.map_id]at this;exact this
    have es:ps'.map qs.idxOf=(eE TT i).mergeSort (hle hs):=by
     refine uM (R:=λa b=>hx hs a<=hx hs b) (em.trans (iD hs _).symm) ?_ (CJ hs _) λa ha b hb q1 q2=>?_
     ·rw[List.pairwise_map];exact p2.imp λh=>P0 h
     ·have ha:=c6.mp (em.mem_iff.mp ha);have hb:=c6.mp (em.mem_iff.mp hb);exact L.ds a b ha.1 hb.1 (ha.2.trans hb.2.symm) (by lia)
    have s3:=aG hl' (.lst (ps'.map V.ref));have pl:ps'.length=(eE TT i).length:=by rw[p1.length_eq,Zq]
    refine⟨l,rfl,⟨_,SqL.of aE⟩,λD3 hD3=>?_⟩;refine bS ps'.length (λj=>vn ((ps'.map qs.idxOf).getD j 0)) hD3 (by lia) (λj H5 hj g5=>⟨_,_,SqL.of (g5 _ _ aE),Zz (by rw[Zq];exact hj)⟩) (λH5 g5=>⟨_,SqL.of (g5 _ _ aE),by rw[Zq];exact Nat.le_refl _⟩) ?_ ?_
    ·rintro j H5 y H6 k2 hj g5 ⟨rfl,hZ⟩ hk2;have ey:=hZ _ (SqL.of (g5 _ _ aE));rw[Zk,Zz hj]at ey;cases ey;have hm:=p1.mem_iff.mp (Zp hj);obtain⟨e,he,e2⟩:=Zh.mp hm;have tq:=g5 _ _ (s3 _ _ (g' _ _ (tup e (el e he))));rw[e2]at tq;have ev:(ps'.map qs.idxOf).getD j 0=e:=by
      rw[Zv,Zk,Zz hj,<-e2];exact idx e (el e he)
     rw[ev]at hk2;exact(aZ _ _ rfl (SqT.of tq) rfl (cU _ _ rfl _ _ rfl rfl ⟨ ((Fills.refl _).set _ rfl).set _ rfl,_,rfl,hk2 _ (aW.refl _)⟩))
    ·intro H5 g5 e5;refine hk D3 H5 (s3.free hD3) (s3.trans g5) ?_;rw[e5,<-es];congr 2;refine Yp λj=>?_;rw[Zk,Zk];by_cases h:j<ps'.length
     ·have h':j<(ps'.map qs.idxOf).length:=by rw[Zq];exact h
      rw[Yk h,Zz h'];show some (vn ((ps'.map qs.idxOf).getD j 0))=some (vn (ps'.map qs.idxOf)[j]);rw[Zv,Zz h'];rfl
     ·rw[Zr (by simpa using h),Zr (by simpa using h)];rfl
  ·intro rr2 H3 w3 g3;refine q D2 rr2 H3 (g2.trans g3) ?_;have e:(cK TT hs n).map vns=(List.range n).map λp=>vns ((eE TT p).mergeSort (hle hs)):=by unfold cK;rw[Yh];rfl
   rw[e];exact⟨w3.at_,w3.len,w3.row,w3.nd,w3.nin,g2.free w3.new,λx hx=>g2.free (w3.news x hx)⟩
def OT:Sp:=λvs H Q _=>∃(m oA:Addr) (n:Nat) (T:MM.aY) (hs:List Int) (ta ha:Addr) (e:Nat),vs=[.ref m,.ref oA,vn e]/\dE H m n T hs ta ha/\LdP n T hs/\wK H oA (cK T hs n)/\e<2*T.length/\Q (.int (cx T hs (cK T hs n) e)) H
theorem uQ(T:Txt K mg t):cJ P w K mg base CX0 3 t.wG t.vQ ["_law_laid","_law_orders_here","_law_end"] OT:=by
 refine T.nX.F.ok rS (λvs H Q E h=>?_) (λcdv A outer s H vs Q E hr h=>?_)
 ·obtain⟨_,_,_,_,_,_,_,_,rfl,_⟩:=h;rfl
 obtain⟨m,oA,n,TT,hs,ta,ha,e,rfl,hL,L,hO,he,q⟩:=h;have nd:=rS.nd;have hl:=L.hl;have hb:=L.g.behind he;refine⟨_,(aF (bC 3 nd (bK (nR T) hr T.kR a8 (aA (aJ aT (pv 0) aC (λ_ _=>rfl)) (aA (pv 1) (aA (pv 2) aB)))))
  (aF (bC 4 nd (aO bV (aJ bA (aJ aT (pv 0) aC (λ_ _=>rfl)) (aO dN (pv 2) aC) (λ_ _=>rfl)) (aO cX aC (aO cI (bK (qW T) hr T.mJ a8 (aA (pv 2) aB)) aC))))
  (aH (aU (aO bV (aO cI (aO dB (aO dB (aO dB (pv 4) (aJ bA (aJ aT (pv 0) aC (λ_ _=>rfl)) (aO dN (pv 3) aC) (λ_ _=>rfl))) (aO cX aC (aO cI (pv 3) aC))) aC) aC) aC))))),?_⟩
 refine(aI _ rfl m _ _ (.ref ta) rfl (tS rfl (SqT.of hL.1) rfl _ rfl _ rfl (fE ta oA TT _ e rfl hL.2.1 ⟨ hO,L.g,he,?_⟩)));refine(aI _ rfl m _ _ (.ref ha) rfl (bZ rfl (SqT.of hL.1) rfl _ rfl (aZ _ _ rfl rfl ⟨by decide,by decide⟩ (aS ha _ _ _ rfl rfl (SqL.of hL.2.2) (gN (cV (j:=e / 2) (by lia) (by lia)) _ rfl e rfl (aZ _ _ rfl rfl (by show(0:Int)<2;decide) (aZ _ _ rfl rfl (.inl ⟨by decide,by decide⟩) ⟨ _,_,rfl,rfl,?_⟩)))))));refine⟨_,rfl,(aI _ rfl m _ _ (.ref ha) rfl (bZ rfl (SqT.of hL.1) rfl _ rfl (aZ _ _ rfl rfl ⟨by decide,by decide⟩ (aS ha _ _ _ rfl rfl (SqL.of hL.2.2) (jN (cV (j:=MM.behind TT (cK TT hs n) e / 2) (by lia) (by lia)) _ _ rfl rfl _ rfl (aZ _ _ rfl rfl (by show(0:Int)<2;decide) (aZ _ _ rfl rfl (.inl ⟨by decide,by decide⟩) (dH _ _ rfl rfl _ _ rfl (tD rfl _ _ rfl rfl (by show(0:Int)<4;decide) ⟨ _,_,rfl,rfl,?_⟩)))))))))⟩;have ev:(at0 hs (e / 2)+2*(((MM.oth e:Nat):Int)%2)-at0 hs (MM.behind TT (cK TT hs n) e / 2)-2*(((MM.behind TT (cK TT hs n) e:Nat):Int)%2)-1)%4+1=cx TT hs (cK TT hs n) e:=by
  unfold cx hx;rw[MM.uL]
  lia
 rw[<-ev]at q;exact q
structure LdQ(n:Nat)(T:MM.aY)(hs:List Int):Prop where
 hl:hs.length=T.length
 hb:∀i,i<hs.length->0<=at0 hs i/\at0 hs i<4
 pl:∀e,e<2*T.length->MM.place T e<n
 n1:n<=1000
 t1:T.length<=1000
abbrev hxs(T:MM.aY)(hs:List Int)(p:Nat):List Int:=(eE T p).map (hx hs)
theorem QH{n:Nat}{T:MM.aY}{hs:List Int}(q:LdQ n T hs)(h:∀p,p<n->(hxs T hs p).Nodup):Dst T hs:=λa b ha hb e1 e2=>by
 have h1:=h _ (q.pl a ha);have m1:a∈eE T (MM.place T a):=c6.mpr ⟨ha,rfl⟩;have m2:b∈eE T (MM.place T a):=c6.mpr ⟨hb,e1.symm⟩;obtain⟨i,hi,z1⟩:=Yy.mp m1;obtain⟨j,hj,z2⟩:=Yy.mp m2;have hi':i<(hxs T hs (MM.place T a)).length:=by rw[Zq];exact hi
 have hj':j<(hxs T hs (MM.place T a)).length:=by rw[Zq];exact hj
 have:i=j:=(List.getElem_inj (h₀:=hi') (h₁:=hj') h1).mp (by rw[List.getElem_map,List.getElem_map,z1,z2,e2]);subst this;exact z1.symm.trans z2
theorem QI{T:MM.aY}{hs:List Int}(D:Dst T hs)(p:Nat):(hxs T hs p).Nodup:=by
 rw[List.Nodup,List.pairwise_map];have:(eE T p).Nodup:=List.nodup_range.sublist List.filter_sublist;refine List.Pairwise.imp_of_mem (λ{a b} ha hb n e=>n ?_) this;have ha:=c6.mp ha;have hb:=c6.mp hb;exact D a b ha.1 hb.1 (ha.2.trans hb.2.symm) e
theorem KI(T:MM.aY)(p:Nat):(eE T p).length<=2*T.length:=by
 have:(eE T p).length<=(List.range (2*T.length)).length:=List.length_filter_le ..
 rwa [Yj]at this
def OK:Sp:=λvs H Q _=>∃(m:Addr) (n:Nat) (T:MM.aY) (hs:List Int) (ta ha:Addr),vs=[.ref m]/\dE H m n T hs ta ha/\LdQ n T hs /\
 ∀(b:Bool) (H':Hp),aW H H'->(b=true↔Dst T hs)->Q (.bl b) H'
theorem MC(T:Txt K mg t):cJ P w K mg base CX0 4 t.sU t.sJ ["laid"] OK:=by
 refine T.sC.F.ok oS (λvs H Q E h=>?_) (λcdv A outer s H vs Q E hr h=>?_)
 ·obtain⟨_,_,_,_,_,_,rfl,_⟩:=h;rfl
 obtain⟨m,n,TT,hs,ta,ha,rfl,hL,L,q⟩:=h;have nd:=oS.nd;have nd_end_laid:(["end","laid"]:List Str).Nodup:=by decide
 refine⟨_,(aF (cQ PassesOwn.never rfl (bJ (bK (JI T) hr T.fX a8 (aA (aJ aT (pv 0) aC (λ_ _=>rfl)) (aA (aJ aT (pv 0) aC (λ_ _=>rfl)) aB)))) (aK (i:=1) nd rfl (Or.inl rfl)) (aH (b8 (aV lO (aQ wZ rfl T.b7 PySem.boot_len (aA (cY (G3 rfl) rfl T.M9 boot_set (aA (cG (N':=["end","laid"]) (js:=[none,some 0]) rfl (bJ (pv 1)) (λ_ _ _ _ _=>(aK (i:=0) nd_end_laid rfl (Or.inl rfl))) (λ_ _ _ _ _=>b9) (λ_ _ _ _ _=>(bK (pC T) hr T.c9 a8 (aA (aJ (jB (K:=K) rfl) (pv 1) aC (λ_ _=>rfl)) (aA (pv 0) aB))))) aB)) aB)) (aQ aN rfl T.b7 PySem.boot_len (aA (pv 1) aB)) (a7 _)) (aH (aU cO)) bD)))
  (aH (aU cO))),?_⟩
 have hl:=L.hl;have b0:=L.n1;have b1:=L.t1;refine(aI _ rfl m _ _ _ rfl (bZ rfl (SqT.of hL.1) rfl _ rfl (aS m _ _ (.ref ta) rfl rfl (SqT.of hL.1) (oG rfl n ta (AW.cT TT) rfl (HU hL.2.1) (DJ L.pl) ⟨ by lia,by rw[AW.nY];lia,λr H1 g1 o1=>?_⟩))));obtain⟨tr,z1,z2,z3⟩:=o1;refine⟨r,rfl,⟨_,SqL.of z1⟩,?_⟩;refine fI (K:=K) (xs:=tr.map V.ref) (λi σ H'=>∃o1:Option V,σ=[some (.ref m),o1]/\aW H1 H'/\∀p,p<i->(hxs TT hs p).Nodup) ⟨_,rfl,aW.refl _,λp hp=>by lia⟩ (λi σ H' _ h=>by obtain⟨_,_,g,_⟩:=h;exact SqL.of (g _ _ z1)) ?_ ?_
 ·rintro i x σ H' hx ⟨o1,rfl,g2,hn⟩;rw[Zk]at hx;have hi:i<n:=by
   rcases Xq i n with z | z
   ·exact z
   ·rw[Zr (by rw[z2,Zq,Yj];exact z)]at hx;cases hx
  obtain⟨x1,a1,c1⟩:=z3 i _ (by rw[Zk,Yk hi];rfl);rw[a1]at hx;cases hx;have c1:H1 x1=some (.lst (List.map V.int (AW.endsAt (AW.cT TT) (i:Int)))):=c1;rw[BQ]at c1;have el:=KI TT i;have c2:=g2 _ _ c1;have hL2:=hL.st (g1.trans g2).st;refine(bO _ rfl x1 rfl ⟨_,SqL.of c2⟩ (λD hD=>?_));refine bS (eE TT i).length (λj=>.int ((hxs TT hs i).getD j 0)) hD (by lia) (λj H3 hj g'=>⟨_,_,SqL.of (g' _ _ c2),Zz (by rw[Zq,Zq];exact hj)⟩) (λH3 g'=>⟨_,SqL.of (g' _ _ c2),by rw[Zq,Zq];exact Nat.le_refl _⟩) (λj H3 x H4 k hj g' hY hk=>?_) ?_
  ·obtain⟨rfl,hY⟩:=hY;have ex:=hY _ (SqL.of (g' _ _ c2));rw[Zk,Zk,Zz hj]at ex;cases ex;have hL3:=hL2.st g'.st;have me:=(c6.mp (Zp hj)).1;refine⟨(Fills.refl _).set _ rfl,(aI _ rfl m _ _ (.ref ha) rfl (bZ rfl (SqT.of hL3.1) rfl _ rfl (bG ha hs ((eE TT i)[j]) rfl (SqL.of hL3.2.2) (by lia) L.hb ?_)))⟩;have e:(hxs TT hs i).getD j 0=hx hs (eE TT i)[j]:=by
    rw[Zv,Zk,Zz hj];rfl
   rw[<-e];exact hk _ (aW.refl _)
  intro H3 g3 e3;have e3:H3 D=some (.lst ((hxs TT hs i).map V.int)):=by
   rw[e3];congr 2;refine Yp λj=>?_;rw[Zk,Zk,Zk];by_cases h:j<(eE TT i).length
   ·rw[Yk h,Zz h];show some (V.int ((hxs TT hs i).getD j 0))=_;rw[Zv,Zk,Zz h];rfl
   ·rw[Zr (by simpa using h),Zr (by simpa using h)];rfl
  refine(aZ D _ rfl (SqL.of e3) (by rw[Zq];lia) (λr2 S hr2=>(CB r2 S _ rfl aE ?_)));have s4:=aG hr2 (.set S (unl (hxs TT hs i)));refine(bM _ rfl x1 _ rfl (.inl (SqL.of (s4 _ _ (g3 _ _ c2)))) rfl ⟨ _,rfl,eV (λz=>?_) (λz=>?_)⟩)
  ·refine q false _ ((g1.trans g2).trans (g3.trans s4)) ⟨λy=>(nomatch y),λD=>?_⟩;have e:=(EB _).mpr (QI D i);rw[e]at z;simp at z
  ·refine⟨_,rfl,g2.trans (g3.trans s4),λp hp=>?_⟩;rcases Xq p i with y | y
   ·exact hn p y
   ·have:p=i:=by lia
    subst this;refine(EB _).mp ?_;simp at z;rw[Zq]
    lia
 ·rintro σ H' ⟨o1,rfl,g2,hn⟩;rw[Zq,z2,Zq,Yj]at hn;exact q true _ (g1.trans g2) (by simp;exact QH L hn)
def HZ:Sp:=λvs H Q _=>∃(k o:Nat),vs=[vn k,vn o]/\Q (.int (if k=o then -4 else 4)) H
theorem F6(T:Txt K mg t):cJ P w K mg base CX0 1 t.p8 t.pT ["number","outer"] HZ:=by
 refine T.pM.F.ok wQ (λvs H Q E h=>?_) (λcdv A outer s H vs Q E hr h=>?_)
 ·obtain⟨k,o,rfl,_⟩:=h;rfl
 obtain⟨k,o,rfl,q⟩:=h;refine⟨_,(aH (aU (uH (aV gJ (pv 0) (pv 1) (a7 _)) (mV jD (iW (v:=.int 4) rfl T.bQ ⟨_,rfl⟩)) (iW (v:=.int 4) rfl T.bQ ⟨_,rfl⟩)))),?_⟩;refine(kZ _ rfl _ rfl rfl _ rfl (eV (λc=>?_) (λc=>?_)))
 ·have:k=o:=by
   have c':V.int (k:Int)=V.int (o:Int):=of_decide_eq_true c;have:=V.int.inj c'
   lia
  rw[if_pos this]at q;exact⟨_,rfl,q⟩
 ·have:¬k=o:=λz=>c (by subst z;exact decide_eq_true rfl);rw[if_neg this]at q;exact q
theorem gY{K:PySem.W.Frag}{H:Hp}{p:Addr}{ns:List Int}(h:H p=some (.lst (ns.map V.int))):Bd K H (.ref p) (.list (ns.map PyData.int)):=.lst (SqL.of h) (Bds.ints ns)
def n8(l:List Int):Prop:=l.Perm (-4::List.replicate (l.length-1) 4)
def ws(n:Nat):List Int:=-4::List.replicate (n-1) 4
theorem QX(n:Nat):(ws n).Pairwise (·<=·):=by
 unfold ws;rw[List.pairwise_cons];exact⟨λx hx=>by rw[List.eq_of_mem_replicate hx];decide,List.pairwise_replicate.mpr (.inr (Int.le_refl _))⟩
theorem AE{l ns:List Int}(p:ns.Perm l)(s:ns.Pairwise (·<=·)):ns=ws l.length↔n8 l :=
 ⟨λh=>p.symm.trans (by rw[h];exact .refl _),λh=>AW.qG (p.trans h) s (QX _)⟩
theorem N6{n:Nat}(h:0<n):(List.range n).map (λi=>V.int (if i=0 then -4 else 4))=(ws n).map V.int:=by
 obtain⟨k,rfl⟩:∃k,n=k+1:=⟨n-1,by lia⟩
 rw[List.range_succ_eq_map];unfold ws;rw[List.map_cons,List.map_cons,Yh,List.map_replicate,Nat.add_sub_cancel];congr 1;exact List.eq_replicate_iff.mpr ⟨by simp,λx hx=>by
  obtain⟨i,_,rfl⟩:=Zh.mp hx;show V.int (if i+1=0 then -4 else 4)=_;rw[if_neg (by lia)]⟩
def OI(tp:Addr):Sp:=λvs H Q _=>∃(m:Addr) (n:Nat) (T:MM.aY) (hs:List Int) (ta ha:Addr),vs=[.ref m]/\dE H m n T hs ta ha/\LdP n T hs/\TB tp H/\0<(sL n T hs).length/\(sL n T hs).length<64 /\
 ∀(b:Bool) (H':Hp),bT H H'->TB tp H'->(b=true↔n8 (sL n T hs))->Q (.bl b) H'
theorem MB(T:Txt K mg t)(B:BT base mg t):cJ P w K mg base CX0 9 t.iP t.iM ["laid"] (OI t.tp):=by
 have l7:=A0 (P:=P) (w:=w) (base:=base) T B;refine T.iJ.F.ok gR (λvs H Q E h=>?_) (λcdv A outer s H vs Q E hr h=>?_)
 ·obtain⟨_,_,_,_,_,_,rfl,_⟩:=h;rfl
 obtain⟨m,n,TT,hs,ta,ha,rfl,hL,L,tb,l0,l64,q⟩:=h;have nd:=gR.nd;have nd_number:(["number"]:List Str).Nodup:=by decide
 refine⟨_,(aF (bC 1 nd (aQ fL rfl T.fC boot_sorted (aA (bK l7 hr T.lU a8 (aA (pv 0) aB)) aB)))
  (aH (aU (dZ (nQ hr.units) (pv 1) (cG (N':=["number"]) (js:=[none]) rfl (bH rfl T.bW (aA (aQ aN rfl T.b7 PySem.boot_len (aA (pv 1) aB)) aB)) (λ_ _ _ _ _=>(aK (i:=0) nd_number rfl (Or.inl rfl))) (λ_ _ _ _ _=>b9) (λ_ _ _ _ _=>(bK (F6 T) hr T.pM a8 (aA (pv 0) (aA aC aB))))) (a7 _))))),?_⟩
 refine⟨_,rfl,(bE m n TT hs ta ha rfl ⟨ hL,L,tb,λr H1 g1 t1 n1 e1=>?_⟩)⟩;refine(aZ r _ rfl (SqL.of e1) l64 (λl ns hl p s=>?_));have s2:=aG hl (.lst (ns.map V.int));have pl:=p.length_eq;have ll:(((ns.map V.int).length:Nat):Int)=((sL n TT hs).length:Nat):=by rw[Zq,pl]
 refine(bR _ rfl _ rfl l _ rfl (N3 (.inl (SqL.of aE)) _ rfl ?_ ?_ (λD hD=>?_)))
 ·show -(2 ^ 62)<=(((ns.map V.int).length:Nat):Int);lia
 ·show(((ns.map V.int).length:Nat):Int)<2 ^ 62;lia
 refine bS (sL n TT hs).length (λi=>.int (if i=0 then -4 else 4)) hD (by lia) (λi H' hi g2=>?_) (λH' g2=>?_) ?_ ?_
 ·show i<((((ns.map V.int).length:Nat):Int)-0).toNat;lia
 ·show((((ns.map V.int).length:Nat):Int)-0).toNat<=(sL n TT hs).length;lia
 ·rintro i H' x H'' k hi g2 hy hk;obtain⟨rfl,rfl⟩:=hy;exact(K0 ((Fills.refl _).set _ rfl) _ rfl i 0 (by show[V.int (0+(i:Int)),V.int 0]=[vn i,vn 0];rw[Int.zero_add];rfl) (hk _ (aW.refl _)))
 intro H3 g3 e3;rw[N6 l0]at e3;refine(cE _ _ (gY (g3 _ _ aE)) (gY e3) (shaped_ints _) (shaped_ints _) ?_);rw[eZ];refine q _ _ (g1.trans (s2.trans g3).st) ((t1.same s2).same g3) ?_;rw[Bool.xor_false,decide_eq_true_iff];exact AE p s
end K49
namespace L2
open PySem PySem.Spec PyProof.Rows
theorem Fun.okX{P:Program}{w:World}{K:PySem.W.Frag}{mg:Str->Option Value}{base:Heap}{C:Addr}{x qual:Str}{st:Stmt}{f:Addr}{fd:FuncData}{N ps:List Str}{k:Nat}{sp:Sp}(F:Fun K x qual st f fd)(S:aX N ps (aR st))(len:∀vs H Q E,sp vs H Q E->vs.length=ps.length)
  (hbody:∀(cdv:Value) (A:Around) (outer:List Env) (s:Shared) (H:Hp) (vs:List V) (Q:VK) (E:XK),eX k (A.deeper (envOfC qual (aR st) s.heap.objs.size f cdv))->sp vs H Q E ->
   ∃t,PSs (zM (CXr P w C) P w K mg base N qual (aR st) f cdv A outer s H E) (fJ st) t/\t { nx:=λ_ H'=>Q .non H',rt:=Q } (start N vs) H):cJ P w K mg base (CXr P w C) (k+1) f fd ps sp:=by
 obtain⟨oc,od,kV,doc,pm,an,cdv,ct,osl,rfl,lk,hcd⟩:=F.ex;exact KD lk hcd S len λA outer s H vs Q E hr hsp=>hbody cdv A outer s H vs Q E hr hsp
end L2
namespace K49
open PySem L2 PyProof.Rows
structure LdR(n:Nat)(T:MM.aY)(hs:List Int):Prop extends LdQ n T hs where
 one:1<=T.length
 n0:1<=n
 n2:n<=T.length+1
 t2:T.length<=60
theorem ED{ts:AW.Ts}{p:Int}(h:AW.Rch ts p):p=0\/((∃x∈ts,x.1=p\/x.2=p)/\∃x∈ts,x.1=0\/x.2=0):=by
 induction h with
 |zero=>exact .inl rfl
 |@fwd x hx _ ih =>
  refine .inr ⟨⟨x,hx,.inr rfl⟩,?_⟩;rcases ih with z | z
  ·exact⟨x,hx,.inl z⟩
  ·exact z.2
 |@bwd x hx _ ih =>
  refine .inr ⟨⟨x,hx,.inl rfl⟩,?_⟩;rcases ih with z | z
  ·exact⟨x,hx,.inr z⟩
  ·exact z.2
theorem E3{T:MM.aY}{p:Nat}(h:∃x∈AW.cT T,x.1=(p:Int)\/x.2=(p:Int)):∃e,e<2*T.length/\MM.place T e=p:=by
 obtain⟨x,hx,h⟩:=h;obtain⟨y,hy,rfl⟩:=Zh.mp hx;obtain⟨i,hi,e⟩:=Yy.mp hy;have e0:T[i]?=some y:=by rw[Zz hi,e]
 rcases h with h | h
 ·refine⟨2*i,by lia,?_⟩;have:=AW.IW (ts:=T) (e:=2*i) (by lia);unfold AW.plc AW.cT at this;rw[Zk,Nat.mul_div_cancel_left i (by decide),e0]at this;have e2:(2*i)%2=0:=by lia
  simp only[e2,Option.map_some,Option.getD_some,if_true]at this;simp only at h
  lia
 ·refine⟨2*i+1,by lia,?_⟩;have:=AW.IW (ts:=T) (e:=2*i+1) (by lia);unfold AW.plc AW.cT at this;have e1:(2*i+1) / 2=i:=by lia
  rw[Zk,e1,e0]at this;have e2:¬(2*i+1)%2=0:=by lia
  simp only[e2,Option.map_some,Option.getD_some,if_false]at this;simp only at h
  lia
theorem FS{n:Nat}{T:MM.aY}{hs:List Int}(q:LdR n T hs)(W:AW.nA n (AW.cT T)){p:Nat}(hp:p<n):∃e,e<2*T.length/\MM.place T e=p:=by
 have key:∃x∈AW.cT T,x.1=(0:Int)\/x.2=(0:Int):=by
  have h1:=q.one;obtain⟨y,hy⟩:∃y,y∈T:=⟨T[0],Zp _⟩
  have hm:((y.1:Int),(y.2:Int))∈AW.cT T:=Zh.mpr ⟨y,hy,rfl⟩;have b:=DJ q.pl _ hm;rcases ED (W y.1 b.1.1 b.1.2) with z | z
  ·exact⟨_,hm,.inl z⟩
  ·exact z.2
 rcases ED (W p (by lia) (by lia)) with z | z
 ·have:p=0:=by lia
  subst this;exact E3 key
 ·exact E3 z.1
theorem MY{n:Nat}{T:MM.aY}{hs:List Int}(q:LdR n T hs)(D:Dst T hs)(W:AW.nA n (AW.cT T)):MM.Good T (cK T hs n):=by
 have O:=EJ (m:=n) D;have none:∀p,¬p<n->MM.row (cK T hs n) p=[]:=λp hp=>by
  unfold MM.row;rw[Zv,Zr (by rw[O.len];lia)];rfl
 refine⟨⟨λp e he=>?_,λe he=>?_,λp=>?_,λp hp=>?_,λp=>?_⟩,q.one⟩
 ·by_cases hp:p<n
  ·exact(O.mem p hp e).mp he
  ·rw[none p hp]at he;cases he
 ·have:=q.pl e he;exact⟨by rw[O.len];exact this,(O.mem _ this e).mpr ⟨he,rfl⟩⟩
 ·by_cases hp:p<n
  ·exact R0 (O.srt p hp)
  ·rw[none p hp];exact List.nodup_nil
 ·rw[O.len]at hp;obtain⟨e,h1,h2⟩:=FS q W hp;intro z;have:=(O.mem p hp e).mpr ⟨h1,h2⟩;rw[z]at this;cases this
 ·by_cases hp:p<n
  ·exact E2 (O.srt p hp)
  ·rw[none p hp];simp
theorem LdR.p{n:Nat}{T:MM.aY}{hs:List Int}(q:LdR n T hs)(D:Dst T hs)(W:AW.nA n (AW.cT T)):LdP n T hs:=⟨q.hl,q.hb,q.pl,D,by have:=q.n1;lia,by have:=q.t1;lia,MY q D W⟩
structure l6(n:Nat)(T:MM.aY)(hs:List Int):Prop where
 ds:Dst T hs
 wh:AW.nA n (AW.cT T)
 fl:n+MM.kL T (cK T hs n)=T.length+2
 su:n8 (sL n T hs)
theorem E7{n:Nat}{T:MM.aY}{os:MM.dM}:flB n T os=true↔n+MM.kL T os=T.length+2:=by
 unfold flB;rw[decide_eq_true_iff];constructor
 ·intro h;have:=V.int.inj h
  lia
 ·intro h;congr 1
  lia
def IE(tp:Addr):Sp:=λvs H Q E=>∃(m:Addr) (n:Nat) (T:MM.aY) (hs:List Int) (ta ha:Addr),vs=[.ref m]/\dE H m n T hs ta ha/\LdR n T hs/\TB tp H /\
 (l6 n T hs->∀H',bT H H'->TB tp H'->Q .non H')/\(¬l6 n T hs->∀x H',bT H H'->TB tp H'->E (.ref x) none H')
theorem GB(T:Txt K mg t)(B:BT base mg t):cJ P w K mg base (CXr P w t.cM) 10 t.qB t.pW ["laid"] (IE t.tp):=by
 have fO:=lP (P:=P) (w:=w) (base:=base) T B;have oD:=MB (P:=P) (w:=w) (base:=base) T B;refine T.pP.F.okX mU (λvs H Q E h=>?_) (λcdv A outer s H vs Q E hr h=>?_)
 ·obtain⟨_,_,_,_,_,_,rfl,_⟩:=h;rfl
 obtain⟨m,n,TT,hs,ta,ha,rfl,hL,L,tb,q1,q2⟩:=h;have nd:=mU.nd;have nd_head:(["head"]:List Str).Nodup:=by decide
 refine⟨_,(aF (bC 1 nd (aJ aT (pv 0) aC (λ_ _=>rfl)))
  (aF (bC 2 nd (aJ aT (pv 0) aC (λ_ _=>rfl)))
  (aF (b8 (PW.pt (gT (eM (cP (pv 2) (λ_=>rfl))) (gP (eM (IS AY AY aC (pv 1) (aO bV (aQ aN rfl T.b7 PySem.boot_len (aA (pv 2) aB)) aC)))))) (aH (jP T.wN PySem.F.excBase_ValueError T.dQ)) bD)
  (aF (b8 (eM (cP (bK (PR T) hr T.iI a8 (aA (pv 1) (aA (pv 2) aB))) (λ_=>rfl))) (aH (jP T.wN PySem.F.excBase_ValueError T.dQ)) bD)
  (aF (b8 (PW.pt (gT (aV lO (aQ aN rfl T.b7 PySem.boot_len (aA (aJ aT (pv 0) aC (λ_ _=>rfl)) aB)) (aQ aN rfl T.b7 PySem.boot_len (aA (pv 2) aB)) (a7 _)) (gP (eM (cP (aQ (rJ rfl) rfl T.HD boot_all (aA (cG (N':=["head"]) (js:=[none]) rfl (bJ (aJ aT (pv 0) aC (λ_ _=>rfl))) (λ_ _ _ _ _=>(aK (i:=0) nd_head rfl (Or.inl rfl))) (λ_ _ _ _ _=>b9) (λ_ _ _ _ _=>(uI AY iF aC (pv 0) (iW (v:=.int (4)) rfl T.bQ ⟨_,rfl⟩)))) aB)) (λ_=>rfl)))))) (aH (jP T.wN PySem.F.excBase_ValueError T.dQ)) bD)
  (aF (b8 (eM (cP (bK (MC T) hr T.sC a8 (aA (pv 0) aB)) (λ_=>rfl))) (aH (jP T.wN PySem.F.excBase_ValueError T.dQ)) bD)
  (aF (b8 (PW.pt (gT (eM (cP (bK (MG T) hr T.jV a8 (aA (pv 1) (aA (pv 2) aB))) (λ_=>rfl))) (gP (eM (cP (bK (MI T) hr T.xY a8 (aA (bK fO hr T.lT a8 (aA (pv 0) aB)) aB)) (λ_=>rfl)))))) (aH (jP T.wN PySem.F.excBase_ValueError T.dQ)) bD)
  (aH (b8 (eM (cP (bK oD hr T.iJ a8 (aA (pv 0) aB)) (λ_=>rfl))) (aH (jP T.wN PySem.F.excBase_ValueError T.dQ)) bD))))))))),?_⟩
 refine(aI _ rfl m _ _ _ rfl ⟨ rfl,SqT.of hL.1,rfl,?_⟩);refine(aI _ rfl m _ _ _ rfl ⟨ rfl,SqT.of hL.1,rfl,?_⟩);obtain⟨tr,z1,z2,z3⟩:=id hL.2.1;have hl:=L.hl;have b1:=L.one;have b2:=L.n2;have b3:=L.n0;have b4:=L.t2;have b5:=L.n1;have tl:(tr.map V.ref).length=TT.length:=by rw[Zq,z2]
 have e0:(tr.map V.ref).isEmpty=false:=by
  cases h:tr.map V.ref with
  |nil=>rw[h]at tl;simp at tl;lia
  |cons a b=>rfl
 refine⟨_,rfl,_,.inl ⟨_,SqL.of z1,rfl⟩,cR (by rw[e0];rfl) ?_⟩;have e1:decide ((1:Int)<=(n:Int))=true:=decide_eq_true (by lia);have e2:decide ((n:Int)<=((tr.map V.ref).length:Nat)+1)=true:=decide_eq_true (by rw[tl];lia);refine(bF _ rfl _ _ rfl rfl ⟨ _,rfl,eJ e1 ?_⟩);refine(bF _ rfl ta _ rfl (.inl (SqL.of z1)) (dH _ _ rfl rfl _ _ rfl ⟨ rfl,?_⟩));refine⟨_,rfl,cR (by rw[e2];rfl) ?_⟩;refine⟨_,(oH rfl _ rfl (n:Int) ta (AW.cT TT) rfl ⟨ HU hL.2.1,by rw[AW.nY];lia,λH1 g1=>⟨_,rfl,?_⟩⟩)⟩;rw[AW.JZ.mpr (DJ L.pl)];refine mP ?_;have hL1:=hL.st g1.st;have z11:=g1 _ _ z1;refine(aI _ rfl m _ _ (.ref ha) rfl (bY rfl (SqT.of hL1.1) rfl ha _ rfl (.inl (SqL.of hL1.2.2)) (bM _ rfl ta _ rfl (.inl (SqL.of z11)) rfl ⟨ _,rfl,cR ?_ ?_⟩)))
 ·rw[tl,Zq,hl];simp
 refine(aI _ rfl m _ _ (.ref ha) rfl (kC rfl (SqT.of hL1.1) rfl ha rfl ⟨_,SqL.of hL1.2.2⟩ (λD hD=>?_)));refine bS TT.length (λ_=>.bl true) hD (by lia) (λi H' hi g'=>⟨_,_,SqL.of (g' _ _ hL1.2.2),Zz (by rw[Zq,hl];exact hi)⟩) (λH' g'=>⟨_,SqL.of (g' _ _ hL1.2.2),by rw[Zq,hl];exact Nat.le_refl _⟩) (λi H' x H'' k hi g' hY hk=>?_) ?_
 ·obtain⟨rfl,hY⟩:=hY;have ex:=hY _ (SqL.of (g' _ _ hL1.2.2));have hi':i<hs.length:=by lia
  rw[Zk,Zz hi']at ex;cases ex;have hb:=L.hb i hi';rw[show at0 hs i=hs[i] by unfold at0;rw[Zv,Zz hi'];rfl]at hb;have c1:decide ((0:Int)<=hs[i])=true:=decide_eq_true hb.1;have c2:decide (hs[i]<4)=true:=decide_eq_true hb.2;refine(iC ((Fills.refl _).set _ rfl) _ rfl _ _ rfl rfl ⟨ _,rfl,eJ c1 ⟨_,_,rfl,rfl,?_⟩⟩);show k (.bl (decide (hs[i]<4))) _;rw[c2];exact hk _ (aW.refl _)
 intro H2 g2 e2';have g02:=g1.trans g2;have hL2:=hL.st g02.st;have e3:H2 D=some (.lst ((List.replicate TT.length true).map V.bl)):=by
  rw[e2'];congr 2;rw[List.map_replicate];exact List.eq_replicate_iff.mpr ⟨by simp,λx hx=>by obtain⟨_,_,rfl⟩:=Zh.mp hx;rfl⟩
 refine(j8 D _ rfl (SqL.of e3) _ rfl (cR (by simp) ?_));refine⟨_,rfl,(bE m n TT hs ta ha rfl ⟨ hL2,L.toLdQ,λb H3 g3 hb=>⟨_,rfl,?_⟩⟩)⟩;have t3:=(tb.same g02).same g3;have g03:=g02.trans g3;cases b with
 |false=>exact iS λx=>q2 (λz=>Bool.noConfusion (hb.mpr z.ds)) x H3 g03.st t3
 |true =>
  have ds:=hb.mp rfl;refine mP ⟨_,(oH rfl _ rfl n ta (AW.cT TT) rfl (gO (HU (hL.st g03.st).2.1) (DJ L.pl) (by lia) (by lia) (by rw[AW.nY];lia) (λb H4 g4 hb=>⟨_,rfl,?_⟩)))⟩;have t4:=t3.same g4;have g04:=g03.trans g4;cases b with
  |false=>exact eJ rfl (iS λx=>q2 (λz=>Bool.noConfusion (hb.mpr z.wh)) x H4 g04.st t4)
  |true =>
   have wh:=hb.mp rfl;have LP:=L.p ds wh;refine cR rfl ⟨_,rfl,(bE m n TT hs ta ha rfl ⟨ hL.st g04.st,LP,t4,λwa ra oA rr H5 g5 t5 _ _ f1 f2 w5=>?_⟩)⟩;refine(aS wa n TT _ rfl ⟨ra,oA,f1,f2,kK w5⟩ LP.g ⟨ LP.t1,λH6 g6=>⟨_,rfl,?_⟩⟩);have t6:=t5.same g6;have g06:=(g04.st.trans g5).trans g6.st;by_cases fl:n+MM.kL TT (cK TT hs n)=TT.length+2
   case neg =>
    rw[Bool.eq_false_iff.mpr λz=>fl (E7.mp z)];exact iS λx=>q2 (λz=>fl z.fl) x H6 g06 t6
   rw[E7.mpr fl];have e:(sL n TT hs).length=MM.kL TT (cK TT hs n):=by unfold sL;rw[Zq];rfl
   refine mP ⟨_,rfl,(bE m n TT hs ta ha rfl (gO (hL.st g06) LP t6 (by lia) (by lia) (λb H7 g7 t7 hb=>⟨_,rfl,?_⟩)))⟩;cases b with
   |false=>exact iS λx=>q2 (λz=>Bool.noConfusion (hb.mpr z.su)) x H7 (g06.trans g7) t7
   |true=>exact mP (q1 ⟨ds,wh,fl,hb.mp rfl⟩ H7 (g06.trans g7) t7)
def ID(tp:Addr):Sp:=λvs H Q _=>∃(m:Addr) (n:Nat) (T:MM.aY) (hs:List Int) (ta ha:Addr),vs=[.ref m]/\dE H m n T hs ta ha/\LdR n T hs/\TB tp H /\
 ∀(b:Bool) (H':Hp),bT H H'->TB tp H'->(b=true↔l6 n T hs)->Q (.bl b) H'
theorem GA(T:Txt K mg t)(B:BT base mg t):cJ P w K mg base CX0 11 t.yP t.yA ["laid"] (ID t.tp):=by
 have zW:=GB (P:=P) (w:=w) (base:=base) T B;refine T.xX.F.ok tZ (λvs H Q E h=>?_) (λcdv A outer s H vs Q E hr h=>?_)
 ·obtain⟨_,_,_,_,_,_,rfl,_⟩:=h;rfl
 obtain⟨m,n,TT,hs,ta,ha,rfl,hL,L,tb,q⟩:=h;have nd:=tZ.nd;refine⟨_,(aF (LV (C:=t.cM) (E:=λ_ _ H2=>bT H H2/\TB t.tp H2/\¬l6 n TT hs) rfl rfl rfl rfl T.dQ rfl T.tO.exm (λpn xe hx=>(aH (cF (bK zW hr T.pP hx (aA (pv 0) aB))))) (λpn xe e=>(aH (aU cO))))
  (aH (aU cO))),?_⟩
 refine⟨⟨_,rfl,(bE m n TT hs ta ha rfl ⟨ hL,L,tb,λz H1 g1 t1=>?_,λz x H1 g1 t1=>⟨g1,t1,z⟩⟩)⟩,λx σ H1 e ⟨g1,t1,z⟩=>?_⟩
 ·exact q true H1 g1 t1 ⟨λ_=>z,λ_=>rfl⟩
 ·exact q false H1 g1 t1 ⟨λy=>(nomatch y),λy=>absurd y z⟩
end K49
namespace PL
theorem PQ{l:List Nat}{p:Nat}(nd:l.Nodup)(h:p∈l)(a:∀x∈l,x=p):l=[p]:=by
 match l,nd,h,a with
 |[x],_,_,a=>rw[a x (by simp)]
 |x::y::r,nd,_,a =>
  have h1:=a x (by simp);have h2:=a y (by simp);rw[h1,h2]at nd;simp at nd
theorem DN{l:List Nat}{f:Nat->Bool}{p:Nat}(nd:l.Nodup)(h:p∈l)(hf:f p=true)(a:∀x∈l,f x=true->x=p):l.filter f=[p] :=
 PQ (nd.sublist List.filter_sublist) (Yz.mpr ⟨h,hf⟩) λx hx=>a x (Yz.mp hx).1 (Yz.mp hx).2
theorem rV:∀{U l:List Nat},U.Nodup->(∀x∈U,x∈l)->l.length<=U.length->U.Perm l
 |[],l,_,_,h=>by
  have:l=[]:=Yd (by simpa using h);subst this;exact .refl _
 |u::U,l,nd,hs,h=>by
  have hu:=hs u (by simp);have p:=List.perm_cons_erase hu;have nd:=List.nodup_cons.mp nd;refine(List.Perm.cons u (rV nd.2 (λx hx=>?_) ?_)).trans p.symm
  ·have hne:x≠u:=λz=>nd.1 (by rw[<-z];exact hx);exact(List.mem_erase_of_ne hne).mpr (hs x (by simp[hx]))
  ·have:=p.length_eq;simp at this h
   lia
theorem JY{s:Nat->Nat}:∀{ks:List Nat},(ks.map s).Nodup->∀{p q:Nat},p∈ks->q∈ks->s p=s q->p=q
 |a::r,h,p,q,hp,hq,z=>by
  obtain⟨h1,h2⟩:=List.nodup_cons.mp h;rcases Zn.mp hp with rfl | hp
  ·rcases Zn.mp hq with rfl | hq
   ·rfl
   ·exact absurd (Zh.mpr ⟨q,hq,z.symm⟩) h1
  ·rcases Zn.mp hq with rfl | hq
   ·exact absurd (Zh.mpr ⟨p,by assumption,z⟩:s q∈r.map s) h1
   ·exact JY h2 hp hq z
variable(n0:Nat)(s e:Nat->Nat)(ok:Nat->Bool)
def go:Nat->Bool->List Nat->Nat->List Nat->Option (Nat×List Nat)
 |0,_,_,here,B=>some (here,B)
 |k+1,first,left,here,B =>
  if first=false/\(here<n0\/here∈B) then none
  else match left.filter (λp=>s p==here&&ok p) with
   |[p]=>go k false (left.erase p) (e p) (if first=true then B else B++[here])
   |_=>none
variable{n0 s e ok}
theorem J4:∀{k:Nat}{f:Bool}{left:List Nat}{here:Nat}{B:List Nat}{r:Nat×List Nat},left.length=k->left.Nodup->go n0 s e ok k f left here B=some r->(∀p∈left,ok p=true)/\(left.map s).Nodup
 |0,_,left,_,_,_,h,_,_=>by
  have:left=[]:=Yd h;subst this;exact⟨λp hp=>(by cases hp),List.nodup_nil⟩
 |k+1,f,left,here,B,r,h,nd,g=>by
  unfold go at g;split at g
  ·cases g
  split at g
  ·next p hp =>
   have hm:p∈left.filter (λp=>s p==here&&ok p):=by rw[hp];simp
   obtain⟨m,c⟩:=Yz.mp hm;simp at c;have pm:=List.perm_cons_erase m;obtain⟨i1,i2⟩:=J4 (by rw[List.length_erase_of_mem m];lia) (nd.erase p) g;refine⟨λq hq=>?_,?_⟩
   ·by_cases z:q=p
    ·rw[z];exact c.2
    ·exact i1 q ((List.mem_erase_of_ne z).mpr hq)
   ·refine((pm.map s).nodup_iff).mpr (List.nodup_cons.mpr ⟨λz=>?_,i2⟩);obtain⟨q,hq,e⟩:=Zh.mp z;have hq2:=(nd.mem_erase_iff.mp hq)
    have:q∈left.filter (λp=>s p==here&&ok p):=Yz.mpr ⟨hq2.2,by simp[e,c.1,i1 q hq]⟩;rw[hp]at this;exact hq2.1 (by simpa using this)
  ·cases g
structure J(n0:Nat)(s:Nat->Nat)(ks:List Nat)(first:Bool)(left:List Nat)(here:Nat)(B:List Nat):Prop where
 nd:left.Nodup
 sub:∀p∈left,p∈ks
 used:∀p∈ks,p∉left->s p<n0\/s p∈B
 fst:first=true->left=ks/\here<n0
theorem J.none{ks left B:List Nat}{first:Bool}{here k:Nat}(j:J n0 s ks first left here B)(h:here∉ks.map s):go n0 s e ok (k+1) first left here B=none:=by
 unfold go;split
 ·rfl
 have:left.filter (λp=>s p==here&&ok p)=[]:=by
  rw[List.filter_eq_nil_iff];intro p hp z;simp at z;exact h (Zh.mpr ⟨p,j.sub p hp,z.1⟩)
 rw[this]
theorem DK{left B:List Nat}{here k:Nat}(h:here<n0\/here∈B):go n0 s e ok (k+1) false left here B=none:=by
 unfold go;rw[if_pos ⟨rfl,h⟩]
theorem J.step{ks left B:List Nat}{first:Bool}{here k p:Nat}(j:J n0 s ks first left here B)(hk:(ks.map s).Nodup)(ho:∀p∈ks,ok p=true)(hp:p∈ks)(hs:s p=here)(h1:first=false->¬(here<n0\/here∈B)) :
  go n0 s e ok (k+1) first left here B=go n0 s e ok k false (left.erase p) (e p) (if first=true then B else B++[here])/\p∈left/\J n0 s ks false (left.erase p) (e p) (if first=true then B else B++[here]):=by
 have pl:p∈left:=by
  cases first with
  |true=>rw[(j.fst rfl).1];exact hp
  |false =>
   rcases Decidable.em (p∈left) with z | z
   ·exact z
   ·have:=j.used p hp z;rw[hs]at this;exact absurd this (h1 rfl)
 have inj:∀q∈ks,s q=here->q=p:=λq hq z=>by
  exact JY hk hq hp (z.trans hs.symm)
 refine⟨?_,pl,?_⟩
 ·have f1:left.filter (λp=>s p==here&&ok p)=[p]:=DN j.nd pl (by simp[hs,ho p hp]) λx hx z=>by
   simp at z;exact inj x (j.sub x hx) z.1
  conv=>lhs;unfold go
  rw[if_neg (by rintro⟨a,b⟩;exact h1 a b),f1]
 ·refine⟨j.nd.erase p,λq hq=>j.sub q (List.mem_of_mem_erase hq),λq hq z=>?_,λz=>by cases z⟩;by_cases y:q=p
  ·rw[y,hs];cases first with
   |true=>exact .inl (j.fst rfl).2
   |false=>exact .inr (by simp)
  ·have z:q∉left:=λh=>z ((List.mem_erase_of_ne y).mpr h);rcases j.used q hq z with x | x
   ·exact .inl x
   ·refine .inr ?_;split
    ·exact x
    ·exact List.mem_append_left _ x
end PL
namespace L2
open PySem PySem.Spec PyProof.Rows
def SB(d:Addr)(H H':Hp):Prop:=∀x o,x≠d->H x=some o->H' x=some o
theorem SB.of{d:Addr}{H H':Hp}(g:aW H H'):SB d H H':=λx o _ h=>g x o h
theorem SB.trans{d:Addr}{H H' H2:Hp}(g:SB d H H')(g2:SB d H' H2):SB d H H2:=λx o n h=>g2 x o n (g x o n h)
theorem SB.upd(d:Addr)(H:Hp)(o:HO):SB d H (upd H d o):=λx u n h=>by rw[aL n];exact h
theorem SB.l{d:Addr}{H H':Hp}(g:SB d H H'){kvs:List (Key×V)}(e:H d=some (.dK kvs)){x:Addr}{l:List V}(h:H x=some (.lst l)):H' x=some (.lst l):=g x _ (rW h e (λz=>nomatch z)) h
theorem SB.tw{d:Addr}{H H':Hp}(g:SB d H H'){kvs:List (Key×V)}(e:H d=some (.dK kvs)){x:Addr}{l:List V}(h:H x=some (.tup l)):H' x=some (.tup l):=g x _ (rW h e (λz=>nomatch z)) h
end L2
namespace K49
open PySem L2 PyProof.Rows
theorem dE.sb{d:Addr}{H H':Hp}(g:SB d H H'){kvs:List (Key×V)}(e:H d=some (.dK kvs)){m ta ha:Addr}{n:Nat}{T:MM.aY}{hs:List Int}(h:dE H m n T hs ta ha):dE H' m n T hs ta ha:=by
 refine⟨g.tw e h.1,?_,g.l e h.2.2⟩;obtain⟨tr,h1,h2,h3⟩:=h.2.1;exact⟨tr,g.l e h1,h2,λi x hx=>let⟨r,q1,q2⟩:=h3 i x hx;⟨r,q1,g.tw e q2⟩⟩
abbrev ps(T:MM.aY)(p:Nat):Nat:=MM.place T (2*p)
abbrev pt(T:MM.aY)(p:Nat):Nat:=MM.place T (2*p+1)
theorem nC{H:Hp}{ta:Addr}{T:MM.aY}(h:nZ H ta T){p:Nat}(hp:p<T.length):∃(xs:List V) (r:Addr),H ta=some (.lst xs)/\atI xs (p:Int)=some (.ref r)/\H r=some (.tup [vn (ps T p),vn (pt T p)]):=by
 obtain⟨xs,r,h1,_,h3,h4⟩:=h.item hp;refine⟨xs,r,h1,h3,?_⟩;have e1:ps T p=(T.getD p (0,0)).1:=by
  show MM.place T (2*p)=_;unfold MM.place;rw[if_pos (by lia),Nat.mul_div_cancel_left p (by decide)]
 have e2:pt T p=(T.getD p (0,0)).2:=by
  show MM.place T (2*p+1)=_;unfold MM.place;rw[if_neg (by lia),show(2*p+1) / 2=p by lia]
 rw[e1,e2];exact h4
structure OnD(s e:Nat->Nat)(ks:List Nat)(kvs:List (Key×V)):Prop where
 no:∀x:Nat,x∉ks.map s->eP kvs (Sum.inl (x:Int))=none
 yes:∀x:Nat,x∈ks.map s->∃p∈ks,s p=x/\eP kvs (Sum.inl (x:Int))=some (vn (e p))
 len:kvs.length<=ks.length
theorem OnD.put{s e:Nat->Nat}{ks:List Nat}{kvs:List (Key×V)}(o:OnD s e ks kvs)(p:Nat):OnD s e (ks++[p]) (putK kvs (Sum.inl (s p:Int)) (vn (e p))):=by
 refine⟨λx hx=>?_,λx hx=>?_,?_⟩
 ·rw[oJ];have h1:x≠s p:=λz=>hx (by simp[z]);have h2:x∉ks.map s:=λz=>hx (by rw[Zt];exact List.mem_append_left _ z);rw[if_neg (λz=>h1 (by have:=Sum.inl.inj z;lia))];exact o.no x h2
 ·rw[oJ];by_cases h1:x=s p
  ·rw[if_pos (by rw[h1])];exact⟨p,by simp,h1.symm,rfl⟩
  ·rw[if_neg (λz=>h1 (by have:=Sum.inl.inj z;lia))];rw[Zt]at hx;rcases Zf.mp hx with z | z
   ·obtain⟨q,a,b,c⟩:=o.yes x z;exact⟨q,List.mem_append_left _ a,b,c⟩
   ·exact absurd (by simpa using z) h1
 ·have:=gK kvs (Sum.inl (s p:Int)) (vn (e p));have:=o.len;rw[Zm,ZQ]
  lia
structure Bw(kvs:List (Key×V))(B:List Nat):Prop where
 is:∀x:Nat,(eP kvs (Sum.inl (x:Int))).isSome=decide (x∈B)
 len:kvs.length<=B.length
theorem Bw.put{kvs:List (Key×V)}{B:List Nat}(o:Bw kvs B)(p:Nat):Bw (putK kvs (Sum.inl (p:Int)) (.bl true)) (B++[p]):=by
 refine⟨λx=>?_,?_⟩
 ·rw[oJ];by_cases h1:x=p
  ·rw[if_pos (by rw[h1])];simp[h1]
  ·rw[if_neg (λz=>h1 (by have:=Sum.inl.inj z;lia)),o.is x];simp[h1]
 ·have:=gK kvs (Sum.inl (p:Int)) (.bl true);have:=o.len;rw[Zm,ZQ]
  lia
def fits(hs hs0:List Int)(k p:Nat):Bool:=decide (at0 hs p=at0 hs0 k)
def gone(n0:Nat)(T0:MM.aY)(hs0:List Int)(T:MM.aY)(hs:List Int)(k:Nat)(ks B:List Nat):Option (Nat×List Nat):=PL.go n0 (ps T) (pt T) (fits hs hs0 k) ks.length true ks (ps T0 k) B
structure Wk(n0:Nat)(T0:MM.aY)(hs0:List Int)(T:MM.aY)(hs:List Int)(k:Nat)(ks B:List Nat)(c here:Nat)(kv2:List (Key×V))(left B1 U:List Nat):Prop where
 bw2:Bw kv2 B1
 hB1:∀b∈B1,n0<=b
 lB1:B1.length<=B.length+c
 Und:U.Nodup
 Ul:U.length=c
 Us:∀u∈U,u∈ks.map (ps T)
 Ub:∀u∈U,u<n0\/u∈B1
 h0:c=0->here<n0
 sim:(ks.map (ps T)).Nodup->gone n0 T0 hs0 T hs k ks B=PL.go n0 (ps T) (pt T) (fits hs hs0 k) (ks.length-c) (decide (c=0)) left here B1/\left.length=ks.length-c/\PL.J n0 (ps T) ks (decide (c=0)) left here B1
theorem Wk.next{n0:Nat}{T0:MM.aY}{hs0:List Int}{T:MM.aY}{hs:List Int}{k:Nat}{ks B:List Nat}{c here:Nat}{kv2:List (Key×V)}{left B1 U:List Nat}(W:Wk n0 T0 hs0 T hs k ks B c here kv2 left B1 U)
  {p:Nat}(pk:p∈ks) (sp:ps T p=here) (hb:here∉B1) (hn:c≠0->n0<=here) (hok:∀p∈ks,fits hs hs0 k p=true) (hc:c<ks.length) :
  (c=0->Wk n0 T0 hs0 T hs k ks B (c+1) (pt T p) kv2 (left.erase p) B1 (U++[here]))/\(c≠0->Wk n0 T0 hs0 T hs k ks B (c+1) (pt T p) (putK kv2 (Sum.inl (here:Int)) (.bl true)) (left.erase p) (B1++[here]) (U++[here])):=by
 have nU:here∉U:=λz=>by
  by_cases h:c=0
  ·have:=W.Ul;rw[h]at this;rw[Yd this]at z;cases z
  ·rcases W.Ub _ z with y | y
   ·have:=hn h;lia
   ·exact hb y
 have nd2:(U++[here]).Nodup:=by
  rw[List.nodup_append];exact⟨W.Und,by simp,λa ha b hb z=>nU (by rw[<-show b=here by simpa using hb,<-z];exact ha)⟩
 have us:∀u∈U++[here],u∈ks.map (ps T):=λu hu=>by
  rcases Zf.mp hu with z | z
  ·exact W.Us u z
  ·have:u=here:=by simpa using z
   rw[this,<-sp];exact Zh.mpr ⟨p,pk,rfl⟩
 have ul:(U++[here]).length=c+1:=by rw[Zm,W.Ul];rfl
 have fk:ks.length-c=(ks.length-(c+1))+1:=by lia
 have st:∀nd:(ks.map (ps T)).Nodup,_:=λnd=>let⟨a,b,j⟩:=W.sim nd
  (⟨a,b,j.step (e:=pt T) (ok:=fits hs hs0 k) (k:=ks.length-(c+1)) nd hok pk sp λz=>by
   have hc0:c≠0:=of_decide_eq_false z;have:=hn hc0;intro y;rcases y with y | y
   ·lia
   ·exact hb y⟩:_/\_/\_)
 refine⟨λh=>⟨W.bw2,W.hB1,by have:=W.lB1;lia,nd2,ul,us,λu hu=>?_,λz=>by lia,λnd=>?_⟩,λh=>⟨W.bw2.put here,λb hb'=>?_,?_,nd2,ul,us,λu hu=>?_,λz=>by lia,λnd=>?_⟩⟩
 ·rcases Zf.mp hu with z | z
  ·exact W.Ub u z
  ·have:u=here:=by simpa using z
   rw[this];exact .inl (W.h0 h)
 ·obtain⟨a,b,s1,s2,s3⟩:=st nd;rw[if_pos (decide_eq_true h)]at s1 s3;rw[decide_eq_false (Nat.succ_ne_zero c)];exact⟨by rw[a,fk];exact s1,by rw[List.length_erase_of_mem s2];omega,s3⟩
 ·rcases Zf.mp hb' with z | z
  ·exact W.hB1 b z
  ·have:b=here:=by simpa using z
   rw[this];exact hn h
 ·have:=W.lB1;rw[Zm,ZQ];lia
 ·rcases Zf.mp hu with z | z
  ·exact(W.Ub u z).imp id λy=>List.mem_append_left _ y
  ·exact .inr (List.mem_append_right _ z)
 ·obtain⟨a,b,s1,s2,s3⟩:=st nd;rw[if_neg (by simpa using h)]at s1 s3;rw[decide_eq_false (Nat.succ_ne_zero c)];exact⟨by rw[a,fk];exact s1,by rw[List.length_erase_of_mem s2];omega,s3⟩
def S1:Sp:=λvs H Q _=>∃(m0 m nr bd ta0 ha0 ta ha:Addr) (n0 n:Nat) (T0 T:MM.aY) (hs0 hs:List Int) (k:Nat) (ks B:List Nat) (kvs:List (Key×V)),vs=[.ref m0,vn k,.ref m,.ref nr,.ref bd] /\
 dE H m0 n0 T0 hs0 ta0 ha0/\dE H m n T hs ta ha/\H nr=some (.lst (vns ks))/\H bd=some (.dK kvs)/\Bw kvs B/\k<T0.length/\hs0.length=T0.length/\hs.length=T.length/\(∀p∈ks,p<T.length)/\ks.Nodup/\(∀b∈B,n0<=b)/\ps T0 k<n0/\B.length+ks.length<=10000 /\
 ∀(b:Bool) (B':List Nat) (kvs':List (Key×V)) (H':Hp),SB bd H H'->H' bd=some (.dK kvs')->(b=true->gone n0 T0 hs0 T hs k ks B=some (pt T0 k,B')/\Bw kvs' B'/\(∀b∈B',n0<=b)/\B'.length<=B.length+ks.length)->(b=false->∀B2,gone n0 T0 hs0 T hs k ks B≠some (pt T0 k,B2))->Q (.bl b) H'
theorem F7(T:Txt K mg t):cJ P w K mg base CX0 1 t.sO t.sD ["laid","tie","whole","numbers","between"] S1:=by
 refine T.rX.F.ok oM (λvs H Q E h=>?_) (λcdv A outer s H vs Q E hr h=>?_)
 ·obtain⟨_,_,_,_,_,_,_,_,_,_,_,_,_,_,_,_,_,_,rfl,_⟩:=h;rfl
 obtain⟨m0,m,nr,bd,ta0,ha0,ta,ha,n0,n,T0,TT,hs0,hs,k,ks,B,kvs,rfl,hL0,hL,hN,hB,bw,hk,hl0,hl,hks,knd,hBn,ha0n,hlen,q⟩:=h;have nd:=oM.nd;have hu:=NT hr;refine⟨_,(aF (bC 5 nd AV)
  (aF (cQ PassesOwn.never rfl (bJ (pv 3)) (aK (i:=6) nd rfl (Or.inl rfl)) (aF (b8 (aV lO (aJ bA (aJ aT (pv 2) aC (λ_ _=>rfl)) (pv 6) (λ_ _=>rfl)) (aJ bA (aJ aT (pv 0) aC (λ_ _=>rfl)) (pv 1) (λ_ _=>rfl)) (a7 _)) (aH (aU cO)) bD)
  (aH (zB hu (pv 5) (aJ aT (aJ bA (aJ aT (pv 2) aC (λ_ _=>rfl)) (pv 6) (λ_ _=>rfl)) aC (λ_ _=>rfl)) (aJ aT (aJ bA (aJ aT (pv 2) aC (λ_ _=>rfl)) (pv 6) (λ_ _=>rfl)) aC (λ_ _=>rfl)) rfl))))
  (aF (bC 7 nd (aJ aT (aJ bA (aJ aT (pv 0) aC (λ_ _=>rfl)) (pv 1) (λ_ _=>rfl)) aC (λ_ _=>rfl)))
  (aF (cQ PassesOwn.never rfl (bH rfl T.bW (aA (aQ aN rfl T.b7 PySem.boot_len (aA (pv 3) aB)) aB)) (aK (i:=8) nd rfl (Or.inl rfl)) (aF (b8 (PW.pt (gT (CU (xO hu (pv 7) (pv 5))) (gP (CU (PJ hu (pv 7) (pv 4)))))) (aH (aU cO)) bD)
  (aF (b8 (aV RT (pv 8) aC (a7 _)) (aF (b8 (aV iF (pv 7) (aJ aT (pv 0) aC (λ_ _=>rfl)) (a7 _)) (aH (aU cO)) bD)
  (aH (zB hu (pv 4) (pv 7) cO rfl))) bD)
  (aH (bC 7 nd (L5 hu (pv 5) (pv 7) (λ_ _=>rfl)))))))
  (aH (aU (dZ gJ (pv 7) (aJ aT (aJ bA (aJ aT (pv 0) aC (λ_ _=>rfl)) (pv 1) (λ_ _=>rfl)) aC (λ_ _=>rfl)) (a7 _)))))))),?_⟩
 intro D hD;have nBD:bd≠D:=aP hB hD;have s0:=aG hD (.dK []);refine(bO _ rfl nr rfl ⟨_,SqL.of (s0 _ _ hN)⟩ ?_);refine fI (K:=K) (xs:=vns ks) (λi σ H'=>∃(o6:Option V) (kv1:List (Key×V)),σ=[some (.ref m0),some (vn k),some (.ref m),some (.ref nr),some (.ref bd),some (.ref D),o6,none,none]/\aW H H'/\H' D=some (.dK kv1)/\OnD (ps TT) (pt TT) (ks.take i) kv1/\∀p∈ks.take i,fits hs hs0 k p=true)
  (cE none ([]) rfl s0 aE ⟨λ_ _=>rfl,λx hx=>by simp at hx,by simp⟩ (λp hp=>by simp at hp)) (λi σ H' _ h=>by obtain⟨_,_,_,g,_⟩:=h;exact SqL.of (g _ _ hN)) ?_ ?_
 ·rintro i x σ H' hx ⟨o6,kv1,rfl,g1,eD,on,hok⟩;have hi:i<ks.length:=by
   have:=(Zj.mp hx).1;simpa[vns] using this
  have ex:x=vn ks[i]:=by
   unfold vns at hx;rw[Zk,Zz hi]at hx;exact(Option.some.inj hx).symm
  subst ex;have hp:=hks _ (Zp hi);have hL1:=hL.st g1.st;have hL01:=hL0.st g1.st;have tk:ks.take (i+1)=ks.take i++[ks[i]]:=by rw[List.take_succ,Zz hi];rfl
  refine(aI _ rfl m _ _ (.ref ha) rfl (bZ rfl (SqT.of hL1.1) rfl _ rfl (aS ha _ _ _ rfl rfl (SqL.of hL1.2.2) ⟨ cV (j:=ks[i]) (by lia) rfl,?_⟩)));refine(aI _ rfl m0 _ _ (.ref ha0) rfl (bZ rfl (SqT.of hL01.1) rfl _ rfl (aS ha0 _ _ _ rfl rfl (SqL.of hL01.2.2) ⟨ cV (j:=k) (by lia) rfl,rfl,_,rfl,eV (λz=>?_) (λz=>?_)⟩)))
  ·refine q false B kvs H' (SB.of g1) (g1 _ _ hB) (λy=>nomatch y) (λ_ B2 y=>?_);have:=(PL.J4 rfl knd y).1 _ (Zp hi);unfold fits at this;have:=of_decide_eq_true this;rw[this]at z;simp at z
  ·have z:at0 hs ks[i]=at0 hs0 k:=by simpa using z
   obtain⟨xs,r,r1,r2,r3⟩:=nC hL1.2.1 hp;refine(aI _ rfl m _ _ (.ref ta) rfl (bZ rfl (SqT.of hL1.1) rfl _ rfl (aS ta _ _ _ rfl rfl (SqL.of r1) (fG r2 r _ _ _ rfl rfl ⟨ SqT.of r3,rfl,?_⟩))));refine⟨_,rfl,(aI _ rfl m _ _ (.ref ta) rfl (bZ rfl (SqT.of hL1.1) rfl _ rfl (aS ta _ _ _ rfl rfl (SqL.of r1) (fG r2 r _ _ _ rfl rfl ⟨ SqT.of r3,rfl,?_⟩))))⟩;refine(dH D _ rfl (DY.k (k:=Sum.inl ((ps TT ks[i]:Nat):Int)) eD ?_) _ _ rfl ⟨ g1.fresh hD _,aE,?_,λp hp=>?_⟩)
   ·have:=on.len;rw[Yw]at this;exact Ys (show kv1.length<=10000 by lia) (by decide)
   ·rw[tk];exact on.put _
   ·rw[tk]at hp;rcases Zf.mp hp with y | y
    ·exact hok p y
    ·have:p=ks[i]:=by simpa using y
     subst this;exact decide_eq_true z
 ·rintro σ H1 ⟨o6,kv1,rfl,g1,eD,on,hok⟩;have vl:(vns ks).length=ks.length:=by unfold vns;rw[Zq]
  rw[vl,Yv]at on hok;have hL1:=hL.st g1.st;have hL01:=hL0.st g1.st;obtain⟨xs0,r0,r1,r2,r3⟩:=nC hL01.2.1 hk;refine(aI _ rfl m0 _ _ (.ref ta0) rfl (bZ rfl (SqT.of hL01.1) rfl _ rfl (aS ta0 _ _ _ rfl rfl (SqL.of r1) (fG r2 r0 _ _ _ rfl rfl ⟨ SqT.of r3,rfl,?_⟩))));have eN:(((vns ks).length:Nat):Int).toNat=ks.length:=by rw[vl];exact Int.toNat_natCast _
  refine(bF _ rfl nr _ rfl (.inl (SqL.of (g1 _ _ hN))) ⟨ _,rfl,?_,?_,?_⟩)
  ·show -(2 ^ 62)<=(((vns ks).length:Nat):Int);lia
  ·show(((vns ks).length:Nat):Int)<2 ^ 62;lia
  rw[eN];have hBD1:=g1 _ _ hB;refine dJ (n:=ks.length) (λc σ H'=>∃(o8:Option V) (here:Nat) (kv2:List (Key×V)) (left B1 U:List Nat),σ=[some (.ref m0),some (vn k),some (.ref m),some (.ref nr),some (.ref bd),some (.ref D),o6,some (vn here),o8]/\SB bd H1 H'/\H' bd=some (.dK kv2)/\Wk n0 T0 hs0 TT hs k ks B c here kv2 left B1 U)
   (bE none (ps T0 k) kvs ks B ([]) rfl ⟨ λx o _ h=>h,hBD1,⟨bw,hBn,Nat.le_refl _,List.nodup_nil,rfl,λu h=>(by cases h),λu h=>(by cases h),λ_=>ha0n,λ_=>⟨rfl,rfl,⟨knd,λp h=>h,λp h z=>absurd h z,λ_=>⟨rfl,ha0n⟩⟩⟩⟩⟩) ?_ ?_
  ·rintro c σ H2 hc ⟨o8,here,kv2,left,B1,U,rfl,g2,e2,W⟩;obtain⟨bw2,hB1,lB1,Und,Ul,Us,Ub,h0,sim⟩:=id W;have bad:((ks.map (ps TT)).Nodup->gone n0 T0 hs0 TT hs k ks B=none)->∀B2,gone n0 T0 hs0 TT hs k ks B≠some (pt T0 k,B2):=λh B2 z=>by
    have:=h (PL.J4 rfl knd z).2;rw[this]at z;cases z
   have eD2:H2 D=some (.dK kv1):=g2 _ _ (Ne.symm nBD) eD;have fk:ks.length-c=(ks.length-(c+1))+1:=by lia
   have dn:l8 H2 D (vn here) (eP kv1 (Sum.inl (here:Int))):=l8.k (k:=Sum.inl (here:Int)) eD2;have db:l8 H2 bd (vn here) (eP kv2 (Sum.inl (here:Int))):=l8.k (k:=Sum.inl (here:Int)) e2;have fin:((ks.map (ps TT)).Nodup->gone n0 T0 hs0 TT hs k ks B=none)->Q (.bl false) H2:=λh=>q false B kv2 H2 ((SB.of g1).trans g2) e2 (λy=>nomatch y) (λ_=>bad h);refine(bR _ rfl _ rfl D _ rfl ⟨ dn,_,rfl,?_⟩);by_cases hin:here∈ks.map (ps TT)
   case neg =>
    rw[on.no here hin];exact iS (iS (fin λnd=>by obtain⟨a,b,j⟩:=sim nd;rw[a,fk];exact j.none hin))
   obtain⟨p,pk,sp,ev⟩:=on.yes here hin;rw[ev]at dn ⊢;refine mP (bR _ rfl _ rfl bd _ rfl ⟨ db,_,rfl,?_⟩);rw[bw2.is here];by_cases hb:here∈B1
   case pos =>
    rw[decide_eq_true hb];refine iS (fin λnd=>?_);obtain⟨a,b,j⟩:=sim nd;have hc0:c≠0:=λz=>by have:=h0 z;have:=hB1 _ hb;lia
    rw[a,fk,decide_eq_false hc0];exact PL.DK (.inr hb)
   rw[decide_eq_false hb];refine mP ?_;have hL2:=hL01.sb g2 hBD1;refine(bF _ rfl _ _ rfl rfl ⟨ _,rfl,eV (λz=>?_) (λz=>?_)⟩)
   ·have hc0:c≠0:=by
     have:(0:Int)<0+(c:Int):=of_decide_eq_true z
     lia
    refine⟨_,rfl,(aI _ rfl m0 _ _ _ rfl (bY rfl (SqT.of hL2.1) rfl _ _ rfl rfl ⟨ _,rfl,eV (λy=>?_) (λy=>?_)⟩))⟩
    ·have y:(here:Int)<(n0:Int):=of_decide_eq_true y;refine fin λnd=>?_;obtain⟨a,b,j⟩:=sim nd;rw[a,fk,decide_eq_false hc0];exact PL.DK (.inl (by lia))
    ·have y:¬(here:Int)<(n0:Int):=λz=>y (decide_eq_true z);have hl2:kv2.length<ZW:=Ys (show kv2.length<=20000 by have:=bw2.len;lia) (by decide);have W2:=(W.next pk sp hb (λ_=>by lia) hok hc).2 hc0;have eD3:(upd H2 bd (.dK (putK kv2 (Sum.inl (here:Int)) (.bl true)))) D=some (.dK kv1):=by rw[aL (Ne.symm nBD)];exact eD2
     have dn3:l8 (upd H2 bd (.dK (putK kv2 (Sum.inl (here:Int)) (.bl true)))) D (vn here) (eP kv1 (Sum.inl (here:Int))):=l8.k (k:=Sum.inl (here:Int)) eD3;rw[ev]at dn3;refine(bR _ rfl _ rfl bd _ rfl ⟨ DY.k (k:=Sum.inl (here:Int)) e2 hl2,?_⟩);exact(bR _ rfl _ rfl D _ rfl ⟨ dn3,(bE _ _ _ _ _ _ rfl ⟨ g2.trans (SB.upd _ _ _),aE,W2⟩)⟩)
   ·have hc0:c=0:=by
     have:¬(0:Int)<0+(c:Int):=λy=>z (decide_eq_true y)
     lia
    have W2:=(W.next pk sp hb (λz=>absurd hc0 z) hok hc).1 hc0;exact(bR _ rfl _ rfl D _ rfl ⟨ dn,(bE _ _ _ _ _ _ rfl ⟨ g2,e2,W2⟩)⟩)
  ·rintro σ H2 ⟨o8,here,kv2,left,B1,U,rfl,g2,e2,W⟩;have nd:(ks.map (ps TT)).Nodup:=(PL.rV W.Und W.Us (by rw[Zq,W.Ul];exact Nat.le_refl _)).nodup_iff.mp W.Und;obtain⟨a,b,j⟩:=W.sim nd;rw[Nat.sub_self]at a;have a:gone n0 T0 hs0 TT hs k ks B=some (here,B1):=a;have hL2:=hL01.sb g2 hBD1;obtain⟨xs1,r1',y1,y2,y3⟩:=nC hL2.2.1 hk;refine⟨_,rfl,(aI _ rfl m0 _ _ (.ref ta0) rfl (bZ rfl (SqT.of hL2.1) rfl _ rfl (aS ta0 _ _ _ rfl rfl (SqL.of y1) (fG y2 r1' _ _ _ rfl rfl ⟨ SqT.of y3,rfl,rfl,?_⟩))))⟩;refine q _ B1 kv2 H2 ((SB.of g1).trans g2) e2 (λz=>?_) (λz B2 y=>?_)
   ·have z:V.int (here:Int)=V.int ((pt T0 k:Nat):Int):=of_decide_eq_true z;have z:=V.int.inj z;have z:here=pt T0 k:=by lia
    exact⟨by rw[a,z],W.bw2,W.hB1,W.lB1⟩
   ·rw[a]at y;have:=congrArg Prod.fst (Option.some.inj y);have this:here=pt T0 k:=this;refine absurd z ?_;rw[this];simp
def kB(pcs:List Int)(i t:Nat):List Nat:=(List.range i).filter λj=>decide (at0 pcs j=(t:Int))
def sY(pcs:List Int)(t:Nat):List Nat:=kB pcs pcs.length t
theorem EU(pcs:List Int)(i t:Nat):kB pcs (i+1) t=if at0 pcs i=(t:Int) then kB pcs i t++[i] else kB pcs i t:=by
 unfold kB;rw[List.range_succ,List.filter_append];by_cases z:at0 pcs i=(t:Int)
 ·rw[if_pos z];simp[z]
 ·rw[if_neg z];simp[z]
theorem DG(pcs:List Int)(i t:Nat):(kB pcs i t).length<=i:=by
 have:(kB pcs i t).length<=(List.range i).length:=List.length_filter_le ..
 rwa [Yj]at this
theorem NQ(pcs:List Int)(i t:Nat):(kB pcs i t).Nodup:=List.nodup_range.sublist List.filter_sublist
theorem NR{pcs:List Int}{i t p:Nat}(h:p∈kB pcs i t):p<i:=Zs.mp (Yz.mp h).1
def lead(n0:Nat)(T0:MM.aY)(hs0:List Int)(T:MM.aY)(hs pcs:List Int):Nat->Option (List Nat)
 |0=>some []
 |i+1=>(lead n0 T0 hs0 T hs pcs i).bind λB=>(gone n0 T0 hs0 T hs i (sY pcs i) B).bind λr=>if r.1=pt T0 i then some r.2 else none
theorem qZ{n0:Nat}{T0:MM.aY}{hs0:List Int}{T:MM.aY}{hs pcs:List Int}{i:Nat}(h:lead n0 T0 hs0 T hs pcs i=none):∀j,lead n0 T0 hs0 T hs pcs (i+j)=none
 |0=>h
 |j+1=>by show(lead n0 T0 hs0 T hs pcs (i+j)).bind _=none;rw[qZ h j];rfl
theorem BC{n0:Nat}{T0:MM.aY}{hs0:List Int}{T:MM.aY}{hs pcs:List Int}{i:Nat}{B:List Nat}(h:lead n0 T0 hs0 T hs pcs i=some B)(g:∀B2,gone n0 T0 hs0 T hs i (sY pcs i) B≠some (pt T0 i,B2)):lead n0 T0 hs0 T hs pcs (i+1)=none:=by
 show(lead n0 T0 hs0 T hs pcs i).bind _=none;rw[h];show(gone n0 T0 hs0 T hs i (sY pcs i) B).bind _=none;cases e:gone n0 T0 hs0 T hs i (sY pcs i) B with
 |none=>rfl
 |some r =>
  show(if r.1=pt T0 i then some r.2 else none)=none;rw[if_neg λz=>g r.2 (by rw[e,<-z])]
theorem xR{n0:Nat}{T0:MM.aY}{hs0:List Int}{T:MM.aY}{hs pcs:List Int}{i:Nat}{B B2:List Nat}(h:lead n0 T0 hs0 T hs pcs i=some B)(g:gone n0 T0 hs0 T hs i (sY pcs i) B=some (pt T0 i,B2)):lead n0 T0 hs0 T hs pcs (i+1)=some B2:=by
 show(lead n0 T0 hs0 T hs pcs i).bind _=some B2;rw[h];show(gone n0 T0 hs0 T hs i (sY pcs i) B).bind _=some B2;rw[g];show(if pt T0 i=pt T0 i then some B2 else none)=some B2;rw[if_pos rfl]
structure QP(n0:Nat)(T0:MM.aY)(hs0:List Int)(T:MM.aY)(hs pcs:List Int):Prop where
 bd:∀x∈pcs,-2<=x/\x<(T0.length:Int)
 ld:(lead n0 T0 hs0 T hs pcs T0.length).isSome=true
structure Ld0(n0:Nat)(T0:MM.aY)(hs0:List Int):Prop where
 hl:hs0.length=T0.length
 t1:T0.length<=60
 pl:∀k,k<T0.length->ps T0 k<n0
def S3:Sp:=λvs H Q _=>∃(m0 pa m pr ta0 ha0 ta ha:Addr) (n0 n:Nat) (T0 T:MM.aY) (hs0 hs pcs:List Int),vs=[.ref m0,.ref pa]/\H pa=some (.tup [.ref m,.ref pr])/\H pr=some (.lst (pcs.map V.int)) /\
 dE H m0 n0 T0 hs0 ta0 ha0/\dE H m n T hs ta ha/\Ld0 n0 T0 hs0/\hs.length=T.length/\pcs.length=T.length/\0<T.length/\T.length<=60 /\
 ∀(b:Bool) (H':Hp),aW H H'->(b=true↔QP n0 T0 hs0 T hs pcs)->Q (.bl b) H'
theorem F8(T:Txt K mg t):cJ P w K mg base CX0 2 t.m5 t.mY ["laid","parting"] S3:=by
 refine T.mX.F.ok k9 (λvs H Q E h=>?_) (λcdv A outer s H vs Q E hr h=>?_)
 ·obtain⟨_,_,_,_,_,_,_,_,_,_,_,_,_,_,_,rfl,_⟩:=h;rfl
 obtain⟨m0,pa,m,pr,ta0,ha0,ta,ha,n0,n,T0,TT,hs0,hs,pcs,rfl,hpa,hpr,hL0,hL,L0,hl,pl,p0,p60,q⟩:=h;have nd:=k9.nd;have nd_tie:(["tie"]:List Str).Nodup:=by decide
 refine⟨_,(aF (bC 2 nd (aJ aT (pv 1) aC (λ_ _=>rfl)))
  (aF (b8 (PW.pt (gT (aV iF (aQ (rH rfl) rfl T.DZ boot_min (aA (pv 2) aB)) (iW (v:=.int (-2)) rfl T.mH ⟨_,rfl⟩) (a7 _)) (gP (aV AZ (aQ (yE rfl) rfl T.HC boot_max (aA (pv 2) aB)) (aQ aN rfl T.b7 PySem.boot_len (aA (aJ aT (pv 0) aC (λ_ _=>rfl)) aB)) (a7 _))))) (aH (aU cO)) bD)
  (aF (bU (i:=3) nd rfl (Or.inl rfl)  (N':=["tie"]) (js:=[none]) rfl (bJ (aJ aT (pv 0) aC (λ_ _=>rfl))) (λ_ _ _ _ _=>(aK (i:=0) nd_tie rfl (Or.inl rfl))) (λ_ _ _ _ _=>b9) (λ_ _ _ _ _=>(bN aB)))
  (aF (cQ PassesOwn.never rfl (oX rfl T.gG (aA (pv 2) aB)) (fU rfl (bB (aK (i:=4) nd rfl (Or.inl rfl)) (bB (aK (i:=5) nd rfl (Or.inl rfl)) cZ))) (aH (b8 (aV AZ (pv 5) aC (a7 _)) (aH (cF (jQ mAp bP (aJ bA (pv 3) (pv 5) (λ_ _=>rfl)) (aA (pv 4) aB)))) bD)))
  (aF (bC 6 nd AV)
  (aF (cQ PassesOwn.never rfl (bH rfl T.bW (aA (aQ aN rfl T.b7 PySem.boot_len (aA (aJ aT (pv 0) aC (λ_ _=>rfl)) aB)) aB)) (aK (i:=7) nd rfl (Or.inl rfl)) (aH (b8 (eM (cP (bK (F7 T) hr T.rX a8 (aA (pv 0) (aA (pv 7) (aA (aJ aT (pv 1) aC (λ_ _=>rfl)) (aA (aJ bA (pv 3) (pv 7) (λ_ _=>rfl)) (aA (pv 6) aB)))))) (λ_=>rfl))) (aH (aU cO)) bD)))
  (aH (aU cO)))))))),?_⟩
 have b0:=L0.t1;have tl:=L0.hl;have hS:SqL K H pr (pcs.map V.int):=SqL.of hpr;refine(aI _ rfl pa _ _ (.ref pr) rfl ⟨ rfl,SqT.of hpa,rfl,?_⟩);refine(bM _ rfl pr pcs rfl hS (by lia) (λmn hmn hmin=>(j8 _ _ rfl rfl _ rfl (eV (λc=>iS ?_) (λc=>?_)))))
 ·have c:mn < -2:=of_decide_eq_true c;refine q false H (aW.refl _) ⟨λz=>(nomatch z),λz=>?_⟩;have:=(z.bd mn hmn).1
  lia
 have c:¬mn < -2:=λz=>c (decide_eq_true z);obtain⟨tr,z1,z2,z3⟩:=id hL0.2.1;refine(bM _ rfl pr pcs rfl hS (by lia) (λmx hmx hmax=>(aI _ rfl m0 _ _ (.ref ta0) rfl (bY rfl (SqT.of hL0.1) rfl ta0 _ rfl (.inl (SqL.of z1)) (j8 _ _ rfl rfl _ rfl (eV (λc2=>?_) (λc2=>?_)))))))
 ·have c2:(((tr.map V.ref).length:Nat):Int)<=mx:=of_decide_eq_true c2;rw[Zq,z2]at c2;refine q false H (aW.refl _) ⟨λz=>(nomatch z),λz=>?_⟩;have:=(z.bd mx hmx).2
  lia
 have c2:¬(((tr.map V.ref).length:Nat):Int)<=mx:=λz=>c2 (decide_eq_true z);have bd:∀x∈pcs,-2<=x/\x<(T0.length:Int):=λx hx=>by
  have h1:=hmin x hx;have h2:=hmax x hx;rw[Zq,z2]at c2;constructor<;>lia
 have trl:(tr.map V.ref).length=T0.length:=by rw[Zq,z2]
 refine(aI _ rfl m0 _ _ (.ref ta0) rfl (kC rfl (SqT.of hL0.1) rfl ta0 rfl ⟨_,SqL.of z1⟩ (λD hD=>?_)));refine iB T0.length (λ_=>[]) hD (by lia) (λi H' hi g'=>⟨_,_,SqL.of (g' _ _ z1),Zz (by rw[trl];exact hi)⟩) (λH' g'=>⟨_,SqL.of (g' _ _ z1),by rw[trl];exact Nat.le_refl _⟩) ?_ ?_
 ·rintro i H' x H'' k hi g2 hy hk;obtain⟨e,y⟩:=hy;subst e;exact⟨(Fills.refl _).set _ rfl,(by show 0<=ZW;decide),λl hl'=>hk l _ hl' (aG hl' _) aE⟩
 intro rr H1 w1 g1;refine(bO _ rfl pr rfl ⟨_,SqL.of (g1 _ _ hpr)⟩ (pL (K:=K) (a:=pr) (xs:=pcs.map V.int) (λi σ H'=>(∃v4 v5,σ=[some (.ref m0),some (.ref pa),some (.ref pr),some (.ref D),v4,v5,none,none])/\dU H H' D rr ((List.range T0.length).map λk=>vns (kB pcs i k))/\aW H H') ⟨⟨_,_,rfl⟩,w1,g1⟩ ?_ ?_ ?_))
 ·rintro i σ H' hi ⟨_,_,g2⟩;exact SqL.of (g2 _ _ hpr)
 ·rintro i x σ H' Tp hx ⟨⟨v4,v5,rfl⟩,w2,g2⟩ hTp;have hi:i<pcs.length:=by
   have:=(Zj.mp hx).1
   rwa [Zq]at this
  rw[kT hi]at hx;cases hx;have g3:=g2.trans (aG hTp (.tup [vn i,.int (at0 pcs i)]));have w3:=w2.keep (aG hTp (.tup [vn i,.int (at0 pcs i)]));have bi:at0 pcs i<(T0.length:Int):=by
   refine(bd _ ?_).2;unfold at0;rw[Zv,Zz hi];exact Zp hi
  refine(aZ Tp _ rfl (SqT.of aE) rfl (cU _ _ rfl _ _ rfl rfl ?_));refine(bF _ rfl _ _ rfl rfl ⟨ _,rfl,eV (λc=>?_) (λc=>?_)⟩)
  ·have c:0<=at0 pcs i:=of_decide_eq_true c;obtain⟨k,ek⟩:=Xv c;have hk:k<T0.length:=by lia
   obtain⟨x1,a1,b1,c1,d1⟩:=w3.item hk;have d1':atI (rr.map V.ref) (at0 pcs i)=some (.ref x1):=by rw[ek];exact d1
   refine⟨_,rfl,(aI _ rfl D _ _ _ rfl (hV rfl (SqL.of w3.at_) d1' (.inl ⟨rfl,_,SqL.of b1⟩) _ rfl (bG x1 _ _ rfl rfl b1 ?_ ⟨ ⟨_,_,rfl⟩,?_,g3.fresh c1 _⟩)))⟩
   ·unfold vns;rw[Zq];have:=DG pcs i k;exact Ys (show _<=60 by lia) (by decide)
   ·have w4:=w3.put a1 (vns (kB pcs i k)++[vn i]);have e:(λj=>if j=k then vns (kB pcs i k)++[vn i] else vns (kB pcs i j))=λj=>vns (kB pcs (i+1) j):=by
     funext j
     rw[EU,ek];by_cases z:j=k
     ·subst z;rw[if_pos rfl,if_pos rfl];unfold vns;rw[Zt];rfl
     ·rw[if_neg z,if_neg (by lia)]
    rw[<-e];exact w4
  ·have c:¬0<=at0 pcs i:=λz=>c (decide_eq_true z);refine⟨⟨_,_,rfl⟩,?_,g3⟩;have e:(λj=>vns (kB pcs i j))=λj=>vns (kB pcs (i+1) j):=by
    funext j
    rw[EU,if_neg (by lia)]
   rw[<-e];exact w3
 rintro σ H2 ⟨⟨v4,v5,rfl⟩,w2,g2⟩;rw[Zq]at w2;intro bdA hbd;have s3:=aG hbd (.dK []);have eN:(((tr.map V.ref).length:Nat):Int).toNat=T0.length:=by rw[trl];exact Int.toNat_natCast _
 have hL3:=hL0.st (g2.trans s3).st;refine(aI _ rfl m0 _ _ (.ref ta0) rfl (bY rfl (SqT.of hL3.1) rfl ta0 _ rfl (.inl (SqL.of ((g2.trans s3) _ _ z1))) ⟨ _,rfl,?_,?_,?_⟩))
 ·show -(2 ^ 62)<=(((tr.map V.ref).length:Nat):Int);lia
 ·show(((tr.map V.ref).length:Nat):Int)<2 ^ 62;lia
 rw[eN];have e3:upd H2 bdA (.dK []) bdA=some (.dK []):=aE;have hfr:H bdA=none:=g2.free hbd;refine dJ (n:=T0.length) (λk σ H'=>∃(o7:Option V) (kv:List (Key×V)) (B:List Nat),σ=[some (.ref m0),some (.ref pa),some (.ref pr),some (.ref D),v4,v5,some (.ref bdA),o7]/\SB bdA (upd H2 bdA (.dK [])) H'/\H' bdA=some (.dK kv)/\Bw kv B/\(∀b∈B,n0<=b)/\B.length<=60*k/\lead n0 T0 hs0 TT hs pcs k=some B)
  (bG none ([]) ([]) rfl (λx o _ h=>h) e3 ⟨λx=>rfl,Nat.le_refl _⟩ ⟨ λb h=>(by cases h),Nat.le_refl _,rfl⟩) ?_ ?_
 ·rintro k σ H4 hk ⟨o7,kv,B,rfl,g4,e4,bw,hB,lB,ld⟩;have hL4:=hL3.sb g4 e3;have hLw:=(hL.st (g2.trans s3).st).sb g4 e3;obtain⟨x1,a1,b1,c1,d1⟩:=(w2.keep s3).item hk;have kl:=DG pcs pcs.length k;have d1':atI (rr.map V.ref) (0+(k:Int))=some (.ref x1):=by rw[Int.zero_add];exact d1
  have b4:H4 x1=some (.lst (vns (kB pcs pcs.length k))):=g4.l e3 b1;refine(fZ _ rfl _ rfl _ rfl (aS pa _ _ (.ref m) rfl rfl (SqT.of (g4.tw e3 ((g2.trans s3) _ _ hpa))) (gN rfl _ rfl _ rfl (aS D _ _ _ rfl rfl (SqL.of (g4.l e3 (w2.keep s3).at_)) ⟨ d1',_,rfl,?_⟩))));refine(cB m0 m x1 bdA ta0 ha0 ta (cB ha n0 n T0 TT hs0 hs (aS k (sY pcs k) B kv ?_ hL4 hLw (dI b4 e4 bw hk tl hl (λp hp=>?_) ⟨ NQ _ _ _,hB,L0.pl k hk,?_,λb B' kv' H5 g5 e5 ht hf=>⟨_,rfl,?_⟩⟩))))
  ·show[V.ref m0,V.int (0+(k:Int)),V.ref m,V.ref x1,V.ref bdA]=_;rw[Int.zero_add]
  ·have:=NR hp;lia
  ·have:(sY pcs k).length<=pcs.length:=kl
   lia
  cases b with
  |false =>
   refine iS (q false H5 (λx o h=>g5 _ _ (aP h hfr) (g4 x o (aP h hfr) (s3 _ _ (g2 _ _ h)))) ⟨λz=>(nomatch z),λz=>?_⟩);have e:=qZ (BC ld (hf rfl)) (T0.length-(k+1));rw[show k+1+(T0.length-(k+1))=T0.length by lia]at e;have:=z.ld;rw[e]at this;cases this
  |true =>
   obtain⟨h1,h2,h3,h4⟩:=ht rfl;have kl:(sY pcs k).length<=pcs.length:=kl;exact mP (bG _ kv' B' rfl (g4.trans g5) e5 h2 ⟨ h3,by lia,xR ld h1⟩)
 ·rintro σ H4 ⟨o7,kv,B,rfl,g4,e4,bw,hB,lB,ld⟩;refine q true H4 (λx o h=>g4 x o (aP h hfr) (s3 _ _ (g2 _ _ h))) ⟨λ_=>⟨bd,by rw[ld];rfl⟩,λ_=>rfl⟩
end K49
namespace PL
theorem AU{c:Int}{n:Nat}{l:List Int}(h:l.Perm (List.replicate n c)):l=List.replicate n c:=List.perm_replicate.mp h
theorem KC{l:List Int}{c:Int}(hc:c≠2):l.filter (λx=>decide (x≠2))=List.replicate 4 c↔l.Perm (List.replicate (l.length-4) 2++List.replicate 4 c):=by
 constructor
 ·intro h;have p:=List.filter_append_perm (λx=>decide (x≠2)) l;rw[h]at p;have e2:l.filter (λx=>!decide (x≠2))=List.replicate (l.length-4) 2:=by
   refine List.eq_replicate_iff.mpr ⟨?_,λx hx=>?_⟩
   ·have:=p.length_eq;rw[Zm,List.length_replicate]at this;omega
   ·have:=(Yz.mp hx).2;simpa using this
  rw[e2]at p;exact p.symm.trans List.perm_append_comm
 ·intro h;have p:=h.filter (λx=>decide (x≠2));rw[List.filter_append]at p;have e1:(List.replicate (l.length-4) (2:Int)).filter (λx=>decide (x≠2))=[]:=by
   rw[List.filter_eq_nil_iff];intro x hx;rw[List.eq_of_mem_replicate hx];decide
  have e2:(List.replicate 4 c).filter (λx=>decide (x≠2))=List.replicate 4 c:=by
   rw[List.filter_eq_self];intro x hx;rw[List.eq_of_mem_replicate hx];exact decide_eq_true hc
  rw[e1,e2,List.nil_append]at p;exact AU p
theorem EK{l:List Int}(h:l.Perm (-4::List.replicate (l.length-1) 4)) : -4∈l/\∀(i:Nat) (hi:i<l.length),(i=l.idxOf (-4)↔l[i] = -4)/\(l[i]=4\/l[i] = -4):=by
 have m:(-4:Int)∈l:=h.mem_iff.mpr (by simp);refine⟨m,λi hi=>?_⟩;have e:=h.erase (-4);rw[List.erase_cons_head]at e;have e:=AU e;have hx:=List.idxOf_lt_length_of_mem m;have hg:l[l.idxOf (-4)] = -4:=List.getElem_idxOf hx;have o:i≠l.idxOf (-4)->l[i]=4:=λz=>by
  have:l[i]∈l.eraseIdx (l.idxOf (-4)):=List.mem_eraseIdx_iff_getElem.mpr ⟨i,hi,z,rfl⟩;rw[<-List.erase_eq_eraseIdx_of_idxOf (a:=-4) rfl,e]at this;exact List.eq_of_mem_replicate this
 refine⟨⟨λz=>?_,λz=>?_⟩,?_⟩
 ·subst z;exact hg
 ·rcases Decidable.em (i=l.idxOf (-4)) with y | y
  ·exact y
  ·rw[o y]at z;exact absurd z (by decide)
 ·rcases Decidable.em (i=l.idxOf (-4)) with y | y
  ·subst y;exact .inr hg
  ·exact .inl (o y)
end PL
namespace L2
open PySem PySem.Spec PyProof.Rows
theorem fY{J:It}{js:List (Option Nat)}{σ:St}{H1:Hp}{R:Hp->Prop}{D:Addr}{g:TG}{tc:TT}{te:TE}(n:Nat)(fs:Nat->V)(pf:Nat->Bool)(hD:H1 D=none)(hn:n<=90000)
  (go:∀i H',i<n->aW H1 H'->J.go i H') (stop:∀H',aW H1 H'->J.stop n H')
  (hs:∀i H' x H'' (kt:V->Hp->Prop) (kf:Hp->Prop),i<n->aW H1 H'->J.yld i H' x H''->(pf i=true->∀H4,aW H' H4->kt (fs i) H4)->(pf i=false->∀H4,aW H' H4->kf H4)->g x (inner js σ) H'' λσ2 H2=>Fills (inner js σ) σ2/\tc σ2 H2 λb H3=>if b=true then te σ2 H3 kt else kf H3)
  (hd:∀H',aW H1 H'->H' D=some (.lst (((List.range n).filter pf).map fs))->R H') :
  ∃W:Nat->Nat->List V->Hp->Prop,(∃m,W 0 m [] (upd H1 D (.lst []))) /\
   ∀i m ys H,W i m ys H->(J.stop i H/\R H)\/(J.go i H/\∃N:List V->Hp->Prop,(∀ys' H',N ys' H'->∃m',m' < m/\W (i+1) m' ys' H')/\∀x H',J.yld i H x H'->g x (inner js σ) H' λσ2 H2=>Fills (inner js σ) σ2/\tc σ2 H2 λb H3 =>
    if b=true then te σ2 H3 λy H4=>H4 D=some (.lst ys)/\ys.length<ZW/\N (ys++[y]) (upd H4 D (.lst (ys++[y]))) else N ys H3):=by
 refine zN n (λi ys H'=>ys=((List.range i).filter pf).map fs/\aW H1 H'/\H' D=some (.lst ys)) ⟨rfl,aG hD _,aE⟩ ?_ ?_
 ·rintro i ys H' hi ⟨rfl,g1,e⟩;refine⟨go i H' hi g1,λx H'' y=>hs i H' x H'' _ _ hi g1 y (λc H4 g4=>⟨g4 _ _ e,?_,?_,(λb o h=>by rw[aL (aP h hD)];exact g4 _ _ (g1 _ _ h)),aE⟩) λc H4 g4=>⟨?_,g1.trans g4,g4 _ _ e⟩⟩
  ·rw[Zq];exact Ys (Yr (List.length_filter_le _ _) (by rw[Yj];lia:_<=90000)) (by decide)
  ·rw[List.range_succ,List.filter_append,Zt];simp[c]
  ·rw[List.range_succ,List.filter_append,Zt];simp[c]
 ·rintro ys H' ⟨rfl,g1,e⟩;exact⟨stop H' g1,hd H' g1 e⟩
end L2
namespace K49
open PySem L2 PyProof.Rows
noncomputable def cs(n:Nat)(T:MM.aY)(hs:List Int)(d:List Nat):List Int:=d.map λy=>cx T hs (cK T hs n) y
noncomputable def oI(n:Nat)(T:MM.aY)(hs:List Int):Nat:=(sL n T hs).idxOf (-4)
noncomputable def lnd(n:Nat)(T:MM.aY)(hs:List Int):List (List Nat):=MM.lls T (cK T hs n)
def Obl(n:Nat)(T:MM.aY)(hs:List Int):Prop:=∀(i:Nat) (d:List Nat),(lnd n T hs)[i]?=some d->(cs n T hs d).Perm (List.replicate (d.length-4) 2++List.replicate 4 (if i=oI n T hs then 3 else 1))
def RC(tp:Addr):Sp:=λvs H Q _=>∃(m:Addr) (n:Nat) (T:MM.aY) (hs:List Int) (ta ha:Addr),vs=[.ref m]/\dE H m n T hs ta ha/\LdP n T hs/\TB tp H/\n8 (sL n T hs) /\
 ∀(b:Bool) (H':Hp),bT H H'->TB tp H'->(b=true↔Obl n T hs)->Q (.bl b) H'
theorem tU{l:List Int}(h:n8 l):(∀x∈l,x=4\/x = -4)/\(-4)∈l:=by
 obtain⟨a,b⟩:=PL.EK h;refine⟨λx hx=>?_,a⟩;obtain⟨i,hi,rfl⟩:=Yy.mp hx;exact(b i hi).2
theorem range_getD(l:List Int):(List.range l.length).map (λj=>l.getD j 0)=l:=by
 refine Yp λj=>?_;rw[Zk];by_cases h:j<l.length
 ·rw[Yk h,Zz h];simp[List.getD,h]
 ·rw[Zr (by simpa using h),Zr (by simpa using h)];rfl
theorem GX(l:List Int)(f:Int->Bool){n:Nat}(hn:n=l.length):((List.range n).filter (λj=>f (l.getD j 0))).map (λj=>V.int (l.getD j 0))=(l.filter f).map V.int:=by
 subst hn;have e:(l.filter f).map V.int=((((List.range l.length).map λj=>l.getD j 0)).filter f).map V.int:=by rw[range_getD]
 rw[e,List.filter_map,Yh];rfl
theorem PX(T:Txt K mg t)(B:BT base mg t):cJ P w K mg base CX0 10 t.gZ t.gX ["whole"] (RC t.tp):=by
 have fO:=lP (P:=P) (w:=w) (base:=base) T B;have kU:=JJ (P:=P) (w:=w) (base:=base) T B;have n9:=uO (P:=P) (w:=w) (base:=base) T B;refine T.gW.F.ok gI (λvs H Q E h=>?_) (λcdv A outer s H vs Q E hr h=>?_)
 ·obtain⟨_,_,_,_,_,_,rfl,_⟩:=h;rfl
 obtain⟨m,n,TT,hs,ta,ha,rfl,hL,L,tb,so,q⟩:=h;have nd:=gI.nd;have nd_side_corner:(["side","corner"]:List Str).Nodup:=by decide
 have nd_end_corners:(["end","corners"]:List Str).Nodup:=by decide
 refine⟨_,(aF (bC 1 nd (bK kU hr T.kS a8 (aA (pv 0) aB)))
  (aF (bC 2 nd (bK n9 hr T.nV a8 (aA (pv 0) aB)))
  (aF (cQ PassesOwn.never rfl (oX rfl T.gG (aA (bK (oZ T) hr T.pN a8 (aA (bK fO hr T.lT a8 (aA (pv 0) aB)) aB)) aB)) (fU rfl (bB (aK (i:=3) nd rfl (Or.inl rfl)) (bB (aK (i:=4) nd rfl (Or.inl rfl)) cZ))) (aF (bC 5 nd (uH (aV gJ (pv 3) (pv 2) (a7 _)) aC aC))
  (aF (bU (i:=6) nd rfl (Or.inl rfl)  (N':=["end","corners"]) (js:=[none,some 1]) rfl (bJ (pv 4)) (λ_ _ _ _ _=>(aK (i:=0) nd_end_corners rfl (Or.inl rfl))) (λ_ _ _ _ _=>(lL (aV lO (aJ (dC (K:=K) rfl) (pv 1) (pv 0) (λ_ _=>rfl)) aC (a7 _)))) (λ_ _ _ _ _=>(aJ (dC (K:=K) rfl) (pv 1) (pv 0) (λ_ _=>rfl))))
  (aH (b8 (aV (kJ hr.units) (pv 6) (cG (N':=["side","corner"]) (js:=[none,some 5]) rfl (bH rfl T.bW (aA (iW (v:=.int (4)) rfl T.bQ ⟨_,rfl⟩) aB)) (λ_ _ _ _ _=>(aK (i:=0) nd_side_corner rfl (Or.inl rfl))) (λ_ _ _ _ _=>b9) (λ_ _ _ _ _=>(pv 1))) (a7 _)) (aH (aU cO)) bD)))))
  (aH (aU cO))))),?_⟩
 have b1:=L.t1;have s2:=tU so;refine⟨_,rfl,(bE m n TT hs ta ha rfl ⟨ hL,L,tb,λcr H1 g1 t1 n1 e1=>?_⟩)⟩;have cl:=zQ n TT hs;refine⟨_,rfl,(bE m n TT hs ta ha rfl (gO (hL.st g1) L t1 s2.1 s2.2 (λH2 g2 t2=>?_)))⟩;have g02:=g1.trans g2;refine⟨_,rfl,(bE m n TT hs ta ha rfl ⟨ hL.st g02,L,t2,λwa ra oA rr H3 g3 t3 _ _ f1 f2 w3=>?_⟩)⟩;refine(aS wa n TT _ rfl ⟨ra,oA,f1,f2,kK w3⟩ L.g ⟨ L.t1,λlr lrr H4 g4 nl=>?_⟩);have e4:H4 cr=some (.lst ((cL n TT hs).map V.int)):=g4 _ _ (g3.l (g2.l e1));have g04:bT H H4:=(g02.trans g3).trans g4.st;have t4:=t3.same g4;have ll:(lrr.map V.ref).length=(lnd n TT hs).length:=by rw[Zq];exact nl.len
 refine⟨lr,rfl,⟨_,SqL.of nl.at_⟩,pL (K:=K) (a:=lr) (xs:=lrr.map V.ref) (λi σ H'=>(∃v3 v4 v5 v6,σ=[some (.ref m),some (.ref cr),some (vn (oI n TT hs)),v3,v4,v5,v6])/\aW H4 H'/\∀j d,j<i->(lnd n TT hs)[j]?=some d->(cs n TT hs d).Perm (List.replicate (d.length-4) 2++List.replicate 4 (if j=oI n TT hs then 3 else 1))) ⟨⟨_,_,_,_,rfl⟩,aW.refl _,λj d h=>by lia⟩ ?_ ?_ ?_⟩
 ·rintro i σ H' hi ⟨_,g,_⟩;exact SqL.of (g _ _ nl.at_)
 ·rintro i x σ H5 Tp hx ⟨⟨v3,v4,v5,v6,rfl⟩,g5,ih⟩ hTp;have hi:i<(lnd n TT hs).length:=by
   have:=(Zj.mp hx).1
   rwa [ll]at this
  obtain⟨la,q1,q2⟩:=nl.row i _ (Zz hi);rw[Zk,q1]at hx;cases hx;generalize hd:(lnd n TT hs)[i]=d at q2;have hdm:(lnd n TT hs)[i]?=some d:=by rw[Zz hi,hd]
  have lf:=pF L.g (Zg hdm);have s6:=aG hTp (.tup [vn i,.ref la]);have g6:=g5.trans s6;refine(aZ Tp _ rfl (SqT.of aE) rfl (cU _ _ rfl _ _ rfl rfl ?_));refine SN (λσ' H'=>σ'=[some (.ref m),some (.ref cr),some (vn (oI n TT hs)),some (vn i),some (.ref la),some (.int (if i=oI n TT hs then 3 else 1)),v6]/\H'=upd H5 Tp (.tup [vn i,.ref la])) (λN hN=>?_) ?_
  ·refine(kZ _ rfl _ rfl rfl _ rfl (eV (λz=>?_) (λz=>?_)))
   ·have z:V.int (i:Int)=V.int (oI n TT hs:Nat):=of_decide_eq_true z;have z:i=oI n TT hs:=by have:=V.int.inj z;lia
    exact hN _ _ ⟨by rw[if_pos z];rfl,rfl⟩
   ·have z:¬i=oI n TT hs:=λy=>z (decide_eq_true (by rw[y]));exact hN _ _ ⟨by rw[if_neg z];rfl,rfl⟩
  rintro σ' H6 ⟨rfl,rfl⟩;have q6:=g6 _ _ q2;have e6:=g6 _ _ e4;have vl:(vns d).length=d.length:=by unfold vns;rw[Zq]
  refine(bO _ rfl la rfl ⟨_,SqL.of q6⟩ (λD hD=>?_));refine fY d.length (λj=>.int ((cs n TT hs d).getD j 0)) (λj=>decide ((cs n TT hs d).getD j 0≠2)) hD (by lia) (λj H' hj g'=>⟨_,_,SqL.of (g' _ _ q6),Zz (by rw[vl];exact hj)⟩) (λH' g'=>⟨_,SqL.of (g' _ _ q6),by rw[vl];exact Nat.le_refl _⟩) (λj H' x H'' kt kf hj g' hY ht hf=>?_) ?_
  ·obtain⟨rfl,hY⟩:=hY;have ex:=hY _ (SqL.of (g' _ _ q6));unfold vns at ex;rw[Zk,Zz hj]at ex;cases ex;have dj:=lf.2 _ (Zp hj);have ec:at0 (cL n TT hs) d[j]=(cs n TT hs d).getD j 0:=by
    rw[NY dj];unfold cs;rw[Zv,Zk,Zz hj];rfl
   have ea:=cV (ls:=cL n TT hs) (j:=d[j]) (by rw[cl];exact dj) (k:=((d[j]:Nat):Int)) rfl;rw[ec]at ea;refine(gN ((Fills.refl _).set _ rfl) _ rfl _ rfl (aS cr _ _ _ rfl rfl (SqL.of (g' _ _ e6)) ⟨ ea,rfl,_,rfl,eV (λz=>?_) (λz=>?_)⟩))
   ·exact⟨_,rfl,(aI _ rfl cr _ _ _ rfl ⟨ rfl,SqL.of (g' _ _ e6),ea,ht (by simpa using z) _ (aW.refl _)⟩)⟩
   ·exact hf (by simpa using z) _ (aW.refl _)
  intro H7 g7 e7;have csl:d.length=(cs n TT hs d).length:=by unfold cs;rw[Zq]
  have e7:H7 D=some (.lst (((cs n TT hs d).filter λx=>decide (x≠2)).map V.int)):=by rw[e7,<-GX _ _ csl]
  generalize hc:(if i=oI n TT hs then (3:Int) else 1)=c;refine(j9 _ rfl _ rfl ?_ ?_ (λD2 hD2=>?_))
  ·show -(2 ^ 62)<=(4:Int);decide
  ·show(4:Int)<2 ^ 62;decide
  refine bS 4 (λ_=>.int c) hD2 (by decide) (λj H' hj g'=>?_) (λH' g'=>?_) (λj H' x H'' k hj g' hY hk=>?_) ?_
  ·show j<((4:Int)-0).toNat;lia
  ·show((4:Int)-0).toNat<=4;decide
  ·obtain⟨rfl,rfl⟩:=hY;exact⟨(Fills.refl _).set _ rfl,_,rfl,hk _ (aW.refl _)⟩
  intro H8 g8 e8;have e8:H8 D2=some (.lst ((List.replicate 4 c).map V.int)):=e8;have c2:c≠2:=by rw[<-hc];split<;>decide
  have g58:=g6.trans (g7.trans g8);refine(cE _ _ (gY (g8 _ _ e7)) (gY e8) (shaped_ints _) (shaped_ints _) ?_);rw[eZ];have fi:=PL.KC (l:=cs n TT hs d) c2;rw[<-csl]at fi;refine⟨_,rfl,eV (λz=>?_) (λz=>?_)⟩
  ·refine q false H8 (g04.trans g58.st) (t4.same g58) ⟨λy=>(nomatch y),λy=>?_⟩;have:=y i d hdm;rw[hc]at this;rw[decide_eq_true (fi.mpr this)]at z;cases z
  ·refine⟨⟨_,_,_,_,rfl⟩,g58,λj d' hj hd'=>?_⟩;rcases Xq j i with y | y
   ·exact ih j d' y hd'
   ·have:j=i:=by lia
    subst this;rw[hdm]at hd';cases hd';rw[hc];exact fi.mp (by simpa using z)
 ·rintro σ H5 ⟨⟨v3,v4,v5,v6,rfl⟩,g5,ih⟩;refine q true H5 (g04.trans g5.st) (t4.same g5) ⟨λ_ i d h=>ih i d ?_ h,λ_=>rfl⟩;rw[ll];exact(Zj.mp h).1
def frm(pcs:List Int):List Nat:=(List.range pcs.length).filter λj=>decide (at0 pcs j = -2)
def hlf(d:List Nat):List Int:=d.map λe=>((e / 2:Nat):Int)
def Frm(n:Nat)(T:MM.aY)(hs pcs:List Int):Prop:=∀d,(lnd n T hs)[oI n T hs]?=some d->(hlf d).Perm ((frm pcs).map λj:Nat=>(j:Int))
theorem QB(pcs:List Int):((frm pcs).map λj:Nat=>(j:Int)).Pairwise (·<=·):=by
 rw[List.pairwise_map];have h:(List.range pcs.length).Pairwise (· < ·):=List.pairwise_lt_range;exact(h.sublist List.filter_sublist).imp λ{a b} h=>by lia
theorem E5{l ns:List Int}{pcs:List Int}(p:ns.Perm l)(s:ns.Pairwise (·<=·)):ns=(frm pcs).map (λj:Nat=>(j:Int))↔l.Perm ((frm pcs).map λj:Nat=>(j:Int)) :=
 ⟨λh=>p.symm.trans (by rw[h]),λh=>AW.qG (p.trans h) s (QB _)⟩
def RE(tp:Addr):Sp:=λvs H Q _=>∃(pa m pr:Addr) (n:Nat) (T:MM.aY) (hs pcs:List Int) (ta ha:Addr),vs=[.ref pa]/\H pa=some (.tup [.ref m,.ref pr])/\H pr=some (.lst (pcs.map V.int))/\dE H m n T hs ta ha/\LdP n T hs/\TB tp H/\n8 (sL n T hs)/\(∀d∈lnd n T hs,d.length<64)/\pcs.length<=1000 /\
 ∀(b:Bool) (H':Hp),bT H H'->TB tp H'->(b=true↔Frm n T hs pcs)->Q (.bl b) H'
theorem PZ(T:Txt K mg t)(B:BT base mg t):cJ P w K mg base CX0 10 t.iQ t.iN ["parting"] (RE t.tp):=by
 have fO:=lP (P:=P) (w:=w) (base:=base) T B;have n9:=uO (P:=P) (w:=w) (base:=base) T B;refine T.iK.F.ok gS (λvs H Q E h=>?_) (λcdv A outer s H vs Q E hr h=>?_)
 ·obtain⟨_,_,_,_,_,_,_,_,_,rfl,_⟩:=h;rfl
 obtain⟨pa,m,pr,n,TT,hs,pcs,ta,ha,rfl,hpa,hpr,hL,L,tb,so,l64,pl,q⟩:=h;have nd:=gS.nd;have nd_end:(["end"]:List Str).Nodup:=by decide
 have nd_number_piece:(["number","piece"]:List Str).Nodup:=by decide
 refine⟨_,(aF (bC 1 nd (aJ bA (bK (oZ T) hr T.pN a8 (aA (bK fO hr T.lT a8 (aA (aJ aT (pv 0) aC (λ_ _=>rfl)) aB)) aB)) (bK n9 hr T.nV a8 (aA (aJ aT (pv 0) aC (λ_ _=>rfl)) aB)) (λ_ _=>rfl)))
  (aF (bU (i:=2) nd rfl (Or.inl rfl)  (N':=["number","piece"]) (js:=[none,none]) rfl (oX rfl T.gG (aA (aJ aT (pv 0) aC (λ_ _=>rfl)) aB)) (λ_ _ _ _ _=>(pG (K:=K) (n:=2) rfl rfl (bB (aK (i:=0) nd_number_piece rfl (Or.inl rfl)) (bB (aK (i:=1) nd_number_piece rfl (Or.inl rfl)) cZ)))) (λ_ _ _ _ _=>(lL (aV gJ (pv 1) (iW (v:=.int (-2)) rfl T.mH ⟨_,rfl⟩) (a7 _)))) (λ_ _ _ _ _=>(pv 0)))
  (aH (aU (dZ (nQ hr.units) (aQ fL rfl T.fC boot_sorted (aA (cG (N':=["end"]) (js:=[none]) rfl (bJ (pv 1)) (λ_ _ _ _ _=>(aK (i:=0) nd_end rfl (Or.inl rfl))) (λ_ _ _ _ _=>b9) (λ_ _ _ _ _=>(aO dN (pv 0) aC))) aB)) (pv 2) (a7 _)))))),?_⟩
 have b1:=L.t1;have s2:=tU so;refine(aI _ rfl pa _ _ (.ref m) rfl ⟨ rfl,SqT.of hpa,rfl,(bE m n TT hs ta ha rfl ⟨ hL,L,tb,λwa ra oA rr H3 g3 t3 _ _ f1 f2 w3=>?_⟩)⟩);refine(aS wa n TT _ rfl ⟨ra,oA,f1,f2,kK w3⟩ L.g ⟨ L.t1,λlr lrr H4 g4 nl=>?_⟩);have g04:bT H H4:=g3.trans g4.st;have t4:=t3.same g4;refine(aI _ rfl pa _ _ (.ref m) rfl ⟨ rfl,SqT.of (g04.t hpa),rfl,(bE m n TT hs ta ha rfl (gO (hL.st g04) L t4 s2.1 s2.2 (λH5 g5 t5=>?_)))⟩);have g05:=g04.trans g5;have hi:oI n TT hs<(lnd n TT hs).length:=by
  have:=List.idxOf_lt_length_of_mem s2.2;unfold sL at this;rw[Zq]at this;exact this
 obtain⟨la,q1,q2⟩:=nl.row (oI n TT hs) _ (Zz hi);generalize hd:(lnd n TT hs)[oI n TT hs]=d at q2;have hdm:(lnd n TT hs)[oI n TT hs]?=some d:=by rw[Zz hi,hd]
 have dl:=l64 d (Zg hdm);have q5:=g5.l q2;refine(aS lr _ _ (.ref la) rfl rfl (SqL.of (g5.l nl.at_)) ⟨ eG (j:=oI n TT hs) (by rw[Zk,q1];rfl),?_⟩);have p5:=g05.l hpr;refine(aI _ rfl pa _ _ (.ref pr) rfl (kC rfl (SqT.of (g05.t hpa)) rfl pr rfl ⟨_,SqL.of p5⟩ (λD hD=>?_)));refine fY pcs.length (λj=>vn j) (λj=>decide (at0 pcs j = -2)) hD (by lia) (λj H' hj g'=>⟨_,_,SqL.of (g' _ _ p5),kT hj⟩) (λH' g'=>⟨_,SqL.of (g' _ _ p5),by rw[Zq];exact Nat.le_refl _⟩) (λj H' x H'' kt kf hj g' hY ht hf=>?_) ?_
 ·obtain⟨Tp,x',rfl,hTp,rfl,hx⟩:=hY;have ex:=hx _ (SqL.of (g' _ _ p5));rw[kT hj]at ex;cases ex;have s6:=aG hTp (.tup [.int (j:Int),.int (at0 pcs j)]);refine(aZ Tp _ rfl (SqT.of aE) rfl (cU _ _ rfl _ _ rfl rfl ⟨ ((Fills.refl _).set _ rfl).set _ rfl,?_⟩));refine(fQ _ rfl rfl _ rfl (eV (λz=>?_) (λz=>?_)))
  ·exact⟨_,rfl,ht (by simpa using z) _ s6⟩
  ·exact hf (by simpa using z) _ s6
 intro H6 g6 e6;have e6:H6 D=some (.lst (((frm pcs).map λj:Nat=>(j:Int)).map V.int)):=by rw[e6,Yh];rfl
 have q6:=g6 _ _ q5;have vl:(vns d).length=d.length:=by unfold vns;rw[Zq]
 refine(bO _ rfl la rfl ⟨_,SqL.of q6⟩ (λD2 hD2=>?_));refine bS d.length (λj=>.int ((hlf d).getD j 0)) hD2 (by lia) (λj H' hj g'=>⟨_,_,SqL.of (g' _ _ q6),Zz (by rw[vl];exact hj)⟩) (λH' g'=>⟨_,SqL.of (g' _ _ q6),by rw[vl];exact Nat.le_refl _⟩) (λj H' x H'' k hj g' hY hk=>?_) ?_
 ·obtain⟨rfl,hY⟩:=hY;have ex:=hY _ (SqL.of (g' _ _ q6));unfold vns at ex;rw[Zk,Zz hj]at ex;cases ex;have e:(hlf d).getD j 0=((d[j]:Nat):Int) / 2:=by
   unfold hlf;rw[Zv,Zk,Zz hj];show((d[j] / 2:Nat):Int)=_
   lia
  refine(iC ((Fills.refl _).set _ rfl) _ rfl _ _ rfl rfl ⟨ ⟨by decide,by decide⟩,?_⟩);rw[e]at hk;exact hk _ (aW.refl _)
 intro H7 g7 e7;have hll:(hlf d).length=d.length:=by unfold hlf;rw[Zq]
 have e7:H7 D2=some (.lst ((hlf d).map V.int)):=by
  rw[e7,<-hll];congr 2
  conv=>rhs;rw[<-range_getD (hlf d)]
  rw[Yh];rfl
 refine(aZ D2 _ rfl (SqL.of e7) (by rw[hll];exact dl) (λl ns hl p sr=>?_));have s8:=aG hl (.lst (ns.map V.int));refine(bM _ rfl _ _ (gY aE) (gY (s8 _ _ (g7 _ _ e6))) (shaped_ints _) ⟨ shaped_ints _,?_⟩);rw[eZ,Bool.xor_false];have g58:=g6.trans (g7.trans s8);refine q _ _ (g05.trans g58.st) (t5.same g58) ?_;rw[decide_eq_true_iff,E5 p sr];exact⟨λh d' hd'=>by rw[hdm]at hd';cases hd';exact h,λh=>h d hdm⟩
theorem HW:∀(l:List (List Nat)) (f:List Nat->Int),(∀d∈l,f d<=(d.length:Int))->(l.map f).sum<=((l.map List.length).sum:Nat)
 |[],_,_=>by simp
 |d::l,f,h=>by
  have h1:=h d (by simp);have h2:=HW l f λx hx=>h x (by simp[hx]);simp only[List.map_cons,List.sum_cons]
  lia
theorem K6(n:Nat)(c:Int):(List.replicate n c).sum=n*c:=by
 induction n with
 |zero=>simp
 |succ n ih=>rw[List.replicate_succ,List.sum_cons,ih];push_cast;rw[Int.add_mul];lia
theorem tV{l l':List Int}(p:l.Perm l'):l.sum=l'.sum:=by
 induction p with
 |nil=>rfl
 |cons x _ ih=>simp[ih]
 |swap x y l=>simp;lia
 |trans _ _ h1 h2=>exact h1.trans h2
theorem NI{T:MM.aY}{hs:List Int}{os:MM.dM}:∀d:List Nat,MM.su d (λy=>2-cx T hs os y)<=(d.length:Int)
 |[]=>by simp[MM.su]
 |y::d=>by
  have ih:=NI (T:=T) (hs:=hs) (os:=os) d;have:1<=cx T hs os y:=by
   unfold cx;have:=Xj (hx hs (MM.oth y)-hx hs (MM.behind T os y)-1) (show(4:Int)≠0 by decide)
   lia
  unfold MM.su at ih ⊢;simp only[List.map_cons,List.sum_cons,Yq]at ih ⊢
  push_cast
  lia
theorem l64{T:MM.aY}{hs:List Int}(g:MM.Good T (cK T hs 25))(hT:T.length=40)(I:l6 25 T hs):∀d∈lnd 25 T hs,d.length<64:=by
 intro d hd;have p:=List.perm_cons_erase hd;have fl:=MM.DC g.maps;have s1:=fl.length_eq;rw[List.length_flatten,Yj]at s1;have s2:(lnd 25 T hs).length=17:=by
  have:=I.fl;rw[hT]at this;have:MM.kL T (cK T hs 25)=17:=by lia
  exact this
 have sl:(sL 25 T hs).length=17:=by unfold sL;rw[Zq];exact s2
 have s3:=tV I.su;rw[List.sum_cons,K6,sl]at s3;have q:=(p.map List.length).sum_nat;have q2:=tV (p.map λd=>MM.su d λy=>2-cx T hs (cK T hs 25) y);have q2:(sL 25 T hs).sum=_:=q2;rw[List.map_cons,List.sum_cons]at q q2;have q3:=HW ((lnd 25 T hs).erase d) (λd=>MM.su d λy=>2-cx T hs (cK T hs 25) y) λd _=>NI d;have q4:MM.su d (λy=>2-cx T hs (cK T hs 25) y)<=4:=by
  have:MM.su d (λy=>2-cx T hs (cK T hs 25) y)∈sL 25 T hs:=Zh.mpr ⟨d,hd,rfl⟩;rcases(tU I.su).1 _ this with z | z<;>lia
 have s1:((lnd 25 T hs).map List.length).sum=2*T.length:=s1
 lia
structure Par(n0:Nat)(T0:MM.aY)(hs0:List Int)(n:Nat)(T:MM.aY)(hs pcs:List Int):Prop where
 la:l6 n T hs
 le:QP n0 T0 hs0 T hs pcs
 ob:Obl n T hs
 fr:Frm n T hs pcs
structure Hand(n0:Nat)(T0:MM.aY)(hs0:List Int)(T:MM.aY)(hs pcs:List Int):Prop where
 l0:Ld0 n0 T0 hs0
 lr:LdR 25 T hs
 hT:T.length=40
 pl:pcs.length=40
 n0:n0<=25
def RA(tp:Addr):Sp:=λvs H Q _=>∃(m0 pa m pr ta0 ha0 ta ha:Addr) (n0:Nat) (T0 T:MM.aY) (hs0 hs pcs:List Int),vs=[.ref m0,.ref pa]/\H pa=some (.tup [.ref m,.ref pr])/\H pr=some (.lst (pcs.map V.int)) /\
 dE H m0 n0 T0 hs0 ta0 ha0/\dE H m 25 T hs ta ha/\Hand n0 T0 hs0 T hs pcs/\TB tp H /\
 ∀(b:Bool) (H':Hp),bT H H'->TB tp H'->(b=true↔Par n0 T0 hs0 25 T hs pcs)->Q (.bl b) H'
theorem PU(T:Txt K mg t)(B:BT base mg t):cJ P w K mg base CX0 12 t.p9 t.pU ["laid","parting"] (RA t.tp):=by
 have G8:=GA (P:=P) (w:=w) (base:=base) T B;have mR:=PX (P:=P) (w:=w) (base:=base) T B;have oE:=PZ (P:=P) (w:=w) (base:=base) T B;refine T.pO.F.ok mS (λvs H Q E h=>?_) (λcdv A outer s H vs Q E hr h=>?_)
 ·obtain⟨_,_,_,_,_,_,_,_,_,_,_,_,_,_,rfl,_⟩:=h;rfl
 obtain⟨m0,pa,m,pr,ta0,ha0,ta,ha,n0,T0,TT,hs0,hs,pcs,rfl,hpa,hpr,hL0,hL,X,tb,q⟩:=h;have nd:=mS.nd;refine⟨_,(aF (bC 2 nd (aJ aT (pv 1) aC (λ_ _=>rfl)))
  (aF (b8 (PW.pt (gT (eM (cP (bK G8 hr T.xX a8 (aA (pv 2) aB)) (λ_=>rfl))) (gT (aV lO (aQ aN rfl T.b7 PySem.boot_len (aA (aJ aT (pv 1) aC (λ_ _=>rfl)) aB)) (aQ aN rfl T.b7 PySem.boot_len (aA (aJ aT (pv 2) aC (λ_ _=>rfl)) aB)) (a7 _)) (gP (aV iF (aJ aT (pv 2) aC (λ_ _=>rfl)) (aJ aT (pv 0) aC (λ_ _=>rfl)) (a7 _)))))) (aH (aU cO)) bD)
  (aF (b8 (eM (cP (bK (F8 T) hr T.mX a8 (aA (pv 0) (aA (pv 1) aB))) (λ_=>rfl))) (aH (aU cO)) bD)
  (aH (aU (uK (bK mR hr T.gW a8 (aA (pv 2) aB)) (zC (bK oE hr T.iK a8 (aA (pv 1) aB))))))))),?_⟩
 have hT:=X.hT;have hp:=X.pl;have hn:=X.n0;have hl:=X.lr.hl;refine(aI _ rfl pa _ _ (.ref m) rfl ⟨ rfl,SqT.of hpa,rfl,?_⟩);refine⟨_,rfl,(bE m 25 TT hs ta ha rfl ⟨ hL,X.lr,tb,λb H1 g1 t1 hb=>⟨_,rfl,?_⟩⟩)⟩;cases b with
 |false=>exact iS (iS (q false H1 g1 t1 ⟨λy=>(nomatch y),λy=>Bool.noConfusion (hb.mpr y.la)⟩))
 |true =>
  have I:=hb.mp rfl;have LP:=X.lr.p I.ds I.wh;have hL1:=hL.st g1;have hL01:=hL0.st g1;obtain⟨tr,z1,z2,z3⟩:=id hL1.2.1;have h1:=g1.t hpa;have h2:=g1.l hpr;refine mP (aI _ rfl pa _ _ (.ref pr) rfl (bY rfl (SqT.of h1) rfl pr _ rfl (.inl (SqL.of h2)) (aI _ rfl m _ _ (.ref ta) rfl (bY rfl (SqT.of hL1.1) rfl ta _ rfl (.inl (SqL.of z1)) ⟨ rfl,_,rfl,cR (by rw[Zq,Zq,z2,hT,hp];rfl) ?_⟩))));refine(aI _ rfl m _ _ _ rfl (bZ rfl (SqT.of hL1.1) rfl _ rfl (aS m0 _ _ _ rfl rfl (SqT.of hL01.1) (jN rfl _ _ rfl rfl _ rfl (cR (decide_eq_false (by show ¬((25:Nat):Int)<(n0:Int);lia)) ?_)))));refine⟨_,rfl,_,rfl,(cB m0 pa m pr ta0 ha0 ta (cB ha n0 25 T0 TT hs0 hs (AB pcs rfl h1 h2 hL01 hL1 X.l0 ⟨ hl,by lia,by lia,by lia,λb H2 g2 hb=>⟨_,rfl,?_⟩⟩)))⟩;cases b with
  |false=>exact iS (q false H2 (g1.trans g2.st) (t1.same g2) ⟨λy=>(nomatch y),λy=>Bool.noConfusion (hb.mpr y.le)⟩)
  |true =>
   have le:=hb.mp rfl;have g02:=g1.trans g2.st;have t2:=t1.same g2;refine mP ⟨_,rfl,(bE m 25 TT hs ta ha rfl ⟨ hL.st g02,LP,t2,I.su,λb H3 g3 t3 hb=>⟨_,rfl,?_⟩⟩)⟩;cases b with
   |false=>exact mP (q false H3 (g02.trans g3) t3 ⟨λy=>(nomatch y),λy=>Bool.noConfusion (hb.mpr y.ob)⟩)
   |true =>
    have g03:=g02.trans g3;refine iS ⟨_,rfl,(cB pa m pr 25 TT hs pcs (jK ta ha rfl (g03.t hpa) (g03.l hpr) (hL.st g03) LP ⟨ t3,I.su,l64 LP.g hT I,by lia,λb2 H4 g4 t4 hb2=>?_⟩))⟩;exact q b2 H4 (g03.trans g4) t4 ⟨λy=>⟨I,le,hb.mp rfl,hb2.mp y⟩,λy=>hb2.mpr y.fr⟩
end K49
namespace AW
structure Sr(m:Nat)(ts:Ts)(C W:List Int):Prop where
 co:rL m ts C
 sub:∀p∈W,p∈C
 nbr:∀p∈C,p∉W->∀q∈nbs ts p,q∈C
 len:W.length<=C.length
theorem Sr.start{m:Nat}{ts:Ts}(h:0<m):Sr m ts [0] [0]:=⟨.start h,λp h=>h,λp h z=>absurd h z,Nat.le_refl _⟩
theorem Sr.done{m:Nat}{ts:Ts}{C:List Int}(s:Sr m ts C []):C.length=m↔nA m ts:=by
 refine⟨s.co.whole,s.co.full λt ht=>⟨λh=>s.nbr _ h (by simp) _ (kN.mpr ⟨t,ht,.inl ⟨rfl,rfl⟩⟩),λh=>s.nbr _ h (by simp) _ (kN.mpr ⟨t,ht,.inr ⟨rfl,rfl⟩⟩)⟩⟩
structure SrI(m:Nat)(ts:Ts)(p:Int)(k:Nat)(C W:List Int):Prop where
 co:rL m ts C
 pc:p∈C
 sub:∀x∈W,x∈C
 nbr:∀x∈C,x∉W->x≠p->∀q∈nbs ts x,q∈C
 got:∀q∈(nbs ts p).take k,q∈C
 len:W.length<=C.length
theorem SrI.start{m:Nat}{ts:Ts}{C W:List Int}{p:Int}(s:Sr m ts C (W++[p])):SrI m ts p 0 C W where
 co:=s.co
 pc:=s.sub p (by simp)
 sub:=λx hx=>s.sub x (by simp[hx])
 nbr:=λx hx z y=>s.nbr x hx (by simp[z,y])
 got:=λq h=>by simp at h
 len:=by have:=s.len;simp at this;lia
theorem SrI.done{m:Nat}{ts:Ts}{C W:List Int}{p:Int}(s:SrI m ts p (nbs ts p).length C W):Sr m ts C W where
 co:=s.co
 sub:=s.sub
 nbr:=λx hx z q hq=>by
  by_cases y:x=p
  ·subst y;exact s.got q (by rw[Yv];exact hq)
  ·exact s.nbr x hx z y q hq
 len:=s.len
theorem SrI.skip{m:Nat}{ts:Ts}{C W:List Int}{p q:Int}{k:Nat}(s:SrI m ts p k C W)(e:(nbs ts p)[k]?=some q)(h:q∈C):SrI m ts p (k+1) C W :=
 ⟨s.co,s.pc,s.sub,s.nbr,λx hx=>by
  rw[List.take_add_one,e]at hx;rcases Zf.mp hx with z | z
  ·exact s.got x z
  ·have:x=q:=by simpa using z
   rw[this];exact h,s.len⟩
theorem SrI.add{m:Nat}{ts:Ts}{C W:List Int}{p q:Int}{k:Nat}(s:SrI m ts p k C W)(e:(nbs ts p)[k]?=some q)(h:q∉C)(hw:InW m ts):SrI m ts p (k+1) (C++[q]) (W++[q]) where
 co:=s.co.add s.pc h (Zg e) hw
 pc:=List.mem_append_left _ s.pc
 sub:=λx hx=>by
  rcases Zf.mp hx with z | z
  ·exact List.mem_append_left _ (s.sub x z)
  ·exact List.mem_append_right _ z
 nbr:=λx hx z y r hr=>by
  rcases Zf.mp hx with u | u
  ·exact List.mem_append_left _ (s.nbr x u (λv=>z (List.mem_append_left _ v)) y r hr)
  ·exact absurd (List.mem_append_right _ u) z
 got:=λx hx=>by
  rw[List.take_add_one,e]at hx;rcases Zf.mp hx with z | z
  ·exact List.mem_append_left _ (s.got x z)
  ·exact List.mem_append_right _ (by simpa using z)
 len:=by have:=s.len;simp;lia
end AW
namespace K49
open PySem L2 PyProof.Rows
structure Cm(kvs:List (Key×V))(C:List Int):Prop where
 is:∀x:Int,(eP kvs (Sum.inl x)).isSome=decide (x∈C)
 len:kvs.length=C.length
theorem IR{kvs:List (Key×V)}{k:Key}{v:V}(h:eP kvs k=none):putK kvs k v=kvs++[(k,v)]:=by
 unfold putK;rw[if_neg];intro z;rw[List.any_eq_true]at z;obtain⟨x,hx,e⟩:=z;unfold eP at h;rw[Option.map_eq_none_iff,List.find?_eq_none]at h;exact h x hx e
theorem Cm.add{kvs:List (Key×V)}{C:List Int}(c:Cm kvs C){q:Int}(h:q∉C):Cm (putK kvs (Sum.inl q) (.bl true)) (C++[q]):=by
 have hn:eP kvs (Sum.inl q)=none:=by
  have:=c.is q;rw[decide_eq_false h]at this;exact Option.not_isSome_iff_eq_none.mp (by rw[this];simp)
 refine⟨λx=>?_,by rw[IR hn,Zm,Zm,c.len];rfl⟩;rw[oJ];by_cases z:x=q
 ·rw[if_pos (by rw[z])];simp[z]
 ·rw[if_neg (λy=>z (Sum.inl.inj y)),c.is x];simp[z]
def LF:Sp:=λvs H Q _=>∃(ld:Addr) (m:Nat) (T:MM.aY) (hs:List Int) (a ha:Addr),vs=[.ref ld]/\dE H ld m T hs a ha/\AW.InW m (AW.cT T)/\0<m/\m<=1000/\T.length<=1000 /\
 ∀(b:Bool) (H':Hp),aW H H'->(b=true↔AW.nA m (AW.cT T))->Q (.bl b) H'
theorem F9(T:Txt K mg t):cJ P w K mg base CX0 1 t.yO t.x9 ["_law_laid"] LF:=by
 refine T.xW.F.ok tY (λvs H Q E h=>?_) (λcdv A outer s H vs Q E hr h=>?_)
 ·obtain⟨_,_,_,_,_,_,rfl,_⟩:=h;rfl
 obtain⟨ld,m,TT,hs,a,ha,rfl,hL,hw,hm0,hm,hl,q⟩:=h;obtain⟨tr,e1,e2,e3⟩:=HU hL.2.1;have hl:(AW.cT TT).length<=1000:=by rw[AW.nY];exact hl
 generalize AW.cT TT=ts at *;have nd:=tY.nd;have hu:=NT hr;have nd_l_place_here:(["_law_place_here"]:List Str).Nodup:=by decide
 refine⟨_,(aF (bU (i:=1) nd rfl (Or.inl rfl)  (N':=["_law_place_here"]) (js:=[none]) rfl (bH rfl T.bW (aA (aJ aT (pv 0) aC (λ_ _=>rfl)) aB)) (λ_ _ _ _ _=>(aK (i:=0) nd_l_place_here rfl (Or.inl rfl))) (λ_ _ _ _ _=>b9) (λ_ _ _ _ _=>(bN aB)))
  (aF (cQ PassesOwn.never rfl (bJ (aJ aT (pv 0) aC (λ_ _=>rfl))) (fU rfl (bB (aK (i:=2) nd rfl (Or.inl rfl)) (bB (aK (i:=3) nd rfl (Or.inl rfl)) cZ))) (aF (cF (jQ mAp bP (aJ bA (pv 1) (pv 2) (λ_ _=>rfl)) (aA (pv 3) aB)))
  (aH (cF (jQ mAp bP (aJ bA (pv 1) (pv 3) (λ_ _=>rfl)) (aA (pv 2) aB))))))
  (aF (bC 4 nd (L4 (IT aC cO LX) rfl rfl (by simp) (by decide)))
  (aF (bC 5 nd (bN (aA aC aB)))
  (aF (jO PassesOwn.never (aV (kJ hr.units) (pv 5) (bN aB) (a7 _)) (aH (cQ PassesOwn.never rfl (bJ (aJ bA (pv 1) (JC PySem.F.plainAttrs_list PySem.F.slot_list_pop PySem.F.type_list_pop JM (pv 5)) (λ_ _=>rfl))) (aK (i:=6) nd rfl (Or.inl rfl)) (aH (b8 (CU (xO hu (pv 6) (pv 4))) (aF (zB hu (pv 4) (pv 6) cO rfl)
  (aH (cF (jQ mAp bP (pv 5) (aA (pv 6) aB))))) bD)))))
  (aH (aU (dZ gJ (aQ G6 rfl T.b7 PySem.boot_len (aA (pv 4) aB)) (aJ aT (pv 0) aC (λ_ _=>rfl)) (a7 _))))))))),?_⟩
 refine(aI _ rfl ld _ _ _ rfl (AC rfl (SqT.of hL.1) rfl (m:Int) rfl (by lia) (by lia) (λD hD=>?_)));refine iB m (λ_=>[]) hD (by lia) (λi H' hi g2=>?_) (λH' g2=>?_) ?_ ?_
 ·show i<((m:Int)-0).toNat;lia
 ·show((m:Int)-0).toNat<=m;lia
 ·rintro i H' x H'' k hi g2 ⟨e,y⟩ hk;subst e;exact⟨(Fills.refl _).set _ rfl,(by show 0<=ZW;decide),λl hl'=>hk l _ hl' (aG hl' _) aE⟩
 intro rr H1 w1 g1
 let F:Nat->Nat->List V:=λk p=>(AW.nbs (ts.take k) p).map V.int
 have small:∀(k p:Nat),(F k p).length<=2000:=λk p=>by
  show((AW.nbs (ts.take k) p).map V.int).length<=2000;have h1:=EN (ts.take k) p;rw[Yw]at h1;rw[Zq];lia
 refine(aI _ rfl ld _ _ (.ref a) rfl (kC rfl (SqT.of (g1 _ _ hL.1)) rfl a rfl ⟨_,SqL.of (g1 _ _ e1)⟩ (fI (K:=K) (a:=a) (xs:=tr.map V.ref) (λk σ H'=>(∃v3 v4,σ=[some (.ref ld),some (.ref D),v3,v4,none,none,none])/\dU H H' D rr ((List.range m).map (F k))/\aW H H') ⟨⟨_,_,rfl⟩,?_,g1⟩ ?_ ?_ ?_)))
 ·have e:F 0=λ_=>[]:=by funext p;show(AW.nbs (ts.take 0) p).map V.int=[];rw[List.take_zero];rfl
  rw[e];exact w1
 ·rintro i σ H' hi ⟨_,_,g2⟩;exact SqL.of (g2 _ _ e1)
 ·rintro i x σ H' hx ⟨⟨v3,v4,rfl⟩,w2,g2⟩;obtain⟨⟨u,v⟩,r,et,rfl,er⟩:=TsI.nth (a:=a) e2 e3 hx;obtain⟨⟨u0,u1⟩,v0,v1⟩:=hw _ (Zg et);obtain⟨p1,rfl⟩:=Xv u0;obtain⟨p2,rfl⟩:=Xv v0;have u1:p1<m:=Int.ofNat_lt.mp u1;have v1:p2<m:=Int.ofNat_lt.mp v1;refine(aZ r _ rfl (SqT.of (g2 _ _ er)) rfl (cU _ _ rfl _ _ rfl rfl ?_));obtain⟨x1,a1,b1,c1,d1⟩:=w2.item u1;refine⟨_,rfl,(aI _ rfl D _ _ _ rfl (hV rfl (SqL.of w2.at_) d1 (.inl ⟨rfl,_,SqL.of b1⟩) _ rfl (bG x1 _ _ rfl rfl b1 (Ys (small i p1) (by decide)) ?_)))⟩;have w4:=w2.put a1 (F i p1++[V.int (p2:Int)]);have g4:=g2.fresh c1 (.lst (F i p1++[V.int (p2:Int)]));obtain⟨x2,a2,b2,c2,d2⟩:=w4.item v1;refine⟨_,rfl,(aI _ rfl D _ _ _ rfl (hV rfl (SqL.of w4.at_) d2 (.inl ⟨rfl,_,SqL.of b2⟩) _ rfl (bG x2 _ _ rfl rfl b2 ?_ ⟨ ⟨_,_,rfl⟩,?_,g4.fresh c2 _⟩)))⟩
  ·show(if p2=p1 then F i p1++[V.int (p2:Int)] else F i p2).length<ZW;have h1:=small i p1;have h2:=small i p2;refine Ys (show _<=2001 from ?_) (by decide);split
   ·rw[Zm];simp;lia
   ·lia
  ·have w5:=w4.put a2 ((if p2=p1 then F i p1++[V.int (p2:Int)] else F i p2)++[V.int (p1:Int)]);have e:(λj=>if j=p2 then (if p2=p1 then F i p1++[V.int (p2:Int)] else F i p2)++[V.int (p1:Int)] else if j=p1 then F i p1++[V.int (p2:Int)] else F i j)=F (i+1):=by
    funext j
    have ht:ts.take (i+1)=ts.take i++[((p1:Int),(p2:Int))]:=by rw[List.take_add_one,et];rfl
    show _=(AW.nbs (ts.take (i+1)) j).map V.int;rw[ht,AW.A5,Zt];unfold AW.nb;have c1:((p1:Int)=(j:Int))↔(j=p1):=by lia
    have c2:((p2:Int)=(j:Int))↔(j=p2):=by lia
    simp only[c1,c2];by_cases k2:j=p2
    ·subst k2;by_cases k1:j=p1
     ·subst k1;simp[F]
     ·simp[F,k1]
    ·by_cases k1:j=p1
     ·subst k1;simp[F,k2]
     ·simp[F,k1,k2]
   rw[e]at w5;exact w5
 rintro σ H2 ⟨⟨v3,v4,rfl⟩,w2,g2⟩;have eF:F (tr.map V.ref).length=λp:Nat=>(AW.nbs ts p).map V.int:=by funext p;show(AW.nbs (ts.take _) p).map V.int=_;rw[Zq,e2,Yv]
 rw[eF]at w2;intro cA hcA;refine⟨aE,[(Sum.inl (0:Int),V.bl true)],rfl,by decide,?_⟩;rw[kD];have s3:=aG hcA (.dK (jH [] [(Sum.inl (0:Int),V.bl true)]));have e3':upd H2 cA (.dK (jH [] [(Sum.inl (0:Int),V.bl true)])) cA=some (.dK (jH [] [(Sum.inl (0:Int),V.bl true)])):=aE;have cm0:Cm (jH [] [(Sum.inl (0:Int),V.bl true)]) [0]:=by
  have h0:Cm [] []:=⟨λx=>rfl,rfl⟩
  exact h0.add (q:=0) (by simp)
 generalize jH [] [(Sum.inl (0:Int),V.bl true)]=kv0 at s3 e3' cm0 ⊢;refine⟨(by show 1<=ZW;decide),λwA hwA=>?_⟩;have c0:H cA=none:=g2.free hcA;have g3:=g2.trans s3;have w0:H wA=none:=g3.free hwA;have w3:=w2.keep s3;have cD:cA≠D:=λz=>by rw[z,w2.at_]at hcA;cases hcA
 have cin:cA∉rr:=w2.notIn hcA;have wD:wA≠D:=λz=>by rw[z,w3.at_]at hwA;cases hwA
 have win:wA∉rr:=w3.notIn hwA;have wc:wA≠cA:=λz=>by rw[z,e3']at hwA;cases hwA
 generalize upd H2 cA (.dK kv0)=H3 at s3 e3' hwA g3 w3 ⊢;refine⟨λM σ H'=>∃(kvs:List (Key×V)) (C W:List Int) (v6:Option V),M=2*(m-C.length)+W.length/\σ=[some (.ref ld),some (.ref D),v3,v4,some (.ref cA),some (.ref wA),v6]/\dU H H' D rr ((List.range m).map λp:Nat=>(AW.nbs ts p).map V.int)/\H' cA=some (.dK kvs)/\H' wA=some (.lst (W.map V.int))/\aW H H'/\Cm kvs C/\AW.Sr m ts C W,
  (fE _ kv0 ([0]) ([0]) _ rfl rfl (gO (w3.other wD win _) (by rw[aL (Ne.symm wc)];exact e3') aE (g3.fresh w0 _) cm0 (.start hm0))),?_⟩
 rintro M σ H4 ⟨kvs,C,W,v6,rfl,rfl,w4,eC,eW,g4,cm,sr⟩;refine⟨_,rfl,(by show 0<=ZW;decide),λzl hzl=>?_⟩;have s5:=aG hzl (.lst []);have g5:=g4.trans s5;have w5:=w4.keep s5;have eC5:=s5 _ _ eC;have eW5:=s5 _ _ eW;have bz:Bd K (upd H4 zl (.lst [])) (.ref zl) (.list (([]:List Int).map PyData.int)):=gY aE;refine(cE _ _ (gY eW5) bz (shaped_ints _) (shaped_ints _) ?_);rw[eZ];generalize upd H4 zl (.lst [])=H5 at s5 g5 w5 eC5 eW5 ⊢;refine⟨_,rfl,?_⟩;rcases List.eq_nil_or_concat W with rfl | ⟨W0,pz,rfl⟩
 ·refine cR (by simp) (bF _ rfl cA _ rfl eC5 (aI _ rfl ld _ _ _ rfl ⟨ rfl,SqT.of (g5 _ _ hL.1),rfl,rfl,?_⟩));refine q _ H5 g5 ?_;rw[decide_eq_true_iff,<-sr.done,<-cm.len];exact⟨λz=>by have:=V.int.inj z;lia,λz=>by rw[z]⟩
 rw[List.concat_eq_append]at *;have hp:=sr.co.win pz (sr.sub pz (by simp));obtain⟨p0,rfl⟩:=Xv hp.1;have hpm:p0<m:=by lia
 have cle:=sr.co.le;have eWW:(W0++[(p0:Int)]).map V.int=W0.map V.int++[vn p0]:=by rw[Zt];rfl
 refine eJ (by simp) ⟨λσ' H''=>∃(kvs:List (Key×V)) (C' W':List Int) (v6:Option V),2*(m-C'.length)+W'.length<2*(m-C.length)+(W0++[(p0:Int)]).length/\σ'=[some (.ref ld),some (.ref D),v3,v4,some (.ref cA),some (.ref wA),v6]/\dU H H'' D rr ((List.range m).map λp:Nat=>(AW.nbs ts p).map V.int)/\H'' cA=some (.dK kvs)/\H'' wA=some (.lst (W'.map V.int))/\aW H H''/\Cm kvs C'/\AW.Sr m ts C' W',?_,?_⟩
 ·rintro σ' H'' ⟨kvs',C',W',v6',hM,rfl,r1,r2,r3,r4,r5,r6⟩;exact(aI _ hM kvs' C' W' _ rfl (tE rfl r1 r2 r3 r4 r5 r6))
 rw[eWW]at eW5;refine(bO _ rfl _ rfl (.inl ⟨rfl,_,SqL.of eW5⟩) (bG wA _ (vn p0) rfl rfl eW5 (by rw[Zm];simp) ?_));rw[List.dropLast_concat];have w6:=w5.other wD win (.lst (W0.map V.int));have g6:=g5.fresh w0 (.lst (W0.map V.int));have eC6:upd H5 wA (.lst (W0.map V.int)) cA=some (.dK kvs):=by rw[aL (Ne.symm wc)];exact eC5
 have eW6:upd H5 wA (.lst (W0.map V.int)) wA=some (.lst (W0.map V.int)):=aE;generalize upd H5 wA (.lst (W0.map V.int))=H6 at w6 g6 eC6 eW6 ⊢;obtain⟨x1,a1,b1,c1,d1⟩:=w6.item hpm;have hlen:(W0++[(p0:Int)]).length=W0.length+1:=by simp
 rw[hlen];refine(aS D _ _ _ rfl rfl (SqL.of w6.at_) ⟨ d1,x1,rfl,⟨_,SqL.of b1⟩,fI (K:=K) (a:=x1) (xs:=(AW.nbs ts p0).map V.int) (λk σ H''=>∃(kvs:List (Key×V)) (C' W':List Int) (v6:Option V),2*(m-C'.length)+W'.length<2*(m-C.length)+(W0.length+1)/\σ=[some (.ref ld),some (.ref D),v3,v4,some (.ref cA),some (.ref wA),v6]/\dU H H'' D rr ((List.range m).map λp:Nat=>(AW.nbs ts p).map V.int)/\H'' cA=some (.dK kvs)/\H'' wA=some (.lst (W'.map V.int))/\aW H H''/\Cm kvs C'/\AW.SrI m ts p0 k C' W') (aS kvs C W0 _ (by lia) rfl w6 ⟨ eC6,eW6,g6,cm,.start sr⟩) ?_ ?_ ?_⟩)
 ·rintro i σ H7 hi ⟨kvs',C',W',v6',hM,rfl,r1,r2,r3,r4,r5,r6⟩;obtain⟨x2,a2,b2,_⟩:=r1.item hpm;rw[a1]at a2;cases a2;exact SqL.of b2
 ·rintro i x σ H7 hx ⟨kvs',C',W',v6',hM,rfl,r1,r2,r3,r4,r5,r6⟩;rw[Zk]at hx;cases eq':(AW.nbs ts p0)[i]? with
  |none=>rw[eq']at hx;cases hx
  |some qz =>
   rw[eq']at hx;cases hx;have dg:l8 H7 cA (.int qz) (eP kvs' (Sum.inl qz)):=l8.k (k:=Sum.inl qz) r2;refine(bR _ rfl _ rfl cA _ rfl ⟨ dg,_,rfl,?_⟩);rw[r5.is qz];have cle':=r6.co.le;have wle:=r6.len;by_cases hin:qz∈C'
   ·rw[decide_eq_true hin];exact mP (aS kvs' C' W' _ hM rfl r1 ⟨ r2,r3,r4,r5,r6.skip eq' hin⟩)
   ·rw[decide_eq_false hin];have n6:=r6.add eq' hin hw;have cle2:=n6.co.le;rw[Zm,ZQ]at cle2;refine iS (bR _ rfl _ rfl cA _ rfl ⟨ DY.k (k:=Sum.inl qz) r2 (Ys (show _<=1000 by rw[r5.len];lia) (by decide)),?_⟩);have r3':upd H7 cA (.dK (putK kvs' (Sum.inl qz) (.bl true))) wA=some (.lst (W'.map V.int)):=by rw[aL wc];exact r3
    refine(fQ _ rfl (.inl ⟨rfl,_,SqL.of r3'⟩) _ rfl (bG wA _ _ rfl rfl r3' (Ys (show _<=1000 by rw[Zq];lia) (by decide)) ?_));refine(aS (putK kvs' (Sum.inl qz) (.bl true)) (C'++[qz]) (W'++[qz]) _ ?_ rfl ((r1.other cD cin _).other wD win _) ⟨ ?_,?_,(r4.fresh c0 _).fresh w0 _,r5.add hin,n6⟩)
    ·rw[Zm,Zm,ZQ];lia
    ·rw[aL (Ne.symm wc)];exact aE
    ·rw[Zt];exact aE
 ·rintro σ H7 ⟨kvs',C',W',v6',hM,rfl,r1,r2,r3,r4,r5,r6⟩;rw[Zq]at r6;exact(aS kvs' C' W' _ hM rfl r1 ⟨ r2,r3,r4,r5,r6.done⟩)
end K49
namespace PL
variable{n0:Nat}{s e:Nat->Nat}{ok:Nat->Bool}
def on1(n0:Nat)(s e:Nat->Nat)(ok:Nat->Bool)(left:List Nat)(here:Nat)(B:List Nat):Option (Nat×List Nat) :=
 match left.filter (λp=>s p==here&&ok p) with
 |[p]=>go n0 s e ok (left.erase p).length false (left.erase p) (e p) B
 |_=>none
theorem NU{left B:List Nat}{here:Nat}{first:Bool}(h:left≠[])(hf:first=true\/¬(here<n0\/here∈B)):go n0 s e ok left.length first left here B=on1 n0 s e ok left here (if first=true then B else B++[here]):=by
 obtain⟨k,hk⟩:∃k,left.length=k+1:=⟨left.length-1,by have:=List.length_pos_iff.mpr h;lia⟩
 rw[hk];unfold go on1;rw[if_neg λy=>hf.elim (λz=>by rw[z]at y;exact absurd y.1 (by decide)) λz=>z y.2];cases hfl:left.filter (λp=>s p==here&&ok p) with
 |nil=>rfl
 |cons p r =>
  cases r with
  |nil =>
   have m:p∈left:=(Yz.mp (show p∈left.filter (λp=>s p==here&&ok p) by rw[hfl];simp)).1;have:(left.erase p).length=k:=by rw[List.length_erase_of_mem m,hk];rfl
   dsimp only;rw[this]
  |cons a b=>rfl
theorem J7{left B:List Nat}{here:Nat}(h:left≠[])(hb:here<n0\/here∈B):go n0 s e ok left.length false left here B=none:=by
 obtain⟨k,hk⟩:∃k,left.length=k+1:=⟨left.length-1,by have:=List.length_pos_iff.mpr h;lia⟩
 rw[hk];exact DK hb
end PL
namespace L2
open PySem PySem.Spec PyProof.Rows
section
variable{X:Cx}{K:PySem.W.Frag}
theorem OW(d:Addr){H H':Hp}(g:SB d H H'){x:Addr}(hx:H x=none)(o:HO):SB d H (upd H' x o):=λb u n h=>by rw[aL (aP h hx)];exact g b u n h
end
end L2
namespace K49
open PySem L2 PyProof.Rows
def OJ:Sp:=λvs H Q _=>∃(m0 m sr br ta0 ha0 ta ha:Addr) (n0 n:Nat) (T0 T:MM.aY) (hs0 hs:List Int) (k:Nat) (ks B:List Nat),vs=[.ref m0,.ref m,.ref sr,vn k,.ref br] /\
 dE H m0 n0 T0 hs0 ta0 ha0/\dE H m n T hs ta ha/\H sr=some (.lst (vns ks))/\H br=some (.lst (vns B))/\br≠ta0/\br≠ha0/\br≠ta/\br≠ha/\br≠sr/\k<T0.length/\hs0.length=T0.length/\hs.length=T.length/\(∀p∈ks,p<T.length)/\ks.Nodup/\ps T0 k≠pt T0 k/\B.length+ks.length<=10000/\ks.length<=1000 /\
 ∀(b:Bool) (B':List Nat) (H':Hp),SB br H H'->H' br=some (.lst (vns B'))->(b=true->gone n0 T0 hs0 T hs k ks B=some (pt T0 k,B')/\B'.length<=B.length+ks.length)->(b=false->∀B2,gone n0 T0 hs0 T hs k ks B≠some (pt T0 k,B2))->Q (.bl b) H'
theorem dE.sl{d:Addr}{H H':Hp}(g:SB d H H'){l:List V}(e:H d=some (.lst l)){m ta ha:Addr}{n:Nat}{T:MM.aY}{hs:List Int}(h:dE H m n T hs ta ha)(h1:d≠ta)(h2:d≠ha):dE H' m n T hs ta ha:=by
 refine⟨g _ _ (rW h.1 e (λz=>nomatch z)) h.1,?_,g _ _ (Ne.symm h2) h.2.2⟩;obtain⟨tr,q1,q2,q3⟩:=h.2.1;exact⟨tr,g _ _ (Ne.symm h1) q1,q2,λi x hx=>let⟨r,a,b⟩:=q3 i x hx;⟨r,a,g _ _ (rW b e (λz=>nomatch z)) b⟩⟩
theorem CT(l:List Nat):(List.range l.length).map (λj=>l.getD j 0)=l:=by
 refine Yp λj=>?_;rw[Zk];by_cases h:j<l.length
 ·rw[Yk h,Zz h];simp[List.getD,h]
 ·rw[Zr (by simpa using h),Zr (by simpa using h)];rfl
theorem GW(l:List Nat)(f:Nat->Bool):((List.range l.length).filter (λj=>f (l.getD j 0))).map (λj=>vn (l.getD j 0))=vns (l.filter f):=by
 have e:vns (l.filter f)=((((List.range l.length).map λj=>l.getD j 0)).filter f).map vn:=by rw[CT]
 rw[e,List.filter_map,Yh];rfl
theorem vI:∀(l:List Nat) (p:Nat),(l.map λn:Nat=>(n:Int)).erase (p:Int)=(l.erase p).map λn:Nat=>(n:Int)
 |[],_=>rfl
 |a::l,p=>by
  rw[List.map_cons];by_cases h:a=p
  ·subst h;rw[List.erase_cons_head,List.erase_cons_head]
  ·rw[List.erase_cons_tail (by simp;lia),List.erase_cons_tail (by simp;lia),List.map_cons,vI l p]
theorem JG(T:Txt K mg t):cJ P w K mg base CX0 1 t.B7 t.BW ["_law_laid","_law_inner","_law_some","_law_tie","_law_between"] OJ:=by
 refine T.BN.F.ok xG (λvs H Q E h=>?_) (λcdv A outer s H vs Q E hr h=>?_)
 ·obtain⟨_,_,_,_,_,_,_,_,_,_,_,_,_,_,_,_,_,rfl,_⟩:=h;rfl
 obtain⟨m0,m,sr,br,ta0,ha0,ta,ha,n0,n,T0,TT,hs0,hs,k,ks,B,rfl,hL0,hL,hS,hB,d1,d2,d3,d4,d5,hk,hl0,hl,hks,knd,hne,hlen,hk1,q⟩:=h;have nd:=xG.nd;have nd_l_piece_l_here_l_tie_l_inner_l_laid:(["_law_piece","_law_here","_law_tie","_law_inner","_law_laid"]:List Str).Nodup:=by decide
 refine⟨_,(aF (bC 5 nd (aJ aT (aJ bA (aJ aT (pv 0) aC (λ_ _=>rfl)) (pv 3) (λ_ _=>rfl)) aC (λ_ _=>rfl)))
  (aF (bC 6 nd (cY fN rfl T.qE boot_list (aA (pv 2) aB)))
  (aF (jO PassesOwn.never (aV (kJ hr.units) (pv 6) (bN aB) (a7 _)) (aF (bU (i:=7) nd rfl (Or.inl rfl)  (N':=["_law_piece","_law_here","_law_tie","_law_inner","_law_laid"]) (js:=[none,some 5,some 3,some 1,some 0]) rfl (bJ (pv 6)) (λ_ _ _ _ _=>(aK (i:=0) nd_l_piece_l_here_l_tie_l_inner_l_laid rfl (Or.inl rfl))) (λ_ _ _ _ _=>(lL (PW.pt (O4 (aV gJ (aJ (jB (K:=K) rfl) (aJ (dC (K:=K) rfl) (aJ (jB (K:=K) rfl) (pv 3) aC (λ_ _=>rfl)) (pv 0) (λ_ _=>rfl)) aC (λ_ _=>rfl)) (pv 1) (a7 _)) (LU (aV gJ (aJ (dC (K:=K) rfl) (aJ (jB (K:=K) rfl) (pv 3) aC (λ_ _=>rfl)) (pv 0) (λ_ _=>rfl)) (aJ (dC (K:=K) rfl) (aJ (jB (K:=K) rfl) (pv 4) aC (λ_ _=>rfl)) (pv 2) (λ_ _=>rfl)) (a7 _))))))) (λ_ _ _ _ _=>(pv 0)))
  (aF (b8 (aV lO (aQ aN rfl T.b7 PySem.boot_len (aA (pv 7) aB)) aC (a7 _)) (aH (aU cO)) bD)
  (aF (cF (uJ PySem.F.plainAttrs_list PySem.F.slot_list_remove PySem.F.type_list_remove MK (pv 6) (aA (aJ bA (pv 7) aC (λ_ _=>rfl)) aB)))
  (aF (bC 5 nd (aJ aT (aJ bA (aJ aT (pv 1) aC (λ_ _=>rfl)) (aJ bA (pv 7) aC (λ_ _=>rfl)) (λ_ _=>rfl)) aC (λ_ _=>rfl)))
  (aH (b8 (aV (kJ hr.units) (pv 6) (bN aB) (a7 _)) (aF (b8 (PW.pt (gT (aV iF (pv 5) (aJ aT (pv 0) aC (λ_ _=>rfl)) (a7 _)) (gP (aV qT (pv 5) (pv 4) rfl)))) (aH (aU cO)) bD)
  (aH (cF (jQ mAp bP (pv 4) (aA (pv 5) aB))))) bD)))))))
  (aH (aU (uK (dZ (kJ hr.units) (pv 2) (bN aB) (a7 _)) (zC (dZ gJ (pv 5) (aJ aT (aJ bA (aJ aT (pv 0) aC (λ_ _=>rfl)) (pv 3) (λ_ _=>rfl)) aC (λ_ _=>rfl)) (a7 _))))))))),?_⟩
 obtain⟨xs0,r0,r1,r2,r3⟩:=nC hL0.2.1 hk;refine(aI _ rfl m0 _ _ (.ref ta0) rfl (bZ rfl (SqT.of hL0.1) rfl _ rfl (aS ta0 _ _ _ rfl rfl (SqL.of r1) (fG r2 r0 _ _ _ rfl rfl ⟨ SqT.of r3,rfl,?_⟩))));refine(bF _ rfl sr _ rfl (.inl (SqL.of hS)) (λlf hlf=>?_));have s1:=aG hlf (.lst (vns ks));have lb:lf≠br:=λz=>by rw[z,hB]at hlf;cases hlf
 refine⟨λM σ H'=>∃(left B1:List Nat) (here:Nat) (o7:Option V),M=left.length/\σ=[some (.ref m0),some (.ref m),some (.ref sr),some (vn k),some (.ref br),some (vn here),some (.ref lf),o7]/\SB br H H'/\H' br=some (.lst (vns B1))/\H' lf=some (.lst (vns left))/\left.Nodup/\(∀p∈left,p∈ks)/\left.length<=ks.length/\B1.length+left.length<=B.length+ks.length /\
   (left=[]->gone n0 T0 hs0 TT hs k ks B=some (here,B1))/\(left≠[]->gone n0 T0 hs0 TT hs k ks B=PL.on1 n0 (ps TT) (pt TT) (fits hs hs0 k) left here B1),
  (fE _ ks B (ps T0 k) _ rfl rfl (dI (SB.of s1) (s1 _ _ hB) aE knd (λp h=>h) (Nat.le_refl _) (Nat.le_refl _) ⟨ λz=>?_,λz=>?_⟩)),?_⟩
 ·unfold gone;rw[z];rfl
 ·unfold gone;rw[PL.NU z (.inl rfl),if_pos rfl]
 rintro M σ H2 ⟨left,B1,here,o7,rfl,rfl,g2,eB,eL,lnd,lsub,lle,ble,i0,i1⟩;have vl:∀l:List Nat,vns l=(l.map λn:Nat=>(n:Int)).map V.int:=λl=>by unfold vns;rw[Yh];rfl
 refine⟨_,rfl,(by show 0<=ZW;decide),λzl hzl=>?_⟩;have s3:=aG hzl (.lst []);have g3:=g2.trans (SB.of s3);have eB3:=s3 _ _ eB;have eL3:=s3 _ _ eL;have bz:Bd K (upd H2 zl (.lst [])) (.ref zl) (.list (([]:List Nat).map λn:Nat=>PyData.int (n:Int))):=.lst (SqL.of aE) (iA []);refine(cE _ _ (.lst (SqL.of eL3) (iA left)) bz (dF left) (dF []) ⟨ _,rfl,?_⟩);rw[pR];generalize upd H2 zl (.lst [])=H3 at s3 g3 eB3 eL3 bz ⊢;have hL3:=hL.sl g3 hB d3 d4;have hL03:=hL0.sl g3 hB d1 d2;by_cases hz:left=[]
 ·refine cR (by simp[hz]) ?_;have gz:=i0 hz;refine⟨_,rfl,(by show 0<=ZW;decide),λz2 hz2=>?_⟩;have s4:=aG hz2 (.lst []);have g4:=g3.trans (SB.of s4);have eB4:=s4 _ _ eB3;have bz4:Bd K (upd H3 z2 (.lst [])) (.ref z2) (.list (([]:List Nat).map λn:Nat=>PyData.int (n:Int))):=.lst (SqL.of aE) (iA []);refine(cE _ _ (.lst (SqL.of (s4 _ _ (g3 _ _ (Ne.symm d5) hS))) (iA ks)) bz4 (dF ks) (dF []) ⟨ _,rfl,?_⟩);rw[pR];have hL04:=hL0.sl g4 hB d1 d2;by_cases kz:ks=[]
  ·refine cR (by simp[kz]) ?_;refine q _ B1 _ g4 eB4 (λz=>?_) (λ_ B2 y=>?_)
   ·simp[kz]at z
   ·subst kz;have y:some (ps T0 k,B)=some (pt T0 k,B2):=y;exact hne (congrArg Prod.fst (Option.some.inj y))
  ·refine eJ (by simp[kz]) ?_;obtain⟨xs1,r1',y1,y2,y3⟩:=nC hL04.2.1 hk;refine⟨_,rfl,(aI _ rfl m0 _ _ (.ref ta0) rfl (bZ rfl (SqT.of hL04.1) rfl _ rfl (aS ta0 _ _ _ rfl rfl (SqL.of y1) (fG y2 r1' _ _ _ rfl rfl ⟨ SqT.of y3,rfl,rfl,?_⟩))))⟩;refine q _ B1 _ g4 eB4 (λz=>?_) (λz B2 y=>?_)
   ·have z:V.int (here:Int)=V.int ((pt T0 k:Nat):Int):=of_decide_eq_true z;have z:=V.int.inj z;have z:here=pt T0 k:=by lia
    exact⟨by rw[gz,z],by lia⟩
   ·rw[gz]at y;have:=congrArg Prod.fst (Option.some.inj y);have this:here=pt T0 k:=this;refine absurd z ?_;rw[this];simp
 refine eJ (by simp[hz]) ⟨_,λσ' H' h=>h,?_⟩;have gi:=i1 hz;have vll:(vns left).length=left.length:=by unfold vns;rw[Zq]
 refine(bO _ rfl lf rfl ⟨_,SqL.of eL3⟩ (λD hD=>?_));refine fY left.length (λj=>vn (left.getD j 0)) (λj=>ps TT (left.getD j 0)==here&&fits hs hs0 k (left.getD j 0)) hD (by lia) (λj H' hj g'=>⟨_,_,SqL.of (g' _ _ eL3),Zz (by rw[vll];exact hj)⟩) (λH' g'=>⟨_,SqL.of (g' _ _ eL3),by rw[vll];exact Nat.le_refl _⟩) (λj H' x H'' kt kf hj g' hY ht hf=>?_) ?_
 ·obtain⟨rfl,hY⟩:=hY;have ex:=hY _ (SqL.of (g' _ _ eL3));unfold vns at ex;rw[Zk,Zz hj]at ex;cases ex;have ge:left.getD j 0=left[j]:=by rw[Zv,Zz hj];rfl
  rw[ge]at ht hf;have hp:=hks _ (lsub _ (Zp hj));have hLj:=hL3.st g'.st;have hL0j:=hL03.st g'.st;obtain⟨xs,r,y1,y2,y3⟩:=nC hLj.2.1 hp;refine⟨(Fills.refl _).set _ rfl,?_⟩;refine(aI _ rfl m _ _ (.ref ta) rfl (bZ rfl (SqT.of hLj.1) rfl _ rfl (aS ta _ _ _ rfl rfl (SqL.of y1) (fG y2 r _ _ _ rfl rfl (HI (SqT.of y3) rfl _ rfl rfl _ rfl (eV (λz=>?_) (λz=>?_)))))))
  ·have z:V.int ((ps TT left[j]:Nat):Int)=V.int (here:Int):=of_decide_eq_true z;have z:ps TT left[j]=here:=by have:=V.int.inj z;lia
   refine(aI _ rfl m _ _ (.ref ha) rfl (bZ rfl (SqT.of hLj.1) rfl _ rfl (aS ha _ _ _ rfl rfl (SqL.of hLj.2.2) ⟨ cV (j:=left[j]) (by lia) rfl,?_⟩)));refine(aI _ rfl m0 _ _ (.ref ha0) rfl (bZ rfl (SqT.of hL0j.1) rfl _ rfl (aS ha0 _ _ _ rfl rfl (SqL.of hL0j.2.2) ⟨ cV (j:=k) (by lia) rfl,rfl,_,rfl,eV (λy=>?_) (λy=>?_)⟩)))
   ·have y:at0 hs left[j]=at0 hs0 k:=by simpa using y
    exact⟨_,rfl,ht (by simp[z,fits,y]) _ (aW.refl _)⟩
   ·have y:¬at0 hs left[j]=at0 hs0 k:=by simpa using y
    exact hf (by simp[fits,y]) _ (aW.refl _)
  ·have z:¬ps TT left[j]=here:=λy=>z (decide_eq_true (by rw[y]));exact hf (by simp[z]) _ (aW.refl _)
 intro H4 g4 e4;have e4:H4 D=some (.lst (vns (left.filter λp=>ps TT p==here&&fits hs hs0 k p))):=by
  rw[e4,<-GW left (λp=>ps TT p==here&&fits hs hs0 k p)]
 have eB4:=g4 _ _ eB3;have eL4:=g4 _ _ eL3;have g04:=g3.trans (SB.of g4);have hL4:=hL.sl g04 hB d3 d4;have hL04:=hL0.sl g04 hB d1 d2;have fin:gone n0 T0 hs0 TT hs k ks B=none->∀H5 B5,SB br H H5->H5 br=some (.lst (vns B5))->Q (.bl false) H5:=λh H5 B5 g5 e5=>q false B5 H5 g5 e5 (λz=>nomatch z) (λ_ B2 y=>by rw[h]at y;cases y);refine(bM _ rfl D _ rfl (.inl (SqL.of e4)) rfl ⟨ _,rfl,?_⟩);by_cases hone:∃p,(left.filter λp=>ps TT p==here&&fits hs hs0 k p)=[p]
 case neg =>
  have hn:gone n0 T0 hs0 TT hs k ks B=none:=by
   rw[gi];unfold PL.on1;split
   ·next p hp=>exact absurd ⟨p,hp⟩ hone
   ·rfl
  refine eJ ?_ (fin hn H4 B1 g04 eB4);have hl1:(left.filter λp=>ps TT p==here&&fits hs hs0 k p).length≠1:=λz=>hone (List.length_eq_one_iff.mp z);unfold vns;rw[Zq];simp
  lia
 obtain⟨p,hp⟩:=hone;have pm:p∈left:=(Yz.mp (show p∈left.filter (λp=>ps TT p==here&&fits hs hs0 k p) by rw[hp];simp)).1;rw[hp]at e4 ⊢;have gi2:gone n0 T0 hs0 TT hs k ks B=PL.go n0 (ps TT) (pt TT) (fits hs hs0 k) (left.erase p).length false (left.erase p) (pt TT p) B1:=by
  rw[gi];unfold PL.on1;rw[hp]
 refine cR (by rfl) ?_;have eL4':H4 lf=some (.lst ((left.map λn:Nat=>(n:Int)).map V.int)):=by rw[<-vl];exact eL4
 refine(fQ _ rfl (.inl ⟨rfl,_,SqL.of eL4⟩) _ rfl (aS D _ _ (vn p) rfl rfl (SqL.of e4) (oG rfl lf _ (p:Int) rfl rfl eL4' ⟨ Zh.mpr ⟨p,pm,rfl⟩,?_⟩)));rw[vI,<-vl];have Dl:D≠lf:=λz=>by rw[z,eL3]at hD;cases hD
 have g5:=OW br g04 hlf (.lst (vns (left.erase p)));have e5:upd H4 lf (.lst (vns (left.erase p))) D=some (.lst (vns [p])):=by rw[aL Dl];exact e4
 have eL5:upd H4 lf (.lst (vns (left.erase p))) lf=some (.lst (vns (left.erase p))):=aE;have eB5:upd H4 lf (.lst (vns (left.erase p))) br=some (.lst (vns B1)):=by rw[aL (Ne.symm lb)];exact eB4
 generalize upd H4 lf (.lst (vns (left.erase p)))=H5 at g5 e5 eL5 eB5 ⊢;have hL5:=hL.sl g5 hB d3 d4;obtain⟨xs,r,y1,y2,y3⟩:=nC hL5.2.1 (hks p (lsub p pm));refine(aI _ rfl m _ _ (.ref ta) rfl (bZ rfl (SqT.of hL5.1) rfl _ rfl (aS D _ _ (vn p) rfl rfl (SqL.of e5) (fG rfl ta _ _ _ rfl rfl (fH (SqL.of y1) y2 r _ _ _ rfl ⟨ rfl,SqT.of y3,rfl,?_⟩)))));refine⟨_,rfl,(by show 0<=ZW;decide),λz3 hz3=>?_⟩;have s6:=aG hz3 (.lst []);have g6:=g5.trans (SB.of s6);have eB6:=s6 _ _ eB5;have eL6:=s6 _ _ eL5;have bz6:Bd K (upd H5 z3 (.lst [])) (.ref z3) (.list (([]:List Nat).map λn:Nat=>PyData.int (n:Int))):=.lst (SqL.of aE) (iA []);refine(cE _ _ (.lst (SqL.of eL6) (iA (left.erase p))) bz6 (dF (left.erase p)) (dF []) ⟨ _,rfl,?_⟩);rw[pR];generalize upd H5 z3 (.lst [])=H6 at s6 g6 eB6 eL6 bz6 ⊢;have el:=List.length_erase_of_mem pm;have lp:=List.length_pos_of_mem pm;have nd6:=lnd.erase p;have sub6:∀x∈left.erase p,x∈ks:=λx hx=>lsub x (List.mem_of_mem_erase hx);by_cases ez:left.erase p=[]
 ·refine cR (by simp[ez]) (aI (left.length-1) (by lia) (left.erase p) B1 (pt TT p) _ (by lia) (dI rfl g6 eB6 eL6 nd6 sub6 (by lia) ⟨ by lia,λ_=>?_,λz=>absurd ez z⟩));rw[gi2,ez];rfl
 refine eJ (by simp[ez]) ?_;have hL06:=hL0.sl g6 hB d1 d2;refine⟨_,rfl,(aI _ rfl m0 _ _ _ rfl (bY rfl (SqT.of hL06.1) rfl _ _ rfl rfl ⟨ _,rfl,eV (λz=>iS ?_) (λz=>?_)⟩))⟩
 ·have z:((pt TT p:Nat):Int)<(n0:Int):=of_decide_eq_true z;exact fin (by rw[gi2];exact PL.J7 ez (.inl (by lia))) H6 B1 g6 eB6
 have z:¬((pt TT p:Nat):Int)<(n0:Int):=λy=>z (decide_eq_true y);have fv:(vns B1).all kX=true:=by rw[List.all_eq_true];intro y hy;obtain⟨n,_,rfl⟩:=Zh.mp hy;rfl
 refine(bR _ rfl _ rfl br _ rfl (bZ (.inl (SqL.of eB6)) rfl fv _ rfl ?_));rw[show inV (V.int ((pt TT p:Nat):Int)) (vns B1)=decide (pt TT p∈B1) from EZ _ _];by_cases hin:pt TT p∈B1
 ·refine eJ (by simp[hin]) (fin ?_ H6 B1 g6 eB6);rw[gi2];exact PL.J7 ez (.inr hin)
 refine cR (by simp[hin]) ?_;refine(fQ _ rfl (.inl ⟨rfl,_,SqL.of eB6⟩) _ rfl (bG br _ _ rfl rfl eB6 ?_ ?_))
 ·unfold vns;rw[Zq];exact Ys (show B1.length<=10000 by lia) (by decide)
 refine(aI (left.length-1) (by lia) (left.erase p) (B1++[pt TT p]) (pt TT p) _ (by lia) (dI rfl (g6.trans (SB.upd _ _ _)) ?_ ?_ nd6 sub6 (by lia) ⟨ ?_,λy=>absurd y ez,λ_=>?_⟩))
 ·unfold vns;rw[Zt];exact aE
 ·rw[aL lb];exact eL6
 ·rw[Zm,ZQ];lia
 ·rw[gi2,PL.NU ez (.inr λy=>y.elim (λy=>by lia) hin)];rfl
theorem HP{a b:Nat}{x y:Int}(h:x<=y):(List.replicate a x++List.replicate b y).Pairwise (·<=·):=by
 rw[List.pairwise_append];refine⟨List.pairwise_replicate.mpr (.inr (Int.le_refl _)),List.pairwise_replicate.mpr (.inr (Int.le_refl _)),λu hu v hv=>?_⟩;rw[List.eq_of_mem_replicate hu,List.eq_of_mem_replicate hv];exact h
theorem HX{ns l l':List Int}(p:ns.Perm l)(s:ns.Pairwise (·<=·))(u:l'.Pairwise (·<=·)):ns=l'↔l.Perm l' :=
 ⟨λh=>p.symm.trans (by rw[h]),λh=>AW.qG (p.trans h) s u⟩
theorem NJ{n:Nat}{T:MM.aY}{hs:List Int}:∀d:List Nat,MM.su d (λy=>2-cx T hs (cK T hs n) y)=2*(d.length:Int)-(cs n T hs d).sum
 |[]=>by simp[MM.su,cs]
 |y::d=>by
  have ih:=NJ (n:=n) (T:=T) (hs:=hs) d;rw[MM.yW,ih];unfold cs;simp only[List.map_cons,List.sum_cons,Yq]
  push_cast
  lia
theorem oU(k:Nat)(x:Int):(List.replicate k [V.int x]).flatten=(List.replicate k x).map V.int:=by
 induction k with
 |zero=>rfl
 |succ k ih=>rw[List.replicate_succ,List.flatten_cons,ih,List.replicate_succ,List.map_cons];rfl
def OO:Sp:=λvs H Q _=>∃(m pr:Addr) (n:Nat) (T:MM.aY) (hs pcs:List Int) (ta ha:Addr),vs=[.ref m,.ref pr]/\H pr=some (.lst (pcs.map V.int))/\dE H m n T hs ta ha/\LdP n T hs/\n8 (sL n T hs)/\(∀d∈lnd n T hs,d.length<64)/\pcs.length<=1000 /\
 ∀(b:Bool) (H':Hp),aW H H'->(b=true↔Obl n T hs/\Frm n T hs pcs)->Q (.bl b) H'
theorem MF(T:Txt K mg t):cJ P w K mg base CX0 4 t.sS t.sH ["_law_inner","_law_pieces"] OO:=by
 refine T.rZ.F.ok oQ (λvs H Q E h=>?_) (λcdv A outer s H vs Q E hr h=>?_)
 ·obtain⟨_,_,_,_,_,_,_,_,rfl,_⟩:=h;rfl
 obtain⟨m,pr,n,TT,hs,pcs,ta,ha,rfl,hpr,hL,L,so,l64,pl,q⟩:=h;have nd:=oQ.nd;have nd_l_end:(["_law_end"]:List Str).Nodup:=by decide
 have nd_l_k_l_pieces:(["_law_k","_law_pieces"]:List Str).Nodup:=by decide
 have nd_l_end_l_inner_l_orders_here:(["_law_end","_law_inner","_law_orders_here"]:List Str).Nodup:=by decide
 refine⟨_,(aF (bC 2 nd (bK (uP T) hr T.nW a8 (aA (pv 0) aB)))
  (aF (cQ PassesOwn.never rfl (bJ (bK (xP T) hr T.rE a8 (aA (aJ aT (pv 0) aC (λ_ _=>rfl)) (aA (pv 2) aB)))) (aK (i:=3) nd rfl (Or.inl rfl)) (aF (bC 4 nd (aQ fL rfl T.fC boot_sorted (aA (cG (N':=["_law_end","_law_inner","_law_orders_here"]) (js:=[none,some 0,some 2]) rfl (bJ (pv 3)) (λ_ _ _ _ _=>(aK (i:=0) nd_l_end_l_inner_l_orders_here rfl (Or.inl rfl))) (λ_ _ _ _ _=>b9) (λ_ _ _ _ _=>(bK (uQ T) hr T.nX a8 (aA (pv 1) (aA (pv 2) (aA (pv 0) aB)))))) aB)))
  (aH (b8 (aV gJ (aQ (rG rfl) rfl T.HB boot_sum (aA (pv 4) aB)) (aO bV (aO cX aC (aQ aN rfl T.b7 PySem.boot_len (aA (pv 4) aB))) aC) (a7 _)) (aF (b8 (aV (kJ hr.units) (pv 4) (aO zE (aO uN (bN (aA aC aB)) (aO dB (aQ aN rfl T.b7 PySem.boot_len (aA (pv 4) aB)) aC)) (aO uN (bN (aA aC aB)) aC)) (a7 _)) (aH (aU cO)) bD)
  (aH (b8 (aV (kJ hr.units) (aQ fL rfl T.fC boot_sorted (aA (cG (N':=["_law_end"]) (js:=[none]) rfl (bJ (pv 3)) (λ_ _ _ _ _=>(aK (i:=0) nd_l_end rfl (Or.inl rfl))) (λ_ _ _ _ _=>b9) (λ_ _ _ _ _=>(aO dN (pv 0) aC))) aB)) (cG (N':=["_law_k","_law_pieces"]) (js:=[none,some 1]) rfl (bH rfl T.bW (aA (aQ aN rfl T.b7 PySem.boot_len (aA (pv 1) aB)) aB)) (λ_ _ _ _ _=>(aK (i:=0) nd_l_k_l_pieces rfl (Or.inl rfl))) (λ_ _ _ _ _=>(lL (aV gJ (aJ (dC (K:=K) rfl) (pv 1) (pv 0) (λ_ _=>rfl)) (mV jD aC) (a7 _)))) (λ_ _ _ _ _=>(pv 0))) (a7 _)) (aH (aU cO)) bD))) (aH (b8 (aV (kJ hr.units) (pv 4) (aO zE (aO uN (bN (aA aC aB)) aC) (aO uN (bN (aA aC aB)) (aO dB (aQ aN rfl T.b7 PySem.boot_len (aA (pv 4) aB)) aC))) (a7 _)) (aH (aU cO)) bD))))))
  (aH (aU cO)))),?_⟩
 have b1:=L.t1;refine⟨_,rfl,(bE m n TT hs ta ha rfl ⟨ hL,L,λoA orr H1 g1 n1=>?_⟩)⟩;have hL1:=hL.st g1.st;have os1:=kK n1;refine(aI _ rfl m _ _ (.ref ta) rfl (bZ rfl (SqT.of hL1.1) rfl _ rfl (aS ta oA TT _ rfl hL1.2.1 os1 ⟨ L.g,L.t1,λlr lrr H4 g4 nl=>?_⟩)));have g04:=g1.trans g4;have ll:(lrr.map V.ref).length=(lnd n TT hs).length:=by rw[Zq];exact nl.len
 refine⟨lr,rfl,⟨_,SqL.of nl.at_⟩,fI (K:=K) (a:=lr) (xs:=lrr.map V.ref) (λi σ H'=>(∃v3 v4,σ=[some (.ref m),some (.ref pr),some (.ref oA),v3,v4])/\aW H4 H'/\∀j d,j<i->(lnd n TT hs)[j]?=some d->(cs n TT hs d).Perm (List.replicate (d.length-4) 2++List.replicate 4 (if j=oI n TT hs then 3 else 1))/\(j=oI n TT hs->(hlf d).Perm ((frm pcs).map λj:Nat=>(j:Int)))) ⟨⟨_,_,rfl⟩,aW.refl _,λj d h=>by lia⟩ ?_ ?_ ?_⟩
 ·rintro i σ H' hi ⟨_,g,_⟩;exact SqL.of (g _ _ nl.at_)
 ·rintro i x σ H5 hx ⟨⟨v3,v4,rfl⟩,g5,ih⟩;have hi:i<(lnd n TT hs).length:=by
   have:=(Zj.mp hx).1
   rwa [ll]at this
  obtain⟨la,q1,q2⟩:=nl.row i _ (Zz hi);rw[Zk,q1]at hx;cases hx;generalize hd:(lnd n TT hs)[i]=d at q2;have hdm:(lnd n TT hs)[i]?=some d:=by rw[Zz hi,hd]
  have dl:=l64 d (Zg hdm);have lf:=pF L.g (Zg hdm);have q5:=g5 _ _ q2;have g05:=g04.trans g5;have vl:(vns d).length=d.length:=by unfold vns;rw[Zq]
  have csl:(cs n TT hs d).length=d.length:=by unfold cs;rw[Zq]
  refine(bO _ rfl la rfl ⟨_,SqL.of q5⟩ (λD hD=>?_));refine bS d.length (λj=>.int ((cs n TT hs d).getD j 0)) hD (by lia) (λj H' hj g'=>⟨_,_,SqL.of (g' _ _ q5),Zz (by rw[vl];exact hj)⟩) (λH' g'=>⟨_,SqL.of (g' _ _ q5),by rw[vl];exact Nat.le_refl _⟩) (λj H' x H'' k hj g' hY hk=>?_) ?_
  ·obtain⟨rfl,hY⟩:=hY;have ex:=hY _ (SqL.of (g' _ _ q5));unfold vns at ex;rw[Zk,Zz hj]at ex;cases ex;have ec:(cs n TT hs d).getD j 0=cx TT hs (cK TT hs n) d[j]:=by
    unfold cs;rw[Zv,Zk,Zz hj];rfl
   rw[ec]at hk;exact(tQ ((Fills.refl _).set _ rfl) _ rfl _ rfl _ rfl (cB m oA n TT hs ta ha (D0 (d[j]) rfl (hL.st (g05.trans g').st) L ((g4.trans (g5.trans g')).os os1) (lf.2 _ (Zp hj)) (hk _ (aW.refl _)))))
  intro H6 g6 e6;have e6:H6 D=some (.lst ((cs n TT hs d).map V.int)):=by
   rw[e6,<-csl];congr 2
   conv=>rhs;rw[<-range_getD (cs n TT hs d)]
   rw[Yh];rfl
  refine(aZ D _ rfl (SqL.of e6) (by rw[csl];exact dl) (λcl ns hcl p sr=>?_));have s7:=aG hcl (.lst (ns.map V.int));have e7:upd H6 cl (.lst (ns.map V.int)) cl=some (.lst (ns.map V.int)):=aE;have g57:=g6.trans s7;generalize upd H6 cl (.lst (ns.map V.int))=H7 at s7 e7 g57 ⊢;have g47:=g5.trans g57;have nl':ns.length=d.length:=p.length_eq.trans csl;have nml:(((ns.map V.int).length:Nat):Int)=(d.length:Int):=by rw[Zq,nl']
  have sm:ns.sum=(cs n TT hs d).sum:=tV p;have sLi:(sL n TT hs)[i]?=some (2*(d.length:Int)-(cs n TT hs d).sum):=by
   unfold sL;rw[Zk];show Option.map _ ((lnd n TT hs)[i]?)=_;rw[hdm];exact congrArg some (NJ d)
  have hio:i=oI n TT hs↔ns.sum=2*(d.length:Int)+4:=by
   obtain⟨hi2,e⟩:=Zj.mp sLi;have:=((PL.EK so).2 i hi2).1;rw[e]at this;rw[show oI n TT hs=(sL n TT hs).idxOf (-4) from rfl,this,sm];constructor<;>intro h<;>lia
  have no:∀{H'},aW H4 H'->¬(Obl n TT hs/\Frm n TT hs pcs)->Q (.bl false) H':=λg h=>q false _ (g04.trans g) ⟨λz=>(nomatch z),λz=>absurd z h⟩;refine(bF _ rfl cl _ rfl (SqL.of e7) (bF _ rfl cl _ rfl (.inl (SqL.of e7)) (aZ _ _ rfl rfl (.inl ⟨by decide,by decide⟩) (gH _ _ rfl rfl rfl _ rfl (eV (λz=>?_) (λz=>?_))))))
  ·have z:V.int ns.sum=V.int (2*(((ns.map V.int).length:Nat):Int)+4):=of_decide_eq_true z;have z:=V.int.inj z;rw[nml]at z;have io:=hio.mpr z;refine⟨_,rfl,(by show 1<=ZW;decide),λa1 h1=>?_⟩;have s8:=aG h1 (.lst [V.int 2]);have e8:upd H7 a1 (.lst [V.int 2]) a1=some (.lst [V.int 2]):=aE;generalize upd H7 a1 (.lst [V.int 2])=H8 at s8 e8 ⊢;refine(bF _ rfl cl _ rfl (.inl (SqL.of (s8 _ _ e7))) ⟨ _,(jL _ rfl rfl a1 _ _ rfl (gO rfl e8 ?_ ?_ ?_ (λa2 h2=>?_)))⟩)
   ·show -(2 ^ 63)<=(((ns.map V.int).length:Nat):Int)-4;lia
   ·show(((ns.map V.int).length:Nat):Int)-4<2 ^ 63;lia
   ·show 1*((((ns.map V.int).length:Nat):Int)-4).toNat<=ZW;exact Yr (show _<=64 by lia) (by decide)
   have ek:((((ns.map V.int).length:Nat):Int)-4).toNat=d.length-4:=by lia
   rw[ek,oU];have s9:=aG h2 (.lst ((List.replicate (d.length-4) (2:Int)).map V.int));have e9:upd H8 a2 (.lst ((List.replicate (d.length-4) (2:Int)).map V.int)) a2=some (.lst ((List.replicate (d.length-4) (2:Int)).map V.int)):=aE;generalize upd H8 a2 (.lst ((List.replicate (d.length-4) (2:Int)).map V.int))=H9 at s9 e9 ⊢;refine⟨(by show 1<=ZW;decide),λa3 h3=>?_⟩;have s10:=aG h3 (.lst [V.int 3]);have e10:upd H9 a3 (.lst [V.int 3]) a3=some (.lst [V.int 3]):=aE;generalize upd H9 a3 (.lst [V.int 3])=H10 at s10 e10 ⊢;refine(bG a3 4 _ rfl rfl e10 (by decide) ⟨ by decide,by decide,λa4 h4=>?_⟩);rw[show(4:Int).toNat=4 from rfl,oU];have s11:=aG h4 (.lst ((List.replicate 4 (3:Int)).map V.int));have e11:upd H10 a4 (.lst ((List.replicate 4 (3:Int)).map V.int)) a4=some (.lst ((List.replicate 4 (3:Int)).map V.int)):=aE;generalize upd H10 a4 (.lst ((List.replicate 4 (3:Int)).map V.int))=H11 at s11 e11 ⊢;refine(aS a2 a4 _ _ rfl rfl (s11 _ _ (s10 _ _ e9)) ⟨ e11,?_,λa5 h5=>?_⟩)
   ·rw[Zq,Zq,List.length_replicate,List.length_replicate];exact Yr (show _<=100 by lia) (by decide)
   rw[<-Zt];have s12:=aG h5 (.lst ((List.replicate (d.length-4) (2:Int)++List.replicate 4 3).map V.int));have e12:upd H11 a5 (.lst ((List.replicate (d.length-4) (2:Int)++List.replicate 4 3).map V.int)) a5=some (.lst ((List.replicate (d.length-4) (2:Int)++List.replicate 4 3).map V.int)):=aE;generalize upd H11 a5 (.lst ((List.replicate (d.length-4) (2:Int)++List.replicate 4 3).map V.int))=H12 at s12 e12 ⊢;have g712:=s8.trans (s9.trans (s10.trans (s11.trans s12)));have g412:=g47.trans g712;refine(cE _ _ (gY (g712 _ _ e7)) (gY e12) (shaped_ints _) (shaped_ints _) ⟨ _,rfl,?_⟩);rw[eZ];have si:=HX p sr (HP (a:=d.length-4) (b:=4) (x:=2) (y:=3) (by decide));by_cases hob:ns=List.replicate (d.length-4) 2++List.replicate 4 3
   case neg =>
    refine eJ (by rw[decide_eq_false hob];rfl) (no g412 λy=>hob (si.mpr ?_));have:=y.1 i d hdm
    rwa [if_pos io]at this
   refine cR (by rw[decide_eq_true hob];rfl) ?_;have hp:=si.mp hob;have q12:=g412 _ _ q2;refine(bO _ rfl la rfl ⟨_,SqL.of q12⟩ (λD2 hD2=>?_));refine bS d.length (λj=>.int ((hlf d).getD j 0)) hD2 (by lia) (λj H' hj g'=>⟨_,_,SqL.of (g' _ _ q12),Zz (by rw[vl];exact hj)⟩) (λH' g'=>⟨_,SqL.of (g' _ _ q12),by rw[vl];exact Nat.le_refl _⟩) (λj H' x H'' k hj g' hY hk=>?_) ?_
   ·obtain⟨rfl,hY⟩:=hY;have ex:=hY _ (SqL.of (g' _ _ q12));unfold vns at ex;rw[Zk,Zz hj]at ex;cases ex;have e:(hlf d).getD j 0=((d[j]:Nat):Int) / 2:=by
     unfold hlf;rw[Zv,Zk,Zz hj];show((d[j] / 2:Nat):Int)=_
     lia
    refine(iC ((Fills.refl _).set _ rfl) _ rfl _ _ rfl rfl ⟨ ⟨by decide,by decide⟩,?_⟩);rw[e]at hk;exact hk _ (aW.refl _)
   intro H13 g13 e13;have hll:(hlf d).length=d.length:=by unfold hlf;rw[Zq]
   have e13:H13 D2=some (.lst ((hlf d).map V.int)):=by
    rw[e13,<-hll];congr 2
    conv=>rhs;rw[<-range_getD (hlf d)]
    rw[Yh];rfl
   refine(aZ D2 _ rfl (SqL.of e13) (by rw[hll];exact dl) (λa6 ms ha6 pm sm2=>?_));have s14:=aG ha6 (.lst (ms.map V.int));have e14:upd H13 a6 (.lst (ms.map V.int)) a6=some (.lst (ms.map V.int)):=aE;generalize upd H13 a6 (.lst (ms.map V.int))=H14 at s14 e14 ⊢;have g414:=g412.trans (g13.trans s14);have p14:=(g04.trans g414) _ _ hpr;have pml:(((pcs.map V.int).length:Nat):Int)=(pcs.length:Int):=by rw[Zq]
   refine(bF _ rfl pr _ rfl (.inl (SqL.of p14)) ⟨ _,rfl,?_,?_,λD3 hD3=>?_⟩)
   ·show -(2 ^ 62)<=(((pcs.map V.int).length:Nat):Int);lia
   ·show(((pcs.map V.int).length:Nat):Int)<2 ^ 62;lia
   refine fY pcs.length (λj=>vn j) (λj=>decide (at0 pcs j = -2)) hD3 (by lia) (λj H' hj g'=>?_) (λH' g'=>?_) (λj H' x H'' kt kf hj g' hY ht hf=>?_) ?_
   ·show j<((((pcs.map V.int).length:Nat):Int)-0).toNat;lia
   ·show((((pcs.map V.int).length:Nat):Int)-0).toNat<=pcs.length;lia
   ·obtain⟨rfl,rfl⟩:=hY;refine(gN ((Fills.refl _).set _ rfl) _ rfl _ rfl (aS pr _ _ _ rfl rfl (SqL.of (g' _ _ p14)) (D8 (cV (j:=j) hj (by lia)) _ rfl rfl _ rfl (eV (λz=>?_) (λz=>?_)))))
    ·have:=ht (by simpa using z) _ (aW.refl _);refine⟨_,rfl,?_⟩;show kt (V.int (0+(j:Int))) _;rw[Int.zero_add];exact this
    ·exact hf (by simpa using z) _ (aW.refl _)
   intro H15 g15 e15;have e15:H15 D3=some (.lst (((frm pcs).map λj:Nat=>(j:Int)).map V.int)):=by rw[e15,Yh];rfl
   refine(cE _ _ (gY (g15 _ _ e14)) (gY e15) (shaped_ints _) (shaped_ints _) ⟨ _,rfl,?_⟩);rw[eZ];have g415:=g414.trans g15;have fi:=E5 (pcs:=pcs) pm sm2;by_cases hfr:ms=(frm pcs).map λj:Nat=>(j:Int)
   case neg =>
    refine eJ (by rw[decide_eq_false hfr];rfl) (no g415 λy=>hfr (fi.mpr (y.2 d ?_)));rw[<-io];exact hdm
   refine cR (by rw[decide_eq_true hfr];rfl) ⟨⟨_,_,rfl⟩,g415,λj d' hj hd'=>?_⟩;rcases Xq j i with y | y
   ·exact ih j d' y hd'
   ·have:j=i:=by lia
    subst this;rw[hdm]at hd';cases hd';rw[if_pos io];exact⟨hp,λ_=>fi.mp hfr⟩
  ·have z:¬ns.sum=2*(d.length:Int)+4:=λy=>z (decide_eq_true (by rw[y,nml]));have io:¬i=oI n TT hs:=λy=>z (hio.mp y);refine⟨_,rfl,(by show 1<=ZW;decide),λa1 h1=>?_⟩;have s8:=aG h1 (.lst [V.int 1]);have e8:upd H7 a1 (.lst [V.int 1]) a1=some (.lst [V.int 1]):=aE;generalize upd H7 a1 (.lst [V.int 1])=H8 at s8 e8 ⊢;refine(bG a1 4 _ rfl rfl e8 (by decide) ⟨ by decide,by decide,λa2 h2=>?_⟩);rw[show(4:Int).toNat=4 from rfl,oU];have s9:=aG h2 (.lst ((List.replicate 4 (1:Int)).map V.int));have e9:upd H8 a2 (.lst ((List.replicate 4 (1:Int)).map V.int)) a2=some (.lst ((List.replicate 4 (1:Int)).map V.int)):=aE;generalize upd H8 a2 (.lst ((List.replicate 4 (1:Int)).map V.int))=H9 at s9 e9 ⊢;refine⟨(by show 1<=ZW;decide),λa3 h3=>?_⟩;have s10:=aG h3 (.lst [V.int 2]);have e10:upd H9 a3 (.lst [V.int 2]) a3=some (.lst [V.int 2]):=aE;generalize upd H9 a3 (.lst [V.int 2])=H10 at s10 e10 ⊢;have e710:=(s8.trans (s9.trans s10)) _ _ e7;refine(bF _ rfl cl _ rfl (.inl (SqL.of e710)) ⟨ _,(jL _ rfl rfl a3 _ _ rfl (gO rfl e10 ?_ ?_ ?_ (λa4 h4=>?_)))⟩)
   ·show -(2 ^ 63)<=(((ns.map V.int).length:Nat):Int)-4;lia
   ·show(((ns.map V.int).length:Nat):Int)-4<2 ^ 63;lia
   ·show 1*((((ns.map V.int).length:Nat):Int)-4).toNat<=ZW;exact Yr (show _<=64 by lia) (by decide)
   have ek:((((ns.map V.int).length:Nat):Int)-4).toNat=d.length-4:=by lia
   rw[ek,oU];have s11:=aG h4 (.lst ((List.replicate (d.length-4) (2:Int)).map V.int));have e11:upd H10 a4 (.lst ((List.replicate (d.length-4) (2:Int)).map V.int)) a4=some (.lst ((List.replicate (d.length-4) (2:Int)).map V.int)):=aE;generalize upd H10 a4 (.lst ((List.replicate (d.length-4) (2:Int)).map V.int))=H11 at s11 e11 ⊢;refine(aS a2 a4 _ _ rfl rfl (s11 _ _ (s10 _ _ e9)) ⟨ e11,?_,λa5 h5=>?_⟩)
   ·rw[Zq,Zq,List.length_replicate,List.length_replicate];exact Yr (show _<=100 by lia) (by decide)
   rw[<-Zt];have s12:=aG h5 (.lst ((List.replicate 4 (1:Int)++List.replicate (d.length-4) 2).map V.int));have e12:upd H11 a5 (.lst ((List.replicate 4 (1:Int)++List.replicate (d.length-4) 2).map V.int)) a5=some (.lst ((List.replicate 4 (1:Int)++List.replicate (d.length-4) 2).map V.int)):=aE;generalize upd H11 a5 (.lst ((List.replicate 4 (1:Int)++List.replicate (d.length-4) 2).map V.int))=H12 at s12 e12 ⊢;have g712:=s8.trans (s9.trans (s10.trans (s11.trans s12)));have g412:=g47.trans g712;refine(cE _ _ (gY (g712 _ _ e7)) (gY e12) (shaped_ints _) (shaped_ints _) ⟨ _,rfl,?_⟩);rw[eZ];have si:=HX p sr (HP (a:=4) (b:=d.length-4) (x:=1) (y:=2) (by decide));by_cases hob:ns=List.replicate 4 1++List.replicate (d.length-4) 2
   case neg =>
    refine eJ (by rw[decide_eq_false hob];rfl) (no g412 λy=>hob (si.mpr ?_));have:=y.1 i d hdm;rw[if_neg io]at this;exact this.trans List.perm_append_comm
   refine cR (by rw[decide_eq_true hob];rfl) ⟨⟨_,_,rfl⟩,g412,λj d' hj hd'=>?_⟩;rcases Xq j i with y | y
   ·exact ih j d' y hd'
   ·have:j=i:=by lia
    subst this;rw[hdm]at hd';cases hd';rw[if_neg io];exact⟨(si.mp hob).trans List.perm_append_comm,λy=>absurd y io⟩
 ·rintro σ H5 ⟨⟨v3,v4,rfl⟩,g5,ih⟩;refine q true H5 (g04.trans g5) ⟨λ_=>⟨λi d h=>(ih i d ?_ h).1,λd h=>(ih _ d ?_ h).2 rfl⟩,λ_=>rfl⟩
  ·rw[ll];exact(Zj.mp h).1
  ·rw[ll];exact(Zj.mp h).1
def xB:Sp:=λvs H Q _=>∃(m:Addr) (n:Nat) (T:MM.aY) (hs:List Int) (ta ha:Addr),vs=[.ref m]/\dE H m n T hs ta ha/\LdR n T hs/\T.length<=50 /\
 ∀(b:Bool) (H':Hp),aW H H'->(b=true↔l6 n T hs)->Q (.bl b) H'
def ON:Sp:=λvs H Q _=>∃(m0 pa m pr ta0 ha0 ta ha:Addr) (n0:Nat) (T0 T:MM.aY) (hs0 hs pcs:List Int),vs=[.ref m0,.ref pa]/\H pa=some (.tup [.ref m,.ref pr])/\H pr=some (.lst (pcs.map V.int)) /\
 dE H m0 n0 T0 hs0 ta0 ha0/\dE H m 25 T hs ta ha/\Hand n0 T0 hs0 T hs pcs/\(∀k,k<T0.length->ps T0 k≠pt T0 k) /\
 ∀(b:Bool) (H':Hp),aW H H'->(b=true↔Par n0 T0 hs0 25 T hs pcs)->Q (.bl b) H'
theorem ME(T:Txt K mg t)(CA:cJ P w K mg base CX0 4 t.lZ t.lX ["_law_laid"] xB):cJ P w K mg base CX0 5 t.lY t.lW ["_law_laid","_law_parting"] ON:=by
 refine T.lV.F.ok kW (λvs H Q E h=>?_) (λcdv A outer s H vs Q E hr h=>?_)
 ·obtain⟨_,_,_,_,_,_,_,_,_,_,_,_,_,_,rfl,_⟩:=h;rfl
 obtain⟨m0,pa,m,pr,ta0,ha0,ta,ha,n0,T0,TT,hs0,hs,pcs,rfl,hpa,hpr,hL0,hL,X,hne,q⟩:=h;have nd:=kW.nd;have nd_l_k_l_tie_l_pieces:(["_law_k","_law_tie","_law_pieces"]:List Str).Nodup:=by decide
 refine⟨_,(aF (qR (pv 1) (fU rfl (bB (aK (i:=2) nd rfl (Or.inl rfl)) (bB (aK (i:=3) nd rfl (Or.inr rfl)) cZ))))
  (aF (b8 (PW.pt (gT (eM (cP (bK CA hr T.r8 a8 (aA (pv 2) aB)) (λ_=>rfl))) (gT (aV lO (aQ aN rfl T.b7 PySem.boot_len (aA (pv 3) aB)) (aQ aN rfl T.b7 PySem.boot_len (aA (aJ aT (pv 2) aC (λ_ _=>rfl)) aB)) (a7 _)) (gP (aV iF (aJ aT (pv 2) aC (λ_ _=>rfl)) (aJ aT (pv 0) aC (λ_ _=>rfl)) (a7 _)))))) (aH (aU cO)) bD)
  (aF (b8 (PW.pt (gT (aV iF (aQ (rH rfl) rfl T.DZ boot_min (aA (pv 3) aB)) (mV jD aC) (a7 _)) (gP (aV AZ (aQ (yE rfl) rfl T.HC boot_max (aA (pv 3) aB)) (aQ aN rfl T.b7 PySem.boot_len (aA (aJ aT (pv 0) aC (λ_ _=>rfl)) aB)) (a7 _))))) (aH (aU cO)) bD)
  (aF (bC 4 nd (bN aB))
  (aF (cQ PassesOwn.never rfl (bH rfl T.bW (aA (aQ aN rfl T.b7 PySem.boot_len (aA (aJ aT (pv 0) aC (λ_ _=>rfl)) aB)) aB)) (aK (i:=5) nd rfl (Or.inr rfl)) (aH (b8 (eM (cP (bK (JG T) hr T.BN a8 (aA (pv 0) (aA (pv 2) (aA (cG (N':=["_law_k","_law_tie","_law_pieces"]) (js:=[none,some 5,some 3]) rfl (bH rfl T.bW (aA (aQ aN rfl T.b7 PySem.boot_len (aA (pv 3) aB)) aB)) (λ_ _ _ _ _=>(aK (i:=0) nd_l_k_l_tie_l_pieces rfl (Or.inl rfl))) (λ_ _ _ _ _=>(lL (aV gJ (aJ (dC (K:=K) rfl) (pv 2) (pv 0) (λ_ _=>rfl)) (pv 1) (a7 _)))) (λ_ _ _ _ _=>(pv 0))) (aA (pv 5) (aA (pv 4) aB)))))) (λ_=>rfl))) (aH (aU cO)) bD)))
  (aH (aU (bK (MF T) hr T.rZ a8 (aA (pv 2) (aA (pv 3) aB)))))))))),?_⟩
 have hT:=X.hT;have hp:=X.pl;have hn:=X.n0;have hl:=X.lr.hl;have b0:=X.l0.t1;have tl:=X.l0.hl;refine(bM _ rfl pa _ rfl (SqT.of hpa) rfl (cU _ _ rfl _ _ rfl rfl ?_));refine⟨_,rfl,(bE m 25 TT hs ta ha rfl ⟨ hL,X.lr,by lia,λb H1 g1 hb=>⟨_,rfl,?_⟩⟩)⟩;cases b with
 |false=>exact iS (iS (q false H1 g1 ⟨λy=>(nomatch y),λy=>Bool.noConfusion (hb.mpr y.la)⟩))
 |true =>
  have I:=hb.mp rfl;have LP:=X.lr.p I.ds I.wh;have hL1:=hL.st g1.st;have hL01:=hL0.st g1.st;obtain⟨tr,z1,z2,z3⟩:=id hL1.2.1;obtain⟨tr0,y1,y2,y3⟩:=id hL01.2.1;have h2:=g1 _ _ hpr;refine mP (bF _ rfl pr _ rfl (.inl (SqL.of h2)) (aI _ rfl m _ _ (.ref ta) rfl (bY rfl (SqT.of hL1.1) rfl ta _ rfl (.inl (SqL.of z1)) ⟨ rfl,_,rfl,cR (by rw[Zq,Zq,z2,hT,hp];rfl) ?_⟩)));refine(aI _ rfl m _ _ _ rfl (bZ rfl (SqT.of hL1.1) rfl _ rfl (aS m0 _ _ _ rfl rfl (SqT.of hL01.1) (jN rfl _ _ rfl rfl _ rfl (cR (decide_eq_false (by show ¬((25:Nat):Int)<(n0:Int);lia)) ?_)))));have hS:SqL K H1 pr (pcs.map V.int):=SqL.of h2;refine(bM _ rfl pr pcs rfl hS (by lia) (λmn hmn hmin=>(bF _ rfl _ _ rfl rfl ⟨ _,rfl,eV (λc=>iS ?_) (λc=>?_)⟩)))
  ·have c:mn < -2:=of_decide_eq_true c;refine q false H1 g1 ⟨λz=>(nomatch z),λz=>?_⟩;have:=(z.le.bd mn hmn).1
   lia
  have c:¬mn < -2:=λz=>c (decide_eq_true z);refine(bM _ rfl pr pcs rfl hS (by lia) (λmx hmx hmax=>(aI _ rfl m0 _ _ (.ref ta0) rfl (bY rfl (SqT.of hL01.1) rfl ta0 _ rfl (.inl (SqL.of y1)) (j8 _ _ rfl rfl _ rfl (eV (λc2=>?_) (λc2=>?_)))))))
  ·have c2:(((tr0.map V.ref).length:Nat):Int)<=mx:=of_decide_eq_true c2;rw[Zq,y2]at c2;refine q false H1 g1 ⟨λz=>(nomatch z),λz=>?_⟩;have:=(z.le.bd mx hmx).2
   lia
  have c2:¬(((tr0.map V.ref).length:Nat):Int)<=mx:=λz=>c2 (decide_eq_true z);have bd:∀x∈pcs,-2<=x/\x<(T0.length:Int):=λx hx=>by
   have h1:=hmin x hx;have h2:=hmax x hx;rw[Zq,y2]at c2;constructor<;>lia
  have trl:(tr0.map V.ref).length=T0.length:=by rw[Zq,y2]
  refine⟨(by show 0<=ZW;decide),λbr hbr=>?_⟩;have s2:=aG hbr (.lst []);have e2:upd H1 br (.lst []) br=some (.lst (vns [])):=aE;have g2:=g1.trans s2;have br0:H br=none:=g1.free hbr;generalize upd H1 br (.lst [])=H2 at s2 e2 g2 ⊢;have hL02:=hL0.st g2.st;have eN:(((tr0.map V.ref).length:Nat):Int).toNat=T0.length:=by rw[trl];exact Int.toNat_natCast _
  refine(aI _ rfl m0 _ _ (.ref ta0) rfl (bY rfl (SqT.of hL02.1) rfl ta0 _ rfl (.inl (SqL.of (s2 _ _ y1))) ⟨ _,rfl,?_,?_,?_⟩))
  ·show -(2 ^ 62)<=(((tr0.map V.ref).length:Nat):Int);lia
  ·show(((tr0.map V.ref).length:Nat):Int)<2 ^ 62;lia
  rw[eN];have ne0:br≠ta0:=λz=>by rw[z]at hbr;rw[y1]at hbr;cases hbr
  have ne1:br≠ha0:=λz=>by rw[z,hL01.2.2]at hbr;cases hbr
  have ne2:br≠ta:=λz=>by rw[z,z1]at hbr;cases hbr
  have ne3:br≠ha:=λz=>by rw[z,hL1.2.2]at hbr;cases hbr
  have ne4:br≠pr:=λz=>by rw[z,h2]at hbr;cases hbr
  have hL2:=hL.st g2.st;have pml:(((pcs.map V.int).length:Nat):Int)=(pcs.length:Int):=by rw[Zq]
  have kp:∀{H'},SB br H2 H'->aW H H':=λg x o h=>g x o (aP h br0) (g2 _ _ h);refine dJ (n:=T0.length) (λk σ H'=>∃(o5:Option V) (B:List Nat),σ=[some (.ref m0),some (.ref pa),some (.ref m),some (.ref pr),some (.ref br),o5]/\SB br H2 H'/\H' br=some (.lst (vns B))/\B.length<=60*k/\lead n0 T0 hs0 TT hs pcs k=some B)
   (cE none ([]) rfl (λx o _ h=>h) e2 (Nat.le_refl _) rfl) ?_ ?_
  ·rintro k σ H4 hk ⟨o5,B,rfl,g4,e4,lB,ld⟩;have p4:=g4 _ _ (Ne.symm ne4) (s2 _ _ h2);have kl:(sY pcs k).length<=pcs.length:=DG pcs pcs.length k;refine(fZ _ rfl _ rfl _ rfl (zZ pr _ rfl (.inl (SqL.of p4)) _ rfl ?_ ⟨ ?_,λD hD=>?_⟩))
   ·show -(2 ^ 62)<=(((pcs.map V.int).length:Nat):Int);lia
   ·show(((pcs.map V.int).length:Nat):Int)<2 ^ 62;lia
   refine fY pcs.length (λj=>vn j) (λj=>decide (at0 pcs j=(k:Int))) hD (by lia) (λj H' hj g'=>?_) (λH' g'=>?_) (λj H' x H'' kt kf hj g' hY ht hf=>?_) ?_
   ·show j<((((pcs.map V.int).length:Nat):Int)-0).toNat;lia
   ·show((((pcs.map V.int).length:Nat):Int)-0).toNat<=pcs.length;lia
   ·obtain⟨rfl,rfl⟩:=hY;refine(gN ((Fills.refl _).set _ rfl) _ rfl _ rfl (aS pr _ _ _ rfl rfl (SqL.of (g' _ _ p4)) (D8 (cV (j:=j) hj (by lia)) _ rfl rfl _ rfl (eV (λz=>?_) (λz=>?_)))))
    ·have z:at0 pcs j=(k:Int):=by simpa using z
     have:=ht (decide_eq_true z) _ (aW.refl _);refine⟨_,rfl,?_⟩;show kt (V.int (0+(j:Int))) _;rw[Int.zero_add];exact this
    ·have z:¬at0 pcs j=(k:Int):=by simpa using z
     exact hf (decide_eq_false z) _ (aW.refl _)
   intro H5 g5 e5;have e5:H5 D=some (.lst (vns (sY pcs k))):=e5;have g25:=g4.trans (SB.of g5);have brD:br≠D:=λz=>by rw[z]at e4;rw[e4]at hD;cases hD
   have gs:=kp g25;refine⟨_,rfl,_,rfl,(cB m0 m D br ta0 ha0 ta (cB ha n0 25 T0 TT hs0 hs (bG k (sY pcs k) B ?_ (hL0.st gs.st) (hL.st gs.st) e5 (dI (g5 _ _ e4) ne0 ne1 ne2 ne3 brD hk (dI tl hl (λp hp=>?_) (NQ _ _ _) (hne k hk) (by lia) (by lia) (λb B' H6 g6 e6 ht hf=>⟨_,rfl,?_⟩))))))⟩
   ·show[V.ref m0,V.ref m,V.ref D,V.int (0+(k:Int)),V.ref br]=_;rw[Int.zero_add]
   ·have:=NR hp;lia
   have g26:=g25.trans g6;cases b with
   |false =>
    refine iS (q false H6 (kp g26) ⟨λz=>(nomatch z),λz=>?_⟩);have e:=qZ (BC ld (hf rfl)) (T0.length-(k+1));rw[show k+1+(T0.length-(k+1))=T0.length by lia]at e;have:=z.le.ld;rw[e]at this;cases this
   |true =>
    obtain⟨h1,h2⟩:=ht rfl;exact mP (cE _ B' rfl g26 e6 (by lia) (xR ld h1))
  ·rintro σ H4 ⟨o5,B,rfl,g4,e4,lB,ld⟩;have gs:=kp g4;have le:QP n0 T0 hs0 TT hs pcs:=⟨bd,by rw[ld];rfl⟩
   refine⟨_,rfl,_,rfl,(cB m pr 25 TT hs pcs ta (AB ha rfl (gs _ _ hpr) (hL.st gs.st) LP I.su (l64 LP.g hT I) ⟨ by lia,λb H5 g5 hb5=>q b H5 (gs.trans g5) ⟨λy=>⟨I,le,(hb5.mp y).1,(hb5.mp y).2⟩,λy=>hb5.mpr ⟨y.ob,y.fr⟩⟩⟩))⟩
end K49
namespace L2
open PySem PySem.Spec PyProof.Rows
theorem TsI.more{H:Hp}{a l:Addr}{ts:AW.Ts}{tr:List Addr}(h1:tr.length=ts.length)(h2:∀(i:Nat) t,ts[i]?=some t->∃r,tr[i]?=some r/\H r=some (.tup [.int t.1,.int t.2]))
  {r:Addr}{x y:Int}(hl:H l=some (.lst (tr.map V.ref++[.ref r]))) (hr:H r=some (.tup [.int x,.int y])):TsI H l (ts++[(x,y)]):=by
 refine⟨tr++[r],by rw[hl,Zt];rfl,by simp[h1],λi t e=>?_⟩;by_cases q:i<ts.length
 ·rw[Zx q]at e;obtain⟨b,q1,q2⟩:=h2 i t e;exact⟨b,by rw[Zx (by lia)];exact q1,q2⟩
 ·have hi:i=ts.length:=by
   have z:=(Zj.mp e).1;simp at z;lia
  subst hi;rw[Yx]at e;cases e;exact⟨r,by rw[<-h1,Yx],hr⟩
theorem pX{J:It}{js:List (Option Nat)}{σ:St}{H1:Hp}{R:Hp->Prop}{D:Addr}{g:TG}{te:TE}(n:Nat)(fs:Nat->Int×Int)(hD:H1 D=none)(hn:n<=100000)
  (go:∀i H',i<n->aW H1 H'->J.go i H') (stop:∀H',aW H1 H'->J.stop n H')
  (hs:∀i H' x H'' (k:V->Hp->Prop),i<n->aW H1 H'->J.yld i H' x H''->(∀a H4,aW H' H4->H4 a=some (.tup [.int (fs i).1,.int (fs i).2])->k (.ref a) H4)->g x (inner js σ) H'' λσ2 H2=>Fills (inner js σ) σ2/\te σ2 H2 k)
  (hd:∀H',TsI H' D ((List.range n).map fs)->aW H1 H'->R H') :
  ∃W:Nat->Nat->List V->Hp->Prop,(∃m,W 0 m [] (upd H1 D (.lst []))) /\
   ∀i m ys H,W i m ys H->(J.stop i H/\R H)\/(J.go i H/\∃N:List V->Hp->Prop,(∀ys' H',N ys' H'->∃m',m' < m/\W (i+1) m' ys' H')/\∀x H',J.yld i H x H'->g x (inner js σ) H' λσ2 H2=>Fills (inner js σ) σ2/\rO σ2 H2 λb H3 =>
    if b=true then te σ2 H3 λy H4=>H4 D=some (.lst ys)/\ys.length<ZW/\N (ys++[y]) (upd H4 D (.lst (ys++[y]))) else N ys H3):=by
 refine comp_map n (λi ys H'=>H' D=some (.lst ys)/\TsI H' D ((List.range i).map fs)/\aW H1 H') ⟨aE,⟨[],aE,rfl,λi t h=>by simp at h⟩,aG hD _⟩ ?_ ?_
 ·rintro i ys H' hi ⟨hy,⟨tr,t1,t2,t3⟩,g1⟩;rw[hy]at t1;cases t1;have hl:tr.length=i:=by rw[t2];simp
  refine⟨go i H' hi g1,λx H'' hyl=>hs i H' x H'' _ hi g1 hyl λa H4 g4 e4=>⟨g4 _ _ hy,?_,aE,?_,(g1.trans g4).fresh hD _⟩⟩
  ·rw[Zq,hl];exact Yt hi (Yr hn (by decide))
  ·have ne:∀{b:Addr}{l:List V},H4 b=some (.tup l)->b≠D:=λhb z=>by rw[z,g4 _ _ hy]at hb;cases hb
   rw[List.range_succ,Zt];exact TsI.more (a:=D) t2 (λj t e=>let⟨r,r1,r2⟩:=t3 j t e;⟨r,r1,by rw[aL (ne (g4 _ _ r2))];exact g4 _ _ r2⟩) aE (by rw[aL (ne e4)];exact e4)
 ·rintro ys H' ⟨_,ht,g1⟩;exact⟨stop H' g1,hd H' ht g1⟩
theorem DF{X:Cx}{K:PySem.W.Frag}(h:X.K=K)(hc:X.calm=true):dG X (.builtin "sum") (λxs H Q=>∃(p:Addr) (ns:List Int),xs=[.ref p]/\SqL K H p (ns.map V.int)/\Q (.int ns.sum) H):=by subst h;exact rG hc
theorem nS{α:Type}[DecidableEq α]:∀(l m:List α),l.Nodup->(∀x∈l,x∈m)->l.length<=m.length/\(l.length=m.length->l.Perm m)
 |[],m,_,_=>⟨Nat.zero_le _,λh=>by rw[Yg.mp h.symm]⟩
 |a::l,m,nd,h=>by
  rw[List.nodup_cons]at nd;have ha:=h a Zd;have hl:∀x∈l,x∈m.erase a:=λx hx=>by
   have:x≠a:=λz=>nd.1 (z▸hx);exact(List.mem_erase_of_ne this).mpr (h x (Zw _ hx))
  obtain⟨h1,h2⟩:=nS l (m.erase a) nd.2 hl;have h3:=List.length_erase_of_mem ha;have h4:=List.length_pos_of_mem ha;refine⟨by rw[Yq];lia,λe=>((h2 (by rw[Yq]at e;lia)).cons a).trans (List.perm_cons_erase ha).symm⟩
theorem M6{vs ys:ST.Xs}(A:ST.Acc vs vs.length ys)(nd:(ys.map (·.1)).Nodup):ys.length<=vs.length/\(ys.length=vs.length↔(vs.map (·.1)).Nodup):=by
 have s1:∀x∈ys.map (·.1),x∈vs.map (·.1):=λx hx=>by
  obtain⟨y,hy,rfl⟩:=Zh.mp hx;exact Ym (A.sub y hy)
 have s2:∀x∈vs.map (·.1),x∈ys.map (·.1):=λx hx=>by
  obtain⟨y,hy,rfl⟩:=Zh.mp hx;obtain⟨z,hz,e⟩:=A.al y (by rw[Yv];exact hy);rw[<-e];exact Ym hz
 obtain⟨h1,h2⟩:=nS _ _ nd s1;rw[Zq,Zq]at h1 h2;refine⟨h1,λe=>(h2 e).nodup_iff.mp nd,λh=>?_⟩;have:=(nS _ _ h s2).1;rw[Zq,Zq]at this
 lia
theorem N9{K:PySem.W.Frag}{H:Hp}{D:Addr}{n:Nat}{fs:Nat->Int×Int}(h:TsI H D ((List.range n).map fs)):∃vs:ST.Xs,H D=some (.lst (vs.map λx=>V.ref x.2))/\vs.length=n/\(∀x∈vs,SqT K H x.2 (x.1.map V.int))/\vs.map (·.1)=(List.range n).map λi=>[(fs i).1,(fs i).2]:=by
 obtain⟨tr,h1,h2,h3⟩:=h;have tl:tr.length=n:=by rw[h2];simp
 refine⟨(List.range n).map λi=>([(fs i).1,(fs i).2],tr.getD i 0),?_,by simp,λx hx=>?_,by rw[Yh];rfl⟩
 ·rw[h1,Yh];congr 2;refine Yp λi=>?_;rw[Zk,Zk];by_cases c:i<n
  ·rw[Yk c,Zz (by lia)];simp[List.getD,tl,c]
  ·rw[Zr (by lia),Zr (by simpa using c)];rfl
 ·obtain⟨i,hi,rfl⟩:=Zh.mp hx;have hi:=Zs.mp hi;obtain⟨r,q1,q2⟩:=h3 i (fs i) (by rw[Zk,Yk hi];rfl);have e:tr.getD i 0=r:=by rw[Zv,q1];rfl
  show SqT K H (tr.getD i 0) [.int (fs i).1,.int (fs i).2];rw[e];exact SqT.of q2
end L2
namespace K49
open PySem L2 PyProof.Rows
theorem BS{T:MM.aY}{hs:List Int}:((List.range (2*T.length)).map λi=>[((MM.place T i:Nat):Int),hx hs i]).Nodup↔Dst T hs:=by
 constructor
 ·intro h a b ha hb e1 e2;have hi':a<((List.range (2*T.length)).map λi=>[((MM.place T i:Nat):Int),hx hs i]).length:=by simpa using ha
  have hj':b<((List.range (2*T.length)).map λi=>[((MM.place T i:Nat):Int),hx hs i]).length:=by simpa using hb
  exact(List.getElem_inj (h₀:=hi') (h₁:=hj') h).mp (by simp[e1,e2])
 ·intro D;rw[List.Nodup,List.pairwise_map];refine List.Pairwise.imp_of_mem (λ{a b} ha hb n e=>n ?_) List.nodup_range;injection e with e1 e2;injection e2 with e2 _;exact D a b (Zs.mp ha) (Zs.mp hb) (by lia) e2
theorem M1{T:MM.aY}(h:0<T.length):PyData.eqv (.list (dT T)) (.list [])=false:=by
 cases T with
 |nil=>simp at h
 |cons a b=>rfl
theorem C4(T:Txt K mg t):cJ P w K mg base CX0 4 t.lZ t.lX ["_law_laid"] xB:=by
 refine T.r8.F.ok oR (λvs H Q E h=>?_) (λcdv A outer s H vs Q E hr h=>?_)
 ·obtain⟨_,_,_,_,_,_,rfl,_⟩:=h;rfl
 obtain⟨m,n,TT,hs,ta,ha,rfl,hL,L,t50,q⟩:=h;have nd:=oR.nd;have nd_l_land_l_laid_l_orders_here:(["_law_land","_law_laid","_law_orders_here"]:List Str).Nodup:=by decide
 have nd_l_end_l_laid_l_orders_here:(["_law_end","_law_laid","_law_orders_here"]:List Str).Nodup:=by decide
 have nd_l_end_l_ties_l_heads:(["_law_end","_law_ties","_law_heads"]:List Str).Nodup:=by decide
 have hu8:_+8<cLine:=Ys (Nat.add_le_add_left (by decide:8<=64) _) hr.units;refine⟨_,(aF (qR (pv 0) (fU rfl (bB (aK (i:=1) nd rfl (Or.inl rfl)) (bB (aK (i:=2) nd rfl (Or.inr rfl)) (bB (aK (i:=3) nd rfl (Or.inr rfl)) cZ)))))
  (aF (b8 (PW.pt (gT (aV iF (pv 1) aC (a7 _)) (gT (aV (nQ hr.units) (pv 2) (bN aB) (a7 _)) (gP (aV lO (aQ aN rfl T.b7 PySem.boot_len (aA (pv 3) aB)) (aQ aN rfl T.b7 PySem.boot_len (aA (pv 2) aB)) (a7 _)))))) (aH (aU cO)) bD)
  (aF (cQ PassesOwn.never rfl (O8 rfl T.QU (aA (pv 2) (aA (pv 3) aB))) (fU rfl (bB (aK (i:=4) nd rfl (Or.inl rfl)) (bB (aK (i:=5) nd rfl (Or.inl rfl)) cZ))) (aH (b8 (PW.pt (gT (aV iF (aQ (G4 (K:=K) rfl rfl) rfl T.DZ boot_min (aA (pv 4) aB)) aC (a7 _)) (gT (aV AZ (aQ (G5 (K:=K) rfl rfl) rfl T.HC boot_max (aA (pv 4) aB)) (pv 1) (a7 _)) (gP (aV AX (pv 5) (cY sN rfl T.bW boot_range (aA aC aB)) rfl))))) (aH (aU cO)) bD)))
  (aF (bU (i:=6) nd rfl (Or.inl rfl)  (N':=["_law_end","_law_ties","_law_heads"]) (js:=[none,some 2,some 3]) rfl (bH rfl T.bW (aA (aO cX aC (aQ aN rfl T.b7 PySem.boot_len (aA (pv 2) aB))) aB)) (λ_ _ _ _ _=>(aK (i:=0) nd_l_end_l_ties_l_heads rfl (Or.inl rfl))) (λ_ _ _ _ _=>b9) (λ_ _ _ _ _=>(cN (aA (bK (qV T) hr T.mI a8 (aA (pv 1) (aA (pv 0) aB))) (aA (aO cI (aO bV (aJ (dC (K:=K) rfl) (pv 2) (aO dN (pv 0) aC) (λ_ _=>rfl)) (aO cX aC (aO cI (pv 0) aC))) aC) aB)))))
  (aF (b8 (PW.pt (gT (aV iF (aQ w8 rfl T.b7 PySem.boot_len (aA (cY (G2 rfl hu8) rfl T.M9 boot_set (aA (pv 6) aB)) aB)) (aQ aN rfl T.b7 PySem.boot_len (aA (pv 6) aB)) (a7 _)) (gP (eM (cP (bK (F9 T) hr T.xW a8 (aA (pv 0) aB)) (λ_=>rfl)))))) (aH (aU cO)) bD)
  (aF (bC 7 nd (bK (uP T) hr T.nW a8 (aA (pv 0) aB)))
  (aF (bC 8 nd (bK (xP T) hr T.rE a8 (aA (pv 2) (aA (pv 7) aB))))
  (aF (b8 (aV lO (aO bV (pv 1) (aQ aN rfl T.b7 PySem.boot_len (aA (pv 8) aB))) (aO bV (aQ aN rfl T.b7 PySem.boot_len (aA (pv 2) aB)) aC) (a7 _)) (aH (aU cO)) bD)
  (aF (bC 9 nd (aQ fL rfl T.fC boot_sorted (aA (cG (N':=["_law_land","_law_laid","_law_orders_here"]) (js:=[none,some 0,some 7]) rfl (bJ (pv 8)) (λ_ _ _ _ _=>(aK (i:=0) nd_l_land_l_laid_l_orders_here rfl (Or.inl rfl))) (λ_ _ _ _ _=>b9) (λ_ _ _ _ _=>(aQ (DF (K:=K) rfl rfl) rfl T.HB boot_sum (aA (cG (N':=["_law_end","_law_laid","_law_orders_here"]) (js:=[none,some 1,some 2]) rfl (BE (K:=K) rfl (pv 0)) (λ_ _ _ _ _=>(aK (i:=0) nd_l_end_l_laid_l_orders_here rfl (Or.inl rfl))) (λ_ _ _ _ _=>b9) (λ_ _ _ _ _=>(aO dB aC (bK (uQ T) hr T.nX a8 (aA (pv 1) (aA (pv 2) (aA (pv 0) aB))))))) aB)))) aB)))
  (aH (aU (dZ (nQ hr.units) (pv 9) (aO zE (bN (aA (mV jD aC) aB)) (aO uN (bN (aA aC aB)) (aO dB (aQ aN rfl T.b7 PySem.boot_len (aA (pv 8) aB)) aC))) (a7 _))))))))))))),?_⟩
 have hl:=L.hl;have b1:=L.one;have b2:=L.n2;have b3:=L.n0;have b4:=L.t2;have b5:=L.n1;have hb:=L.hb;refine(bM _ rfl m _ rfl (SqT.of hL.1) rfl (yT _ _ rfl _ _ rfl ⟨ _,_,rfl,rfl,?_⟩));refine(bF _ rfl _ _ rfl rfl ⟨ _,rfl,cR (decide_eq_false (by show ¬((n:Nat):Int)<1;lia)) ?_⟩);refine⟨_,rfl,(by show 0<=ZW;decide),λz0 hz0=>?_⟩;have s1:=aG hz0 (.lst []);have ez:upd H z0 (.lst []) z0=some (.lst []):=aE;generalize upd H z0 (.lst [])=H1 at s1 ez ⊢;have hL1:=hL.st s1.st;refine(cE _ _ (FK hL1.2.1) (.lst (SqL.of ez) .nil) ?_ rfl ⟨ _,rfl,?_⟩)
 ·have h:=KM TT;unfold SeqAt.shaped;rw[Xw];refine⟨h.1,decide_eq_true ?_⟩;rw[PyData.depth]
  lia
 rw[M1 (by lia)];refine cR rfl ?_;obtain⟨tr,z0',z2,z3⟩:=id hL.2.1;have z1:=s1 _ _ z0';have tl:(tr.map V.ref).length=TT.length:=by rw[Zq,z2]
 have hml:(hs.map V.int).length=TT.length:=by rw[Zq,hl]
 refine(bF _ rfl ha _ rfl (.inl (SqL.of hL1.2.2)) (bM _ rfl ta _ rfl (.inl (SqL.of z1)) rfl ⟨ _,rfl,cR (by rw[tl,hml];simp) ?_⟩));refine⟨_,rfl,(aI _ rfl ta ha _ _ rfl ⟨ z1,hL1.2.2,MZ (xs:=tr.map V.ref) (ys:=hs.map V.int) (λi σ H'=>(∃v4 v5,σ=[some (.ref m),some (vn n),some (.ref ta),some (.ref ha),v4,v5,none,none,none,none])/\aW H1 H') (by rw[tl,hml]) ⟨⟨_,_,rfl⟩,aW.refl _⟩ (λi σ H' _ h=>⟨h.2 _ _ z1,h.2 _ _ hL1.2.2⟩) ?_ ?_⟩)⟩
 ·rintro i x y σ H' Tp hx hy ⟨⟨v4,v5,rfl⟩,g2⟩ hTp;have hi:i<TT.length:=by rw[<-tl];exact(Zj.mp hx).1
  obtain⟨r,c1,c2⟩:=z3 i _ (Zz hi);rw[Zk,c1]at hx;cases hx;rw[Zk,Zz (show i<hs.length by lia)]at hy;cases hy;have hbi:=hb i (by lia);rw[show at0 hs i=hs[i]'(by lia) by unfold at0;rw[Zv,Zz (by lia)];rfl]at hbi;generalize hs[i]'(by lia)=hd at hbi ⊢;have w1:=DJ L.pl ((TT[i].1:Int),(TT[i].2:Int)) (Zh.mpr ⟨TT[i],Zp hi,rfl⟩);have g3:=aG hTp (.tup [.ref r,.int hd]);have eT:upd H' Tp (.tup [.ref r,.int hd]) Tp=some (.tup [.ref r,.int hd]):=aE;have c3:=g3 _ _ (g2 _ _ (s1 _ _ c2));have g23:=g2.trans g3;generalize upd H' Tp (.tup [.ref r,.int hd])=H2 at g3 eT c3 g23 ⊢;refine(aZ Tp _ rfl (SqT.of eT) rfl (cU _ _ rfl _ _ rfl rfl ?_));have c4:SqT K H2 r ([(TT[i].1:Int),(TT[i].2:Int)].map V.int):=SqT.of c3;refine(bM _ rfl r ([(TT[i].1:Int),(TT[i].2:Int)]) rfl c4 (by simp) (λmn hmn _=>(j8 _ _ rfl rfl _ rfl (cR (decide_eq_false ?_) ?_))))
  ·show ¬mn<0;rcases Zn.mp hmn with e | e
   ·rw[e];lia
   ·rw[Zb.mp e];lia
  refine(bM _ rfl r ([(TT[i].1:Int),(TT[i].2:Int)]) rfl c4 (by simp) (λmx hmx _=>(bF _ rfl _ _ rfl rfl ⟨ _,rfl,cR (decide_eq_false ?_) ?_⟩)))
  ·show ¬(n:Int)<=mx;rcases Zn.mp hmx with e | e
   ·rw[e];have:=w1.1;lia
   ·rw[Zb.mp e];have:=w1.2;lia
  refine⟨_,rfl,4,rfl,λp hp=>?_⟩;refine(aS p _ 0 4 rfl rfl aE ⟨ _,rfl,cR ?_ ⟨⟨_,_,rfl⟩,g23.trans (aG hp _)⟩⟩);rw[decide_eq_true hbi.1,decide_eq_true hbi.2];rfl
 rintro σ H2 ⟨⟨v4,v5,rfl⟩,g2⟩;have g02:=s1.trans g2;have hL2:=hL.st g02.st;have z12:=g2 _ _ z1;have eN:(2:Int)*((tr.map V.ref).length:Nat)=((2*TT.length:Nat):Int):=by rw[tl];push_cast;rfl
 refine(bF _ rfl ta _ rfl (.inl (SqL.of z12)) (gH _ _ rfl rfl (.inl ⟨by decide,by decide⟩) _ rfl ⟨ ?_,?_,λD hD=>?_⟩))
 ·show -(2 ^ 62)<=(2:Int)*((tr.map V.ref).length:Nat);lia
 ·show(2:Int)*((tr.map V.ref).length:Nat)<2 ^ 62;lia
 refine pX (2*TT.length) (λi=>(((MM.place TT i:Nat):Int),hx hs i)) hD (by lia) (λi H' hi g'=>?_) (λH' g'=>?_) (λi H' x H'' k hi g' hY hk=>?_) ?_
 ·show i<((2:Int)*((tr.map V.ref).length:Nat)-0).toNat;lia
 ·show((2:Int)*((tr.map V.ref).length:Nat)-0).toNat<=2*TT.length;lia
 ·obtain⟨rfl,rfl⟩:=hY;have hL3:=hL2.st g'.st;refine(gN ((Fills.refl _).set _ rfl) _ rfl _ rfl (oF ta TT i (by show[V.ref ta,V.int (0+(i:Int))]=[V.ref ta,vn i];rw[Int.zero_add]) hL3.2.1 hi (bR _ rfl _ rfl _ _ rfl (fH rfl ⟨by decide,by decide⟩ ha _ _ _ rfl (bZ rfl (SqL.of hL3.2.2) (cV (j:=i / 2) (by lia) (by lia)) _ rfl (aZ _ _ rfl rfl (by show(0:Int)<2;decide) (aZ _ _ rfl rfl (.inl ⟨by decide,by decide⟩) (dH _ _ rfl rfl _ _ rfl ⟨ rfl,(by show(0:Int)<4;decide),(by show 2<=ZW;decide),λq hq=>?_⟩))))))));have e0:HO.tup [vn (MM.place TT i),V.int ((at0 hs (i / 2)+2*((0+(i:Int))%2))%4)]=.tup [.int ((MM.place TT i:Nat):Int),.int (hx hs i)]:=by
   unfold hx;rw[Int.zero_add];rfl
  rw[e0];exact hk q _ (aG hq _) aE
 intro H3 ht g3;obtain⟨vs,e1,vl,hk,ek⟩:=N9 (K:=K) ht;have g03:=g02.trans g3;have hL3:=hL.st g03.st;have hS:SqL K H3 D (vs.map λx=>V.ref x.2):=SqL.of e1;refine(fF _ rfl D vs (vs.map (·.1)) rfl hS ⟨ hk,by rw[Zq];lia,λx hx=>Ym hx,λD2 ys hD2 acc ndy=>?_⟩);obtain⟨al,ai⟩:=M6 acc ndy;rw[ek]at ai;have s4:=aG hD2 (DX P w D2 ys);have e4:upd H3 D2 (DX P w D2 ys) D2=some (DX P w D2 ys):=aE;have g04:=g03.trans s4;refine(gH D2 ys rfl e4 (by lia) _ rfl (dH D _ rfl (.inl (SqL.of (s4 _ _ e1))) _ _ rfl ⟨ rfl,_,rfl,?_⟩));have hL4:=hL.st g04.st;have no:∀{H'},aW (upd H3 D2 (DX P w D2 ys)) H'->¬l6 n TT hs->Q (.bl false) H':=λg z=>q false _ (g04.trans g) ⟨λy=>(nomatch y),λy=>absurd y z⟩;by_cases ds:Dst TT hs
 case neg =>
  have:¬ys.length=vs.length:=λz=>ds (BS.mp (ai.mp z));exact eJ (decide_eq_true (by rw[Zq];lia)) (no (aW.refl _) λz=>ds z.ds)
 have ye:ys.length=vs.length:=ai.mpr (BS.mpr ds);refine cR (decide_eq_false (by rw[Zq];lia)) ?_;refine⟨_,rfl,(bE m n TT hs ta ha rfl (gO hL4 (DJ L.pl) (by lia) (by lia) (by lia) (λb H5 g5 hb5=>⟨_,rfl,?_⟩)))⟩;cases b with
 |false=>exact eJ rfl (no g5 λz=>Bool.noConfusion (hb5.mpr z.wh))
 |true =>
 have wh:=hb5.mp rfl;have LP:=L.p ds wh;have hL5:=hL4.st g5.st;refine cR rfl ⟨_,rfl,(bE m n TT hs ta ha rfl ⟨ hL5,LP,λoA orr H6 g6 n6=>?_⟩)⟩;have g46:=g5.trans g6;have hL6:=hL4.st g46.st;have os6:=kK n6;refine⟨_,rfl,(aI _ rfl ta oA TT _ rfl ⟨ hL6.2.1,os6,LP.g,LP.t1,λlr lrr H7 g7 nl=>?_⟩)⟩;have g47:=g46.trans g7;have hL7:=hL4.st g47.st;have ll:(lrr.map V.ref).length=(MM.lls TT (cK TT hs n)).length:=by rw[Zq];exact nl.len
 have nL:(MM.lls TT (cK TT hs n)).length=MM.kL TT (cK TT hs n):=rfl;have z7:=(g04.trans g47) _ _ z0';refine(bR _ rfl _ rfl lr _ rfl (jN (.inl (SqL.of nl.at_)) _ _ rfl rfl _ rfl (dH ta _ rfl (.inl (SqL.of z7)) _ _ rfl ⟨ rfl,rfl,_,rfl,?_⟩)));by_cases fl:n+MM.kL TT (cK TT hs n)=TT.length+2
 case neg=>exact eJ (by rw[ll,tl];simp;lia) (no g47 λz=>fl z.fl)
 refine cR (by rw[ll,tl];simp;lia) ?_;refine(bO _ rfl lr rfl ⟨_,SqL.of nl.at_⟩ (λD3 hD3=>?_));have few:=xV LP.g;refine bS (MM.lls TT (cK TT hs n)).length (λi=>.int ((sL n TT hs).getD i 0)) hD3 (by lia) (λi H' hi g'=>⟨_,_,SqL.of (g' _ _ nl.at_),Zz (by rw[ll];exact hi)⟩) (λH' g'=>⟨_,SqL.of (g' _ _ nl.at_),by rw[ll];exact Nat.le_refl _⟩) (λi H' x H'' k hi g' hY hk=>?_) ?_
 ·obtain⟨rfl,hY⟩:=hY;have ex:=hY _ (SqL.of (g' _ _ nl.at_));obtain⟨la,q1,q2⟩:=nl.row i _ (Zz hi);rw[Zk,q1]at ex;cases ex;have lf:=pF LP.g (Zp hi);have se:(sL n TT hs).getD i 0=((MM.lls TT (cK TT hs n))[i].map λy=>2-cx TT hs (cK TT hs n) y).sum:=by
   unfold sL;rw[Zv,Zk,Zz hi];rfl
  have q2:H7 la=some (.lst (vns (MM.lls TT (cK TT hs n))[i])):=q2;generalize (MM.lls TT (cK TT hs n))[i]=d at q2 lf se;have q5:=g' _ _ q2;refine(K1 ((Fills.refl _).set _ rfl) _ rfl la rfl ⟨_,SqL.of q5⟩ (λD4 hD4=>?_));refine bS d.length (λj=>.int (2-cx TT hs (cK TT hs n) (d.getD j 0))) hD4 (by lia) (λj H8 hj g8=>⟨_,_,SqL.of (g8 _ _ q5),l9 hj⟩) (λH8 g8=>⟨_,SqL.of (g8 _ _ q5),by rw[Zq];exact Nat.le_refl _⟩) (λj H8 x H9 k2 hj g8 hY hk2=>?_) ?_
  ·obtain⟨rfl,hY⟩:=hY;have ex:=hY _ (SqL.of (g8 _ _ q5));rw[l9 hj]at ex;cases ex;exact(tQ ((Fills.refl _).set _ rfl) _ rfl _ rfl _ rfl (cB m oA n TT hs ta ha (D0 (d.getD j 0) rfl ((hL7.st g'.st).st g8.st) LP (RS ((g7.trans g').trans g8).st os6) (lf.2 _ (getD_mem hj)) ⟨ _,_,rfl,rfl,hk2 _ (aW.refl _)⟩)))
  intro H8 g8 e8;rw[zA d (λe=>V.int (2-cx TT hs (cK TT hs n) e)),show d.map (λe=>V.int (2-cx TT hs (cK TT hs n) e))=(d.map λe=>2-cx TT hs (cK TT hs n) e).map V.int by rw[Yh];rfl]at e8;refine⟨D4,_,rfl,SqL.of e8,?_⟩;rw[<-se];exact hk _ g8
 intro H9 g9 e9;have sl:(MM.lls TT (cK TT hs n)).length=(sL n TT hs).length:=by unfold sL;rw[Zq]
 have e9:H9 D3=some (.lst ((sL n TT hs).map V.int)):=by
  rw[e9];congr 2;rw[sl];refine Yp λi=>?_;rw[Zk,Zk];by_cases h:i<(sL n TT hs).length
  ·rw[Yk h,Zz h];simp[List.getD,h]
  ·rw[Zr (by simpa using h),Zr (by simpa using h)];rfl
 refine(aZ D3 _ rfl (SqL.of e9) (by lia) (λl ns hl' p s=>?_));have s10:=aG hl' (.lst (ns.map V.int));have e10:upd H9 l (.lst (ns.map V.int)) l=some (.lst (ns.map V.int)):=aE;have g410:=g47.trans (g9.trans s10);have l10:=s10 _ _ (g9 _ _ nl.at_);generalize upd H9 l (.lst (ns.map V.int))=H10 at s10 e10 g410 l10 ⊢;refine(bO _ rfl _ rfl (by show 1<=ZW;decide) (λa1 h1=>?_));have s11:=aG h1 (.lst [V.int (-4)]);have e11:upd H10 a1 (.lst [V.int (-4)]) a1=some (.lst [V.int (-4)]):=aE;generalize upd H10 a1 (.lst [V.int (-4)])=H11 at s11 e11 ⊢;refine⟨(by show 1<=ZW;decide),λa3 h3=>?_⟩;have s12:=aG h3 (.lst [V.int 4]);have e12:upd H11 a3 (.lst [V.int 4]) a3=some (.lst [V.int 4]):=aE;generalize upd H11 a3 (.lst [V.int 4])=H12 at s12 e12 ⊢;refine(bF _ rfl lr _ rfl (.inl (SqL.of (s12 _ _ (s11 _ _ l10)))) ⟨ _,(jL _ rfl rfl a3 _ _ rfl (gO rfl e12 ?_ ?_ ?_ (λa4 h4=>?_)))⟩)
 ·show -(2 ^ 63)<=(((lrr.map V.ref).length:Nat):Int)-1;lia
 ·show(((lrr.map V.ref).length:Nat):Int)-1<2 ^ 63;lia
 ·show 1*((((lrr.map V.ref).length:Nat):Int)-1).toNat<=ZW;exact Yr (show _<=100 by lia) (by decide)
 have ek:((((lrr.map V.ref).length:Nat):Int)-1).toNat=(sL n TT hs).length-1:=by lia
 rw[ek,oU];have s13:=aG h4 (.lst ((List.replicate ((sL n TT hs).length-1) (4:Int)).map V.int));have e13:upd H12 a4 (.lst ((List.replicate ((sL n TT hs).length-1) (4:Int)).map V.int)) a4=some (.lst ((List.replicate ((sL n TT hs).length-1) (4:Int)).map V.int)):=aE;generalize upd H12 a4 (.lst ((List.replicate ((sL n TT hs).length-1) (4:Int)).map V.int))=H13 at s13 e13 ⊢;refine(aS a1 a4 _ _ rfl rfl (s13 _ _ (s12 _ _ e11)) ⟨ e13,?_,λa5 h5=>?_⟩)
 ·rw[Zq,List.length_replicate];exact Yr (show[V.int (-4)].length+_<=100 by simp;lia) (by decide)
 have ew:([V.int (-4)]++(List.replicate ((sL n TT hs).length-1) (4:Int)).map V.int)=(ws (sL n TT hs).length).map V.int:=rfl;rw[ew];have s14:=aG h5 (.lst ((ws (sL n TT hs).length).map V.int));have g1014:=s11.trans (s12.trans (s13.trans s14));refine(cE _ _ (gY (g1014 _ _ e10)) (gY aE) (shaped_ints _) (shaped_ints _) ?_);rw[eZ];refine q _ _ (g04.trans (g410.trans g1014)) ?_;rw[Bool.xor_false,decide_eq_true_iff,AE p s];exact⟨λy=>⟨ds,wh,fl,y⟩,λy=>y.su⟩
end K49
namespace AW
def ky(u:Int×Int):List Int:=[u.1,u.2]
theorem JD{a b:List (Int×Int)}(h:a.Perm b)(h1:a.Pairwise λx y=>SO.lx (ky y) (ky x)=false)(h2:b.Pairwise λx y=>SO.lx (ky y) (ky x)=false):a=b :=
 List.Perm.eq_of_pairwise (λx y _ _ z1 z2=>by
  have:=SO.uV _ _ z2 z1;unfold ky at this;simp only[List.cons.injEq,and_true]at this;exact Prod.ext this.1 this.2) h1 h2 h
end AW
namespace L2
open PySem PySem.Spec PyProof.Rows
def dTI(ts:AW.Ts):List PyData:=ts.map λt=>.tuple [.int t.1,.int t.2]
theorem DU{K:PySem.W.Frag}{H:Hp}:∀(xs:List V) (ds:List PyData),xs.length=ds.length->(∀(i:Nat) x d,xs[i]?=some x->ds[i]?=some d->Bd K H x d)->Bds K H xs ds
 |[],[],_,_=>.nil
 |[],_::_,h,_=>by cases h
 |_::_,[],h,_=>by cases h
 |x::xs,d::ds,h,f=>.cons (f 0 x d rfl rfl) (DU xs ds (by simpa using h) λi x' d' h1 h2=>f (i+1) x' d' h1 h2)
theorem TsI.cat{H:Hp}{l:Addr}{ts us:AW.Ts}{tr ur:List Addr}(h1:tr.length=ts.length)(h2:∀(i:Nat) t,ts[i]?=some t->∃r,tr[i]?=some r/\H r=some (.tup [.int t.1,.int t.2]))(g1:ur.length=us.length)(g2:∀(i:Nat) t,us[i]?=some t->∃r,ur[i]?=some r/\H r=some (.tup [.int t.1,.int t.2]))
  (hl:H l=some (.lst (tr.map V.ref++ur.map V.ref))):TsI H l (ts++us):=by
 refine⟨tr++ur,by rw[hl,Zt],by simp[h1,g1],λi t e=>?_⟩;by_cases q:i<ts.length
 ·rw[Zx q]at e;obtain⟨b,q1,q2⟩:=h2 i t e;exact⟨b,by rw[Zx (by lia)];exact q1,q2⟩
 ·rw[Zy (by lia)]at e;obtain⟨b,q1,q2⟩:=g2 _ t e;exact⟨b,by rw[Zy (by lia),h1];exact q1,q2⟩
def sW(H:Hp)(q:Addr):Int×Int:=match H q with
 |some (.tup [.int a,.int b])=>(a,b)
 |_=>(0,0)
theorem tG{H:Hp}{q:Addr}{a b:Int}(h:H q=some (.tup [.int a,.int b])):sW H q=(a,b):=by unfold sW;rw[h]
theorem TsI.at_{H:Hp}{a:Addr}{ts:AW.Ts}(h:TsI H a ts):∃tr:List Addr,H a=some (.lst (tr.map V.ref))/\ts=tr.map (sW H)/\∀q∈tr,H q=some (.tup [.int (sW H q).1,.int (sW H q).2]):=by
 obtain⟨tr,h1,h2,h3⟩:=h;refine⟨tr,h1,List.ext_getElem (by simp[h2]) λi i1 i2=>?_,λq hq=>?_⟩
 ·obtain⟨r,r1,r2⟩:=h3 i _ (Zz i1);obtain⟨_,r1⟩:=Zj.mp r1;rw[List.getElem_map,r1,tG r2]
 ·obtain⟨i,hi,rfl⟩:=Yy.mp hq;obtain⟨r,r1,r2⟩:=h3 i _ (Zz (by lia));obtain⟨_,r1⟩:=Zj.mp r1;rw[r1,tG r2];exact r2
theorem TsI.of{H:Hp}{a:Addr}{tr:List Addr}(h1:H a=some (.lst (tr.map V.ref))){f:Addr->Int×Int}(h2:∀q∈tr,H q=some (.tup [.int (f q).1,.int (f q).2])):TsI H a (tr.map f):=by
 refine⟨tr,h1,by simp,λi t e=>?_⟩;rw[Zk]at e;obtain⟨r,r1,rfl⟩:=Xz.mp e;exact⟨r,r1,h2 r (Zg r1)⟩
section
variable{X:Cx}
theorem zP:dG X (.builtin "sorted") (λxs H Q=>∃(p:Addr) (ts:AW.Ts),xs=[.ref p]/\TsI H p ts/\ts.length<64 /\
  ∀(l:Addr) (us:AW.Ts) (H':Hp),aW H H'->us.Perm ts->(us.Pairwise λa b=>SO.lx (AW.ky b) (AW.ky a)=false)->TsI H' l us->Q (.ref l) H'):=by
 intro pins s σ H xs us Q I r h;obtain⟨p,ts,rfl,hT,h64,q⟩:=h;obtain⟨tr,h1,rfl,h3⟩:=hT.at_;refine pZ pins s σ H _ us Q I r ⟨p,tr,λq=>AW.ky (sW H q),rfl,SqL.of h1,λq hq=>⟨List.cons_ne_nil _ _,SqT.of (h3 q hq)⟩,by simpa using h64,λl ps hl hp hs=>?_⟩;have g:=aG hl (.lst (ps.map V.ref));exact q l (ps.map (sW H)) _ g (hp.map _) (List.pairwise_map.mpr hs) (TsI.of aE λx hx=>g _ _ (h3 x (hp.mem_iff.mp hx)))
end
theorem FA:∀a b:AW.Ts,PyData.eqvAll (dTI a) (dTI b)=decide (a=b)
 |[],[]=>rfl
 |[],_::_=>rfl
 |_::_,[]=>rfl
 |x::a,y::b=>by
  show(PyData.eqv (.tuple [.int x.1,.int x.2]) (.tuple [.int y.1,.int y.2])&&PyData.eqvAll (dTI a) (dTI b))=_;rw[FA a b,Xx];simp only[PyData.eqv,PyData.eqvAll];simp[Prod.ext_iff]
theorem E9(a b:AW.Ts):PyData.eqv (.list (dTI a)) (.list (dTI b))=decide (a=b):=FA a b
theorem TsI.bd{K:PySem.W.Frag}{H:Hp}{a:Addr}{ts:AW.Ts}(h:TsI H a ts):Bd K H (.ref a) (.list (dTI ts)):=by
 obtain⟨tr,t1,t2,t3⟩:=h;refine .lst (SqL.of t1) (DU _ _ (by rw[dTI,Zq,Zq,t2]) λi x d hx hd=>?_);obtain⟨t,r,e1,rfl,e2⟩:=TsI.nth (a:=a) t2 t3 hx;rw[dTI,Zk,e1]at hd;cases hd;exact .tup (SqT.of e2) (.cons (.int _) (.cons (.int _) .nil))
theorem kE(ts:AW.Ts):SeqAt.shaped (.list (dTI ts))=true:=by
 have h1:PyData.canLayAll0 (dTI ts)=true/\PyData.depthAll (dTI ts)<=3:=tI 3 λd hd=>by
  obtain⟨n,_,rfl⟩:=Zh.mp hd;exact⟨rfl,by simp[PyData.depth,PyData.depthAll]⟩
 unfold SeqAt.shaped;rw[Xw];refine⟨h1.1,decide_eq_true ?_⟩;rw[PyData.depth]
 lia
end L2
namespace GF
abbrev Pt:=Int×Int
def inG(p:Pt):Prop:=0<=p.1/\p.1<=4/\0<=p.2/\p.2<=4
def pnt(k:Nat):Pt:=(((k:Int)%5),((k:Int) / 5))
def fW:List Pt:=(List.range 25).map pnt
theorem pI{p:Pt}(h:inG p):p∈fW:=by
 obtain⟨x,y⟩:=p;obtain⟨h1,h2,h3,h4⟩:=h;simp only at h1 h2 h3 h4;refine Zh.mpr ⟨(5*y+x).toNat,Zs.mpr (by lia),?_⟩;unfold pnt;refine Prod.ext ?_ ?_<;>simp only<;>lia
theorem MX:fW.Nodup:=by decide
def dX(h:Int):Int:=if h=0 then 1 else if h=2 then -1 else 0
def dY(h:Int):Int:=if h=1 then 1 else if h=3 then -1 else 0
structure Rw(cs ss:List Pt):Prop where
 len:cs.length=ss.length+1
 nd:cs.Nodup
 inn:∀p∈cs,inG p
 hd:∀s∈ss,0<=s.1/\s.1<4/\1<=s.2/\s.2<=4
 stp:∀(i:Nat) c s,cs[i]?=some c->ss[i]?=some s->cs[i+1]?=some (c.1+dX s.1*s.2,c.2+dY s.1*s.2)
theorem Rw.one{p:Pt}(h:inG p):Rw [p] []:=⟨rfl,by simp,λq hq=>by rw[Zb.mp hq];exact h,λs hs=>(by cases hs),λi c s _ e=>(by simp at e)⟩
theorem Rw.more{cs ss:List Pt}(R:Rw cs ss){c:Pt}(hc:cs.getLast?=some c){s:Pt}(hs:0<=s.1/\s.1<4/\1<=s.2/\s.2<=4)(hi:inG (c.1+dX s.1*s.2,c.2+dY s.1*s.2))(hn:(c.1+dX s.1*s.2,c.2+dY s.1*s.2)∉cs):Rw (cs++[(c.1+dX s.1*s.2,c.2+dY s.1*s.2)]) (ss++[s]):=by
 have hl:=R.len;refine⟨by simp[hl],?_,λq hq=>?_,λq hq=>?_,λi c' s' e1 e2=>?_⟩
 ·rw[List.nodup_append];refine⟨R.nd,by simp,λa ha b hb=>?_⟩;rw[Zb.mp hb];rintro rfl;exact hn ha
 ·rcases Zf.mp hq with z | z
  ·exact R.inn q z
  ·rw[Zb.mp z];exact hi
 ·rcases Zf.mp hq with z | z
  ·exact R.hd q z
  ·rw[Zb.mp z];exact hs
 ·by_cases q:i<ss.length
  ·rw[Zx q]at e2;rw[Zx (by lia)]at e1;rw[Zx (by lia)];exact R.stp i c' s' e1 e2
  ·have hi':i=ss.length:=by
    have z:=(Zj.mp e2).1;rw[Zm,ZQ]at z
    lia
   subst hi';rw[Yx]at e2;cases e2;rw[Zx (by lia)]at e1;rw[List.getLast?_eq_getElem?,hl,Nat.add_sub_cancel,e1]at hc;cases hc;rw[<-hl,Yx]
theorem HK{c:Pt}{h f j:Int}(hh:0<=h/\h<4)(a:inG c)(b:inG (c.1+dX h*f,c.2+dY h*f))(h0:0<=j)(hj:j<=f):inG (c.1+dX h*j,c.2+dY h*j):=by
 obtain⟨a1,a2,a3,a4⟩:=a;obtain⟨b1,b2,b3,b4⟩:=b;have e:h=0\/h=1\/h=2\/h=3:=by lia
 unfold inG;rcases e with rfl | rfl | rfl | rfl<;>simp[dX,dY]at b1 b2 b3 b4 ⊢<;>lia
abbrev Qd:=Pt×Pt×Int×Int
def one(p:Pt):List Qd:=(if p.1<4 then [(p,(p.1+1,p.2),0,-1-if p.2=0\/p.2=4 then 1 else 0)] else [])++if p.2<4 then [(p,(p.1,p.2+1),1,-1-if p.1=0\/p.1=4 then 1 else 0)] else []
def made(k:Nat):List Qd:=(fW.take k).flatMap one
theorem BA:(made 25).length=40:=by decide
theorem JP(k:Nat):(made k).length<=2*k:=by
 unfold made;induction k with
 |zero=>simp
 |succ k ih =>
  rw[List.take_add_one,List.flatMap_append,Zm];have:∀o:Option Pt,(o.toList.flatMap one).length<=2:=λo=>by
   cases o with
   |none=>simp
   |some p =>
    simp only[Option.toList_some,List.flatMap_cons,List.flatMap_nil,List.append_nil];unfold one;rw[Zm];have h1:∀(c:Prop) [Decidable c] (x:Qd),(if c then [x] else []).length<=1:=λc _ x=>by by_cases z:c<;>simp[z]
    exact Nat.add_le_add (h1 _ _) (h1 _ _)
  have:=this fW[k]?
  lia
theorem GH{k:Nat}{p:Pt}(h:fW[k]?=some p):made (k+1)=made k++one p:=by
 unfold made;rw[List.take_add_one,List.flatMap_append,h];simp
def j7(a b c d:Pt):Prop:=(a=c/\b=d)\/(a=d/\b=c)
theorem t8{a b c d:Pt}:[a,b].Perm [c,d]↔j7 a b c d:=by
 constructor
 ·intro h;have ha:a∈[c,d]:=h.mem_iff.mp (by simp);have hb:=h;rcases Zn.mp ha with rfl | z
  ·have:=List.Perm.cons_inv h;exact .inl ⟨rfl,by simpa using this⟩
  ·have z:=Zb.mp z;subst z;have:=List.Perm.cons_inv (h.trans (List.Perm.swap _ _ _));exact .inr ⟨rfl,by simpa using this⟩
 ·rintro(⟨rfl,rfl⟩ | ⟨rfl,rfl⟩)
  ·exact .refl _
  ·exact .swap _ _ _
structure Tis(qs:List Qd):Prop where
 len:qs.length=40
 ok:∀(k:Nat) q,qs[k]?=some q->inG q.1/\inG q.2.1/\0<=q.2.2.1/\q.2.2.1<4
 bs:∀(k:Nat) q b,qs[k]?=some q->(made 25)[k]?=some b->j7 q.1 q.2.1 b.1 b.2.1
def okB(q:Qd):Bool:=decide (0<=q.1.1/\q.1.1<=4/\0<=q.1.2/\q.1.2<=4/\0<=q.2.1.1/\q.2.1.1<=4/\0<=q.2.1.2/\q.2.1.2<=4/\0<=q.2.2.1/\q.2.2.1<4)
theorem ML:(made 25).all okB=true:=by decide +kernel
theorem Tis.made:Tis (made 25):=⟨BA,λk q e=>by
 have:=List.all_eq_true.mp ML q (Zg e);obtain⟨h1,h2,h3,h4,h5,h6,h7,h8,h9⟩:=of_decide_eq_true this;exact⟨⟨h1,h2,h3,h4⟩,⟨h5,h6,h7,h8⟩,h9⟩,λk q b e1 e2=>by rw[e1]at e2;cases e2;exact .inl ⟨rfl,rfl⟩⟩
def TN(p:Pt)(h:Int):Bool:=(made 25).any λb=>decide ((b.1=p/\b.2.1=(p.1+dX h,p.2+dY h))\/(b.1=(p.1+dX h,p.2+dY h)/\b.2.1=p))
theorem M5:(fW.all λp=>[0,1,2,3].all λh=>TN p h||!decide (0<=p.1+dX h/\p.1+dX h<=4/\0<=p.2+dY h/\p.2+dY h<=4))=true:=by decide +kernel
theorem adj{p:Pt}{h:Int}(hp:inG p)(hh:0<=h/\h<4)(ha:inG (p.1+dX h,p.2+dY h)):∃(k:Nat) (b:Qd),(GF.made 25)[k]?=some b/\j7 b.1 b.2.1 p (p.1+dX h,p.2+dY h):=by
 have z:=List.all_eq_true.mp M5 p (pI hp);have hm:h∈[(0:Int),1,2,3]:=by
  have e:h=0\/h=1\/h=2\/h=3:=by lia
  rcases e with rfl | rfl | rfl | rfl<;>decide
 have z:=List.all_eq_true.mp z h hm;rcases Bool.or_eq_true_iff.mp z with z | z
 ·obtain⟨b,hb,e⟩:=List.any_eq_true.mp z;obtain⟨k,hk⟩:=List.getElem?_of_mem hb;have e:=of_decide_eq_true e;exact⟨k,b,hk,e⟩
 ·have:=of_decide_eq_false (Bool.not_eq_true' _ |>.mp z);exact absurd ha this
theorem Tis.find{qs:List Qd}(T:Tis qs){p:Pt}{h:Int}(hp:inG p)(hh:0<=h/\h<4)(ha:inG (p.1+dX h,p.2+dY h)):∃(k:Nat) (q:Qd),qs[k]?=some q/\j7 q.1 q.2.1 p (p.1+dX h,p.2+dY h):=by
 obtain⟨k,b,e,s⟩:=adj hp hh ha;have hk:k<qs.length:=by rw[T.len,<-BA];exact(Zj.mp e).1
 have e1:=Zz hk;refine⟨k,_,e1,?_⟩;have t:=T.bs k _ b e1 e;rcases t with⟨t1,t2⟩ | ⟨t1,t2⟩<;>rw[t1,t2]
 ·exact s
 ·rcases s with⟨s1,s2⟩ | ⟨s1,s2⟩
  ·exact .inr ⟨s2,s1⟩
  ·exact .inl ⟨s2,s1⟩
theorem Tis.set{qs:List Qd}(T:Tis qs){j:Nat}{q:Qd}(e:qs[j]?=some q){a b:Pt}(s:j7 q.1 q.2.1 a b)(ha:inG a)(hb:inG b){h:Int}(hh:0<=h/\h<4)(m:Int):Tis (qs.set j (a,b,h,m)):=by
 refine⟨by rw[List.length_set,T.len],λk q' e'=>?_,λk q' b' e1 e2=>?_⟩
 ·rw[List.getElem?_set]at e';split at e'
  ·split at e'
   ·cases e';exact⟨ha,hb,hh⟩
   ·cases e'
  ·exact T.ok k q' e'
 ·rw[List.getElem?_set]at e1;split at e1
  ·rename_i z
   subst z;split at e1
   ·cases e1;have t:=T.bs j q b' e e2;show j7 a b _ _;rcases s with⟨s1,s2⟩ | ⟨s1,s2⟩<;>rw[s1,s2]at t
    ·exact t
    ·rcases t with⟨t1,t2⟩ | ⟨t1,t2⟩
     ·exact .inr ⟨t2,t1⟩
     ·exact .inl ⟨t2,t1⟩
   ·cases e1
  ·exact T.bs k q' b' e1 e2
theorem F4{cs:List Pt}(hc:∀p∈cs,inG p)(nc:cs.Nodup){ps:List Nat}(h1:ps.Nodup)(h2:∀x∈ps,x<(fW.filter λp=>decide (p∉cs)).length)(h3:ps.length=(fW.filter λp=>decide (p∉cs)).length) :
  (∀p,inG p->p∈cs++ps.map λk=>(fW.filter λp=>decide (p∉cs)).getD k (0,0))/\(cs++ps.map λk=>(fW.filter λp=>decide (p∉cs)).getD k (0,0)).length<=25:=by
 generalize ho:fW.filter (λp=>decide (p∉cs))=os at h2 h3 ⊢;have no:os.Nodup:=by rw[<-ho];exact MX.filter _
 have pr:ps.Perm (List.range os.length):=(L2.nS ps (List.range os.length) h1 (λx hx=>Zs.mpr (h2 x hx))).2 (by rw[Yj];exact h3);have pm:(ps.map λk=>os.getD k (0,0)).Perm os:=by
  refine(pr.map _).trans (.of_eq ?_);refine List.ext_getElem (by simp) λi i1 i2=>?_;simp[List.getD,i2]
 constructor
 ·intro p hp;rw[Zf,pm.mem_iff,<-ho,Yz];by_cases c:p∈cs
  ·exact .inl c
  ·exact .inr ⟨pI hp,decide_eq_true c⟩
 ·have nd:(cs++os).Nodup:=by
   rw[List.nodup_append];refine⟨nc,no,λa ha b hb e=>?_⟩;rw[<-ho,Yz]at hb;subst e;exact of_decide_eq_true hb.2 ha
  have:=(L2.nS (cs++os) fW nd λp hp=>by
   rcases Zf.mp hp with z | z
   ·exact pI (hc p z)
   ·rw[<-ho]at z;exact(Yz.mp z).1).1
  rw[Zm,pm.length_eq,<-Zm];exact this
end GF
namespace L2
open PySem PySem.Spec PyProof.Rows
def pick(h a b c d:Int):Int:=if h=0 then a else if h=1 then b else if h=2 then c else d
theorem mK{h a b c d:Int}(h0:0<=h)(h4:h<4):atI [V.int a,V.int b,V.int c,V.int d] h=some (.int (pick h a b c d)):=by
 have e:h=0\/h=1\/h=2\/h=3:=by lia
 rcases e with rfl | rfl | rfl | rfl<;>rfl
theorem IZ{h:Int}(h0:0<=h)(h4:h<4):pick h 1 0 (-1) 0=GF.dX h:=by
 have e:h=0\/h=1\/h=2\/h=3:=by lia
 rcases e with rfl | rfl | rfl | rfl<;>rfl
theorem IY{h:Int}(h0:0<=h)(h4:h<4):pick h 0 1 0 (-1)=GF.dY h:=by
 have e:h=0\/h=1\/h=2\/h=3:=by lia
 rcases e with rfl | rfl | rfl | rfl<;>rfl
theorem LL{h x y f:Int}(h0:0<=h)(h4:h<4)(g:GF.inG (x,y))(hf:1<=f)(hr:f<=pick h (4-x) (4-y) x y):GF.inG (x+GF.dX h*f,y+GF.dY h*f)/\f<=4:=by
 obtain⟨a1,a2,a3,a4⟩:=g;simp only at a1 a2 a3 a4;have e:h=0\/h=1\/h=2\/h=3:=by lia
 unfold GF.inG;rcases e with rfl | rfl | rfl | rfl<;>simp[pick,GF.dX,GF.dY]at hr ⊢<;>lia
theorem IL{h x y:Int}(h0:0<=h)(h4:h<4)(g:GF.inG (x,y)):0<=pick h (4-x) (4-y) x y:=by
 obtain⟨a1,a2,a3,a4⟩:=g;simp only at a1 a2 a3 a4;have e:h=0\/h=1\/h=2\/h=3:=by lia
 rcases e with rfl | rfl | rfl | rfl<;>simp[pick]<;>lia
theorem TsI.push{H:Hp}{D r:Addr}{ps:AW.Ts}{tr:List Addr}{x y:Int}(h1:H D=some (.lst (tr.map V.ref)))(h2:tr.length=ps.length)(h3:∀(i:Nat) t,ps[i]?=some t->∃r,tr[i]?=some r/\H r=some (.tup [.int t.1,.int t.2]))(hr:H r=some (.tup [.int x,.int y])):TsI (upd H D (.lst (tr.map V.ref++[.ref r]))) D (ps++[(x,y)]):=by
 have ne:∀{b:Addr}{l:List V},H b=some (.tup l)->b≠D:=λhb z=>by rw[z,h1]at hb;cases hb
 exact TsI.more (a:=D) h2 (λj t e=>let⟨r,r1,r2⟩:=h3 j t e;⟨r,r1,by rw[aL (ne r2)];exact r2⟩) aE (by rw[aL (ne hr)];exact hr)
theorem TsI.far{H:Hp}{D a:Addr}{ps:AW.Ts}{l l':List V}(h:TsI H a ps)(e:H D=some (.lst l))(n:a≠D):TsI (upd H D (.lst l')) a ps:=by
 obtain⟨tr,h1,h2,h3⟩:=h;have ne:∀{b:Addr}{l:List V},H b=some (.tup l)->b≠D:=λhb z=>by rw[z,e]at hb;cases hb
 exact⟨tr,by rw[aL n];exact h1,h2,λi t q=>let⟨r,r1,r2⟩:=h3 i t q;⟨r,r1,by rw[aL (ne r2)];exact r2⟩⟩
theorem TsI.bds{K:PySem.W.Frag}{H:Hp}{a:Addr}{ts:AW.Ts}(h:TsI H a ts):∃tr:List Addr,H a=some (.lst (tr.map V.ref))/\tr.length=ts.length/\Bds K H (tr.map V.ref) (dTI ts):=by
 obtain⟨tr,t1,t2,t3⟩:=h;refine⟨tr,t1,t2,DU _ _ (by rw[dTI,Zq,Zq,t2]) λi x d hx hd=>?_⟩;obtain⟨t,r,e1,rfl,e2⟩:=TsI.nth (a:=a) t2 t3 hx;rw[dTI,Zk,e1]at hd;cases hd;exact .tup (SqT.of e2) (.cons (.int _) (.cons (.int _) .nil))
theorem AI(x y:Int):smD (.tuple [.int x,.int y]):=⟨rfl,by simp[PyData.depth,PyData.depthAll]⟩
theorem yY(ts:AW.Ts):∀d∈dTI ts,smD d:=λd hd=>by
 obtain⟨n,_,rfl⟩:=Zh.mp hd;exact AI _ _
theorem FO(ts:AW.Ts)(x y:Int):((dTI ts).any λd=>PyData.eqv d (.tuple [.int x,.int y]))=decide ((x,y)∈ts):=by
 rw[Xx,List.any_eq_true,decide_eq_true_iff];constructor
 ·rintro⟨d,hd,e⟩;obtain⟨n,hn,rfl⟩:=Zh.mp hd;simp only[PyData.eqv,PyData.eqvAll]at e;have e:n.1=x/\n.2=y:=by simpa using e
  rw[<-e.1,<-e.2];exact hn
 ·intro h;refine⟨.tuple [.int x,.int y],Zh.mpr ⟨(x,y),h,rfl⟩,?_⟩;simp[PyData.eqv,PyData.eqvAll]
end L2
namespace K49
open PySem L2 PyProof.Rows
def Q9(K:PySem.W.Frag):Sp:=λvs H Q _=>∃(a:Addr) (ns:List Int),vs=[.ref a]/\SqL K H a (ns.map V.int) /\
 ∀(r ca sa:Addr) (cs ss:List (Int×Int)) (H':Hp),aW H H'->H' r=some (.tup [.ref ca,.ref sa])->TsI H' ca cs->TsI H' sa ss->GF.Rw cs ss->Q (.ref r) H'
theorem MD(T:Txt K mg t):cJ P w K mg base CX0 2 t.FQ t.FH ["_law_script"] (Q9 K):=by
 refine T.E8.F.ok AN (λvs H Q E h=>?_) (λcdv A outer s H vs Q E hr h=>?_)
 ·obtain⟨_,_,rfl,_⟩:=h;rfl
 obtain⟨a,ns,rfl,hS,q⟩:=h;have nd:=AN.nd;refine⟨_,(aF (O6 (i:=1) (j:=2) rfl nd rfl rfl (by decide) rfl rfl (aA (aO cI (bK (qU T) hr T.kQ a8 (aA (bK (mE T) hr T.dS a8 (aA (pv 0) (aA aC aB))) (aA aC aB))) aC) (aA (aO cI (bK (qU T) hr T.kQ a8 (aA (bK (mE T) hr T.dS a8 (aA (pv 0) (aA aC aB))) (aA aC aB))) aC) aB)) rfl)
  (aF (bC 3 nd (aO cI (bK (qU T) hr T.kQ a8 (aA (bK (mE T) hr T.dS a8 (aA (pv 0) (aA aC aB))) (aA aC aB))) aC))
  (aF (b8 (aV gJ (aJ bA (bN (aA (aO dB aC (pv 1)) (aA (aO dB aC (pv 2)) (aA (pv 1) (aA (pv 2) aB))))) (pv 3) (λ_ _=>rfl)) aC (a7 _)) (aH (bC 3 nd (aO cI (aO bV (pv 3) aC) aC))) bD)
  (aF (bC 4 nd (bN (aA (cN (aA (pv 1) (aA (pv 2) aB))) aB)))
  (aF (bC 5 nd (bN aB))
  (aF (cQ PassesOwn.never rfl (bH rfl T.bW (aA (aO bV aC (aO cI (bK (qU T) hr T.kQ a8 (aA (bK (mE T) hr T.dS a8 (aA (pv 0) (aA aC aB))) (aA aC aB))) aC)) aB)) (aK (i:=6) nd rfl (Or.inl rfl)) (aF (bC 7 nd (bK (qU T) hr T.kQ a8 (aA (bK (mE T) hr T.dS a8 (aA (pv 0) (aA (aO bV aC (pv 6)) aB))) (aA aC aB))))
  (aF (bC 8 nd (aJ bA (bN (aA (aO dB aC (pv 1)) (aA (aO dB aC (pv 2)) (aA (pv 1) (aA (pv 2) aB))))) (pv 3) (λ_ _=>rfl)))
  (aF (b8 (aV gJ (pv 8) aC (a7 _)) (aH (aU (cN (aA (pv 4) (aA (pv 5) aB))))) bD)
  (aF (bC 9 nd (aO bV aC (aO cI (aO dN (pv 7) aC) (pv 8))))
  (aF (bC 1 nd (aO bV (pv 1) (aO cX (aJ bA (bN (aA aC (aA aC (aA (mV jD aC) (aA aC aB))))) (pv 3) (λ_ _=>rfl)) (pv 9))))
  (aF (bC 2 nd (aO bV (pv 2) (aO cX (aJ bA (bN (aA aC (aA aC (aA aC (aA (mV jD aC) aB))))) (pv 3) (λ_ _=>rfl)) (pv 9))))
  (aF (b8 (aV (PN hr.units) (cN (aA (pv 1) (aA (pv 2) aB))) (pv 4) rfl) (aH (aU (cN (aA (pv 4) (aA (pv 5) aB))))) bD)
  (aF (cF (jQ mAp bP (pv 4) (aA (cN (aA (pv 1) (aA (pv 2) aB))) aB)))
  (aF (cF (jQ mAp bP (pv 5) (aA (cN (aA (pv 3) (aA (pv 9) aB))) aB)))
  (aH (bC 3 nd (aO cI (aO bV (aO bV (pv 3) aC) (aO cX aC (aO cI (pv 7) aC))) aC)))))))))))))
  (aH (aU (cN (aA (pv 4) (aA (pv 5) aB))))))))))),?_⟩
 refine(fF _ rfl a ns _ rfl hS ⟨ by decide,λc1=>(aZ c1 _ rfl (by decide) (by decide) (λm1 _ _=>(aZ _ _ rfl rfl (by show(0:Int)<5;decide) ?_)))⟩);refine(fF _ rfl a ns _ rfl hS ⟨ by decide,λc2=>(aZ c2 _ rfl (by decide) (by decide) (λm2 _ _=>(aZ _ _ rfl rfl (by show(0:Int)<5;decide) ?_)))⟩);have gxy:GF.inG (m1%5,m2%5):=by unfold GF.inG;simp only;lia
 refine⟨_,_,rfl,?_⟩;refine(fF _ rfl a ns _ rfl hS ⟨ by decide,λc3=>(aZ c3 _ rfl (by decide) (by decide) (λm3 _ _=>(aZ _ _ rfl rfl (by show(0:Int)<4;decide) ?_)))⟩);have h40:0<=m3%4:=by lia
 have h41:m3%4<4:=by lia
 dsimp only[dR];generalize m3%4=hd at h40 h41 ⊢;refine via (λσ' H'=>∃hd:Int,0<=hd/\hd<4/\aW H H'/\σ'=[some (.ref a),some (.int (m1%5)),some (.int (m2%5)),some (.int hd),none,none,none,none,none,none]) (λk=>?_) ?_
 ·refine(bF _ rfl _ _ rfl rfl (bF _ rfl _ _ rfl rfl (bO _ rfl _ rfl (by show 4<=ZW;decide) (λp hp=>(aI _ rfl p _ _ _ rfl (hV rfl (SqL.of aE) (mK h40 h41) rfl _ rfl (eV (λ_=>?_) (λ_=>?_))))))))
  ·exact(bF _ rfl _ _ rfl rfl (aZ _ _ rfl rfl (by show(0:Int)<4;decide) (k _ _ ⟨(hd+2)%4,by lia,by lia,aG hp _,rfl⟩)))
  ·exact k _ _ ⟨hd,h40,h41,aG hp _,rfl⟩
 clear h40 h41 hd;generalize m1%5=x at gxy ⊢;generalize m2%5=y at gxy ⊢;rintro σ' H1 ⟨hd,h40,h41,g1,rfl⟩;refine(bO _ rfl _ rfl (by show 2<=ZW;decide) (λpt hpt=>⟨(by show 1<=ZW;decide),λca hca=>⟨(by show 0<=ZW;decide),λsa hsa=>?_⟩⟩));have s1:=aG hpt (.tup [.int x,.int y]);have e1:upd H1 pt (.tup [.int x,.int y]) pt=some (.tup [.int x,.int y]):=aE;dsimp only at hca hsa ⊢;generalize upd H1 pt (.tup [.int x,.int y])=H2 at s1 e1 hca hsa ⊢;have s2:=aG hca (.lst [.ref pt]);have e2:upd H2 ca (.lst [.ref pt]) ca=some (.lst ([pt].map V.ref)):=aE;have e3:=s2 _ _ e1;have g2:=(g1.trans s1).trans s2;have na:H ca=none:=(g1.trans s1).free hca;have nb:H sa=none:=g2.free hsa;have nab:ca≠sa:=λz=>by rw[<-z,e2]at hsa;cases hsa
 generalize upd H2 ca (.lst [.ref pt])=H3 at s2 e2 e3 g2 hsa ⊢;have s3:=aG hsa (.lst []);have t1:TsI (upd H3 sa (.lst [])) ca [(x,y)]:=⟨[pt],s3 _ _ e2,rfl,λi t h=>by
  cases i with
  |zero=>cases h;exact⟨pt,rfl,s3 _ _ e3⟩
  |succ i=>simp at h⟩
 have t2:TsI (upd H3 sa (.lst [])) sa []:=⟨[],aE,rfl,λi t h=>by simp at h⟩
 have g3:=g2.trans s3;generalize upd H3 sa (.lst [])=H4 at t1 t2 g3 ⊢;clear s1 s2 s3 e1 e2 e3 g1 g2 hca hsa hpt H1 H2 H3;have hS4:=g3.seq hS;refine(fF _ rfl a ns _ rfl hS4 ⟨ by decide,λc4=>(aZ c4 _ rfl (by decide) (by decide) (λm4 _ _=>(aZ _ _ rfl rfl (by show(0:Int)<6;decide) (zZ _ _ rfl rfl (1+m4%6) rfl (by lia) ⟨ by lia,?_⟩))))⟩);refine dJ (lo:=0) (n:=(1+m4%6).toNat) (λi σ H'=>∃(x y hd:Int) (cs ss:List (Int×Int)) (o6 o7 o8 o9:Option V),0<=hd/\hd<4/\σ=[some (.ref a),some (.int x),some (.int y),some (.int hd),some (.ref ca),some (.ref sa),o6,o7,o8,o9]/\aW H H'/\TsI H' ca cs/\TsI H' sa ss/\GF.Rw cs ss/\cs.getLast?=some (x,y))
  (cB x y hd _ _ _ _ (jK _ _ h40 h41 rfl g3 t1 ⟨ t2,.one gxy,rfl⟩)) ?_ ?_
 ·clear h40 h41 hd gxy t1 t2 g3 hS4 x y H4;rintro i σ H4 hi ⟨x,y,hd,cs,ss,o6,o7,o8,o9,h40,h41,rfl,g3,t1,t2,R,hl⟩;have hS4:=g3.seq hS;have gxy:GF.inG (x,y):=R.inn _ (List.mem_of_getLast? hl);have few:cs.length<=25:=by
   have:=(nS cs GF.fW R.nd λp hp=>GF.pI (R.inn p hp)).1;exact this
  have few2:=R.len;refine(bR _ rfl _ rfl _ _ rfl (oG rfl a ns _ rfl hS4 (by show 0<=1+(0+(i:Int));lia) (λc=>(aZ c _ rfl (by decide) (by decide) (λm m0 _=>?_)))));have r0:=IL h40 h41 gxy;refine(bF _ rfl _ _ rfl rfl (bF _ rfl _ _ rfl rfl (bO _ rfl _ rfl (by show 4<=ZW;decide) (λp hp=>(aI _ rfl p _ _ _ rfl ⟨ rfl,SqL.of aE,mK h40 h41,?_⟩)))));have s5:=aG hp (.lst [.int (4-x),.int (4-y),.int x,.int y]);dsimp only[dR];generalize upd H4 p (.lst [.int (4-x),.int (4-y),.int x,.int y])=H5 at s5 ⊢;refine(fQ _ rfl rfl _ rfl (eV (λ_=>?_) (λcr=>?_)))
  ·refine(bO _ rfl _ rfl (by show 2<=ZW;decide) (λr hr0=>?_));have s6:=s5.trans (aG hr0 (.tup [.ref ca,.ref sa]));exact q r ca sa cs ss _ (g3.trans s6) aE (t1.same s6) (t2.same s6) R
  have rne:pick hd (4-x) (4-y) x y≠0:=by simpa using cr
  have rok:0<pick hd (4-x) (4-y) x y:=by lia
  refine(bM _ rfl _ _ rfl rfl ⟨by decide,by decide⟩ (bM _ rfl _ _ rfl rfl rok ⟨ _,_,rfl,rfl,?_⟩));have f1:1<=1+m / 2%pick hd (4-x) (4-y) x y:=by have:=Xj (m / 2) rne;lia
  have f2:1+m / 2%pick hd (4-x) (4-y) x y<=pick hd (4-x) (4-y) x y:=by have:=Xk (m / 2) rok;lia
  dsimp only[dR];generalize 1+m / 2%pick hd (4-x) (4-y) x y=far at f1 f2 ⊢;obtain⟨gn,f4⟩:=LL h40 h41 gxy f1 f2;refine(bO _ rfl _ rfl (by show 4<=ZW;decide) (λp1 hp1=>(aI _ rfl p1 _ _ _ rfl (bZ rfl (SqL.of aE) (mK h40 h41) _ rfl (aZ _ _ rfl rfl ?_ ⟨ _,_,rfl,rfl,?_⟩)))))
  ·exact .inr ⟨by show -(2 ^ 64)<far;lia,by show far<2 ^ 64;lia⟩
  rw[IZ h40 h41];have s6:=s5.trans (aG hp1 (.lst [.int 1,.int 0,.int (-1),.int 0]));dsimp only[dR];generalize upd H5 p1 (.lst [.int 1,.int 0,.int (-1),.int 0])=H6 at s6 ⊢;refine(bO _ rfl _ rfl (by show 4<=ZW;decide) (λp2 hp2=>(aI _ rfl p2 _ _ _ rfl (bZ rfl (SqL.of aE) (mK h40 h41) _ rfl (aZ _ _ rfl rfl ?_ ⟨ _,_,rfl,rfl,?_⟩)))))
  ·exact .inr ⟨by show -(2 ^ 64)<far;lia,by show far<2 ^ 64;lia⟩
  rw[IY h40 h41];have s7:=s6.trans (aG hp2 (.lst [.int 0,.int 1,.int 0,.int (-1)]));dsimp only[dR];generalize upd H6 p2 (.lst [.int 0,.int 1,.int 0,.int (-1)])=H7 at s7 ⊢;clear s5 s6 hp hp1 hp2;refine(bO _ rfl _ rfl (by show 2<=ZW;decide) (λp3 hp3=>?_));have s8:=s7.trans (aG hp3 (.tup [.int (x+GF.dX hd*far),.int (y+GF.dY hd*far)]));have e3:upd H7 p3 (.tup [.int (x+GF.dX hd*far),.int (y+GF.dY hd*far)]) p3=some (.tup [.int (x+GF.dX hd*far),.int (y+GF.dY hd*far)]):=aE;dsimp only;generalize upd H7 p3 (.tup [.int (x+GF.dX hd*far),.int (y+GF.dY hd*far)])=H8 at s8 e3 ⊢;have t18:=t1.same s8;have t28:=t2.same s8;have g8:=g3.trans s8;obtain⟨tr,b1,b2,b3⟩:=t18.bds (K:=K);refine(aI _ rfl ca _ _ _ rfl (gO (SqL.of b1) (.tup (SqT.of e3) (.cons (.int _) (.cons (.int _) .nil))) b3 (AI _ _) (yY _) ?_));rw[FO];refine⟨_,rfl,eV (λ_=>?_) (λcn=>?_)⟩
  ·refine(bO _ rfl _ rfl (by show 2<=ZW;decide) (λr hr0=>?_));have s9:=aG hr0 (.tup [.ref ca,.ref sa]);exact q r ca sa cs ss _ (g8.trans s9) aE (t18.same s9) (t28.same s9) R
  have cn:(x+GF.dX hd*far,y+GF.dY hd*far)∉cs:=by simpa using cn
  have R2:=R.more hl (s:=(hd,far)) ⟨h40,h41,f1,f4⟩ gn cn;clear b1 b2 b3 tr e3;refine(jM _ rfl (.inl ⟨rfl,_,SqL.of t18.choose_spec.1⟩) _ rfl _ rfl ⟨ (by show 2<=ZW;decide),λp4 hp4=>?_⟩);have s9:=aG hp4 (.tup [.int (x+GF.dX hd*far),.int (y+GF.dY hd*far)]);have e4:upd H8 p4 (.tup [.int (x+GF.dX hd*far),.int (y+GF.dY hd*far)]) p4=some (.tup [.int (x+GF.dX hd*far),.int (y+GF.dY hd*far)]):=aE;dsimp only;generalize upd H8 p4 (.tup [.int (x+GF.dX hd*far),.int (y+GF.dY hd*far)])=H9 at s9 e4 ⊢;obtain⟨tr,b1,b2,b3⟩:=t18.same s9;have t29:=t28.same s9;refine(bG ca _ _ rfl rfl b1 (by rw[Zq,b2];exact Ys few (by decide)) ?_);have u1:=TsI.push b1 b2 b3 e4;have u2:=t29.far (l':=tr.map V.ref++[.ref p4]) b1 (Ne.symm nab);have g10:=(g8.trans s9).fresh na (.lst (tr.map V.ref++[.ref p4]));dsimp only;generalize upd H9 ca (.lst (tr.map V.ref++[.ref p4]))=H10 at u1 u2 g10 ⊢;refine(jM _ rfl (.inl ⟨rfl,_,SqL.of u2.choose_spec.1⟩) _ rfl _ rfl ⟨ (by show 2<=ZW;decide),λp5 hp5=>?_⟩);have s11:=aG hp5 (.tup [.int hd,.int far]);have e5:upd H10 p5 (.tup [.int hd,.int far]) p5=some (.tup [.int hd,.int far]):=aE;dsimp only;generalize upd H10 p5 (.tup [.int hd,.int far])=H11 at s11 e5 ⊢;obtain⟨tr2,d1,d2,d3⟩:=u2.same s11;have u3:=u1.same s11;refine(bG sa _ _ rfl rfl d1 (by rw[Zq,d2];exact Ys (show ss.length<=25 by lia) (by decide)) ?_);have v2:=TsI.push d1 d2 d3 e5;have v1:=u3.far (l':=tr2.map V.ref++[.ref p5]) d1 nab;have g12:=(g10.trans s11).fresh nb (.lst (tr2.map V.ref++[.ref p5]));dsimp only;refine(bF _ rfl _ _ rfl rfl (bM _ rfl _ _ rfl rfl (by show(0:Int)<2;decide) (aZ _ _ rfl rfl (.inl ⟨by decide,by decide⟩) (dH _ _ rfl rfl _ _ rfl ⟨ rfl,(by show(0:Int)<4;decide),?_⟩))));exact(cB _ _ ((hd+1+2*(m%2))%4) _ _ _ _ (jK _ _ (by lia) (by lia) rfl g12 v1 ⟨ v2,R2,by rw[List.getLast?_concat]⟩))
 ·rintro σ H5 ⟨x,y,hd,cs,ss,o6,o7,o8,o9,_,_,rfl,g5,t1,t2,R,_⟩;refine(bO _ rfl _ rfl (by show 2<=ZW;decide) (λr hr0=>?_));have s6:=aG hr0 (.tup [.ref ca,.ref sa]);exact q r ca sa cs ss _ (g5.trans s6) aE (t1.same s6) (t2.same s6) R
end K49
namespace L2
open PySem PySem.Spec PyProof.Rows
theorem JT{X:Cx}{K:PySem.W.Frag}{o e:Expr}{es:List Expr}{to:TE}{t:TA}{name:Str}{apos cpos:Pos}{T id:String}{r:V->List V->Hp->VK->Prop}(hK:X.K=K)(pa:PlainAttrs T)(slot:Slot T name id)(hty:typeOf (.builtin id)=pure (.type "method_descriptor"))(hm:MtR X id r)(ho:PE X o to)(ha:PA X (e::es) t)
  (hbase:attributeBase o name X.env (eval o X.env)=eval o X.env:=by rfl)
  (hfew:((backTo cpos (starEach (e::es) X.env)).all (λx=>!x.1)&&(backToKw cpos (keywordEach [] X.env)).all (λx=>x.1.isSome)
   && decide ((e::es).length+([]:List Keyword).length+(if ([]:List Keyword).isEmpty then 0 else 1)<30))=true:=by rfl)
  (hline:(apos.endLine==cpos.line)=true:=by rfl) (hs:starEach (e::es) X.env=(false,eval e X.env)::starEach es X.env:=by rfl) (hplain:(backTo cpos (starEach es X.env)).any (·.1)=false:=by rfl) :
  PE X (.Call (.Attribute o name apos) (e::es) [] cpos) (tBM K T r to t):=by
 subst hK;exact uJ pa slot hty hm ho ha hbase hfew hline hs hplain
end L2
namespace GF
instance {a b c d:Pt}:Decidable (j7 a b c d):=by unfold j7;infer_instance
end GF
namespace L2
open PySem PySem.Spec PyProof.Rows
theorem MQ{X:Cx}{K:PySem.W.Frag}(h:X.K=K):SlR X (RK K):=by subst h;exact OV
theorem MR{X:Cx}{K:PySem.W.Frag}(h:X.K=K)(hu:X.A.units+64<cLine):OpR X (compareOp .Eq) (O3 K false):=by subst h;exact nQ hu
theorem DE{X:Cx}{K:PySem.W.Frag}(hK:X.K=K)(hu:X.A.units+64<cLine):OpR X (compareOp .NotIn) (O2 K true):=by subst hK;exact F5 hu
theorem u4{X:Cx}{K:PySem.W.Frag}(hK:X.K=K)(hu:X.A.units+64<cLine):MtM X "list.index" (EE K):=by subst hK;exact GG hu
abbrev PtH(H:Hp)(r:Addr)(p:Int×Int):Prop:=H r=some (.tup [.int p.1,.int p.2])
theorem wY{X:Cx}:dG X (.builtin "sorted") (λxs H Q=>∃(p a b:Addr) (u v:Int×Int),xs=[.ref p]/\H p=some (.tup [.ref a,.ref b])/\PtH H a u/\PtH H b v /\
  ∀(l:Addr) (us:AW.Ts) (H':Hp),aW H H'->us.Perm [u,v]->(us.Pairwise λa b=>SO.lx (AW.ky b) (AW.ky a)=false)->TsI H' l us->Q (.ref l) H'):=by
 intro pins s σ H xs us Q I r h;obtain⟨p,a,b,u,v,rfl,hp,ha,hb,q⟩:=h;have ea:=tG ha;have eb:=tG hb;refine wX pins s σ H _ us Q I r ⟨p,[a,b],λq=>AW.ky (sW H q),rfl,hp,λq hq=>?_,(by show 2<64;decide),λl ps hl pm hs=>?_⟩
 ·refine⟨List.cons_ne_nil _ _,?_⟩;dsimp only;rcases Zn.mp hq with rfl | z
  ·rw[ea];exact ha
  ·rw[Zb.mp z,eb];exact hb
 ·have g:=aG hl (.lst (ps.map V.ref));have e:[a,b].map (sW H)=[u,v]:=by show[sW H a,sW H b]=_;rw[ea,eb]
  refine q l (ps.map (sW H)) _ g (e▸pm.map _) (List.pairwise_map.mpr hs) (TsI.of aE λx hx=>g _ _ ?_);rcases Zn.mp (pm.mem_iff.mp hx) with rfl | z
  ·rw[ea];exact ha
  ·rw[Zb.mp z,eb];exact hb
theorem IM{tr:List Addr}{j:Nat}(h:j<tr.length):(tr.map V.ref)[j]?=some (.ref (tr.getD j 0)):=by
 rw[Zk,Zz h];simp[List.getD,h]
theorem TsI.sel{H:Hp}{D:Addr}{ts:AW.Ts}{tr:List Addr}(h2:tr.length=ts.length)(h3:∀(i:Nat) t,ts[i]?=some t->∃r,tr[i]?=some r/\PtH H r t)(idx:List Nat)(hi:∀j∈idx,j<ts.length)
  (e:H D=some (.lst (idx.map λj=>V.ref (tr.getD j 0)))):TsI H D (idx.map λj=>ts.getD j (0,0)):=by
 refine⟨idx.map λj=>tr.getD j 0,by rw[e,Yh];rfl,by simp,λi t q=>?_⟩;rw[Zk]at q;obtain⟨j,j1,rfl⟩:=Xz.mp q;have hj:=hi j (Zg j1);obtain⟨r,r1,r2⟩:=h3 j _ (Zz hj);refine⟨r,by rw[Zk,j1];show some (tr.getD j 0)=_;rw[Zv,r1];rfl,?_⟩;rw[Zv,Zz hj];exact r2
def QdA(H:Hp)(r:Addr)(q:GF.Qd):Prop:=∃a b:Addr,H r=some (.tup [.ref a,.ref b,.int q.2.2.1,.int q.2.2.2])/\PtH H a q.1/\PtH H b q.2.1
def QsI(H:Hp)(D:Addr)(qs:List GF.Qd):Prop:=∃tr:List Addr,H D=some (.lst (tr.map V.ref))/\tr.length=qs.length/\∀(i:Nat) q,qs[i]?=some q->∃r,tr[i]?=some r/\QdA H r q
theorem QdA.same{H H':Hp}{r:Addr}{q:GF.Qd}(h:QdA H r q)(g:aW H H'):QdA H' r q:=let⟨a,b,h1,h2,h3⟩:=h;⟨a,b,g _ _ h1,g _ _ h2,g _ _ h3⟩
theorem QsI.same{H H':Hp}{D:Addr}{qs:List GF.Qd}(h:QsI H D qs)(g:aW H H'):QsI H' D qs:=let⟨tr,h1,h2,h3⟩:=h;⟨tr,g _ _ h1,h2,λi q e=>let⟨r,r1,r2⟩:=h3 i q e;⟨r,r1,r2.same g⟩⟩
theorem QdA.put{H:Hp}{D r:Addr}{l l':List V}{q:GF.Qd}(h:QdA H r q)(e:H D=some (.lst l)):QdA (upd H D (.lst l')) r q:=by
 have ne:∀{b:Addr}{l:List V},H b=some (.tup l)->b≠D:=λhb z=>by rw[z,e]at hb;cases hb
 obtain⟨a,b,h1,h2,h3⟩:=h;exact⟨a,b,by rw[aL (ne h1)];exact h1,by unfold PtH;rw[aL (ne h2)];exact h2,by unfold PtH;rw[aL (ne h3)];exact h3⟩
theorem QsI.push{H:Hp}{D r:Addr}{qs:List GF.Qd}{tr:List Addr}{q:GF.Qd}(h1:H D=some (.lst (tr.map V.ref)))(h2:tr.length=qs.length)(h3:∀(i:Nat) q,qs[i]?=some q->∃r,tr[i]?=some r/\QdA H r q)(hr:QdA H r q):QsI (upd H D (.lst (tr.map V.ref++[.ref r]))) D (qs++[q]):=by
 refine⟨tr++[r],by rw[Zt];exact aE,by simp[h2],λi s e=>?_⟩;by_cases c:i<qs.length
 ·rw[Zx c]at e;obtain⟨x,e1,e2⟩:=h3 i s e;exact⟨x,by rw[Zx (by lia)];exact e1,e2.put h1⟩
 ·have hi:=(Zj.mp e).1;rw[Zm,ZQ]at hi;have:i=qs.length:=by lia
  subst this;rw[Yx]at e;cases e;exact⟨r,by rw[<-h2,Yx],hr.put h1⟩
theorem QsI.put{H:Hp}{D r:Addr}{qs:List GF.Qd}{tr:List Addr}{q:GF.Qd}{j:Nat}(h1:H D=some (.lst (tr.map V.ref)))(h2:tr.length=qs.length)(h3:∀(i:Nat) q,qs[i]?=some q->∃r,tr[i]?=some r/\QdA H r q)(hr:QdA H r q):QsI (upd H D (.lst ((tr.map V.ref).set j (.ref r)))) D (qs.set j q):=by
 refine⟨tr.set j r,by rw[List.map_set];exact aE,by simp[h2],λi s e=>?_⟩;rw[List.getElem?_set]at e ⊢;by_cases c:j=i
 ·rw[if_pos c]at e ⊢;by_cases d:j<qs.length
  ·rw[if_pos d]at e;rw[if_pos (by lia)];cases e;exact⟨r,rfl,hr.put h1⟩
  ·rw[if_neg d]at e;cases e
 ·rw[if_neg c]at e ⊢;obtain⟨x,e1,e2⟩:=h3 i s e;exact⟨x,e1,e2.put h1⟩
theorem PtH.put{H:Hp}{D r:Addr}{l l':List V}{p:Int×Int}(h:PtH H r p)(e:H D=some (.lst l)):PtH (upd H D (.lst l')) r p:=by
 have ne:r≠D:=λz=>by rw[PtH,z,e]at h;cases h
 unfold PtH;rw[aL ne];exact h
theorem E1{K:PySem.W.Frag}{H:Hp}{D:Addr}{ts:AW.Ts}(h:TsI H D ts){p:Int×Int}(hp:p∈ts):∃xs,H D=some (.lst xs)/\Bds K H xs (dTI ts)/\(∃d,(dTI ts)[ts.idxOf p]?=some d/\PyData.eqv d (.tuple [.int p.1,.int p.2])=true)/\∀(m:Nat) d,m<ts.idxOf p->(dTI ts)[m]?=some d->PyData.eqv d (.tuple [.int p.1,.int p.2])=false:=by
 obtain⟨tr,b1,b2,b3⟩:=h.bds (K:=K);have hl:=List.idxOf_lt_length_of_mem hp;refine⟨_,b1,b3,⟨.tuple [.int p.1,.int p.2],?_,by simp[PyData.eqv,PyData.eqvAll]⟩,λm d hm e=>?_⟩
 ·rw[dTI,Zk,Zz hl,List.getElem_idxOf];rfl
 ·rw[dTI,Zk]at e;obtain⟨u,u1,rfl⟩:=Xz.mp e;have hm':m<ts.length:=by lia
  rw[Zz hm']at u1;cases u1;have ne:(ts[m]==p)=false:=by
   have:=List.not_of_lt_findIdx (p:=(·==p)) (xs:=ts) (i:=m) hm;simpa using this
  have ne:ts[m]≠p:=by simpa using ne
  rw[Bool.eq_false_iff];intro z;simp only[PyData.eqv,PyData.eqvAll]at z;have z:ts[m].1=p.1/\ts[m].2=p.2:=by simpa using z
  exact ne (Prod.ext z.1 z.2)
theorem AR{H:Hp}{p1 p2 p3 p4:Addr}{x1 y1 x2 y2 h m:Int}{l:List V}(n1:H p1=none)(n2:upd H p1 (.tup [.int x1,.int y1]) p2=none)(n3:upd (upd H p1 (.tup [.int x1,.int y1])) p2 (.tup [.int x2,.int y2]) p3=none)
  (n4:upd (upd (upd H p1 (.tup [.int x1,.int y1])) p2 (.tup [.int x2,.int y2])) p3 (.lst l) p4=none) :
  aW H (upd (upd (upd (upd H p1 (.tup [.int x1,.int y1])) p2 (.tup [.int x2,.int y2])) p3 (.lst l)) p4 (.tup [.ref p1,.ref p2,.int h,.int m]))/\QdA (upd (upd (upd (upd H p1 (.tup [.int x1,.int y1])) p2 (.tup [.int x2,.int y2])) p3 (.lst l)) p4 (.tup [.ref p1,.ref p2,.int h,.int m])) p4 ((x1,y1),(x2,y2),h,m):=by
 have s1:=aG n1 (.tup [.int x1,.int y1]);have s2:=aG n2 (.tup [.int x2,.int y2]);have s3:=aG n3 (.lst l);have s4:=aG n4 (.tup [.ref p1,.ref p2,.int h,.int m]);exact⟨s1.trans (s2.trans (s3.trans s4)),p1,p2,aE,s4 _ _ (s3 _ _ (s2 _ _ aE)),s4 _ _ (s3 _ _ aE)⟩
theorem TC(y:Int):inV (.int y) [.int 0,.int 4]=decide (y=0\/y=4):=by
 rw[Xx];simp only[inV,List.any_cons,List.any_nil,Bool.or_false,Bool.or_eq_true,decide_eq_true_iff,eqV];simp;constructor
 ·rintro(h | h)<;>lia
 ·rintro(h | h)<;>lia
theorem RX(y:Int):(-1-if inV (.int y) [.int 0,.int 4]=true then 1 else 0:Int) = -1-if y=0\/y=4 then 1 else 0:=by
 rw[TC];by_cases c:y=0\/y=4<;>simp[c]
end L2
namespace K49
open PySem L2 PyProof.Rows
def OR(K:PySem.W.Frag):Sp:=λvs H Q _=>∃(a ca sa:Addr) (ns:List Int) (cs ss:List (Int×Int)),vs=[.ref a,.ref ca,.ref sa]/\SqL K H a (ns.map V.int)/\TsI H ca cs/\TsI H sa ss/\GF.Rw cs ss /\
 ∀(r m pr ta ha:Addr) (T:MM.aY) (hs pcs:List Int) (H':Hp),aW H H'->H' r=some (.tup [.ref m,.ref pr])->dE H' m 25 T hs ta ha->H' pr=some (.lst (pcs.map V.int))->LdR 25 T hs->T.length=40->pcs.length=40->Q (.ref r) H'
theorem JH(T:Txt K mg t):cJ P w K mg base CX0 2 t.B8 t.BX ["_law_script","_law_corners","_law_steps"] (OR K):=by
 refine T.BO.F.ok xH (λvs H Q E h=>?_) (λcdv A outer s H vs Q E hr h=>?_)
 ·obtain⟨_,_,_,_,_,_,rfl,_⟩:=h;rfl
 obtain⟨a,ca,sa,ns,cs,ss,rfl,hS,tc,ts,R,q⟩:=h;have nd:=xH.nd;have hu64:=hr.units;have nd_l_tie:(["_law_tie"]:List Str).Nodup:=by decide
 have nd_l_one_l_other_here_l_head_l_piece_l_order:(["_law_one","_law_other_here","_law_head","_law_piece","_law_order"]:List Str).Nodup:=by decide
 have nd_l_k_l_here_l_ahead_l_ties:(["_law_k","_law_here","_law_ahead","_law_ties"]:List Str).Nodup:=by decide
 have nd_l_k_l_others:(["_law_k","_law_others"]:List Str).Nodup:=by decide
 have nd_l_point_l_corners:(["_law_point","_law_corners"]:List Str).Nodup:=by decide
 have nd_l_k:(["_law_k"]:List Str).Nodup:=by decide
 refine⟨_,(aF (bU (i:=3) nd rfl (Or.inl rfl)  (N':=["_law_k"]) (js:=[none]) rfl (bH rfl T.bW (aA aC aB)) (λ_ _ _ _ _=>(aK (i:=0) nd_l_k rfl (Or.inl rfl))) (λ_ _ _ _ _=>b9) (λ_ _ _ _ _=>(cN (aA (aO cI (pv 0) aC) (aA (aO dN (pv 0) aC) aB)))))
  (aF (bC 4 nd (cG (N':=["_law_point","_law_corners"]) (js:=[none,some 1]) rfl (bJ (pv 3)) (λ_ _ _ _ _=>(aK (i:=0) nd_l_point_l_corners rfl (Or.inl rfl))) (λ_ _ _ _ _=>(lL (aV (DE (K:=K) rfl hu64) (pv 0) (pv 1) rfl))) (λ_ _ _ _ _=>(pv 0))))
  (aF (bC 5 nd (aO zE (pv 1) (cG (N':=["_law_k","_law_others"]) (js:=[none,some 4]) rfl (bJ (bK (C3 T) hr T.vH a8 (aA (bK (qU T) hr T.kQ a8 (aA (bK (mE T) hr T.dS a8 (aA (pv 0) (aA aC aB))) (aA aC aB))) (aA (aQ aN rfl T.b7 PySem.boot_len (aA (pv 4) aB)) aB)))) (λ_ _ _ _ _=>(aK (i:=0) nd_l_k_l_others rfl (Or.inl rfl))) (λ_ _ _ _ _=>b9) (λ_ _ _ _ _=>(aJ (dC (K:=K) rfl) (pv 1) (pv 0) (λ_ _=>rfl))))))
  (aF (bC 6 nd (bN aB))
  (aF (cQ PassesOwn.never rfl (bJ (pv 3)) (fU rfl (bB (aK (i:=7) nd rfl (Or.inl rfl)) (bB (aK (i:=8) nd rfl (Or.inl rfl)) cZ))) (aF (b8 (aV iF (pv 7) aC (a7 _)) (aH (cF (jQ mAp bP (pv 6) (aA (cN (aA (cN (aA (pv 7) (aA (pv 8) aB))) (aA (cN (aA (aO bV (pv 7) aC) (aA (pv 8) aB))) (aA aC (aA (aO dB (mV jD aC) (cY yF rfl T.NA boot_int (aA (dZ qT (pv 8) (bN (aA aC (aA aC aB))) rfl) aB))) aB))))) aB)))) bD)
  (aH (b8 (aV iF (pv 8) aC (a7 _)) (aH (cF (jQ mAp bP (pv 6) (aA (cN (aA (cN (aA (pv 7) (aA (pv 8) aB))) (aA (cN (aA (pv 7) (aA (aO bV (pv 8) aC) aB))) (aA aC (aA (aO dB (mV jD aC) (cY yF rfl T.NA boot_int (aA (dZ qT (pv 7) (bN (aA aC (aA aC aB))) rfl) aB))) aB))))) aB)))) bD))))
  (aF (bC 9 nd (aJ bA (pv 1) aC (λ_ _=>rfl)))
  (aF (cQ PassesOwn.never rfl (oX rfl T.gG (aA (pv 2) aB)) (fU rfl (bB (aK (i:=10) nd rfl (Or.inl rfl)) (bB (fU rfl (bB (aK (i:=11) nd rfl (Or.inl rfl)) (bB (aK (i:=12) nd rfl (Or.inl rfl)) cZ))) cZ))) (aH (cQ PassesOwn.never rfl (bH rfl T.bW (aA (pv 12) aB)) (aK (i:=13) nd rfl (Or.inl rfl)) (aF (bC 14 nd (cN (aA (aO bV (aJ aT (pv 9) aC (λ_ _=>rfl)) (aJ bA (bN (aA aC (aA aC (aA (mV jD aC) (aA aC aB))))) (pv 11) (λ_ _=>rfl))) (aA (aO bV (aJ aT (pv 9) aC (λ_ _=>rfl)) (aJ bA (bN (aA aC (aA aC (aA aC (aA (mV jD aC) aB))))) (pv 11) (λ_ _=>rfl))) aB))))
  (aF (bU (i:=15) nd rfl (Or.inl rfl)  (N':=["_law_k","_law_here","_law_ahead","_law_ties"]) (js:=[none,some 9,some 14,some 6]) rfl (bH rfl T.bW (aA (aQ aN rfl T.b7 PySem.boot_len (aA (pv 6) aB)) aB)) (λ_ _ _ _ _=>(aK (i:=0) nd_l_k_l_here_l_ahead_l_ties rfl (Or.inl rfl))) (λ_ _ _ _ _=>(lL (aV (MR (K:=K) rfl hu64) (aQ wY rfl T.fC boot_sorted (aA (JB (MQ (K:=K) rfl) (aJ (dC (K:=K) rfl) (pv 3) (pv 0) (λ_ _=>rfl)) LZ (LY aC)) aB)) (aQ zP rfl T.fC boot_sorted (aA (bN (aA (pv 1) (aA (pv 2) aB))) aB)) (a7 _)))) (λ_ _ _ _ _=>(pv 0)))
  (aF (qR (cN (aA (pv 9) (aA (pv 14) (aA (pv 11) (aA (pv 10) aB))))) (CZ (pv 6) (aJ bA (pv 15) aC (λ_ _=>rfl)) set_list))
  (aH (bC 9 nd (pv 14)))))))))
  (aF (bU (i:=16) nd rfl (Or.inl rfl)  (N':=["_law_one","_law_other_here","_law_head","_law_piece","_law_order"]) (js:=[none,none,none,none,some 5]) rfl (bJ (pv 6)) (λ_ _ _ _ _=>(pG (K:=K) (n:=4) rfl rfl (bB (aK (i:=0) nd_l_one_l_other_here_l_head_l_piece_l_order rfl (Or.inl rfl)) (bB (aK (i:=1) nd_l_one_l_other_here_l_head_l_piece_l_order rfl (Or.inl rfl)) (bB (aK (i:=2) nd_l_one_l_other_here_l_head_l_piece_l_order rfl (Or.inl rfl)) (bB (aK (i:=3) nd_l_one_l_other_here_l_head_l_piece_l_order rfl (Or.inl rfl)) cZ)))))) (λ_ _ _ _ _=>b9) (λ_ _ _ _ _=>(cN (aA (JT (K:=K) rfl PySem.F.plainAttrs_list PySem.F.slot_list_index PySem.F.type_list_index (u4 (K:=K) rfl hu64) (pv 4) (aA (pv 0) aB)) (aA (JT (K:=K) rfl PySem.F.plainAttrs_list PySem.F.slot_list_index PySem.F.type_list_index (u4 (K:=K) rfl hu64) (pv 4) (aA (pv 1) aB)) aB)))))
  (aH (aU (cN (aA (cN (aA aC (aA (pv 16) (aA (cG (N':=["_law_tie"]) (js:=[none]) rfl (bJ (pv 6)) (λ_ _ _ _ _=>(aK (i:=0) nd_l_tie rfl (Or.inl rfl))) (λ_ _ _ _ _=>b9) (λ_ _ _ _ _=>(aJ (jB (K:=K) rfl) (pv 0) aC (λ_ _=>rfl)))) aB)))) (aA (cG (N':=["_law_tie"]) (js:=[none]) rfl (bJ (pv 6)) (λ_ _ _ _ _=>(aK (i:=0) nd_l_tie rfl (Or.inl rfl))) (λ_ _ _ _ _=>b9) (λ_ _ _ _ _=>(aJ (jB (K:=K) rfl) (pv 0) aC (λ_ _=>rfl)))) aB))))))))))))),?_⟩
 refine⟨25,rfl,by decide,by decide,λD3 hD3=>?_⟩;refine pX 25 GF.pnt hD3 (by decide) (λi H' hi g'=>?_) (λH' g'=>?_) (λi H' x H'' k hi g' hY hk=>?_) ?_
 ·show i<((25:Int)-0).toNat;lia
 ·show((25:Int)-0).toNat<=25;decide
 ·obtain⟨rfl,rfl⟩:=hY;refine(iC ((Fills.refl _).set _ rfl) _ rfl _ _ rfl rfl (iC (by show(0:Int)<5;decide) _ rfl _ _ rfl rfl ⟨ ⟨by decide,by decide⟩,(by show 2<=ZW;decide),λz hz=>?_⟩));have e0:HO.tup [V.int ((0+(i:Int))%5),V.int ((0+(i:Int)) / 5)]=.tup [.int (GF.pnt i).1,.int (GF.pnt i).2]:=by
   unfold GF.pnt;rw[Int.zero_add]
  dsimp only;rw[e0];exact hk z _ (aG hz _) aE
 intro H1 p0 g1;have p1:TsI H1 D3 GF.fW:=p0;clear p0;have tc1:=tc.same g1;obtain⟨tr3,b1,b2,b3⟩:=id p1;have b2:tr3.length=25:=b2;have l3:(tr3.map V.ref).length=25:=by rw[Zq,b2]
 refine(bO _ rfl D3 rfl ⟨_,SqL.of b1⟩ (λD4 hD4=>?_));refine fY 25 (λj=>.ref (tr3.getD j 0)) (λj=>decide (GF.pnt j∉cs)) hD4 (by decide) (λj H' hj g'=>⟨_,_,SqL.of (g' _ _ b1),Zz (by rw[l3];exact hj)⟩) (λH' g'=>⟨_,SqL.of (g' _ _ b1),by rw[l3];exact Nat.le_refl _⟩) (λj H' x H'' kt kf hj g' hY ht hf=>?_) ?_
 ·obtain⟨rfl,hY⟩:=hY;have ex:=hY _ (SqL.of (g' _ _ b1));obtain⟨r,r1,r2⟩:=b3 j (GF.pnt j) (by rw[GF.fW,Zk,Yk hj];rfl);have er:tr3.getD j 0=r:=by rw[Zv,r1];rfl
  rw[Zk,r1]at ex;cases ex;have r2:=g' _ _ r2;obtain⟨trc,c1,c2,c3⟩:=(tc1.same g').bds (K:=K);refine(gN ((Fills.refl _).set _ rfl) _ rfl _ rfl (aS ca _ _ _ rfl (SqL.of c1) (.tup (SqT.of r2) (.cons (.int _) (.cons (.int _) .nil))) ⟨ c3,AI _ _,yY _,?_⟩));rw[FO];refine⟨_,rfl,eV (λz=>?_) (λz=>?_)⟩
  ·have z:GF.pnt j∉cs:=by simpa using z
   have:=ht (decide_eq_true z) _ (aW.refl _);rw[er]at this;exact⟨_,rfl,this⟩
  ·have z:¬GF.pnt j∉cs:=by simpa using z
   exact hf (decide_eq_false z) _ (aW.refl _)
 intro H2 g2 e2;have b3':∀(i:Nat) t,GF.fW[i]?=some t->∃r,tr3[i]?=some r/\PtH H2 r t:=λi t e=>let⟨r,r1,r2⟩:=b3 i t e;⟨r,r1,g2 _ _ r2⟩;have o2:TsI H2 D4 (GF.fW.filter λp=>decide (p∉cs)):=by
  have:=TsI.sel (D:=D4) (ts:=GF.fW) b2 b3' ((List.range 25).filter λj=>decide (GF.pnt j∉cs)) (λj hj=>Zs.mp (Yz.mp hj).1) e2;have e:((List.range 25).filter λj=>decide (GF.pnt j∉cs)).map (λj=>GF.fW.getD j (0,0))=GF.fW.filter λp=>decide (p∉cs):=by
   rw[GF.fW,List.filter_map];refine Yn λj hj=>?_;have hj:=Zs.mp (Yz.mp hj).1;rw[Zv,Zk,Yk hj];rfl
  rw[e]at this;exact this
 have ol:(GF.fW.filter λp=>decide (p∉cs)).length<=25:=List.length_filter_le _ _;have oa:=λps h1 h2 h3=>GF.F4 R.inn R.nd (ps:=ps) h1 h2 h3;generalize GF.fW.filter (λp=>decide (p∉cs))=os at o2 ol oa;have g02:=g1.trans g2;have b12:=g2 _ _ b1;obtain⟨tr4,d1,d2,d3⟩:=id o2;clear e2 hD3 hD4 p1 b3;refine⟨_,(oH rfl _ rfl a ns _ rfl ⟨ g02.seq hS,by decide,λc8=>(aZ c8 _ rfl (by decide) (by decide) (λm8 m0 _=>(bF _ rfl D4 _ rfl (.inl (SqL.of d1)) (aZ m8 os.length ?_ m0 (by lia) (λr ps hr0 n1 n2 n3=>?_)))))⟩)⟩
 ·show[V.int m8,V.int (((tr4.map V.ref).length:Nat):Int)]=[V.int m8,vn os.length]
  rw[Zq,d2]
 have s3:=aG hr0 (.lst (vns ps));have e3:upd H2 r (.lst (vns ps)) r=some (.lst (vns ps)):=aE;dsimp only;generalize upd H2 r (.lst (vns ps))=H3 at s3 e3 ⊢;obtain⟨oA,oB⟩:=oa ps n1 n2 n3;refine⟨r,rfl,⟨_,SqL.of e3⟩,λD5 hD5=>?_⟩;refine bS ps.length (λi=>.ref (tr4.getD (ps.getD i 0) 0)) hD5 (by lia) (λi H' hi g'=>⟨_,_,SqL.of (g' _ _ e3),l9 hi⟩) (λH' g'=>⟨_,SqL.of (g' _ _ e3),by rw[Zq];exact Nat.le_refl _⟩) ?_ ?_
 ·rintro i H' x H'' k hi g' ⟨rfl,hZ⟩ hk;have ey:=hZ _ (SqL.of (g' _ _ e3));rw[l9 hi]at ey;cases ey;have hlt:=n2 _ (getD_mem hi);refine(gN ((Fills.refl _).set _ rfl) _ rfl _ rfl (aS D4 _ _ _ rfl rfl (SqL.of (g' _ _ (s3 _ _ d1))) ⟨ eG (IM (by lia)),hk _ (aW.refl _)⟩))
 intro H4 g4 e4;rw[zA ps (λj=>V.ref (tr4.getD j 0))]at e4;have n4:=TsI.sel (D:=D5) d2 (λi t e=>let⟨r,r1,r2⟩:=d3 i t e;⟨r,r1,g4 _ _ (s3 _ _ r2)⟩) ps n2 e4;have g24:=s3.trans g4;have g04:=g02.trans g24;have tc4:=tc.same g04;obtain⟨trc,c1,c2,c3⟩:=id tc4;obtain⟨tr5,f1,f2,f3⟩:=id n4;rw[Zm]at oB;refine(aS ca D5 _ _ rfl rfl c1 ⟨ f1,?_,λD6 hD6=>?_⟩)
 ·rw[Zq,Zq,c2,f2];exact Yr oB (by decide)
 have s5:=aG hD6 (.lst (trc.map V.ref++tr5.map V.ref));have oI:TsI (upd H4 D6 (.lst (trc.map V.ref++tr5.map V.ref))) D6 (cs++ps.map λj=>os.getD j (0,0)):=TsI.cat c2 (λi t e=>let⟨r,r1,r2⟩:=c3 i t e;⟨r,r1,s5 _ _ r2⟩) f2 (λi t e=>let⟨r,r1,r2⟩:=f3 i t e;⟨r,r1,s5 _ _ r2⟩) aE;rw[<-Zm]at oB;have g05:=g04.trans s5;have b15:=s5 _ _ (g24 _ _ b12);have b35:∀(i:Nat) t,GF.fW[i]?=some t->∃r,tr3[i]?=some r/\PtH (upd H4 D6 (.lst (trc.map V.ref++tr5.map V.ref))) r t:=λi t e=>let⟨r,r1,r2⟩:=b3' i t e;⟨r,r1,s5 _ _ (g24 _ _ r2)⟩;dsimp only[dR];generalize upd H4 D6 (.lst (trc.map V.ref++tr5.map V.ref))=H5 at g05 oI b15 b35 ⊢;generalize (cs++ps.map λj=>os.getD j (0,0))=od at oI oA oB;clear s5 c1 c2 c3 f1 f2 f3 n4 tc4 g04 g24 g4 s3 e3 e4 d1 d2 d3 b12 b3' b1 o2 g2 g02 tc1 g1 hr0 hD5 hD6 n1 n2 n3 oa ol H4 H3 H2 H1 r trc tr5 tr4 D5;refine⟨(by show 0<=ZW;decide),λtA htA=>?_⟩;have s6:=aG htA (.lst []);have q0:QsI (upd H5 tA (.lst [])) tA (GF.made 0):=⟨[],aE,rfl,λi q e=>by simp[GF.made]at e⟩
 dsimp only[dR];generalize upd H5 tA (.lst [])=H6 at s6 q0 ⊢;refine(bO _ rfl D3 rfl ⟨_,SqL.of (s6 _ _ b15)⟩ (fI (xs:=tr3.map V.ref) (λi σ H'=>(∃(o7 o8:Option V),σ=[some (.ref a),some (.ref ca),some (.ref sa),some (.ref D3),some (.ref D4),some (.ref D6),some (.ref tA),o7,o8,none,none,none,none,none,none,none,none])/\aW H5 H'/\QsI H' tA (GF.made i)) ⟨⟨_,_,rfl⟩,s6,q0⟩ (λi σ H' _ h=>SqL.of (h.2.1 _ _ b15)) ?_ ?_))
 ·rintro i x σ H7 hx ⟨⟨o7,o8,rfl⟩,g7,q7⟩;have hi:i<25:=by rw[<-l3];exact(Zj.mp hx).1
  have eg:GF.fW[i]?=some (GF.pnt i):=by rw[GF.fW,Zk,Yk hi];rfl
  obtain⟨r,r1,r2⟩:=b35 i _ eg;rw[Zk,r1]at hx;cases hx;have few:=GF.JP i;rw[GF.GH eg];have r2:=g7 _ _ r2;generalize GF.pnt i=p at r2 ⊢;generalize GF.made i=mi at q7 few ⊢;obtain⟨x,y⟩:=p;refine(aZ r _ rfl (SqT.of r2) rfl (cU _ _ rfl _ _ rfl rfl ?_));dsimp only[dR];clear r1 r2 eg;refine via (λσ' H'=>σ'=[some (.ref a),some (.ref ca),some (.ref sa),some (.ref D3),some (.ref D4),some (.ref D6),some (.ref tA),some (.int x),some (.int y),none,none,none,none,none,none,none,none]/\aW H5 H'/\QsI H' tA (mi++if x<4 then [((x,y),(x+1,y),0,-1-if y=0\/y=4 then 1 else 0)] else [])) (λk=>?_) ?_
  ·refine(bF _ rfl _ _ rfl rfl ⟨ _,rfl,eV (λc=>?_) (λc=>?_)⟩)
   ·have c:x<4:=of_decide_eq_true c;obtain⟨tr,h1,h2,h3⟩:=id q7;refine(jM _ rfl (.inl ⟨rfl,_,SqL.of h1⟩) _ rfl _ rfl ⟨ (by show 2<=ZW;decide),λp1 hp1=>(bF _ rfl _ _ rfl rfl ⟨ _,rfl,(by show 2<=ZW;decide),λp2 hp2=>(bO _ rfl _ rfl (by show 2<=ZW;decide) (λp3 hp3=>(cE p3 _ rfl (.inl (SqL.of aE)) rfl rfl (.inr (bM _ rfl _ _ rfl rfl (by show 4<=ZW;decide) (λp4 hp4=>?_))))))⟩)⟩);obtain⟨sq,qd⟩:=AR (h:=0) (m:=-1-if inV (.int y) [.int 0,.int 4]=true then 1 else 0) hp1 hp2 hp3 hp4;rw[if_pos c,<-RX]at k;refine(bG tA _ _ rfl rfl (sq _ _ h1) (by rw[Zq,h2];exact Ys (show mi.length<=50 by lia) (by decide)) (k _ _ ⟨rfl,(g7.trans sq).fresh htA _,QsI.push (sq _ _ h1) h2 (λi q e=>let⟨r,r1,r2⟩:=h3 i q e;⟨r,r1,r2.same sq⟩) qd⟩))
   ·have c:¬x<4:=λz=>c (decide_eq_true z);rw[if_neg c,List.append_nil]at k;exact k _ _ ⟨rfl,g7,q7⟩
  have few2:(mi++if x<4 then [((x,y),(x+1,y),(0:Int),(-1-if y=0\/y=4 then 1 else 0:Int))] else []).length<=51:=by
   rw[Zm];by_cases c:x<4
   ·rw[if_pos c];show mi.length+1<=51;lia
   ·rw[if_neg c];show mi.length+0<=51;lia
  have e1:mi++GF.one (x,y)=(mi++if x<4 then [((x,y),(x+1,y),(0:Int),(-1-if y=0\/y=4 then 1 else 0:Int))] else [])++if y<4 then [((x,y),(x,y+1),(1:Int),(-1-if x=0\/x=4 then 1 else 0:Int))] else []:=by
   unfold GF.one;rw[<-Yb]
  rw[e1];generalize (mi++if x<4 then [((x,y),(x+1,y),(0:Int),(-1-if y=0\/y=4 then 1 else 0:Int))] else [])=mj at few2 ⊢;clear q7 few e1 g7 H7;rintro σ' H7 ⟨rfl,g7,q7⟩;refine(bF _ rfl _ _ rfl rfl ⟨ _,rfl,eV (λc=>?_) (λc=>?_)⟩)
  ·have c:y<4:=of_decide_eq_true c;obtain⟨tr,h1,h2,h3⟩:=id q7;refine(jM _ rfl (.inl ⟨rfl,_,SqL.of h1⟩) _ rfl _ rfl ⟨ (by show 2<=ZW;decide),λp1 hp1=>(bR _ rfl _ rfl _ _ rfl ⟨ rfl,(by show 2<=ZW;decide),λp2 hp2=>(bO _ rfl _ rfl (by show 2<=ZW;decide) (λp3 hp3=>(cE p3 _ rfl (.inl (SqL.of aE)) rfl rfl (.inr (bM _ rfl _ _ rfl rfl (by show 4<=ZW;decide) (λp4 hp4=>?_))))))⟩)⟩);obtain⟨sq,qd⟩:=AR (h:=1) (m:=-1-if inV (.int x) [.int 0,.int 4]=true then 1 else 0) hp1 hp2 hp3 hp4;rw[if_pos c,<-RX];refine(bG tA _ _ rfl rfl (sq _ _ h1) (by rw[Zq,h2];exact Ys few2 (by decide)) ⟨ ⟨_,_,rfl⟩,(g7.trans sq).fresh htA _,QsI.push (sq _ _ h1) h2 (λi q e=>let⟨r,r1,r2⟩:=h3 i q e;⟨r,r1,r2.same sq⟩) qd⟩)
  ·have c:¬y<4:=λz=>c (decide_eq_true z);rw[if_neg c,List.append_nil];exact⟨⟨_,_,rfl⟩,g7,q7⟩
 rintro σ H7 ⟨⟨o7,o8,rfl⟩,g7,q7⟩;rw[l3]at q7;have ti:GF.Tis (GF.made 25):=.made;generalize GF.made 25=qs at q7 ti;have tc5:=tc.same g05;have ts5:=ts.same g05;clear s6 q0 b35 b15 l3 H6;obtain⟨c0,hc0⟩:∃c,cs[0]?=some c:=⟨cs[0]'(by have:=R.len;lia),Zz _⟩
 obtain⟨trc,c1,c2,c3⟩:=tc5.same g7;obtain⟨h0,e1,e2⟩:=c3 0 c0 hc0;refine(aI _ rfl ca _ _ _ rfl ⟨ rfl,SqL.of c1,eG (j:=0) (v:=V.ref h0) (by rw[Zk,e1];rfl),?_⟩);dsimp only[dR];clear c1 c2 c3 e1 trc;obtain⟨trs,d1,d2,d3⟩:=ts5;refine(bO _ rfl sa rfl ⟨_,SqL.of (g7 _ _ d1)⟩ ?_);refine pL (K:=K) (a:=sa) (xs:=trs.map V.ref) (λi σ H'=>∃(ha:Addr) (c:Int×Int) (qs:List GF.Qd) (o10 o11 o12 o13 o14 o15:Option V),σ=[some (.ref a),some (.ref ca),some (.ref sa),some (.ref D3),some (.ref D4),some (.ref D6),some (.ref tA),o7,o8,some (.ref ha),o10,o11,o12,o13,o14,o15,none]/\aW H5 H'/\QsI H' tA qs/\GF.Tis qs/\PtH H' ha c/\cs[i]?=some c)
  (cB h0 c0 qs _ _ _ _ (jK _ _ rfl g7 q7 ti e2 hc0)) (λi σ H' _ h=>by obtain⟨_,_,_,_,_,_,_,_,_,_,g,_⟩:=h;exact SqL.of (g _ _ d1)) ?_ ?_
 ·clear q7 ti e2 hc0 g7 qs h0 c0 H7;rintro i x σ H8 Tp hx ⟨ha,c,qs,o10,o11,o12,o13,o14,o15,rfl,g8,q8,ti,ph,hc⟩ hTp;have hi:i<ss.length:=by
   have:=(Zj.mp hx).1;rw[Zq,d2]at this;exact this
  obtain⟨r,r1,r2⟩:=d3 i _ (Zz hi);rw[Zk,r1]at hx;cases hx;have st:=R.stp i c _ hc (Zz hi);have hd:=R.hd _ (Zp hi);generalize ss[i]=sp at r2 st hd;have ci:=R.inn c (Zg hc);have ni:=R.inn _ (Zg st);obtain⟨h,f⟩:=sp;simp only at hd st ni;have s9:=aG hTp (.tup [vn i,.ref r]);have eT:upd H8 Tp (.tup [vn i,.ref r]) Tp=some (.tup [vn i,.ref r]):=aE;have g9:=g8.trans s9;have q9:=q8.same s9;have ph9:=s9 _ _ ph;have r9:=g9 _ _ r2;generalize upd H8 Tp (.tup [vn i,.ref r])=H9 at s9 eT g9 q9 ph9 r9 ⊢;clear s9 hTp ph q8 g8 hc r1 r2 H8;refine(aZ Tp _ rfl (SqT.of eT) rfl (yT _ _ rfl _ _ rfl (aZ r _ rfl (SqT.of r9) rfl (cU _ _ rfl _ _ rfl rfl ⟨ rfl,?_⟩))));dsimp only[dR];refine(j9 _ rfl f rfl (by lia) (by lia) (dJ (lo:=0) (n:=f.toNat) (λj σ H'=>∃(ha:Addr) (qs:List GF.Qd) (o13 o14 o15:Option V),σ=[some (.ref a),some (.ref ca),some (.ref sa),some (.ref D3),some (.ref D4),some (.ref D6),some (.ref tA),o7,o8,some (.ref ha),some (vn i),some (.int h),some (.int f),o13,o14,o15,none]/\aW H5 H'/\QsI H' tA qs/\GF.Tis qs/\PtH H' ha (c.1+GF.dX h*(j:Int),c.2+GF.dY h*(j:Int)))
   (fE ha qs _ _ _ rfl g9 ⟨ q9,ti,?_⟩) ?_ ?_))
  ·show PtH H9 ha (c.1+GF.dX h*((0:Nat):Int),c.2+GF.dY h*((0:Nat):Int));rw[Int.natCast_zero,Int.mul_zero,Int.mul_zero,Int.add_zero,Int.add_zero];exact ph9
  ·clear q9 ti ph9 eT r9 g9 H9 ha qs;rintro j σ H9 hj ⟨ha,qs,o13,o14,o15,rfl,g9,q9,ti,ph⟩;have i1:=GF.HK (j:=(j:Int)) ⟨hd.1,hd.2.1⟩ ci ni (by lia) (by lia);have i2:=GF.HK (j:=((j+1:Nat):Int)) ⟨hd.1,hd.2.1⟩ ci ni (by lia) (by lia);have ex:c.1+GF.dX h*((j+1:Nat):Int)=c.1+GF.dX h*(j:Int)+GF.dX h:=by rw[Int.natCast_add,Int.mul_add,Int.natCast_one,Int.mul_one,Int.add_assoc]
   have ey:c.2+GF.dY h*((j+1:Nat):Int)=c.2+GF.dY h*(j:Int)+GF.dY h:=by rw[Int.natCast_add,Int.mul_add,Int.natCast_one,Int.mul_one,Int.add_assoc]
   rw[ex,ey]at i2 ⊢;generalize c.1+GF.dX h*(j:Int)=u at ph i1 i2 ⊢;generalize c.2+GF.dY h*(j:Int)=v at ph i1 i2 ⊢;obtain⟨h40,h41,f1,f4⟩:=id hd;dsimp only[dR];refine(aI _ rfl ha _ _ _ rfl (kC rfl (SqT.of ph) rfl _ rfl (by show 4<=ZW;decide) (λp1 hp1=>?_)));refine(aI _ rfl p1 _ _ _ rfl (bY rfl (SqL.of aE) (mK h40 h41) _ _ rfl rfl ?_));have s10:=aG hp1 (.lst [.int 1,.int 0,.int (-1),.int 0]);dsimp only;rw[IZ h40 h41];generalize upd H9 p1 (.lst [.int 1,.int 0,.int (-1),.int 0])=H10 at s10 ⊢;refine(aI _ rfl ha _ _ _ rfl (kC rfl (SqT.of (s10 _ _ ph)) rfl _ rfl (by show 4<=ZW;decide) (λp2 hp2=>(aI _ rfl p2 _ _ _ rfl (bY rfl (SqL.of aE) (mK h40 h41) _ _ rfl rfl ?_)))));have s11:=s10.trans (aG hp2 (.lst [.int 0,.int 1,.int 0,.int (-1)]));dsimp only;rw[IY h40 h41];generalize upd H10 p2 (.lst [.int 0,.int 1,.int 0,.int (-1)])=H11 at s11 ⊢;refine⟨(by show 2<=ZW;decide),λpA hpA=>?_⟩;have s12:=s11.trans (aG hpA (.tup [.int (u+GF.dX h),.int (v+GF.dY h)]));have eA:PtH (upd H11 pA (.tup [.int (u+GF.dX h),.int (v+GF.dY h)])) pA (u+GF.dX h,v+GF.dY h):=aE;dsimp only[dR];generalize upd H11 pA (.tup [.int (u+GF.dX h),.int (v+GF.dY h)])=H12 at s12 eA ⊢;have g12:=g9.trans s12;have q12:=q9.same s12;have ph:=s12 _ _ ph;clear s10 s11 s12 hp1 hp2 hpA q9 g9 H10 H11;obtain⟨trT,y1,y2,y3⟩:=q12;have yl:(trT.map V.ref).length=40:=by rw[Zq,y2,ti.len]
   have t40:=ti.len;refine(bF _ rfl tA _ rfl (.inl (SqL.of y1)) ⟨ _,rfl,?_,?_,λDS hDS=>?_⟩)
   ·show -(2 ^ 62)<=(((trT.map V.ref).length:Nat):Int);lia
   ·show(((trT.map V.ref).length:Nat):Int)<2 ^ 62;lia
   refine fY 40 (λk=>vn k) (λk=>decide (GF.j7 (qs.getD k ((0,0),(0,0),0,0)).1 (qs.getD k ((0,0),(0,0),0,0)).2.1 (u,v) (u+GF.dX h,v+GF.dY h))) hDS (by decide) (λk H' hk g'=>?_) (λH' g'=>?_) (λk H' x H'' kt kf hk g' hY ht hf=>?_) ?_
   ·show k<((((trT.map V.ref).length:Nat):Int)-0).toNat;lia
   ·show((((trT.map V.ref).length:Nat):Int)-0).toNat<=40;lia
   ·obtain⟨rfl,rfl⟩:=hY;have eq:=Zz (show k<qs.length by lia);obtain⟨rq,z1,z2⟩:=y3 k _ eq;rw[Zv,eq,Option.getD_some]at ht hf;generalize qs[k]=qd at z2 ht hf;obtain⟨x1,x2,w1,w2,w3⟩:=z2.same g';refine(gN ((Fills.refl _).set _ rfl) _ rfl _ rfl (aS tA _ _ _ rfl rfl (SqL.of (g' _ _ y1)) (iC (by rw[Int.zero_add];exact eG (v:=V.ref rq) (by rw[Zk,z1];rfl)) 2 rfl rq _ rfl (SqT.of w1) ⟨ (λz=>absurd z.2 (by show ¬(2=4);decide)),λp hp=>?_⟩)));have n1:=aG hp (.tup [.ref x1,.ref x2]);refine(fE p x1 x2 qd.1 qd.2.1 rfl aE ⟨ n1 _ _ w2,n1 _ _ w3,λl1 us H1' gs pm pw tl=>?_⟩);refine(bO _ rfl _ rfl (by show 2<=ZW;decide) (λl2 hl2=>?_));have n2:=aG hl2 (.lst [.ref ha,.ref pA]);have gk:=(n1.trans gs).trans n2;refine(aZ l2 ([(u,v),(u+GF.dX h,v+GF.dY h)]) rfl ⟨[ha,pA],aE,rfl,λi t e=>?_⟩ (by show 2<64;decide) (λl3 us2 H2' gs2 pm2 pw2 tl2=>?_))
    ·match i with
     |0=>cases e;exact⟨ha,rfl,gk _ _ (g' _ _ ph)⟩
     |1=>cases e;exact⟨pA,rfl,gk _ _ (g' _ _ eA)⟩
     |i+2=>simp at e
    refine(cE _ _ ((tl.same (n2.trans gs2)).bd) tl2.bd (kE _) (kE _) ?_);rw[E9];refine⟨_,rfl,eV (λz=>?_) (λz=>?_)⟩
    ·have z:us=us2:=by simpa using z
     subst z;have:=ht (decide_eq_true (GF.t8.mp (pm.symm.trans pm2))) _ (gk.trans gs2);refine⟨_,rfl,?_⟩;show kt (V.int (0+(k:Int))) _;rw[Int.zero_add];exact this
    ·have z:¬us=us2:=by simpa using z
     exact hf (decide_eq_false λy=>z (AW.JD (pm.trans ((GF.t8.mpr y).trans pm2.symm)) pw pw2)) _ (gk.trans gs2)
   intro H13 g13 e13;obtain⟨kf,qf,f1',f2'⟩:=ti.find i1 ⟨h40,h41⟩ i2;have hkf:kf<40:=by rw[<-t40];exact(Zj.mp f1').1
   obtain⟨j0,rest,ej⟩:∃j0 rest,(List.range 40).filter (λk=>decide (GF.j7 (qs.getD k ((0,0),(0,0),0,0)).1 (qs.getD k ((0,0),(0,0),0,0)).2.1 (u,v) (u+GF.dX h,v+GF.dY h)))=j0::rest:=by
    have hm:kf∈(List.range 40).filter (λk=>decide (GF.j7 (qs.getD k ((0,0),(0,0),0,0)).1 (qs.getD k ((0,0),(0,0),0,0)).2.1 (u,v) (u+GF.dX h,v+GF.dY h))):=by
     rw[Yz];refine⟨Zs.mpr hkf,decide_eq_true ?_⟩;rw[Zv,f1'];exact f2'
    cases he:(List.range 40).filter (λk=>decide (GF.j7 (qs.getD k ((0,0),(0,0),0,0)).1 (qs.getD k ((0,0),(0,0),0,0)).2.1 (u,v) (u+GF.dX h,v+GF.dY h))) with
    |nil=>rw[he]at hm;cases hm
    |cons j0 rest=>exact⟨j0,rest,rfl⟩
   have mj:j0∈(List.range 40).filter (λk=>decide (GF.j7 (qs.getD k ((0,0),(0,0),0,0)).1 (qs.getD k ((0,0),(0,0),0,0)).2.1 (u,v) (u+GF.dX h,v+GF.dY h))):=by rw[ej];exact Zd
   obtain⟨hj1,hj2⟩:=Yz.mp mj;have hj1:=Zs.mp hj1;have hj2:=of_decide_eq_true hj2;have eq:=Zz (show j0<qs.length by lia);rw[Zv,eq,Option.getD_some]at hj2;rw[ej]at e13;have y13:=g13 _ _ y1;dsimp only[dR];refine(fZ _ rfl _ rfl _ rfl ⟨ _,rfl,(by show 4<=ZW;decide),λpq hpq=>?_⟩);have s14:=aG hpq (.tup [.ref ha,.ref pA,.int h,vn i]);have e14:upd H13 pq (.tup [.ref ha,.ref pA,.int h,vn i]) pq=some (.tup [.ref ha,.ref pA,.int h,vn i]):=aE;generalize upd H13 pq (.tup [.ref ha,.ref pA,.int h,vn i])=H14 at s14 e14 ⊢;refine⟨_,rfl,(aI _ rfl DS _ _ _ rfl ⟨ rfl,(fH (SqL.of (s14 _ _ e13)) (eG (j:=0) (v:=vn j0) rfl) tA _ _ j0 rfl ⟨ rfl,s14 _ _ y13,EW (by lia),?_⟩)⟩)⟩;have gA:=g13.trans s14;have qd:QdA H14 pq ((u,v),(u+GF.dX h,v+GF.dY h),h,(i:Int)):=⟨ha,pA,e14,gA _ _ ph,gA _ _ eA⟩
   exact⟨_,(k6 rfl pA _ _ _ _ rfl ⟨ (g12.trans gA).fresh htA _,QsI.put (j:=j0) (gA _ _ y1) y2 (λi q e=>let⟨r,r1,r2⟩:=y3 i q e;⟨r,r1,r2.same gA⟩) qd,ti.set eq hj2 i1 i2 ⟨h40,h41⟩ _,PtH.put (p:=(u+GF.dX h,v+GF.dY h)) (gA _ _ eA) (gA _ _ y1)⟩)⟩
  ·rintro σ H10 ⟨ha,qs,o13,o14,o15,rfl,g10,q10,ti,ph⟩;rw[Int.toNat_of_nonneg (by lia)]at ph;exact(cB ha _ qs _ _ _ _ (jK _ _ rfl g10 q10 ti ph st))
 ·clear q7 ti e2 hc0 g7 qs h0 c0 H7;rintro σ H8 ⟨ha,c,qs,o10,o11,o12,o13,o14,o15,rfl,g8,q8,ti,-,-⟩;have oI8:=oI.same g8;obtain⟨trT,y1,y2,y3⟩:=q8;have yl:(trT.map V.ref).length=40:=by rw[Zq,y2,ti.len]
  have t40:=ti.len;refine(bO _ rfl tA rfl ⟨_,SqL.of y1⟩ (λDM hDM=>?_));have okq:∀k,k<40->GF.inG (qs.getD k ((0,0),(0,0),0,0)).1/\GF.inG (qs.getD k ((0,0),(0,0),0,0)).2.1/\0<=(qs.getD k ((0,0),(0,0),0,0)).2.2.1/\(qs.getD k ((0,0),(0,0),0,0)).2.2.1<4:=λk hk=>by
   have eq:=Zz (show k<qs.length by lia);rw[Zv,eq,Option.getD_some];exact ti.ok k _ eq
  have row:∀k,k<40->∃rq,trT[k]?=some rq/\QdA H8 rq (qs.getD k ((0,0),(0,0),0,0)):=λk hk=>by
   have eq:=Zz (show k<qs.length by lia);rw[Zv,eq,Option.getD_some];exact y3 k _ eq
  refine pX 40 (λk=>(((od.idxOf (qs.getD k ((0,0),(0,0),0,0)).1:Nat):Int),((od.idxOf (qs.getD k ((0,0),(0,0),0,0)).2.1:Nat):Int))) hDM (by decide) (λj H' hj g'=>⟨_,_,SqL.of (g' _ _ y1),Zz (by rw[yl];exact hj)⟩) (λH' g'=>⟨_,SqL.of (g' _ _ y1),by rw[yl];exact Nat.le_refl _⟩) (λk H' x H'' kt hk g' hY ht=>?_) ?_
  ·obtain⟨rfl,hY⟩:=hY;have ex:=hY _ (SqL.of (g' _ _ y1));obtain⟨rq,z1,z2⟩:=row k hk;rw[Zk,z1]at ex;cases ex;have ok:=okq k hk;generalize qs.getD k ((0,0),(0,0),0,0)=qd at z2 ok ht;obtain⟨x1,x2,w1,w2,w3⟩:=z2.same g';obtain⟨xs,j1,j2,j3,j4⟩:=E1 (K:=K) (oI8.same g') (oA _ ok.1);obtain⟨xs',k1,k2,k3,k4⟩:=E1 (K:=K) (oI8.same g') (oA _ ok.2.1);refine(aZ rq _ rfl (SqT.of w1) rfl (yT _ _ rfl _ _ rfl (cU _ _ rfl _ _ rfl rfl ⟨ (((Fills.refl _).set _ rfl).set _ rfl).set _ rfl |>.set _ rfl,?_⟩)));refine(fQ _ rfl (.inl ⟨rfl,_,SqL.of j1⟩) _ rfl (bE D6 _ _ _ _ _ rfl (dI rfl j1 (.tup (SqT.of w2) (.cons (.int _) (.cons (.int _) .nil))) j2 (AI _ _) (yY _) j3 ⟨ j4,?_⟩)));refine(fQ _ rfl (.inl ⟨rfl,_,SqL.of k1⟩) _ rfl (bE D6 _ _ _ _ _ rfl (dI rfl k1 (.tup (SqT.of w3) (.cons (.int _) (.cons (.int _) .nil))) k2 (AI _ _) (yY _) k3 ⟨ k4,(by show 2<=ZW;decide),λz hz=>?_⟩)));exact ht z _ (aG hz _) aE
  intro H9 m9 g9;have y19:=g9 _ _ y1;dsimp only[dR];refine(HF _ rfl _ rfl tA rfl ⟨_,SqL.of y19⟩ (λDH hDH=>?_));refine bS 40 (λk=>.int (qs.getD k ((0,0),(0,0),0,0)).2.2.1) hDH (by decide) (λj H' hj g'=>⟨_,_,SqL.of (g' _ _ y19),Zz (by rw[yl];exact hj)⟩) (λH' g'=>⟨_,SqL.of (g' _ _ y19),by rw[yl];exact Nat.le_refl _⟩) ?_ ?_
  ·rintro k H' x H'' kt hk g' ⟨rfl,hY⟩ ht;have ex:=hY _ (SqL.of (g' _ _ y19));obtain⟨rq,z1,z2⟩:=row k hk;rw[Zk,z1]at ex;cases ex;obtain⟨x1,x2,w1,w2,w3⟩:=(z2.same g9).same g';exact⟨(Fills.refl _).set _ rfl,(aI _ rfl rq _ _ _ rfl ⟨ rfl,SqT.of w1,rfl,ht _ (aW.refl _)⟩)⟩
  intro H10 g10 e10;have y110:=g10 _ _ y19;refine⟨(by show 3<=ZW;decide),λm hm=>?_⟩;have s11:=aG hm (.tup [.int 25,.ref DM,.ref DH]);have e11:upd H10 m (.tup [.int 25,.ref DM,.ref DH]) m=some (.tup [.int 25,.ref DM,.ref DH]):=aE;dsimp only;generalize upd H10 m (.tup [.int 25,.ref DM,.ref DH])=H11 at s11 e11 ⊢;have y111:=s11 _ _ y110;refine(bO _ rfl tA rfl ⟨_,SqL.of y111⟩ (λDP hDP=>?_));refine bS 40 (λk=>.int (qs.getD k ((0,0),(0,0),0,0)).2.2.2) hDP (by decide) (λj H' hj g'=>⟨_,_,SqL.of (g' _ _ y111),Zz (by rw[yl];exact hj)⟩) (λH' g'=>⟨_,SqL.of (g' _ _ y111),by rw[yl];exact Nat.le_refl _⟩) ?_ ?_
  ·rintro k H' x H'' kt hk g' ⟨rfl,hY⟩ ht;have ex:=hY _ (SqL.of (g' _ _ y111));obtain⟨rq,z1,z2⟩:=row k hk;rw[Zk,z1]at ex;cases ex;obtain⟨x1,x2,w1,w2,w3⟩:=(((z2.same g9).same g10).same s11).same g';exact⟨(Fills.refl _).set _ rfl,(aI _ rfl rq _ _ _ rfl ⟨ rfl,SqT.of w1,rfl,ht _ (aW.refl _)⟩)⟩
  intro H12 g12 e12;refine⟨(by show 2<=ZW;decide),λr hr0=>?_⟩;have s13:=aG hr0 (.tup [.ref m,.ref DP]);have gE:=((g10.trans s11).trans g12).trans s13;have gF:=((g05.trans g8).trans g9).trans gE;have lt25:∀p,GF.inG p->od.idxOf p<25:=λp hp=>Yt (List.idxOf_lt_length_of_mem (oA p hp)) oB;refine q r m DP DM DH ((List.range 40).map λk=>(od.idxOf (qs.getD k ((0,0),(0,0),0,0)).1,od.idxOf (qs.getD k ((0,0),(0,0),0,0)).2.1)) ((List.range 40).map λk=>(qs.getD k ((0,0),(0,0),0,0)).2.2.1) ((List.range 40).map λk=>(qs.getD k ((0,0),(0,0),0,0)).2.2.2) _ gF aE ⟨s13 _ _ (g12 _ _ e11),?_,?_⟩ ?_ ⟨⟨?_,?_,?_,by decide,?_⟩,?_,by decide,?_,?_⟩ ?_ ?_
  ·obtain⟨tr,z1,z2,z3⟩:=m9;refine⟨tr,gE _ _ z1,by rw[z2];simp,λi t e=>?_⟩;rw[Zk]at e;obtain⟨k,k1,rfl⟩:=Xz.mp e;obtain⟨r',r1,r2⟩:=z3 i _ (by rw[Zk,k1];rfl);exact⟨r',r1,gE _ _ r2⟩
  ·rw[Yh];exact s13 _ _ (g12 _ _ (s11 _ _ e10))
  ·rw[Yh];exact s13 _ _ e12
  ·simp
  ·intro i hi;rw[Zq,Yj]at hi;have:=okq i hi;unfold at0;rw[Zv,Zk,Yk hi];exact⟨this.2.2.1,this.2.2.2⟩
  ·intro e he;rw[Zq,Yj]at he;have h2:e / 2<40:=by lia
   have ok:=okq _ h2;have a1:=lt25 _ ok.1;have a2:=lt25 _ ok.2.1;unfold MM.place;rw[Zv,Zk,Yk h2];show(if e%2=0 then _ else _)<25;split
   ·exact a1
   ·exact a2
  ·rw[Zq,Yj];decide
  ·rw[Zq,Yj];decide
  ·rw[Zq,Yj];decide
  ·rw[Zq,Yj];decide
  ·rw[Zq,Yj]
  ·rw[Zq,Yj]
end K49
namespace L2
open PySem PySem.Spec PyProof.Rows
theorem FY{d:PyData}(h:d.canLay0=true/\d.depth<=8):SeqAt.shaped d=true:=by
 unfold SeqAt.shaped;rw[Xw];exact⟨h.1,decide_eq_true (by lia)⟩
theorem ER{ds:List PyData}(n:Nat)(h:∀d∈ds,d.canLay0=true/\d.depth<=n):(PyData.tuple ds).canLay0=true/\(PyData.tuple ds).depth<=n+1:=by
 have:=tI n h;exact⟨this.1,by rw[PyData.depth];lia⟩
theorem ES{ds:List PyData}(n:Nat)(h:PyData.canLayAll0 ds=true/\PyData.depthAll ds<=n):(PyData.list ds).canLay0=true/\(PyData.list ds).depth<=n+1:=⟨h.1,by rw[PyData.depth];lia⟩
theorem DB(ns:List Int):(PyData.list (ns.map PyData.int)).canLay0=true/\(PyData.list (ns.map PyData.int)).depth<=4:=let h:=ES 2 (lay_ints ns);⟨h.1,Yr h.2 (by decide)⟩
def R9(T:MM.aY)(hs pcs:List Int):PyData:=.tuple [.tuple [.int 25,.list (dT T),.list (hs.map .int)],.list (pcs.map .int)]
theorem C1(T:MM.aY)(hs pcs:List Int):SeqAt.shaped (R9 T hs pcs)=true:=by
 have h1:(PyData.tuple [.int 25,.list (dT T),.list (hs.map .int)]).canLay0=true/\(PyData.tuple [.int 25,.list (dT T),.list (hs.map .int)]).depth<=5:=ER 4 λd hd=>by
  simp only[Zn,List.not_mem_nil,or_false]at hd;rcases hd with rfl | rfl | rfl
  ·exact⟨rfl,by simp[PyData.depth]⟩
  ·exact ES 3 (KM T)
  ·exact DB _
 have h2:=ER (ds:=[.tuple [.int 25,.list (dT T),.list (hs.map .int)],.list (pcs.map .int)]) 5 λd hd=>by
  simp only[Zn,List.not_mem_nil,or_false]at hd;rcases hd with rfl | rfl
  ·exact h1
  ·exact⟨(DB _).1,Yr (DB _).2 (by decide)⟩
 exact FY ⟨h2.1,Yr h2.2 (by decide)⟩
theorem QE{d:PyData}(h:SeqAt.shaped d=true):PyData.eqv d d=true:=SeqAt.eqv_refl _ (SeqAt.canLay_of_shaped h)
end L2
namespace K49
open PySem L2 PyProof.Rows
def EC(tp:Addr)(K:PySem.W.Frag):Sp:=λvs H Q _=>∃(a:Addr) (ns:List Int),vs=[.ref a]/\SqL K H a (ns.map V.int)/\ns.length<=63/\TB tp H/\∀H',Q (.bl true) H'
theorem dE.bdp{H:Hp}{r m pr ta ha:Addr}{T:MM.aY}{hs pcs:List Int}(e:H r=some (.tup [.ref m,.ref pr]))(h:dE H m 25 T hs ta ha)(p:H pr=some (.lst (pcs.map V.int))):Bd K H (.ref r) (R9 T hs pcs) :=
 .tup (SqT.of e) (.cons (.tup (SqT.of h.1) (.cons (.int _) (.cons (FK h.2.1) (.cons (.lst (SqL.of h.2.2) (Bds.ints _)) .nil)))) (.cons (.lst (SqL.of p) (Bds.ints _)) .nil))
theorem PY(T:Txt K mg t)(B:BT base mg t):cJ P w K mg base CX0 lawK t.NZ t.NX ["_law_script"] (EC t.tp K):=by
 have zV:=PU (P:=P) (w:=w) (base:=base) T B;have wL:=ME (P:=P) (w:=w) (base:=base) T (C4 (P:=P) (w:=w) (base:=base) T);refine T.R6.F.ok IH (λvs H Q E h=>?_) (λcdv A outer s H vs Q E hr h=>?_)
 ·obtain⟨_,_,rfl,_⟩:=h;rfl
 obtain⟨a,ns,rfl,hS,_,tb,q⟩:=h;have nd:=IH.nd;have nd_l_head_l_far:(["_law_head","_law_far"]:List Str).Nodup:=by decide
 have nd_l_k:(["_law_k"]:List Str).Nodup:=by decide
 refine⟨_,(aF (qR (bK (MD T) hr T.E8 a8 (aA (pv 0) aB)) (fU rfl (bB (aK (i:=1) nd rfl (Or.inl rfl)) (bB (aK (i:=2) nd rfl (Or.inl rfl)) cZ))))
  (aF (b8 (aV (nQ hr.units) (pv 2) (bN aB) (a7 _)) (aH (aU cO)) bD)
  (aF (bC 3 nd (cN (aA (aQ aN rfl T.b7 PySem.boot_len (aA (pv 1) aB)) (aA (cG (N':=["_law_k"]) (js:=[none]) rfl (bH rfl T.bW (aA (aQ aN rfl T.b7 PySem.boot_len (aA (pv 2) aB)) aB)) (λ_ _ _ _ _=>(aK (i:=0) nd_l_k rfl (Or.inl rfl))) (λ_ _ _ _ _=>b9) (λ_ _ _ _ _=>(cN (aA (pv 0) (aA (aO bV (pv 0) aC) aB))))) (aA (cG (N':=["_law_head","_law_far"]) (js:=[none,none]) rfl (bJ (pv 2)) (λ_ _ _ _ _=>(pG (K:=K) (n:=2) rfl rfl (bB (aK (i:=0) nd_l_head_l_far rfl (Or.inl rfl)) (bB (aK (i:=1) nd_l_head_l_far rfl (Or.inl rfl)) cZ)))) (λ_ _ _ _ _=>b9) (λ_ _ _ _ _=>(pv 0))) aB)))))
  (aF (bC 4 nd (bK (JH T) hr T.BO a8 (aA (pv 0) (aA (pv 1) (aA (pv 2) aB)))))
  (aF (bC 5 nd (cN (aA (cN (aA aC (aA (cY fN rfl T.qE boot_list (aA (aJ aT (aJ aT (pv 4) aC (λ_ _=>rfl)) aC (λ_ _=>rfl)) aB)) (aA (cY fN rfl T.qE boot_list (aA (aJ aT (aJ aT (pv 4) aC (λ_ _=>rfl)) aC (λ_ _=>rfl)) aB)) aB)))) (aA (cY fN rfl T.qE boot_list (aA (aJ aT (pv 4) aC (λ_ _=>rfl)) aB)) aB))))
  (aF (bC 6 nd (bK zV hr T.pO a8 (aA (pv 3) (aA (pv 5) aB))))
  (aH (aU (uK (aQ KQ rfl T.yS boot_isinstance (aA (pv 6) (aA (L7 (v:=.ty "bool") rfl T.N0 boot_bool rfl) aB))) (uK (dZ gJ (pv 6) (bK wL hr T.lV a8 (aA (pv 3) (aA (pv 4) aB))) (a7 _)) (zC (dZ (nQ hr.units) (pv 5) (pv 4) (a7 _))))))))))))),?_⟩
 refine(bF _ rfl a ns rfl hS (λr ca sa cs ss H1 g1 e1 tc ts R=>?_));refine(aZ r _ rfl (SqT.of e1) rfl (cU _ _ rfl _ _ rfl rfl ?_));have tb1:=tb.same g1;have hS1:=g1.seq hS;dsimp only[dR];clear e1 g1 hS tb;refine⟨_,rfl,(by show 0<=ZW;decide),λz hz=>?_⟩;have s2:=aG hz (.lst []);have e2:upd H1 z (.lst []) z=some (.lst []):=aE;dsimp only;generalize upd H1 z (.lst [])=H2 at s2 e2 ⊢;have tc2:=tc.same s2;have ts2:=ts.same s2;have tb2:=tb1.same s2;have hS2:=s2.seq hS1;clear tc ts tb1 hS1 hz s2 H1;refine(cE _ _ ts2.bd (.lst (SqL.of e2) .nil) (kE _) rfl ?_);rw[show PyData.list []=PyData.list (dTI []) from rfl,E9];refine⟨_,rfl,eV (λ_=>q _) (λc=>?_)⟩;have c:ss≠[]:=by simpa using c
 have sl:0<ss.length:=List.length_pos_iff.mpr c;have few:cs.length<=25:=(nS cs GF.fW R.nd λp hp=>GF.pI (R.inn p hp)).1;have rl:=R.len;obtain⟨trc,c1,c2,c3⟩:=id tc2;obtain⟨trs,d1,d2,d3⟩:=id ts2;have dl:(trs.map V.ref).length=ss.length:=by rw[Zq,d2]
 refine(bF _ rfl ca _ rfl (.inl (SqL.of c1)) (bF _ rfl sa _ rfl (.inl (SqL.of d1)) ⟨ _,rfl,?_,?_,λD1 hD1=>?_⟩))
 ·show -(2 ^ 62)<=(((trs.map V.ref).length:Nat):Int);lia
 ·show(((trs.map V.ref).length:Nat):Int)<2 ^ 62;lia
 refine pX ss.length (λk=>((k:Int),((k+1:Nat):Int))) hD1 (by lia) (λi H' hi g'=>?_) (λH' g'=>?_) (λi H' x H'' k hi g' hY hk=>?_) ?_
 ·show i<((((trs.map V.ref).length:Nat):Int)-0).toNat;lia
 ·show((((trs.map V.ref).length:Nat):Int)-0).toNat<=ss.length;lia
 ·obtain⟨rfl,rfl⟩:=hY;refine(gN ((Fills.refl _).set _ rfl) _ rfl _ rfl (aZ _ _ rfl rfl (by show 2<=ZW;decide) (λy hy=>?_)));have e0:HO.tup [V.int (0+(i:Int)),V.int (0+(i:Int)+1)]=.tup [.int (i:Int),.int ((i+1:Nat):Int)]:=by rw[Int.zero_add];rfl
  dsimp only;rw[e0];exact hk y _ (aG hy _) aE
 intro H3 m3 g3;have d13:=g3 _ _ d1;refine(bO _ rfl sa rfl ⟨_,SqL.of d13⟩ (λD2 hD2=>?_));refine bS ss.length (λk=>.int (ss.getD k (0,0)).1) hD2 (by lia) (λj H' hj g'=>⟨_,_,SqL.of (g' _ _ d13),Zz (by rw[dl];exact hj)⟩) (λH' g'=>⟨_,SqL.of (g' _ _ d13),by rw[dl];exact Nat.le_refl _⟩) ?_ ?_
 ·rintro k H' x H'' kt hk g' ⟨rfl,hY⟩ ht;have ex:=hY _ (SqL.of (g' _ _ d13));obtain⟨rq,z1,z2⟩:=d3 k _ (Zz hk);rw[Zk,z1]at ex;cases ex;rw[Zv,Zz hk,Option.getD_some]at ht;exact(aZ rq _ rfl (SqT.of (g' _ _ (g3 _ _ z2))) rfl (cU _ _ rfl _ _ rfl rfl ⟨ ((Fills.refl _).set _ rfl).set _ rfl,_,rfl,ht _ (aW.refl _)⟩))
 intro H4 g4 e4;refine⟨(by show 3<=ZW;decide),λm0 hm0=>?_⟩;have cl:(trc.map V.ref).length=cs.length:=by rw[Zq,c2]
 have s5:=aG hm0 (.tup [vn cs.length,.ref D1,.ref D2]);have e5:upd H4 m0 (.tup [vn cs.length,.ref D1,.ref D2]) m0=some (.tup [vn cs.length,.ref D1,.ref D2]):=aE;have g25:=(g3.trans g4).trans s5;have L0:dE (upd H4 m0 (.tup [vn cs.length,.ref D1,.ref D2])) m0 cs.length ((List.range ss.length).map λk=>(k,k+1)) ((List.range ss.length).map λk=>(ss.getD k (0,0)).1) D1 D2:=by
  refine⟨e5,?_,?_⟩
  ·obtain⟨tr,z1,z2,z3⟩:=m3;refine⟨tr,s5 _ _ (g4 _ _ z1),by rw[z2];simp,λi t e=>?_⟩;rw[Zk]at e;obtain⟨k,k1,rfl⟩:=Xz.mp e;obtain⟨r',r1,r2⟩:=z3 i _ (by rw[Zk,k1];rfl);exact⟨r',r1,s5 _ _ (g4 _ _ r2)⟩
  ·rw[Yh];exact s5 _ _ e4
 rw[cl];dsimp only[dR];generalize upd H4 m0 (.tup [vn cs.length,.ref D1,.ref D2])=H5 at g25 L0 ⊢;have tc5:=tc2.same g25;have ts5:=ts2.same g25;have tb5:=tb2.same g25;have hS5:=g25.seq hS2;have ld0:Ld0 cs.length ((List.range ss.length).map λk=>(k,k+1)) ((List.range ss.length).map λk=>(ss.getD k (0,0)).1):=by
  refine⟨by simp,by simp;lia,λk hk=>?_⟩;rw[Zq,Yj]at hk;show MM.place _ (2*k)<_;unfold MM.place;rw[show 2*k / 2=k by lia,show 2*k%2=0 by lia,Zv,Zk,Yk hk];show k<cs.length
  lia
 have hne:∀k,k<((List.range ss.length).map λk=>(k,k+1)).length->ps ((List.range ss.length).map λk=>(k,k+1)) k≠pt ((List.range ss.length).map λk=>(k,k+1)) k:=λk hk=>by
  rw[Zq,Yj]at hk;show MM.place _ (2*k)≠MM.place _ (2*k+1);unfold MM.place;rw[show 2*k / 2=k by lia,show 2*k%2=0 by lia,show(2*k+1) / 2=k by lia,show(2*k+1)%2=1 by lia,Zv,Zk,Yk hk];show k≠k+1
  lia
 generalize ((List.range ss.length).map λk=>(k,k+1))=T0 at L0 ld0 hne;generalize ((List.range ss.length).map λk=>(ss.getD k (0,0)).1)=hs0 at L0 ld0;clear e5 s5 m3 e4 g4 g3 d13 tc2 ts2 tb2 hS2 hD1 hD2 hm0 g25 c1 c2 c3 d1 d2 d3 e2;refine(fZ _ rfl _ rfl _ rfl (bE a ca sa ns cs ss rfl ⟨ hS5,tc5,ts5,R,λr m pr ta ha TT hs pcs H6 g6 e6 L6 p6 lr t40 p40=>?_⟩));have L06:=L0.st g6.st;have tb6:=tb5.same g6;dsimp only[dR];clear L0 tc5 ts5 tb5 hS5 g6;obtain⟨tr,z1,z2,z3⟩:=id L6.2.1;refine(aI _ rfl r _ _ (.ref m) rfl ⟨ rfl,(fH (SqT.of e6) rfl m _ _ (.ref ta) rfl (bY rfl (SqT.of L6.1) rfl ta _ rfl (.inl (SqL.of z1)) (λtB htB=>?_)))⟩);have s1:=aG htB (.lst (tr.map V.ref));have etB:=aE (H:=H6) (a:=tB) (o:=.lst (tr.map V.ref));generalize upd H6 tB (.lst (tr.map V.ref))=H7 at s1 etB ⊢;refine(aI _ rfl r _ _ (.ref m) rfl ⟨ rfl,(fH (SqT.of (s1 _ _ e6)) rfl m _ _ (.ref ha) rfl (bY rfl (SqT.of (s1 _ _ L6.1)) rfl ha _ rfl (.inl (SqL.of (s1 _ _ L6.2.2))) (λhB hhB=>?_)))⟩);have s2:=aG hhB (.lst (hs.map V.int));have ehB:=aE (H:=H7) (a:=hB) (o:=.lst (hs.map V.int));generalize upd H7 hB (.lst (hs.map V.int))=H8 at s2 ehB ⊢;refine⟨(by show 3<=ZW;decide),λm2 hm2=>?_⟩;have s3:=aG hm2 (.tup [.int 25,.ref tB,.ref hB]);have em2:=aE (H:=H8) (a:=m2) (o:=.tup [.int 25,.ref tB,.ref hB]);dsimp only;generalize upd H8 m2 (.tup [.int 25,.ref tB,.ref hB])=H9 at s3 em2 ⊢;have s13:=s1.trans (s2.trans s3);refine(aI _ rfl r _ _ (.ref pr) rfl (bY rfl (SqT.of (s13 _ _ e6)) rfl pr _ rfl (.inl (SqL.of (s13 _ _ p6))) (λpB hpB=>?_)));have s4:=aG hpB (.lst (pcs.map V.int));have epB:=aE (H:=H9) (a:=pB) (o:=.lst (pcs.map V.int));generalize upd H9 pB (.lst (pcs.map V.int))=H10 at s4 epB ⊢;refine⟨(by show 2<=ZW;decide),λhd hhd=>?_⟩;have s5:=aG hhd (.tup [.ref m2,.ref pB]);have ehd:=aE (H:=H10) (a:=hd) (o:=.tup [.ref m2,.ref pB]);dsimp only[dR];generalize upd H10 hd (.tup [.ref m2,.ref pB])=H11 at s5 ehd ⊢;have s15:=s13.trans (s4.trans s5);have LB:dE H11 m2 25 TT hs tB hB:=⟨s5 _ _ (s4 _ _ em2),⟨tr,s5 _ _ (s4 _ _ (s3 _ _ (s2 _ _ etB))),z2,λi x hx=>let⟨y,y1,y2⟩:=z3 i x hx;⟨y,y1,s15 _ _ y2⟩⟩,s5 _ _ (s4 _ _ (s3 _ _ ehB))⟩
 have pB':=s5 _ _ epB;have L6':=L6.st s15.st;have e6':=s15 _ _ e6;have p6':=s15 _ _ p6;have L0':=L06.st s15.st;have tb':=tb6.same s15;clear s1 s2 s3 s4 s5 s13 s15 etB ehB em2 epB htB hhB hm2 hpB hhd L6 e6 p6 L06 tb6 z1 z2 z3;have hand:Hand cs.length T0 hs0 TT hs pcs:=⟨ld0,lr,t40,p40,few⟩
 refine⟨_,rfl,_,rfl,(cB m0 hd m2 pB D1 D2 tB (cB hB cs.length T0 TT hs0 hs pcs (dI rfl ehd pB' L0' LB hand tb' (λb H12 g12 t12 hb=>?_))))⟩;refine(fF _ rfl _ ("bool") ("bool") rfl rfl ⟨ .inr (.inr (.inr rfl)),_,rfl,eJ rfl ?_⟩);refine(fZ _ rfl _ rfl _ rfl (cB m0 r m pr D1 D2 ta (cB ha cs.length T0 TT hs0 hs pcs (dI rfl (g12.t e6') (g12.l p6') (L0'.st g12) (L6'.st g12) hand hne (λb2 H13 g13 hb2=>?_)))));have ebb:b=b2:=by rw[Xx,hb,hb2]
 subst ebb;refine⟨rfl,_,rfl,eJ (decide_eq_true rfl) ?_⟩;refine(bR _ rfl _ rfl _ _ (dE.bdp (g13 _ _ (g12.t ehd)) ((LB.st g12).st g13.st) (g13 _ _ (g12.l pB'))) ⟨ dE.bdp (g13 _ _ (g12.t e6')) ((L6'.st g12).st g13.st) (g13 _ _ (g12.l p6')),C1 _ _ _,C1 _ _ _,?_⟩);rw[QE (C1 _ _ _)];exact q _
end K49
namespace PySem.W.Fast
def tw1550907987458860804:Nat:=0
def tw946077883725501127:Nat:=0
def tw7020180319837025735:Nat:=0
def tw1984263518821868411:Nat:=0
def tw11799730046688883182:Nat:=0
def tw6869054108022879718:Nat:=0
def tw6800658246546870248:Nat:=0
def tw4614324038041161639:Nat:=0
def tw7621874547305623184:Nat:=0
def tw8378634637481747009:Nat:=0
def tw12060021520828568252:Nat:=0
def tw18159049552676518012:Nat:=0
def tw11343579442901236080:Nat:=0
def tw6966708057455718053:Nat:=0
def tw10520476057341440633:Nat:=0
def tw16090836744001883381:Nat:=0
def tw17673379637718772337:Nat:=0
def tw1898807004847112427:Nat:=0
def tw14450113916853313310:Nat:=0
def tw2317732801589126467:Nat:=0
def tw15508840621402163069:Nat:=0
def tw6097260452516503610:Nat:=0
def tw5626362377066953867:Nat:=0
def tw13104923558032481976:Nat:=0
def tw12647514805429850804:Nat:=0
def tw3010693207576076042:Nat:=0
def tw16753861896568295830:Nat:=0
def tw4443338149711100223:Nat:=0
def tw13109184395553548986:Nat:=0
def tw5475774237928847949:Nat:=0
def tw16481879859988334674:Nat:=0
def tw1352103884359881840:Nat:=0
def tw12534295214285878953:Nat:=0
def tw13394865018191304550:Nat:=0
def tw4653015176895527529:Nat:=0
def tw5130432126734550389:Nat:=0
def tw5104838174776420155:Nat:=0
def tw8342054481132103153:Nat:=0
def tw17549586195622940357:Nat:=0
def tw18208856011383869488:Nat:=0
def tw8082262466974670477:Nat:=0
def tw7011754729390311371:Nat:=0
def tw17154310867293061719:Nat:=0
def tw15310495849482203774:Nat:=0
def tw1489109713909503634:Nat:=0
def tw16730294780500096519:Nat:=0
def tw13496191179760241476:Nat:=0
def tw8009589511556585298:Nat:=0
def tw7445109182916011565:Nat:=0
def tw10235961176636926706:Nat:=0
def tw14253245428676516854:Nat:=0
def tw2666692901785714708:Nat:=0
def tw9134722484111739329:Nat:=0
def tw6998944082482755740:Nat:=0
def tw8715458679797377840:Nat:=0
def tw2659087332910318647:Nat:=0
def tw11471667197042570771:Nat:=0
def tw16936881459232847914:Nat:=0
def tw16032628536018293000:Nat:=0
def tw8556680432491871900:Nat:=0
def tw5011191185779655385:Nat:=0
def tw11475381542104679553:Nat:=0
def tw4810104853512458371:Nat:=0
def tw16289124134821559199:Nat:=0
def tw8001912703714792393:Nat:=0
def tw6919344173352913621:Nat:=0
def tw11460925438089462052:Nat:=0
def tw10063793447437273617:Nat:=0
def tw3405444969033242684:Nat:=0
def tw8445794972551704009:Nat:=0
def tw7959523412118068234:Nat:=0
def tw17225233722648560039:Nat:=0
def tw18412696022526684233:Nat:=0
def tw10865079577466700900:Nat:=0
def tw9439601786916035825:Nat:=0
def tw12380671913480297481:Nat:=0
def tw5581519371184961321:Nat:=0
def tw16518199384273739877:Nat:=0
def tw13789983479001193431:Nat:=0
def tw1936395943051986448:Nat:=0
def tw1158988088185054237:Nat:=0
def tw17996369312080079200:Nat:=0
def tw13301647968846603463:Nat:=0
def tw4097806313913133793:Nat:=0
def tw12134170731712700618:Nat:=0
def tw4610537814594660358:Nat:=0
def tw7930652115390276360:Nat:=0
def tw15858014737126392361:Nat:=0
def tw15572784185982381226:Nat:=0
def tw13181420623125273371:Nat:=0
def tw9250514283605471550:Nat:=0
def tw154053730468954259:Nat:=0
def tw10141405268041277447:Nat:=0
def tw9199619927592340740:Nat:=0
def tw10599361258342701010:Nat:=0
def tw455458824088590786:Nat:=0
def tw5360160485608006922:Nat:=0
def tw18429894349716139647:Nat:=0
def tw13805968450048337382:Nat:=0
def tw17566041075466359414:Nat:=0
def tw203324685961924937:Nat:=0
def tw2987839039985135632:Nat:=0
def tw6212359566489120842:Nat:=0
def tw11130305924756641597:Nat:=0
def tw11719876814432682096:Nat:=0
end PySem.W.Fast
namespace L2
open PySem
theorem len0{p:List Value->Prop}(h:p []):∀us:List Value,us.length=0->p us
 |[],_=>h
theorem uX{n:Nat}{p:List Value->Prop}(h:∀a us,us.length=n->p (a::us)):∀us:List Value,us.length=n+1->p us
 |a::us,e=>h a us (Nat.succ.inj e)
theorem jS{p:List Value->Prop}(h:∀a,p [a]):∀us:List Value,us.length=1->p us:=uX λa=>len0 (h a)
theorem kO{p:List Value->Prop}(h:∀a b,p [a,b]):∀us:List Value,us.length=2->p us:=uX λa=>uX λb=>len0 (h a b)
theorem MN{p:List Value->Prop}(h:∀a b c,p [a,b,c]):∀us:List Value,us.length=3->p us:=uX λa=>uX λb=>uX λc=>len0 (h a b c)
theorem RV{p:List Value->Prop}(h:∀a b c d e,p [a,b,c,d,e]):∀us:List Value,us.length=5->p us:=uX λa=>uX λb=>uX λc=>uX λd=>uX λe=>len0 (h a b c d e)
end L2
namespace K49
open PySem L2
theorem all_mk{l:PySem.W.OpenLaw}{w:World}{K:PySem.W.Frag}{h:Heap}{mg:Str->Option Value}{fa:Addr}(X:K.In h)(G:h.Ns ZV mg)(hfa:mg "law" = some (.ref fa)){cA tp fM:Addr}{ocA ocM:Value}{odA odM:Option Addr}{vsA:Array Value}{slA slM:Array (Option Value)}{fdM:FuncData}{fA cM:Addr}{dW tF:Tok}
  (hs:FnX K "opposite" nG/\FnX K "end_heading" jF/\FnX K "quarters_right" fR/\FnX K "ties_name_places" eQ/\FnX K "ends_at_places" fT/\FnX K "hangs_together" fS/\FnX K "other_end" lD/\FnX K "place_of" nE/\FnX K "goes_to" qO/\FnX K "behind" uB/\FnX K "lands" y6/\FnX K "land_from" lF/\FnX K "is_flat" qN/\FnX K "wanted_sum" kF/\FnX K "land_sum" nI/\FnX K "check_laid" kI/\FnX K "ends_part" lJ/\FnX K "lands_turn_round" eS/\FnX K "land_sums" lE/\FnX K "map_of" oT/\FnX K "corners_of" kH/\FnX K "outer_of" nF/\FnX K "is_parting" kG/\FnX K "is_laid" qM/\FnX K "pieces_lead" jE/\FnX K "tie_leads" lC/\FnX K "lands_are_oblongs" eK/\FnX K "frame_is_outside" eU/\FnX K "_law_cell_at" lI/\FnX K "_law_mix" y9/\FnX K "_law_turned" nJ/\FnX K "_law_other" qJ/\FnX K "_law_place" qI/\FnX K "_law_behind" nN/\FnX K "_law_lands" qK/\FnX K "_law_orders" nK/\FnX K "_law_hangs" qL/\FnX K "_law_corner" nM/\FnX K "_law_is_laid" lH/\FnX K "_law_path" t9/\FnX K "_law_oblongs" lG/\FnX K "_law_is_parting" iE/\FnX K "_law_row" y8/\FnX K "_law_full" uA/\FnX K "law" II)
  (z0:PySem.W.nsIn K ZV "all" = some none)
  (z1:PySem.W.nsIn K ZV "bool" = some none)
  (z2:PySem.W.nsIn K ZV "enumerate" = some none)
  (z3:PySem.W.nsIn K ZV "int" = some none)
  (z4:PySem.W.nsIn K ZV "isinstance" = some none)
  (z5:PySem.W.nsIn K ZV "len" = some none)
  (z6:PySem.W.nsIn K ZV "list" = some none)
  (z7:PySem.W.nsIn K ZV "max" = some none)
  (z8:PySem.W.nsIn K ZV "min" = some none)
  (z9:PySem.W.nsIn K ZV "range" = some none)
  (z10:PySem.W.nsIn K ZV "set" = some none)
  (z11:PySem.W.nsIn K ZV "sorted" = some none)
  (z12:PySem.W.nsIn K ZV "sum" = some none)
  (z13:PySem.W.nsIn K ZV "zip" = some none)
  (bQ:PySem.W.nsIn K ZV "QUARTERS_ROUND" = some (some (.int 4 dW)))
  (mH:PySem.W.nsIn K ZV "FRAME" = some (some (.int (-2) tF)))
  (iZ:PySem.W.nsIn K ZV "BendError" = some (some (.ref fA)))
  (dQ:PySem.W.nsIn K ZV "NoLaid" = some (some (.ref cM)))
  (wN:PySem.W.excIn K cM [.type "ValueError",.type "Exception",.type "BaseException",.type "object"] "ValueError.__new__" = true)
  (KZ:L2.HA K cM fA)
  (KY:PySem.W.subIn K (.ref cM) (.type "ValueError")=some true)
  (tO:L2.HA K cM cM)
  (x_K:L2.SL K cM)
  (hG:PySem.W.nsIn K ZV "ValueError" = some none)
  (aM:PySem.W.nsIn K ZV "map_of" = some (some (.ref fM))) (lM:K.lookup fM=some ⟨ocM,odM,.func fdM,slM⟩) (hM:fdM.code=.ref cA) (lcA:K.lookup cA=some ⟨ocA,odA,.fields vsA,slA⟩) (hvA:vsA[11]?=some (.ref tp))
  : ∃(fd:FuncData) (cA tp:Addr),(∀(s:Shared) (v:Value),BindsTo s fd ⟨[v],[]⟩ [("_law_script",v)])/\PySem.W.tabIn K "map_of" = some (cA,tp)/\∀base:Heap,K.In base->base.Ns ZV mg->PySem.W.CodeHd base cA tp->base.BuiltinsAt mg tp->cJ l.prog w K mg base CX0 lawK fa fd ["_law_script"] (EC tp K):=by
 obtain⟨h0,h1,h2,h3,h4,h5,h6,h7,h8,h9,h10,h11,h12,h13,h14,h15,h16,h17,h18,h19,h20,h21,h22,h23,h24,h25,h26,h27,h28,h29,h30,h31,h32,h33,h34,h35,h36,h37,h38,h39,h40,h41,h42,h43,h44⟩:=hs;obtain⟨f0,d0,i0⟩:=bX (ps:=["head"]) X G h0 λ_ _ _ _ _ _=>jS λ_=>rfl;obtain⟨f1,d1,i1⟩:=bX (ps:=["heads","end"]) X G h1 λ_ _ _ _ _ _=>kO λ_ _=>rfl;obtain⟨f2,d2,i2⟩:=bX (ps:=["head","onward"]) X G h2 λ_ _ _ _ _ _=>kO λ_ _=>rfl;obtain⟨f3,d3,i3⟩:=bX (ps:=["many","ties"]) X G h3 λ_ _ _ _ _ _=>kO λ_ _=>rfl;obtain⟨f4,d4,i4⟩:=bX (ps:=["many","ties"]) X G h4 λ_ _ _ _ _ _=>kO λ_ _=>rfl;obtain⟨f5,d5,i5⟩:=bX (ps:=["many","ties"]) X G h5 λ_ _ _ _ _ _=>kO λ_ _=>rfl;obtain⟨f6,d6,i6⟩:=bX (ps:=["end"]) X G h6 λ_ _ _ _ _ _=>jS λ_=>rfl;obtain⟨f7,d7,i7⟩:=bX (ps:=["web","end"]) X G h7 λ_ _ _ _ _ _=>kO λ_ _=>rfl;obtain⟨f8,d8,i8⟩:=bX (ps:=["web","end"]) X G h8 λ_ _ _ _ _ _=>kO λ_ _=>rfl;obtain⟨f9,d9,i9⟩:=bX (ps:=["web","end"]) X G h9 λ_ _ _ _ _ _=>kO λ_ _=>rfl;obtain⟨f10,d10,i10⟩:=bX (ps:=["web"]) X G h10 λ_ _ _ _ _ _=>jS λ_=>rfl;obtain⟨f11,d11,i11⟩:=bX (ps:=["web","first"]) X G h11 λ_ _ _ _ _ _=>kO λ_ _=>rfl;obtain⟨f12,d12,i12⟩:=bX (ps:=["web"]) X G h12 λ_ _ _ _ _ _=>jS λ_=>rfl;obtain⟨f13,d13,i13⟩:=bX (ps:=["number","outer"]) X G h13 λ_ _ _ _ _ _=>kO λ_ _=>rfl;obtain⟨f14,d14,i14⟩:=bX (ps:=["land","corners","lefts"]) X G h14 λ_ _ _ _ _ _=>MN λ_ _ _=>rfl;obtain⟨f15,d15,i15⟩:=bX (ps:=["laid"]) X G h15 λ_ _ _ _ _ _=>jS λ_=>rfl;obtain⟨f16,d16,i16⟩:=bX (ps:=["laid"]) X G h16 λ_ _ _ _ _ _=>jS λ_=>rfl;obtain⟨f17,d17,i17⟩:=bX (ps:=["laid"]) X G h17 λ_ _ _ _ _ _=>jS λ_=>rfl;obtain⟨f18,d18,i18⟩:=bX (ps:=["laid"]) X G h18 λ_ _ _ _ _ _=>jS λ_=>rfl;obtain⟨f19,d19,i19⟩:=bX (ps:=["laid"]) X G h19 λ_ _ _ _ _ _=>jS λ_=>rfl;obtain⟨f20,d20,i20⟩:=bX (ps:=["laid"]) X G h20 λ_ _ _ _ _ _=>jS λ_=>rfl;obtain⟨f21,d21,i21⟩:=bX (ps:=["laid"]) X G h21 λ_ _ _ _ _ _=>jS λ_=>rfl;obtain⟨f22,d22,i22⟩:=bX (ps:=["laid","parting"]) X G h22 λ_ _ _ _ _ _=>kO λ_ _=>rfl;obtain⟨f23,d23,i23⟩:=bX (ps:=["laid"]) X G h23 λ_ _ _ _ _ _=>jS λ_=>rfl;obtain⟨f24,d24,i24⟩:=bX (ps:=["laid","parting"]) X G h24 λ_ _ _ _ _ _=>kO λ_ _=>rfl;obtain⟨f25,d25,i25⟩:=bX (ps:=["laid","tie","whole","numbers","between"]) X G h25 λ_ _ _ _ _ _=>RV λ_ _ _ _ _=>rfl;obtain⟨f26,d26,i26⟩:=bX (ps:=["whole"]) X G h26 λ_ _ _ _ _ _=>jS λ_=>rfl;obtain⟨f27,d27,i27⟩:=bX (ps:=["parting"]) X G h27 λ_ _ _ _ _ _=>jS λ_=>rfl;obtain⟨f28,d28,i28⟩:=bX (ps:=["_law_script","_law_k"]) X G h28 λ_ _ _ _ _ _=>kO λ_ _=>rfl;obtain⟨f29,d29,i29⟩:=bX (ps:=["_law_cell","_law_k"]) X G h29 λ_ _ _ _ _ _=>kO λ_ _=>rfl;obtain⟨f30,d30,i30⟩:=bX (ps:=["_law_number","_law_many"]) X G h30 λ_ _ _ _ _ _=>kO λ_ _=>rfl;obtain⟨f31,d31,i31⟩:=bX (ps:=["_law_end"]) X G h31 λ_ _ _ _ _ _=>jS λ_=>rfl;obtain⟨f32,d32,i32⟩:=bX (ps:=["_law_ties","_law_end"]) X G h32 λ_ _ _ _ _ _=>kO λ_ _=>rfl;obtain⟨f33,d33,i33⟩:=bX (ps:=["_law_ties","_law_orders_here","_law_end"]) X G h33 λ_ _ _ _ _ _=>MN λ_ _ _=>rfl;obtain⟨f34,d34,i34⟩:=bX (ps:=["_law_ties","_law_orders_here"]) X G h34 λ_ _ _ _ _ _=>kO λ_ _=>rfl;obtain⟨f35,d35,i35⟩:=bX (ps:=["_law_laid"]) X G h35 λ_ _ _ _ _ _=>jS λ_=>rfl;obtain⟨f36,d36,i36⟩:=bX (ps:=["_law_laid"]) X G h36 λ_ _ _ _ _ _=>jS λ_=>rfl;obtain⟨f37,d37,i37⟩:=bX (ps:=["_law_laid","_law_orders_here","_law_end"]) X G h37 λ_ _ _ _ _ _=>MN λ_ _ _=>rfl;obtain⟨f38,d38,i38⟩:=bX (ps:=["_law_laid"]) X G h38 λ_ _ _ _ _ _=>jS λ_=>rfl;obtain⟨f39,d39,i39⟩:=bX (ps:=["_law_laid","_law_inner","_law_some","_law_tie","_law_between"]) X G h39 λ_ _ _ _ _ _=>RV λ_ _ _ _ _=>rfl;obtain⟨f40,d40,i40⟩:=bX (ps:=["_law_inner","_law_pieces"]) X G h40 λ_ _ _ _ _ _=>kO λ_ _=>rfl;obtain⟨f41,d41,i41⟩:=bX (ps:=["_law_laid","_law_parting"]) X G h41 λ_ _ _ _ _ _=>kO λ_ _=>rfl;obtain⟨f42,d42,i42⟩:=bX (ps:=["_law_script"]) X G h42 λ_ _ _ _ _ _=>jS λ_=>rfl;obtain⟨f43,d43,i43⟩:=bX (ps:=["_law_script","_law_corners","_law_steps"]) X G h43 λ_ _ _ _ _ _=>MN λ_ _ _=>rfl;obtain⟨f44,d44,i44,bL⟩:=QC (ps:=["_law_script"]) X G h44 λ_ _ _ _ _ _=>jS λ_=>rfl;have e:=hfa.symm.trans i44.m;cases e;have T:Txt K mg ⟨cA,tp,fA,cM,dW,tF,f0,d0,f1,d1,f2,d2,f3,d3,f4,d4,f5,d5,f6,d6,f7,d7,f8,d8,f9,d9,f10,d10,f11,d11,f12,d12,f13,d13,f14,d14,f15,d15,f16,d16,f17,d17,f18,d18,f19,d19,f20,d20,f21,d21,f22,d22,f23,d23,f24,d24,f25,d25,f26,d26,f27,d27,f28,d28,f29,d29,f30,d30,f31,d31,f32,d32,f33,d33,f34,d34,f35,d35,f36,d36,f37,d37,f38,d38,f39,d39,f40,d40,f41,d41,f42,d42,f43,d43,fa,d44⟩:=⟨i0,i1,i2,i3,i4,i5,i6,i7,i8,i9,i10,i11,i12,i13,i14,i15,i16,i17,i18,i19,i20,i21,i22,i23,i24,i25,i26,i27,i28,i29,i30,i31,i32,i33,i34,i35,i36,i37,i38,i39,i40,i41,i42,i43,i44,PySem.W.mg_none_of X G z0,PySem.W.mg_none_of X G z1,PySem.W.mg_none_of X G z2,PySem.W.mg_none_of X G z3,PySem.W.mg_none_of X G z4,PySem.W.mg_none_of X G z5,PySem.W.mg_none_of X G z6,PySem.W.mg_none_of X G z7,PySem.W.mg_none_of X G z8,PySem.W.mg_none_of X G z9,PySem.W.mg_none_of X G z10,PySem.W.mg_none_of X G z11,PySem.W.mg_none_of X G z12,PySem.W.mg_none_of X G z13,PySem.W.mg_of X G bQ,PySem.W.mg_of X G mH,PySem.W.mg_of X G iZ,PySem.W.mg_of X G dQ,wN,KZ,KY,tO,x_K,PySem.W.mg_none_of X G hG,G9.of i19.F i19.m (PySem.W.mg_of X G aM) lM hM⟩
 exact⟨_,cA,tp,λs v=>bL s [v] rfl,OB aM lM hM lcA hvA,λbase _ _ hC hB=>PY T ⟨hC,hB⟩⟩
theorem walk{l:PySem.W.OpenLaw}{q:Program}{loose:List Str}{XP:(Str->Option Value)->Heap->Prop}{YP:World->Heap->Prop}{d dm:DefRec}{K:Params->PySem.W.Frag}(hn:l.most=some 63)(hdf:d.params.defaults=[])
  (hf:(PyProof.Rows.recsOf q).find? (λe=>e.name==("map_of" : Str))=some dm) (hN:∀w:World,PySem.W.noTabs (K w.params)=true) (hY:∀(w:World) (h:Heap),YP w h->(K w.params).In h)
  (F:∀(w:World) (mg:Str->Option Value) (fa:Addr) (h:Heap),(K w.params).In h->h.Ns ZV mg->mg d.name=some (.ref fa) ->
   ∃(fd:FuncData) (cA tp:Addr),(∀(s:Shared) (u:Value),BindsTo s fd ⟨[u],[]⟩ [("_law_script",u)])/\PySem.W.tabIn (K w.params) "map_of" = some (cA,tp)/\∀base:Heap,(K w.params).In base->base.Ns ZV mg->PySem.W.CodeHd base cA tp->base.BuiltinsAt mg tp->cJ l.prog w (K w.params) mg base CX0 lawK fa fd ["_law_script"] (EC tp (K w.params))) :
  PySem.W.WalkO q loose XP YP l.row.toRowW d [] (λf vs=>PySem.call f vs) :=
 L2.HL (n:=63) (k:=lawK) (x:="_law_script") (sp:=λtp K=>EC tp K) hn (by decide) hdf ⟨rfl,by decide,by decide⟩ hf hN hY F λtp _ _ a ns hl ht hS=>⟨a,ns,rfl,hS,hl,⟨_,ht,trivial,.inl rfl⟩,λ_=>rfl⟩
end K49
open PySem PySem.W PyProof.Rows
set_option maxRecDepth 100000 in
set_option maxHeartbeats 0 in
theorem PySem.Challenge.cw_fewbends_k49_whole_rows_in_a_full_grid_holds : PySem.Challenge.rw_fewbends_k49_whole_rows_in_a_full_grid.Holds := by
 w_on;o_law;k_head;(case hw=>w_witness2)
 k_fill
 refine K49.walk (l:=PySem.Challenge.rw_fewbends_k49_whole_rows_in_a_full_grid) rfl rfl rfl (λw=>by kernel_rfl) (λw h Y=>PySem.W.km_in_of Y) ?F
 case F =>
  intro w mg fa h KX G hmg;refine' K49.all_mk KX G hmg ?hs ?z0 ?z1 ?z2 ?z3 ?z4 ?z5 ?z6 ?z7 ?z8 ?z9 ?z10 ?z11 ?z12 ?z13 ?bQ ?mH ?iZ ?dQ ?wN ?KZ ?KY ?tO ?x_K ?hG ?aM ?lM ?hM ?lcA ?hvA
  (case hs=>refine⟨?_,?_,?_,?_,?_,?_,?_,?_,?_,?_,?_,?_,?_,?_,?_,?_,?_,?_,?_,?_,?_,?_,?_,?_,?_,?_,?_,?_,?_,?_,?_,?_,?_,?_,?_,?_,?_,?_,?_,?_,?_,?_,?_,?_,?_⟩<;>exact⟨_,by k_is,_,_,_,_,_,_,_,_,_,by k_is,by k_is,by k_is⟩)
  (case z0=>k_is);(case z1=>k_is);(case z2=>k_is);(case z3=>k_is);(case z4=>k_is);(case z5=>k_is);(case z6=>k_is);(case z7=>k_is);(case z8=>k_is);(case z9=>k_is);(case z10=>k_is);(case z11=>k_is);(case z12=>k_is);(case z13=>k_is)
  (case bQ=>k_is)
  (case mH=>k_is)
  (case iZ=>k_is)
  (case dQ=>k_is)
  (case wN=>k_exc)
  (case KZ=>exact⟨by k_is,by k_is,by k_is,by k_is⟩)
  (case KY=>k_is)
  (case tO=>exact⟨by k_is,by k_is,by k_is,by k_is⟩)
  (case x_K=>exact⟨by k_is,by k_is,by k_is,by k_is,by k_is,by k_is⟩)
  (case hG=>k_is)
  (case aM=>k_is)
  (case lM=>k_is)
  (case hM=>rfl)
  (case lcA=>k_is)
  (case hvA=>rfl)
