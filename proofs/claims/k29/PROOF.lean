import PyProof.Rows.All
import Wide.All
import OpenK.AllK
import Wide.FinOn
import Lean
import PyProof.EqAt
import PyProof.EqKinds
import PyProof.TupleCall
import KE.BitLaws
import KE.KSortTup
import PyProof.MeetsSeq3
import PyProof.FactsAll.list_2
import PyProof.Rows.SortRuns
import PyProof.Rows.SortShell
import PyProof.Rows.SortRev
import PyProof.Rows.SortWalk
import PyProof.FactsAll.tuple_1
import PyProof.DictItems
import KE.KDictSum
import PyProof.SetKind
import PyProof.TupleKey
import PyProof.IsRules
import PyProof.DictKinds
import PyProof.Rows.SetFrom
import PyProof.FactsAll.set_1
import PyProof.FactsAll.set_2
import PySem.Challenge.RW_fewbends_k29_whole_costs_under_other_nam
open PySem renaming wpAny_bind->ZZ,wpAny_pure->ZY,wpAny_mono->ZX,sizeLine->ZW,mainGlobals->ZV,wpAny_holding->ZU
open Classical renaming byContradiction->ZT
open List renaming length_map->Zq,getElem?_eq_getElem->Zz,getElem?_eq_some_iff->Zj,getElem?_map->Zk,getD_eq_getElem?_getD->Zv,mem_cons_of_mem->Zw,getElem?_append_left->Zx,getElem?_append_right->Zy,mem_of_getElem?->Zg,mem_map->Zh,mem_singleton->Zb,mem_cons_self->Zd,mem_append->Zf,length_append->Zm,mem_cons->Zn,getElem_mem->Zp,getElem?_eq_none->Zr,mem_range->Zs,map_append->Zt,length_singleton->ZQ,length_cons->Yq,mem_filter->Yz,length_range->Yj,getElem?_range->Yk,take_length->Yv,length_take->Yw,getElem?_concat_length->Yx,mem_iff_getElem->Yy,length_eq_zero_iff->Yg,map_map->Yh,cons_append->Yb,append_assoc->Yd,length_drop->Yf,mem_map_of_mem->Ym,map_congr_left->Yn,ext_getElem?->Yp
open Nat renaming le_trans->Yr,lt_of_le_of_lt->Ys,lt_of_lt_of_le->Yt,lt_succ_of_lt->YQ,lt_or_ge->Xq
open Option renaming map_eq_some_iff->Xz
open Int renaming emod_nonneg->Xj,emod_lt_of_pos->Xk,eq_ofNat_of_zero_le->Xv
open Bool renaming and_eq_true->Xw,eq_iff_iff->Xx
set_option Elab.async false
set_option linter.all false
set_option maxRecDepth 100000
section
variable{A B C D E F G H I J:Type}
theorem xWW{R:A->B->Prop}(a:A)(b:B)(r:R a b):∃a b,R a b:=⟨a,b,r⟩
theorem xPP{K L R:Prop}(k:K)(l:L)(r:R):K/\L/\R:=⟨k,l,r⟩
theorem xWP{K R:A->Prop}(a:A)(k:K a)(r:R a):∃a,K a/\R a:=⟨a,k,r⟩
theorem rT{K R:A->B->Prop}(a:A)(b:B)(k:K a b)(r:R a b):∃a b,K a b/\R a b:=⟨a,b,k,r⟩
theorem NL{K:Prop}{R:A->B->Prop}(k:K)(a:A)(b:B)(r:R a b):K/\∃a b,R a b:=⟨k,a,b,r⟩
theorem ZE{K L:Prop}{R:A->Prop}(k:K)(l:L)(a:A)(r:R a):K/\L/\∃a,R a:=⟨k,l,a,r⟩
theorem LF{R:A->B->C->Prop}(a:A)(b:B)(c:C)(r:R a b c):∃a b c,R a b c:=⟨a,b,c,r⟩
theorem kW{K L M R:Prop}(k:K)(l:L)(m:M)(r:R):K/\L/\M/\R:=⟨k,l,m,r⟩
theorem AJ{K:Prop}{L R:A->Prop}(k:K)(a:A)(l:L a)(r:R a):K/\∃a,L a/\R a:=⟨k,a,l,r⟩
theorem CL{K L R:A->Prop}(a:A)(k:K a)(l:L a)(r:R a):∃a,K a/\L a/\R a:=⟨a,k,l,r⟩
theorem xH{K L R:A->B->Prop}(a:A)(b:B)(k:K a b)(l:L a b)(r:R a b):∃a b,K a b/\L a b/\R a b:=⟨a,b,k,l,r⟩
theorem WR{K:Prop}{L M R:A->Prop}(k:K)(a:A)(l:L a)(m:M a)(r:R a):K/\∃a,L a/\M a/\R a:=⟨k,a,l,m,r⟩
theorem rW{K:A->Prop}{L R:A->B->Prop}(a:A)(k:K a)(b:B)(l:L a b)(r:R a b):∃a,K a/\∃b,L a b/\R a b:=⟨a,k,b,l,r⟩
theorem NP{K L M N R:Prop}(k:K)(l:L)(m:M)(n:N)(r:R):K/\L/\M/\N/\R:=⟨k,l,m,n,r⟩
theorem JE{K L M R:A->Prop}(a:A)(k:K a)(l:L a)(m:M a)(r:R a):∃a,K a/\L a/\M a/\R a:=⟨a,k,l,m,r⟩
theorem NN{K L:Prop}{M R:A->Prop}(k:K)(l:L)(a:A)(m:M a)(r:R a):K/\L/\∃a,M a/\R a:=⟨k,l,a,m,r⟩
theorem WQ{R:A->B->C->D->Prop}(a:A)(b:B)(c:C)(d:D)(r:R a b c d):∃a b c d,R a b c d:=⟨a,b,c,d,r⟩
theorem JF{K:Prop}{L R:A->B->Prop}(k:K)(a:A)(b:B)(l:L a b)(r:R a b):K/\∃a b,L a b/\R a b:=⟨k,a,b,l,r⟩
theorem ED{K R:A->B->C->Prop}(a:A)(b:B)(c:C)(k:K a b c)(r:R a b c):∃a b c,K a b c/\R a b c:=⟨a,b,c,k,r⟩
theorem nJ{K L M N O R:Prop}(k:K)(l:L)(m:M)(n:N)(o:O)(r:R):K/\L/\M/\N/\O/\R:=xPP k l (kW m n o r)
theorem NJ{K R:A->B->C->D->Prop}(a:A)(b:B)(c:C)(d:D)(k:K a b c d)(r:R a b c d):∃a b c d,K a b c d/\R a b c d:=xWW a b (rT c d k r)
theorem US{K:A->B->Prop}{L R:A->B->C->Prop}(a:A)(b:B)(k:K a b)(c:C)(l:L a b c)(r:R a b c):∃a b,K a b/\∃c,L a b c/\R a b c:=rT a b k (xWP c l r)
theorem a9{K L M R:A->B->Prop}(a:A)(b:B)(k:K a b)(l:L a b)(m:M a b)(r:R a b):∃a b,K a b/\L a b/\M a b/\R a b:=rT a b k (xPP l m r)
theorem GZ{K L:Prop}{M N R:A->Prop}(k:K)(l:L)(a:A)(m:M a)(n:N a)(r:R a):K/\L/\∃a,M a/\N a/\R a:=xPP k l (CL a m n r)
theorem UT{K:Prop}{L M R:A->B->Prop}(k:K)(a:A)(b:B)(l:L a b)(m:M a b)(r:R a b):K/\∃a b,L a b/\M a b/\R a b:=NL k a b (xPP l m r)
theorem CK{R:A->B->C->D->E->Prop}(a:A)(b:B)(c:C)(d:D)(e:E)(r:R a b c d e):∃a b c d e,R a b c d e:=xWW a b (LF c d e r)
theorem UR{K L R:A->B->C->Prop}(a:A)(b:B)(c:C)(k:K a b c)(l:L a b c)(r:R a b c):∃a b c,K a b c/\L a b c/\R a b c:=xWW a b (CL c k l r)
theorem fF{K L:A->Prop}{M R:A->B->Prop}(a:A)(k:K a)(l:L a)(b:B)(m:M a b)(r:R a b):∃a,K a/\L a/\∃b,M a b/\R a b:=xWP a k (AJ l b m r)
theorem GX{K L M N R:A->Prop}(a:A)(k:K a)(l:L a)(m:M a)(n:N a)(r:R a):∃a,K a/\L a/\M a/\N a/\R a:=xWP a k (kW l m n r)
theorem GY{K:Prop}{L:A->Prop}{M R:A->B->Prop}(k:K)(a:A)(l:L a)(b:B)(m:M a b)(r:R a b):K/\∃a,L a/\∃b,M a b/\R a b:=AJ k a l (xWP b m r)
theorem cU{K L M:Prop}{N R:A->Prop}(k:K)(l:L)(m:M)(a:A)(n:N a)(r:R a):K/\L/\M/\∃a,N a/\R a:=xPP k l (AJ m a n r)
theorem dB{K:A->Prop}{L M R:A->B->Prop}(a:A)(k:K a)(b:B)(l:L a b)(m:M a b)(r:R a b):∃a,K a/\∃b,L a b/\M a b/\R a b:=xWP a k (CL b l m r)
theorem RC{K L M:Prop}{N R:A->B->Prop}(k:K)(l:L)(m:M)(a:A)(b:B)(n:N a b)(r:R a b):K/\L/\M/\∃a b,N a b/\R a b:=kW k l m (rT a b n r)
theorem bJ{K:A->Prop}{L:A->B->Prop}{M R:A->B->C->Prop}(a:A)(k:K a)(b:B)(l:L a b)(c:C)(m:M a b c)(r:R a b c):∃a,K a/\∃b,L a b/\∃c,M a b c/\R a b c:=xWP a k (rW b l c m r)
theorem bQ{K L M N:Prop}{O R:A->Prop}(k:K)(l:L)(m:M)(n:N)(a:A)(o:O a)(r:R a):K/\L/\M/\N/\∃a,O a/\R a:=kW k l m (AJ n a o r)
theorem gJ{K L M:Prop}{N O R:A->Prop}(k:K)(l:L)(m:M)(a:A)(n:N a)(o:O a)(r:R a):K/\L/\M/\∃a,N a/\O a/\R a:=kW k l m (CL a n o r)
theorem kI{K:Prop}{L M N R:A->B->Prop}(k:K)(a:A)(b:B)(l:L a b)(m:M a b)(n:N a b)(r:R a b):K/\∃a b,L a b/\M a b/\N a b/\R a b:=NL k a b (kW l m n r)
theorem l9{K L M N O P R:Prop}(k:K)(l:L)(m:M)(n:N)(o:O)(p:P)(r:R):K/\L/\M/\N/\O/\P/\R:=kW k l m (kW n o p r)
theorem l8{K L:A->B->Prop}{M R:A->B->C->Prop}(a:A)(b:B)(k:K a b)(l:L a b)(c:C)(m:M a b c)(r:R a b c):∃a b,K a b/\L a b/\∃c,M a b c/\R a b c:=rT a b k (AJ l c m r)
theorem rX{K L M N O R:A->Prop}(a:A)(k:K a)(l:L a)(m:M a)(n:N a)(o:O a)(r:R a):∃a,K a/\L a/\M a/\N a/\O a/\R a:=CL a k l (kW m n o r)
theorem pM{K L:Prop}{M N R:A->B->Prop}(k:K)(l:L)(a:A)(b:B)(m:M a b)(n:N a b)(r:R a b):K/\L/\∃a b,M a b/\N a b/\R a b:=xPP k l (xH a b m n r)
theorem wH{K:A->B->Prop}{L R:A->B->C->D->Prop}(a:A)(b:B)(k:K a b)(c:C)(d:D)(l:L a b c d)(r:R a b c d):∃a b,K a b/\∃c d,L a b c d/\R a b c d:=rT a b k (rT c d l r)
theorem bP{K:A->Prop}{L M R:A->B->C->Prop}(a:A)(k:K a)(b:B)(c:C)(l:L a b c)(m:M a b c)(r:R a b c):∃a,K a/\∃b c,L a b c/\M a b c/\R a b c:=xWP a k (xH b c l m r)
theorem lZ{K L M R:A->B->C->Prop}(a:A)(b:B)(c:C)(k:K a b c)(l:L a b c)(m:M a b c)(r:R a b c):∃a b c,K a b c/\L a b c/\M a b c/\R a b c:=LF a b c (kW k l m r)
theorem fE{K L M N R:A->B->Prop}(a:A)(b:B)(k:K a b)(l:L a b)(m:M a b)(n:N a b)(r:R a b):∃a b,K a b/\L a b/\M a b/\N a b/\R a b:=rT a b k (kW l m n r)
theorem JG{K L:Prop}{M:A->Prop}{N R:A->B->Prop}(k:K)(l:L)(a:A)(m:M a)(b:B)(n:N a b)(r:R a b):K/\L/\∃a,M a/\∃b,N a b/\R a b:=xPP k l (rW a m b n r)
theorem pL{K:A->Prop}{L M N R:A->B->Prop}(a:A)(k:K a)(b:B)(l:L a b)(m:M a b)(n:N a b)(r:R a b):∃a,K a/\∃b,L a b/\M a b/\N a b/\R a b:=xWP a k (JE b l m n r)
theorem EG{K L:Prop}{M N O P R:A->Prop}(k:K)(l:L)(a:A)(m:M a)(n:N a)(o:O a)(p:P a)(r:R a):K/\L/\∃a,M a/\N a/\O a/\P a/\R a:=NN k l a m (kW n o p r)
theorem lG{K:Prop}{L M:A->B->Prop}{N R:A->B->C->Prop}(k:K)(a:A)(b:B)(l:L a b)(m:M a b)(c:C)(n:N a b c)(r:R a b c):K/\∃a b,L a b/\M a b/\∃c,N a b c/\R a b c:=JF k a b l (AJ m c n r)
theorem bR{K:A->Prop}{L M N R:A->B->C->Prop}(a:A)(k:K a)(b:B)(c:C)(l:L a b c)(m:M a b c)(n:N a b c)(r:R a b c):∃a,K a/\∃b c,L a b c/\M a b c/\N a b c/\R a b c:=xWP a k (a9 b c l m n r)
theorem eZ{K L M:Prop}{N:A->Prop}{O R:A->B->Prop}(k:K)(l:L)(m:M)(a:A)(n:N a)(b:B)(o:O a b)(r:R a b):K/\L/\M/\∃a,N a/\∃b,O a b/\R a b:=kW k l m (rW a n b o r)
theorem nI{K L:Prop}{M:A->Prop}{N R:A->B->C->Prop}(k:K)(l:L)(a:A)(m:M a)(b:B)(c:C)(n:N a b c)(r:R a b c):K/\L/\∃a,M a/\∃b c,N a b c/\R a b c:=NN k l a m (rT b c n r)
theorem xI{K L M N O P R:A->Prop}(a:A)(k:K a)(l:L a)(m:M a)(n:N a)(o:O a)(p:P a)(r:R a):∃a,K a/\L a/\M a/\N a/\O a/\P a/\R a:=CL a k l (NP m n o p r)
theorem eK{K L M N O P Q R:Prop}(k:K)(l:L)(m:M)(n:N)(o:O)(p:P)(q:Q)(r:R):K/\L/\M/\N/\O/\P/\Q/\R:=kW k l m (NP n o p q r)
theorem NK{K:Prop}{L M N O R:A->B->Prop}(k:K)(a:A)(b:B)(l:L a b)(m:M a b)(n:N a b)(o:O a b)(r:R a b):K/\∃a b,L a b/\M a b/\N a b/\O a b/\R a b:=JF k a b l (kW m n o r)
theorem bM{R:A->B->C->D->E->F->G->Prop}(a:A)(b:B)(c:C)(d:D)(e:E)(f:F)(g:G)(r:R a b c d e f g):∃a b c d e f g,R a b c d e f g:=LF a b c (WQ d e f g r)
theorem gH{K L M N O R:A->B->Prop}(a:A)(b:B)(k:K a b)(l:L a b)(m:M a b)(n:N a b)(o:O a b)(r:R a b):∃a b,K a b/\L a b/\M a b/\N a b/\O a b/\R a b:=rT a b k (NP l m n o r)
theorem aJ{K:A->Prop}{L R:A->B->C->D->E->Prop}(a:A)(k:K a)(b:B)(c:C)(d:D)(e:E)(l:L a b c d e)(r:R a b c d e):∃a,K a/\∃b c d e,L a b c d e/\R a b c d e:=xWP a k (NJ b c d e l r)
theorem b8{K:Prop}{L R:A->B->C->D->E->Prop}(k:K)(a:A)(b:B)(c:C)(d:D)(e:E)(l:L a b c d e)(r:R a b c d e):K/\∃a b c d e,L a b c d e/\R a b c d e:=NL k a b (ED c d e l r)
theorem cL{K:A->Prop}{L:A->B->Prop}{M R:A->B->C->D->Prop}(a:A)(k:K a)(b:B)(l:L a b)(c:C)(d:D)(m:M a b c d)(r:R a b c d):∃a,K a/\∃b,L a b/\∃c d,M a b c d/\R a b c d:=rW a k b l (rT c d m r)
theorem bN{K L M N R:A->B->C->Prop}(a:A)(b:B)(c:C)(k:K a b c)(l:L a b c)(m:M a b c)(n:N a b c)(r:R a b c):∃a b c,K a b c/\L a b c/\M a b c/\N a b c/\R a b c:=ED a b c k (kW l m n r)
theorem xN{K:Prop}{L:A->Prop}{M:A->B->Prop}{N R:A->B->C->Prop}(k:K)(a:A)(l:L a)(b:B)(m:M a b)(c:C)(n:N a b c)(r:R a b c):K/\∃a,L a/\∃b,M a b/\∃c,N a b c/\R a b c:=AJ k a l (rW b m c n r)
theorem aM{K L M R:A->B->C->D->Prop}(a:A)(b:B)(c:C)(d:D)(k:K a b c d)(l:L a b c d)(m:M a b c d)(r:R a b c d):∃a b c d,K a b c d/\L a b c d/\M a b c d/\R a b c d:=LF a b c (JE d k l m r)
theorem EH{K L M N:Prop}{O P R:A->Prop}(k:K)(l:L)(m:M)(n:N)(a:A)(o:O a)(p:P a)(r:R a):K/\L/\M/\N/\∃a,O a/\P a/\R a:=kW k l m (WR n a o p r)
theorem EE{K:A->Prop}{L:A->B->Prop}{M N R:A->B->C->Prop}(a:A)(k:K a)(b:B)(l:L a b)(c:C)(m:M a b c)(n:N a b c)(r:R a b c):∃a,K a/\∃b,L a b/\∃c,M a b c/\N a b c/\R a b c:=rW a k b l (CL c m n r)
theorem xM{K:Prop}{L:A->Prop}{M N R:A->B->C->Prop}(k:K)(a:A)(l:L a)(b:B)(c:C)(m:M a b c)(n:N a b c)(r:R a b c):K/\∃a,L a/\∃b c,M a b c/\N a b c/\R a b c:=AJ k a l (xH b c m n r)
theorem dS{K:A->Prop}{L M R:A->B->C->D->Prop}(a:A)(k:K a)(b:B)(c:C)(d:D)(l:L a b c d)(m:M a b c d)(r:R a b c d):∃a,K a/\∃b c d,L a b c d/\M a b c d/\R a b c d:=xWP a k (UR b c d l m r)
theorem jS{K L:A->Prop}{M:A->B->Prop}{N R:A->B->C->Prop}(a:A)(k:K a)(l:L a)(b:B)(m:M a b)(c:C)(n:N a b c)(r:R a b c):∃a,K a/\L a/\∃b,M a b/\∃c,N a b c/\R a b c:=CL a k l (rW b m c n r)
theorem eY{K R:A->B->C->D->E->F->Prop}(a:A)(b:B)(c:C)(d:D)(e:E)(f:F)(k:K a b c d e f)(r:R a b c d e f):∃a b c d e f,K a b c d e f/\R a b c d e f:=LF a b c (ED d e f k r)
theorem dC{K:Prop}{L M R:A->B->C->D->Prop}(k:K)(a:A)(b:B)(c:C)(d:D)(l:L a b c d)(m:M a b c d)(r:R a b c d):K/\∃a b c d,L a b c d/\M a b c d/\R a b c d:=NL k a b (xH c d l m r)
theorem rV{K:A->Prop}{L M:A->B->Prop}{N R:A->B->C->Prop}(a:A)(k:K a)(b:B)(l:L a b)(m:M a b)(c:C)(n:N a b c)(r:R a b c):∃a,K a/\∃b,L a b/\M a b/\∃c,N a b c/\R a b c:=rW a k b l (AJ m c n r)
theorem rY{K:Prop}{L:A->Prop}{M R:A->B->C->D->Prop}(k:K)(a:A)(l:L a)(b:B)(c:C)(d:D)(m:M a b c d)(r:R a b c d):K/\∃a,L a/\∃b c d,M a b c d/\R a b c d:=AJ k a l (ED b c d m r)
theorem xP{K L M N:Prop}{O R:A->B->Prop}(k:K)(l:L)(m:M)(n:N)(a:A)(b:B)(o:O a b)(r:R a b):K/\L/\M/\N/\∃a b,O a b/\R a b:=kW k l m (JF n a b o r)
theorem cQ{K L M:Prop}{N O R:A->B->Prop}(k:K)(l:L)(m:M)(a:A)(b:B)(n:N a b)(o:O a b)(r:R a b):K/\L/\M/\∃a b,N a b/\O a b/\R a b:=kW k l m (xH a b n o r)
theorem NO{K L M:Prop}{N O P R:A->Prop}(k:K)(l:L)(m:M)(a:A)(n:N a)(o:O a)(p:P a)(r:R a):K/\L/\M/\∃a,N a/\O a/\P a/\R a:=kW k l m (JE a n o p r)
theorem xJ{K:Prop}{L M N R:A->B->C->Prop}(k:K)(a:A)(b:B)(c:C)(l:L a b c)(m:M a b c)(n:N a b c)(r:R a b c):K/\∃a b c,L a b c/\M a b c/\N a b c/\R a b c:=NL k a b (JE c l m n r)
theorem EF{K:A->Prop}{L M N O R:A->B->Prop}(a:A)(k:K a)(b:B)(l:L a b)(m:M a b)(n:N a b)(o:O a b)(r:R a b):∃a,K a/\∃b,L a b/\M a b/\N a b/\O a b/\R a b:=rW a k b l (kW m n o r)
theorem gF{K L:A->B->Prop}{M R:A->B->C->D->Prop}(a:A)(b:B)(k:K a b)(l:L a b)(c:C)(d:D)(m:M a b c d)(r:R a b c d):∃a b,K a b/\L a b/\∃c d,M a b c d/\R a b c d:=rT a b k (JF l c d m r)
theorem cF{K:A->B->Prop}{L M R:A->B->C->D->Prop}(a:A)(b:B)(k:K a b)(c:C)(d:D)(l:L a b c d)(m:M a b c d)(r:R a b c d):∃a b,K a b/\∃c d,L a b c d/\M a b c d/\R a b c d:=rT a b k (xH c d l m r)
theorem gG{K L M:A->B->Prop}{N R:A->B->C->Prop}(a:A)(b:B)(k:K a b)(l:L a b)(m:M a b)(c:C)(n:N a b c)(r:R a b c):∃a b,K a b/\L a b/\M a b/\∃c,N a b c/\R a b c:=rT a b k (NN l m c n r)
theorem lF{K L:A->Prop}{M R:A->B->C->D->Prop}(a:A)(k:K a)(l:L a)(b:B)(c:C)(d:D)(m:M a b c d)(r:R a b c d):∃a,K a/\L a/\∃b c d,M a b c d/\R a b c d:=CL a k l (ED b c d m r)
theorem dA{K L R:A->B->C->D->E->Prop}(a:A)(b:B)(c:C)(d:D)(e:E)(k:K a b c d e)(l:L a b c d e)(r:R a b c d e):∃a b c d e,K a b c d e/\L a b c d e/\R a b c d e:=LF a b c (xH d e k l r)
theorem dD{K L:Prop}{M R:A->B->C->D->Prop}(k:K)(l:L)(a:A)(b:B)(c:C)(d:D)(m:M a b c d)(r:R a b c d):K/\L/\∃a b c d,M a b c d/\R a b c d:=xPP k l (NJ a b c d m r)
theorem xO{K L:Prop}{M N O R:A->B->Prop}(k:K)(l:L)(a:A)(b:B)(m:M a b)(n:N a b)(o:O a b)(r:R a b):K/\L/\∃a b,M a b/\N a b/\O a b/\R a b:=xPP k l (a9 a b m n o r)
end
namespace L2
open PySem PySem.Spec PyProof.Rows
abbrev Key:=Sum Int Str
def vG:Key->Value->Bool
 |.inl k,v=>Value.isInt k v
 |.inr x,v=>Value.isStrOf x v
def Y5(w:World):Key->Int
 |.inl k=>hashInt k
 |.inr x=>hashStr w x
theorem dU:∀{k:Key}{v:Value},vG k v=true->(∃i t,k=Sum.inl i/\v=Value.int i t)\/(∃x t,k=Sum.inr x/\v=Value.str x t)
 |.inl i,v,h=>by
  obtain⟨t,e⟩:=Value.isInt_shape (k:=i) (v:=v) h;exact .inl ⟨i,t,rfl,e⟩
 |.inr x,v,h=>by
  obtain⟨t,e⟩:=Value.isStrOf_shape (x:=x) (v:=v) h;exact .inr ⟨x,t,rfl,e⟩
theorem MU(i:Int)(t:Tok):vG (.inl i) (.int i t)=true:=by simp[vG,Value.isInt]
theorem MT(x:Str)(t:Tok):vG (.inr x) (.str x t)=true:=by simp[vG,Value.isStrOf]
theorem V5(a b:Int):decide ((Sum.inl a:Key)=Sum.inl b)=(a==b):=by
 by_cases e:a=b
 ·subst e;simp
 ·have h:¬(Sum.inl a:Key)=Sum.inl b:=λq=>e (Sum.inl.inj q);rw[decide_eq_false h];exact(beq_eq_false_iff_ne.mpr e).symm
theorem V2(a b:Str):decide ((Sum.inr a:Key)=Sum.inr b)=decide (a=b):=by
 by_cases e:a=b
 ·subst e;simp
 ·have h:¬(Sum.inr a:Key)=Sum.inr b:=λq=>e (Sum.inr.inj q);rw[decide_eq_false h,decide_eq_false e]
theorem V4(a:Int)(b:Str):decide ((Sum.inl a:Key)=Sum.inr b)=false:=decide_eq_false (λq=>nomatch q)
theorem V3(a:Str)(b:Int):decide ((Sum.inr a:Key)=Sum.inl b)=false:=decide_eq_false (λq=>nomatch q)
def eI(prog:Program)(w:World):PySem.KeyKind prog w Key where
 is:=vG
 hash:=Y5 w
 inj:=λv a b ha hb=>by
  rcases dU ha with⟨i,t,rfl,rfl⟩ | ⟨x,t,rfl,rfl⟩
  ·rcases dU hb with⟨j,u,rfl,e⟩ | ⟨y,u,rfl,e⟩
   ·injection e with e1 _;rw[e1]
   ·exact nomatch e
  ·rcases dU hb with⟨j,u,rfl,e⟩ | ⟨y,u,rfl,e⟩
   ·exact nomatch e
   ·injection e with e1 _;rw[e1]
 byValue:=λk v h=>by
  rcases dU h with⟨i,t,rfl,rfl⟩ | ⟨x,t,rfl,rfl⟩<;>rfl
 pyHash:=λhv h=>by
  rcases dU hv with⟨i,t,rfl,rfl⟩ | ⟨x,t,rfl,rfl⟩
  ·exact wpAny_pyHash_int h
  ·exact wpAny_pyHash_str h
 eqBool:=λhu hv h=>by
  rcases dU hu with⟨i,t,rfl,rfl⟩ | ⟨x,t,rfl,rfl⟩
  ·rcases dU hv with⟨j,u,rfl,rfl⟩ | ⟨y,u,rfl,rfl⟩
   ·rw[V5]at h;exact wpAny_eqBool_int h
   ·rw[V4]at h;exact SeqAt.EqAt.int_str i t y u _ _ _ _ h
  ·rcases dU hv with⟨j,u,rfl,rfl⟩ | ⟨y,u,rfl,rfl⟩
   ·rw[V3]at h;exact SeqAt.EqAt.str_int x t j u _ _ _ _ h
   ·rw[V2]at h;exact wpAny_eqBool_str h
 «strs»:=λk x t v h=>by
  rcases dU h with⟨i,u,rfl,e⟩ | ⟨y,u,rfl,e⟩
  ·exact nomatch e
  ·injection e with e1 _;subst e1;cases v<;>rfl
theorem FF(prog:Program)(w:World)(i:Int)(t:Tok):(eI prog w).is (.inl i) (.int i t)=true:=MU i t
theorem FE(prog:Program)(w:World)(x:Str)(t:Tok):(eI prog w).is (.inr x) (.str x t)=true:=MT x t
inductive V where
 |non | bl (b:Bool) | int (i:Int) | str (x:Str) | byt (b:Array UInt8) | flt (b:UInt64) | ref (a:Addr) | ty (n:String)
 deriving DecidableEq
def RelV:V->Value->Prop
 |.non,u=>u=Value.none
 |.bl b,u=>u=Value.bool b
 |.int i,u=>∃t,u=Value.int i t
 |.str x,u=>∃t,u=Value.str x t
 |.byt b,u=>∃t,u=Value.bytes b t
 |.flt b,u=>∃t,u=Value.float b t
 |.ref a,u=>u=Value.ref a
 |.ty n,u=>u=Value.type n
abbrev b0:List V->List Value->Prop:=Paired RelV
theorem b0.length{xs:List V}{us:List Value}(r:b0 xs us):xs.length=us.length:=Paired.length r
theorem b0.get:∀{xs:List V}{us:List Value}{i:Nat}{x:V},b0 xs us->xs[i]?=some x->∃u,us[i]?=some u/\RelV x u
 |_,_,_,_,.nil,e=>by simp at e
 |_,_,0,_,.cons r _,e=>by simp at e;subst e;exact⟨_,rfl,r⟩
 |_,_,i+1,x,.cons _ t,e=>by
  obtain⟨u,h1,h2⟩:=b0.get (i:=i) (x:=x) t (by simpa using e);exact⟨u,by simpa using h1,h2⟩
theorem b0.set{x:V}{u:Value}(r:RelV x u):∀{xs:List V}{us:List Value}(i:Nat),b0 xs us->b0 (xs.set i x) (us.set i u)
 |_,_,_,.nil=>.nil
 |_,_,0,.cons _ t=>.cons r t
 |_,_,i+1,.cons q t=>.cons q (b0.set r i t)
theorem b0.append:∀{xs ys:List V}{us ws:List Value},b0 xs us->b0 ys ws->b0 (xs++ys) (us++ws)
 |_,_,_,_,.nil,s=>s
 |_,_,_,_,.cons r t,s=>.cons r (b0.append t s)
theorem b0.take:∀{xs:List V}{us:List Value}(n:Nat),b0 xs us->b0 (xs.take n) (us.take n)
 |_,_,0,_=>.nil
 |_,_,_+1,.nil=>.nil
 |_,_,n+1,.cons r t=>.cons r (b0.take n t)
theorem b0.drop:∀{xs:List V}{us:List Value}(n:Nat),b0 xs us->b0 (xs.drop n) (us.drop n)
 |_,_,0,r=>r
 |_,_,_+1,.nil=>.nil
 |_,_,n+1,.cons _ t=>b0.drop n t
def uY:Option V->Option Value->Prop
 |some v,some u=>RelV v u
 |none,none=>True
 |_,_=>False
def KV{κ:Type}:List (κ×V)->List (κ×Value)->Prop:=Paired λ(p:κ×V) (q:κ×Value)=>p.1=q.1/\RelV p.2 q.2
def kV:Key->V
 |.inl i=>.int i
 |.inr x=>.str x
inductive HO where
 |lst (xs:List V)
 |tup (xs:List V)
 |dK (kvs:List (Key×V)) | dT (kvs:List (List Key×V))
 |set (S:Int->Bool) (n:Nat)
 |ins (C dx:Addr) (fs:List (Str×V))
 |own (x:Addr)
 |xd (fs:List (Str×V))
 |met (f x:Addr)
 |rng (lo hi:Int)
 |frz (o:Obj) (u:HO)
 |tbl (ps:Array Value)
 |ext (φ:Heap->Prop)
abbrev Hp:=Addr->Option HO
def upd(H:Hp)(a:Addr)(o:HO):Hp:=λb=>if b=a then some o else H b
theorem aB{H:Hp}{a:Addr}{o:HO}:upd H a o a=some o:=by unfold upd;rw[if_pos rfl]
theorem aK{H:Hp}{a b:Addr}{o:HO}(h:b≠a):upd H a o b=H b:=by unfold upd;rw[if_neg h]
theorem hV{H:Hp}{a:Addr}{o u:HO}:upd (upd H a o) a u=upd H a u:=by
 funext b;unfold upd;split<;>rfl
theorem dI{H:Hp}{a b:Addr}{o u:HO}(h:H a=some o)(h':H b=some u)(d:o≠u):a≠b:=by
 intro e;subst e;rw[h]at h';exact d (Option.some.inj h')
theorem aH{H:Hp}{a b:Addr}{o:HO}(h:H a=some o)(h':H b=none):a≠b:=by
 intro e;subst e;rw[h]at h';cases h'
section
variable(P:Program)(w:World)
def eO(H:Hp)(h:Heap)(a:Addr):HO->Prop
 |.lst xs=>xs.length<=ZW/\∃(its:List Value) (n:Nat),b0 xs its/\h.get? a=some { cls:=.type "list",data:=.seq its.toArray n }
 |.tup xs=>xs.length<=ZW/\∃its:List Value,b0 xs its/\IsTup h a its.toArray
 |.dK kvs=>kvs.length<=ZW/\(a==sysModules)=false/\∃vs,KV kvs vs/\h.DictOf (eI P w) a vs
 |.dT kvs=>kvs.length<=ZW/\(a==sysModules)=false/\∃xs:List (List Key×Addr×Value),
   Paired (λ(p:List Key×V) (q:List Key×Addr×Value)=>p.1=q.1/\H q.2.1=some (.tup (p.1.map kV))/\RelV p.2 q.2.2) kvs xs /\
   ∃o es ep,h.get? a=some o/\o.ExactDict/\o.data=.dict es ep/\es.toList=xs.map (entryOfKey (tupleKind (eI P w)))/\(xs.map (·.1)).Nodup
 |.set S n=>h.SetOf (intKind P w) a S n
 |.ins C dx fs=>H dx=some (.own a)/\fs.length<=1000/\dx≠a/\h.get? a=some (PySem.W.instObj C dx) /\
   ∃mA,h.Ns1 dx mA/\(∀f,uY (fs.lookup f) (mA f))/\PySem.Within mA (fs.map (·.1))
 |.own _=>∃o,h.get? a=some o
 |.xd fs=>∃mA,h.Ns1 a mA/\∀f,uY (fs.lookup f) (mA f)
 |.rng lo hi=>∃t u v,h.get? a=some { cls:=.type "range",data:=.fields #[.int lo t,.int hi u,.int 1 v] }
 |.frz o u=>h.get? a=some o/\eO H h a u
 |.tbl ps=>h.get? a=some { cls:=.none,data:=.fields ps }
 |.met f x=>h.get? a=some (PySem.W.methodObj (.ref f) (.ref x))
 |.ext φ=>φ h/\(∃o,h.get? a=some o)/\∀h1 h2:Heap,φ h1->(∀o,h1.get? a=some o->h2.get? a=some o)->φ h2
def HOk(H:Hp)(h:Heap):Prop:=∀a o,H a=some o->eO P w H h a o
end
section
variable{P:Program}{w:World}{H H':Hp}{h h':Heap}{a:Addr}{o:HO}
theorem eO.lt(x:eO P w H h a o):a<h.objs.size:=by
 cases o with
 |lst xs=>obtain⟨_,_,_,_,e⟩:=x;exact Heap.lt_size e
 |tup xs=>obtain⟨_,_,_,p⟩:=x;exact p.lt
 |dK kvs=>obtain⟨_,_,_,_,o,_,_,e,_⟩:=x;exact Heap.lt_size e
 |dT kvs=>obtain⟨_,_,_,_,o,_,_,e,_⟩:=x;exact Heap.lt_size e
 |set S n=>obtain⟨o,_,_,_,e,_⟩:=x;exact Heap.lt_size e
 |ins C dx fs=>obtain⟨_,_,_,e,_⟩:=x;exact Heap.lt_size e
 |own y=>obtain⟨_,e⟩:=x;exact Heap.lt_size e
 |xd fs=>obtain⟨_,⟨_,_,_,e,_⟩,_⟩:=x;exact Heap.lt_size e
 |rng lo hi=>obtain⟨_,_,_,e⟩:=x;exact Heap.lt_size e
 |frz ob u=>obtain⟨e,_⟩:=x;exact Heap.lt_size e
 |tbl ps=>exact Heap.lt_size (show h.get? a=some _ from x)
 |met f y=>exact Heap.lt_size (show h.get? a=some _ from x)
 |ext φ=>obtain⟨_,⟨_,e⟩,_⟩:=x;exact Heap.lt_size e
theorem Paired.mapP{α β:Type}{F G:α->β->Prop}:∀{l₁:List α}{l₂:List β},Paired F l₁ l₂->(∀a b,F a b->G a b)->Paired G l₁ l₂
 |_,_,.nil,_=>.nil
 |_,_,.cons r t,f=>.cons (f _ _ r) (Paired.mapP t f)
theorem eO.stay(x:eO P w H h a o)(k:∀b u,(b=a\/H b=some (.own a))->h.get? b=some u->h'.get? b=some u)
  (ho:∀b,H b=some (.own a)->H' b=some (.own a)) (ht:∀b xs,H b=some (.tup xs)->H' b=some (.tup xs)):eO P w H' h' a o:=by
 induction o with
 |lst xs=>obtain⟨z,its,n,r,e⟩:=x;exact⟨z,its,n,r,k _ _ (.inl rfl) e⟩
 |tup xs=>obtain⟨z,its,r,ob,e,c⟩:=x;exact⟨z,its,r,ob,k _ _ (.inl rfl) e,c⟩
 |dK kvs=>obtain⟨z,y,vs,r,ob,es,ep,e,c⟩:=x;exact⟨z,y,vs,r,ob,es,ep,k _ _ (.inl rfl) e,c⟩
 |dT kvs =>
  obtain⟨z,y,xs,r,ob,es,ep,e,c⟩:=x;exact⟨z,y,xs,Paired.mapP r λp q z=>⟨z.1,ht _ _ z.2.1,z.2.2⟩,ob,es,ep,k _ _ (.inl rfl) e,c⟩
 |set S n=>obtain⟨ob,es,ep,t,e,c⟩:=x;exact⟨ob,es,ep,t,k _ _ (.inl rfl) e,c⟩
 |ins C dx fs =>
  obtain⟨d,z,ne,e,mA,⟨od,es,ep,e2,c⟩,r⟩:=x;exact⟨ho _ d,z,ne,k _ _ (.inl rfl) e,mA,⟨od,es,ep,k _ _ (.inr d) e2,c⟩,r⟩
 |own y=>obtain⟨ob,e⟩:=x;exact⟨ob,k _ _ (.inl rfl) e⟩
 |xd fs=>obtain⟨mA,⟨od,es,ep,e,c⟩,r⟩:=x;exact⟨mA,⟨od,es,ep,k _ _ (.inl rfl) e,c⟩,r⟩
 |rng lo hi=>obtain⟨t,u,v,e⟩:=x;exact⟨t,u,v,k _ _ (.inl rfl) e⟩
 |frz ob u ih=>obtain⟨e,q⟩:=x;exact⟨k _ _ (.inl rfl) e,ih q⟩
 |tbl ps =>
  have e:h.get? a=some { cls:=.none,data:=.fields ps }:=x;show h'.get? a=some { cls:=.none,data:=.fields ps };exact k a _ (.inl rfl) e
 |met f y =>
  have e:h.get? a=some (PySem.W.methodObj (.ref f) (.ref y)):=x;show h'.get? a=some (PySem.W.methodObj (.ref f) (.ref y));exact k a _ (.inl rfl) e
 |ext φ=>obtain⟨p,⟨o,e⟩,st⟩:=x;exact⟨st _ _ p λo q=>k _ _ (.inl rfl) q,⟨o,k _ _ (.inl rfl) e⟩,st⟩
theorem HOk.lt(x:HOk P w H h)(e:H a=some o):a<h.objs.size:=(x a o e).lt
theorem HOk.fresh(x:HOk P w H h)(e:h.objs.size<=a):H a=none:=by
 cases q:H a with
 |none=>rfl
 |some u=>exact absurd (Yt (x.lt q) e) (Nat.lt_irrefl _)
theorem HOk.kept(x:HOk P w H h)(k:∀b u,h.get? b=some u->h'.get? b=some u):HOk P w H h':=λa o e =>
 (x a o e).stay (λb u _ q=>k b u q) (λ_ q=>q) λ_ _ q=>q
theorem HOk.laid(x:HOk P w H h)(k:∀b u,h.get? b=some u->h'.get? b=some u)(hp:h.objs.size<=a)(new:eO P w (upd H a o) h' a o):HOk P w (upd H a o) h':=λb u e=>by
 have hn:=x.fresh hp;by_cases hb:b=a
 ·subst hb;rw[aB]at e;cases e;exact new
 ·rw[aK hb]at e;exact(x b u e).stay (λc v _ q=>k c v q) (λc q=>by rw[aK (aH q hn)];exact q) λc xs q=>by rw[aK (aH q hn)];exact q
end
def Rd(H:Hp)(a:Addr)(u:HO):Prop:=H a=some u\/∃o,H a=some (.frz o u)
theorem Rd.ok{P:Program}{w:World}{H:Hp}{h:Heap}{a:Addr}{u:HO}(r:Rd H a u)(x:HOk P w H h):eO P w H h a u:=by
 rcases r with r | ⟨o,r⟩
 ·exact x a u r
 ·obtain⟨_,q⟩:=x a _ r;exact q
def Mut:Option HO->Prop
 |some (.lst _)=>True
 |some (.dK _)=>True
 |some (.dT _)=>True
 |some (.set _ _)=>True
 |some (.ins _ _ _)=>True
 |some (.ext _)=>True
 |_=>False
section
variable{P:Program}{w:World}{H:Hp}{h h':Heap}{x e:Addr}{o':HO}
theorem HOk.write(ok:HOk P w H h)(mu:Mut (H x))(he:e=x\/H e=some (.own x))(k:∀b u,b≠e->h.get? b=some u->h'.get? b=some u)(heo:∃u,h'.get? e=some u)
  (new:eO P w (upd H x o') h' x o'):HOk P w (upd H x o') h':=λb u q=>by
 have nown:∀c y,H c=some (.own y)->c≠x:=λc y r z=>by subst z;rw[r]at mu;exact mu
 have ntup:∀c xs,H c=some (.tup xs)->c≠x:=λc xs r z=>by subst z;rw[r]at mu;exact mu
 by_cases hb:b=x
 ·subst hb;rw[aB]at q;cases q;exact new
 ·rw[aK hb]at q;by_cases hbe:b=e
  ·have q':H b=some (.own x):=by
    rcases he with z | z
    ·exact absurd (hbe.trans z) hb
    ·rw[hbe];exact z
   rw[q]at q';cases q';obtain⟨v,hv⟩:=heo;exact⟨v,by rw[hbe];exact hv⟩
  ·refine(ok b u q).stay (λc v hc r=>k c v ?_ r) (λc r=>by rw[aK (nown c b r)];exact r) λc xs r=>by rw[aK (ntup c xs r)];exact r
   rcases hc with rfl | hc
   ·exact hbe
   ·rintro rfl;rcases he with z | z
    ·exact nown c b hc z
    ·rw[hc]at z;cases z;exact hb rfl
end
structure Un(fs ex:List Addr)(H H':Hp)(h h':Heap):Prop where
 keep:∀b o,h.get? b=some o->H b=none->b∉fs->b∉ex->h'.get? b=some o
 slot:∀b o,h.get? b=some o->H b=none->b∈fs->b∉ex->∃sl,h'.get? b=some { o with slots:=sl }
 free:∀b o,h.get? b=some o->H b=none->b∉ex->H' b=none
 there:∀b o,h.get? b=some o->b∉ex->∃o',h'.get? b=some o'
 tups:∀b xs,H b=some (.tup xs)->H' b=some (.tup xs)
 frzs:∀b o u,H b=some (.frz o u)->H' b=some (.frz o u)
 tbls:∀b ps,H b=some (.tbl ps)->∃more,H' b=some (.tbl (ps++more))
section
variable{fs fs' ex ex':List Addr}{H H1 H2:Hp}{h h1 h2 h':Heap}{a x e:Addr}{o:HO}
theorem Un.any(u:Un fs ex H H1 h h1){b:Addr}{ob:Obj}(q:h.get? b=some ob)(n:H b=none)(hx:b∉ex):∃sl,h1.get? b=some { ob with slots:=sl }:=by
 by_cases hb:b∈fs
 ·exact u.slot b ob q n hb hx
 ·exact⟨ob.slots,u.keep b ob q n hb hx⟩
theorem Un.kept(k:∀b u,h.get? b=some u->h'.get? b=some u):Un fs ex H H h h' :=
 ⟨λb ob q _ _ _=>k b ob q,λb ob q _ _ _=>⟨ob.slots,k b ob q⟩,λ_ _ _ n _=>n,λb ob q _=>⟨ob,k b ob q⟩,λ_ _ q=>q,λ_ _ _ q=>q,λ_ ps q=>⟨#[],by rw[q];simp⟩⟩
theorem Un.refl:Un fs ex H H h h:=Un.kept λ_ _ q=>q
theorem Un.laid(k:∀b u,h.get? b=some u->h'.get? b=some u)(hp:h.objs.size<=a)(hn:H a=none):Un fs ex H (upd H a o) h h' where
 keep:=λb u q _ _ _=>k b u q
 slot:=λb u q _ _ _=>⟨u.slots,k b u q⟩
 free:=λb u q n _=>by rw[aK (Nat.ne_of_lt (Yt (Heap.lt_size q) hp))];exact n
 there:=λb u q _=>⟨u,k b u q⟩
 tups:=λb xs q=>by rw[aK (aH q hn)];exact q
 frzs:=λb u xs q=>by rw[aK (aH q hn)];exact q
 tbls:=λb ps q=>⟨#[],by rw[aK (aH q hn),q];simp⟩
theorem Un.write(mu:Mut (H x))(he:e=x\/H e=some (.own x))(k:∀b u,b≠e->h.get? b=some u->h'.get? b=some u)(heo:∃u,h'.get? e=some u):Un fs ex H (upd H x o) h h':=by
 have hx:∀b,H b=none->b≠x:=λb n z=>by subst z;rw[n]at mu;exact mu
 have hb:∀b,H b=none->b≠e:=λb n z=>by
  subst z;rcases he with r | r
  ·exact hx b n r
  ·rw[n]at r;cases r
 have hm:∀b u,H b=some u->¬Mut (some u)->b≠x:=λb u q nm z=>by subst z;rw[q]at mu;exact nm mu
 refine⟨λb u q n _ _=>k b u (hb b n) q,λb u q n _ _=>⟨u.slots,k b u (hb b n) q⟩,λb u q n _=>by rw[aK (hx b n)];exact n,λb u q _=>?_,
  λb xs q=>by rw[aK (hm b _ q λz=>z)];exact q,λb u xs q=>by rw[aK (hm b _ q λz=>z)];exact q,λb ps q=>⟨#[],by rw[aK (hm b _ q λz=>z),q];simp⟩⟩
 by_cases hbe:b=e
 ·subst hbe;exact heo
 ·exact⟨u,k b u hbe q⟩
end
def trk(h:Heap)(H:Hp):List Addr:=(List.range h.objs.size).filter λa=>(H a).isSome
def DL(h:Heap)(H:Hp):Heap:=PySem.W.hideAll h (trk h H)
theorem MY(h:Heap)(H:Hp):(DL h H).objs.size=h.objs.size:=PySem.W.hideAll_size _ _
theorem QF{h:Heap}{H:Hp}{b:Addr}{o:Obj}(e:h.get? b=some o)(n:H b=none):(DL h H).get? b=some o :=
 PySem.W.hideAll_get _ e λhm=>by
  have q:(H b).isSome=true:=(Yz.mp hm).2;rw[n]at q;simp at q
theorem SW{h:Heap}{H:Hp}{b:Addr}{o:Obj}(e:(DL h H).get? b=some o):h.get? b=some o/\H b=none:=by
 have e':h.get? b=some o:=PySem.W.of_hideAll (trk h H) e;refine⟨e',?_⟩;cases q:H b with
 |none=>rfl
 |some x =>
  have hm:b∈trk h H:=Yz.mpr ⟨Zs.mpr (Heap.lt_size e'),by simp[q]⟩;have z:(DL h H).get? b=none:=PySem.W.hideAll_none (trk h H) hm;rw[z]at e;cases e
end L2
namespace L2
open PySem PySem.Spec PyProof.Rows
structure Mod(K:PySem.W.Frag)(mg:Str->Option Value)(base:Heap):Prop where
 kin:K.In base
 glob:base.Ns ZV mg
 blt:∃mb,base.Ns builtinsNs mb/\∀x:Str,x≠"__name__"->mb x=bootBuiltins x
 nolimit:base.NoLimit
structure Cx where
 prog:Program
 w:World
 K:PySem.W.Frag
 mg:Str->Option Value
 base:Heap
 A:Around
 N:List Str
 s₀:Shared
 H₀:Hp
 env:Env
 outer:List Env
 stack:List Env
 ex:List Addr
 fn:Str->Bool
 calm:Bool
 pn:List (Addr×Obj)
 xe:Value->Shared->Prop
def frs(l:List Env):List Addr:=l.filterMap (·.frame)
abbrev Cx.fs(X:Cx):List Addr:=frs X.outer
def Vis(sc:Scope)(x:Str):Prop:=sc.names.lookup x=some .local\/sc.names.lookup x=some .cell\/sc.names.lookup x=some .free
def Loc(sc:Scope)(x:Str):Prop:=sc.names.lookup x=some .local\/sc.names.lookup x=some .cell
def Look(env:Env)(h:Heap)(m:Str->Option Value)(x:Str)(u:Value):Prop :=
 (env.kindOf x=some .local/\m x=some u)\/((env.kindOf x=some .cell\/env.kindOf x=some .free)/\∃c,env.cells.lookup x=some c/\h.IsCell c (some u))
structure Cx.Ok(X:Cx):Prop where
 mod:Mod X.K X.mg X.base
 kind:X.env.scope.kind=.function
 glob:X.env.globals=ZV
 blt:X.env.builtins=builtinsNs
 above:X.s₀.heap.objs.size<=X.env.locals
 inj:∀x y c,X.env.cells.lookup x=some c->X.env.cells.lookup y=some c->x=y
 has:∀x,(X.env.kindOf x=some .cell\/X.env.kindOf x=some .free)->∃c,X.env.cells.lookup x=some c
 cab:∀x c,X.fn x=true->X.env.cells.lookup x=some c->X.s₀.heap.objs.size<=c
 hd:X.calm=true->X.A.handled=none
 frames:X.A.frames=some X.stack
 stk:X.stack=X.outer\/(X.stack=X.env::X.outer/\X.env.frame=some X.env.locals)
 exf:∀b∈X.ex,b≠X.env.locals/\∀x c,X.env.cells.lookup x=some c->c≠b
 bs:∀b o,X.base.get? b=some o->X.s₀.heap.get? b=some o/\X.H₀ b=none
 bsz:X.base.objs.size<=X.s₀.heap.objs.size
 noex:∀b o,X.base.get? b=some o->b∉X.ex
 exfs:∀b∈X.ex,b∉X.fs
 funs:X.s₀.heap.FunFrames X.base X.outer
 frf:∀b∈X.fs,X.H₀ b=none
structure Inv(X:Cx)(pins:List (Addr×Obj))(σ:List (Option V))(H:Hp)(s:Shared):Prop where
 ok:X.Ok
 os:s.os=X.s₀.os
 bare:AllBare s.gens
 base:Un X.fs X.ex X.H₀ H X.s₀.heap s.heap
 loc:∃m,s.heap.Ns X.env.locals m/\∀(i:Nat) (x:Str) (v:V),X.N[i]?=some x->σ[i]?=some (some v)->Vis X.env.scope x->∃u,RelV v u/\Look X.env s.heap m x u
 cell:∀x c,X.env.cells.lookup x=some c->∃v,s.heap.IsCell c v
 free:H X.env.locals=none
 freeC:∀x c,X.env.cells.lookup x=some c->H c=none
 pin:∀p∈X.pn++pins,s.heap.get? p.1=some p.2/\H p.1=none/\p.1≠X.env.locals/\p.1∉X.fs/\∀v,p.2.data≠.cell v
 hok:HOk X.prog X.w H s.heap
 len:σ.length=X.N.length
section
variable{X:Cx}{pins:List (Addr×Obj)}{σ:List (Option V)}{H H':Hp}{s:Shared}{h':Heap}
theorem Cx.Ok.nofr(ok:X.Ok){b:Addr}{o:Obj}(e:X.base.get? b=some o):b∉X.fs:=λhb=>by
 have:=(ok.funs.mem hb).1;rw[e]at this;cases this
theorem Inv.bs(I:Inv X pins σ H s):∀b o,X.base.get? b=some o->s.heap.get? b=some o/\H b=none:=λb o e =>
 ⟨I.base.keep b o (I.ok.bs b o e).1 (I.ok.bs b o e).2 (I.ok.nofr e) (I.ok.noex b o e),I.base.free b o (I.ok.bs b o e).1 (I.ok.bs b o e).2 (I.ok.noex b o e)⟩
theorem Inv.bk(I:Inv X pins σ H s):∀b o,X.base.get? b=some o->s.heap.get? b=some o:=λb o e=>(I.bs b o e).1
theorem Inv.mod(I:Inv X pins σ H s):Mod X.K X.mg X.base:=I.ok.mod
theorem Inv.kIn(I:Inv X pins σ H s):X.K.In s.heap:=I.ok.mod.kin.keeps I.bk
theorem Inv.fr(I:Inv X pins σ H s):∃m,Fr X.base X.env.locals s.heap m :=
 let⟨m,hn,_⟩:=I.loc
 ⟨m,hn,I.bk,Yr I.ok.bsz I.ok.above⟩
theorem Inv.lt(I:Inv X pins σ H s):X.env.locals<s.heap.objs.size:=let⟨_,hn,_⟩:=I.loc;hn.lt
theorem Inv.sz(I:Inv X pins σ H s):X.s₀.heap.objs.size<=s.heap.objs.size:=Yr I.ok.above (Nat.le_of_lt I.lt)
theorem Inv.nofs(I:Inv X pins σ H s){a:Addr}(h:s.heap.objs.size<=a):a∉X.fs:=λhb=>by
 obtain⟨_,o,ho,_⟩:=I.ok.funs.mem hb;exact absurd (Yt (Heap.lt_size ho) (Yr I.sz h)) (Nat.lt_irrefl _)
theorem Inv.cne(I:Inv X pins σ H s):∀x c,X.env.cells.lookup x=some c->c≠X.env.locals:=λx c e z=>by
 obtain⟨v,o,ho,hd⟩:=I.cell x c e;obtain⟨m,⟨o',es,ep,ho',hd',_⟩,_⟩:=I.loc;rw[z,ho']at ho;cases ho;rw[hd']at hd;cases hd
theorem Inv.funs(I:Inv X pins σ H s):s.heap.FunFrames X.base X.outer:=by
 have all:∀(l:List Env),(∀b∈frs l,b∈X.fs)->X.s₀.heap.FunFrames X.base l->s.heap.FunFrames X.base l:=by
  intro l;induction l with
  |nil=>intro _ _;trivial
  |cons env r ih =>
   intro hs hl;obtain⟨hk,⟨L,o,hf,hn,ho,hd⟩,hr⟩:=hl;have hL:L∈X.fs:=hs L (by unfold frs;rw[List.filterMap_cons,hf];exact Zd);obtain⟨sl,e⟩:=I.base.slot L o ho (I.ok.frf L hL) hL λz=>I.ok.exfs L z hL;exact⟨hk,⟨L,_,hf,hn,e,hd⟩,ih (λb hb=>hs b (by unfold frs;rw[List.filterMap_cons,hf];exact Zw _ hb)) hr⟩
 exact all X.outer (λ_ hb=>hb) I.ok.funs
theorem Inv.stack(I:Inv X pins σ H s):s.heap.FunFrames X.base X.stack:=by
 rcases I.ok.stk with e | ⟨e,hf⟩
 ·rw[e];exact I.funs
 ·rw[e];obtain⟨m,hn,_⟩:=I.loc;refine .cons (by rw[I.ok.kind];decide) hf hn ?_ I.funs;exact Heap.get?_none_of_le (Yr I.ok.bsz I.ok.above)
theorem Inv.stkSub(I:Inv X pins σ H s):∀b∈frs X.stack,b∈X.env.locals::X.fs:=λb hb=>by
 rcases I.ok.stk with e | ⟨e,hf⟩
 ·rw[e]at hb;exact Zw _ hb
 ·rw[e]at hb;unfold frs at hb;rw[List.filterMap_cons,hf]at hb;exact hb
theorem Inv.stkFree(I:Inv X pins σ H s):∀b∈frs X.stack,H b=none:=λb hb=>by
 rcases Zn.mp (I.stkSub b hb) with e | hb
 ·rw[e];exact I.free
 ·obtain⟨_,o,ho,_⟩:=I.ok.funs.mem hb;exact I.base.free b o ho (I.ok.frf b hb) λz=>I.ok.exfs b z hb
theorem Inv.step{g':Array GenState}{t':Nat}{d':Drawn}{ch:List Addr}(I:Inv X pins σ H s)
  (hch:∀b∈ch,(b∈X.ex\/X.s₀.heap.objs.size<=b)/\b≠X.env.locals/\(∀x c,X.env.cells.lookup x=some c->c≠b)/\∀p∈X.pn++pins,p.1≠b)
  (keep:∀b o,b≠X.env.locals->b∉X.fs->b∉ch->s.heap.get? b=some o->H b=none->h'.get? b=some o)
  (slot:∀b o,b≠X.env.locals->b∈X.fs->b∉ch->s.heap.get? b=some o->H b=none->∃sl,h'.get? b=some { o with slots:=sl }) (free:∀b o,b∉ch->s.heap.get? b=some o->H b=none->H' b=none)
  (there:∀b o,b∉ch->s.heap.get? b=some o->∃o',h'.get? b=some o')
  (tups:∀b xs,H b=some (.tup xs)->H' b=some (.tup xs)) (frzs:∀b o u,H b=some (.frz o u)->H' b=some (.frz o u)) (tbls:∀b ps,H b=some (.tbl ps)->∃more,H' b=some (.tbl (ps++more)))
  (ns:∀m,s.heap.Ns X.env.locals m->h'.Ns X.env.locals m) (hok:HOk X.prog X.w H' h') (hg:AllBare g') :
  Inv X pins σ H' { s with heap:=h',gens:=g',drawn:=d',toks:=t' }:=by
 have neL:∀b o,X.s₀.heap.get? b=some o->b≠X.env.locals:=λb o e=>Nat.ne_of_lt (Yt (Heap.lt_size e) I.ok.above);have neC:∀b o,X.s₀.heap.get? b=some o->b∉X.ex->b∉ch:=λb o e hx hb=>by
  rcases(hch b hb).1 with z | z
  ·exact hx z
  ·exact absurd (Yt (Heap.lt_size e) z) (Nat.lt_irrefl _)
 have cellK:∀x c,X.env.cells.lookup x=some c->∀v,s.heap.IsCell c v->h'.IsCell c v:=λx c e v ⟨o,ho,hd⟩=>by
  have nch:c∉ch:=λz=>(hch c z).2.2.1 x c e rfl;by_cases hc:c∈X.fs
  ·obtain⟨sl,q⟩:=slot c o (I.cne x c e) hc nch ho (I.freeC x c e);exact⟨_,q,hd⟩
  ·exact⟨o,keep c o (I.cne x c e) hc nch ho (I.freeC x c e),hd⟩
 refine⟨I.ok,I.os,hg,⟨λb o e n hb hx=>?_,λb o e n hb hx=>?_,λb o e n hx=>?_,λb o e hx=>?_,λb xs e=>tups b xs (I.base.tups b xs e),λb o xs e=>frzs b o xs (I.base.frzs b o xs e),λb ps e=>?_⟩,?_,λx c e=>?_,?_,λx c e=>?_,λp hp=>?_,hok,I.len⟩
 ·exact keep b o (neL b o e) hb (neC b o e hx) (I.base.keep b o e n hb hx) (I.base.free b o e n hx)
 ·obtain⟨sl,e1⟩:=I.base.slot b o e n hb hx;obtain⟨sl',e2⟩:=slot b _ (neL b o e) hb (neC b o e hx) e1 (I.base.free b o e n hx);exact⟨sl',e2⟩
 ·obtain⟨o',e1⟩:=I.base.there b o e hx;exact free b o' (neC b o e hx) e1 (I.base.free b o e n hx)
 ·obtain⟨o',e1⟩:=I.base.there b o e hx;exact there b o' (neC b o e hx) e1
 ·obtain⟨m1,e1⟩:=I.base.tbls b ps e;obtain⟨m2,e2⟩:=tbls b _ e1;exact⟨m1++m2,by rw[e2,Array.append_assoc]⟩
 ·obtain⟨m,hn,hl⟩:=I.loc;refine⟨m,ns m hn,λi x v e1 e2 e3=>?_⟩;obtain⟨u,r,l⟩:=hl i x v e1 e2 e3;refine⟨u,r,?_⟩;rcases l with l | ⟨k,c,e,z⟩
  ·exact .inl l
  ·exact .inr ⟨k,c,e,cellK x c e _ z⟩
 ·obtain⟨v,z⟩:=I.cell x c e;exact⟨v,cellK x c e v z⟩
 ·obtain⟨m,⟨o,_,_,ho,_⟩,_⟩:=I.loc;exact free _ o (λz=>(hch _ z).2.1 rfl) ho I.free
 ·obtain⟨v,o,ho,hd⟩:=I.cell x c e;exact free c o (λz=>(hch c z).2.2.1 x c e rfl) ho (I.freeC x c e)
 ·obtain⟨e,n,ne,nf,d⟩:=I.pin p hp;have nch:p.1∉ch:=λz=>(hch p.1 z).2.2.2 p hp rfl;exact⟨keep p.1 p.2 ne nf nch e n,free p.1 p.2 nch e n,ne,nf,d⟩
theorem Inv.un{t':Nat}(I:Inv X pins σ H s)(u:Un X.fs [] H H' s.heap h')(hok:HOk X.prog X.w H' h'):Inv X pins σ H' { s with heap:=h',toks:=t' }:=by
 obtain⟨m,⟨o,es,ep,ho,r⟩,_⟩:=id I.loc;obtain⟨sl,hL⟩:=u.any ho I.free (by simp);exact I.step (g':=s.gens) (d':=s.drawn) (ch:=[]) (λ_ z=>nomatch z) (λb o _ hb _ e n=>u.keep b o e n hb (by simp)) (λb o _ hb _ e n=>u.slot b o e n hb (by simp)) (λb o _ e n=>u.free b o e n (by simp)) (λb o _ e=>u.there b o e (by simp)) u.tups u.frzs u.tbls (λm' hm=>by
  obtain⟨o',es',ep',ho',r'⟩:=hm;rw[ho]at ho';cases ho';exact⟨_,es',ep',hL,r'⟩) hok I.bare
theorem Inv.call{g':Array GenState}{t':Nat}{d':Drawn}{ch:List Addr}(I:Inv X pins σ H s)(u:Un (frs X.stack) ch H H' s.heap h')(hok:HOk X.prog X.w H' h')(hg:AllBare g')
  (hch:∀b∈ch,(b∈X.ex\/X.s₀.heap.objs.size<=b)/\b≠X.env.locals/\(∀x c,X.env.cells.lookup x=some c->c≠b)/\∀p∈X.pn++pins,p.1≠b) :
  Inv X pins σ H' { s with heap:=h',gens:=g',drawn:=d',toks:=t' }:=by
 obtain⟨m,⟨o,es,ep,ho,r⟩,_⟩:=id I.loc;obtain⟨sl,hL⟩:=u.any ho I.free λz=>(hch _ z).2.1 rfl;exact I.step (ch:=ch) hch (λb o hL hb hc e n=>u.keep b o e n (λz=>(Zn.mp (I.stkSub b z)).elim hL hb) hc) (λb o _ _ hc e n=>u.any e n hc) (λb o hc e n=>u.free b o e n hc) (λb o hc e=>u.there b o e hc) u.tups u.frzs u.tbls (λm' hm=>by
  obtain⟨o',es',ep',ho',r'⟩:=hm;rw[ho]at ho';cases ho';exact⟨_,es',ep',hL,r'⟩) hok hg
theorem Inv.turned{t':Nat}{it:Addr}(I:Inv X pins σ H s)(k:∀b o,b≠it->s.heap.get? b=some o->h'.get? b=some o)(hn:H it=none)(hL:it≠X.env.locals)
  (h1:it∈X.ex\/X.s₀.heap.objs.size<=it) (h2:∀x c,X.env.cells.lookup x=some c->c≠it) (h3:∀p∈X.pn++pins,p.1≠it):Inv X pins σ H { s with heap:=h',toks:=t' }:=by
 have nit:∀b u,H b=some u->b≠it:=λb u e z=>by rw[z,hn]at e;cases e
 refine I.step (g':=s.gens) (d':=s.drawn) (ch:=[it]) (λb hb=>?_) (λb o _ _ hc e _=>k b o (λz=>hc (by simp[z])) e) (λb o _ _ hc e _=>⟨o.slots,k b o (λz=>hc (by simp[z])) e⟩) (λ_ _ _ _ n=>n)
  (λb o hc e=>⟨o,k b o (λz=>hc (by simp[z])) e⟩) (λ_ _ e=>e) (λ_ _ _ e=>e) (λb ps e=>⟨#[],by rw[e];simp⟩) (λm hm=>?_) (λb u e=>?_) I.bare
 ·have e:b=it:=by simpa using hb
  subst e;exact⟨h1,hL,h2,h3⟩
 ·obtain⟨o,es,ep,ho,r⟩:=hm;exact⟨o,es,ep,k _ o (Ne.symm hL) ho,r⟩
 ·refine(I.hok b u e).stay (λc v hc q=>k c v ?_ q) (λ_ q=>q) λ_ _ q=>q;rcases hc with z | z
  ·rw[z];exact nit b u e
  ·exact nit c _ z
theorem Inv.tok(I:Inv X pins σ H s)(t:Nat):Inv X pins σ H { s with toks:=t }:=I.un (h':=s.heap) (t':=t) Un.refl I.hok
theorem Inv.kept{t':Nat}(I:Inv X pins σ H s)(k:∀b u,s.heap.get? b=some u->h'.get? b=some u):Inv X pins σ H { s with heap:=h',toks:=t' }:=I.un (Un.kept k) (I.hok.kept k)
theorem Inv.laid{a:Addr}{o:HO}{t':Nat}(I:Inv X pins σ H s)(k:∀b u,s.heap.get? b=some u->h'.get? b=some u)(hp:s.heap.objs.size<=a)(new:eO X.prog X.w (upd H a o) h' a o) :
  Inv X pins σ (upd H a o) { s with heap:=h',toks:=t' }:=I.un (Un.laid k hp (I.hok.fresh hp)) (I.hok.laid k hp new)
theorem Inv.write{x e:Addr}{o:HO}{t':Nat}(I:Inv X pins σ H s)(mu:Mut (H x))(he:e=x\/H e=some (.own x))(k:∀b u,b≠e->s.heap.get? b=some u->h'.get? b=some u)(heo:∃u,h'.get? e=some u)
  (new:eO X.prog X.w (upd H x o) h' x o):Inv X pins σ (upd H x o) { s with heap:=h',toks:=t' }:=I.un (Un.write mu he k heo) (I.hok.write mu he k heo new)
theorem Inv.weak{σ':List (Option V)}(I:Inv X pins σ H s)(hl:σ'.length=σ.length)(w:∀(i:Nat) v,σ'[i]?=some (some v)->σ[i]?=some (some v)):Inv X pins σ' H s :=
 ⟨I.ok,I.os,I.bare,I.base,let⟨m,hn,hl'⟩:=I.loc;⟨m,hn,λi x v e1 e2 e3=>hl' i x v e1 (w i v e2) e3⟩,I.cell,I.free,I.freeC,I.pin,I.hok,hl.trans I.len⟩
theorem Inv.pins_of{pins':List (Addr×Obj)}(I:Inv X pins σ H s)(h:∀p∈pins',s.heap.get? p.1=some p.2/\H p.1=none/\p.1≠X.env.locals/\p.1∉X.fs/\∀v,p.2.data≠.cell v):Inv X pins' σ H s :=
 ⟨I.ok,I.os,I.bare,I.base,I.loc,I.cell,I.free,I.freeC,λp hp=>(Zf.mp hp).elim (λz=>I.pin p (List.mem_append_left _ z)) (h p),I.hok,I.len⟩
theorem FD{N:List Str}(hN:N.Nodup){i j:Nat}{x:Str}(a:N[i]?=some x)(b:N[j]?=some x):i=j:=by
 obtain⟨h1,e1⟩:=Zj.mp a;obtain⟨h2,e2⟩:=Zj.mp b;exact(List.getElem_inj hN).mp (e1.trans e2.symm)
theorem LM{M:Model}{A:Around}{E:Value->Shared->Prop}{i:Nat}{x:Str}{v:V}{u:Value}{Q:Unit->Shared->Prop}(I:Inv X pins σ H s)(hN:X.N.Nodup)(hi:X.N[i]?=some x)(hx:Loc X.env.scope x)(r:RelV v u)
  (h:∀s',Inv X pins (σ.set i (some v)) H s'->(∃a,Heap.SameBut a s.heap s'.heap/\(a=X.env.locals\/X.env.cells.lookup x=some a))->Q () s') (hf:X.fn x=true\/X.env.scope.names.lookup x=some .local:=by first | exact .inl rfl | exact .inr rfl | assumption):wpAny M A (storeName X.env x u) Q E s:=by
 obtain⟨m,hn,hl⟩:=id I.loc;have hcls:(X.env.scope.kind==.class||(X.env.scope.kind==.module&&X.env.locals != X.env.globals))=false:=by rw[I.ok.kind];rfl
 have hiσ:i<σ.length:=by rw[I.len];exact(Zj.mp hi).1
 have cne:=I.cne;have tracked:∀{a:Addr}{h':Heap},(∃o,s.heap.get? a=some o/\H a=none)->Heap.SameBut a s.heap h'->HOk X.prog X.w H h':=λ{a h'} ha hs b ob e=>by
  obtain⟨_,_,hfree⟩:=ha;refine(I.hok b ob e).stay (λc w' hc q=>(hs.2 c ?_).trans q) (λ_ q=>q) λ_ _ q=>q;rintro rfl;rcases hc with rfl | hc
  ·rw[hfree]at e;cases e
  ·rw[hfree]at hc;cases hc
 rcases hx with hk | hk
 ·refine wpAny_storeName_local hk hn (λh' hn' hs=>?_) hcls;obtain⟨oL,_,_,hoL,_⟩:=id hn;refine h _ ⟨I.ok,I.os,I.bare,⟨λb o e n hb hx=>?_,λb o e n hb hx=>?_,I.base.free,λb o e hx=>?_,I.base.tups,I.base.frzs,I.base.tbls⟩,⟨_,hn',λj y v' e1 e2 e3=>?_⟩,λy c e=>?_,I.free,I.freeC,λp hp=>?_,tracked ⟨oL,hoL,I.free⟩ hs,by simpa using I.len⟩ ⟨_,hs,.inl rfl⟩
  ·exact(hs.2 b (Nat.ne_of_lt (Yt (Heap.lt_size e) I.ok.above))).trans (I.base.keep b o e n hb hx)
  ·obtain⟨sl,e1⟩:=I.base.slot b o e n hb hx;exact⟨sl,(hs.2 b (Nat.ne_of_lt (Yt (Heap.lt_size e) I.ok.above))).trans e1⟩
  ·obtain⟨o',e1⟩:=I.base.there b o e hx;exact⟨o',(hs.2 b (Nat.ne_of_lt (Yt (Heap.lt_size e) I.ok.above))).trans e1⟩
  ·by_cases hj:j=i
   ·subst hj;rw[hi]at e1;cases e1;rw[List.getElem?_set_self hiσ]at e2;cases e2;exact⟨u,r,.inl ⟨hk,by simp⟩⟩
   ·rw[List.getElem?_set_ne (Ne.symm hj)]at e2;obtain⟨u',r',q⟩:=hl j y v' e1 e2 e3;refine⟨u',r',?_⟩;rcases q with⟨k,e⟩ | ⟨k,c,e,z⟩
    ·refine .inl ⟨k,?_⟩;have:y≠x:=λe=>hj (FD hN e1 (e▸hi));simp[this,e]
    ·exact .inr ⟨k,c,e,z.sameBut hs (cne y c e)⟩
  ·obtain⟨w',z⟩:=I.cell y c e;exact⟨w',z.sameBut hs (cne y c e)⟩
  ·obtain⟨e,n,ne,nf,d⟩:=I.pin p hp;exact⟨(hs.2 p.1 ne).trans e,n,ne,nf,d⟩
 ·have hfn:X.fn x=true:=by
   rcases hf with z | z
   ·exact z
   ·rw[z]at hk;cases hk
  obtain⟨c,hc⟩:=I.ok.has x (.inl hk);obtain⟨w',z⟩:=I.cell x c hc;refine wpAny_storeName_cell I.ok.kind hk hc z (λh' hc' hs=>?_);obtain⟨oc,hoc,hocd⟩:=id z;refine h { s with heap:=h' } ⟨I.ok,I.os,I.bare,⟨λb o e n hb hx=>?_,λb o e n hb hx=>?_,I.base.free,λb o e hx=>?_,I.base.tups,I.base.frzs,I.base.tbls⟩,⟨m,hn.sameBut hs (Ne.symm (cne x c hc)),λj y v' e1 e2 e3=>?_⟩,λy c' e=>?_,I.free,I.freeC,λp hp=>?_,tracked ⟨oc,hoc,I.freeC x c hc⟩ hs,by simpa using I.len⟩ ⟨c,hs,.inr hc⟩
  ·exact(hs.2 b (Nat.ne_of_lt (Yt (Heap.lt_size e) (I.ok.cab x c hfn hc)))).trans (I.base.keep b o e n hb hx)
  ·obtain⟨sl,e1⟩:=I.base.slot b o e n hb hx;exact⟨sl,(hs.2 b (Nat.ne_of_lt (Yt (Heap.lt_size e) (I.ok.cab x c hfn hc)))).trans e1⟩
  ·obtain⟨o',e1⟩:=I.base.there b o e hx;exact⟨o',(hs.2 b (Nat.ne_of_lt (Yt (Heap.lt_size e) (I.ok.cab x c hfn hc)))).trans e1⟩
  ·by_cases hj:j=i
   ·subst hj;rw[hi]at e1;cases e1;rw[List.getElem?_set_self hiσ]at e2;cases e2;exact⟨u,r,.inr ⟨.inl hk,c,hc,hc'⟩⟩
   ·rw[List.getElem?_set_ne (Ne.symm hj)]at e2;obtain⟨u',r',q⟩:=hl j y v' e1 e2 e3;refine⟨u',r',?_⟩;rcases q with q | ⟨k,c',e,z'⟩
    ·exact .inl q
    ·refine .inr ⟨k,c',e,z'.sameBut hs ?_⟩;rintro rfl;exact hj (FD hN e1 (I.ok.inj _ _ _ e hc▸hi))
  ·by_cases hcc:c'=c
   ·subst hcc;exact⟨_,hc'⟩
   ·obtain⟨w2,z2⟩:=I.cell y c' e;exact⟨w2,z2.sameBut hs hcc⟩
  ·obtain⟨e,n,ne,nf,d⟩:=I.pin p hp;refine⟨(hs.2 p.1 ?_).trans e,n,ne,nf,d⟩;intro q;rw[q,hoc]at e;have q':oc=p.2:=Option.some.inj e;exact d w' (by rw[<-q'];exact hocd)
theorem xW{M:Model}{A:Around}{E:Value->Shared->Prop}{i:Nat}{x:Str}{v:V}{u:Value}{Q:Unit->Shared->Prop}(I:Inv X pins σ H s)(hN:X.N.Nodup)(hi:X.N[i]?=some x)(hx:Loc X.env.scope x)(r:RelV v u)
  (h:∀s',Inv X pins (σ.set i (some v)) H s'->Q () s') (hf:X.fn x=true\/X.env.scope.names.lookup x=some .local:=by first | exact .inl rfl | exact .inr rfl | assumption):wpAny M A (storeName X.env x u) Q E s :=
 LM I hN hi hx r (λs' I' _=>h s' I') hf
theorem Inv.call'{s':Shared}{ch:List Addr}(I:Inv X pins σ H s)(ho:s'.os=s.os)(u:Un (frs X.stack) ch H H' s.heap s'.heap)(hok:HOk X.prog X.w H' s'.heap)(hg:AllBare s'.gens)
  (hch:∀b∈ch,(b∈X.ex\/X.s₀.heap.objs.size<=b)/\b≠X.env.locals/\(∀x c,X.env.cells.lookup x=some c->c≠b)/\∀p∈X.pn++pins,p.1≠b):Inv X pins σ H' s':=by
 obtain⟨h',g',d',t',o'⟩:=s';have e:o'=s.os:=ho;subst e;exact I.call (g':=g') (t':=t') (d':=d') u hok hg hch
end
abbrev XK:=Value->Option Addr->Hp->Prop
abbrev St:=List (Option V)
abbrev VK:=V->Hp->Prop
abbrev TE:=St->Hp->VK->Prop
abbrev TT:=St->Hp->(Bool->Hp->Prop)->Prop
abbrev TA:=St->Hp->(List V->Hp->Prop)->Prop
structure Ends where
 nx:St->Hp->Prop
 rt:VK
 bk:St->Hp->Prop:=λ_ _=>False
 ct:St->Hp->Prop:=λ_ _=>False
abbrev TS:=Ends->St->Hp->Prop
def EP(X:Cx)(pins:List (Addr×Obj))(σ:St)(Q:VK)(u:Value)(s':Shared):Prop:=∃v H',Inv X pins σ H' s'/\RelV v u/\Q v H'
def TP(X:Cx)(pins:List (Addr×Obj))(σ:St)(Q:Bool->Hp->Prop)(b:Bool)(s':Shared):Prop:=∃H',Inv X pins σ H' s'/\Q b H'
def AP(X:Cx)(pins:List (Addr×Obj))(σ:St)(Q:List V->Hp->Prop)(us:List Value)(s':Shared):Prop:=∃vs H',Inv X pins σ H' s'/\b0 vs us/\Q vs H'
def SP(X:Cx)(pins:List (Addr×Obj))(D:Ends)(f:Flow)(s':Shared):Prop :=
 match f with
 |.next=>∃σ' H',Inv X pins σ' H' s'/\D.nx σ' H'
 |.brk=>∃σ' H',Inv X pins σ' H' s'/\D.bk σ' H'
 |.cont=>∃σ' H',Inv X pins σ' H' s'/\D.ct σ' H'
 |.ret u=>∃v σ' H',Inv X pins σ' H' s'/\RelV v u/\D.rt v H'
def PE(X:Cx)(e:Expr)(t:TE):Prop :=
 ∀(pins:List (Addr×Obj)) (s:Shared) (σ:St) (H:Hp) (Q:VK),Inv X pins σ H s->t σ H Q->wpAny (model X.prog X.w) X.A (eval e X.env) (EP X pins σ Q) X.xe s
def PT(X:Cx)(e:Expr)(t:TT):Prop :=
 ∀(pins:List (Addr×Obj)) (s:Shared) (σ:St) (H:Hp) (Q:Bool->Hp->Prop),Inv X pins σ H s->t σ H Q->wpAny (model X.prog X.w) X.A (isTrue e X.env (eval e X.env)) (TP X pins σ Q) X.xe s
def PW(X:Cx)(e:Expr)(t:TT):Prop :=
 ∀(whole:Sem Value) (pins:List (Addr×Obj)) (s:Shared) (σ:St) (H:Hp) (Q:Bool->Hp->Prop),Inv X pins σ H s->t σ H Q->wpAny (model X.prog X.w) X.A (isTrue e X.env whole) (TP X pins σ Q) X.xe s
theorem PW.pt{X:Cx}{e:Expr}{t:TT}(h:PW X e t):PT X e t:=h _
def PA(X:Cx)(es:List Expr)(t:TA):Prop :=
 ∀(pos:Pos) (pins:List (Addr×Obj)) (s:Shared) (σ:St) (H:Hp) (Q:List V->Hp->Prop),Inv X pins σ H s->t σ H Q->wpAny (model X.prog X.w) X.A (spliced (backTo pos (starEach es X.env))) (AP X pins σ Q) X.xe s
def PS(X:Cx)(st:Stmt)(t:TS):Prop :=
 ∀(pins:List (Addr×Obj)) (s:Shared) (σ:St) (H:Hp) (D:Ends),Inv X pins σ H s->t D σ H->wpAny (model X.prog X.w) X.A (exec st X.env) (SP X pins D) X.xe s
def PSs(X:Cx)(st:List Stmt)(t:TS):Prop :=
 ∀(pins:List (Addr×Obj)) (s:Shared) (σ:St) (H:Hp) (D:Ends),Inv X pins σ H s->t D σ H->wpAny (model X.prog X.w) X.A (execs st X.env) (SP X pins D) X.xe s
theorem thn{α:Type}{t:Sem α}{Q Q':α->Shared->Prop}{M:Model}{A:Around}{E:Value->Shared->Prop}{s:Shared}(h:wpAny M A t Q E s)(hQ:∀a s,Q a s->Q' a s):wpAny M A t Q' E s:=ZX h hQ λ_ _ x=>x
end L2
namespace L2
open PySem PySem.Spec PyProof.Rows
section
variable{X:Cx}
theorem bin{a b:Expr}{ta tb:TE}(ha:PE X a ta)(hb:PE X b tb){pins:List (Addr×Obj)}{s:Shared}{σ:St}{H:Hp}{R:V->V->Hp->Prop}(I:Inv X pins σ H s)(h:ta σ H λx H1=>tb σ H1 λy H2=>R x y H2)
  {α:Type}{Q:α->Shared->Prop}{f:Value->Value->Sem α}
  (hf:∀v u s2 x y H2,Inv X pins σ H2 s2->RelV x v->RelV y u->R x y H2->wpAny (model X.prog X.w) X.A (f v u) Q X.xe s2) :
  wpAny (model X.prog X.w) X.A (eval a X.env) (λv s₁=>wpAny (model X.prog X.w) X.A (eval b X.env) (λu s₂=>wpAny (model X.prog X.w) X.A (f v u) Q X.xe s₂) X.xe s₁) X.xe s:=by
 refine thn (ha pins s σ H _ I h) λv s1 ⟨x,H1,I1,r1,q1⟩=>?_;refine thn (hb pins s1 σ H1 _ I1 q1) λu s2 ⟨y,H2,I2,r2,q2⟩=>?_;exact hf v u s2 x y H2 I2 r1 r2 q2
def RH(i:Nat):TE:=λσ H Q=>∃v,σ[i]?=some (some v)/\Q v H
def tC(v:V):TE:=λ_ H Q=>Q v H
theorem VL{i:Nat}{x:Str}{pos:Pos}(hN:X.N[i]?=some x)(hv:Vis X.env.scope x)(hd:(x==("__debug__" : Str))=false:=by decide)(hcd:(x==("__classdict__" : Str))=false:=by decide):PE X (.Name x pos) (RH i):=by
 intro pins s σ H Q I h;obtain⟨v,e,h⟩:=h;obtain⟨m,hn,hl⟩:=I.loc;obtain⟨u,r,l⟩:=hl i x v hN e hv;have fin:EP X pins σ Q u s:=⟨v,H,I,r,h⟩
 rcases l with⟨hk,hm⟩ | ⟨hk,c,hc,hcell⟩
 ·exact wpAny_Name (wpAny_loadName_local I.ok.kind hk hn hm fin) hd
 ·rcases hk with hk | hk
  ·exact wpAny_Name (wpAny_loadName_cell I.ok.kind hk hc hcell fin) hd
  ·exact wpAny_Name (wpAny_loadName_free I.ok.kind hk hc hcell fin hcd) hd
theorem aG{i j pos}:PE X (.Constant (.int i) j pos) (tC (.int i)):=λ_ _ _ H _ I h=>wpAny_Constant_int ⟨.int i,H,I.tok _,⟨_,rfl⟩,h⟩
theorem sP{b j pos}:PE X (.Constant (.bool b) j pos) (tC (.bl b)):=λ_ _ _ H _ I h=>Constant_bool ⟨.bl b,H,I,rfl,h⟩
theorem fI{j pos}:PE X (.Constant .none j pos) (tC .non):=λ_ _ _ H _ I h=>Constant_none ⟨.non,H,I,rfl,h⟩
theorem uF{x j pos}:PE X (.Constant (.str x) j pos) (tC (.str x)):=λ_ _ _ H _ I h=>Calls.Constant_str ⟨.str x,H,I.tok _,⟨_,rfl⟩,h⟩
def Gl(X:Cx)(x:Str):Prop:=X.env.kindOf x=some .globalImplicit
theorem DG{E:Value->Shared->Prop}{pins:List (Addr×Obj)}{s:Shared}{σ:St}{H:Hp}{x:Str}{u:Value}{pos:Pos}{Q:Value->Shared->Prop}(I:Inv X pins σ H s)(hg:Gl X x)(hm:X.mg x=some u)(h:Q u s)
  (hd:(x==("__debug__" : Str))=false:=by decide):wpAny (model X.prog X.w) X.A (eval (.Name x pos) X.env) Q E s :=
 Calls.Name_function_global I.ok.kind hg (Calls.loadGlobal_global (by rw[I.ok.glob];exact I.mod.glob.keeps I.bk) hm h) hd
theorem rJ{E:Value->Shared->Prop}{pins:List (Addr×Obj)}{s:Shared}{σ:St}{H:Hp}{x:Str}{u:Value}{pos:Pos}{Q:Value->Shared->Prop}(I:Inv X pins σ H s)(hg:Gl X x)(hm:X.mg x=none)(hv:bootBuiltins x=some u)(h:Q u s)
  (hn:x≠"__name__":=by decide) (hd:(x==("__debug__" : Str))=false:=by decide):wpAny (model X.prog X.w) X.A (eval (.Name x pos) X.env) Q E s:=by
 obtain⟨mb,h1,h2⟩:=I.mod.blt;exact Calls.Name_function_global I.ok.kind hg (Calls.loadGlobal_builtin (by rw[I.ok.glob];exact I.mod.glob.keeps I.bk) hm (by rw[I.ok.blt];exact h1.keeps I.bk) ((h2 x hn).trans hv) h) hd
theorem mQ{x:Str}{v:V}{u:Value}{pos:Pos}(hg:Gl X x)(hm:X.mg x=some u)(r:RelV v u)(hd:(x==("__debug__" : Str))=false:=by decide):PE X (.Name x pos) (tC v) :=
 λ_ _ _ H _ I h=>DG I hg hm ⟨v,H,I,r,h⟩ hd
variable{a b:Expr}{ta tb:TE}{pos:Pos}
def PC(X:Cx)(op:CmpOp)(a b:Expr)(t:TE):Prop :=
 ∀(pins:List (Addr×Obj)) (s:Shared) (σ:St) (H:Hp) (Q:VK),Inv X pins σ H s->t σ H Q ->
  wpAny (model X.prog X.w) X.A (eval a X.env) (λv s₁=>wpAny (model X.prog X.w) X.A (eval b X.env) (λu s₂=>wpAny (model X.prog X.w) X.A (compareOp op v u) (EP X pins σ Q) X.xe s₂) X.xe s₁) X.xe s
def tB(t:TE):TT:=λσ H Q=>t σ H λx H1=>∃c,x=.bl c/\Q c H1
theorem VM{op:CmpOp}{t:TE}(h:PC X op a b t)(h1:behindInMarks op b=false:=by first | exact nobehind _ (by decide) (by decide) | rfl):PE X (.Compare a [op] [b] pos) t:=λpins s σ H Q I hw=>wpAny_Compare1 (h pins s σ H Q I hw) h1
theorem VG{op:CmpOp}{t:TE}(h:PC X op a b t)(h1:behindInMarks op b=false:=by first | exact nobehind _ (by decide) (by decide) | rfl):PT X (.Compare a [op] [b] pos) (tB t):=by
 intro pins s σ H Q I hw;refine wpAny_isTrue_Compare1 (thn (h pins s σ H _ I hw) λv s1 h1=>thn h1 λu s2 h2=>thn h2 λc s3 ⟨x,H1,I1,r1,q1⟩=>?_) h1;obtain⟨d,rfl,q⟩:=q1;cases r1;exact wpAny_truthy_bool ⟨H1,I1,q⟩
variable{tA tB':TT}{rest:List Expr}
def YW(t u:TT):TT:=λσ H Q=>t σ H λc H1=>if c=true then u σ H1 Q else Q false H1
def tOr(t u:TT):TT:=λσ H Q=>t σ H λc H1=>if c=true then Q true H1 else u σ H1 Q
def RI(t:TT):TT:=λσ H Q=>t σ H λc H1=>Q (!c) H1
theorem pQ(ha:PT X a tA):PW X (.BoolOp .And [a] pos) tA:=by
 intro wh pins s σ H Q I h;refine isTrue_and (thn (ha pins s σ H Q I h) λc s1 e=>?_);cases c with
 |true=>exact isTrue_and_nil e
 |false=>exact e
theorem VE(ha:PT X a tA):PW X (.BoolOp .Or [a] pos) tA:=by
 intro wh pins s σ H Q I h;refine isTrue_or (thn (ha pins s σ H Q I h) λc s1 e=>?_);cases c with
 |false=>exact isTrue_or_nil e
 |true=>exact e
theorem rB(ha:PT X a tA)(hb:PW X (.BoolOp .And (b::rest) pos) tB'):PW X (.BoolOp .And (a::b::rest) pos) (YW tA tB'):=by
 intro wh pins s σ H Q I h;refine isTrue_and (thn (ha pins s σ H _ I h) λc s1 ⟨H1,I1,q1⟩=>?_);cases c with
 |true=>exact hb wh pins s1 σ H1 Q I1 q1
 |false=>exact⟨H1,I1,q1⟩
theorem XH(ha:PT X a tA)(hb:PW X (.BoolOp .Or (b::rest) pos) tB'):PW X (.BoolOp .Or (a::b::rest) pos) (tOr tA tB'):=by
 intro wh pins s σ H Q I h;refine isTrue_or (thn (ha pins s σ H _ I h) λc s1 ⟨H1,I1,q1⟩=>?_);cases c with
 |true=>exact⟨H1,I1,q1⟩
 |false=>exact hb wh pins s1 σ H1 Q I1 q1
theorem lA(ha:PT X a tA):PT X (.UnaryOp .Not a pos) (RI tA):=by
 intro pins s σ H Q I h;exact isTrue_not (ha pins s σ H (λc H1=>Q (!c) H1) I h)
def W1(ta tb:TE):TE:=λσ H Q=>ta σ H λx H1=>∃c,x=.bl c/\if c=true then tb σ H1 Q else Q (.bl false) H1
def YO(ta tb:TE):TE:=λσ H Q=>ta σ H λx H1=>∃c,x=.bl c/\if c=true then Q (.bl true) H1 else tb σ H1 Q
theorem HS{op}{t:TE}(h:PE X a t):PE X (.BoolOp op [a] pos) t:=λpins s σ H Q I hw=>BoolOp_one (h pins s σ H Q I hw)
theorem O0(ha:PE X a ta)(hb:PE X (.BoolOp .And (b::rest) pos) tb):PE X (.BoolOp .And (a::b::rest) pos) (W1 ta tb):=by
 intro pins s σ H Q I h;refine BoolOp_and (thn (ha pins s σ H _ I h) λv s1 ⟨x,H1,I1,r1,q1⟩=>?_);obtain⟨c,rfl,q1⟩:=q1;cases r1;refine wpAny_truthy_bool ?_;cases c with
 |true=>exact hb pins s1 σ H1 Q I1 q1
 |false=>exact⟨.bl false,H1,I1,rfl,q1⟩
theorem XM(ha:PE X a ta)(hb:PE X (.BoolOp .Or (b::rest) pos) tb):PE X (.BoolOp .Or (a::b::rest) pos) (YO ta tb):=by
 intro pins s σ H Q I h;refine BoolOp_or (thn (ha pins s σ H _ I h) λv s1 ⟨x,H1,I1,r1,q1⟩=>?_);obtain⟨c,rfl,q1⟩:=q1;cases r1;refine wpAny_truthy_bool ?_;cases c with
 |false=>exact hb pins s1 σ H1 Q I1 q1
 |true=>exact⟨.bl true,H1,I1,rfl,q1⟩
def tIf(t:TT)(ta tb:TE):TE:=λσ H Q=>t σ H λc H1=>if c=true then ta σ H1 Q else tb σ H1 Q
theorem oH{c:Expr}(hc:PT X c tA)(ha:PE X a ta)(hb:PE X b tb):PE X (.IfExp c a b pos) (tIf tA ta tb):=by
 intro pins s σ H Q I h;refine wpAny_IfExp (thn (hc pins s σ H _ I h) λd s1 ⟨H1,I1,q1⟩=>?_);cases d with
 |true=>exact ha pins s1 σ H1 Q I1 q1
 |false=>exact hb pins s1 σ H1 Q I1 q1
end
end L2
namespace L2
open PySem PySem.Spec PyProof.Rows
def SqL(K:PySem.W.Frag)(H:Hp)(a:Addr)(xs:List V):Prop :=
 Rd H a (.lst xs) \/
  ∃(o:Obj) (its:Array Value) (n:Nat),K.lookup a=some o/\o.cls=.type "list"/\o.dict=none/\o.data=.seq its n/\its.size<=ZW/\b0 xs its.toList
def SqT(K:PySem.W.Frag)(H:Hp)(a:Addr)(xs:List V):Prop :=
 Rd H a (.tup xs) \/
  ∃(o:Obj) (its:Array Value) (n:Nat),K.lookup a=some o/\o.cls=.type "tuple"/\o.data=.seq its n/\its.size<=ZW/\b0 xs its.toList
def ZA:Value->Option V
 |.none=>some .non
 |.bool b=>some (.bl b)
 |.int i _=>some (.int i)
 |.str x _=>some (.str x)
 |.bytes b _=>some (.byt b)
 |.float b _=>some (.flt b)
 |.ref a=>some (.ref a)
 |.type n=>some (.ty n)
 |_=>none
theorem RelV.abs{x:V}{u:Value}(r:RelV x u):ZA u=some x:=by
 cases x with
 |non=>cases r;rfl
 |bl _=>cases r;rfl
 |int _=>obtain⟨t,rfl⟩:=r;rfl
 |str _=>obtain⟨t,rfl⟩:=r;rfl
 |byt _=>obtain⟨t,rfl⟩:=r;rfl
 |flt _=>obtain⟨t,rfl⟩:=r;rfl
 |ref _=>cases r;rfl
 |ty _=>cases r;rfl
theorem RelV.inj{x y:V}{u:Value}(r:RelV x u)(q:RelV y u):x=y:=Option.some.inj (r.abs.symm.trans q.abs)
theorem b0.inj:∀{xs ys:List V}{us:List Value},b0 xs us->b0 ys us->xs=ys
 |_,_,_,.nil,.nil=>rfl
 |_,_,_,.cons r t,.cons r' t'=>by rw[r.inj r',b0.inj t t']
section
variable{X:Cx}{pins:List (Addr×Obj)}{σ:St}{H:Hp}{s:Shared}{a:Addr}{xs ys:List V}
theorem SqL.of{K:PySem.W.Frag}(h:H a=some (.lst xs)):SqL K H a xs:=.inl (.inl h)
theorem SqT.of{K:PySem.W.Frag}(h:H a=some (.tup xs)):SqT K H a xs:=.inl (.inl h)
theorem Inv.list(I:Inv X pins σ H s)(h:SqL X.K H a xs):∃its:List Value,b0 xs its/\PlainL s.heap a its.toArray/\xs.length<=ZW:=by
 rcases h with h | ⟨o,its,n,hk,hc,hd,hs,hz,r⟩
 ·obtain⟨z,its,n,r,e⟩:=h.ok I.hok;exact⟨its,r,⟨_,n,e,rfl,rfl,rfl⟩,z⟩
 ·refine⟨its.toList,r,⟨o,n,I.kIn a o hk,hc,hd,by simpa using hs⟩,?_⟩;have e:=r.length;simp only[Array.length_toList]at e
  lia
theorem Inv.tuple(I:Inv X pins σ H s)(h:SqT X.K H a xs):∃its:List Value,b0 xs its/\IsTup s.heap a its.toArray/\xs.length<=ZW:=by
 rcases h with h | ⟨o,its,n,hk,hc,hs,hz,r⟩
 ·obtain⟨z,its,r,p⟩:=h.ok I.hok;exact⟨its,r,p,z⟩
 ·refine⟨its.toList,r,⟨o,I.kIn a o hk,hc,n,by simpa using hs⟩,?_⟩;have e:=r.length;simp only[Array.length_toList]at e
  lia
theorem Inv.list_inj(I:Inv X pins σ H s)(h:SqL X.K H a xs)(h':SqL X.K H a ys):xs=ys:=by
 obtain⟨its,r,⟨o,n,e,_,_,d⟩,_⟩:=I.list h;obtain⟨its',r',⟨o',n',e',_,_,d'⟩,_⟩:=I.list h';rw[e]at e';cases e';rw[d]at d';injection d' with d1 _;have:its=its':=by simpa using congrArg Array.toList d1
 subst this;exact r.inj r'
end
abbrev Cx.wish(X:Cx)(E:Value->Shared->Prop):Cx:={ X with xe:=E }
abbrev Cx.nox(X:Cx):Cx:=X.wish λ_ _=>False
theorem Cx.Ok.wish{X:Cx}(ok:X.Ok)(E:Value->Shared->Prop):(X.wish E).Ok :=
 ⟨ok.mod,ok.kind,ok.glob,ok.blt,ok.above,ok.inj,ok.has,ok.cab,ok.hd,ok.frames,ok.stk,ok.exf,ok.bs,ok.bsz,ok.noex,ok.exfs,ok.funs,ok.frf⟩
theorem Cx.Ok.unwish{X:Cx}{E:Value->Shared->Prop}(ok:(X.wish E).Ok):X.Ok :=
 ⟨ok.mod,ok.kind,ok.glob,ok.blt,ok.above,ok.inj,ok.has,ok.cab,ok.hd,ok.frames,ok.stk,ok.exf,ok.bs,ok.bsz,ok.noex,ok.exfs,ok.funs,ok.frf⟩
section
variable{X:Cx}{pins:List (Addr×Obj)}{σ:St}{H:Hp}{s:Shared}{E:Value->Shared->Prop}
theorem Inv.wish(I:Inv X pins σ H s)(E:Value->Shared->Prop):Inv (X.wish E) pins σ H s:=⟨I.ok.wish E,I.os,I.bare,I.base,I.loc,I.cell,I.free,I.freeC,I.pin,I.hok,I.len⟩
theorem Inv.unwish(I:Inv (X.wish E) pins σ H s):Inv X pins σ H s:=⟨I.ok.unwish,I.os,I.bare,I.base,I.loc,I.cell,I.free,I.freeC,I.pin,I.hok,I.len⟩
theorem SP.unwish{D:Ends}{f:Flow}{s':Shared}(h:SP (X.wish E) pins D f s'):SP X pins D f s':=by
 cases f with
 |next=>obtain⟨σ',H',I,q⟩:=h;exact⟨σ',H',I.unwish,q⟩
 |brk=>obtain⟨σ',H',I,q⟩:=h;exact⟨σ',H',I.unwish,q⟩
 |cont=>obtain⟨σ',H',I,q⟩:=h;exact⟨σ',H',I.unwish,q⟩
 |ret u=>obtain⟨v,σ',H',I,r,q⟩:=h;exact⟨v,σ',H',I.unwish,r,q⟩
theorem PSs.nox{st:List Stmt}{t:TS}(h:PSs X.nox st t):PSs X st t:=λpins s σ H D I hw =>
 ZX (h pins s σ H D (I.wish _) hw) (λ_ _ q=>q.unwish) λ_ _ z=>False.elim z
end
section
variable{X:Cx}{st:Stmt}{rest:List Stmt}{t u:TS}{e:Expr}{te:TE}{pos:Pos}
def NZ:TS:=λD σ H=>D.nx σ H
def LK(t u:TS):TS:=λD σ H=>t { D with nx:=u D } σ H
theorem bW:PSs X [] NZ:=λ_ _ σ H _ I h=>wpAny_execs_nil ⟨σ,H,I,h⟩
theorem aC(h1:PS X st t)(h2:PSs X rest u):PSs X (st::rest) (LK t u):=by
 intro pins s σ H D I h;refine wpAny_execs_cons (thn (h1 pins s σ H { D with nx:=u D } I h) λf s1 q=>?_);cases f with
 |next =>
  obtain⟨σ',H',I',q⟩:=q;exact h2 pins s1 σ' H' D I' q
 |ret v=>exact q
 |brk=>exact q
 |cont=>exact q
theorem aL(h1:PS X st t):PSs X [st] t:=by
 intro pins s σ H D I h;refine wpAny_execs_cons (thn (h1 pins s σ H D I h) λf s1 q=>?_);cases f with
 |next=>exact wpAny_execs_nil q
 |ret v=>exact q
 |brk=>exact q
 |cont=>exact q
theorem Inv.quiet{pins:List (Addr×Obj)}{σ:St}{H:Hp}{s:Shared}(I:Inv X pins σ H s):interactive X.env=false:=by simp[interactive,I.ok.kind]
def WX(te:TE):TS:=λD σ H=>te σ H λ_ H1=>D.nx σ H1
theorem bX(he:PE X e te)(hs:swapsWith e none pos.line X.env=pure false:=by rfl):PS X (.Expr e pos) (WX te):=by
 intro pins s σ H D I h;exact wpAny_Expr_any (thn (he pins s σ H _ I h) λv s1 ⟨x,H1,I1,r1,q1⟩=>⟨σ,H1,I1,q1⟩) I.quiet hs
def YN(te:TE):TS:=λD σ H=>te σ H D.rt
theorem bE(he:PE X e te):PS X (.Return (some e) pos) (YN te):=by
 intro pins s σ H D I h;exact wpAny_Return_some (thn (he pins s σ H _ I h) λv s1 ⟨x,H1,I1,r1,q1⟩=>⟨x,σ,H1,I1,r1,q1⟩)
def RK(c:TT)(t u:TS):TS:=λD σ H=>c σ H λb H1=>if b=true then t D σ H1 else u D σ H1
theorem dH{c:Expr}{a b:List Stmt}{tc:TT}(hc:PT X c tc)(ha:PSs X a t)(hb:PSs X b u):PS X (.If c a b pos) (RK tc t u):=by
 intro pins s σ H D I h;refine wpAny_If (thn (hc pins s σ H _ I h) λd s1 ⟨H1,I1,q1⟩=>?_);cases d with
 |true=>exact ha pins s1 σ H1 D I1 q1
 |false=>exact hb pins s1 σ H1 D I1 q1
def N0:TS:=λ_ _ _=>False
theorem sL:PS X st N0:=λ_ _ _ _ _ _ h=>h.elim
theorem iG{sts:List Stmt}:PSs X sts N0:=λ_ _ _ _ _ _ h=>h.elim
end
abbrev TG:=V->St->Hp->(St->Hp->Prop)->Prop
abbrev TGs:=List V->St->Hp->(St->Hp->Prop)->Prop
def PG(X:Cx)(target:Expr)(t:TG):Prop :=
 ∀(pins:List (Addr×Obj)) (s:Shared) (σ:St) (H:Hp) (v:V) (u:Value) (Q:St->Hp->Prop),Inv X pins σ H s->RelV v u->t v σ H Q ->
  wpAny (model X.prog X.w) X.A (assign target X.env u) (λ_ s'=>∃σ' H',Inv X pins σ' H' s'/\Q σ' H') X.xe s
def PGs(X:Cx)(ts:List Expr)(t:TGs):Prop :=
 ∀(pins:List (Addr×Obj)) (s:Shared) (σ:St) (H:Hp) (vs:List V) (us:List Value) (Q:St->Hp->Prop),Inv X pins σ H s->b0 vs us->t vs σ H Q ->
  wpAny (model X.prog X.w) X.A (assignInOrder ((assignEach ts X.env).map (·.2)) us) (λ_ s'=>∃σ' H',Inv X pins σ' H' s'/\Q σ' H') X.xe s
abbrev Q5:=V->V->V->Hp->(Hp->Prop)->Prop
def WG(X:Cx)(t:Q5):Prop :=
 ∀(pins:List (Addr×Obj)) (s:Shared) (σ:St) (H:Hp) (o i v:V) (ov iv u:Value) (Q:Hp->Prop),Inv X pins σ H s->RelV o ov->RelV i iv->RelV v u->t o i v H Q ->
  wpAny (model X.prog X.w) X.A (setItem ov iv u) (λ_ s'=>∃H',Inv X pins σ H' s'/\Q H') X.xe s
abbrev TIp:=V->V->Hp->VK->Prop
def PIp(X:Cx)(op:Operator)(t:TIp):Prop :=
 ∀(pins:List (Addr×Obj)) (s:Shared) (σ:St) (H:Hp) (x y:V) (v u:Value) (Q:VK),Inv X pins σ H s->RelV x v->RelV y u->t x y H Q ->
  wpAny (model X.prog X.w) X.A (inplaceOp op v u) (EP X pins σ Q) X.xe s
section
variable{X:Cx}{pos:Pos}
def jH(i:Nat):TG:=λv σ H Q=>Q (σ.set i (some v)) H
theorem aO{i:Nat}{x:Str}(hN:X.N.Nodup)(hi:X.N[i]?=some x)(hx:Loc X.env.scope x)(hf:X.fn x=true\/X.env.scope.names.lookup x=some .local:=by first | exact .inl rfl | exact .inr rfl | assumption):PG X (.Name x pos) (jH i):=by
 intro pins s σ H v u Q I r h;exact wpAny_assign_Name (xW I hN hi hx r (λs' I'=>⟨_,H,I',h⟩) hf)
def Y9:TGs:=λvs σ H Q=>vs=[]/\Q σ H
def X3(t:TG)(u:TGs):TGs:=λvs σ H Q=>∃v r,vs=v::r/\t v σ H λσ' H'=>u r σ' H' Q
theorem cJ:PGs X [] Y9:=by
 intro pins s σ H vs us Q I r h;obtain⟨e,h⟩:=h;subst e;cases r;exact assignInOrder_nil ⟨σ,H,I,h⟩
theorem aV{e:Expr}{es:List Expr}{t:TG}{u:TGs}(h1:PG X e t)(h2:PGs X es u)
  (hs:(assignEach (e::es) X.env).map (·.2)=assign e X.env::(assignEach es X.env).map (·.2):=by rfl):PGs X (e::es) (X3 t u):=by
 intro pins s σ H vs us Q I r h;obtain⟨v,vr,e1,h⟩:=h;subst e1;cases r with
 |cons r rr =>
  rw[hs];refine assignInOrder_cons (thn (h1 pins s σ H _ _ _ I r h) λ_ s1 ⟨σ1,H1,I1,q1⟩=>?_);exact h2 pins s1 σ1 H1 _ _ Q I1 rr q1
def X0(K:PySem.W.Frag)(n:Nat)(t:TGs):TG:=λv σ H Q=>∃a xs,v=.ref a/\SqT K H a xs/\xs.length=n/\t xs σ H Q
theorem eL{es:List Expr}{k:Nat}{t:TGs}{n:Nat}(hc:X.calm=true)(h:PGs X es t)
  (hn:(assignEach es X.env).length=n:=by rfl) (hst:(assignEach es X.env).findIdx? (·.1)=none:=by rfl):PG X (.Tuple es k pos) (X0 X.K n t):=by
 intro pins s σ H v u Q I r hw;obtain⟨a,xs,e1,hq,hl,hw⟩:=hw;subst e1;cases r;obtain⟨its,rv,ht,hz⟩:=I.tuple hq;refine assign_Tuple_tuple (I.ok.hd hc) ht (by simp[hn,<-hl,rv.length]) hst λh' hx=>?_;have I1:Inv X pins σ H { s with heap:=h' }:=I.kept (t':=s.toks) λb o e=>hx b o (Nat.ne_of_lt (Heap.lt_size e)) e;exact h pins _ σ H xs _ Q I1 (by simpa using rv) hw
def Y8(to ti:TE)(t:Q5):TG:=λv σ H Q=>to σ H λo H1=>ti σ H1 λi H2=>t o i v H2 λH3=>Q σ H3
theorem jE{o i:Expr}{to ti:TE}{t:Q5}(ho:PE X o to)(hi:PE X i ti)(hs:WG X t)
  (ha:∀v,assign (.Subscript o i pos) X.env v=(do
   let ov <-holding [v] (eval o X.env)
   let iv <-holding [v,ov] (eval i X.env)
   standAt pos
   holding [v,ov,iv] (setItem ov iv v)
   release [v,ov,iv] []):=by intro _;rfl):PG X (.Subscript o i pos) (Y8 to ti t):=by
 intro pins s σ H v u Q I r h;rw[ha];refine ZZ (ZU (thn (ho pins s σ H _ I h) λov s1 ⟨x,H1,I1,r1,q1⟩=>?_));refine ZZ (ZU (thn (hi pins s1 σ H1 _ I1 q1) λiv s2 ⟨y,H2,I2,r2,q2⟩=>?_));refine ZZ (wpAny_standAt (ZZ (ZU (thn (hs pins s2 σ H2 x y v ov iv u _ I2 r1 r2 r q2) λ_ s3 ⟨H3,I3,q3⟩=>?_))));exact wpAny_release ⟨σ,H3,I3,q3⟩
def RM(te:TE)(g:TG):TS:=λD σ H=>te σ H λx H1=>g x σ H1 D.nx
theorem hZ{tg e:Expr}{te:TE}{g:TG}(he:PE X e te)(hg:PG X tg g)(hs:swapsWithSole [tg] e pos.line X.env=pure false:=by rfl)(hw:swappedStores [tg] e X.env=pure none:=by rfl)
  (h1:(assignEach [tg] X.env).map (·.2)=[assign tg X.env]:=by rfl):PS X (.Assign [tg] e pos) (RM te g):=by
 intro pins s σ H D I h;refine wpAny_Assign_stores (thn (he pins s σ H _ I h) λv s1 ⟨x,H1,I1,r1,q1⟩=>?_) hs hw;rw[h1];exact thn (hg pins s1 σ H1 x v _ I1 r1 q1) λ_ s2 q=>q
theorem VH{i:Nat}{x:Str}{e:Expr}{te:TE}{pos':Pos}(hN:X.N.Nodup)(hi:X.N[i]?=some x)(hx:Loc X.env.scope x)(he:PE X e te)(hs:swapsWith e (some (.Name x pos')) pos.line X.env=pure false:=by rfl)(hf:X.fn x=true\/X.env.scope.names.lookup x=some .local:=by first | exact .inl rfl | exact .inr rfl | assumption) :
  PS X (.Assign [.Name x pos'] e pos) (RM te (jH i)):=by
 intro pins s σ H D I h;refine wpAny_Assign_Name (thn (he pins s σ H _ I h) λv s1 ⟨y,H1,I1,r1,q1⟩=>?_) hs;exact xW I1 hN hi hx r1 (λs2 I2=>⟨_,H1,I2,q1⟩) hf
def WZ(to ti te:TE)(tget:V->V->Hp->VK->Prop)(tip:TIp)(tset:Q5):TS:=λD σ H=>to σ H λo H1=>ti σ H1 λi H2=>tget o i H2 λx H3=>te σ H3 λy H4=>tip x y H4 λz H5=>tset o i z H5 λH6=>D.nx σ H6
def YI(X:Cx)(t:V->V->Hp->VK->Prop):Prop :=
 ∀(pins:List (Addr×Obj)) (s:Shared) (σ:St) (H:Hp) (o i:V) (ov iv:Value) (Q:VK),Inv X pins σ H s->RelV o ov->RelV i iv->t o i H Q ->
  wpAny (model X.prog X.w) X.A (getItem ov iv) (EP X pins σ Q) X.xe s
theorem mJ{o i e:Expr}{to ti te:TE}{tget:V->V->Hp->VK->Prop}{tip:TIp}{tset:Q5}{op:Operator}{tpos:Pos}(ho:PE X o to)(hi:PE X i ti)(hg:YI X tget)(he:PE X e te)(hp:PIp X op tip)(hs:WG X tset)
  (ha:∀ov iv new,augStore i ov iv new=(do holding [new,ov,iv] (setItem ov iv new);release [new,ov,iv] [];pure .next):=by intros;rfl):PS X (.AugAssign (.Subscript o i tpos) op e pos) (WZ to ti te tget tip tset):=by
 intro pins s σ H D I h;refine wpAny_AugAssign_SubscriptAny (thn (ho pins s σ H _ I h) λov s1 ⟨x1,H1,I1,r1,q1⟩=>?_) ha;refine thn (hi pins s1 σ H1 _ I1 q1) λiv s2 ⟨x2,H2,I2,r2,q2⟩=>?_;refine thn (hg pins s2 σ H2 x1 x2 ov iv _ I2 r1 r2 q2) λold s3 ⟨x3,H3,I3,r3,q3⟩=>?_;refine thn (he pins s3 σ H3 _ I3 q3) λv s4 ⟨x4,H4,I4,r4,q4⟩=>?_;refine thn (hp pins s4 σ H4 x3 x4 old v _ I4 r3 r4 q4) λnew s5 ⟨x5,H5,I5,r5,q5⟩=>?_;exact thn (hs pins s5 σ H5 x1 x2 x5 ov iv new _ I5 r1 r2 r5 q5) λ_ s6 ⟨H6,I6,q6⟩=>⟨σ,H6,I6,q6⟩
def ipI(f:Int->Int->Int):TIp:=λx y H Q=>∃i j,x=.int i/\y=.int j/\Q (.int (f i j)) H
theorem zC:PIp X .Add (ipI λi j=>i+j):=by
 intro pins s σ H x y v u Q I r1 r2 h;obtain⟨i,j,e1,e2,q⟩:=h;subst e1;subst e2;obtain⟨t,rfl⟩:=r1;obtain⟨t',rfl⟩:=r2;exact iadd_int ⟨.int _,H,I.tok _,⟨_,rfl⟩,q⟩
theorem QA:PIp X .Sub (ipI λi j=>i-j):=by
 intro pins s σ H x y v u Q I r1 r2 h;obtain⟨i,j,e1,e2,q⟩:=h;subst e1;subst e2;obtain⟨t,rfl⟩:=r1;obtain⟨t',rfl⟩:=r2;exact isub_int ⟨.int _,H,I.tok _,⟨_,rfl⟩,q⟩
end
section
variable{X:Cx}{pos:Pos}
def UW(c:TT)(tb:TS):TS:=λD σ H=>∃W:Nat->St->Hp->Prop,(∃m,W m σ H)/\∀m σ H,W m σ H ->
 c σ H λb H1=>if b=true then ∃N:St->Hp->Prop,(∀σ' H',N σ' H'->∃m',m' < m/\W m' σ' H')/\tb { D with nx:=N,ct:=N,bk:=D.nx } σ H1 else D.nx σ H1
theorem iV{c:Expr}{body:List Stmt}{tc:TT}{tb:TS}(hp:PassesOwn (model X.prog X.w) X.A X.env X.xe)(hc:PT X c tc)(hb:PSs X body tb):PS X (.While c body [] pos) (UW tc tb):=by
 intro pins s σ H D I h;obtain⟨W,⟨m0,w0⟩,turn⟩:=h;refine wpAny_While (codeAny_whileLoop (λn s'=>∃σ' H',Inv X pins σ' H' s'/\W n σ' H') ?_ m0 ⟨σ,H,I,w0⟩);rintro n s1 ⟨σ1,H1,I1,w1⟩;refine wpAny_passesOwn hp (thn (hc pins s1 σ1 H1 _ I1 (turn n σ1 H1 w1)) λb s2 ⟨H2,I2,q2⟩=>?_);cases b with
 |true =>
  obtain⟨N,hN,q2⟩:=q2;rw[if_pos rfl];refine wpAny_passesOwn hp (thn (hb pins s2 σ1 H2 _ I2 q2) λf s3 q3=>?_);cases f with
  |next =>
   obtain⟨σ3,H3,I3,n3⟩:=q3;obtain⟨m',hm,w3⟩:=hN σ3 H3 n3;exact⟨m',hm,σ3,H3,I3,w3⟩
  |cont =>
   obtain⟨σ3,H3,I3,n3⟩:=q3;obtain⟨m',hm,w3⟩:=hN σ3 H3 n3;exact⟨m',hm,σ3,H3,I3,w3⟩
  |brk=>exact q3
  |ret v=>exact q3
 |false =>
  rw[if_neg Bool.false_ne_true];exact wpAny_execs_nil ⟨σ1,H2,I2,q2⟩
end
structure It where
 go:Nat->Hp->Prop
 yld:Nat->Hp->V->Hp->Prop
 stop:Nat->Hp->Prop
def wG(X:Cx)(pins:List (Addr×Obj))(H:Hp)(b:Addr):Prop :=
 H b=none/\b≠X.env.locals/\b∉X.fs/\(b∈X.ex\/X.s₀.heap.objs.size<=b)/\(∀x c,X.env.cells.lookup x=some c->c≠b)/\∀p∈X.pn++pins,p.1≠b
theorem Inv.fpOk{X:Cx}{pins:List (Addr×Obj)}{σ:St}{H H':Hp}{s:Shared}{b:Addr}(I:Inv X pins σ H s)(hb:s.heap.objs.size<=b)(hn:H' b=none):wG X pins H' b:=by
 refine⟨hn,Nat.ne_of_gt (Yt I.lt hb),I.nofs hb,.inr (Yr I.sz hb),λx c e z=>?_,λp hp z=>?_⟩
 ·obtain⟨v,q⟩:=I.cell x c e;exact absurd (Yt q.lt (by rw[z];exact hb)) (Nat.lt_irrefl _)
 ·exact absurd (Yt (Heap.lt_size (I.pin p hp).1) (by rw[z];exact hb)) (Nat.lt_irrefl _)
structure Turn(P:Program)(w:World)(K:PySem.W.Frag)(tg:Expr)(J:It)(fp:List Addr)(it:Addr)(tn:Nat->Heap->Prop):Prop where
 mem:it∈fp
 obj:∀i h,tn i h->∀b∈fp,∃o,h.get? b=some o/\∀v,o.data≠.cell v
 keep:∀i h h',tn i h->(∀b∈fp,∀o,h.get? b=some o->h'.get? b=some o)->tn i h'
 item:∀(X:Cx),X.prog=P->X.w=w->X.K=K->X.calm=true->∀(i:Nat) (pins:List (Addr×Obj)) (s:Shared) (σ:St) (H:Hp) (E:Value->Shared->Prop),Inv X pins σ H s->(∀b∈fp,wG X pins H b)->tn i s.heap->J.go i H ->
  wpAny (model P w) X.A (pyNext (.ref it)) (λr s1=>∃u,r=some u /\
   wpAny (model P w) X.A (letOwnedTupleGo tg (.ref it) u) (λ_ s2=>∃x H',Inv X pins σ H' s2/\RelV x u/\J.yld i H x H'/\tn (i+1) s2.heap/\∀b∈fp,H' b=none) E s1) E s
 done:∀(X:Cx),X.prog=P->X.w=w->X.K=K->X.calm=true->∀(i:Nat) (pins:List (Addr×Obj)) (s:Shared) (σ:St) (H:Hp) (E:Value->Shared->Prop),Inv X pins σ H s->(∀b∈fp,wG X pins H b)->tn i s.heap->J.stop i H ->
  wpAny (model P w) X.A (pyNext (.ref it)) (λr s1=>r=none/\Inv X pins σ H s1) E s
 self:∀(A:Around) (i:Nat) (s:Shared) (Q:Value->Shared->Prop) (E:Value->Shared->Prop),tn i s.heap->Q (.ref it) s->wpAny (model P w) A (pyIter (.ref it)) Q E s
abbrev TI:=St->Hp->(It->Hp->Prop)->Prop
def PIE(X:Cx)(pins:List (Addr×Obj))(σ:St)(tg:Expr)(R:It->Hp->Prop)(itv:Value)(s2:Shared):Prop :=
 ∃(it:Addr) (fp:List Addr) (tn:Nat->Heap->Prop) (J:It) (H':Hp),itv=.ref it/\Inv X pins σ H' s2/\Turn X.prog X.w X.K tg J fp it tn/\tn 0 s2.heap/\(∀b∈fp,wG X pins H' b)/\R J H'
def PI(X:Cx)(tg iter:Expr)(wi:TI):Prop :=
 ∀(pins:List (Addr×Obj)) (s:Shared) (σ:St) (H:Hp) (R:It->Hp->Prop),Inv X pins σ H s->wi σ H R ->
  wpAny (model X.prog X.w) X.A (eval iter X.env) (λv s1=>wpAny (model X.prog X.w) X.A (pyIter v) (PIE X pins σ tg R) X.xe s1) X.xe s
theorem QI{M:Model}{A:Around}{E:Value->Shared->Prop}{s:Shared}{tg:Expr}{it:Addr}{u:Value}{o:Obj}{n:String}{vs:Array Value}{Q:Unit->Shared->Prop}(ho:s.heap.get? it=some o)(hc:o.cls=.type n)(hd:o.data=.fields vs)
  (hn:["enumerate","zip","dict_itemiterator","dict_reverseitemiterator","odict_iterator","itertools.zip_longest","itertools.pairwise"].contains n=false) (hQ:Q () s):wpAny M A (letOwnedTupleGo tg (.ref it) u) Q E s:=by
 unfold letOwnedTupleGo;cases tg<;>first
  |exact ZY hQ
  |(cases u<;>first
    |exact ZY hQ
    |(refine ZZ (wpAny_load ho ?_);rw[hc,hd];show wpAny M A (if (["enumerate","zip","dict_itemiterator","dict_reverseitemiterator","odict_iterator","itertools.zip_longest","itertools.pairwise"].contains n&&vs[0]?==some (rawInt _))=true then _ else _) Q E s;rw[if_neg (by intro h;rw[hn,Bool.false_and]at h;cases h)];exact ZY hQ))
def Itl(K:PySem.W.Frag)(a:Addr):It :=
 ⟨λi H=>∃xs x,SqL K H a xs/\xs[i]?=some x,λi H x H'=>H'=H/\∀xs,SqL K H a xs->xs[i]?=some x,λi H=>∃xs,SqL K H a xs/\xs.length<=i⟩
def Itr(lo:Int)(n:Nat):It:=⟨λi _=>i<n,λi H x H'=>H'=H/\x=.int (lo+i),λi _=>n<=i⟩
theorem LI{P:Program}{w:World}{K:PySem.W.Frag}{tg:Expr}(a it:Addr):Turn P w K tg (Itl K a) [it] it (λi h=>h.IsListIter it a i) where
 mem:=by simp
 obj:=λi h st b hb=>by
  have e:b=it:=by simpa using hb
  subst e;obtain⟨o,e,c,d⟩:=st;exact⟨o,e,λv z=>by rw[d]at z;cases z⟩
 keep:=λi h h' st k=>st.at λo e=>k it (by simp) o e
 item:=by
  intro X hP hw hK hc i pins s σ H E I hf st hg;subst hP hw hK;obtain⟨xs,x,hq,hx⟩:=hg;obtain⟨its,rv,p,hz⟩:=I.list hq;obtain⟨u,hu,ru⟩:=rv.get hx;obtain⟨f0,f1,f2,f3,f4,f5⟩:=hf it (by simp);refine wpAny_pyNext_list_item st p.isList (x:=u) (by simpa using hu) λh' st' sb=>?_;have I1:Inv X pins σ H { s with heap:=h' }:=I.turned (t':=s.toks) (λb o hb e=>(sb.2 b hb).trans e) f0 f1 f3 f4 f5;obtain⟨o,e,c,d⟩:=id st';exact⟨u,rfl,QI (s:={ s with heap:=h' }) e c d (by decide) ⟨x,H,I1,ru,⟨rfl,λys hy=>by rw[I.list_inj hy hq];exact hx⟩,st',λb hb=>(hf b hb).1⟩⟩
 done:=by
  intro X hP hw hK hc i pins s σ H E I hf st hg;subst hP hw hK;obtain⟨xs,hq,hx⟩:=hg;obtain⟨its,rv,p,hz⟩:=I.list hq;obtain⟨f0,f1,f2,f3,f4,f5⟩:=hf it (by simp);have hl:=rv.length;exact wpAny_pyNext_list_end (I.ok.hd hc) st p.isList (by simp;lia) λh' eb=>⟨rfl,I.turned (t':=s.toks) (λb o hb e=>eb b o hb e) f0 f1 f3 f4 f5⟩
 self:=λ_ _ _ _ _ st h=>wpAny_pyIter_listiter st h
theorem G3{P:Program}{w:World}{K:PySem.W.Frag}{tg:Expr}(it:Addr)(lo:Int)(n:Nat):Turn P w K tg (Itr lo n) [it] it (λi h=>IsRangeIter h it (lo+(i:Nat)*1) ((n:Int)-(i:Nat)) 1) where
 mem:=by simp
 obj:=λi h st b hb=>by
  have e:b=it:=by simpa using hb
  subst e;exact⟨_,st,λv z=>by
   have z':Data.fields _=Data.cell v:=z;cases z'⟩
 keep:=λi h h' st k=>k it (by simp) _ st
 item:=by
  intro X hP hw hK hc i pins s σ H E I hf st hg;subst hP hw hK;obtain⟨f0,f1,f2,f3,f4,f5⟩:=hf it (by simp);have W:=Walks.range (prog:=X.prog) (w:=X.w) (I.ok.hd hc) it lo 1 n;refine W.item i s _ _ hg st λv h' tk hv st' kk=>?_;obtain⟨t,rfl⟩:=hv;have I1:Inv X pins σ H { s with heap:=h',toks:=tk }:=I.turned (λb o hb e=>kk b o (by simpa using hb) e) f0 f1 f3 f4 f5;refine⟨_,rfl,QI (s:={ s with heap:=h',toks:=tk }) (n:="range_iterator") st' rfl rfl (by decide) ⟨.int (lo+i),H,I1,⟨t,?_⟩,⟨rfl,rfl⟩,st',λb hb=>(hf b hb).1⟩⟩;rw[Int.mul_one]
 done:=by
  intro X hP hw hK hc i pins s σ H E I hf st hg;subst hP hw hK;obtain⟨f0,f1,f2,f3,f4,f5⟩:=hf it (by simp);exact wpAny_pyNext_range_end (I.ok.hd hc) st (by have:n<=i:=hg;lia) λh' eb=>⟨rfl,I.turned (t':=s.toks) (λb o hb e=>eb b o hb e) f0 f1 f3 f4 f5⟩
 self:=λ_ _ _ _ _ st h=>wpAny_pyIter_rangeiter st h
end L2
namespace L2
open PySem PySem.Spec PyProof.Rows
section
variable{X:Cx}{tg:Expr}
def XY(K:PySem.W.Frag)(tl:TE):TI:=λσ H R=>tl σ H λx H1=>∃a,x=.ref a/\(∃xs,SqL K H1 a xs)/\R (Itl K a) H1
theorem cI{l:Expr}{tl:TE}(hl:PE X l tl):PI X tg l (XY X.K tl):=by
 intro pins s σ H R I h;refine thn (hl pins s σ H _ I h) λv s1 ⟨x,H1,I1,r1,q1⟩=>?_;obtain⟨a,e,⟨xs,hq⟩,q⟩:=q1;subst e;cases r1;obtain⟨its,rv,p,hz⟩:=I1.list hq;refine wpAny_pyIter_list p.isList ?_;refine⟨s1.heap.objs.size,[s1.heap.objs.size],_,_,H1,rfl,I1.kept (t':=s1.toks) λb o e=>Heap.get?_push_of_some _ e,LI a _,⟨_,Heap.get?_push_size _ rfl,rfl,rfl⟩,λb hb=>?_,q⟩;have e:b=s1.heap.objs.size:=by simpa using hb
 subst e;exact I1.fpOk (Nat.le_refl _) (I1.hok.fresh (Nat.le_refl _))
theorem OP{pins:List (Addr×Obj)}{σ:St}{H:Hp}{s:Shared}{R:It->Hp->Prop}{E:Value->Shared->Prop}{lo hi:Int}{t u v:Tok}{tk:Nat}(I:Inv X pins σ H s)(h1 : -(2 ^ 62)<=lo)(h2:lo<2 ^ 62)(h3 : -(2 ^ 62)<=hi)(h4:hi<2 ^ 62)
  (q:R (Itr lo (hi-lo).toNat) H):wpAny (model X.prog X.w) X.A (pyIter (.ref s.heap.objs.size)) (PIE X pins σ tg R) E { s with heap:=s.heap.push { cls:=.type "range",data:=.fields #[.int lo t,.int hi u,.int 1 v] },toks:=tk }:=by
 refine wpAny_pyIter_range (IsRange.new ..) (small_one h1 h2 h3 h4) ?_;have I1:Inv X pins σ H { s with heap:=s.heap.push { cls:=.type "range",data:=.fields #[.int lo t,.int hi u,.int 1 v] },toks:=tk }:=I.kept λb o e=>Heap.get?_push_of_some _ e;refine⟨(s.heap.push { cls:=.type "range",data:=.fields #[.int lo t,.int hi u,.int 1 v] }).objs.size,[(s.heap.push { cls:=.type "range",data:=.fields #[.int lo t,.int hi u,.int 1 v] }).objs.size],_,_,H,rfl,
  I1.kept (t':=tk) λb o e=>Heap.get?_push_of_some _ e,G3 _ lo (hi-lo).toNat,?_,λb hb=>?_,q⟩
 ·have e1:lo+((0:Nat):Int)*1=lo:=by simp
  have e2:(((hi-lo).toNat:Nat):Int)-((0:Nat):Int)=Builtin.Range.rangeSize lo hi 1:=by rw[rangeSize_one];split<;>lia
  show IsRangeIter _ _ (lo+((0:Nat):Int)*1) ((((hi-lo).toNat:Nat):Int)-((0:Nat):Int)) 1;rw[e1,e2];exact Heap.get?_push_size _ rfl
 ·have e:b=(s.heap.push { cls:=.type "range",data:=.fields #[.int lo t,.int hi u,.int 1 v] }).objs.size:=by simpa using hb
  subst e;exact I1.fpOk (Nat.le_refl _) (I1.hok.fresh (Nat.le_refl _))
def XX(ta:TA):TI:=λσ H R=>ta σ H λvs H1=>∃j:Int,vs=[.int j]/\-(2 ^ 62)<=j/\j<2 ^ 62/\R (Itr 0 j.toNat) H1
theorem cX{a:Expr}{ta:TA}{p pos:Pos}(hg:Gl X "range")(hm:X.mg "range" = none)(ha:PA X [a] ta)(hs:starEach [a] X.env=[(false,eval a X.env)]:=by rfl):PI X tg (.Call (.Name "range" p) [a] [] pos) (XX ta):=by
 intro pins s σ H R I h;refine Call_ (rJ I hg hm boot_range (PyProof.Rows.callWith_type1 (thn (ha pos pins s σ H _ I h) λus s1 ⟨vs,H1,I1,r1,q1⟩=>?_) hs rfl));obtain⟨j,e,q1,q2,q⟩:=q1;subst e;cases r1 with
 |cons r rr =>
  cases rr;obtain⟨t,rfl⟩:=r;exact call_range_1 (OP I1 (by lia) (by lia) q1 q2 (by simpa using q))
def YS(wi:TI)(g:TG)(tb:TS):TS:=λD σ H=>wi σ H λJ H1=>∃W:Nat->Nat->St->Hp->Prop,(∃m,W 0 m σ H1)/\∀i m σ H,W i m σ H ->
 (J.stop i H/\D.nx σ H)\/(J.go i H/\∃N:St->Hp->Prop,(∀σ' H',N σ' H'->∃m',m' < m/\W (i+1) m' σ' H')/\∀x H',J.yld i H x H'->g x σ H' λσ2 H2=>tb { D with nx:=N,ct:=N,bk:=D.nx } σ2 H2)
def yU(fp:List Addr)(h:Heap):List (Addr×Obj):=fp.filterMap λb=>(h.get? b).map λo=>(b,o)
theorem mT{fp:List Addr}{h:Heap}{b:Addr}{o:Obj}(hb:b∈fp)(e:h.get? b=some o):(b,o)∈yU fp h:=List.mem_filterMap.mpr ⟨b,hb,by rw[e];rfl⟩
theorem MJ{fp:List Addr}{h:Heap}{p:Addr×Obj}(hp:p∈yU fp h):p.1∈fp/\h.get? p.1=some p.2:=by
 obtain⟨b,hb,e⟩:=List.mem_filterMap.mp hp;cases q:h.get? b with
 |none=>rw[q]at e;cases e
 |some o =>
  rw[q]at e;have e':(b,o)=p:=Option.some.inj e;subst e';exact⟨hb,q⟩
theorem Inv.pinned{pins:List (Addr×Obj)}{σ:St}{H:Hp}{s:Shared}{fp:List Addr}(I:Inv X pins σ H s)(hf:∀b∈fp,wG X pins H b)(ho:∀b∈fp,∃o,s.heap.get? b=some o/\∀v,o.data≠.cell v):Inv X (pins++yU fp s.heap) σ H s :=
 I.pins_of λp hp=>(Zf.mp hp).elim (λz=>I.pin p (List.mem_append_right _ z)) λz=>by
  obtain⟨hb,e⟩:=MJ z;obtain⟨f0,f1,f2,_⟩:=hf p.1 hb;obtain⟨o,e',d⟩:=ho p.1 hb;rw[e]at e';cases e';exact⟨e,f0,f1,f2,d⟩
theorem Inv.unpinned{pins pl:List (Addr×Obj)}{σ:St}{H:Hp}{s:Shared}(I:Inv X (pins++pl) σ H s):Inv X pins σ H s:=I.pins_of λp hp=>I.pin p (List.mem_append_right _ (List.mem_append_left _ hp))
theorem cV{iter:Expr}{body:List Stmt}{wi:TI}{g:TG}{tb:TS}{pos:Pos}(hp:PassesOwn (model X.prog X.w) X.A X.env X.xe)(hc:X.calm=true)(hi:PI X tg iter wi)(hg:PG X tg g)(hb:PSs X body tb)
  (hs:∀x,foldedSetIterable iter X.env x=pure x:=by intro _;rfl):PS X (.For tg iter body [] pos) (YS wi g tb):=by
 intro pins s σ H D I h;refine wpAny_For (thn (hi pins s σ H _ I h) λv s1 h1=>thn h1 λitv s2 h2=>?_) hs;obtain⟨it,fp,tn,J,H2,e,I2,T,st2,f2,W,⟨m0,w0⟩,turn⟩:=h2;subst e;have stat:∀{H':Hp},(∀b∈fp,H' b=none)->∀b∈fp,wG X pins H' b:=λhn b hb=>⟨hn b hb,(f2 b hb).2⟩
 refine codeAny_forLoop_any (λn s'=>∃i σ' H',Inv X pins σ' H' s'/\tn i s'.heap/\(∀b∈fp,H' b=none)/\W i n σ' H') ?_ m0 ⟨0,σ,H2,I2,st2,λb hb=>(f2 b hb).1,w0⟩;rintro n s3 ⟨i,σ3,H3,I3,st3,fr3,w3⟩;rcases turn i n σ3 H3 w3 with⟨stop,qn⟩ | ⟨go,N,hN,step⟩
 ·refine wpAny_passesOwn hp (thn (T.done X rfl rfl rfl hc i pins s3 σ3 H3 X.xe I3 (stat fr3) st3 stop) λr s4 ⟨hr,I4⟩=>?_);subst hr;exact wpAny_execs_nil ⟨σ3,H3,I4,qn⟩
 ·refine wpAny_passesOwn hp (thn (T.item X rfl rfl rfl hc i pins s3 σ3 H3 X.xe I3 (stat fr3) st3 go) λr s4 ⟨u,hr,h4⟩=>?_);subst hr;refine wpAny_passesOwn hp (thn h4 λ_ s5 ⟨x,H5,I5,r5,y5,st5,fr5⟩=>?_);have I5':=I5.pinned (stat fr5) (T.obj _ _ st5);refine wpAny_passesOwn hp (thn (hg _ s5 σ3 H5 x u _ I5' r5 (step x H5 y5)) λ_ s6 ⟨σ6,H6,I6,q6⟩=>?_);refine wpAny_passesOwn hp (thn (hb _ s6 σ6 H6 _ I6 q6) λf s7 q7=>?_);have again:∀{σ7:St}{H7:Hp},Inv X (pins++yU fp s5.heap) σ7 H7 s7->N σ7 H7->∃m,m<n/\∃i σ' H',Inv X pins σ' H' s7/\tn i s7.heap/\(∀b∈fp,H' b=none)/\W i m σ' H':=λ{σ7 H7} I7 n7=>by
   obtain⟨m',hm,w7⟩:=hN σ7 H7 n7;refine⟨m',hm,i+1,σ7,H7,I7.unpinned,T.keep _ _ _ st5 λb hb o e=>(I7.pin (b,o) (List.mem_append_right _ (List.mem_append_right _ (mT hb e)))).1,λb hb=>?_,w7⟩;obtain⟨o,e,d⟩:=T.obj _ _ st5 b hb;exact(I7.pin (b,o) (List.mem_append_right _ (List.mem_append_right _ (mT hb e)))).2.1
  cases f with
  |next=>obtain⟨σ7,H7,I7,n7⟩:=q7;exact again I7 n7
  |cont=>obtain⟨σ7,H7,I7,n7⟩:=q7;exact again I7 n7
  |brk=>obtain⟨σ7,H7,I7,q7⟩:=q7;exact⟨σ7,H7,I7.unpinned,q7⟩
  |ret v=>obtain⟨x7,σ7,H7,I7,r7,q7⟩:=q7;exact⟨x7,σ7,H7,I7.unpinned,r7,q7⟩
end
theorem jA{K:PySem.W.Frag}{a:Addr}{xs:List V}{g:TG}{tb:TS}{D:Ends}{σ:St}{H:Hp}(Pv:Nat->St->Hp->Prop)(h0:Pv 0 σ H)(hl:∀i σ H,i<=xs.length->Pv i σ H->SqL K H a xs)
  (hs:∀i x σ H,xs[i]?=some x->Pv i σ H->g x σ H λσ2 H2=>tb { D with nx:=Pv (i+1),ct:=Pv (i+1),bk:=D.nx } σ2 H2) (hd:∀σ H,Pv xs.length σ H->D.nx σ H) :
  ∃W:Nat->Nat->St->Hp->Prop,(∃m,W 0 m σ H)/\∀i m σ H,W i m σ H ->
   ((Itl K a).stop i H/\D.nx σ H)\/((Itl K a).go i H/\∃N:St->Hp->Prop,(∀σ' H',N σ' H'->∃m',m' < m/\W (i+1) m' σ' H')/\∀x H',(Itl K a).yld i H x H'->g x σ H' λσ2 H2=>tb { D with nx:=N,ct:=N,bk:=D.nx } σ2 H2):=by
 refine⟨λi m σ H=>m=xs.length-i/\i<=xs.length/\Pv i σ H,⟨xs.length,by simp,Nat.zero_le _,h0⟩,?_⟩;rintro i m σ H ⟨rfl,hi,p⟩;have q:=hl i σ H hi p;by_cases hlt:i<xs.length
 ·refine .inr ⟨⟨xs,xs[i],q,by simp[hlt]⟩,Pv (i+1),λσ' H' p'=>⟨xs.length-(i+1),by omega,rfl,hlt,p'⟩,λx H' y=>?_⟩;obtain⟨e,y⟩:=y;subst e;exact hs i x σ _ (y xs q) p
 ·have e:i=xs.length:=by lia
  subst e;exact .inl ⟨⟨xs,q,Nat.le_refl _⟩,hd σ H p⟩
theorem fZ{lo:Int}{n:Nat}{g:TG}{tb:TS}{D:Ends}{σ:St}{H:Hp}(Pv:Nat->St->Hp->Prop)(h0:Pv 0 σ H)
  (hs:∀i σ H,i<n->Pv i σ H->g (.int (lo+i)) σ H λσ2 H2=>tb { D with nx:=Pv (i+1),ct:=Pv (i+1),bk:=D.nx } σ2 H2) (hd:∀σ H,Pv n σ H->D.nx σ H) :
  ∃W:Nat->Nat->St->Hp->Prop,(∃m,W 0 m σ H)/\∀i m σ H,W i m σ H ->
   ((Itr lo n).stop i H/\D.nx σ H)\/((Itr lo n).go i H/\∃N:St->Hp->Prop,(∀σ' H',N σ' H'->∃m',m' < m/\W (i+1) m' σ' H')/\∀x H',(Itr lo n).yld i H x H'->g x σ H' λσ2 H2=>tb { D with nx:=N,ct:=N,bk:=D.nx } σ2 H2):=by
 refine⟨λi m σ H=>m=n-i/\i<=n/\Pv i σ H,⟨n,by simp,Nat.zero_le _,h0⟩,?_⟩;rintro i m σ H ⟨rfl,hi,p⟩;by_cases hlt:i<n
 ·refine .inr ⟨hlt,Pv (i+1),λσ' H' p'=>⟨n-(i+1),by omega,rfl,hlt,p'⟩,λx H' y=>?_⟩;obtain⟨e,y⟩:=y;subst e y;exact hs i σ _ hlt p
 ·have e:i=n:=by lia
  subst e;exact .inl ⟨Nat.le_refl _,hd σ H p⟩
end L2
namespace L2
open PySem PySem.Spec PyProof.Rows
abbrev R2:=V->V->Hp->VK->Prop
def OpR(X:Cx)(f:Value->Value->Sem Value)(r:R2):Prop :=
 ∀(pins:List (Addr×Obj)) (s:Shared) (σ:St) (H:Hp) (x y:V) (v u:Value) (Q:VK),Inv X pins σ H s->RelV x v->RelV y u->r x y H Q ->
  wpAny (model X.prog X.w) X.A (f v u) (EP X pins σ Q) X.xe s
def UnR(X:Cx)(f:Value->Sem Value)(r:V->Hp->VK->Prop):Prop :=
 ∀(pins:List (Addr×Obj)) (s:Shared) (σ:St) (H:Hp) (x:V) (v:Value) (Q:VK),Inv X pins σ H s->RelV x v->r x H Q ->
  wpAny (model X.prog X.w) X.A (f v) (EP X pins σ Q) X.xe s
def kF(X:Cx)(f:Value)(r:List V->Hp->VK->Prop):Prop :=
 ∀(pins:List (Addr×Obj)) (s:Shared) (σ:St) (H:Hp) (xs:List V) (us:List Value) (Q:VK),Inv X pins σ H s->b0 xs us->r xs H Q ->
  wpAny (model X.prog X.w) X.A (call f us) (EP X pins σ Q) X.xe s
def ZC(X:Cx)(r:V->Hp->(Bool->Hp->Prop)->Prop):Prop :=
 ∀(pins:List (Addr×Obj)) (s:Shared) (σ:St) (H:Hp) (x:V) (v:Value) (Q:Bool->Hp->Prop),Inv X pins σ H s->RelV x v->r x H Q ->
  wpAny (model X.prog X.w) X.A (truthy v) (TP X pins σ Q) X.xe s
def tOp(r:R2)(ta tb:TE):TE:=λσ H Q=>ta σ H λx H1=>tb σ H1 λy H2=>r x y H2 Q
def tUn(r:V->Hp->VK->Prop)(ta:TE):TE:=λσ H Q=>ta σ H λx H1=>r x H1 Q
def rI(C:Int->Int->Prop)(g:Int->Int->V):R2:=λx y H Q=>∃i j,x=.int i/\y=.int j/\C i j/\Q (g i j) H
def rI0(g:Int->Int->V):R2:=λx y H Q=>∃i j,x=.int i/\y=.int j/\Q (g i j) H
def rU(g:Int->V):V->Hp->VK->Prop:=λx H Q=>∃i,x=.int i/\Q (g i) H
section
variable{X:Cx}{a b c:Expr}{ta tb tc:TE}{pos:Pos}
theorem WC(ha:PE X a ta)(hb:PE X b tb){pins:List (Addr×Obj)}{s:Shared}{σ:St}{H:Hp}{R:V->V->Hp->Prop}(I:Inv X pins σ H s)
  (h:ta σ H λx H1=>tb σ H1 λy H2=>R x y H2) {Q:Value->Shared->Prop}{f:Value->Value->Sem Value}
  (hf:∀v u s2 x y H2,Inv X pins σ H2 s2->RelV x v->RelV y u->R x y H2->wpAny (model X.prog X.w) X.A (f v u) Q X.xe s2) :
  wpAny (model X.prog X.w) X.A (eval a X.env) (λv s₁=>wpAny (model X.prog X.w) X.A (eval b X.env) (λu s₂=>wpAny (model X.prog X.w) X.A (f v u) Q X.xe s₂) X.xe s₁) X.xe s:=by
 refine thn (ha pins s σ H _ I h) λv s1 ⟨x,H1,I1,r1,q1⟩=>?_;refine thn (hb pins s1 σ H1 _ I1 q1) λu s2 ⟨y,H2,I2,r2,q2⟩=>?_;exact hf v u s2 x y H2 I2 r1 r2 q2
theorem aT{op:Operator}{r:R2}(ho:OpR X (binaryOp op) r)(ha:PE X a ta)(hb:PE X b tb):PE X (.BinOp a op b pos) (tOp r ta tb):=by
 intro pins s σ H Q I h;exact wpAny_BinOp (WC ha hb I h λv u s2 x y H2 I2 rx ry q=>ho pins s2 σ H2 x y v u Q I2 rx ry q)
theorem sO{op:UnaryOp}{r:V->Hp->VK->Prop}(ho:UnR X (unaryOp op) r)(ha:PE X a ta):PE X (.UnaryOp op a pos) (tUn r ta):=by
 intro pins s σ H Q I h;exact UnaryOp_ (thn (ha pins s σ H _ I h) λv s1 ⟨x,H1,I1,r1,q1⟩=>ho pins s1 σ H1 x v Q I1 r1 q1)
theorem opI{f:Value->Value->Sem Value}{C:Int->Int->Prop}{g:Int->Int->Int}
  (rule:∀(i j:Int) (t u:Tok) (s:Shared) (Q:Value->Shared->Prop) (E:Value->Shared->Prop),C i j->Q (.int (g i j) s.toks) { s with toks:=s.toks+1 }->wpAny (model X.prog X.w) X.A (f (.int i t) (.int j u)) Q E s) :
  OpR X f (rI C λi j=>.int (g i j)):=by
 intro pins s σ H x y v u Q I rx ry h;obtain⟨i,j,rfl,rfl,hc,q⟩:=h;obtain⟨t,rfl⟩:=rx;obtain⟨t',rfl⟩:=ry;exact rule i j t t' s _ _ hc ⟨.int (g i j),H,I.tok _,⟨_,rfl⟩,q⟩
theorem VP{f:Value->Value->Sem Value}{g:Int->Int->Int}
  (rule:∀(i j:Int) (t u:Tok) (s:Shared) (Q:Value->Shared->Prop) (E:Value->Shared->Prop),Q (.int (g i j) s.toks) { s with toks:=s.toks+1 }->wpAny (model X.prog X.w) X.A (f (.int i t) (.int j u)) Q E s) :
  OpR X f (rI0 λi j=>.int (g i j)):=by
 intro pins s σ H x y v u Q I rx ry h;obtain⟨i,j,rfl,rfl,q⟩:=h;obtain⟨t,rfl⟩:=rx;obtain⟨t',rfl⟩:=ry;exact rule i j t t' s _ _ ⟨.int (g i j),H,I.tok _,⟨_,rfl⟩,q⟩
theorem SI{f:Value->Value->Sem Value}{g:Int->Int->Bool}
  (rule:∀(i j:Int) (t u:Tok) (s:Shared) (Q:Value->Shared->Prop) (E:Value->Shared->Prop),Q (.bool (g i j)) s->wpAny (model X.prog X.w) X.A (f (.int i t) (.int j u)) Q E s) :
  OpR X f (rI0 λi j=>.bl (g i j)):=by
 intro pins s σ H x y v u Q I rx ry h;obtain⟨i,j,rfl,rfl,q⟩:=h;obtain⟨t,rfl⟩:=rx;obtain⟨t',rfl⟩:=ry;exact rule i j t t' s _ _ ⟨.bl (g i j),H,I,rfl,q⟩
def ZD(i j:Int):Prop:=0<j/\j<1073741824
def WL(i j:Int):Prop:=0<=j/\j<=1000000/\i.natAbs<2 ^ 64
def WM(i j:Int):Prop:=(-(2 ^ 64)<i/\i<2 ^ 64)\/(-(2 ^ 64)<j/\j<2 ^ 64)
theorem WM.ok{i j:Int}(h:WM i j):IntMulOk i j:=by
 rcases h with⟨h1,h2⟩ | ⟨h1,h2⟩
 ·exact .of_left (intBits_le_64 h1 h2)
 ·exact .of_right (intBits_le_64 h1 h2)
theorem c8:OpR X (binaryOp .Add) (rI0 λi j=>.int (i+j)):=VP λ_ _ _ _ _ _ _ q=>add_int q
theorem iI:OpR X (binaryOp .Sub) (rI0 λi j=>.int (i-j)):=VP λ_ _ _ _ _ _ _ q=>sub_int q
theorem dO:OpR X (binaryOp .Mult) (rI WM λi j=>.int (i*j)):=opI λ_ _ _ _ _ _ _ hc q=>mul_int q hc.ok
theorem eG:OpR X (binaryOp .FloorDiv) (rI ZD λi j=>.int (i / j)):=opI λi j _ _ _ _ _ hc q=>by
 have h1:(0:Int)<j:=hc.1;have h2:j<1073741824:=hc.2;exact floordiv_int (by lia) (by rw[Int.fdiv_eq_ediv_of_nonneg i (by lia)];exact q) (.inl (PyProof.noPylong_small (by omega)))
theorem dE:OpR X (binaryOp .Mod) (rI (λ_ j=>0<j) λi j=>.int (i%j)):=opI λi j _ _ _ _ _ hc q=>by
 have h1:(0:Int)<j:=hc;exact mod_int' (by lia) (by rw[Int.fmod_eq_emod_of_nonneg i (by lia)];exact q)
theorem HV:OpR X (binaryOp .Pow) (rI WL λi j=>.int (i ^ j.toNat)):=opI λ_ _ _ _ _ _ _ hc q=>pow_int_small hc.1 hc.2.1 hc.2.2 q
theorem VN:OpR X (binaryOp .BitXor) (rI0 λi j=>.int (Builtin.bitXor i j)):=VP λ_ _ _ _ _ _ _ q=>xor_int q
theorem unI{f:Value->Sem Value}{g:Int->Int}
  (rule:∀(i:Int) (t:Tok) (s:Shared) (Q:Value->Shared->Prop) (E:Value->Shared->Prop),Q (.int (g i) s.toks) { s with toks:=s.toks+1 }->wpAny (model X.prog X.w) X.A (f (.int i t)) Q E s) :
  UnR X f (rU λi=>.int (g i)):=by
 intro pins s σ H x v Q I rx h;obtain⟨i,rfl,q⟩:=h;obtain⟨t,rfl⟩:=rx;exact rule i t s _ _ ⟨.int (g i),H,I.tok _,⟨_,rfl⟩,q⟩
theorem mC:UnR X (unaryOp .USub) (rU λi=>.int (-i)):=unI λ_ _ _ _ _ q=>neg_int q
end
def XB:V->V->Bool
 |.non,.non=>true | .non,.int _=>true | .int _,.non=>true | .non,.bl _=>true | .bl _,.non=>true | .non,.str _=>true | .str _,.non=>true
 |.int _,.int _=>true | .bl _,.bl _=>true | .str _,.str _=>true | .byt _,.byt _=>true
 |.int _,.str _=>true | .str _,.int _=>true | .bl _,.str _=>true | .str _,.bl _=>true
 |_,_=>false
def rEq:R2:=λx y H Q=>XB x y=true/\Q (.bl (decide (x=y))) H
def rNe:R2:=λx y H Q=>XB x y=true/\Q (.bl (!decide (x=y))) H
theorem KW{i j:Int}:decide (V.int i=V.int j)=(i==j):=by
 rw[Xx];simp
theorem QR{i j:Bool}:decide (V.bl i=V.bl j)=(i==j):=by
 rw[Xx];simp
theorem KU{i j:Str}:decide (V.str i=V.str j)=(i==j):=by
 rw[Xx];simp
theorem KY{i j:Array UInt8}:decide (V.byt i=V.byt j)=(i.toList==j.toList):=by
 rw[Xx];cases i;cases j;simp
section
variable{X:Cx}{a b c:Expr}{ta tb tc:TE}{pos:Pos}
theorem cR{pins:List (Addr×Obj)}{σ:St}{H:Hp}{s:Shared}{Q:VK}{k k':Bool}(I:Inv X pins σ H s)(q:Q (.bl k) H)(e:k=k'):EP X pins σ Q (.bool k') s:=by
 subst e;exact⟨.bl k,H,I,rfl,q⟩
theorem lJ:OpR X (compareOp .Eq) rEq:=by
 intro pins s σ H x y v u Q I rx ry h;obtain⟨hs,q⟩:=h;cases x with
 |non =>
  cases rx;cases y with
  |non=>cases ry;exact PySem.EqNone.eq_none_none (cR I q (by simp))
  |bl j=>cases ry;exact PySem.EqNone.eq_none_bool (cR I q (by simp))
  |int j=>obtain⟨t',rfl⟩:=ry;exact PySem.EqNone.eq_none_int (cR I q (by simp))
  |str j=>obtain⟨t',rfl⟩:=ry;exact PySem.EqNone.eq_none_str (cR I q (by simp))
  |_=>exact absurd (show false=true from hs) Bool.false_ne_true
 |bl i =>
  cases rx;cases y with
  |non=>cases ry;exact PySem.EqNone.eq_bool_none (cR I q (by simp))
  |bl j=>cases ry;exact eq_bool (cR I q QR)
  |str j=>obtain⟨t',rfl⟩:=ry;exact PySem.EqMixed.eq_bool_str (cR I q (by simp))
  |_=>exact absurd (show false=true from hs) Bool.false_ne_true
 |int i =>
  obtain⟨t,rfl⟩:=rx;cases y with
  |non=>cases ry;exact PySem.EqNone.eq_int_none (cR I q (by simp))
  |int j=>obtain⟨t',rfl⟩:=ry;exact eq_int (cR I q KW)
  |str j=>obtain⟨t',rfl⟩:=ry;exact PySem.EqMixed.eq_int_str (cR I q (by simp))
  |_=>exact absurd (show false=true from hs) Bool.false_ne_true
 |str i =>
  obtain⟨t,rfl⟩:=rx;cases y with
  |non=>cases ry;exact PySem.EqNone.eq_str_none (cR I q (by simp))
  |bl j=>cases ry;exact PySem.EqMixed.eq_str_bool (cR I q (by simp))
  |int j=>obtain⟨t',rfl⟩:=ry;exact PySem.EqMixed.eq_str_int (cR I q (by simp))
  |str j=>obtain⟨t',rfl⟩:=ry;exact eq_str (cR I q KU)
  |_=>exact absurd (show false=true from hs) Bool.false_ne_true
 |byt i =>
  obtain⟨t,rfl⟩:=rx;cases y with
  |byt j=>obtain⟨t',rfl⟩:=ry;exact PySem.W.eq_bytes (cR I q KY)
  |_=>exact absurd (show false=true from hs) Bool.false_ne_true
 |_=>cases y<;>exact absurd (show false=true from hs) Bool.false_ne_true
theorem vD:OpR X (compareOp .NotEq) rNe:=by
 intro pins s σ H x y v u Q I rx ry h;obtain⟨hs,q⟩:=h;cases x with
 |non =>
  cases rx;cases y with
  |non=>cases ry;exact PySem.EqNone.ne_none_none (cR I q (by simp))
  |bl j=>cases ry;exact PySem.EqNone.ne_none_bool (cR I q (by simp))
  |int j=>obtain⟨t',rfl⟩:=ry;exact PySem.EqNone.ne_none_int (cR I q (by simp))
  |str j=>obtain⟨t',rfl⟩:=ry;exact PySem.EqNone.ne_none_str (cR I q (by simp))
  |_=>exact absurd (show false=true from hs) Bool.false_ne_true
 |bl i =>
  cases rx;cases y with
  |non=>cases ry;exact PySem.EqNone.ne_bool_none (cR I q (by simp))
  |bl j=>cases ry;exact ne_bool (cR I q (congrArg not QR))
  |str j=>obtain⟨t',rfl⟩:=ry;exact PySem.EqMixed.ne_bool_str (cR I q (by simp))
  |_=>exact absurd (show false=true from hs) Bool.false_ne_true
 |int i =>
  obtain⟨t,rfl⟩:=rx;cases y with
  |non=>cases ry;exact PySem.EqNone.ne_int_none (cR I q (by simp))
  |int j=>obtain⟨t',rfl⟩:=ry;exact ne_int (cR I q (congrArg not KW))
  |str j=>obtain⟨t',rfl⟩:=ry;exact PySem.EqMixed.ne_int_str (cR I q (by simp))
  |_=>exact absurd (show false=true from hs) Bool.false_ne_true
 |str i =>
  obtain⟨t,rfl⟩:=rx;cases y with
  |non=>cases ry;exact PySem.EqNone.ne_str_none (cR I q (by simp))
  |bl j=>cases ry;exact PySem.EqMixed.ne_str_bool (cR I q (by simp))
  |int j=>obtain⟨t',rfl⟩:=ry;exact PySem.EqMixed.ne_str_int (cR I q (by simp))
  |str j=>obtain⟨t',rfl⟩:=ry;exact ne_str (cR I q (congrArg not KU))
  |_=>exact absurd (show false=true from hs) Bool.false_ne_true
 |byt i =>
  obtain⟨t,rfl⟩:=rx;cases y with
  |byt j=>obtain⟨t',rfl⟩:=ry;exact PySem.W.ne_bytes (cR I q (congrArg not KY))
  |_=>exact absurd (show false=true from hs) Bool.false_ne_true
 |_=>cases y<;>exact absurd (show false=true from hs) Bool.false_ne_true
theorem iX:OpR X (compareOp .Lt) (rI0 λi j=>.bl (decide (i<j))):=SI λ_ _ _ _ _ _ _ q=>lt_int q
theorem sR:OpR X (compareOp .LtE) (rI0 λi j=>.bl (decide (i<=j))):=SI λ_ _ _ _ _ _ _ q=>le_int q
theorem O3:OpR X (compareOp .Gt) (rI0 λi j=>.bl (decide (j<i))):=SI λ_ _ _ _ _ _ _ q=>gt_int q
theorem UK:OpR X (compareOp .GtE) (rI0 λi j=>.bl (decide (j<=i))):=SI λ_ _ _ _ _ _ _ q=>ge_int q
theorem oK:OpR X (compareOp .Is) (λx y H Q=>y=.non/\Q (.bl (decide (x=.non))) H):=by
 intro pins s σ H x y v u Q I rx ry h;obtain⟨rfl,q⟩:=h;cases ry;refine is_none_gen (cR I q ?_);cases x<;>first
  |(cases rx;rfl)
  |(obtain⟨t,rfl⟩:=rx;rfl)
theorem J5:OpR X (compareOp .IsNot) (λx y H Q=>y=.non/\Q (.bl (!decide (x=.non))) H):=by
 intro pins s σ H x y v u Q I rx ry h;obtain⟨rfl,q⟩:=h;cases ry;refine isnot_none_gen (cR I q ?_);cases x<;>first
  |(cases rx;rfl)
  |(obtain⟨t,rfl⟩:=rx;rfl)
theorem bO(b:Expr){op:CmpOp}(h:op≠.In:=by decide)(h2:op≠.NotIn:=by decide):behindInMarks op b=false:=by
 have e1:(op==CmpOp.In)=false:=by cases op<;>first | rfl | exact absurd rfl h
 have e2:(op==CmpOp.NotIn)=false:=by cases op<;>first | rfl | exact absurd rfl h2
 cases b<;>simp[behindInMarks,e1,e2]
theorem kQ{op:CmpOp}{r:R2}(ho:OpR X (compareOp op) r)(ha:PE X a ta)(hb:PE X b tb)(hm:behindInMarks op b=false):PE X (.Compare a [op] [b] pos) (tOp r ta tb):=by
 intro pins s σ H Q I h;exact wpAny_Compare1 (WC ha hb I h λv u s2 x y H2 I2 rx ry q=>ho pins s2 σ H2 x y v u Q I2 rx ry q) hm
def EK(t:TE):TT:=λσ H Q=>t σ H λx H'=>∃k,x=.bl k/\Q k H'
theorem bH{op:CmpOp}{r:R2}(ho:OpR X (compareOp op) r)(ha:PE X a ta)(hb:PE X b tb)(hm:behindInMarks op b=false):PT X (.Compare a [op] [b] pos) (EK (tOp r ta tb)):=by
 intro pins s σ H Q I h;refine wpAny_isTrue_Compare1 (thn (ha pins s σ H _ I h) λv s1 ⟨x,H1,I1,r1,q1⟩=>thn (hb pins s1 σ H1 _ I1 q1) λu s2 ⟨y,H2,I2,r2,q2⟩ =>
  thn (ho pins s2 σ H2 x y v u _ I2 r1 r2 q2) λc s3 ⟨z,H3,I3,r3,k,e,q3⟩=>?_) hm
 subst e;cases r3;exact wpAny_truthy_bool ⟨H3,I3,q3⟩
def xR(r r':R2)(ta tb tc:TE):TE:=λσ H Q=>ta σ H λx H1=>tb σ H1 λy H2=>r x y H2 λz H3=>∃k,z=.bl k /\
 (if k=true then tc σ H3 λw' H4=>r' y w' H4 Q else Q (.bl false) H3)
theorem E7{op op':CmpOp}{r r':R2}(ho:OpR X (compareOp op) r)(ho':OpR X (compareOp op') r')(ha:PE X a ta)(hb:PE X b tb)(hc:PE X c tc)
  (hm:lastMarks [op,op'] [b,c]=false:=by with_unfolding_all rfl):PE X (.Compare a [op,op'] [b,c] pos) (xR r r' ta tb tc):=by
 intro pins s σ H Q I h;refine Compare_chain (thn (ha pins s σ H _ I h) λv s1 ⟨x,H1,I1,r1,q1⟩=>chain_link (thn (hb pins s1 σ H1 _ I1 q1) λu s2 ⟨y,H2,I2,r2,q2⟩ =>
  thn (ho pins s2 σ H2 x y v u _ I2 r1 r2 q2) λd s3 ⟨z,H3,I3,r3,k,e,q3⟩=>?_)) hm
 subst e;cases r3;refine wpAny_truthy_bool ?_;cases k with
 |false=>exact ite_ff ⟨.bl false,H3,I3,rfl,q3⟩
 |true=>exact ite_tt (chain_last (thn (hc pins s3 σ H3 _ I3 q3) λw' s4 ⟨z',H4,I4,r4,q4⟩=>ho' pins s4 σ H4 y z' u w' Q I4 r2 r4 q4))
theorem oG{op op':CmpOp}{r r':R2}(ho:OpR X (compareOp op) r)(ho':OpR X (compareOp op') r')(ha:PE X a ta)(hb:PE X b tb)(hc:PE X c tc)
  (hm:lastMarks [op,op'] [b,c]=false:=by with_unfolding_all rfl):PT X (.Compare a [op,op'] [b,c] pos) (EK (xR r r' ta tb tc)):=by
 intro pins s σ H Q I h;refine isTrue_chain (thn (ha pins s σ H _ I h) λv s1 ⟨x,H1,I1,r1,q1⟩=>test_link (thn (hb pins s1 σ H1 _ I1 q1) λu s2 ⟨y,H2,I2,r2,q2⟩ =>
  thn (ho pins s2 σ H2 x y v u _ I2 r1 r2 q2) λd s3 ⟨z,H3,I3,r3,k,e,q3⟩=>?_)) hm
 subst e;cases r3;refine wpAny_truthy_bool ?_;cases k with
 |false =>
  obtain⟨k',e',q'⟩:=q3;cases e';exact ite_ff ⟨H3,I3,q'⟩
 |true =>
  refine ite_tt (test_last (thn (hc pins s3 σ H3 _ I3 q3) λw' s4 ⟨z',H4,I4,r4,q4⟩=>thn (ho' pins s4 σ H4 y z' u w' _ I4 r2 r4 q4) λd' s5 ⟨z2,H5,I5,r5,k2,e2,q5⟩=>?_));subst e2;cases r5;exact wpAny_truthy_bool ⟨H5,I5,q5⟩
def YG(K:PySem.W.Frag)(x:V)(H:Hp)(k:Bool):Prop :=
 match x with
 |.non=>k=false
 |.bl b=>k=b
 |.int i=>k=(i != 0)
 |.str y=>y.length<=ZW/\k=((y.length:Int) != 0)
 |.byt y=>y.size<=ZW/\k=((y.size:Int) != 0)
 |.ref p=>(∃xs,SqL K H p xs/\k=!xs.isEmpty)\/(∃xs,SqT K H p xs/\k=!xs.isEmpty)\/∃kvs,H p=some (.dK kvs)/\k=!kvs.isEmpty
 |_=>False
theorem IJ{κ:Type}{kvs:List (κ×V)}{vs:List (κ×Value)}(r:KV kvs vs):(!vs.isEmpty)=!kvs.isEmpty:=by
 cases r<;>rfl
theorem zB{xs:List V}{its:List Value}(r:b0 xs its):(!its.toArray.isEmpty)=!xs.isEmpty:=by
 cases r<;>simp
theorem mV:(ZW:Nat)<2 ^ 63:=by rw[sizeLine_eq];decide
theorem UV:ZC X (λx H Q=>∃k,YG X.K x H k/\Q k H):=by
 intro pins s σ H x v Q I rx h;obtain⟨k,e,q⟩:=h;have hl:=mV;have hs:ZW=16777216:=sizeLine_eq;cases x with
 |non =>
  cases rx;have e':k=false:=e;subst e';exact truthy_none ⟨H,I,q⟩
 |bl b =>
  cases rx;have e':k=b:=e;subst e';exact wpAny_truthy_bool ⟨H,I,q⟩
 |int i =>
  obtain⟨t,rfl⟩:=rx;have e':k=(i != 0):=e;subst e';exact PySem.P.truthy_int ⟨H,I,q⟩
 |str y =>
  obtain⟨t,rfl⟩:=rx;obtain⟨hy,e'⟩:y.length<=ZW/\k=((y.length:Int) != 0):=e;subst e';exact PySem.P.truthy_str (by lia) ⟨H,I.tok _,q⟩
 |byt y =>
  obtain⟨t,rfl⟩:=rx;obtain⟨hy,e'⟩:y.size<=ZW/\k=((y.size:Int) != 0):=e;subst e';exact PySem.W.truthy_bytes (by lia) ⟨H,I.tok _,q⟩
 |ref p =>
  cases rx;have e':(∃xs,SqL X.K H p xs/\k=!xs.isEmpty)\/(∃xs,SqT X.K H p xs/\k=!xs.isEmpty)\/∃kvs,H p=some (.dK kvs)/\k=!kvs.isEmpty:=e;rcases e' with⟨xs,hx,e'⟩ | ⟨xs,hx,e'⟩ | ⟨kvs,hx,e'⟩
  ·subst e';obtain⟨its,r,pl,hz⟩:=I.list hx;have hlen:=r.length;exact wpAny_truthy_list pl.isList (by simp only[List.size_toArray];lia) ⟨H,I.tok _,by rw[zB r];exact q⟩
  ·subst e';obtain⟨its,r,pl,hz⟩:=I.tuple hx;have hlen:=r.length;exact truthy_tuple pl (by simp only[List.size_toArray];lia) ⟨H,I.tok _,by rw[zB r];exact q⟩
  ·subst e';obtain⟨hz,hS,vs,r,m⟩:kvs.length<=ZW/\(p==sysModules)=false/\∃vs,KV kvs vs/\s.heap.DictOf (eI X.prog X.w) p vs:=I.hok p _ hx;have hlen:kvs.length=vs.length:=Paired.length r;exact wpAny_truthy_dict hS m (by lia) ⟨H,I.tok _,by rw[IJ r];exact q⟩
 |_=>exact(show False from e).elim
theorem fA(ha:PE X a ta)(he:∀whole,isTrue a X.env whole=(do let v <-whole;standAt a.pos;holding [v] (truthy v))) :
  PT X a (λσ H Q=>ta σ H λx H'=>∃k,YG X.K x H' k/\Q k H'):=by
 intro pins s σ H Q I h;exact isTrue_plain (thn (ha pins s σ H _ I h) λv s1 ⟨x,H1,I1,r1,q1⟩=>UV pins s1 σ H1 x v Q I1 r1 q1) (he _)
theorem vals1{x:V}{us:List Value}(r:b0 [x] us):∃u,us=[u]/\RelV x u:=by
 cases r with
 |cons r1 r2=>cases r2;exact⟨_,rfl,r1⟩
theorem vals2{x y:V}{us:List Value}(r:b0 [x,y] us):∃u w',us=[u,w']/\RelV x u/\RelV y w':=by
 cases r with
 |cons r1 r2 =>
  cases r2 with
  |cons r3 r4=>cases r4;exact⟨_,_,rfl,r1,r3⟩
theorem M9(hc:X.calm=true):kF X (.builtin "min") (λxs H Q=>∃i j,xs=[.int i,.int j]/\Q (.int (if j<i then j else i)) H):=by
 intro pins s σ H xs us Q I r h;obtain⟨i,j,rfl,q⟩:=h;obtain⟨u,w',rfl,⟨t,rfl⟩,⟨t',rfl⟩⟩:=vals2 r;refine min_two_ints (I.ok.hd hc) λh' tk k=>⟨_,H,I.kept k,?_,q⟩
 by_cases hj:j<i
 ·rw[if_pos hj,if_pos hj];exact⟨_,rfl⟩
 ·rw[if_neg hj,if_neg hj];exact⟨_,rfl⟩
theorem B3:kF X (.type "int") (λxs H Q=>(∃i,xs=[.int i]/\Q (.int i) H)\/∃k,xs=[.bl k]/\Q (.int (if k then 1 else 0)) H):=by
 intro pins s σ H xs us Q I r h;rcases h with⟨i,rfl,q⟩ | ⟨k,rfl,q⟩
 ·obtain⟨u,rfl,t,rfl⟩:=vals1 r;exact call_int_int ⟨.int i,H,I,⟨_,rfl⟩,q⟩
 ·obtain⟨u,rfl,r1⟩:=vals1 r;cases r1;exact call_int_bool ⟨.int (if k then 1 else 0),H,I.tok _,⟨_,rfl⟩,q⟩
end
end L2
namespace L2
open PySem PySem.Spec PyProof.Rows
structure ND(h:Heap)(x dx C:Addr)(mA:Str->Option Value):Prop where
 obj:h.get? x=some (PySem.W.instObj C dx)
 ns:h.Ns1 dx mA
 ne:dx≠x
theorem MP{h:Heap}{dx:Addr}{mA:Str->Option Value}(n:h.Ns1 dx mA):∃od,h.get? dx=some od/\∀name,PySem.W.lookIn name od=some (mA name):=by
 obtain⟨o,es,ep,ho,hd,hk,_,hm⟩:=n;refine⟨o,ho,λname=>?_⟩;have e:=hm name;unfold nsFind findBy at e;rw[<-Array.find?_toList]at e;unfold PySem.W.lookIn;rw[hd];dsimp only;split
 ·rename_i y q
  rw[q]at e;exact congrArg some e
 ·rename_i q
  rw[q]at e;have a:es.toList.any (·.refKey)=false:=by
   rw[List.any_eq_false];intro y hy;obtain⟨z,t,hkey⟩:=hk y (Array.mem_toList_iff.mp hy);simp[DictEntry.refKey,hkey]
  have a':¬es.toList.any (·.refKey)=true:=by rw[a];exact Bool.false_ne_true
  rw[if_neg a'];exact congrArg some e
theorem ND.look{h:Heap}{x dx C:Addr}{mA:Str->Option Value}(I:ND h x dx C mA):∃od,PySem.W.InstAt h x (PySem.W.instObj C dx) C (some od)/\∀name,PySem.W.lookIn name od=some (mA name) :=
 let⟨od,ho,hl⟩:=MP I.ns
 ⟨od,⟨I.obj,rfl,rfl,ho⟩,hl⟩
section
variable{prog:Program}{w:World}{A:Around}{E:Value->Shared->Prop}{s:Shared}{K:PySem.W.Frag}{x dx C f:Addr}{mA:Str->Option Value}{name:Str}{v:Value}
theorem get_map{expr:Bool}{Q:Value->Shared->Prop}(X:K.In s.heap)(I:ND s.heap x dx C mA)(hg:PySem.W.plainGet K C name=true)(hh:PySem.W.hasDictIn K C=true)
  (ha:PySem.W.findIn K (.ref C) name=some none) (hv:mA name=some v) (hv':PySem.W.handedIn v=true) (h:Q v { s with toks:=s.toks+1 }) :
  wpAny (model prog w) A (getAttr (.ref x) name expr) Q E s:=by
 obtain⟨od,J,hl⟩:=I.look;exact PySem.W.get_value X J (PySem.W.plainGet_of hg).1 (PySem.W.findObj_own hh ha rfl (by rw[hl,hv])) hv' h
theorem RX{ns:List Str}{Q:Unit->Shared->Prop}(X:K.In s.heap)(I:ND s.heap x dx C mA)
  (hs:PySem.W.findIn K (.ref C) "__setattr__" = some (some (.builtin "object.__setattr__"))) (hp:PySem.W.plainOver K C=true) (ht:PySem.W.takerIn K C name=some none) (hh:PySem.W.hasDictIn K C=true)
  (hw:PySem.Within mA ns) (hsz:ns.length<=ZW)
  (h:∀h',ND h' x dx C (λy=>if y=name then some v else mA y)->Heap.SameBut dx s.heap h'->Q () { s with heap:=h',toks:=s.toks+2 }) :
  wpAny (model prog w) A (setAttr (.ref x) name v) Q E s:=by
 obtain⟨od,J,hl⟩:=I.look;refine PySem.W.set_plain X J hs (PySem.W.osa_open (s:={ s with toks:=s.toks+1 }) (r:=none) X J hp ht λb=>?_);obtain⟨cd,hc,hd'⟩:=PySem.W.any_some hh;have hx:s.heap.get? x=some ⟨.ref C,some dx,.plain,#[]⟩:=I.obj;refine ZZ (ZY (ZZ (ZZ (wpAny_loadPart hx (ZZ (PySem.W.Looks.here (s:={ s with toks:=s.toks+1 }) (PySem.W.looks_clsIn X hc) ?_))))));rw[hd'];refine ZY (a:=some dx) (ZZ (ZY (ZZ ?_)));refine wpAny_nsSet1 (s:={ s with toks:=s.toks+1 }) I.ns λh' hn2 hs2=>?_;obtain⟨oD,esD,epD,hoD,hdD,hcD⟩:=hn2.count (PySem.Within.cons name v hw);refine ZZ (wpAny_lookBehind hoD (by rw[hdD];exact pastItsLine_dict (Yr hcD (by rw[Yq];lia))) ?_);exact ZY (h _ ⟨(hs2.2 _ (Ne.symm I.ne)).trans I.obj,hn2,I.ne⟩ hs2)
theorem PY{R:Result->Shared->Prop}{vs:List Value}{kw:List (Str×Value)}(X:K.In s.heap)(hm:PySem.W.makesIn K C=true)
  (hi:PySem.W.findIn K (.ref C) "__init__" = some (some (.ref f))) (hf:PySem.W.typeIn K (.ref f)=some (.type "function"))
  (h:codeAny (model prog w) (A.under (.builtin "type.__call__" ⟨.ref C::vs,kw⟩)) (.call (.ref f) ⟨.ref (s.heap.objs.size+1)::vs,kw⟩) (PySem.W.InitBack (s.heap.objs.size+1) R)
   { s with heap:=(s.heap.push PySem.W.emptyDict).push (PySem.W.instObj C s.heap.objs.size) }) :
  codeAny (model prog w) A (.call (.ref C) ⟨vs,kw⟩) R s:=by
 obtain⟨hh,g,d,t,os⟩:=s;exact PySem.W.make_core (PySem.W.makes_of X hm) (PySem.W.looks_findIn X hi) (λself=>PySem.W.bind_fn X self hf) (.inl rfl) h
end
def bZ(f:Str)(v:V):List (Str×V)->List (Str×V)
 |[]=>[(f,v)]
 |(g,x)::r=>if g=f then (g,v)::r else (g,x)::bZ f v r
theorem bY(f g:Str)(v:V):∀fs:List (Str×V),(bZ f v fs).lookup g=if g=f then some v else fs.lookup g
 |[]=>by
  show List.lookup g [(f,v)]=_;by_cases h:g=f
  ·have hb:(g==f)=true:=beq_iff_eq.mpr h;simp only[List.lookup,hb,if_pos h]
  ·have hb:(g==f)=false:=beq_eq_false_iff_ne.mpr h;simp only[List.lookup,hb,if_neg h]
 |(k,x)::r=>by
  have ih:=bY f g v r;rw[show bZ f v ((k,x)::r)=(if k=f then (k,v)::r else (k,x)::bZ f v r) from rfl];by_cases hk:k=f
  ·rw[if_pos hk];by_cases h:g=k
   ·have hb:(g==k)=true:=beq_iff_eq.mpr h;simp only[List.lookup,hb,if_pos (h.trans hk)]
   ·have hb:(g==k)=false:=beq_eq_false_iff_ne.mpr h;simp only[List.lookup,hb,if_neg (λe:g=f=>h (e.trans hk.symm))]
  ·rw[if_neg hk];by_cases h:g=k
   ·have hb:(g==k)=true:=beq_iff_eq.mpr h;simp only[List.lookup,hb,if_neg (λe:g=f=>hk (h.symm.trans e))]
   ·have hb:(g==k)=false:=beq_eq_false_iff_ne.mpr h;simp only[List.lookup,hb];exact ih
theorem uN(f:Str)(v:V):∀fs:List (Str×V),f∈(bZ f v fs).map (·.1)/\∀g,g∈fs.map (·.1)->g∈(bZ f v fs).map (·.1)
 |[]=>⟨by simp[bZ],λg h=>by simp at h⟩
 |(k,x)::r=>by
  obtain⟨i1,i2⟩:=uN f v r;rw[show bZ f v ((k,x)::r)=(if k=f then (k,v)::r else (k,x)::bZ f v r) from rfl];by_cases hk:k=f
  ·rw[if_pos hk];subst hk;exact⟨by simp,λg h=>by simpa using h⟩
  ·rw[if_neg hk];refine⟨?_,λg h=>?_⟩
   ·rw[List.map_cons];exact Zw _ i1
   ·rw[List.map_cons]at h ⊢;rcases Zn.mp h with e | e
    ·exact Zn.mpr (.inl e)
    ·exact Zw _ (i2 g e)
theorem vE(f:Str)(v:V):∀fs:List (Str×V),(bZ f v fs).length<=fs.length+1
 |[]=>by simp[bZ]
 |(k,x)::r=>by
  have ih:=vE f v r;rw[show bZ f v ((k,x)::r)=(if k=f then (k,v)::r else (k,x)::bZ f v r) from rfl];by_cases hk:k=f
  ·rw[if_pos hk,Yq,Yq];lia
  ·rw[if_neg hk,Yq,Yq];lia
theorem uY.some_of{v:V}{o:Option Value}(r:uY (some v) o):∃u,o=some u/\RelV v u:=by
 cases o with
 |none=>exact(show False from r).elim
 |some u=>exact⟨u,rfl,r⟩
theorem M0{v:V}{u:Value}(r:RelV v u):PySem.W.handedIn u=true:=by
 cases v with
 |non=>cases (show u=Value.none from r);rfl
 |bl b=>cases (show u=Value.bool b from r);rfl
 |int i=>obtain⟨t,e⟩:=(show ∃t,u=Value.int i t from r);cases e;rfl
 |str x=>obtain⟨t,e⟩:=(show ∃t,u=Value.str x t from r);cases e;rfl
 |byt b=>obtain⟨t,e⟩:=(show ∃t,u=Value.bytes b t from r);cases e;rfl
 |flt b=>obtain⟨t,e⟩:=(show ∃t,u=Value.float b t from r);cases e;rfl
 |ref a=>cases (show u=Value.ref a from r);rfl
 |ty n=>cases (show u=Value.type n from r);rfl
section
variable{P:Program}{w:World}{H H':Hp}{h h':Heap}{a C dx:Addr}{fs fs':List (Str×V)}
theorem xB(hok:HOk P w H h)(e:H a=some (.ins C dx fs)):∃mA,ND h a dx C mA/\(∀f,uY (fs.lookup f) (mA f))/\PySem.Within mA (fs.map (·.1))/\fs.length<=1000/\H dx=some (.own a):=by
 obtain⟨d,z,ne,ob,mA,n,r,q⟩:=(show eO P w H h a (.ins C dx fs) from hok a _ e)
 exact⟨mA,⟨ob,n,ne⟩,r,q,z,d⟩
end
structure Cls(K:PySem.W.Frag)(C:Addr):Prop where
 pg:PySem.W.plainGet K C Str.empty=true
 hd:PySem.W.hasDictIn K C=true
 po:PySem.W.plainOver K C=true
 sa:PySem.W.findIn K (.ref C) "__setattr__" = some (some (.builtin "object.__setattr__"))
theorem Cls.get{K:PySem.W.Frag}{C:Addr}(c:Cls K C)(f:Str):PySem.W.plainGet K C f=true:=c.pg
def kD(K:PySem.W.Frag)(C:Addr)(f:Str):Prop:=PySem.W.findIn K (.ref C) f=some none
theorem kD.taker{K:PySem.W.Frag}{C:Addr}{f:Str}(n:kD K C f):PySem.W.takerIn K C f=some none:=by
 unfold PySem.W.takerIn;rw[show PySem.W.findIn K (.ref C) f=some none from n];rfl
section
variable{X:Cx}{pins:List (Addr×Obj)}{σ:St}{H:Hp}{s:Shared}{a C dx:Addr}{fs:List (Str×V)}{f:Str}{v:V}{A:Around}{E:Value->Shared->Prop}
theorem IL{b:Bool}{Q:Value->Shared->Prop}(I:Inv X pins σ H s)(e:H a=some (.ins C dx fs))(c:Cls X.K C)(n:kD X.K C f)(l:fs.lookup f=some v)
  (h:∀u s',Inv X pins σ H s'->RelV v u->Q u s'):wpAny (model X.prog X.w) A (getAttr (.ref a) f b) Q E s:=by
 obtain⟨mA,O,r,_,_,_⟩:=xB I.hok e;obtain⟨u,hu,ru⟩:=uY.some_of (v:=v) (o:=mA f) (by rw[<-l];exact r f);exact get_map I.kIn O (c.get f) c.hd n hu (M0 ru) (h u _ (I.tok _) ru)
theorem HF{y:V}{u:Value}{Q:Unit->Shared->Prop}(I:Inv X pins σ H s)(e:H a=some (.ins C dx fs))(c:Cls X.K C)(n:kD X.K C f)(hl:fs.length<1000)(ry:RelV y u)
  (h:∀s',Inv X pins σ (upd H a (.ins C dx (bZ f y fs))) s'->Q () s'):wpAny (model X.prog X.w) A (setAttr (.ref a) f u) Q E s:=by
 obtain⟨mA,O,r,wi,_,ho⟩:=xB I.hok e;have hz:(fs.map (·.1)).length<=ZW:=by rw[Zq,sizeLine_eq];lia
 refine RX I.kIn O c.sa c.po n.taker c.hd wi hz λh' O' sb=>h _ ?_;have hd:∃o,h'.get? dx=some o:=let⟨o,_,_,e',_⟩:=O'.ns;⟨o,e'⟩;refine I.write (x:=a) (e:=dx) (by rw[e];exact True.intro) (.inr ho) (λb q hb z=>(sb.2 b hb).trans z) hd ?_;refine⟨by rw[aK O.ne];exact ho,?_,O.ne,O'.obj,_,O'.ns,λg=>?_,λg hg=>?_⟩
 ·have:=vE f y fs;lia
 ·show uY ((bZ f y fs).lookup g) (if g=f then some u else mA g);rw[bY];by_cases q:g=f
  ·rw[if_pos q,if_pos q];exact ry
  ·rw[if_neg q,if_neg q];exact r g
 ·by_cases q:g=f
  ·rw[q];exact(uN f y fs).1
  ·refine(uN f y fs).2 g (wi g λz=>hg ?_);show(if g=f then some u else mA g)=none;rw[if_neg q];exact z
theorem Inv.made(I:Inv X pins σ H s):Inv X pins σ (upd (upd H s.heap.objs.size (.own (s.heap.objs.size+1))) (s.heap.objs.size+1) (.ins C s.heap.objs.size []))
  { s with heap:=(s.heap.push PySem.W.emptyDict).push (PySem.W.instObj C s.heap.objs.size) }:=by
 have e1:(s.heap.push PySem.W.emptyDict).get? s.heap.objs.size=some PySem.W.emptyDict:=Heap.get?_push_size s.heap rfl;have e2:((s.heap.push PySem.W.emptyDict).push (PySem.W.instObj C s.heap.objs.size)).get? (s.heap.objs.size+1)=some (PySem.W.instObj C s.heap.objs.size):=by
  have:=Heap.get?_push_size (s.heap.push PySem.W.emptyDict) (o:=PySem.W.instObj C s.heap.objs.size) rfl
  rwa [Heap.size_push]at this
 have e3:(s.heap.push PySem.W.emptyDict).Ns s.heap.objs.size (λ_=>none):=⟨PySem.W.emptyDict,#[],_,e1,rfl,(λe he=>absurd he (by simp)),λ_=>rfl⟩
 have I1:=I.laid (a:=s.heap.objs.size) (o:=.own (s.heap.objs.size+1)) (h':=s.heap.push PySem.W.emptyDict) (t':=s.toks) (λb u q=>Heap.get?_push_of_some _ q) (Nat.le_refl _) ⟨_,e1⟩;refine I1.laid (a:=s.heap.objs.size+1) (o:=.ins C s.heap.objs.size []) (t':=s.toks) (λb u q=>Heap.get?_push_of_some _ q) (Nat.le_of_eq (Heap.size_push _ _)) ?_;have ne:s.heap.objs.size≠s.heap.objs.size+1:=Nat.ne_of_lt (Nat.lt_succ_self _);refine⟨by rw[aK ne,aB],Nat.zero_le _,ne,e2,λ_=>none,(Heap.Ns1.of_empty e3).at λo q=>Heap.get?_push_of_some _ q,λ_=>True.intro,λy hy=>absurd rfl hy⟩
theorem TZ{prog:Program}{w:World}{env:Env}{e:Expr}{f:Str}{pos:Pos}{s:Shared}{Q:Value->Shared->Prop}(hb:attributeBase e f env (eval e env)=eval e env)
  (h:wpAny (model prog w) A (eval e env) (λo s₁=>wpAny (model prog w) A (getAttr o f true) Q E s₁) E s):wpAny (model prog w) A (eval (.Attribute e f pos) env) Q E s :=
 Attribute_any_ h (by rw[arm_eval_Attribute,hb])
end
def YT(K:PySem.W.Frag)(ta:TE)(f:Str):TE:=λσ H Q=>ta σ H λx H1=>∃a C dx fs v,x=.ref a/\H1 a=some (.ins C dx fs)/\Cls K C/\kD K C f/\fs.lookup f=some v/\Q v H1
def YZ(K:PySem.W.Frag)(ta tv:TE)(f:Str):TS:=λD σ H=>tv σ H λy H1=>ta σ H1 λx H2=>∃a C dx fs,x=.ref a/\H2 a=some (.ins C dx fs)/\Cls K C/\kD K C f/\fs.length<1000 /\
 D.nx σ (upd H2 a (.ins C dx (bZ f y fs)))
section
variable{X:Cx}{o e value:Expr}{f:Str}{pos pos' tpos:Pos}{ta tv:TE}
theorem fB(he:PE X e ta)(hb:attributeBase e f X.env (eval e X.env)=eval e X.env):PE X (.Attribute e f pos) (YT X.K ta f):=by
 intro pins s σ H Q I h;refine TZ hb (thn (he pins s σ H _ I h) λu s1 ⟨x,H1,I1,rx,a,C,dx,fs,v,ex,ea,c,n,l,q⟩=>?_);subst ex;obtain rfl:u=Value.ref a:=rx;exact IL I1 ea c n l λu' s2 I2 ru=>⟨v,H1,I2,ru,q⟩
theorem yP(ha:PE X o ta)(hv:PE X value tv)(hs:swapsWith value (some (.Attribute o f pos')) pos.line X.env=pure false):PS X (.Assign [.Attribute o f pos'] value pos) (YZ X.K ta tv f):=by
 intro pins s σ H D I h;refine plainObj_wpAny_Assign_Attribute (thn (hv pins s σ H _ I h) λu s1 ⟨y,H1,I1,ry,q⟩=>thn (ha pins s1 σ H1 _ I1 q) λov s2 ⟨x,H2,I2,rx,a,C,dx,fs,ex,ea,c,n,l,q2⟩=>?_) hs;subst ex;obtain rfl:ov=Value.ref a:=rx;exact HF I2 ea c n l ry λs3 I3=>⟨σ,_,I3,q2⟩
end
section
variable{X:Cx}{pins:List (Addr×Obj)}{σ:St}{H:Hp}{s:Shared}{A:Around}{E:Value->Shared->Prop}{Q:Value->Shared->Prop}{c:Value}{b:Bool}
end
end L2
namespace L2
open PySem PySem.Spec PyProof.Rows
structure jC(k:Nat)(A:Around):Prop where
 hd:A.handled=none
 dp:A.depth+3*k+5<recursionLimit
 un:A.units+16*k+200<cLine
theorem jC.mono{j k:Nat}{A:Around}(r:jC k A)(h:j<=k):jC j A:=⟨r.hd,by have:=r.dp;lia,by have:=r.un;lia⟩
theorem jC.deeper{k:Nat}{A:Around}(r:jC (k+1) A)(env:Env):jC k (A.deeper env) :=
 ⟨r.hd,by have:=r.dp;show A.depth+1+3*k+5<_;lia,by have:=r.un;show A.units+3+16*k+200<_;lia⟩
theorem ID{A:Around}{C:Addr}{us:List Value}{kw:List (Str×Value)}:(A.under (.builtin "type.__call__" ⟨.ref C::us,kw⟩)).depth=A.depth+1:=by
 first | rfl | simp[Around.under,Code.weight,Code.isCreation,Code.isGuard,Code.isCaller,Code.frames,Code.isFrame,guardIds]
theorem IC{A:Around}{C:Addr}{us:List Value}{kw:List (Str×Value)}:(A.under (.builtin "type.__call__" ⟨.ref C::us,kw⟩)).units=A.units+1:=by
 first | rfl | simp[Around.under,Code.cUnits,Code.frames,Code.isFrame]
theorem jC.make{k:Nat}{A:Around}(r:jC (k+1) A)(C:Addr)(us:List Value)(kw:List (Str×Value)):jC k (A.under (.builtin "type.__call__" ⟨.ref C::us,kw⟩)) :=
 ⟨r.hd,by have:=r.dp;rw[ID];lia,by have:=r.un;rw[IC];lia⟩
theorem jC.depth{k:Nat}{A:Around}(r:jC k A):A.depth<recursionLimit:=by have:=r.dp;lia
theorem jC.units{k:Nat}{A:Around}(r:jC k A):A.units+64<cLine:=by have:=r.un;lia
theorem jC.units0{k:Nat}{A:Around}(r:jC k A):A.units<cLine:=by have:=r.un;lia
def WV:TA:=λ_ H Q=>Q [] H
def UC(ta:TE)(tr:TA):TA:=λσ H Q=>ta σ H λx H1=>tr σ H1 λxs H2=>Q (x::xs) H2
section
variable{X:Cx}{e:Expr}{es:List Expr}{te:TE}{t:TA}{pos:Pos}
theorem aE:PA X [] WV:=λ_ _ _ _ H Q I h=>Calls.spliced_nil ⟨[],H,I,.nil,h⟩
theorem aA(ha:PE X e te)(hr:PA X es t)(hs:starEach (e::es) X.env=(false,eval e X.env)::starEach es X.env:=by rfl):PA X (e::es) (UC te t):=by
 intro pos pins s σ H Q I h;rw[hs];show wpAny _ _ (spliced ((false,eval e X.env)::backTo pos (starEach es X.env))) _ _ s;refine Calls.spliced_cons (thn (ha pins s σ H _ I h) λu s1 ⟨x,H1,I1,r1,q1⟩=>?_);exact thn (hr pos pins s1 σ H1 _ I1 q1) λus s2 ⟨xs,H2,I2,r2,q2⟩=>⟨x::xs,H2,I2,.cons r1 r2,q2⟩
def YM(t:TA):TE:=λσ H Q=>t σ H λxs H1=>xs.length<=ZW/\∀p,H1 p=none->Q (.ref p) (upd H1 p (.tup xs))
def YR(t:TA):TE:=λσ H Q=>t σ H λxs H1=>xs.length<=ZW/\∀p,H1 p=none->Q (.ref p) (upd H1 p (.lst xs))
theorem cH{x1}(h:PA X es t):PE X (.Tuple es x1 pos) (YM t):=by
 intro pins s σ H Q I hq;refine wpAny_Tuple_spliced (thn (h pos pins s σ H _ I hq) λus s1 ⟨xs,H1,I1,r,z,q⟩=>⟨by rw[<-r.length];exact z,?_⟩);have hf:H1 s1.heap.objs.size=none:=I1.hok.fresh (Nat.le_refl _);refine⟨.ref s1.heap.objs.size,upd H1 s1.heap.objs.size (.tup xs),I1.laid (t':=s1.toks) (λb u e=>Heap.get?_push_of_some _ e) (Nat.le_refl _) ?_,rfl,q _ hf⟩;exact⟨z,us,r,⟨_,Heap.get?_push_size _ rfl,rfl,_,rfl⟩⟩
theorem cC(h:PA X es t):PE X (.List es pos) (YR t):=by
 intro pins s σ H Q I hq;refine wpAny_List_spliced (thn (h pos pins s σ H _ I hq) λus s1 ⟨xs,H1,I1,r,z,q⟩=>⟨by rw[<-r.length];exact z,?_⟩);have hf:H1 s1.heap.objs.size=none:=I1.hok.fresh (Nat.le_refl _);refine⟨.ref s1.heap.objs.size,upd H1 s1.heap.objs.size (.lst xs),I1.laid (t':=s1.toks) (λb u e=>Heap.get?_push_of_some _ e) (Nat.le_refl _) ?_,rfl,q _ hf⟩;exact⟨z,us,0,r,Heap.get?_push_size _ rfl⟩
end
abbrev Sp:=List V->Hp->VK->XK->Prop
abbrev CXT:=List Env->Hp->Shared->XK->Value->Shared->Prop
structure JC(P:Program)(w:World)(K:PySem.W.Frag)(mg:Str->Option Value)(base:Heap)(A:Around)(outer:List Env)(s:Shared)(H:Hp):Prop where
 frames:A.frames=some outer
 mod:Mod K mg base
 bs:∀b o,base.get? b=some o->s.heap.get? b=some o/\H b=none
 bsz:base.objs.size<=s.heap.objs.size
 funs:s.heap.FunFrames base outer
 frf:∀b∈frs outer,H b=none
 hok:HOk P w H s.heap
 bare:AllBare s.gens
def CE(outer:List Env)(P:Program)(w:World)(H:Hp)(s:Shared)(Q:VK)(u:Value)(s':Shared):Prop :=
 ∃v H',s'.os=s.os/\AllBare s'.gens/\Un (frs outer) [] H H' s.heap s'.heap/\HOk P w H' s'.heap/\RelV v u/\Q v H'
def CR(CX:CXT)(outer:List Env)(P:Program)(w:World)(H:Hp)(s:Shared)(Q:VK)(E:XK)(r:Result)(s':Shared):Prop :=
 match r with
 |.ok (.ret u)=>CE outer P w H s Q u s'
 |.ok _=>False
 |.error e=>CX outer H s E e s'
structure bT(P:Program)(w:World)(K:PySem.W.Frag)(mg:Str->Option Value)(base:Heap)(CX:CXT)(k:Nat)(f:Addr)(fd:FuncData)(ps:List Str)(sp:Sp):Prop where
 len:∀vs H Q E,sp vs H Q E->vs.length=ps.length
 run:∀(A:Around) (outer:List Env) (s:Shared) (H:Hp) (args:Args) (us:List Value) (vs:List V) (Q:VK) (E:XK),jC k A->JC P w K mg base A outer s H->BindsTo s fd args (ps.zip us)->b0 vs us->sp vs H Q E ->
  codeAny (model P w) A (.call (.ref f) args) (CR CX outer P w H s Q E) s
theorem JC.make{P:Program}{w:World}{K:PySem.W.Frag}{mg:Str->Option Value}{base:Heap}{A:Around}{outer:List Env}{s:Shared}{H:Hp}(e:JC P w K mg base A outer s H)(C:Addr)(us:List Value)(kw:List (Str×Value)) :
  JC P w K mg base (A.under (.builtin "type.__call__" ⟨.ref C::us,kw⟩)) outer s H:=⟨by first | exact e.frames | (simpa[Around.under,Code.envs,Code.isFrame,pushEnvs] using e.frames),e.mod,e.bs,e.bsz,e.funs,e.frf,e.hok,e.bare⟩
section
variable{X:Cx}{pins:List (Addr×Obj)}{σ:St}{H:Hp}{s s':Shared}
theorem Inv.env0(I:Inv X pins σ H s):JC X.prog X.w X.K X.mg X.base X.A X.stack s H :=
 ⟨I.ok.frames,I.ok.mod,I.bs,Yr I.ok.bsz I.sz,I.stack,I.stkFree,I.hok,I.bare⟩
theorem Inv.after{Q:VK}{u:Value}(I:Inv X pins σ H s)(h:CE X.stack X.prog X.w H s Q u s'):EP X pins σ Q u s':=by
 obtain⟨v,H',os,bare,un,hok,r,q⟩:=h;obtain⟨hh,g,d,t,os'⟩:=s';obtain rfl:os'=s.os:=os;exact⟨v,H',I.call (h':=hh) (g':=g) (d':=d) (t':=t) (ch:=[]) un hok bare (λb z=>absurd z (by simp)),r,q⟩
end
def UE(sp:Sp)(dvs:List V)(E:XK)(t:TA):TE:=λσ H Q=>t σ H λvs H1=>sp (vs++dvs) H1 Q E
def WW(C:Addr)(sp:Sp)(dvs:List V)(E:XK)(t:TA):TE:=λσ H Q=>t σ H λvs H1=>∀x dx,H1 x=none->H1 dx=none->dx≠x ->
 sp (.ref x::(vs++dvs)) (upd (upd H1 dx (.own x)) x (.ins C dx [])) (λv H2=>v=.non/\Q (.ref x) H2) E
def Binds(K:PySem.W.Frag)(fd:FuncData)(ps:List Str)(ds:List Value):Prop :=
 ∀(s:Shared) (us:List Value),K.In s.heap->(us++ds).length=ps.length->BindsTo s fd ⟨us,[]⟩ (ps.zip (us++ds))
theorem Binds.all{K:PySem.W.Frag}{fd:FuncData}{ps:List Str}(h:∀us:List Value,us.length=ps.length->bindArgs fd ⟨us,[]⟩=pure (ps.zip us)):Binds K fd ps []:=λs us _ hl=>by
 rw[List.append_nil]at hl ⊢;exact .of_eq (h us hl)
def uZ(CX:CXT)(X:Cx)(E:XK):Prop:=∀(pins:List (Addr×Obj)) (σ:St) (H:Hp) (s:Shared) (e:Value) (s':Shared),Inv X pins σ H s->CX X.stack H s E e s'->X.xe e s'
section
variable{X:Cx}{CX:CXT}{k:Nat}{f C:Addr}{fd:FuncData}{ps:List Str}{sp:Sp}{dvs:List V}{ds:List Value}{E:XK}{x m:Str}{p pos apos:Pos}{e o:Expr}{es:List Expr}{ta:TE}{t:TA}
theorem U9{pins:List (Addr×Obj)}{σ:St}{H:Hp}{s:Shared}{Q:VK}{us:List Value}{vs:List V}(F:bT X.prog X.w X.K X.mg X.base CX k f fd ps sp)(hr:jC k X.A)(hb:Binds X.K fd ps ds)(hd:b0 dvs ds)(hx:uZ CX X E)
  (I:Inv X pins σ H s) (r:b0 vs us) (h:sp (vs++dvs) H Q E):wpAny (model X.prog X.w) X.A (call (.ref f) us) (EP X pins σ Q) X.xe s:=by
 have r2:b0 (vs++dvs) (us++ds):=r.append hd;have hl:(us++ds).length=ps.length:=by rw[<-r2.length];exact F.len _ _ _ _ h
 refine wpAny_call (codeAny_mono (F.run X.A X.stack s H ⟨us,[]⟩ (us++ds) (vs++dvs) Q E hr I.env0 (hb s us I.kIn hl) r2 h) λr s' hq=>?_);cases r with
 |error e=>exact hx pins σ H s e s' I hq
 |ok fl =>
  cases fl with
  |ret u=>exact I.after hq
  |next=>exact False.elim hq
  |brk=>exact False.elim hq
  |cont=>exact False.elim hq
theorem SG(F:bT X.prog X.w X.K X.mg X.base CX k f fd ps sp)(hr:jC k X.A)(hg:Gl X x)(hm:X.mg x=some (.ref f))(hk:PySem.W.keepIn X.K (.ref f)=true)(hb:Binds X.K fd ps ds)(hd:b0 dvs ds)(hx:uZ CX X E)
  (ha:PA X (e::es) t) (hdb:(x==("__debug__" : Str))=false:=by decide) (he:starEach (e::es) X.env=(false,eval e X.env)::starEach es X.env:=by rfl) (hpl:(backTo pos (starEach es X.env)).any (·.1)=false:=by rfl) :
  PE X (.Call (.Name x p) (e::es) [] pos) (UE sp dvs E t):=by
 intro pins s σ H Q I h;refine wpAny_Call_Name_kw (DG I hg hm ?_ hdb);refine PySem.W.callWith_K (h₀:=X.base) I.ok.mod.kin hk (thn (ha pos pins s σ H _ I h) λus s1 ⟨vs,H1,I1,r,q⟩=>⟨I1.kIn,?_⟩) he hpl;exact U9 F hr hb hd hx I1 r q
structure Mk(K:PySem.W.Frag)(C f:Addr):Prop where
 makes:PySem.W.makesIn K C=true
 init:PySem.W.findIn K (.ref C) "__init__" = some (some (.ref f))
 fn:PySem.W.isFn K (.ref f)=true
 kp:PySem.W.keepIn K (.ref C)=true
theorem OM{pins:List (Addr×Obj)}{σ:St}{H:Hp}{s:Shared}{Q:VK}{us:List Value}{vs:List V}(M:Mk X.K C f)(F:bT X.prog X.w X.K X.mg X.base CX k f fd ps sp)(hr:jC (k+1) X.A)(hb:Binds X.K fd ps ds)(hd:b0 dvs ds)
  (hx:uZ CX X E) (I:Inv X pins σ H s) (r:b0 vs us)
  (h:∀x dx,H x=none->H dx=none->dx≠x->sp (.ref x::(vs++dvs)) (upd (upd H dx (.own x)) x (.ins C dx [])) (λv H2=>v=.non/\Q (.ref x) H2) E) :
  wpAny (model X.prog X.w) X.A (call (.ref C) us) (EP X pins σ Q) X.xe s:=by
 have hq:=h (s.heap.objs.size+1) s.heap.objs.size (I.hok.fresh (Nat.le_succ _)) (I.hok.fresh (Nat.le_refl _)) (Nat.ne_of_lt (Nat.lt_succ_self _));have I2:=Inv.made (C:=C) I;have r2:b0 (V.ref (s.heap.objs.size+1)::(vs++dvs)) (Value.ref (s.heap.objs.size+1)::(us++ds)):=.cons rfl (r.append hd);have hl:(Value.ref (s.heap.objs.size+1)::us++ds).length=ps.length:=by
  have e:=r2.length;rw[F.len _ _ _ _ hq]at e;exact e.symm
 refine wpAny_call (PY (f:=f) I.kIn M.makes M.init (beq_iff_eq.mp M.fn) (codeAny_mono (F.run _ X.stack _ _ ⟨Value.ref (s.heap.objs.size+1)::us,[]⟩ (Value.ref (s.heap.objs.size+1)::(us++ds)) _ _ E (hr.make C us [])
  (I2.env0.make C us []) (hb _ (Value.ref (s.heap.objs.size+1)::us) I2.kIn hl) r2 hq) λr s' hq'=>?_))
 cases r with
 |error e=>exact hx pins σ _ _ e s' I2 hq'
 |ok fl =>
  cases fl with
  |ret u =>
   obtain⟨v,H',I3,rv,ev,q3⟩:=I2.after hq';subst ev;exact⟨rv,⟨V.ref (s.heap.objs.size+1),H',I3,rfl,q3⟩⟩
  |next=>exact False.elim hq'
  |brk=>exact False.elim hq'
  |cont=>exact False.elim hq'
theorem SF(M:Mk X.K C f)(F:bT X.prog X.w X.K X.mg X.base CX k f fd ps sp)(hr:jC (k+1) X.A)(hg:Gl X x)(hm:X.mg x=some (.ref C))(hb:Binds X.K fd ps ds)(hd:b0 dvs ds)(hx:uZ CX X E)
  (ha:PA X (e::es) t) (hdb:(x==("__debug__" : Str))=false:=by decide) (he:starEach (e::es) X.env=(false,eval e X.env)::starEach es X.env:=by rfl) (hpl:(backTo pos (starEach es X.env)).any (·.1)=false:=by rfl) :
  PE X (.Call (.Name x p) (e::es) [] pos) (WW C sp dvs E t):=by
 intro pins s σ H Q I h;refine wpAny_Call_Name_kw (DG I hg hm ?_ hdb);refine PySem.W.callWith_K (h₀:=X.base) I.ok.mod.kin M.kp (thn (ha pos pins s σ H _ I h) λus s1 ⟨vs,H1,I1,r,q⟩=>⟨I1.kIn,?_⟩) he hpl;exact OM M F hr hb hd hx I1 r q
end
def PK(X:Cx)(kws:List Keyword)(t:TA):Prop :=
 ∀(pos:Pos) (pins:List (Addr×Obj)) (s:Shared) (σ:St) (H:Hp) (Q:List V->Hp->Prop),Inv X pins σ H s->t σ H Q->wpAny (model X.prog X.w) X.A (evalAll ((backToKw pos (keywordEach kws X.env)).map (·.2))) (AP X pins σ Q) X.xe s
section
variable{X:Cx}{CX:CXT}{k:Nat}{f C:Addr}{fd:FuncData}{ps ks:List Str}{sp:Sp}{E:XK}{x m:Str}{p pos apos kpos:Pos}{e o:Expr}{es:List Expr}{kws:List Keyword}{te ta:TE}{t tk:TA}{nm:Option Str}
theorem VI:PK X [] WV:=λ_ _ _ _ H Q I h=>wpAny_evalAll_nil ⟨[],H,I,.nil,h⟩
theorem SE(ha:PE X e te)(hr:PK X kws t):PK X (⟨nm,e,kpos⟩::kws) (UC te t):=by
 intro pos pins s σ H Q I h;show wpAny _ _ (evalAll ((do let v <-eval e X.env;standAt pos;pure v)::(backToKw pos (keywordEach kws X.env)).map (·.2))) _ _ s;refine wpAny_evalAll_cons (ZZ (thn (ha pins s σ H _ I h) λu s1 ⟨x,H1,I1,r1,q1⟩=>ZZ (wpAny_standAt (ZY ?_))));exact thn (hr pos pins s1 σ H1 _ I1 q1) λus s2 ⟨xs,H2,I2,r2,q2⟩=>⟨x::xs,H2,I2,.cons r1 r2,q2⟩
variable{g:List Value->List Value->List Value}{gV:List V->List V->List V}
end
structure a0(N P:List Str)(sc:Scope):Prop where
 kind:sc.kind=.function
 co:sc.isCoroutine=false
 gen:sc.isGenerator=false
 nd:N.Nodup
 pre:N.take P.length=P
 par:∀x∈P,sc.names.lookup x=some .local\/sc.names.lookup x=some .cell
 nofree:∀y∈sc.names,y.2≠.free
theorem B6{kindOf:Str->Option NameKind}{x:Str}:∀{binds:List (Str×Value)}{m:Str->Option Value},(∀v,(x,v)∉binds)->bindL kindOf binds m x=m x
 |[],_,_=>rfl
 |(n,v)::r,m,h=>by
  unfold bindL;rw[B6 λw hw=>h w (Zw _ hw)];split
  ·have:x≠n:=by rintro rfl;exact h v Zd
   simp[this]
  ·rfl
theorem B8{kindOf:Str->Option NameKind}{x:Str}:∀{binds:List (Str×Value)}{m:Str->Option Value},(∀v,(x,v)∉binds)->bindC kindOf binds m x=m x
 |[],_,_=>rfl
 |(n,v)::r,m,h=>by
  unfold bindC;rw[B8 λw hw=>h w (Zw _ hw)];split
  ·rfl
  ·have:x≠n:=by rintro rfl;exact h v Zd
   simp[this]
theorem B7{kindOf:Str->Option NameKind}{x:Str}{v:Value}:∀{P:List Str}{vs:List Value}{i:Nat}{m:Str->Option Value},P.Nodup->P[i]?=some x->vs[i]?=some v->kindOf x=some .local ->
  bindL kindOf (P.zip vs) m x=some v
 |[],_,_,_,_,h,_,_=>by simp at h
 |_::_,[],_,_,_,_,h,_=>by simp at h
 |p::P,w::vs,0,m,nd,h1,h2,hk=>by
  simp at h1 h2;subst h1;subst h2;show bindL kindOf ((p,w)::P.zip vs) m p=_;unfold bindL;rw[B6 λv hv=>(List.nodup_cons.mp nd).1 (List.of_mem_zip hv).1,if_pos hk];simp
 |p::P,w::vs,i+1,m,nd,h1,h2,hk=>by
  show bindL kindOf ((p,w)::P.zip vs) m x=_;unfold bindL;exact B7 (i:=i) (List.nodup_cons.mp nd).2 (by simpa using h1) (by simpa using h2) hk
theorem B9{kindOf:Str->Option NameKind}{x:Str}{v:Value}:∀{P:List Str}{vs:List Value}{i:Nat}{m:Str->Option Value},P.Nodup->P[i]?=some x->vs[i]?=some v->kindOf x≠some .local ->
  bindC kindOf (P.zip vs) m x=some v
 |[],_,_,_,_,h,_,_=>by simp at h
 |_::_,[],_,_,_,_,h,_=>by simp at h
 |p::P,w::vs,0,m,nd,h1,h2,hk=>by
  simp at h1 h2;subst h1;subst h2;show bindC kindOf ((p,w)::P.zip vs) m p=_;unfold bindC;rw[B8 λv hv=>(List.nodup_cons.mp nd).1 (List.of_mem_zip hv).1,if_neg hk];simp
 |p::P,w::vs,i+1,m,nd,h1,h2,hk=>by
  show bindC kindOf ((p,w)::P.zip vs) m x=_;unfold bindC;exact B9 (i:=i) (List.nodup_cons.mp nd).2 (by simpa using h1) (by simpa using h2) hk
def start(N:List Str)(vs:List V):St:=vs.map some++List.replicate (N.length-vs.length) none
def M6(CX:CXT)(P:Program)(w:World)(K:PySem.W.Frag)(mg:Str->Option Value)(base:Heap)(N:List Str)(qual:Str)(scope:Scope)(f:Addr)(cd:Value)(A:Around)(outer:List Env)(s:Shared)(H:Hp)(E:XK):Cx where
 prog:=P
 w:=w
 K:=K
 mg:=mg
 base:=base
 A:=A.deeper (envOfC qual scope s.heap.objs.size f cd)
 N:=N
 s₀:=s
 H₀:=H
 env:=envOfC qual scope s.heap.objs.size f cd
 outer:=outer
 stack:=envOfC qual scope s.heap.objs.size f cd::outer
 ex:=[]
 calm:=true
 fn:=λ_=>true
 pn:=[]
 xe:=λe s'=>wpAny (model P w) (A.deeper (envOfC qual scope s.heap.objs.size f cd)) (leaving (envOfC qual scope s.heap.objs.size f cd) e) (λ_ s''=>CX outer H s E e s'') (λe' s''=>CX outer H s E e' s'') s'
theorem GF{sc:Scope}{n:Nat}{x:Str}(h:sc.names.lookup x=some .cell):∃c,(cellsFrom n sc.names []).lookup x=some c:=by
 have q:=PySem.W.cellsFrom_some sc.names n [] (.inl h);exact Option.isSome_iff_exists.mp q
theorem MX{CX:CXT}{P:Program}{w:World}{K:PySem.W.Frag}{mg:Str->Option Value}{base:Heap}{N ps:List Str}{qual:Str}{scope:Scope}{f:Addr}{cd:Value}{A:Around}{outer:List Env}{s s1:Shared}{H:Hp}{E:XK}{us:List Value}{vs:List V}
  (S:a0 N ps scope) (hd:A.handled=none) (e0:JC P w K mg base A outer s H) (hl:vs.length=ps.length) (r:b0 vs us)
  (x:InCallC s s.heap.objs.size (bindL (envOfC qual scope s.heap.objs.size f cd).kindOf (ps.zip us) λ_=>none) (cellsFrom (s.heap.objs.size+1) scope.names []) (bindC (envOfC qual scope s.heap.objs.size f cd).kindOf (ps.zip us) λ_=>none) s1) :
  Inv (M6 CX P w K mg base N qual scope f cd A outer s H E) [] (start N vs) H s1:=by
 have hpl:ps.length<=N.length:=by have:=congrArg List.length S.pre;rw[Yw]at this;lia
 obtain⟨h1,tk,rfl,hk⟩:=x.done;have noA:∀b:Addr,b∉(M6 CX P w K mg base N qual scope f cd A outer s H E).ex:=λb z=>absurd (show b∈([]:List Addr) from z) (by simp);refine⟨⟨e0.mod,S.kind,rfl,rfl,Nat.le_refl _,λy z c h1 h2=>?_,λy hy=>?_,λy c _ h=>?_,λ_=>hd,Around.frames_deeper e0.frames,.inr ⟨rfl,rfl⟩,λb z=>absurd z (noA b),e0.bs,e0.bsz,λb _ _=>noA b,λb z=>absurd z (noA b),e0.funs,e0.frf⟩,
  rfl,e0.bare,Un.kept hk,⟨_,x.toInCall.ns,λi y v h1 h2 h3=>?_⟩,λy c h=>⟨_,x.cell y c h⟩,e0.hok.fresh (Nat.le_refl _),λy c h=>?_,λp hp=>absurd (show p∈([]:List (Addr×Obj)) from hp) (by simp),e0.hok.kept hk,?_⟩
 ·exact name_of_addr x.apart (PySem.mem_of_lookup h1) (PySem.mem_of_lookup h2)
 ·have hy:scope.names.lookup y=some .cell\/scope.names.lookup y=some .free:=hy;rcases hy with hy | hy
  ·exact GF hy
  ·exact absurd rfl (S.nofree _ (PySem.mem_of_lookup hy))
 ·exact Nat.le_of_lt (x.above y c (PySem.mem_of_lookup h))
 ·have hi:i<vs.length:=by
   unfold start at h2;by_cases hi:i<vs.length
   ·exact hi
   ·rw[Zy (by simpa using hi)]at h2;rw[List.getElem?_replicate]at h2;split at h2<;>cases h2
  have ha:vs[i]?=some v:=by
   unfold start at h2;rw[Zx (by simpa using hi),Zk]at h2;cases e:vs[i]? with
   |none=>rw[e]at h2;cases h2
   |some a=>rw[e]at h2;cases h2;rfl
  obtain⟨u,hu,rv⟩:=r.get ha;have hp:ps[i]?=some y:=by
   rw[<-S.pre,List.getElem?_take_of_lt (by lia)];exact h1
  have ndP:ps.Nodup:=by rw[<-S.pre];exact S.nd.sublist (List.take_sublist _ _)
  refine⟨u,rv,?_⟩;rcases S.par y (Zg hp) with k | k
  ·exact .inl ⟨k,B7 ndP hp hu k⟩
  ·obtain⟨c,e⟩:=GF (n:=s.heap.objs.size+1) k;refine .inr ⟨.inl k,c,e,?_⟩;have q:=x.cell y c e;rw[B9 ndP hp hu (by show scope.names.lookup y≠_;rw[k];decide)]at q;exact q
 ·exact e0.hok.fresh (Nat.le_of_lt (x.above y c (PySem.mem_of_lookup h)))
 ·unfold start;show _=N.length;rw[Zm,Zq,List.length_replicate]
  lia
theorem X5{CX:CXT}{P:Program}{w:World}{K:PySem.W.Frag}{mg:Str->Option Value}{base:Heap}{k:Nat}{f:Addr}{name qual:Str}{params:Arguments}{body:List Stmt}{scope:Scope}{dV kV doc pm cdv ct oc:Value}{an od:Option Addr}
  {osl:Array (Option Value)}{N ps:List Str}{sp:Sp}(lk:K.lookup f=some ⟨oc,od,.func (PySem.W.fnOf name qual params body scope dV kV doc pm an cdv ct),osl⟩) (hcd:PySem.W.codeIn K cdv qual=true) (S:a0 N ps scope)
  (len:∀vs H Q E,sp vs H Q E->vs.length=ps.length)
  (hbody:∀(A:Around) (outer:List Env) (s:Shared) (H:Hp) (vs:List V) (Q:VK) (E:XK),jC k (A.deeper (envOfC qual scope s.heap.objs.size f cdv))->sp vs H Q E ->
   ∃t,PSs (M6 CX P w K mg base N qual scope f cdv A outer s H E) body t/\t { nx:=λ_ H'=>Q .non H',rt:=Q } (start N vs) H) :
  bT P w K mg base CX (k+1) f (PySem.W.fnOf name qual params body scope dV kV doc pm an cdv ct) ps sp:=by
 refine⟨len,λA outer s H args us vs Q E hr e0 hb r hsp=>?_⟩;have hl:=len _ _ _ _ hsp;have KX:K.In s.heap:=e0.mod.kin.keeps λb o e=>(e0.bs b o e).1;have lim:s.heap.NoLimit:=e0.mod.nolimit.keeps λb o e=>(e0.bs b o e).1;have hkind:∀y∈ps.zip us,scope.names.lookup y.1=some .local\/(scope.names.lookup y.1=some .cell/\((cellsFrom (s.heap.objs.size+1) scope.names []).lookup y.1).isSome=true):=λ⟨n,v⟩ hy=>by
  rcases S.par n (List.of_mem_zip hy).1 with q | q
  ·exact .inl q
  ·exact .inr ⟨q,PySem.W.cellsFrom_some _ _ _ (.inl q)⟩
 refine codeAny_call_function hr.depth (KX _ _ lk) rfl S.co S.gen rfl (PySem.W.codeRec_of KX hcd) (hb _ _ _ _ ?_);refine wpAny_newFunctionEnv_cells S.kind hkind λenv he s1 x=>?_;subst he;refine⟨lim.keeps x.toInCall.keep,codeAny_func ?_⟩;obtain⟨t,ht,hq⟩:=hbody A outer s H vs Q E (hr.deeper _) hsp;have I:Inv (M6 CX P w K mg base N qual scope f cdv A outer s H E) [] (start N vs) H s1:=MX S hr.hd e0 hl r x;refine ZX (ht [] s1 (start N vs) H _ I hq) (λfl s' hs=>?_) λe s' hs=>hs;have fin:∀{σ':St}{H':Hp}{v:V}{u:Value},Inv (M6 CX P w K mg base N qual scope f cdv A outer s H E) [] σ' H' s'->RelV v u->Q v H'->CE outer P w H s Q u s' :=
  λ{σ' H' v u} J rv q=>⟨v,H',J.os,J.bare,J.base,J.hok,rv,q⟩
 cases fl with
 |ret u =>
  obtain⟨v,σ',H',J,rv,q⟩:=hs;exact fin J rv q
 |next =>
  obtain⟨σ',H',J,q⟩:=hs;exact fin (v:=V.non) (u:=Value.none) J rfl q
 |brk =>
  obtain⟨_,_,_,q⟩:=hs;exact False.elim q
 |cont =>
  obtain⟨_,_,_,q⟩:=hs;exact False.elim q
end L2
namespace L2
open PySem PySem.Spec PyProof.Rows
section
variable{X:Cx}{x:Str}{p pos:Pos}{e:Expr}{es:List Expr}{t:TA}{id T:String}{r:List V->Hp->VK->Prop}
def tCB(r:List V->Hp->VK->Prop)(t:TA):TE:=λσ H Q=>t σ H λvs H1=>r vs H1 Q
theorem a8(hc:kF X (.builtin id) r)(hg:Gl X x)(hm:X.mg x=none)(hv:bootBuiltins x=some (.builtin id))(ha:PA X (e::es) t)(hn:x≠"__name__":=by decide)(hdb:(x==("__debug__" : Str))=false:=by decide)
  (he:starEach (e::es) X.env=(false,eval e X.env)::starEach es X.env:=by rfl) (hpl:(backTo pos (starEach es X.env)).any (·.1)=false:=by rfl):PE X (.Call (.Name x p) (e::es) [] pos) (tCB r t):=by
 intro pins s σ H Q I h;refine wpAny_Call_Name_kw (rJ I hg hm hv ?_ hn hdb);exact PyProof.Rows.callWith_builtin1 (thn (ha pos pins s σ H _ I h) λus s1 ⟨vs,H1,I1,r1,q1⟩=>hc pins s1 σ H1 vs us Q I1 r1 q1) he hpl
theorem gN(hc:kF X (.type T) r)(hg:Gl X x)(hm:X.mg x=none)(hv:bootBuiltins x=some (.type T))(ha:PA X (e::es) t)(hn:x≠"__name__":=by decide)(hdb:(x==("__debug__" : Str))=false:=by decide)
  (he:starEach (e::es) X.env=(false,eval e X.env)::starEach es X.env:=by rfl) (hpl:(backTo pos (starEach es X.env)).any (·.1)=false:=by rfl):PE X (.Call (.Name x p) (e::es) [] pos) (tCB r t):=by
 intro pins s σ H Q I h;refine wpAny_Call_Name_kw (rJ I hg hm hv ?_ hn hdb);exact PyProof.Rows.callWith_type1 (thn (ha pos pins s σ H _ I h) λus s1 ⟨vs,H1,I1,r1,q1⟩=>hc pins s1 σ H1 vs us Q I1 r1 q1) he hpl
end
end L2
namespace HT
open PySem PyProof.Rows
section
open PySem.SeqAt
open PySem.AutoSeq1 (wpAny_loadPart')
open PySem.MeetsSeq PySem.MeetsSeq2 PySem.MeetsSeq3
end
section
variable{prog:Program}{w:World}{A:Around}{E:Value->Shared->Prop}{s:Shared}
def sIx(n d:Nat):Option Int->Nat
 |none=>d
 |some v=>if v<0 then (v+(n:Int)).toNat else min v.toNat n
theorem sH(n d:Nat):sIx n d none=d:=rfl
theorem wN(n d k:Nat):sIx n d (some (k:Int))=min k n:=by
 show(if (k:Int)<0 then ((k:Int)+(n:Int)).toNat else min (k:Int).toNat n)=min k n;rw[if_neg (by lia),Int.toNat_natCast]
end
end HT
namespace L2
open PySem PySem.Spec PyProof.Rows
abbrev TO:=St->Hp->(Option Int->Hp->Prop)->Prop
def PO(X:Cx)(e:Option Expr)(t:TO):Prop :=
 ∀(pins:List (Addr×Obj)) (s:Shared) (σ:St) (H:Hp) (Q:Option Int->Hp->Prop),Inv X pins σ H s->t σ H Q ->
  wpAny (model X.prog X.w) X.A (evalPart e X.env) (λu s'=>∃o H',Inv X pins σ H' s'/\IsPart u o/\Q o H') X.xe s
def RJ:TO:=λ_ H Q=>Q none H
def WU(t:TE):TO:=λσ H Q=>t σ H λx H1=>∃i,x=.int i/\Q (some i) H1
theorem intsAre_of{ns:List Int}:∀{us:List Value},b0 (ns.map V.int) us->IntsAre us ns:=by
 induction ns with
 |nil=>intro us r;rw[List.map_nil]at r;cases r;exact .nil
 |cons n ns ih =>
  intro us r;rw[List.map_cons]at r;cases r with
  |cons r1 r2 =>
   obtain⟨t,e⟩:=r1;subst e;exact .cons n t (ih r2)
section
variable{X:Cx}{e:Expr}{te:TE}{lo hi:Option Expr}{tl th:TO}{pos p2:Pos}
theorem kO:PO X none RJ:=by
 intro pins s σ H Q I h;rw[evalPart_none];exact ZY ⟨none,H,I,.none,h⟩
theorem mO(h:PE X e te):PO X (some e) (WU te):=by
 intro pins s σ H Q I hw;rw[evalPart_some];refine thn (h pins s σ H _ I hw) λu s1 ⟨x,H1,I1,r1,q1⟩=>?_;obtain⟨i,rfl,q⟩:=q1;obtain⟨t,rfl⟩:=r1;exact⟨some i,H1,I1,.int i t,q⟩
def SlR(X:Cx)(r:V->Option Int->Option Int->Hp->VK->Prop):Prop :=
 ∀(pins:List (Addr×Obj)) (s:Shared) (σ:St) (H:Hp) (x:V) (v vl vu:Value) (lo hi:Option Int) (sl:Addr) (Q:VK),Inv X pins σ H s->RelV x v->s.heap.IsSliceOf sl vl vu .none->IsPart vl lo->IsPart vu hi->r x lo hi H Q ->
  ∃T id,typeLookup (.type T) "__getitem__" = pure (some (.builtin id))/\s.TypeIs v T/\wpAny (model X.prog X.w) X.A (getItem v (.ref sl)) (EP X pins σ Q) X.xe s
def tSl(r:V->Option Int->Option Int->Hp->VK->Prop)(te:TE)(tl th:TO):TE:=λσ H Q=>te σ H λx H1=>tl σ H1 λl H2=>th σ H2 λu H3=>r x l u H3 Q
theorem lI{r:V->Option Int->Option Int->Hp->VK->Prop}(hr:SlR X r)(he:PE X e te)(hl:PO X lo tl)(hu:PO X hi th):PE X (.Subscript e (.Slice lo hi none p2) pos) (tSl r te tl th):=by
 intro pins s σ H Q I h;refine Subscript_ (thn (he pins s σ H _ I h) λv s1 ⟨x,H1,I1,r1,q1⟩=>?_);refine wpAny_Slice (thn (hl pins s1 σ H1 _ I1 q1) λvl s2 ⟨l,H2,I2,pl,q2⟩=>thn (hu pins s2 σ H2 _ I2 q2) λvu s3 ⟨u,H3,I3,pu,q3⟩=>?_);rw[evalPart_none];refine ZY ?_;have I4:Inv X pins σ H3 { s3 with heap:=s3.heap.push { cls:=.type "slice",data:=.fields #[vl,vu,.none] } }:=I3.kept (t':=s3.toks) λb ob q=>Heap.get?_push_of_some _ q;obtain⟨T,id,hT,ht,hg⟩:=hr pins { s3 with heap:=s3.heap.push { cls:=.type "slice",data:=.fields #[vl,vu,.none] } } σ H3 x v vl vu l u s3.heap.objs.size Q I4 r1 (Heap.IsSliceOf.new ..) pl pu q3;show wpAny (model X.prog X.w) X.A (subscriptTail e (.Slice lo hi none p2) v (.ref s3.heap.objs.size)) (EP X pins σ Q) X.xe { s3 with heap:=s3.heap.push { cls:=.type "slice",data:=.fields #[vl,vu,.none] } };exact tail_any (ops:=[.ref s3.heap.objs.size,v]) ht hT hg (by with_unfolding_all rfl)
def tK(xs:List V)(lo hi:Option Int):List V:=(xs.drop (HT.sIx xs.length 0 lo)).take (HT.sIx xs.length xs.length hi-HT.sIx xs.length 0 lo)
theorem F9(xs:List V)(lo hi:Option Int):(tK xs lo hi).length<=xs.length:=by
 unfold tK;rw[Yw,Yf]
 lia
end
end L2
namespace L2
open PySem PySem.Spec PyProof.Rows
def ixN(n:Nat)(i:Int):Option Nat:=if 0<=i then (if i<n then some i.toNat else none) else if -(n:Int)<=i then some (i+n).toNat else none
def atI{α:Type}(xs:List α)(i:Int):Option α:=(ixN xs.length i).bind λj=>xs[j]?
theorem KG{n:Nat}{i:Int}{j:Nat}(h:ixN n i=some j):seqIndex? i n=some j/\j<n/\-(n:Int)<=i/\i<n:=by
 unfold ixN at h;by_cases h0:0<=i
 ·rw[if_pos h0]at h;by_cases h1:i<n
  ·rw[if_pos h1]at h;have e:i.toNat=j:=Option.some.inj h;exact⟨by rw[seqIndex_of h0 h1,e],by lia,by lia,h1⟩
  ·rw[if_neg h1]at h;cases h
 ·rw[if_neg h0]at h;by_cases h1 : -(n:Int)<=i
  ·rw[if_pos h1]at h;have e:(i+n).toNat=j:=Option.some.inj h;exact⟨by rw[seqIndex_neg (by lia) h1,e],by lia,h1,by lia⟩
  ·rw[if_neg h1]at h;cases h
theorem xD{α:Type}{xs:List α}{i:Int}{v:α}(h:atI xs i=some v):∃j,seqIndex? i xs.length=some j/\xs[j]?=some v/\j<xs.length/\-(xs.length:Int)<=i/\i<xs.length:=by
 unfold atI at h;cases e:ixN xs.length i with
 |none=>rw[e]at h;cases h
 |some j =>
  rw[e]at h;obtain⟨h1,h2,h3,h4⟩:=KG e;exact⟨j,h1,h,h2,h3,h4⟩
theorem dX{α:Type}{xs:List α}{j:Nat}{v:α}(h:xs[j]?=some v):atI xs (j:Int)=some v:=by
 have hj:j<xs.length:=(Zj.mp h).1;have e:ixN xs.length (j:Int)=some j:=by
  unfold ixN;rw[if_pos (by lia),if_pos (by lia)];simp
 unfold atI;rw[e];exact h
def T3(b:Expr):Prop:=∀o i,subscripted b false o i=operate [o,i] (getItem o i)
def IxR(X:Cx)(r:R2):Prop :=
 ∀(value slice:Expr) (pins:List (Addr×Obj)) (s:Shared) (σ:St) (H:Hp) (x y:V) (v u:Value) (Q:VK),Inv X pins σ H s->RelV x v->RelV y u->r x y H Q ->
  subscripted slice false v u=operate [v,u] (getItem v u)->wpAny (model X.prog X.w) X.A (subscriptTail value slice v u) (EP X pins σ Q) X.xe s
def MtR(X:Cx)(id:String)(r:V->List V->Hp->VK->Prop):Prop :=
 ∀(pins:List (Addr×Obj)) (s:Shared) (σ:St) (H:Hp) (x:V) (xs:List V) (v:Value) (us:List Value) (Q:VK),Inv X pins σ H s->RelV x v->b0 xs us->r x xs H Q ->
  wpAny (model X.prog X.w) X.A (call (.builtin id) (v::us)) (EP X pins σ Q) X.xe s
section
variable{X:Cx}{a b:Expr}{ta tb:TE}{pos:Pos}
theorem IxR.or{r r':R2}(h:IxR X r)(h':IxR X r'):IxR X (λx y H Q=>r x y H Q\/r' x y H Q):=by
 intro value slice pins s σ H x y v u Q I rx ry q hs;rcases q with q | q
 ·exact h value slice pins s σ H x y v u Q I rx ry q hs
 ·exact h' value slice pins s σ H x y v u Q I rx ry q hs
theorem aN{r:R2}(hr:IxR X r)(ha:PE X a ta)(hb:PE X b tb)(hs:T3 b):PE X (.Subscript a b pos) (tOp r ta tb):=by
 intro pins s σ H Q I h;exact Subscript_ (WC ha hb I h λv u s2 x y H2 I2 rx ry q=>hr a b pins s2 σ H2 x y v u Q I2 rx ry q (hs _ _))
def VC(K:PySem.W.Frag):R2:=λx y H Q=>∃p xs i v,x=.ref p/\y=.int i/\SqL K H p xs/\atI xs i=some v/\Q v H
def VB(K:PySem.W.Frag):R2:=λx y H Q=>∃p xs i v,x=.ref p/\y=.int i/\SqT K H p xs/\atI xs i=some v/\Q v H
def XF:R2:=λx y H Q=>∃z i c,x=.str z/\y=.int i/\z.length<=ZW/\atI z.cps.toList i=some c/\Q (.str ⟨#[c]⟩) H
theorem aQ:IxR X (VC X.K):=by
 intro value slice pins s σ H x y v u Q I rx ry h hs;obtain⟨p,xs,i,z,rfl,rfl,hq,he,q⟩:=h;cases rx;obtain⟨t,rfl⟩:=ry;obtain⟨its,r,pl,hz⟩:=I.list hq;obtain⟨j,h1,h2,h3,h4,h5⟩:=xD he;obtain⟨w,ew,rw'⟩:=r.get h2;have hl:=r.length;have hn:=mV;have fin:EP X pins σ Q w s:=⟨z,H,I,rw',q⟩
 by_cases h0:0<=i
 ·have hj:i.toNat=j:=by
   rw[seqIndex_of h0 h5]at h1;exact Option.some.inj h1
  exact item_listR pl.isList h0 (by lia) (by rw[hj];simpa using ew) fin hs
 ·have hj:(i+(its.toArray.size:Int)).toNat=j:=by
   rw[seqIndex_neg (by lia) h4]at h1;rw[List.size_toArray,<-hl];exact Option.some.inj h1
  exact subscriptTail_builtinR (x:=w) pl.isList.typeIs slot_list_getitem.lookup
   (wpAny_getItem_list_neg (Q:=λr s'=>r=w/\EP X pins σ Q r s') pl.isList (by lia) (by rw[List.size_toArray]<;>lia) (by lia) (by rw[hj];simpa using ew) ⟨rfl,fin⟩) hs
theorem aP:IxR X (VB X.K):=by
 intro value slice pins s σ H x y v u Q I rx ry h hs;obtain⟨p,xs,i,z,rfl,rfl,hq,he,q⟩:=h;cases rx;obtain⟨t,rfl⟩:=ry;obtain⟨its,r,pl,hz⟩:=I.tuple hq;obtain⟨j,h1,h2,h3,h4,h5⟩:=xD he;obtain⟨w,ew,rw'⟩:=r.get h2;have hl:=r.length;have hn:=mV;have fin:EP X pins σ Q w s:=⟨z,H,I,rw',q⟩
 exact subscriptTail_builtinR (x:=w) pl.typeIs slot_tuple_getitem.lookup
  (getItem_tuple (j:=j) (Q:=λr s'=>r=w/\EP X pins σ Q r s') pl (by lia) (by lia) (by rw[List.size_toArray,<-hl];exact h1) (by simpa using ew) ⟨rfl,fin⟩) hs
theorem V6:IxR X XF:=by
 intro value slice pins s σ H x y v u Q I rx ry h hs;obtain⟨z,i,c,rfl,rfl,hz,he,q⟩:=h;obtain⟨t,rfl⟩:=rx;obtain⟨t',rfl⟩:=ry;obtain⟨j,h1,h2,h3,h4,h5⟩:=xD he;have hl:z.cps.toList.length=z.length:=by simp[Str.length]
 rw[hl]at h1 h4 h5;have hn:=mV;exact tail_any (typeIs_str s z t) slot_str_getitem.lookup (getItem_str (c:=c) (by
  have e1:decide (i < -(2 ^ 63:Int))=false:=decide_eq_false (by lia);have e2:decide (i>=2 ^ 63)=false:=decide_eq_false (by lia);rw[e1,e2,Bool.or_false]) (by rw[h1];simpa using h2) ⟨.str ⟨#[c]⟩,H,I.tok _,⟨_,rfl⟩,q⟩) hs
def rIx(K:PySem.W.Frag):R2:=λx y H Q=>VC K x y H Q\/VB K x y H Q\/XF x y H Q
theorem rL:IxR X (rIx X.K):=aQ.or (aP.or V6)
theorem IB(its:List Value)(n j:Nat)(u:Value):Obj.mapSeq (·.setIfInBounds j u) { cls:=.type "list",data:=.seq its.toArray n }={ cls:=.type "list",data:=.seq (its.set j u).toArray n }:=by
 simp[Obj.mapSeq]
theorem Inv.lst{pins:List (Addr×Obj)}{σ:St}{H:Hp}{s:Shared}{p:Addr}{xs:List V}(I:Inv X pins σ H s)(h:H p=some (.lst xs)) :
  ∃(its:List Value) (n:Nat),b0 xs its/\s.heap.get? p=some { cls:=.type "list",data:=.seq its.toArray n }/\xs.length<=ZW:=by
 obtain⟨z,its,n,r,e⟩:=I.hok p _ h;exact⟨its,n,r,e,z⟩
theorem Inv.lstUpd{pins:List (Addr×Obj)}{σ:St}{H:Hp}{s:Shared}{p:Addr}{xs ys:List V}{its its':List Value}{n n':Nat}{f:Obj->Obj}(I:Inv X pins σ H s)(h:H p=some (.lst xs))
  (ho:s.heap.get? p=some { cls:=.type "list",data:=.seq its.toArray n }) (hf:f { cls:=.type "list",data:=.seq its.toArray n }={ cls:=.type "list",data:=.seq its'.toArray n' }) (r:b0 ys its') (hz:ys.length<=ZW) (t:Nat) :
  Inv X pins σ (upd H p (.lst ys)) { s with heap:=s.heap.update p f,toks:=t }:=by
 have e:(s.heap.update p f).get? p=some { cls:=.type "list",data:=.seq its'.toArray n' }:=by
  rw[Heap.get?_update_self f ho (by rw[hf]<;>rfl),hf]
 refine I.write (x:=p) (e:=p) (by rw[h];trivial) (.inl rfl) (λb u hb q=>(Heap.get?_update_other _ _ (Ne.symm hb)).trans q) ⟨_,e⟩ ?_;exact⟨hz,its',n',r,e⟩
def XE:V->V->V->Hp->(Hp->Prop)->Prop:=λo i v H Q=>∃p xs k j,o=.ref p/\i=.int k/\H p=some (.lst xs)/\ixN xs.length k=some j/\Q (upd H p (.lst (xs.set j v)))
theorem set_list:WG X XE:=by
 intro pins s σ H o i v ov iv u Q I ro ri rv h;obtain⟨p,xs,k,j,rfl,rfl,hp,hj,q⟩:=h;cases ro;obtain⟨t,rfl⟩:=ri;obtain⟨its,n,r,ho,hz⟩:=I.lst hp;obtain⟨h1,h2,h3,h4⟩:=KG hj;have hl:=r.length;have hn:=mV;have I':Inv X pins σ (upd H p (.lst (xs.set j v))) { s with heap:=s.heap.update p (Obj.mapSeq (·.setIfInBounds j u)) } :=
  I.lstUpd hp ho (IB its n j u) (r.set rv j) (by rw[List.length_set];exact hz) s.toks
 by_cases h0:0<=k
 ·have hk:k.toNat=j:=by
   rw[seqIndex_of h0 h4]at h1;exact Option.some.inj h1
  exact PySem.W.ki_setAt ho h0 (by lia) (by rw[List.size_toArray,<-hl];exact h4) (by rw[hk];exact⟨_,I',q⟩)
 ·have hk:(k+(its.toArray.size:Int)).toNat=j:=by
   rw[seqIndex_neg (by lia) h3]at h1;rw[List.size_toArray,<-hl];exact Option.some.inj h1
  exact PySem.W.ki_setBack ho (by lia) (by rw[List.size_toArray,<-hl];exact h3) (by lia) (by rw[hk];exact⟨_,I',q⟩)
theorem CW(lo hi:Option Int)(n:Nat):(sliceBounds lo hi none n).1=((HT.sIx n 0 lo:Nat):Int)/\(sliceBounds lo hi none n).2.1=((HT.sIx n n hi:Nat):Int)/\(sliceBounds lo hi none n).2.2=1:=by
 refine⟨?_,?_,rfl⟩
 ·cases lo with
  |none=>simp[sliceBounds,HT.sIx]
  |some i =>
   simp only[sliceBounds,HT.sIx,Option.getD_none,show(1:Int)>0 by decide,if_true];by_cases h:i<0
   ·simp only[h,if_true]<;>lia
   ·simp only[h,if_false]<;>lia
 ·cases hi with
  |none=>simp[sliceBounds,HT.sIx]
  |some i =>
   simp only[sliceBounds,HT.sIx,Option.getD_none,show(1:Int)>0 by decide,if_true];by_cases h:i<0
   ·simp only[h,if_true]<;>lia
   ·simp only[h,if_false]<;>lia
theorem AL(its:List Value)(lo hi:Option Int):slicePick its.toArray lo hi none=((its.drop (HT.sIx its.length 0 lo)).take (HT.sIx its.length its.length hi-HT.sIx its.length 0 lo)).toArray:=by
 obtain⟨h1,h2,h3⟩:=CW lo hi its.toArray.size;unfold slicePick;rw[h1,h2,h3];simp only[sliceRange_one,pick_run,List.size_toArray]<;>rfl
def Y0(K:PySem.W.Frag):V->Option Int->Option Int->Hp->VK->Prop:=λx lo hi H Q=>∃a xs,x=.ref a/\SqL K H a xs/\∀p,H p=none->Q (.ref p) (upd H p (.lst (tK xs lo hi)))
theorem pP:SlR X (Y0 X.K):=by
 intro pins s σ H x v vl vu lo hi sl Q I rx hs pl pu h;obtain⟨a,xs,rfl,hx,q⟩:=h;cases rx;obtain⟨its,r,ht,hz⟩:=I.list hx;have hlen:=r.length;refine⟨"list",_,slot_list_getitem.lookup,ht.isList.typeIs,?_⟩;refine wpAny_getItem_list_slice ht.isList hs pl pu .none (by simp) ?_ (by rw[List.size_toArray]<;>lia);rw[AL,<-hlen];refine⟨.ref s.heap.objs.size,_,I.laid (t':=s.toks) (o:=.lst (tK xs lo hi)) (λb ob q=>Heap.get?_push_of_some _ q) (Nat.le_refl _) ?_,rfl,q _ (I.hok.fresh (Nat.le_refl _))⟩;exact⟨Yr (F9 xs lo hi) hz,_,0,(r.drop (HT.sIx xs.length 0 lo)).take (HT.sIx xs.length xs.length hi-HT.sIx xs.length 0 lo),Heap.get?_push_size _ rfl⟩
def qB:V->Bool
 |.non=>true
 |.bl _=>true
 |.int _=>true
 |.str _=>true
 |_=>false
def eqV:V->V->Bool
 |.non,.non=>true
 |.bl a,.bl b=>a==b
 |.bl a,.int b=>(if a then 1 else 0)==b
 |.int a,.bl b=>a==(if b then 1 else 0)
 |.int a,.int b=>a==b
 |.str a,.str b=>a==b
 |_,_=>false
theorem WA{A:Around}{s:Shared}{y x:V}{u v:Value}(ry:RelV y u)(rx:RelV x v)(fy:qB y=true)(fx:qB x=true):SeqAt.EqAt A s u v (eqV y x):=by
 cases y with
 |non =>
  cases ry;cases x with
  |non=>cases rx;exact SeqAt.EqAt.same _
  |bl b=>cases rx;exact SeqAt.EqAt.none_bool b
  |int b=>obtain⟨t,rfl⟩:=rx;exact SeqAt.EqAt.none_int b t
  |str b=>obtain⟨t,rfl⟩:=rx;exact SeqAt.EqAt.none_str b t
  |_=>exact absurd (show false=true from fx) Bool.false_ne_true
 |bl a =>
  cases ry;cases x with
  |non=>cases rx;exact SeqAt.EqAt.bool_none a
  |bl b=>cases rx;exact SeqAt.EqAt.bool_bool a b
  |int b=>obtain⟨t,rfl⟩:=rx;exact SeqAt.EqAt.bool_int a b t
  |str b=>obtain⟨t,rfl⟩:=rx;exact SeqAt.EqAt.bool_str a b t
  |_=>exact absurd (show false=true from fx) Bool.false_ne_true
 |int a =>
  obtain⟨t',rfl⟩:=ry;cases x with
  |non=>cases rx;exact SeqAt.EqAt.int_none a t'
  |bl b=>cases rx;exact SeqAt.EqAt.int_bool a t' b
  |int b=>obtain⟨t,rfl⟩:=rx;exact SeqAt.EqAt.int_int a t' b t
  |str b=>obtain⟨t,rfl⟩:=rx;exact SeqAt.EqAt.int_str a t' b t
  |_=>exact absurd (show false=true from fx) Bool.false_ne_true
 |str a =>
  obtain⟨t',rfl⟩:=ry;cases x with
  |non=>cases rx;exact SeqAt.EqAt.str_none a t'
  |bl b=>cases rx;exact SeqAt.EqAt.str_bool a t' b
  |int b=>obtain⟨t,rfl⟩:=rx;exact SeqAt.EqAt.str_int a t' b t
  |str b=>obtain⟨t,rfl⟩:=rx;exact SeqAt.EqAt.str_str a t' b t
  |_=>exact absurd (show false=true from fx) Bool.false_ne_true
 |_=>exact absurd (show false=true from fy) Bool.false_ne_true
def eqU(x:V)(u:Value):Bool:=match u with
 |.none=>eqV .non x
 |.bool b=>eqV (.bl b) x
 |.int i _=>eqV (.int i) x
 |.str z _=>eqV (.str z) x
 |_=>false
theorem IS{x y:V}{u:Value}(r:RelV y u)(f:qB y=true):eqU x u=eqV y x:=by
 cases y with
 |non=>cases r;rfl
 |bl b=>cases r;rfl
 |int i=>obtain⟨t,rfl⟩:=r;rfl
 |str z=>obtain⟨t,rfl⟩:=r;rfl
 |_=>exact absurd (show false=true from f) Bool.false_ne_true
theorem tM{x:V}:∀{xs:List V}{us:List Value},b0 xs us->xs.all qB=true->us.any (eqU x)=xs.any λy=>eqV y x
 |_,_,.nil,_=>rfl
 |y::xs,u::us,.cons r t,f=>by
  rw[List.all_cons,Xw]at f;rw[List.any_cons,List.any_cons,IS r f.1,tM t f.2]
theorem lM{A:Around}{s:Shared}{x:V}{v:Value}(rx:RelV x v)(fx:qB x=true):∀{xs:List V}{us:List Value},b0 xs us->xs.all qB=true->∀u∈us,SeqAt.EqAt A s u v (eqU x u)
 |_,_,.nil,_=>λu hu=>by cases hu
 |y::xs,u::us,.cons r t,f=>λu' hu=>by
  rw[List.all_cons,Xw]at f;rcases Zn.mp hu with rfl | hu
  ·rw[IS r f.1];exact WA r rx f.1 fx
  ·exact lM rx fx t f.2 u' hu
def inV(x:V)(xs:List V):Bool:=xs.any λy=>eqV y x
def rIn(K:PySem.W.Frag)(neg:Bool):R2:=λx y H Q=>∃p xs,y=.ref p/\(SqL K H p xs\/SqT K H p xs)/\qB x=true/\xs.all qB=true/\Q (.bl (if neg then !inV x xs else inV x xs)) H
theorem ME:OpR X (compareOp .In) (rIn X.K false):=by
 intro pins s σ H x y v u Q I rx ry h;obtain⟨p,xs,rfl,hq,fx,fs,q⟩:=h;cases ry;rcases hq with hq | hq
 ·obtain⟨its,r,pl,hz⟩:=I.list hq;refine SeqAt.in_listAt (eqU x) pl.isList (λw hw=>lM rx fx r fs w (by simpa using hw)) ⟨.bl _,H,I,rfl,?_⟩;rw[show its.toArray.any (eqU x)=its.any (eqU x) by simp,tM r fs];exact q
 ·obtain⟨its,r,pl,hz⟩:=I.tuple hq;refine SeqAt.in_tupleAt (eqU x) pl (λw hw=>lM rx fx r fs w (by simpa using hw)) ⟨.bl _,H,I,rfl,?_⟩;rw[show its.toArray.any (eqU x)=its.any (eqU x) by simp,tM r fs];exact q
theorem C8:OpR X (compareOp .NotIn) (rIn X.K true):=by
 intro pins s σ H x y v u Q I rx ry h;obtain⟨p,xs,rfl,hq,fx,fs,q⟩:=h;cases ry;rcases hq with hq | hq
 ·obtain⟨its,r,pl,hz⟩:=I.list hq;refine SeqAt.notIn_listAt (eqU x) pl.isList (λw hw=>lM rx fx r fs w (by simpa using hw)) ⟨.bl _,H,I,rfl,?_⟩;rw[show its.toArray.any (eqU x)=its.any (eqU x) by simp,tM r fs];exact q
 ·obtain⟨its,r,pl,hz⟩:=I.tuple hq;refine SeqAt.notIn_tupleAt (eqU x) pl (λw hw=>lM rx fx r fs w (by simpa using hw)) ⟨.bl _,H,I,rfl,?_⟩;rw[show its.toArray.any (eqU x)=its.any (eqU x) by simp,tM r fs];exact q
theorem aU:kF X (.builtin "len") (λxs H Q=>∃p ys,xs=[.ref p]/\(SqL X.K H p ys\/SqT X.K H p ys)/\Q (.int ys.length) H):=by
 intro pins s σ H xs us Q I r h;obtain⟨p,ys,rfl,hq,q⟩:=h;obtain⟨u,rfl,rx⟩:=vals1 r;cases rx;have hn:=mV;rcases hq with hq | hq
 ·obtain⟨its,r',pl,hz⟩:=I.list hq;have hlen:=r'.length;exact Calls.call_len_list pl.isList (by simp only[List.size_toArray]<;>lia) ⟨.int ys.length,H,I.tok _,⟨s.toks+1,by rw[List.size_toArray,hlen]⟩,q⟩
 ·obtain⟨its,r',pl,hz⟩:=I.tuple hq;have hlen:=r'.length;exact len_tuple pl (by simp only[List.size_toArray]<;>lia) ⟨.int ys.length,H,I.tok _,⟨s.toks+1,by rw[List.size_toArray,hlen]⟩,q⟩
theorem m7:kF X (.type "list") (λxs H Q=>∃p ys,xs=[.ref p]/\(SqL X.K H p ys\/SqT X.K H p ys)/\∀l,H l=none->Q (.ref l) (upd H l (.lst ys))):=by
 intro pins s σ H xs us Q I r h;obtain⟨p,ys,rfl,hq,q⟩:=h;obtain⟨u,rfl,rx⟩:=vals1 r;cases rx;have fin:∀(its:List Value),b0 ys its->ys.length<=ZW->∀(h':Heap) (c':Nat),(∀b o',s.heap.get? b=some o'->h'.get? b=some o') ->
   h'.get? s.heap.objs.size=some { cls:=.type "list",dict:=none,data:=.seq its.toArray c',slots:=#[] }->EP X pins σ Q (.ref s.heap.objs.size) { s with heap:=h' }:=λits r' hz h' c' kp e =>
  ⟨.ref s.heap.objs.size,_,I.laid (t':=s.toks) kp (Nat.le_refl _) (show eO X.prog X.w _ h' _ (.lst ys) from⟨hz,its,c',r',e⟩),rfl,q _ (I.hok.fresh (Nat.le_refl _))⟩
 rcases hq with hq | hq
 ·obtain⟨its,r',pl,hz⟩:=I.list hq;have hlen:=r'.length;obtain⟨o,ho,hc,n,hd⟩:=pl.isList;exact call_list_seq p (.inl rfl) ho hc hd (λh' c' kp e=>fin its r' hz h' c' kp e) (by simp only[List.size_toArray]<;>lia)
 ·obtain⟨its,r',pl,hz⟩:=I.tuple hq;have hlen:=r'.length;obtain⟨o,ho,hc,n,hd⟩:=pl;exact call_list_seq p (.inr rfl) ho hc hd (λh' c' kp e=>fin its r' hz h' c' kp e) (by simp only[List.size_toArray]<;>lia)
def tyV(K:PySem.W.Frag)(T:String)(x:V)(H:Hp):Prop:=match x with
 |.str _=>T="str"
 |.int _=>T="int"
 |.ref p=>(T="list"/\∃xs,SqL K H p xs)\/(T="tuple"/\∃o,K.lookup p=some o/\o.cls=.type "tuple"/\o.dict=none) \/
   (T="dict"/\((∃kvs,H p=some (.dK kvs))\/∃kvs,H p=some (.dT kvs)))\/(T="set"/\∃S n,H p=some (.set S n))
 |_=>False
theorem G2{pins:List (Addr×Obj)}{σ:St}{H:Hp}{s:Shared}{T:String}{x:V}{v:Value}(I:Inv X pins σ H s)(r:RelV x v)(ty:tyV X.K T x H) :
  s.TypeIs v T/\∀a,v=.ref a->∃ob,s.heap.get? a=some ob/\ob.dict=none:=by
 cases x with
 |str z =>
  obtain⟨t,rfl⟩:=r;cases (show T="str" from ty);exact⟨typeIs_str s z t,λ_ e=>nomatch e⟩
 |int i =>
  obtain⟨t,rfl⟩:=r;cases (show T="int" from ty);exact⟨typeIs_int s i t,λ_ e=>nomatch e⟩
 |ref p =>
  cases r;rcases ty with⟨rfl,xs,hq⟩ | ⟨rfl,o,hk,hc,hd⟩ | ⟨rfl,hk⟩ | ⟨rfl,S,n,hk⟩
  ·obtain⟨its,_,pl,_⟩:=I.list hq;refine⟨pl.isList.typeIs,λa e=>?_⟩;cases e;obtain⟨o,n,e,c,hd,_⟩:=pl;exact⟨o,e,hd⟩
  ·refine⟨⟨o,I.kIn p o hk,hc⟩,λa e=>?_⟩;cases e;exact⟨o,I.kIn _ o hk,hd⟩
  ·have z:∃o,s.heap.get? p=some o/\o.ExactDict:=by
    rcases hk with⟨kvs,hk⟩ | ⟨kvs,hk⟩
    ·obtain⟨_,_,_,_,o,_,_,e,ex,_⟩:=I.hok p _ hk;exact⟨o,e,ex⟩
    ·obtain⟨_,_,_,_,o,_,_,e,ex,_⟩:=I.hok p _ hk;exact⟨o,e,ex⟩
   obtain⟨o,e,ex⟩:=z;refine⟨⟨o,e,ex.1⟩,λa e2=>?_⟩;cases e2;exact⟨o,e,ex.2.1⟩
  ·obtain⟨o,_,_,_,e,ex,_⟩:=I.hok p _ hk;refine⟨⟨o,e,ex.1⟩,λa e2=>?_⟩;cases e2;exact⟨o,e,ex.2.1⟩
 |_=>exact False.elim ty
def YV(K:PySem.W.Frag)(T:String)(r:V->List V->Hp->VK->Prop)(to:TE):TE:=λσ H Q=>to σ H λx H1=>tyV K T x H1/\r x [] H1 Q
def tBM(K:PySem.W.Frag)(T:String)(r:V->List V->Hp->VK->Prop)(to:TE)(t:TA):TE:=λσ H Q=>to σ H λx H1=>tyV K T x H1/\t σ H1 λxs H2=>r x xs H2 Q
variable{o e:Expr}{es:List Expr}{to:TE}{t:TA}{name:Str}{apos cpos:Pos}{T id:String}{r:V->List V->Hp->VK->Prop}
theorem OZ(pa:PlainAttrs T)(slot:Slot T name id)(hty:typeOf (.builtin id)=pure (.type "method_descriptor"))(hm:MtR X id r)(ho:PE X o to)
  (hbase:attributeBase o name X.env (eval o X.env)=eval o X.env:=by rfl) (hline:(apos.endLine==cpos.line)=true:=by rfl):PE X (.Call (.Attribute o name apos) [] [] cpos) (YV X.K T r to):=by
 intro pins s σ H Q I h;refine wpAny_Call_method0_late hbase hline (thn (ho pins s σ H _ I h) λv s1 ⟨x,H1,I1,r1,ty,q1⟩=>?_);obtain⟨h1,h2⟩:=G2 I1 r1 ty;exact⟨T,id,pa,slot,hty,h1,h2,Calls.callWith_builtin rfl (PySem.evalArgs_none (hm pins s1 σ H1 x [] v [] Q I1 r1 .nil q1))⟩
theorem oI(pa:PlainAttrs T)(slot:Slot T name id)(hty:typeOf (.builtin id)=pure (.type "method_descriptor"))(hm:MtR X id r)(ho:PE X o to)(ha:PA X (e::es) t)
  (hbase:attributeBase o name X.env (eval o X.env)=eval o X.env:=by rfl)
  (hfew:((backTo cpos (starEach (e::es) X.env)).all (λx=>!x.1)&&(backToKw cpos (keywordEach [] X.env)).all (λx=>x.1.isSome)
   && decide ((e::es).length+([]:List Keyword).length+(if ([]:List Keyword).isEmpty then 0 else 1)<30))=true:=by rfl)
  (hline:(apos.endLine==cpos.line)=true:=by rfl) (hs:starEach (e::es) X.env=(false,eval e X.env)::starEach es X.env:=by rfl) (hplain:(backTo cpos (starEach es X.env)).any (·.1)=false:=by rfl) :
  PE X (.Call (.Attribute o name apos) (e::es) [] cpos) (tBM X.K T r to t):=by
 intro pins s σ H Q I h;refine wpAny_Call_method_late hbase hfew hline rfl (thn (ho pins s σ H _ I h) λv s1 ⟨x,H1,I1,r1,ty,q1⟩=>?_);obtain⟨h1,h2⟩:=G2 I1 r1 ty;refine⟨T,id,pa,slot,hty,h1,h2,?_⟩;have hA:=ha cpos pins s1 σ H1 _ I1 q1;rw[hs]at hA ⊢;refine Calls.callWith_builtin (by show(false||(backTo cpos (starEach es X.env)).any (·.1))=false;rw[hplain]<;>rfl) (Calls.evalArgs_plain ?_);exact thn hA λus s2 ⟨vs,H2,I2,r2,q2⟩=>hm pins s2 σ H2 x vs v us Q I2 r1 r2 q2
end
end L2
namespace L2
open PySem PySem.Spec PyProof.Rows
def MtM(X:Cx)(id:String)(r:V->List V->Hp->VK->Prop):Prop :=
 ∀(pins:List (Addr×Obj)) (s:Shared) (σ:St) (H:Hp) (x:V) (xs:List V) (v:Value) (us:List Value) (Q:VK),Inv X pins σ H s->RelV x v->b0 xs us->r x xs H Q ->
  wpAny (model X.prog X.w) X.A (call (.builtin id) (v::us)) (EP X pins σ Q) X.xe s
theorem b0.one:∀{x:V}{us:List Value},b0 [x] us->∃u,us=[u]/\RelV x u:=by
 intro x us h;cases h with
 |cons r h=>cases h;exact⟨_,rfl,r⟩
theorem b0.two:∀{x y:V}{us:List Value},b0 [x,y] us->∃u v,us=[u,v]/\RelV x u/\RelV y v:=by
 intro x y us h;cases h with
 |cons r h=>cases h with
  |cons q h=>cases h;exact⟨_,_,rfl,r,q⟩
theorem b0.zero:∀{us:List Value},b0 [] us->us=[]
 |_,.nil=>rfl
theorem b0.dropLast{xs:List V}{us:List Value}(h:b0 xs us):b0 xs.dropLast us.dropLast:=by
 induction h with
 |nil=>exact .nil
 |cons r t ih =>
  cases t with
  |nil=>exact .nil
  |cons q t'=>exact .cons r ih
theorem b0.reverse{xs:List V}{us:List Value}(h:b0 xs us):b0 xs.reverse us.reverse:=by
 induction h with
 |nil=>exact .nil
 |cons r t ih=>rw[List.reverse_cons,List.reverse_cons];exact b0.append ih (.cons r .nil)
theorem IR{α:Type}(l:List α):l.eraseIdx (l.length-1)=l.dropLast:=by
 induction l with
 |nil=>rfl
 |cons a r ih =>
  cases r with
  |nil=>rfl
  |cons b r =>
   have e:(a::b::r).length-1=((b::r).length-1)+1:=by
    have h1:(a::b::r).length=r.length+2:=rfl;have h2:(b::r).length=r.length+1:=rfl
    lia
   rw[e,List.eraseIdx_cons_succ,ih]
   all_goals rfl
section
variable{X:Cx}{pins:List (Addr×Obj)}{σ:St}{H:Hp}{s:Shared}{l b:Addr}{xs ys zs:List V}
theorem Inv.lset{its its':List Value}{n:Nat}{f:Array Value->Array Value}{t':Nat}(I:Inv X pins σ H s)(hH:H l=some (.lst xs))
  (e:s.heap.get? l=some { cls:=.type "list",data:=.seq its.toArray n }) (hf:f its.toArray=its'.toArray) (hv:b0 ys its') (hz:ys.length<=ZW) :
  Inv X pins σ (upd H l (.lst ys)) { s with heap:=s.heap.update l (Obj.mapSeq f),toks:=t' }:=by
 have q:=PySem.IsL.update e f;rw[hf]at q;refine I.write (x:=l) (e:=l) (by rw[hH];exact trivial) (.inl rfl) (λb' u hb hu=>(Heap.get?_update_other s.heap (Obj.mapSeq f) (Ne.symm hb)).trans hu) ⟨_,q⟩ ?_;exact⟨hz,its',_,hv,q⟩
theorem Inv.lnew{its:List Value}{t':Nat}(I:Inv X pins σ H s)(hv:b0 ys its)(hz:ys.length<=ZW) :
  Inv X pins σ (upd H s.heap.objs.size (.lst ys)) { s with heap:=s.heap.push { cls:=.type "list",data:=.seq its.toArray },toks:=t' } :=
 I.laid (λ_ _ q=>Heap.get?_push_of_some _ q) (Nat.le_refl _) ⟨hz,its,0,hv,Heap.get?_push_size _ rfl⟩
theorem Inv.fresh(I:Inv X pins σ H s):H s.heap.objs.size=none:=I.hok.fresh (Nat.le_refl _)
theorem Inv.lstM(I:Inv X pins σ H s)(hH:H l=some (.lst xs)):xs.length<=ZW/\∃(its:List Value) (n:Nat),b0 xs its/\xs.length=its.length/\s.heap.get? l=some { cls:=.type "list",data:=.seq its.toArray n }:=by
 obtain⟨z,its,n,r,e⟩:=I.hok l _ hH;exact⟨z,its,n,r,r.length,e⟩
theorem PQ{n:Nat}(h:n<=ZW):Builtin.List.listTooLong n=false:=by
 unfold Builtin.List.listTooLong;exact decide_eq_false (by lia)
end
section
variable{X:Cx}
def R9:V->List V->Hp->VK->Prop:=λx vs H Q=>∃l xs y,x=.ref l/\vs=[y]/\H l=some (.lst xs)/\xs.length<ZW/\Q .non (upd H l (.lst (xs++[y])))
theorem b9:MtM X "list.append" R9:=by
 intro pins s σ H x vs v us Q I rx rv h;obtain⟨l,xs,y,rfl,rfl,hH,hz,q⟩:=h;cases rx;obtain⟨u,rfl,ru⟩:=rv.one;obtain⟨z,its,n,r,hl,e⟩:=I.lstM hH;refine call_meets F.slot_list_append ⟨_,e,rfl⟩ F.entry_list_append (F.args_list_append_2 _ _) (PySem.list_append l its.toArray n u (by rw[List.size_toArray];lia)) ⟨e,?_⟩;refine⟨.non,_,I.lset (its':=its++[u]) hH e (by simp) (r.append (.cons ru .nil)) ?_,rfl,q⟩;rw[Zm,ZQ]
 lia
def R8:V->List V->Hp->VK->Prop:=λx vs H Q=>∃l b xs zs,x=.ref l/\vs=[.ref b]/\H l=some (.lst xs)/\H b=some (.lst zs)/\xs.length+zs.length<=ZW/\Q .non (upd H l (.lst (xs++zs)))
theorem WN:MtM X "list.extend" R8:=by
 intro pins s σ H x vs v us Q I rx rv h;obtain⟨l,b,xs,zs,rfl,rfl,hH,hB,hz,q⟩:=h;cases rx;obtain⟨u,rfl,ru⟩:=rv.one;cases ru;obtain⟨z,its,n,r,hl,e⟩:=I.lstM hH;obtain⟨z2,its2,n2,r2,hl2,e2⟩:=I.lstM hB;have hsz:its.toArray.size+its2.toArray.size<=ZW:=by rw[List.size_toArray,List.size_toArray];lia
 have hlong:¬(!its.toArray.isEmpty&&Builtin.List.listTooLong (its.toArray.size+its2.toArray.size))=true:=by
  rw[PQ hsz,Bool.and_false];exact Bool.false_ne_true
 refine call_meets F.slot_list_extend ⟨_,e,rfl⟩ F.entry_list_extend (F.args_list_extend_2 _ _)
  (AutoSeq1.list_extend_list_list_0 l its.toArray n b its2.toArray n2 hlong (by rw[List.size_toArray];lia) (by lia)) ⟨e,e2,?_⟩
 refine⟨.non,_,I.lset (its':=its++its2) hH e (by simp) (r.append r2) ?_,rfl,q⟩;rw[Zm]
 lia
def Y2:V->List V->Hp->VK->Prop:=λx vs H Q=>∃l xs y,x=.ref l/\vs=[]/\H l=some (.lst xs)/\xs[xs.length-1]?=some y/\Q y (upd H l (.lst xs.dropLast))
theorem PV:MtM X "list.pop" Y2:=by
 intro pins s σ H x vs v us Q I rx rv h;obtain⟨l,xs,y,rfl,rfl,hH,hy,q⟩:=h;cases rx;have hus:=rv.zero;subst hus;obtain⟨z,its,n,r,hl,e⟩:=I.lstM hH;obtain⟨u,hu,ru⟩:=r.get hy;have hy':its.toArray[its.toArray.size-1]?=some u:=by
  show its.toArray[its.length-1]?=some u;rw[<-Array.getElem?_toList,<-hl];exact hu
 refine call_meets F.slot_list_pop ⟨_,e,rfl⟩ F.entry_list_pop (F.args_list_pop_1 _) (MeetsSeq.list_pop_last l its.toArray n u hy' (by rw[List.size_toArray];lia)) ⟨e,?_⟩;refine⟨y,_,I.lset (its':=its.dropLast) hH e ?_ r.dropLast ?_,ru,q⟩
 ·show its.toArray.eraseIdxIfInBounds (its.toArray.size-1)=its.dropLast.toArray;rw[List.size_toArray,List.eraseIdxIfInBounds_toArray,IR]
 ·rw[List.length_dropLast]
  lia
def Y4:R2:=λx y H Q=>∃l b xs zs,x=.ref l/\y=.ref b/\H l=some (.lst xs)/\H b=some (.lst zs)/\xs.length+zs.length<=ZW/\∀p,H p=none->Q (.ref p) (upd H p (.lst (xs++zs)))
theorem uI:OpR X (binaryOp .Add) Y4:=by
 intro pins s σ H x y v u Q I rx ry h;obtain⟨l,b,xs,zs,rfl,rfl,hH,hB,hz,q⟩:=h;cases rx;cases ry;obtain⟨z,its,n,r,hl,e⟩:=I.lstM hH;obtain⟨z2,its2,n2,r2,hl2,e2⟩:=I.lstM hB;refine PySem.P.add_list e e2 ?_ (by rw[List.size_toArray,List.size_toArray];lia);have ea:its.toArray++its2.toArray=(its++its2).toArray:=by simp
 rw[ea];exact⟨.ref _,_,I.lnew (t':=s.toks) (r.append r2) (by rw[Zm];lia),rfl,q _ I.fresh⟩
end
section
variable{prog:Program}{w:World}{A:Around}{E:Value->Shared->Prop}{s:Shared}
end
section
variable{X:Cx}
end
end L2
namespace Att
open PySem PySem.W PySem.Calls PyProof.Rows
theorem v5{P:Params}{h:Heap}:∀(ns:List Int) (vs:List Value),WellAll P h vs (ns.map WData.int)->IntsAre vs ns:=by
 intro ns;induction ns with
 |nil =>
  intro vs w;rw[List.map_nil]at w;cases w;exact .nil
 |cons n ns ih =>
  intro vs w;rw[List.map_cons]at w;cases w with
  |cons a b =>
   cases a;exact .cons _ _ (ih _ b)
theorem LV{l:OpenLaw}{n:Nat}(hn:l.most=some n){P:Params}{h:Heap}{args:List WData}{vals:List Value}
  (hpre:l.row.toRowW.claim.pre args=true) (hwl:WellAll P h vals args) :
  ∃a vs ns,vals=[Value.ref a]/\args=[WData.list (ns.map WData.int)]/\h.get? a=some { cls:=.type "list",data:=.seq vs.toArray }/\IntsAre vs ns/\ns.length<=n:=by
 have hsh:WShape.hasAll [] args [.list .int]=true:=(pre_splitW hpre).1;have hc:l.pre.holds [] { args:=args }=true:=(pre_splitW hpre).2;obtain⟨d,r,rfl,h1,h2⟩:=hasAllW_cons hsh;obtain rfl:=hasAllW_nil h2;obtain⟨xs,rfl,h3⟩:=hasW_list h1;obtain⟨ns,rfl⟩:=items_int h3;have hlen:ns.length<=n:=by
  unfold OpenLaw.pre at hc;have h4:(WTm.not (.lt (.lit (.int (n:Int))) (.len (.arg 0)))).holds [] { args:=[.list (ns.map .int)] }=true:=by
   have h4:=(holds_andW hc).1;rw[hn]at h4;exact h4
  have h5:=condW_of h4 (w_not (w_lt w_lit (w_len_list (w_arg rfl))));rw[Zq]at h5;refine Nat.le_of_not_lt λq=>?_;have q':(n:Int)<((ns.length:Nat):Int):=by omega
  first
   |(rw[decide_eq_true q']at h5;exact absurd h5 (by decide))
   |(simp at h5;omega)
 cases hwl with
 |cons w1 w2 =>
  cases w2;cases w1 with
  |list ho hall=>exact⟨_,_,ns,rfl,rfl,ho,v5 ns _ hall,hlen⟩
theorem LZ(l:OpenLaw)(args:List WData):l.row.toRowW.claim.post args (.bool true) args=true :=
 postW_of (r:=l.row.toRowW) (X:=(true==true))
  (show WShape.has [] (.bool true) .bool=true by first | rfl | decide | simp[WShape.has,WShape.arms,WShape.armsAll])
  (show(WTm.eq .res (.lit (.bool true))).value [] { args:=args,res:=some (.bool true),after:=args }=some (.bool (true==true)) from w_eq_bool (w_res rfl) w_lit) rfl
theorem GJ{l:OpenLaw}{n:Nat}{q:Program}{loose:List Str}{XP:(Str->Option Value)->Heap->Prop}{YP:World->Heap->Prop}{d:DefRec}
  (hn:l.most=some n) (hdf:d.params.defaults=[])
  (call:∀(w:World) (s₀ s₁:Shared) (mg mb:Str->Option Value) (fa:Addr) (o:Obj) (pm cd doc:Value) (a:Addr) (vs:List Value) (ns:List Int),
   Ground q loose [] XP w s₀ mg mb s₁.heap->YP w s₁.heap ->
   s₁.heap.get? fa=some o->o.data=.func (docDef d.name d.params d.body d.scope pm cd doc)->s₁.heap.CodeRec cd d.name->mg d.name=some (.ref fa) ->
   s₁.heap.get? a=some { cls:=.type "list",data:=.seq vs.toArray }->IntsAre vs ns->ns.length<=n->s₁.gens=#[] ->
   codeAny (model l.prog w) callerA (.call (.ref fa) ⟨[.ref a],[]⟩) (λr s'=>r=.ok (.ret (.bool true))/\OldK s₁.heap s'.heap/\s'.os=s₁.os/\AllBare s'.gens) s₁) :
  WalkO q loose XP YP l.row.toRowW d [] (λf vs=>PySem.call f vs):=by
 intro w s₀ s₁ mg mb G Y fa o pm cd doc dV kV ho hd hcd hD hmg hg args vals as hpre hlay hrd hwl hlo;obtain rfl:dV=.none:=Dflts.none hD hdf;obtain rfl:kV=.none:=Dflts.noKw hD;obtain⟨a,vs,ns,rfl,rfl,hobj,hints,hlen⟩:=LV hn hpre hwl;refine enter_call (codeAny_mono (call w s₀ s₁ mg mb fa o pm cd doc a vs ns G Y ho (fd_plain hd) hcd hmg hobj hints hlen hg) λr s' hq=>?_);obtain⟨rfl,h2,h3,h4⟩:=hq;exact⟨.inl ⟨.bool true,.bool true,[],rfl,λ_=>rfl,.bool true,LZ l _,λ_=>⟨List.Pairwise.nil,λ_ hm=>(nomatch hm)⟩⟩,h2,h3,h4⟩
section
variable{prog:Program}{w:World}{A:Around}{E:Value->Shared->Prop}{s:Shared}{K:Frag}
end
end Att
namespace L2
open PySem PySem.Spec PyProof.Rows
theorem pN:∀{vs:List Value}{ns:List Int},IntsAre vs ns->b0 (ns.map V.int) vs
 |_,_,.nil=>.nil
 |_,_,.cons n t h=>.cons ⟨t,rfl⟩ (pN h)
def WH(H:Hp):Prop:=∀b,H b=none\/∃o xs,H b=some (.frz o (.lst xs))
theorem P7{P:Program}{w:World}{K:PySem.W.Frag}{mg mb:Str->Option Value}{CX:CXT}{k:Nat}{fa a:Addr}{fd:FuncData}{x:Str}{sp:Sp}{s₁:Shared}{vs:List Value}{ns:List Int}
  (KX:K.In s₁.heap) (hns:s₁.heap.Ns ZV mg) (hb:s₁.heap.Ns builtinsNs mb) (hbb:∀x:Str,x≠"__name__"->mb x=bootBuiltins x) (hlim:s₁.heap.NoLimit) (hg:s₁.gens=#[])
  (ha:s₁.heap.get? a=some { cls:=.type "list",data:=.seq vs.toArray }) (hi:IntsAre vs ns) (hl:ns.length<=ZW) (hr:jC k callerA)
  (F:∀base:Heap,K.In base->base.Ns ZV mg->bT P w K mg base CX k fa fd [x] sp) (hbind:∀(s:Shared) (u:Value),BindsTo s fd ⟨[u],[]⟩ [(x,u)])
  (hsp:∀H:Hp,WH H->SqL K H a (ns.map V.int)->sp [.ref a] H (λv _=>v=.bl true) λ_ _ _=>False)
  (hCX:∀H e s',CX [] H s₁ (λ_ _ _=>False) e s'->False) :
  codeAny (model P w) callerA (.call (.ref fa) ⟨[.ref a],[]⟩) (λr s'=>r=.ok (.ret (.bool true))/\OldK s₁.heap s'.heap/\s'.os=s₁.os/\AllBare s'.gens) s₁:=by
 have rv:=pN hi;have lenV:=hi.length;have core:∀H:Hp,WH H->SqL K H a (ns.map V.int)->HOk P w H s₁.heap->(∀b,H b≠none->b=a)->(H a≠none->K.lookup a=none) ->
   codeAny (model P w) callerA (.call (.ref fa) ⟨[.ref a],[]⟩) (λr s'=>r=.ok (.ret (.bool true))/\OldK s₁.heap s'.heap/\s'.os=s₁.os/\AllBare s'.gens) s₁:=by
  intro H hO hS hok hA hK;have base_of:∀{b:Addr}{o:Obj},s₁.heap.get? b=some o->H b=none->(DL s₁.heap H).get? b=some o:=λe n=>QF e n;have noA:∀{b:Addr}{o:Obj}{es:Array DictEntry}{ep:Nat},s₁.heap.get? b=some o->o.data=.dict es ep->H b=none:=λ{b o es ep} e d=>by
   cases q:H b with
   |none=>rfl
   |some u =>
    have e':b=a:=hA b (by rw[q];simp);subst e';rw[ha]at e;cases e;have d':Data.seq vs.toArray _=Data.dict es ep:=d;cases d'
  have nsK:∀{b:Addr}{m:Str->Option Value},s₁.heap.Ns b m->(DL s₁.heap H).Ns b m:=λ{b m} ⟨o,es,ep,e,d,r⟩=>⟨o,es,ep,base_of e (noA e d),d,r⟩
  have hKb:K.In (DL s₁.heap H):=λb o e=>base_of (KX b o e) (by
   cases q:H b with
   |none=>rfl
   |some u =>
    have e':b=a:=hA b (by rw[q];simp);subst e';rw[hK (by rw[q];simp)]at e;cases e)
  have hM:Mod K mg (DL s₁.heap H):=⟨hKb,nsK hns,⟨mb,nsK hb,hbb⟩,let⟨mc,h1,h2⟩:=hlim;⟨mc,nsK h1,h2⟩⟩
  have e0:JC P w K mg (DL s₁.heap H) callerA [] s₁ H:=⟨rfl,hM,λb o e=>SW e,Nat.le_of_eq (MY _ _),trivial,λb hb=>absurd (show b∈([]:List Addr) from hb) (by simp),hok,.of_eq hg⟩
  refine codeAny_mono ((F _ hKb (nsK hns)).run callerA [] s₁ H ⟨[.ref a],[]⟩ [.ref a] [.ref a] _ _ hr e0 (hbind s₁ (.ref a)) (.cons rfl .nil) (hsp H hO hS)) λr s' h=>?_;cases r with
  |error e=>exact(hCX H e s' h).elim
  |ok fl =>
   cases fl with
   |next=>exact False.elim h
   |brk=>exact False.elim h
   |cont=>exact False.elim h
   |ret u =>
    obtain⟨v,H',os,bare,un,hok',r',q⟩:=h;have q':v=.bl true:=q;subst q';obtain rfl:u=Value.bool true:=r';refine⟨rfl,OldK.of_keep λb o e=>?_,os,bare⟩;cases q:H b with
    |none=>exact un.keep b o e q (by intro z;exact absurd (show b∈([]:List Addr) from z) (by simp)) (by simp)
    |some u =>
     rcases hO b with z | ⟨ob,xs,z⟩
     ·rw[q]at z;cases z
     ·have z2:=un.frzs b ob _ z;obtain⟨e1,_⟩:=hok b _ z;obtain⟨e2,_⟩:=hok' b _ z2;rw[e]at e1;cases e1;exact e2
 cases hk:K.lookup a with
 |some o =>
  have e:=KX a o hk;rw[ha]at e;cases e;refine core (λ_=>none) (λ_=>.inl rfl) (.inr ⟨_,vs.toArray,_,hk,rfl,rfl,rfl,by rw[List.size_toArray,lenV];exact hl,by simpa using rv⟩) (λb u z=>by have z':(none:Option HO)=some u:=z;cases z') (λb z=>absurd rfl z) λz=>absurd rfl z
 |none =>
  refine core (λb=>if b=a then some (.frz { cls:=.type "list",data:=.seq vs.toArray } (.lst (ns.map V.int))) else none) (λb=>?_) (.inl (.inr ⟨{ cls:=.type "list",data:=.seq vs.toArray },if_pos rfl⟩)) (λb u z=>?_) (λb z=>?_) λ_=>hk
  ·by_cases hb:b=a
   ·exact .inr ⟨_,_,if_pos hb⟩
   ·exact .inl (if_neg hb)
  ·by_cases hb:b=a
   ·have z':=(if_pos hb).symm.trans z;cases z';subst hb;exact⟨ha,by rw[Zq];exact hl,vs,_,rv,ha⟩
   ·have z':=(if_neg hb).symm.trans z;cases z'
  ·by_cases hb:b=a
   ·exact hb
   ·exact absurd (if_neg hb) z
theorem RE{l:PySem.W.OpenLaw}{n k:Nat}{q:Program}{loose:List Str}{XP:(Str->Option Value)->Heap->Prop}{YP:World->Heap->Prop}{d:DefRec}{K:Params->PySem.W.Frag}{CX:World->CXT}{sp:World->Sp}{x:Str}
  (hn:l.most=some n) (hn2:n<=ZW) (hdf:d.params.defaults=[]) (hr:jC k callerA)
  (hY:∀(w:World) (h:Heap),YP w h->(K w.params).In h)
  (F:∀(w:World) (mg:Str->Option Value) (fa:Addr) (h:Heap),(K w.params).In h->h.Ns ZV mg->mg d.name=some (.ref fa) ->
   ∃fd:FuncData,(∀(s:Shared) (u:Value),BindsTo s fd ⟨[u],[]⟩ [(x,u)]) /\
    ∀base:Heap,(K w.params).In base->base.Ns ZV mg->bT l.prog w (K w.params) mg base (CX w) k fa fd [x] (sp w))
  (hsp:∀(w:World) (H:Hp) (a:Addr) (ns:List Int),ns.length<=n->WH H->SqL (K w.params) H a (ns.map V.int)->sp w [.ref a] H (λv _=>v=.bl true) λ_ _ _=>False)
  (hCX:∀(w:World) (H:Hp) (s:Shared) (e:Value) (s':Shared),CX w [] H s (λ_ _ _=>False) e s'->False) :
  PySem.W.WalkO q loose XP YP l.row.toRowW d [] (λf vs=>PySem.call f vs):=by
 refine Att.GJ hn hdf λw s₀ s₁ mg mb fa o pm cd doc a vs ns G Y ho hd hcd hmg hobj hints hlen hg=>?_;have KX:=hY w _ Y;obtain⟨fd,hb,hF⟩:=F w mg fa _ KX G.T.g hmg;exact P7 KX G.T.g G.T.b G.T.builtins G.T.nolimit hg hobj hints (Yr hlen hn2) hr hF hb (λH hO hS=>hsp w H a ns hlen hO hS) λH e s'=>hCX w H s₁ e s'
def inClass(s:Stmt)(j:Nat):Stmt:=match s with
 |.ClassDef _ _ _ body _ _ _ _ _ _ _=>body.getD j (.Pass ⟨0,0,0,0⟩)
 |_=>.Pass ⟨0,0,0,0⟩
def kT(s:Stmt):Arguments:=match s with
 |.FunctionDef _ a _ _ _ _ _ _ _ _=>a
 |_=>{ posonlyargs:=[],args:=[],vararg:=none,kwonlyargs:=[],kw_defaults:=[],kwarg:=none,defaults:=[] }
def jM(s:Stmt):List Stmt:=match s with
 |.FunctionDef _ _ b _ _ _ _ _ _ _=>b
 |_=>[]
def aS(s:Stmt):Scope:=match s with
 |.FunctionDef _ _ _ _ _ _ sc _ _ _=>sc
 |_=>{ kind:=.function,names:=[],isGenerator:=false,isCoroutine:=false }
abbrev CX0:CXT:=λ_ _ _ _ _ _=>False
abbrev E0:XK:=λ_ _ _=>False
theorem aX{X:Cx}:uZ CX0 X E0:=λ_ _ _ _ _ _ _ h=>h.elim
structure Fun(K:PySem.W.Frag)(x qual:Str)(st:Stmt)(f:Addr)(fd:FuncData):Prop where
 ex:∃(oc:Value) (od:Option Addr) (kV doc pm:Value) (an:Option Addr) (cdv ct:Value) (osl:Array (Option Value)),
  fd=PySem.W.fnOf x qual (kT st) (jM st) (aS st) .none kV doc pm an cdv ct/\K.lookup f=some ⟨oc,od,.func fd,osl⟩/\PySem.W.codeIn K cdv qual=true
 kp:PySem.W.keepIn K (.ref f)=true
section
variable{P:Program}{w:World}{K:PySem.W.Frag}{mg:Str->Option Value}{base:Heap}
theorem Fun.ok{x qual:Str}{st:Stmt}{f:Addr}{fd:FuncData}{N ps:List Str}{k:Nat}{sp:Sp}(F:Fun K x qual st f fd)(S:a0 N ps (aS st))(len:∀vs H Q E,sp vs H Q E->vs.length=ps.length)
  (hbody:∀(cdv:Value) (A:Around) (outer:List Env) (s:Shared) (H:Hp) (vs:List V) (Q:VK) (E:XK),jC k (A.deeper (envOfC qual (aS st) s.heap.objs.size f cdv))->sp vs H Q E ->
   ∃t,PSs (M6 CX0 P w K mg base N qual (aS st) f cdv A outer s H E).nox (jM st) t/\t { nx:=λ_ H'=>Q .non H',rt:=Q } (start N vs) H):bT P w K mg base CX0 (k+1) f fd ps sp:=by
 obtain⟨oc,od,kV,doc,pm,an,cdv,ct,osl,rfl,lk,hcd⟩:=F.ex;refine X5 lk hcd S len λA outer s H vs Q E hr hsp=>?_;obtain⟨t,h,q⟩:=hbody cdv A outer s H vs Q E hr hsp;exact⟨t,h.nox,q⟩
theorem Fun.binds{x qual:Str}{st:Stmt}{f:Addr}{fd:FuncData}{ps:List Str}(F:Fun K x qual st f fd)
  (h:∀(kV doc pm:Value) (an:Option Addr) (cdv ct:Value) (us:List Value),us.length=ps.length->bindArgs (PySem.W.fnOf x qual (kT st) (jM st) (aS st) .none kV doc pm an cdv ct) ⟨us,[]⟩=pure (ps.zip us)):Binds K fd ps []:=by
 obtain⟨oc,od,kV,doc,pm,an,cdv,ct,osl,rfl,lk,hcd⟩:=F.ex;exact .all (h kV doc pm an cdv ct)
theorem IM{x qual:Str}{st:Stmt}{f:Addr}{oc:Value}{od an:Option Addr}{osl:Array (Option Value)}{kV doc pm cdv ct:Value}(l:K.lookup f=some ⟨oc,od,.func (PySem.W.fnOf x qual (kT st) (jM st) (aS st) .none kV doc pm an cdv ct),osl⟩)
  (c:PySem.W.codeIn K cdv qual=true) (k:PySem.W.keepIn K (.ref f)=true):Fun K x qual st f (PySem.W.fnOf x qual (kT st) (jM st) (aS st) .none kV doc pm an cdv ct):=⟨⟨oc,od,kV,doc,pm,an,cdv,ct,osl,rfl,l,c⟩,k⟩
end
theorem KH{A:Around}{k:Nat}(hr:jC k A):A.units+1<cLine:=Ys (Nat.add_le_add_left (by decide:1<=64) _) hr.units
section
variable{X:Cx}
theorem pv(i:Nat){x:Str}{pos:Pos}(hN:X.N[i]?=some x:=by rfl)(hv:Vis X.env.scope x:=by first | exact Or.inl rfl | exact Or.inr (Or.inl rfl) | exact Or.inr (Or.inr rfl))(hd:(x==("__debug__" : Str))=false:=by decide)
  (hcd:(x==("__classdict__" : Str))=false:=by decide):PE X (.Name x pos) (RH i):=VL hN hv hd hcd
end
theorem iY{A B:Prop}(h:B):if false=true then A else B:=by
 rw[if_neg Bool.false_ne_true];exact h
theorem vZ{A B:Prop}(h:A):if true=true then A else B:=by
 rw[if_pos rfl];exact h
theorem kG{c A B:Prop}[Decidable c](h1:c->A)(h2:¬c->B):if c then A else B:=by
 by_cases h:c
 ·rw[if_pos h];exact h1 h
 ·rw[if_neg h];exact h2 h
theorem XU{c A B:Prop}[Decidable c](hc:c)(h:B):if (!decide c)=true then A else B:=by
 rw[decide_eq_true hc];exact iY h
def aZ(H H':Hp):Prop:=∀b o,H b=some o->H' b=some o
theorem aZ.refl(H:Hp):aZ H H:=λ_ _ h=>h
theorem aZ.trans{H H1 H2:Hp}(a:aZ H H1)(b:aZ H1 H2):aZ H H2:=λc o h=>b c o (a c o h)
theorem aZ.free{H H':Hp}(e:aZ H H'){l:Addr}(h:H' l=Option.none):H l=Option.none:=by
 cases q:H l with
 |none=>rfl
 |some o =>
  rw[e l o q]at h;cases h
theorem aZ.seq{K:PySem.W.Frag}{H H':Hp}{a:Addr}{xs:List V}(e:aZ H H')(h:SqL K H a xs):SqL K H' a xs:=by
 rcases h with(h | ⟨o,h⟩) | h
 ·exact .inl (.inl (e _ _ h))
 ·exact .inl (.inr ⟨o,e _ _ h⟩)
 ·exact .inr h
end L2
set_option Elab.async false
set_option linter.all false
set_option maxRecDepth 100000
set_option maxHeartbeats 4000000
namespace L2
open PySem PySem.Spec PyProof.Rows
def lU(cells:List (Str×Addr)):List (Str×NameKind)->List (Str×Addr)->List (Str×Addr)
 |[],cs=>cs
 |x::r,cs=>lU cells r (if x.2=.free then ((cells.lookup x.1).map λc=>(x.1,c)).toList++cs else cs)
theorem qI{scope:Scope}{env:Env}(h:∀x∈scope.names,x.2=.free->∃c,env.cells.lookup x.1=some c) :
  closureFor scope env=pure (lU env.cells scope.names []):=by
 have key:∀(l:List (Str×NameKind)) (cs:List (Str×Addr)) (f:Str×NameKind->List (Str×Addr)->Sem (ForInStep (List (Str×Addr)))),
   (∀x∈l,x.2=.free->∃c,env.cells.lookup x.1=some c) ->
   (∀x cs,f x cs=if (x.2==NameKind.free)=true then (cellOf env x.1 >>= λa=>pure (ForInStep.yield ((x.1,a)::cs))) else pure (ForInStep.yield cs)) ->
   forIn l cs f=pure (lU env.cells l cs):=by
  intro l;induction l with
  |nil=>intro cs f _ _;rfl
  |cons x r ih =>
   intro cs f hx hf;rw[List.forIn_cons,hf];by_cases hk:x.2=.free
   ·obtain⟨c,hc⟩:=hx x Zd hk;rw[if_pos (by simp[hk])];have e:cellOf env x.1=pure c:=by unfold cellOf;rw[hc]
    rw[e];simp only[pure_bind];rw[ih _ f (λy hy=>hx y (Zw _ hy)) hf];show _=pure (lU env.cells r (if x.2=.free then ((env.cells.lookup x.1).map λc=>(x.1,c)).toList++cs else cs));rw[if_pos hk,hc];rfl
   ·rw[if_neg (by simp[hk])];simp only[pure_bind];rw[ih _ f (λy hy=>hx y (Zw _ hy)) hf];show _=pure (lU env.cells r (if x.2=.free then ((env.cells.lookup x.1).map λc=>(x.1,c)).toList++cs else cs));rw[if_neg hk]
 simp only[closureFor];rw[key scope.names [] _ h (λx cs=>by obtain⟨n,k⟩:=x;rfl)]
 first | rfl | simp only[pure_bind]
theorem DV{cells:List (Str×Addr)}:∀(l:List (Str×NameKind)) (cs:List (Str×Addr)) {x:Str}{c:Addr},(lU cells l cs).lookup x=some c->cs.lookup x=some c\/cells.lookup x=some c
 |[],_,_,_,h=>.inl h
 |y::r,cs,x,c,h=>by
  have h':(lU cells r (if y.2=.free then ((cells.lookup y.1).map λc=>(y.1,c)).toList++cs else cs)).lookup x=some c:=h;rcases DV r _ h' with q | q
  ·by_cases hk:y.2=.free
   ·rw[if_pos hk]at q;cases hl:cells.lookup y.1 with
    |none=>rw[hl]at q;exact .inl q
    |some d =>
     rw[hl]at q;have q':(((y.1,d)::cs).lookup x)=some c:=q;rw[List.lookup_cons]at q';cases hb:x==y.1 with
     |true =>
      rw[hb]at q';have e:=eq_of_beq hb;subst e
      right
      rw[hl];exact q'
     |false=>rw[hb]at q';exact .inl q'
   ·rw[if_neg hk]at q;exact .inl q
  ·exact .inr q
theorem GE{cells:List (Str×Addr)}:∀(l:List (Str×NameKind)) (cs:List (Str×Addr)) (x:Str),((x,NameKind.free)∈l/\∃c,cells.lookup x=some c)\/(∃c,cs.lookup x=some c)->∃c,(lU cells l cs).lookup x=some c
 |[],cs,x,h=>by
  rcases h with⟨q,_⟩ | q
  ·cases q
  ·exact q
 |y::r,cs,x,h=>by
  show ∃c,(lU cells r (if y.2=.free then ((cells.lookup y.1).map λc=>(y.1,c)).toList++cs else cs)).lookup x=some c;apply GE r;rcases h with⟨q,c,hc⟩ | ⟨c,hc⟩
  ·rcases Zn.mp q with q | q
   ·right
    subst q;rw[if_pos rfl,hc];refine⟨c,?_⟩;show((x,c)::cs).lookup x=some c;rw[List.lookup_cons];simp
   ·exact .inl ⟨q,c,hc⟩
  ·right
   by_cases hk:y.2=.free
   ·rw[if_pos hk];cases hl:cells.lookup y.1 with
    |none=>exact⟨c,hc⟩
    |some d =>
     show ∃c,((y.1,d)::cs).lookup x=some c;rw[List.lookup_cons];cases hb:x==y.1 with
     |true=>exact⟨d,rfl⟩
     |false=>exact⟨c,hc⟩
   ·rw[if_neg hk];exact⟨c,hc⟩
theorem qY{env:Env}:∀{names:List (Str×NameKind)}{x:Str}{k':NameKind},
  (names.map λ(n,k)=>if (k==NameKind.free&&env.scope.kind==.function&&env.kindOf n==some .cell) then (n,NameKind.cell) else (n,k)).lookup x=some k' ->
  ∃k,(x,k)∈names/\(k=k'\/(k=.free/\k'=.cell))
 |[],_,_,h=>by simp at h
 |(n,k)::r,x,k',h=>by
  have ih:=@qY env r x k';have h':List.lookup x ((if (k==NameKind.free&&env.scope.kind==.function&&env.kindOf n==some .cell)=true then (n,NameKind.cell) else (n,k))::_)=some k':=h;by_cases hc:(k==NameKind.free&&env.scope.kind==.function&&env.kindOf n==some .cell)=true
  ·rw[if_pos hc,List.lookup_cons]at h';cases hb:x==n with
   |true =>
    rw[hb]at h';have e:=eq_of_beq hb;subst e;cases h';refine⟨k,Zd,.inr ⟨?_,rfl⟩⟩;simp only[Xw]at hc;exact eq_of_beq hc.1.1
   |false =>
    rw[hb]at h';obtain⟨k2,q,z⟩:=ih h';exact⟨k2,Zw _ q,z⟩
  ·rw[if_neg hc,List.lookup_cons]at h';cases hb:x==n with
   |true =>
    rw[hb]at h';have e:=eq_of_beq hb;subst e;cases h';exact⟨k,Zd,.inl rfl⟩
   |false =>
    rw[hb]at h';obtain⟨k2,q,z⟩:=ih h';exact⟨k2,Zw _ q,z⟩
theorem sJ{env:Env}:∀{names:List (Str×NameKind)}{x:Str},names.lookup x=some .free ->
  (names.map λ(n,k)=>if (k==NameKind.free&&env.scope.kind==.function&&env.kindOf n==some .cell) then (n,NameKind.cell) else (n,k)).lookup x=some .cell \/
  (names.map λ(n,k)=>if (k==NameKind.free&&env.scope.kind==.function&&env.kindOf n==some .cell) then (n,NameKind.cell) else (n,k)).lookup x=some .free
 |[],_,h=>by simp at h
 |(n,k)::r,x,h=>by
  have ih:=@sJ env r x;show List.lookup x ((if (k==NameKind.free&&env.scope.kind==.function&&env.kindOf n==some .cell)=true then (n,NameKind.cell) else (n,k))::_)=some .cell \/
   List.lookup x ((if (k==NameKind.free&&env.scope.kind==.function&&env.kindOf n==some .cell)=true then (n,NameKind.cell) else (n,k))::_)=some .free
  rw[List.lookup_cons]at h;by_cases hc:(k==NameKind.free&&env.scope.kind==.function&&env.kindOf n==some .cell)=true
  ·rw[if_pos hc];simp only[List.lookup_cons];cases hb:x==n with
   |true=>exact .inl rfl
   |false=>rw[hb]at h;exact ih h
  ·rw[if_neg hc];simp only[List.lookup_cons];cases hb:x==n with
   |true=>rw[hb]at h;exact .inr h
   |false=>rw[hb]at h;exact ih h
def Cx.comp(X:Cx)(N:List Str)(scope:Scope)(cl:List (Str×Addr))(C:Addr)(fp:List Addr)(s:Shared)(H:Hp):Cx :=
 { prog:=X.prog,w:=X.w,K:=X.K,mg:=X.mg,base:=X.base,A:=X.A,N:=N,s₀:=s,H₀:=H,env:=compEnvC scope cl C X.env,outer:=X.stack,stack:=X.stack,ex:=fp,fn:=λ_=>false,calm:=X.calm,pn:=[],xe:=λ_ _=>False }
def inner(js:List (Option Nat))(σ:St):St:=js.map λo=>match o with
 |none=>none
 |some j=>(σ[j]?).getD none
def II(N:List Str)(scope:Scope):List Str->List (Option Nat)->Bool
 |[],[]=>true
 |x::r,o::q=>(match o with | none=>true | some j=>N[j]?==some x&&scope.names.lookup x==some .free)&&II N scope r q
 |_,_=>false
theorem FQ{N:List Str}{scope:Scope}:∀{N':List Str}{js:List (Option Nat)},II N scope N' js=true->js.length=N'.length
 |[],[],_=>rfl
 |_::r,_::q,h=>by
  have h':=(Bool.and_eq_true_iff.mp h).2;rw[Yq,Yq,FQ h']
theorem KF{N:List Str}{scope:Scope}:∀{N':List Str}{js:List (Option Nat)}{i:Nat}{x:Str}{j:Nat},II N scope N' js=true->N'[i]?=some x->js[i]?=some (some j)->N[j]?=some x/\scope.names.lookup x=some .free
 |[],[],_,_,_,_,h,_=>by simp at h
 |y::r,o::q,0,x,j,h,h1,h2=>by
  have h':=(Bool.and_eq_true_iff.mp h).1;simp at h1 h2;subst h1 h2;have h'':=Bool.and_eq_true_iff.mp h';exact⟨eq_of_beq h''.1,eq_of_beq h''.2⟩
 |y::r,o::q,i+1,x,j,h,h1,h2=>by
  have h':=(Bool.and_eq_true_iff.mp h).2;exact KF (i:=i) h' (by simpa using h1) (by simpa using h2)
theorem QC{js:List (Option Nat)}{σ:St}{i:Nat}{v:V}(h:(inner js σ)[i]?=some (some v)):∃j,js[i]?=some (some j)/\σ[j]?=some (some v):=by
 unfold inner at h;rw[Zk]at h;cases e:js[i]? with
 |none=>rw[e]at h;cases h
 |some o =>
  rw[e]at h;cases o with
  |none=>cases h
  |some j =>
   refine⟨j,rfl,?_⟩;have h':(σ[j]?).getD none=some v:=by simpa using h
   cases q:σ[j]? with
   |none=>rw[q]at h';cases h'
   |some z=>rw[q]at h';simp at h';rw[h']
structure Fills(σ σ':St):Prop where
 len:σ.length=σ'.length
 at_:∀(i:Nat) v,σ[i]?=some (some v)->σ'[i]?=some (some v)
theorem Fills.refl(σ:St):Fills σ σ:=⟨rfl,λ_ _ h=>h⟩
theorem Fills.set{σ σ':St}(f:Fills σ σ'){i:Nat}(x:V)(h:σ[i]?=some none):Fills σ (σ'.set i (some x)):=by
 refine⟨by rw[List.length_set];exact f.len,λj v q=>?_⟩;by_cases e:i=j
 ·subst e;rw[h]at q;cases q
 ·rw[List.getElem?_set_ne e];exact f.at_ j v q
section
variable{X:Cx}{pins:List (Addr×Obj)}{σ:St}{H:Hp}{s:Shared}
theorem QW{N':List Str}{js:List (Option Nat)}{scope:Scope}{fp:List Addr}{m:Str->Option Value}{h1:Heap}{tk:Nat}(I:Inv X pins σ H s)
  (hk:scope.kind=.function) (hcell:∀y∈scope.names,y.2≠.cell) (hfree:∀y∈scope.names,y.2=.free->X.env.kindOf y.1=some .cell\/X.env.kindOf y.1=some .free) (hjs:II X.N scope N' js=true)
  (fpok:∀b∈fp,wG X pins H b) (fpl:∀b∈fp,b<s.heap.objs.size) (hns:h1.Ns s.heap.objs.size m) (hsb:∀b o,s.heap.get? b=some o->h1.get? b=some o) :
  Inv (X.comp N' scope (lU X.env.cells scope.names []) s.heap.objs.size fp s H) [] (inner js σ) H { s with heap:=h1,toks:=tk }:=by
 have incl:∀{x c},(lU X.env.cells scope.names []).lookup x=some c->X.env.cells.lookup x=some c:=λ{x c} q=>by
  rcases DV _ _ q with z | z
  ·simp at z
  ·exact z
 have inn:∀{x:Str},(x,NameKind.free)∈scope.names->∃c,(lU X.env.cells scope.names []).lookup x=some c:=λ{x} q=>GE _ _ _ (.inl ⟨q,I.ok.has x (hfree _ q rfl)⟩);have fnot:∀b∈fp,b∉frs X.stack:=λb hb z=>(Zn.mp (I.stkSub b z)).elim (fpok b hb).2.1 (fpok b hb).2.2.1;refine⟨⟨I.ok.mod,?_,I.ok.glob,I.ok.blt,Nat.le_refl _,?_,?_,?_,I.ok.hd,I.ok.frames,.inl rfl,?_,I.bs,Yr I.ok.bsz I.sz,?_,fnot,I.stack,I.stkFree⟩,rfl,I.bare,Un.kept hsb,⟨m,hns,?_⟩,?_,I.fresh,?_,?_,I.hok.kept hsb,?_⟩
 ·exact hk
 ·intro x y c e1 e2;exact I.ok.inj x y c (incl e1) (incl e2)
 ·intro x h;have q:∃k,(x,k)∈scope.names/\k=.free:=by
   rcases h with h | h
   ·obtain⟨k,q1,q2⟩:=qY (env:=X.env) h;rcases q2 with rfl | ⟨q2,_⟩
    ·exact absurd rfl (hcell _ q1)
    ·exact⟨k,q1,q2⟩
   ·obtain⟨k,q1,q2⟩:=qY (env:=X.env) h;rcases q2 with rfl | ⟨_,q2⟩
    ·exact⟨_,q1,rfl⟩
    ·cases q2
  obtain⟨k,q1,rfl⟩:=q;exact inn q1
 ·intro x c h _;cases h
 ·intro b hb;exact⟨Nat.ne_of_lt (fpl b hb),λx c e=>(fpok b hb).2.2.2.2.1 x c (incl e)⟩
 ·intro b o e hb;rcases(fpok b hb).2.2.2.1 with z | z
  ·exact I.ok.noex b o e z
  ·exact absurd (Yt (Heap.lt_size e) (Yr I.ok.bsz z)) (Nat.lt_irrefl _)
 ·intro i x v e1 e2 _;obtain⟨j,q1,q2⟩:=QC e2;obtain⟨q3,q4⟩:=KF hjs e1 q1;have q5:(x,NameKind.free)∈scope.names:=by
   have:∀{l:List (Str×NameKind)},l.lookup x=some .free->(x,NameKind.free)∈l:=by
    intro l;induction l with
    |nil=>intro z;simp at z
    |cons y r ih =>
     intro z;obtain⟨n,k⟩:=y;rw[List.lookup_cons]at z;cases hb:x==n with
     |true=>rw[hb]at z;have e:=eq_of_beq hb;subst e;cases z;exact Zd
     |false=>rw[hb]at z;exact Zw _ (ih z)
   exact this q4
  have kf:=hfree _ q5 rfl;obtain⟨m0,hn0,hl0⟩:=id I.loc;obtain⟨u,r,lk⟩:=hl0 j x v q3 q2 (kf.elim (λz=>.inr (.inl z)) λz=>.inr (.inr z));refine⟨u,r,?_⟩;rcases lk with⟨z,_⟩ | ⟨_,c,hc,o,ho,hd⟩
  ·rcases kf with k | k
   ·rw[k]at z;cases z
   ·rw[k]at z;cases z
  ·obtain⟨c',hc'⟩:=inn q5;have e:=incl hc';rw[hc]at e;cases e;exact .inr ⟨sJ q4,c,hc',o,hsb _ _ ho,hd⟩
 ·intro x c e;obtain⟨v,o,ho,hd⟩:=I.cell x c (incl e);exact⟨v,o,hsb _ _ ho,hd⟩
 ·intro x c e;exact I.freeC x c (incl e)
 ·intro p hp;cases hp
 ·show(inner js σ).length=N'.length;unfold inner;rw[Zq];exact FQ hjs
def PF(X:Cx)(ifs:List Expr)(t:TT):Prop :=
 ∀(pins:List (Addr×Obj)) (s:Shared) (σ:St) (H:Hp) (Q:Bool->Hp->Prop),Inv X pins σ H s->t σ H Q ->
  wpAny (model X.prog X.w) X.A (forIn ifs true λc r=>if r=true then do let ok <-isTrue c X.env (eval c X.env);pure (ForInStep.yield ok) else pure (ForInStep.yield r)) (TP X pins σ Q) X.xe s
def A5:TT:=λ_ H Q=>Q true H
theorem dJ:PF X [] A5:=λ_ _ _ H _ I h=>wpAny_tests_nil ⟨H,I,h⟩
theorem uE{c:Expr}{t:TT}(h:PT X c t):PF X [c] t:=λpins s σ H Q I hw=>wpAny_tests_one (h pins s σ H Q I hw)
end
section
variable{prog:Program}{w:World}{A:Around}{E:Value->Shared->Prop}{R:Result->Shared->Prop}{s:Shared}
theorem GD{elt target iter:Expr}{ifs:List Expr}{scope:Scope}{pos:Pos}{it acc:Value}{env:Env}(I:Nat->Shared->Prop)
  (turn:∀n s,I n s->wpAny (model prog w) A (pyNext it) (λr s₁=>match r with
   |none=>R (.ok .next) s₁
   |some v=>wpAny (model prog w) A (letOwnedTupleGo target it v) (λ_ s₀=>wpAny (model prog w) A (assign target env v) (λ_ s₂ =>
     wpAny (model prog w) A (forIn ifs true λc r=>if r=true then do let ok <-isTrue c env (eval c env);pure (ForInStep.yield ok) else pure (ForInStep.yield r)) (λok s₃ =>
      if ok=true then wpAny (model prog w) A (eval elt env) (λx s₄ =>
       wpAny (model prog w) A (call (.builtin "list.append") [acc,x]) (λ_ s₅=>∃m,m<n/\I m s₅) (λ_ _=>False) s₄) (λ_ _=>False) s₃
      else ∃m,m<n/\I m s₃) (λ_ _=>False) s₂) (λ_ _=>False) s₀) (λ_ _=>False) s₁) (λ_ _=>False) s)
  (n:Nat) (h:I n s) :
  codeAny (model prog w) A (.compLoop (.ListComp elt [⟨target,iter,ifs,0⟩] scope pos) 0 it acc env) R s:=by
 refine codeAny_loop rfl I (λn s hI=>?_) n h;show wpAny _ A ((compTurn (.ListComp elt [⟨target,iter,ifs,0⟩] scope pos) 0 it acc env).onRaise (λx=>do noteFrame x env;theTreesLotGoes x)) _ _ s;refine wpAny_noted ?_;rw[compTurn_list];refine ZZ (wpAny_standAt (ZZ (ZX (turn n s hI) (λr s₁ h₁=>?_) λ_ _ h'=>h'.elim)));cases r with
 |none=>exact ZY h₁
 |some v =>
  refine ZZ (ZX h₁ (λ_ s₀ h₀=>?_) λ_ _ h'=>h'.elim);refine ZZ (ZX h₀ (λ_ s₂ h₂=>ZZ (ZX h₂ (λok s₃ h₃=>?_) λ_ _ h'=>h'.elim)) λ_ _ h'=>h'.elim);cases ok with
  |false=>exact ZY ⟨rfl,h₃⟩
  |true =>
   exact ZZ (ZZ (ZX h₃ (λx s₄ h₄=>ZZ (ZX h₄ (λ_ s₅ h₅=>ZY (ZY ⟨rfl,h₅⟩)) λ_ _ h'=>h'.elim)) λ_ _ h'=>h'.elim))
end
section
variable{X:Cx}
def UD(js:List (Option Nat))(wi:TI)(g:TG)(tc:TT)(te:TE):TE:=λσ H Q=>wi σ H λJ H1=>∀D,H1 D=none->∃W:Nat->Nat->List V->Hp->Prop,(∃m,W 0 m [] (upd H1 D (.lst []))) /\
 ∀i m ys H,W i m ys H->(J.stop i H/\Q (.ref D) H)\/(J.go i H/\∃N:List V->Hp->Prop,(∀ys' H',N ys' H'->∃m',m' < m/\W (i+1) m' ys' H')/\∀x H',J.yld i H x H'->g x (inner js σ) H' λσ2 H2=>Fills (inner js σ) σ2/\tc σ2 H2 λb H3 =>
  if b=true then te σ2 H3 λy H4=>H4 D=some (.lst ys)/\ys.length<ZW/\N (ys++[y]) (upd H4 D (.lst (ys++[y]))) else N ys H3)
theorem zU{N':List Str}{js:List (Option Nat)}{scope:Scope}{target iter elt:Expr}{ifs:List Expr}{pos:Pos}{g:TG}{tc:TT}{te:TE}{pins:List (Addr×Obj)}{σ:St}{H:Hp}{s:Shared}{Q:VK}{E:Value->Shared->Prop}
  {RR:Value->Addr->Result->Shared->Prop}{it:Addr}{fp:List Addr}{tn:Nat->Heap->Prop}{J:It}(I:Inv X pins σ H s) (T:Turn X.prog X.w X.K target J fp it tn) (st:tn 0 s.heap) (f:∀b∈fp,wG X pins H b) (hc:X.calm=true)
  (q:∀D,H D=none->∃W:Nat->Nat->List V->Hp->Prop,(∃m,W 0 m [] (upd H D (.lst []))) /\
   ∀i m ys H,W i m ys H->(J.stop i H/\Q (.ref D) H)\/(J.go i H/\∃N:List V->Hp->Prop,(∀ys' H',N ys' H'->∃m',m' < m/\W (i+1) m' ys' H')/\∀x H',J.yld i H x H'->g x (inner js σ) H' λσ2 H2=>Fills (inner js σ) σ2/\tc σ2 H2 λb H3 =>
  if b=true then te σ2 H3 λy H4=>H4 D=some (.lst ys)/\ys.length<ZW/\N (ys++[y]) (upd H4 D (.lst (ys++[y]))) else N ys H3))
  (hg:∀cl C fp s H,PG (X.comp N' scope cl C fp s H) target g) (hf:∀cl C fp s H,PF (X.comp N' scope cl C fp s H) ifs tc) (he:∀cl C fp s H,PE (X.comp N' scope cl C fp s H) elt te)
  (hk:scope.kind=.function) (hcell:∀y∈scope.names,y.2≠.cell) (hfree:∀y∈scope.names,y.2=.free->X.env.kindOf y.1=some .cell\/X.env.kindOf y.1=some .free) (hjs:II X.N scope N' js=true)
  (hRR:∀D C H' s',Inv X pins σ H' s'->Q (.ref D) H'->(∃m,s'.heap.Ns C m)->H' C=none->C≠X.env.locals->X.s₀.heap.objs.size<=C->C∉X.fs->(∀x c,X.env.cells.lookup x=some c->c≠C)->(∀p∈X.pn++pins,p.1≠C) ->
   RR (.ref D) C (.ok .next) s') :
  wpAny (model X.prog X.w) X.A (newList []) (λacc s₃=>wpAny (model X.prog X.w) X.A (newFunctionEnv scope X.env.globals (lU X.env.cells scope.names []) [] X.env.qual none .none (some X.env)) (λcenv s₄ =>
   codeAny (model X.prog X.w) X.A (.compStart (.ListComp elt [⟨target,iter,ifs,0⟩] scope pos) 0 (.ref it) acc { cenv with scope:=relabel scope X.env }) (RR acc cenv.locals) s₄) E s₃) E s:=by
 refine wpAny_newObj_type (wpAny_newFunctionEnv hcell (by intro y hy;simp at hy) (λh₁ hns₁ hsb₁=>?_) hk);dsimp only at hns₁ hsb₁ ⊢;have I3:Inv X pins σ (upd H s.heap.objs.size (.lst [])) { s with heap:=s.heap.push { cls:=.type "list",dict:=none,data:=.seq ([]:List Value).toArray } }:=I.lnew (its:=[]) (ys:=[]) (t':=s.toks) .nil (Nat.zero_le _);obtain⟨W,⟨m0,w0⟩,turn⟩:=q s.heap.objs.size I.fresh;generalize hD:s.heap.objs.size=D at I3 turn w0 ⊢;have hsz:(s.heap.push { cls:=.type "list",dict:=none,data:=.seq ([]:List Value).toArray }).objs.size=D+1:=by rw[Heap.size_push,hD]
 have fpl:∀b∈fp,b<D:=λb hb=>by
  obtain⟨o,e,_⟩:=T.obj _ _ st b hb;rw[<-hD];exact Heap.lt_size e
 generalize hs3:({ s with heap:=s.heap.push { cls:=.type "list",dict:=none,data:=.seq ([]:List Value).toArray } }:Shared)=s3 at I3;have eh:s.heap.push { cls:=.type "list",dict:=none,data:=.seq ([]:List Value).toArray }=s3.heap:=by rw[<-hs3]
 rw[eh]at hns₁ hsb₁ hsz ⊢;have f3:∀b∈fp,wG X pins (upd H D (.lst [])) b:=λb hb=>⟨by rw[aK (Nat.ne_of_lt (fpl b hb))];exact(f b hb).1,(f b hb).2⟩
 have keep1:∀b o,s3.heap.get? b=some o->h₁.get? b=some o:=λb o e=>hsb₁.extBut b o (Nat.ne_of_lt (Heap.lt_size e)) (Heap.get?_push_of_some _ e);have I4:=QW (N':=N') (js:=js) (tk:=s.toks+([]:List (Str×Value)).length) I3 hk hcell hfree hjs f3 (λb hb=>by rw[hsz];exact YQ (fpl b hb)) hns₁ keep1;have es:({ s with heap:=h₁,toks:=s.toks+([]:List (Str×Value)).length }:Shared)={ s3 with heap:=h₁,toks:=s.toks+([]:List (Str×Value)).length }:=by rw[<-hs3]
 rw[show({ s with heap:=h₁,toks:=s.toks+([]:List (Str×Value)).length }:Shared)={ s3 with heap:=h₁,toks:=s.toks+([]:List (Str×Value)).length } from es];have st4:tn 0 h₁:=T.keep _ _ _ st λb hb o e=>keep1 b o (eh▸Heap.get?_push_of_some _ e);have hCne:s3.heap.objs.size≠X.env.locals:=Nat.ne_of_gt I3.lt;have loop:∀s4:Shared,tn 0 s4.heap->Inv (X.comp N' scope (lU X.env.cells scope.names []) s3.heap.objs.size fp s3 (upd H D (.lst []))) [] (inner js σ) (upd H D (.lst [])) s4 ->
   codeAny (model X.prog X.w) X.A (.compLoop (.ListComp elt [⟨target,iter,ifs,0⟩] scope pos) 0 (.ref it) (.ref D) (compEnvC scope (lU X.env.cells scope.names []) s3.heap.objs.size X.env)) (RR (.ref D) s3.heap.objs.size) s4:=by
  intro s4 st4 I4;generalize hX:X.comp N' scope (lU X.env.cells scope.names []) s3.heap.objs.size fp s3 (upd H D (.lst []))=X' at I4;have xprog:X'.prog=X.prog:=by rw[<-hX];rfl
  have stat:∀{H':Hp},(∀b∈fp,H' b=none)->∀b∈fp,wG X' [] H' b:=λhn b hb=>by
   rw[<-hX];refine⟨hn b hb,?_,?_,.inl hb,?_,λp hp=>nomatch hp⟩
   ·exact Nat.ne_of_lt (by show b<s3.heap.objs.size;rw[hsz];exact YQ (fpl b hb))
   ·exact λz=>(Zn.mp (I3.stkSub b z)).elim (f3 b hb).2.1 (f3 b hb).2.2.1
   ·intro x c e;rcases DV _ _ e with z | z
    ·simp at z
    ·exact(f3 b hb).2.2.2.2.1 x c z
  have hg':=hg (lU X.env.cells scope.names []) s3.heap.objs.size fp s3 (upd H D (.lst []));have hf':=hf (lU X.env.cells scope.names []) s3.heap.objs.size fp s3 (upd H D (.lst []));have he':=he (lU X.env.cells scope.names []) s3.heap.objs.size fp s3 (upd H D (.lst []));rw[hX]at hg' hf' he';have xA:X'.A=X.A:=by rw[<-hX];rfl
  have xw:X'.w=X.w:=by rw[<-hX];rfl
  have xK:X'.K=X.K:=by rw[<-hX];rfl
  have xc:X'.calm=true:=by rw[<-hX];exact hc
  have xe:X'.env=compEnvC scope (lU X.env.cells scope.names []) s3.heap.objs.size X.env:=by rw[<-hX];rfl
  have xx:X'.xe=λ_ _=>False:=by rw[<-hX];rfl
  have T':Turn X'.prog X'.w X'.K target J fp it tn:=by rw[xprog,xw,xK];exact T
  rw[<-xA,<-xw,<-xprog,<-xe];refine GD (λn s'=>∃i ys H',Inv X' [] (inner js σ) H' s'/\tn i s'.heap/\(∀b∈fp,H' b=none)/\W i n ys H') ?_ m0 ⟨0,[],_,I4,st4,λb hb=>(f3 b hb).1,w0⟩;rintro n s5 ⟨i,ys,H5,I5,st5,fr5,w5⟩;rcases turn i n ys H5 w5 with⟨stop,q⟩ | ⟨go,N,hN,step⟩
  ·refine thn (T'.done X' rfl rfl rfl xc i [] s5 _ H5 _ I5 (stat fr5) st5 stop) λr s6 ⟨hr,I6⟩=>?_;subst hr;subst hX;have I7:Inv X pins σ H5 s6:=I3.call' (s':=s6) I6.os I6.base I6.hok I6.bare λb hb=>⟨(f3 b hb).2.2.2.1,(f3 b hb).2.1,(f3 b hb).2.2.2.2.1,(f3 b hb).2.2.2.2.2⟩
   obtain⟨m6,hn6,_⟩:=I6.loc;refine hRR D s3.heap.objs.size H5 s6 I7 q ⟨m6,hn6⟩ I6.free hCne I3.sz (I3.nofs (Nat.le_refl _)) (λx c e z=>?_) (λp hp z=>?_)
   ·obtain⟨v,y⟩:=I3.cell x c e;exact absurd (Yt y.lt (by rw[z];exact Nat.le_refl _)) (Nat.lt_irrefl _)
   ·exact absurd (Yt (Heap.lt_size (I3.pin p hp).1) (by rw[z];exact Nat.le_refl _)) (Nat.lt_irrefl _)
  ·refine thn (T'.item X' rfl rfl rfl xc i [] s5 _ H5 _ I5 (stat fr5) st5 go) λr s6 ⟨u,hr,h6⟩=>?_;subst hr;refine thn h6 λ_ s7 ⟨x,H7,I7,r7,y7,st7,fr7⟩=>?_;have I7':=I7.pinned (stat fr7) (T.obj _ _ st7);refine ZX (hg' _ s7 _ H7 x u _ I7' r7 (step x H7 y7)) (λ_ s8 ⟨σ8,H8,I8,fill8,q8⟩=>?_) (λ_ _ z=>by rw[xx]at z;exact z);refine ZX (hf' _ s8 σ8 H8 _ I8 q8) (λb s9 ⟨H9,I9,q9⟩=>?_) (λ_ _ z=>by rw[xx]at z;exact z);have again:∀{H':Hp}{s':Shared}{ys':List V},Inv X' ([]++yU fp s7.heap) σ8 H' s'->N ys' H'->∃m,m<n/\∃i ys H',Inv X' [] (inner js σ) H' s'/\tn i s'.heap/\(∀b∈fp,H' b=none)/\W i m ys H':=λ{H' s' ys'} I' n'=>by
    obtain⟨m',hm,w'⟩:=hN ys' H' n';refine⟨m',hm,i+1,ys',H',I'.unpinned.weak fill8.len fill8.at_,T.keep _ _ _ st7 λb hb o e=>(I'.pin (b,o) (List.mem_append_right _ (List.mem_append_right _ (mT hb e)))).1,λb hb=>?_,w'⟩;obtain⟨o,e,d⟩:=T.obj _ _ st7 b hb;exact(I'.pin (b,o) (List.mem_append_right _ (List.mem_append_right _ (mT hb e)))).2.1
   cases b with
   |false=>exact again I9 q9
   |true =>
    refine ZX (he' _ s9 σ8 H9 _ I9 q9) (λyv s10 ⟨y,H10,I10,ry,hD10,hz,q10⟩=>?_) (λ_ _ z=>by rw[xx]at z;exact z);refine ZX (b9 (X:=X') _ s10 σ8 H10 (.ref D) [y] (.ref D) [yv] (λ_ H'=>H'=upd H10 D (.lst (ys++[y]))) I10 rfl (.cons ry .nil) ⟨D,ys,y,rfl,rfl,hD10,hz,rfl⟩) (λ_ s11 ⟨_,H11,I11,_,e11⟩=>?_) (λ_ _ z=>by rw[xx]at z;exact z);subst e11;exact again I11 q10
 have l4:=loop { s3 with heap:=h₁,toks:=s.toks+([]:List (Str×Value)).length } st4 I4;exact codeAny_compStart_list l4 (T.self _ 0 _ _ _ st4 l4)
theorem gK{N':List Str}{js:List (Option Nat)}{scope:Scope}{target iter elt:Expr}{ifs:List Expr}{pos:Pos}{wi:TI}{g:TG}{tc:TT}{te:TE}(hc:X.calm=true)(hi:PI X target iter wi)
  (hg:∀cl C fp s H,PG (X.comp N' scope cl C fp s H) target g) (hf:∀cl C fp s H,PF (X.comp N' scope cl C fp s H) ifs tc) (he:∀cl C fp s H,PE (X.comp N' scope cl C fp s H) elt te)
  (hk:scope.kind=.function:=by rfl) (hcell:(scope.names.all λy=>y.2 != .cell)=true:=by rfl) (hfree:(scope.names.all λy=>y.2 != .free||(X.env.kindOf y.1==some .cell||X.env.kindOf y.1==some .free))=true:=by rfl)
  (hnames:(scope.names.all λy=>y.2 != .local||scope.names.lookup y.1==some .local)=true:=by rfl) (hjs:II X.N scope N' js=true:=by rfl) (hs:∀x,foldedSetIterable iter X.env x=pure x:=by intro _;rfl) :
  PE X (.ListComp elt [⟨target,iter,ifs,0⟩] scope pos) (UD js wi g tc te):=by
 have hcell':∀y∈scope.names,y.2≠.cell:=λy hy z=>by have:=List.all_eq_true.mp hcell y hy;simp[z]at this
 have hfree':∀y∈scope.names,y.2=.free->X.env.kindOf y.1=some .cell\/X.env.kindOf y.1=some .free:=λy hy z=>by have:=List.all_eq_true.mp hfree y hy;simpa[z] using this
 have hnames':∀y∈scope.names,y.2=.local->scope.names.lookup y.1=some .local:=λy hy z=>by have:=List.all_eq_true.mp hnames y hy;simpa[z] using this
 intro pins s σ H Q I h;rw[eval_ListComp];refine wpAny_comprehension_free (use:=none) rfl hs (qI λx hx z=>I.ok.has x.1 (hfree' x hx z)) hk hnames' ?_;refine thn (hi pins s σ H _ I h) λv s1 h1=>thn h1 λitv s2 h2=>?_;obtain⟨it,fp,tn,J,H2,e,I2,T,st2,f2,q2⟩:=h2;subst e;refine zU (RR:=λacc C=>compPost (model X.prog X.w) X.A X.xe none (EP X pins σ Q) acc C) I2 T st2 f2 hc q2 hg hf he hk hcell' hfree' hjs ?_;intro D C H' s' I' q ⟨m,hn⟩ c0 c1 c2 c3 c4 c5;exact⟨m,hn,λh' hs'=>⟨.ref D,H',I'.turned (t':=s'.toks) (λb o hb e=>(hs'.2 b hb).trans e) c0 c1 (.inr c2) c4 c5,rfl,q⟩⟩
theorem bU{N':List Str}{js:List (Option Nat)}{scope:Scope}{target iter elt:Expr}{ifs:List Expr}{pos pos' spos:Pos}{x:Str}{i:Nat}{wi:TI}{g:TG}{tc:TT}{te:TE}(hN:X.N.Nodup)(hi':X.N[i]?=some x)(hx:Loc X.env.scope x)(hc:X.calm=true)(hi:PI X target iter wi)
  (hg:∀cl C fp s H,PG (X.comp N' scope cl C fp s H) target g) (hf:∀cl C fp s H,PF (X.comp N' scope cl C fp s H) ifs tc) (he:∀cl C fp s H,PE (X.comp N' scope cl C fp s H) elt te)
  (hsw:swapsWith (.ListComp elt [⟨target,iter,ifs,0⟩] scope pos) (some (.Name x pos')) spos.line X.env=pure true:=by rfl)
  (hk:scope.kind=.function:=by rfl) (hcell:(scope.names.all λy=>y.2 != .cell)=true:=by rfl) (hfree:(scope.names.all λy=>y.2 != .free||(X.env.kindOf y.1==some .cell||X.env.kindOf y.1==some .free))=true:=by rfl)
  (hnames:(scope.names.all λy=>y.2 != .local||scope.names.lookup y.1==some .local)=true:=by rfl) (hjs:II X.N scope N' js=true:=by rfl) (hs:∀x,foldedSetIterable iter X.env x=pure x:=by intro _;rfl)
  (hfn:X.fn x=true\/X.env.scope.names.lookup x=some .local:=by first | exact .inl rfl | exact .inr rfl | assumption) :
  PS X (.Assign [.Name x pos'] (.ListComp elt [⟨target,iter,ifs,0⟩] scope pos) spos) (RM (UD js wi g tc te) (jH i)):=by
 have hcell':∀y∈scope.names,y.2≠.cell:=λy hy z=>by have:=List.all_eq_true.mp hcell y hy;simp[z]at this
 have hfree':∀y∈scope.names,y.2=.free->X.env.kindOf y.1=some .cell\/X.env.kindOf y.1=some .free:=λy hy z=>by have:=List.all_eq_true.mp hfree y hy;simpa[z] using this
 have hnames':∀y∈scope.names,y.2=.local->scope.names.lookup y.1=some .local:=λy hy z=>by have:=List.all_eq_true.mp hnames y hy;simpa[z] using this
 intro pins s σ H D I h;rw[exec_Assign_Name_used _ _ _ _ hsw];refine ZZ (wpAny_standAt (ZZ ?_));show wpAny _ X.A (do let _ <-comprehension (.ListComp elt [⟨target,iter,ifs,0⟩] scope pos) scope X.env _ (newList []) false (eval iter X.env) (some (assign (.Name x pos') X.env))) _ _ s;refine ZZ (ZX (wpAny_comprehension_free (use:=some (assign (.Name x pos') X.env)) (Q:=λ_ s'=>SP X pins D .next s') rfl hs (qI λx hx z=>I.ok.has x.1 (hfree' x hx z)) hk hnames' ?_) (λ_ s' hq=>ZY (ZY hq)) λ_ _ e=>e);refine thn (hi pins s σ H _ I h) λv s1 h1=>thn h1 λitv s2 h2=>?_;obtain⟨it,fp,tn,J,H2,e,I2,T,st2,f2,q2⟩:=h2;subst e;refine zU (Q:=λx H1=>jH i x σ H1 D.nx) (RR:=λacc C=>compPost (model X.prog X.w) X.A X.xe (some (assign (.Name x pos') X.env)) (λ_ s'=>SP X pins D .next s') acc C) I2 T st2 f2 hc q2 hg hf he hk hcell' hfree' hjs ?_;intro D' C H' s' I' q ⟨m,hn⟩ c0 c1 c2 c3 c4 c5;obtain⟨oC,es,ep,hoC,hdC,rC⟩:=id hn;have I'':Inv X (pins++[(C,oC)]) σ H' s':=I'.pins_of λp hp=>(Zf.mp hp).elim (λz=>I'.pin p (List.mem_append_right _ z)) λz=>by
  have e:=Zb.mp z;subst e;exact⟨hoC,c0,c1,c3,λv z=>by rw[hdC]at z;cases z⟩
 show wpAny _ X.A (assign (.Name x pos') X.env (.ref D')) _ _ _;refine wpAny_assign_Name (xW I'' hN hi' hx (v:=.ref D') rfl (λs3 I3=>?_) hfn);have hC3:=I3.pin (C,oC) (List.mem_append_right _ (List.mem_append_right _ (Zb.mpr rfl)));refine⟨m,⟨oC,es,ep,hC3.1,hdC,rC⟩,λh' hs'=>?_⟩;exact⟨_,H',I3.unpinned.turned (t':=s3.toks) (λb o hb e=>(hs'.2 b hb).trans e) c0 c1 (.inr c2) c4 c5,q⟩
end
theorem m4{J:It}{js:List (Option Nat)}{σ:St}{H1:Hp}{R:Hp->Prop}{D:Addr}{g:TG}{tc:TT}{te:TE}(n:Nat)(Pv:Nat->List V->Hp->Prop)(h0:Pv 0 [] (upd H1 D (.lst [])))
  (hs:∀i ys H,i<n->Pv i ys H->J.go i H/\∀x H',J.yld i H x H'->g x (inner js σ) H' λσ2 H2=>Fills (inner js σ) σ2/\tc σ2 H2 λb H3 =>
   if b=true then te σ2 H3 λy H4=>H4 D=some (.lst ys)/\ys.length<ZW/\Pv (i+1) (ys++[y]) (upd H4 D (.lst (ys++[y]))) else Pv (i+1) ys H3)
  (hd:∀ys H,Pv n ys H->J.stop n H/\R H) :
  ∃W:Nat->Nat->List V->Hp->Prop,(∃m,W 0 m [] (upd H1 D (.lst []))) /\
   ∀i m ys H,W i m ys H->(J.stop i H/\R H)\/(J.go i H/\∃N:List V->Hp->Prop,(∀ys' H',N ys' H'->∃m',m' < m/\W (i+1) m' ys' H')/\∀x H',J.yld i H x H'->g x (inner js σ) H' λσ2 H2=>Fills (inner js σ) σ2/\tc σ2 H2 λb H3 =>
    if b=true then te σ2 H3 λy H4=>H4 D=some (.lst ys)/\ys.length<ZW/\N (ys++[y]) (upd H4 D (.lst (ys++[y]))) else N ys H3):=by
 refine⟨λi m ys H=>m=n-i/\i<=n/\Pv i ys H,⟨n,by simp,Nat.zero_le _,h0⟩,?_⟩;rintro i m ys H ⟨rfl,hi,p⟩;by_cases hlt:i<n
 ·obtain⟨go,step⟩:=hs i ys H hlt p;exact .inr ⟨go,Pv (i+1),λys' H' p'=>⟨n-(i+1),by omega,rfl,hlt,p'⟩,step⟩
 ·have e:i=n:=by lia
  subst e;exact .inl (hd ys H p)
theorem comp_map{J:It}{js:List (Option Nat)}{σ:St}{H1:Hp}{R:Hp->Prop}{D:Addr}{g:TG}{te:TE}(n:Nat)(Pv:Nat->List V->Hp->Prop)(h0:Pv 0 [] (upd H1 D (.lst [])))
  (hs:∀i ys H,i<n->Pv i ys H->J.go i H/\∀x H',J.yld i H x H'->g x (inner js σ) H' λσ2 H2=>Fills (inner js σ) σ2/\te σ2 H2 λy H4=>H4 D=some (.lst ys)/\ys.length<ZW/\Pv (i+1) (ys++[y]) (upd H4 D (.lst (ys++[y]))))
  (hd:∀ys H,Pv n ys H->J.stop n H/\R H) :
  ∃W:Nat->Nat->List V->Hp->Prop,(∃m,W 0 m [] (upd H1 D (.lst []))) /\
   ∀i m ys H,W i m ys H->(J.stop i H/\R H)\/(J.go i H/\∃N:List V->Hp->Prop,(∀ys' H',N ys' H'->∃m',m' < m/\W (i+1) m' ys' H')/\∀x H',J.yld i H x H'->g x (inner js σ) H' λσ2 H2=>Fills (inner js σ) σ2/\A5 σ2 H2 λb H3 =>
    if b=true then te σ2 H3 λy H4=>H4 D=some (.lst ys)/\ys.length<ZW/\N (ys++[y]) (upd H4 D (.lst (ys++[y]))) else N ys H3):=by
 refine m4 n Pv h0 ?_ hd;simp only[A5,if_true];exact hs
end L2
set_option Elab.async false
set_option linter.all false
set_option maxRecDepth 100000
set_option maxHeartbeats 4000000
namespace L2
open PySem PySem.Spec PyProof.Rows
def YK(lo c:Int)(n:Nat):It:=⟨λi _=>i<n,λi H x H'=>H'=H/\x=.int (lo+i*c),λi _=>n<=i⟩
theorem EJ{P:Program}{w:World}{K:PySem.W.Frag}{tg:Expr}(it:Addr)(lo c:Int)(n:Nat):Turn P w K tg (YK lo c n) [it] it (λi h=>IsRangeIter h it (lo+(i:Nat)*c) ((n:Int)-(i:Nat)) c) where
 mem:=by simp
 obj:=λi h st b hb=>by
  have e:b=it:=by simpa using hb
  subst e;exact⟨_,st,λv z=>by
   have z':Data.fields _=Data.cell v:=z;cases z'⟩
 keep:=λi h h' st k=>k it (by simp) _ st
 item:=by
  intro X hP hw hK hc i pins s σ H E I hf st hg;subst hP hw hK;obtain⟨f0,f1,f2,f3,f4,f5⟩:=hf it (by simp);have W:=Walks.range (prog:=X.prog) (w:=X.w) (I.ok.hd hc) it lo c n;refine W.item i s _ _ hg st λv h' tk hv st' kk=>?_;obtain⟨t,rfl⟩:=hv;have I1:Inv X pins σ H { s with heap:=h',toks:=tk }:=I.turned (λb o hb e=>kk b o (by simpa using hb) e) f0 f1 f3 f4 f5;exact⟨_,rfl,QI (s:={ s with heap:=h',toks:=tk }) (n:="range_iterator") st' rfl rfl (by decide) ⟨.int (lo+i*c),H,I1,⟨t,rfl⟩,⟨rfl,rfl⟩,st',λb hb=>(hf b hb).1⟩⟩
 done:=by
  intro X hP hw hK hc i pins s σ H E I hf st hg;subst hP hw hK;obtain⟨f0,f1,f2,f3,f4,f5⟩:=hf it (by simp);exact wpAny_pyNext_range_end (I.ok.hd hc) st (by have:n<=i:=hg;lia) λh' eb=>⟨rfl,I.turned (t':=s.toks) (λb o hb e=>eb b o hb e) f0 f1 f3 f4 f5⟩
 self:=λ_ _ _ _ _ st h=>wpAny_pyIter_rangeiter st h
section
variable{X:Cx}{tg:Expr}
def XW(ta:TA):TI:=λσ H R=>ta σ H λvs H1=>∃n:Nat,vs=[.int 0,.int (2*n),.int 2]/\n<1000000/\R (YK 0 2 n) H1
theorem L5{a b c:Expr}{ta:TA}{p pos:Pos}(hg:Gl X "range")(hm:X.mg "range" = none)(ha:PA X [a,b,c] ta)(hs:starEach [a,b,c] X.env=[(false,eval a X.env),(false,eval b X.env),(false,eval c X.env)]:=by rfl)
  (hs2:starEach [b,c] X.env=[(false,eval b X.env),(false,eval c X.env)]:=by rfl):PI X tg (.Call (.Name "range" p) [a,b,c] [] pos) (XW ta):=by
 intro pins s σ H R I h;refine Call_ (rJ I hg hm boot_range (PyProof.Rows.callWith_type1 (thn (ha pos pins s σ H _ I h) λus s1 ⟨vs,H1,I1,r1,q1⟩=>?_) (by rw[hs,hs2]) (by rw[hs2];rfl)));obtain⟨n,e,hn,q⟩:=q1;subst e;cases r1 with
 |cons r rr =>
  cases rr with
  |cons r' rr =>
   cases rr with
   |cons r'' rr =>
    cases rr;obtain⟨t,rfl⟩:=r;obtain⟨t',rfl⟩:=r';obtain⟨t'',rfl⟩:=r'';refine call_range_3 (by decide) ?_ (.inl (PyProof.noPylong_small (by lia)));have hsz:Builtin.Range.rangeSize 0 (2*n) 2=n:=by
     unfold Builtin.Range.rangeSize;simp only[show(2:Int)>0 by decide,if_true];split<;>lia
    have hsmall:Builtin.Range.small 0 (2*n) 2=true:=by
     unfold Builtin.Range.small;rw[hsz];have fits:∀i:Int,-(2 ^ 62)<=i->i<2 ^ 62->Builtin.Range.rangeFitsLong i=true:=λi h1 h2=>by
      unfold Builtin.Range.rangeFitsLong;rw[Xw,decide_eq_true_eq,decide_eq_true_eq]
      lia
     simp only[fits 0 (by lia) (by lia),fits (2*n) (by lia) (by lia),fits 2 (by lia) (by lia),fits n (by lia) (by lia),Bool.true_and,Bool.and_true];rw[if_pos (by decide),fits (2*n+(2-1)) (by lia) (by lia),Bool.or_true]
    refine wpAny_pyIter_range (IsRange.new ..) hsmall ?_;have I2:Inv X pins σ H1 { s1 with heap:=s1.heap.push { cls:=.type "range",data:=.fields #[.int 0 t,.int (2*n) t',.int 2 t''] },toks:=s1.toks }:=I1.kept λb o e=>Heap.get?_push_of_some _ e;refine⟨(s1.heap.push { cls:=.type "range",data:=.fields #[.int 0 t,.int (2*n) t',.int 2 t''] }).objs.size,[(s1.heap.push { cls:=.type "range",data:=.fields #[.int 0 t,.int (2*n) t',.int 2 t''] }).objs.size],_,_,H1,rfl,
     I2.kept (t':=s1.toks) λb o e=>Heap.get?_push_of_some _ e,EJ _ 0 2 n,?_,λb hb=>?_,q⟩
    ·show IsRangeIter _ _ (0+((0:Nat):Int)*2) ((n:Int)-((0:Nat):Int)) 2;have e1:(0:Int)+((0:Nat):Int)*2=0:=by simp
     have e2:(n:Int)-((0:Nat):Int)=Builtin.Range.rangeSize 0 (2*n) 2:=by rw[hsz];simp
     rw[e1,e2];exact Heap.get?_push_size _ rfl
    ·have e:b=(s1.heap.push { cls:=.type "range",data:=.fields #[.int 0 t,.int (2*n) t',.int 2 t''] }).objs.size:=by simpa using hb
     subst e;exact I2.fpOk (Nat.le_refl _) (I2.hok.fresh (Nat.le_refl _))
end
section
variable{X:Cx}{pins:List (Addr×Obj)}{σ:St}{H:Hp}{s:Shared}{h':Heap}
theorem Inv.turnedNew{t':Nat}{ch:List Addr}{T:Addr}{o:HO}(I:Inv X pins σ H s)(k:∀b u,b∉ch->s.heap.get? b=some u->h'.get? b=some u)(there:∀b u,s.heap.get? b=some u->∃u',h'.get? b=some u')(hT:s.heap.objs.size<=T)
  (hf:∀b∈ch,wG X pins H b) (new:eO X.prog X.w (upd H T o) h' T o):Inv X pins σ (upd H T o) { s with heap:=h',toks:=t' }:=by
 have hn:=I.hok.fresh hT;have nit:∀b u,H b=some u->b∉ch:=λb u e z=>by rw[(hf b z).1]at e;cases e
 refine I.step (g':=s.gens) (d':=s.drawn) (ch:=ch) (λb hb=>?_) (λb o _ _ hc e _=>k b o hc e) (λb o _ _ hc e _=>⟨o.slots,k b o hc e⟩) (λb u hc e n=>?_) (λb u hc e=>there b u e)
  (λb xs e=>?_) (λb ob u e=>?_) (λb ps e=>⟨#[],?_⟩) (λm hm=>?_) (λb u e=>?_) I.bare
 ·exact⟨(hf b hb).2.2.2.1,(hf b hb).2.1,(hf b hb).2.2.2.2.1,(hf b hb).2.2.2.2.2⟩
 ·rw[aK (Nat.ne_of_lt (Yt (Heap.lt_size e) hT))];exact n
 ·rw[aK (aH e hn)];exact e
 ·rw[aK (aH e hn)];exact e
 ·rw[aK (aH e hn),e];simp
 ·obtain⟨ob,es,ep,ho,r⟩:=hm;exact⟨ob,es,ep,k _ ob (λz=>(hf _ z).2.1 rfl) ho,r⟩
 ·by_cases hb:b=T
  ·subst hb;rw[aB]at e;cases e;exact new
  ·rw[aK hb]at e;refine(I.hok b u e).stay (λc v hc q=>k c v ?_ q) (λc q=>by rw[aK (aH q hn)];exact q) λc xs q=>by rw[aK (aH q hn)];exact q
   rcases hc with z | z
   ·rw[z];exact nit b u e
   ·exact nit c _ z
end
def Ite(K:PySem.W.Frag)(a:Addr):It :=
 ⟨λi H=>∃xs x,SqL K H a xs/\xs[i]?=some x,λi H v H'=>∃T x,v=.ref T/\H T=none/\H'=upd H T (.tup [.int i,x])/\∀xs,SqL K H a xs->xs[i]?=some x,λi H=>∃xs,SqL K H a xs/\xs.length<=i⟩
theorem LJ{P:Program}{w:World}{K:PySem.W.Frag}{elts:List Expr}{k:Nat}{pos:Pos}(a e it:Addr)(hei:e≠it):Turn P w K (.Tuple elts k pos) (Ite K a) [e,it] e (λi h=>(∃old,IsEnum h e it i old)/\h.IsListIter it a i) where
 mem:=by simp
 obj:=λi h st b hb=>by
  obtain⟨⟨old,he⟩,o,ho,hc,hd⟩:=st;rcases Zn.mp hb with rfl | hb
  ·exact⟨_,he,λv z=>by
    have z':Data.fields _=Data.cell v:=z;cases z'⟩
  ·have e':=Zb.mp hb;subst e';exact⟨o,ho,λv z=>by rw[hd]at z;cases z⟩
 keep:=λi h h' st k=>by
  obtain⟨⟨old,he⟩,hit⟩:=st;exact⟨⟨old,k e (by simp) _ he⟩,hit.at λo x=>k it (by simp) o x⟩
 item:=by
  intro X hP hw hK hc i pins s σ H E I hf st hg;subst hP hw hK;obtain⟨⟨old,he⟩,hit⟩:=st;obtain⟨xs,x,hq,hx⟩:=hg;obtain⟨its,rv,pl,hz⟩:=I.list hq;obtain⟨u,hu,ru⟩:=rv.get hx;have hux:its.toArray[i]?=some u:=by simpa using hu
  refine wpAny_pyNext_enum_item he hit pl.isList hux hei λh' ho hit' hT hsz hk=>?_;refine⟨_,rfl,?_⟩;have kk:∀b v,b∉[e,it]->s.heap.get? b=some v->h'.get? b=some v:=λb v hb q=>hk b v (λz=>hb (by simp[z])) (λz=>hb (by simp[z])) q;have th:∀b v,s.heap.get? b=some v->∃v',h'.get? b=some v':=λb v q=>by
   by_cases h1:b=e
   ·subst h1;exact⟨_,ho⟩
   ·by_cases h2:b=it
    ·subst h2;obtain⟨o,q1,_⟩:=hit';exact⟨_,q1⟩
    ·exact⟨v,hk b v h1 h2 q⟩
  have I1:Inv X pins σ (upd H s.heap.objs.size (.tup [.int i,x])) { s with heap:=h',toks:=s.toks+1 } :=
   I.turnedNew (ch:=[e,it]) kk th (Nat.le_refl _) hf ⟨by show 2<=ZW;decide,[.int i s.toks,u],.cons ⟨_,rfl⟩ (.cons ru .nil),⟨_,hT,rfl,_,rfl⟩⟩
  refine wpAny_letOwnedTupleGo_enum ho λh2 he2 hs2=>?_;have fe:=hf e (by simp);have fi:=hf it (by simp);have hTe:e≠s.heap.objs.size:=Nat.ne_of_lt (Heap.lt_size he);have hTi:it≠s.heap.objs.size:=by obtain⟨o,q1,_⟩:=hit;exact Nat.ne_of_lt (Heap.lt_size q1)
  have I2:Inv X pins σ (upd H s.heap.objs.size (.tup [.int i,x])) { s with heap:=h2,toks:=s.toks+1 } :=
   Inv.turned (s:={ s with heap:=h',toks:=s.toks+1 }) (h':=h2) (t':=s.toks+1) (it:=e) I1 (λb o hb q=>(hs2.2 b hb).trans q) (by rw[aK hTe];exact fe.1) fe.2.1 fe.2.2.2.1 fe.2.2.2.2.1 fe.2.2.2.2.2
  refine⟨.ref s.heap.objs.size,_,I2,rfl,⟨s.heap.objs.size,x,rfl,I.fresh,rfl,λys hys=>by rw[I.list_inj hys hq];exact hx⟩,⟨⟨_,by simpa using he2⟩,hit'.at λo q=>(hs2.2 it hei.symm).trans q⟩,λb hb=>?_⟩;rcases Zn.mp hb with rfl | hb
  ·rw[aK hTe];exact fe.1
  ·have e':=Zb.mp hb;subst e';rw[aK hTi];exact fi.1
 done:=by
  intro X hP hw hK hc i pins s σ H E I hf st hg;subst hP hw hK;obtain⟨⟨old,he⟩,hit⟩:=st;obtain⟨xs,hq,hl⟩:=hg;obtain⟨its,rv,pl,hz⟩:=I.list hq;have hlen:=rv.length;obtain⟨f0,f1,f2,f3,f4,f5⟩:=hf it (by simp);refine wpAny_pyNext_enum_end (I.ok.hd hc) he hit pl.isList (by simp;lia) λh' eb=>⟨rfl,?_⟩
  exact I.turned (t':=s.toks) (λb o hb q=>eb b o hb q) f0 f1 f3 f4 f5
 self:=λ_ _ _ _ _ st h=>by
  obtain⟨⟨old,he⟩,_⟩:=st;exact wpAny_pyIter_enum he h
section
variable{X:Cx}
def XZ(K:PySem.W.Frag)(ta:TA):TI:=λσ H R=>ta σ H λvs H1=>∃a,vs=[.ref a]/\(∃xs,SqL K H1 a xs)/\R (Ite K a) H1
theorem fH{a:Expr}{ta:TA}{p pos:Pos}{elts:List Expr}{k:Nat}{tpos:Pos}(hg:Gl X "enumerate")(hm:X.mg "enumerate" = none)(ha:PA X [a] ta)(hs:starEach [a] X.env=[(false,eval a X.env)]:=by rfl) :
  PI X (.Tuple elts k tpos) (.Call (.Name "enumerate" p) [a] [] pos) (XZ X.K ta):=by
 intro pins s σ H R I h;refine Call_ (rJ I hg hm (show bootBuiltins "enumerate" = some (.type "enumerate") by decide +kernel) (PyProof.Rows.callWith_type1 (thn (ha pos pins s σ H _ I h) λus s1 ⟨vs,H1,I1,r1,q1⟩=>?_) hs rfl));obtain⟨l,e,⟨xs,hq⟩,q⟩:=q1;subst e;cases r1 with
 |cons r rr =>
  cases rr;cases r;obtain⟨its,rv,pl,hz⟩:=I1.list hq;refine call_enumerate_list pl.isList λh' he hit hsz hk=>?_;refine wpAny_pyIter_enum he ?_;have I2:Inv X pins σ H1 { s1 with heap:=h' }:=I1.kept (t':=s1.toks) hk;refine⟨s1.heap.objs.size+1,[s1.heap.objs.size+1,s1.heap.objs.size],_,_,H1,rfl,I2,LJ l _ _ (Nat.succ_ne_self _),⟨⟨_,by simpa using he⟩,hit⟩,λb hb=>?_,q⟩;rcases Zn.mp hb with rfl | hb
  ·exact I1.fpOk (Nat.le_succ _) (I1.hok.fresh (Nat.le_succ _))
  ·have e':=Zb.mp hb;subst e';exact I1.fpOk (Nat.le_refl _) (I1.hok.fresh (Nat.le_refl _))
end
mutual
inductive Bd(K:PySem.W.Frag)(H:Hp):V->PyData->Prop
 |int (i:Int):Bd K H (.int i) (.int i)
 |non:Bd K H .non .none
 |bl (b:Bool):Bd K H (.bl b) (.bool b)
 |lst {a:Addr}{xs:List V}{ds:List PyData}:SqL K H a xs->Bds K H xs ds->Bd K H (.ref a) (.list ds)
 |tup {a:Addr}{xs:List V}{ds:List PyData}:SqT K H a xs->Bds K H xs ds->Bd K H (.ref a) (.tuple ds)
inductive Bds(K:PySem.W.Frag)(H:Hp):List V->List PyData->Prop
 |nil:Bds K H [] []
 |cons {x:V}{xs:List V}{d:PyData}{ds:List PyData}:Bd K H x d->Bds K H xs ds->Bds K H (x::xs) (d::ds)
end
theorem Bds.ints{K:PySem.W.Frag}{H:Hp}:∀ns:List Int,Bds K H (ns.map V.int) (ns.map PyData.int)
 |[]=>.nil
 |n::ns=>.cons (.int n) (Bds.ints ns)
section
variable{X:Cx}{pins:List (Addr×Obj)}{σ:St}{H:Hp}{s:Shared}
mutual
theorem Bd.reads(I:Inv X pins σ H s):∀{x:V}{d:PyData}{u:Value},Bd X.K H x d->RelV x u->∃as,Reads s.heap u d as
 |_,_,u,.int i,r=>by obtain⟨t,rfl⟩:=r;exact⟨_,.int i t⟩
 |_,_,u,.non,r=>by cases r;exact⟨_,.none⟩
 |_,_,u,.bl b,r=>by cases r;exact⟨_,.bool b⟩
 |_,_,u,.lst hq b,r=>by
  cases r;obtain⟨its,rv,⟨o,n,e,hc,_,hd⟩,hz⟩:=I.list hq;obtain⟨as,h⟩:=Bds.reads I b rv;exact⟨_,.list e hc hd (by simpa using h)⟩
 |_,_,u,.tup hq b,r=>by
  cases r;obtain⟨its,rv,⟨o,e,hc,n,hd⟩,hz⟩:=I.tuple hq;obtain⟨as,h⟩:=Bds.reads I b rv;exact⟨_,.tuple e hc hd (by simpa using h)⟩
theorem Bds.reads(I:Inv X pins σ H s):∀{xs:List V}{ds:List PyData}{us:List Value},Bds X.K H xs ds->b0 xs us->∃as,ReadsAll s.heap us ds as
 |_,_,_,.nil,r=>by cases r;exact⟨_,.nil⟩
 |_,_,_,.cons b bs,r=>by
  cases r with
  |cons r rr =>
   obtain⟨as,h⟩:=Bd.reads I b r;obtain⟨bs',h'⟩:=Bds.reads I bs rr;exact⟨_,.cons h h'⟩
end
end
section
variable{X:Cx}
def Y3(K:PySem.W.Frag)(neg:Bool):R2:=λx y H Q=>∃dx dy,Bd K H x dx/\Bd K H y dy/\SeqAt.shaped dx=true/\SeqAt.shaped dy=true/\Q (.bl (PyData.eqv dx dy ^^ neg)) H
theorem O2(hu:X.A.units+64<cLine):OpR X (compareOp .NotEq) (Y3 X.K true):=by
 intro pins s σ H x y v u Q I rx ry h;obtain⟨dx,dy,bx,b_y,sx,sy,q⟩:=h;obtain⟨as,r1⟩:=bx.reads I rx;obtain⟨bs,r2⟩:=b_y.reads I ry;exact ne_dataH r1 r2 sx sy hu ⟨.bl _,H,I,rfl,by simpa using q⟩
end
section
variable{X:Cx}
end
end L2
namespace L2
open PySem PySem.Spec PyProof.Rows
theorem fU{c:Bool}{A B:Prop}(hc:c=false)(h:B):if c=true then A else B:=by subst hc;exact iY h
theorem gC{c:Bool}{A B:Prop}(hc:c=true)(h:A):if c=true then A else B:=by subst hc;exact vZ h
theorem aI{H:Hp}{p:Addr}(h:H p=none)(o:HO):aZ H (upd H p o):=λb u q=>by rw[aK (aH q h)];exact q
theorem aZ.tup{K:PySem.W.Frag}{H H':Hp}{a:Addr}{xs:List V}(e:aZ H H')(h:SqT K H a xs):SqT K H' a xs:=by
 rcases h with(h | ⟨o,h⟩) | h
 ·exact .inl (.inl (e _ _ h))
 ·exact .inl (.inr ⟨o,e _ _ h⟩)
 ·exact .inr h
section
variable{X:Cx}{K:PySem.W.Frag}
theorem fK(h:X.K=K):IxR X (VC K):=by subst h;exact aQ
theorem DI(h:X.K=K):IxR X (VB K):=by subst h;exact aP
theorem P8(h:X.K=K):OpR X (compareOp .In) (rIn K false):=by subst h;exact ME
theorem MS(h:X.K=K):OpR X (compareOp .NotIn) (rIn K true):=by subst h;exact C8
theorem pX{es:List Expr}{k:Nat}{t:TGs}{n:Nat}{pos:Pos}(e:X.K=K)(hc:X.calm=true)(h:PGs X es t)
  (hn:(assignEach es X.env).length=n:=by rfl) (hst:(assignEach es X.env).findIdx? (·.1)=none:=by rfl):PG X (.Tuple es k pos) (X0 K n t):=by subst e;exact eL hc h hn hst
end
end L2
namespace MM
def oth(e:Nat):Nat:=if e%2=0 then e+1 else e-1
theorem bG{n e:Nat}(h:e<2*n):oth e<2*n:=by unfold oth;split<;>omega
theorem iW(e:Nat):oth e / 2=e / 2:=by unfold oth;split<;>lia
theorem sQ(e:Nat):oth e%2=1-e%2:=by unfold oth;split<;>lia
theorem zD{a b:Nat}(h1:a / 2=b / 2)(h2:a%2=b%2):a=b:=by rw[<-Nat.div_add_mod a 2,<-Nat.div_add_mod b 2,h1,h2]
theorem cM(e:Nat):oth (oth e)=e:=zD (by rw[iW,iW]) (by rw[sQ,sQ];exact Nat.sub_sub_self (Nat.le_of_lt_succ (Nat.mod_lt e (Nat.zero_lt_succ 1))))
theorem fY{a b:Nat}(h:oth a=oth b):a=b:=by rw[<-cM a,<-cM b,h]
theorem oN:∀(N:Nat) (l:List Nat),l.Nodup->(∀x∈l,x<N)->l.length<=N
 |0,[],_,_=>Nat.le_refl _
 |0,x::_,_,h=>absurd (h x Zd) (Nat.not_lt_zero _)
 |N+1,l,nd,h=>by
  have ih:=oN N (l.erase N) (nd.erase N) (λx hx=>by
   have h1:=(nd.mem_erase_iff).mp hx;have h2:=h x h1.2
   lia)
  have hl:=List.length_erase (a:=N) (l:=l);split at hl<;>lia
def iter(f:Nat->Nat):Nat->Nat->Nat
 |0,e=>e
 |n+1,e=>f (iter f n e)
structure cE(f:Nat->Nat)(N:Nat):Prop where
 lt:∀e,e<N->f e<N
 inj:∀a b,a<N->b<N->f a=f b->a=b
theorem cP{f:Nat->Nat}{N:Nat}(m:cE f N){e:Nat}(h:e<N):∀k,iter f k e<N
 |0=>h
 |k+1=>m.lt _ (cP m h k)
theorem iB(f:Nat->Nat)(e:Nat)(i:Nat):∀k,iter f (i+k) e=iter f k (iter f i e)
 |0=>rfl
 |k+1=>by show f (iter f (i+k) e)=f (iter f k (iter f i e));rw[iB f e i k]
theorem sV{f:Nat->Nat}{N:Nat}(m:cE f N){a b:Nat}(ha:a<N)(hb:b<N):∀k,iter f k a=iter f k b->a=b
 |0,h=>h
 |k+1,h=>sV m ha hb k (m.inj _ _ (cP m ha k) (cP m hb k) h)
def path(f:Nat->Nat)(e k:Nat):List Nat:=(List.range k).map λi=>iter f i e
theorem oJ(f:Nat->Nat)(e k:Nat):(path f e k).length=k:=by unfold path;simp
theorem uG(f:Nat->Nat)(e k:Nat):path f e (k+1)=path f e k++[iter f k e]:=by unfold path;rw[List.range_succ,Zt];rfl
theorem lL{f:Nat->Nat}{e k x:Nat}:x∈path f e k↔∃i,i<k/\iter f i e=x:=by
 unfold path;simp[Zh,Zs]
theorem rF{f:Nat->Nat}{N:Nat}(m:cE f N){e:Nat}(he:e<N):∀k,(∀j,0<j->j<k->iter f j e≠e)->(path f e k).Nodup
 |0,_=>List.nodup_nil
 |k+1,h=>by
  rw[uG];have ih:=rF m he k (λj h0 h1=>h j h0 (by lia));rw[List.nodup_append];refine⟨ih,by simp,?_⟩;intro a ha b hb e1;have hb':b=iter f k e:=by simpa using hb
  obtain⟨i,hi,rfl⟩:=lL.mp ha;have q:iter f i e=iter f k e:=e1.trans hb';have hk:k=(k-i)+i:=by lia
  have q2:iter f i e=iter f i (iter f (k-i) e):=by
   rw[<-iB,Nat.sub_add_cancel (Nat.le_of_lt hi)];exact q
  have q3:=sV m he (cP m he _) i q2;exact h (k-i) (by lia) (by lia) q3.symm
theorem J3{f:Nat->Nat}{N:Nat}(m:cE f N){e:Nat}(he:e<N)(k:Nat):∀x∈path f e k,x<N:=λx hx=>by
 obtain⟨i,_,rfl⟩:=lL.mp hx;exact cP m he i
theorem gS{f:Nat->Nat}{N:Nat}(m:cE f N){e:Nat}(he:e<N):∃k,0<k/\k<=N/\iter f k e=e:=by
 refine ZT λh=>?_;have no:∀j,0<j->j<N+1->iter f j e≠e:=λj h0 h1 q=>h ⟨j,h0,by lia,q⟩;have nd:=rF m he (N+1) no;have b:=oN N _ nd (J3 m he _);rw[oJ]at b
 lia
def qO(f:Nat->Nat)(e k:Nat):Prop:=0<k/\iter f k e=e/\∀j,0<j->j<k->iter f j e≠e
theorem ON{f:Nat->Nat}{N:Nat}(m:cE f N){e:Nat}(he:e<N):∃k,qO f e k/\k<=N:=by
 obtain⟨k,h0,h1,h2⟩:=gS m he;have:∀n k,k<=n->0<k->iter f k e=e->∃k',qO f e k'/\k'<=k:=by
  intro n;induction n with
  |zero=>intro k h1 h2;lia
  |succ n ih =>
   intro k h1 h2 h3;by_cases q:∃j,0<j/\j<k/\iter f j e=e
   ·obtain⟨j,j0,j1,j2⟩:=q;obtain⟨k',r,l⟩:=ih j (by lia) j0 j2;exact⟨k',r,by lia⟩
   ·exact⟨k,⟨h2,h3,λj j0 j1 j2=>q ⟨j,j0,j1,j2⟩⟩,Nat.le_refl _⟩
 obtain⟨k',r,l⟩:=this k k (Nat.le_refl _) h0 h2;exact⟨k',r,by lia⟩
theorem HP{f:Nat->Nat}{e k k':Nat}(a:qO f e k)(b:qO f e k'):k=k':=by
 rcases Nat.lt_trichotomy k k' with h | h | h
 ·exact absurd a.2.1 (b.2.2 k a.1 h)
 ·exact h
 ·exact absurd b.2.1 (a.2.2 k' b.1 h)
theorem yL{f:Nat->Nat}{e k j:Nat}(r:qO f e k)(h0:0<j)(hj:j<=k)(h:iter f j e≠e):j<k:=by
 rcases Xq j k with q | q
 ·exact q
 ·have:j=k:=by lia
  subst this;exact absurd r.2.1 h
abbrev bD:=List (Nat×Nat)
abbrev a7:=List (List Nat)
def place(ts:bD)(e:Nat):Nat:=if e%2=0 then (ts.getD (e / 2) (0,0)).1 else (ts.getD (e / 2) (0,0)).2
def row(os:a7)(p:Nat):List Nat:=os.getD p []
structure qP(pl:Nat->Nat)(M:Nat)(os:a7):Prop where
 ends:∀p e,e∈row os p->e<M/\pl e=p
 has:∀e,e<M->pl e<os.length/\e∈row os (pl e)
 nd:∀p,(row os p).Nodup
 full:∀p,p<os.length->row os p≠[]
 four:∀p,(row os p).length<=4
structure Good(ts:bD)(os:a7):Prop where
 g:qP (place ts) (2*ts.length) os
 one:1<=ts.length
theorem qP.congr{pl pl':Nat->Nat}{M:Nat}{os:a7}(g:qP pl M os)(h:∀e,e<M->pl' e=pl e):qP pl' M os where
 ends:=λp e he=>by
  have q:=g.ends p e he;exact⟨q.1,(h e q.1).trans q.2⟩
 has:=λe he=>by rw[h e he];exact g.has e he
 nd:=g.nd
 full:=g.full
 four:=g.four
theorem dR{os:a7}{a:Nat}{l:List Nat}(h:a<os.length):row (os.set a l) a=l:=by
 unfold row;simp[List.getD,h]
theorem fG{os:a7}{a p:Nat}{l:List Nat}(h:p≠a):row (os.set a l) p=row os p:=by
 unfold row;simp[List.getD,List.getElem?_set_ne (Ne.symm h)]
theorem qP.add{pl:Nat->Nat}{M:Nat}{os:a7}(g:qP pl M os){a:Nat}(ha:a<os.length)(hp:pl M=a){l:List Nat}(hm:∀x,x∈l↔x=M\/x∈row os a)(hn:l.Nodup)(h4:l.length<=4):qP pl (M+1) (os.set a l) where
 ends:=λp e he=>by
  by_cases hpa:p=a
  ·subst hpa;rw[dR ha]at he;rcases(hm e).mp he with rfl | he
   ·exact⟨Nat.lt_succ_self _,hp⟩
   ·have q:=g.ends _ e he;exact⟨by lia,q.2⟩
  ·rw[fG hpa]at he;have q:=g.ends p e he;exact⟨by lia,q.2⟩
 has:=λe he=>by
  rw[List.length_set];rcases Xq e M with h | h
  ·have q:=g.has e h;refine⟨q.1,?_⟩;by_cases hpa:pl e=a
   ·rw[hpa,dR ha];exact(hm e).mpr (.inr (hpa▸q.2))
   ·rw[fG hpa];exact q.2
  ·have e':e=M:=by lia
   subst e';rw[hp,dR ha];exact⟨ha,(hm e).mpr (.inl rfl)⟩
 nd:=λp=>by
  by_cases hpa:p=a
  ·subst hpa;rw[dR ha];exact hn
  ·rw[fG hpa];exact g.nd p
 full:=λp hp'=>by
  rw[List.length_set]at hp';by_cases hpa:p=a
  ·subst hpa;rw[dR ha];intro z;have:M∈l:=(hm M).mpr (.inl rfl);rw[z]at this;cases this
  ·rw[fG hpa];exact g.full p hp'
 four:=λp=>by
  by_cases hpa:p=a
  ·subst hpa;rw[dR ha];exact h4
  ·rw[fG hpa];exact g.four p
theorem sI{os:a7}{l:List Nat}(p:Nat):row (os++[l]) p=if p=os.length then l else row os p:=by
 unfold row;rcases Nat.lt_trichotomy p os.length with h | h | h
 ·rw[if_neg (by lia)];simp[List.getD,Zx h]
 ·subst h;simp[List.getD]
 ·rw[if_neg (by lia)];have h1:(os++[l])[p]?=none:=Zr (by rw[Zm];simp;lia);have h2:os[p]?=none:=Zr (by lia);simp[List.getD,h1,h2]
theorem qP.new{pl:Nat->Nat}{M:Nat}{os:a7}(g:qP pl M os)(hp:pl M=os.length):qP pl (M+1) (os++[[M]]) where
 ends:=λp e he=>by
  rw[sI]at he;split at he
  ·rename_i h
   have e':e=M:=by simpa using he
   subst e';exact⟨Nat.lt_succ_self _,by rw[hp,h]⟩
  ·have q:=g.ends p e he;exact⟨by lia,q.2⟩
 has:=λe he=>by
  rw[Zm,sI];rcases Xq e M with h | h
  ·have q:=g.has e h;rw[if_neg (by lia)];exact⟨by simp;lia,q.2⟩
  ·have e':e=M:=by lia
   subst e';rw[if_pos hp];exact⟨by simp;lia,by simp⟩
 nd:=λp=>by
  rw[sI];split
  ·simp
  ·exact g.nd p
 full:=λp hp'=>by
  rw[sI];split
  ·simp
  ·rw[Zm]at hp';simp at hp';exact g.full p (by lia)
 four:=λp=>by
  rw[sI];split
  ·simp
  ·exact g.four p
def cG(l:List Nat)(x:Nat):Nat:=l.getD ((l.idxOf x+l.length-1)%l.length) 0
theorem yR{l:List Nat}{x:Nat}(h:x∈l):cG l x∈l:=by
 have h1:=List.idxOf_lt_length_of_mem h;have h2:(l.idxOf x+l.length-1)%l.length<l.length:=Nat.mod_lt _ (by lia);unfold cG;simp only[List.getD,Zz h2,Option.getD_some];exact Zp h2
theorem SC{i j n:Nat}(hi:i<n)(hj:j<n)(h:(i+n-1)%n=(j+n-1)%n):i=j:=by
 have f:∀k,k<n->(((k+n-1)%n)+1)%n=k:=λk hk=>by
  rw[Nat.mod_add_mod,Nat.sub_add_cancel (Yr (Nat.succ_le_of_lt (Ys (Nat.zero_le k) hk)) (Nat.le_add_left n k)),Nat.add_mod_right,Nat.mod_eq_of_lt hk]
 rw[<-f i hi,<-f j hj,h]
theorem HQ{l:List Nat}(nd:l.Nodup){x y:Nat}(hx:x∈l)(hy:y∈l)(h:cG l x=cG l y):x=y:=by
 have h1:=List.idxOf_lt_length_of_mem hx;have h2:=List.idxOf_lt_length_of_mem hy;have m1:(l.idxOf x+l.length-1)%l.length<l.length:=Nat.mod_lt _ (by lia);have m2:(l.idxOf y+l.length-1)%l.length<l.length:=Nat.mod_lt _ (by lia);unfold cG at h;simp only[List.getD,Zz m1,Zz m2,Option.getD_some]at h;have e:=(List.getElem_inj nd).mp h;have e':=SC h1 h2 e;have g1:l[l.idxOf x]=x:=List.getElem_idxOf h1;have g2:l[l.idxOf y]=y:=List.getElem_idxOf h2;rw[<-g1,<-g2];simp only[e']
def behind(ts:bD)(os:a7)(e:Nat):Nat:=cG (row os (place ts (oth e))) (oth e)
theorem Good.behind{ts:bD}{os:a7}(g:Good ts os){e:Nat}(he:e<2*ts.length):behind ts os e<2*ts.length/\place ts (behind ts os e)=place ts (oth e):=by
 have h:=g.g.has (oth e) (bG he);exact g.g.ends _ _ (yR h.2)
theorem Good.maps{ts:bD}{os:a7}(g:Good ts os):cE (MM.behind ts os) (2*ts.length) where
 lt:=λe he=>(g.behind he).1
 inj:=λa b ha hb h=>by
  have pa:=(g.behind ha).2;have pb:=(g.behind hb).2;rw[h,pb]at pa;have ma:=(g.g.has (oth a) (bG ha)).2;have mb:=(g.g.has (oth b) (bG hb)).2;unfold MM.behind at h;rw[<-pa]at h ma;exact fY (HQ (g.g.nd _) ma mb h)
end MM
namespace MM
open Classical in
noncomputable def per(f:Nat->Nat)(e:Nat):Nat:=if h:∃k,qO f e k then Classical.choose h else 1
noncomputable def aR(f:Nat->Nat)(e:Nat):List Nat:=path f e (per f e)
theorem VJ{f:Nat->Nat}{e k:Nat}(r:qO f e k):per f e=k:=by
 unfold per;rw[dif_pos ⟨k,r⟩];exact HP (Classical.choose_spec (⟨k,r⟩:∃k,qO f e k)) r
theorem eQ{f:Nat->Nat}{N:Nat}(m:cE f N){e:Nat}(he:e<N):qO f e (per f e)/\per f e<=N:=by
 obtain⟨k,r,l⟩:=ON m he;rw[VJ r];exact⟨r,l⟩
theorem y9{f:Nat->Nat}{e k:Nat}(h:iter f k e=e):∀n,iter f (k*n) e=e
 |0=>rfl
 |n+1=>by rw[Nat.mul_succ,Nat.add_comm,iB,h];exact y9 h n
theorem P9{f:Nat->Nat}{e k:Nat}(h:iter f k e=e)(j:Nat):iter f j e=iter f (j%k) e:=by
 have e1:j=k*(j / k)+j%k:=(Nat.div_add_mod j k).symm;have e2:iter f j e=iter f (k*(j / k)+j%k) e:=congrArg (λz=>iter f z e) e1;rw[e2,iB,y9 h]
theorem bS{f:Nat->Nat}{N:Nat}(m:cE f N){x y:Nat}(hx:x<N):y∈aR f x↔∃k,iter f k x=y:=by
 obtain⟨r,_⟩:=eQ m hx;unfold aR;rw[lL];constructor
 ·rintro⟨i,_,h⟩;exact⟨i,h⟩
 ·rintro⟨k,h⟩;exact⟨k%per f x,Nat.mod_lt _ r.1,by rw[<-P9 r.2.1];exact h⟩
theorem fM{f:Nat->Nat}{N:Nat}(m:cE f N){x:Nat}(hx:x<N):x∈aR f x:=(bS m hx).mpr ⟨0,rfl⟩
theorem iA{f:Nat->Nat}{N:Nat}(m:cE f N){x:Nat}(hx:x<N):∀y∈aR f x,y<N:=J3 m hx _
theorem rK{f:Nat->Nat}{N:Nat}(m:cE f N){x:Nat}(hx:x<N):(aR f x).Nodup:=rF m hx _ (eQ m hx).1.2.2
theorem FN{f:Nat->Nat}{N:Nat}(m:cE f N){x:Nat}(hx:x<N):0<(aR f x).length/\(aR f x).length<=N:=by
 unfold aR;rw[oJ];exact⟨(eQ m hx).1.1,(eQ m hx).2⟩
theorem fO{f:Nat->Nat}{N:Nat}(m:cE f N){x y:Nat}(hx:x<N)(h:y∈aR f x):x∈aR f y:=by
 have hy:=iA m hx y h;obtain⟨k,rfl⟩:=(bS m hx).mp h;obtain⟨r,_⟩:=eQ m hx;refine(bS m hy).mpr ⟨per f x*(k+1)-k,?_⟩;have hk:k<=per f x*(k+1):=by
  have:=Nat.le_mul_of_pos_left (k+1) r.1
  lia
 rw[<-iB,Nat.add_sub_cancel' hk];exact y9 r.2.1 _
theorem eX{f:Nat->Nat}{N:Nat}(m:cE f N){x y z:Nat}(hx:x<N)(h1:y∈aR f x)(h2:z∈aR f y):z∈aR f x:=by
 have hy:=iA m hx y h1;obtain⟨k,rfl⟩:=(bS m hx).mp h1;obtain⟨j,rfl⟩:=(bS m hy).mp h2;exact(bS m hx).mpr ⟨k+j,iB f x k j⟩
noncomputable def gO(f:Nat->Nat):Nat->List Nat->List (List Nat)
 |0,_=>[]
 |_,[]=>[]
 |n+1,e::r=>aR f e::gO f n ((e::r).filter λx=>decide (x∉aR f e))
theorem iR(f:Nat->Nat)(n:Nat):gO f n []=[]:=by cases n<;>rfl
theorem eM{f:Nat->Nat}{N:Nat}(m:cE f N){e:Nat}(he:e<N)(r:List Nat):((e::r).filter λx=>decide (x∉aR f e)).length<=r.length:=by
 rw[List.filter_cons,if_neg (by simp[fM m he])];exact List.length_filter_le _ _
theorem oU{f:Nat->Nat}{N:Nat}(m:cE f N):∀(n:Nat) (k:Nat) (l:List Nat),(∀x∈l,x<N)->l.length<=n->l.length<=k->gO f n l=gO f k l
 |0,k,l,_,h,_=>by
  have e:l=[]:=Yg.mp (by lia);subst e;rw[iR,iR]
 |n+1,k,[],_,_,_=>by rw[iR,iR]
 |n+1,0,e::r,_,_,h=>by simp at h
 |n+1,k+1,e::r,hl,h1,h2=>by
  have he:=hl e Zd;have s:=eM m he r;simp only[Yq]at h1 h2;show aR f e::gO f n _=aR f e::gO f k _;rw[oU m n k _ (λx hx=>hl x (Yz.mp hx).1) (by lia) (by lia)]
noncomputable def lf(f:Nat->Nat)(l:List Nat):List (List Nat):=gO f l.length l
theorem P5(f:Nat->Nat):lf f []=[]:=rfl
theorem mX{f:Nat->Nat}{N:Nat}(m:cE f N){e:Nat}{r:List Nat}(hl:∀x∈e::r,x<N):lf f (e::r)=aR f e::lf f ((e::r).filter λx=>decide (x∉aR f e)):=by
 unfold lf;show aR f e::gO f r.length _=_;rw[oU m r.length _ _ (λx hx=>hl x (Yz.mp hx).1) (eM m (hl e Zd) r) (Nat.le_refl _)]
noncomputable def bC(f:Nat->Nat)(N:Nat):List (List Nat):=lf f (List.range N)
theorem rH{f:Nat->Nat}{N:Nat}(m:cE f N):∀(n:Nat) (l:List Nat),l.length<=n->(∀x∈l,x<N)->∀d∈lf f l,∃e∈l,d=aR f e
 |0,l,h,_,d,hd=>by
  have e:l=[]:=Yg.mp (by lia);subst e;cases hd
 |n+1,[],_,_,d,hd=>by cases hd
 |n+1,e::r,h,hl,d,hd=>by
  rw[mX m hl]at hd;rcases Zn.mp hd with rfl | hd
  ·exact⟨e,Zd,rfl⟩
  ·have s:=eM m (hl e Zd) r;simp only[Yq]at h;obtain⟨x,hx,q⟩:=rH m n _ (by lia) (λx hx=>hl x (Yz.mp hx).1) d hd;exact⟨x,(Yz.mp hx).1,q⟩
theorem y6{f:Nat->Nat}{N:Nat}(m:cE f N):∀(n:Nat) (l:List Nat),l.length<=n->(∀x∈l,x<N)->(lf f l).length<=l.length
 |0,l,h,_=>by
  have e:l=[]:=Yg.mp (by lia);subst e;exact Nat.le_refl _
 |n+1,[],_,_=>Nat.le_refl _
 |n+1,e::r,h,hl=>by
  rw[mX m hl];have s:=eM m (hl e Zd) r;simp only[Yq]at h ⊢;have ih:=y6 m n _ (Yr s (by lia)) (λx hx=>hl x (Yz.mp hx).1)
  lia
theorem y4{f:Nat->Nat}{N:Nat}(m:cE f N):∀(n:Nat) (l:List Nat),l.length<=n->(∀x∈l,x<N)->∀x∈l,∃(k:Nat) (d:List Nat),(lf f l)[k]?=some d/\x∈d/\∀(j:Nat) (d':List Nat),(lf f l)[j]?=some d'->x∈d'->j=k
 |0,l,h,_,x,hx=>by
  have e:l=[]:=Yg.mp (by lia);subst e;cases hx
 |n+1,[],_,_,x,hx=>by cases hx
 |n+1,e::r,h,hl,x,hx=>by
  have he:=hl e Zd;have hxN:=hl x hx;have s:=eM m he r;simp only[Yq]at h;rw[mX m hl];by_cases q:x∈aR f e
  ·refine⟨0,_,rfl,q,λj d' hj hd=>?_⟩;cases j with
   |zero=>rfl
   |succ j =>
    rw[List.getElem?_cons_succ]at hj;obtain⟨y,hy,rfl⟩:=rH m _ _ (Nat.le_refl _) (λz hz=>hl z (Yz.mp hz).1) d' (Zg hj);obtain⟨hy1,hy2⟩:=Yz.mp hy;have hy2':y∉aR f e:=by simpa using hy2
    exact absurd (eX m he q (fO m (hl y hy1) hd)) hy2'
  ·have hx':x∈(e::r).filter λz=>decide (z∉aR f e):=Yz.mpr ⟨hx,by simpa using q⟩;obtain⟨k,d,h1,h2,h3⟩:=y4 m n _ (by lia) (λz hz=>hl z (Yz.mp hz).1) x hx';refine⟨k+1,d,by rw[List.getElem?_cons_succ];exact h1,h2,λj d' hj hd=>?_⟩;cases j with
   |zero =>
    rw[List.getElem?_cons_zero]at hj;cases hj;exact absurd hd q
   |succ j =>
    rw[List.getElem?_cons_succ]at hj;rw[h3 j d' hj hd]
end MM
set_option Elab.async false
set_option linter.all false
set_option maxRecDepth 100000
set_option maxHeartbeats 4000000
namespace L2
open PySem PySem.Spec PyProof.Rows
abbrev vn(n:Nat):V:=.int (n:Int)
abbrev vns(l:List Nat):List V:=l.map vn
section
variable{X:Cx}
def VD:V->List V->Hp->VK->Prop:=λx vs H Q=>∃(l:Addr) (ns:List Nat) (v:Nat),x=.ref l/\vs=[vn v]/\H l=some (.lst (vns ns))/\v∈ns/\Q (vn (ns.idxOf v)) H
theorem oQ:MtM X "list.index" VD:=by
 intro pins s σ H x vs v us Q I rx rv h;obtain⟨l,ns,k,rfl,rfl,hH,hm,q⟩:=h;cases rx;obtain⟨u,rfl,t,rfl⟩:=rv.one;obtain⟨z,its,n,r,hl,e⟩:=I.lstM hH;have hlen:its.length=ns.length:=by rw[<-hl];simp
 have hj:ns.idxOf k<ns.length:=List.idxOf_lt_length_of_mem hm;have item:∀(m:Nat) (hm:m<its.toArray.size),eqU (vn k) its.toArray[m]=(ns[m]'(by simpa[hlen] using hm)==k):=λm hm'=>by
  have hm2:m<ns.length:=by simpa[hlen] using hm'
  have hx:(vns ns)[m]?=some (vn ns[m]):=by rw[Zk,Zz hm2];rfl
  obtain⟨u',hu',ru'⟩:=r.get hx;have e1:its.toArray[m]=u':=by
   have:its[m]?=some its.toArray[m]:=by simp at hm' ⊢
   rw[this]at hu';exact Option.some.inj hu'
  rw[e1,IS ru' rfl];show((ns[m]:Int)==(k:Int))=(ns[m]==k)
  rw[Xx];simp only[beq_iff_eq]
  lia
 have hsm:((ns.idxOf k:Nat):Int)<2 ^ 63-1:=by
  have h1:=mV;have h2:(vns ns).length=ns.length:=by simp
  lia
 refine call_meets F.slot_list_index ⟨_,e,rfl⟩ F.entry_list_index (F.args_list_index_2 _ _) (SeqAt.list_indexAt l its.toArray n none #[] (.int k t) (eqU (vn k)) (ns.idxOf k) (by simpa[hlen] using hj) hsm ?_ ?_) ⟨e,λy hy=>?_,?_⟩
 ·rw[item];simp
 ·intro m hm' hlt;rw[item];have:=List.not_of_lt_findIdx (p:=(·==k)) (xs:=ns) (i:=m) hlt;simpa using this
 ·have fl:(vns ns).all qB=true:=by rw[List.all_eq_true];intro y hy;obtain⟨n,_,rfl⟩:=Zh.mp hy;rfl
  exact lM (x:=vn k) ⟨t,rfl⟩ rfl r fl y (by simpa using hy)
 ·exact⟨vn (ns.idxOf k),H,I.tok _,⟨_,rfl⟩,q⟩
def bI{α:Type}(l:List α)(i:Nat)(x:α):List α:=l.take i++x::l.drop i
def R7:V->List V->Hp->VK->Prop:=λx vs H Q=>∃(l:Addr) (xs:List V) (i:Nat) (y:V),x=.ref l/\vs=[vn i,y]/\H l=some (.lst xs)/\i<=xs.length/\xs.length<ZW/\Q .non (upd H l (.lst (bI xs i y)))
theorem lK:MtM X "list.insert" R7:=by
 intro pins s σ H x vs v us Q I rx rv h;obtain⟨l,xs,i,y,rfl,rfl,hH,hi,hz,q⟩:=h;cases rx;obtain⟨u1,u2,rfl,⟨t,rfl⟩,r2⟩:=rv.two;obtain⟨z,its,n,r,hl,e⟩:=I.lstM hH;have hfit:Builtin.List.listFitsIndex (i:Int)=true:=by
  unfold Builtin.List.listFitsIndex;have:=mV;simp only[Xw,decide_eq_true_eq]
  lia
 have hc0:¬(!Builtin.List.listFitsIndex (i:Int))=true:=by rw[hfit];exact Bool.false_ne_true
 have hz1:its.toArray.size<=ZW:=by rw[List.size_toArray];lia
 obtain⟨w,hw⟩:∃w:Int,w=(i:Int):=⟨_,rfl⟩
 rw[<-hw]at hc0;have mm:=PySem.AutoSeq1.list_insert_list_int_val_1 l its.toArray n w t u2 hc0 hz1;rw[<-hw];refine call_meets F.slot_list_insert ⟨_,e,rfl⟩ F.entry_list_insert (F.args_list_insert_3 _ _ _) mm ⟨e,?_⟩;refine⟨.non,_,I.lset (its':=bI its i u2) (ys:=bI xs i y) (t':=s.toks) hH e ?_ ?_ ?_,rfl,q⟩
 ·have hk:(if w<0 then (w+(its.toArray.size:Int)).toNat else min w.toNat its.toArray.size)=i:=by
   rw[if_neg (by lia),List.size_toArray]
   lia
  show(its.toArray.extract 0 (if w<0 then (w+(its.toArray.size:Int)).toNat else min w.toNat its.toArray.size)).push u2++its.toArray.extract (if w<0 then (w+(its.toArray.size:Int)).toNat else min w.toNat its.toArray.size)=_;rw[hk];unfold bI;simp;exact List.take_of_length_le (by simp)
 ·unfold bI;exact b0.append (r.take _) (.cons r2 (r.drop _))
 ·unfold bI;rw[Zm,Yq,Yw,Yf]
  lia
theorem CO:∀{xs:List V}{us:List Value},xs.length=us.length->(∀(j:Nat) x u,xs[j]?=some x->us[j]?=some u->RelV x u)->b0 xs us
 |[],[],_,_=>.nil
 |x::xs,u::us,hl,h=>.cons (h 0 x u rfl rfl) (CO (by simpa using hl) λj y v h1 h2=>h (j+1) y v (by simpa using h1) (by simpa using h2))
theorem GH:kF X (.type "range") (λxs H Q=>∃j:Int,xs=[.int j]/\∀p,H p=none->Q (.ref p) (upd H p (.rng 0 j))):=by
 intro pins s σ H xs us Q I r h;obtain⟨j,rfl,q⟩:=h;obtain⟨u,rfl,t,rfl⟩:=vals1 r;refine call_range_1 ?_;refine⟨.ref s.heap.objs.size,_,I.laid (o:=.rng 0 j) (λb o e=>Heap.get?_push_of_some _ e) (Nat.le_refl _) ⟨_,_,_,Heap.get?_push_size _ rfl⟩,rfl,q _ I.fresh⟩
theorem AV(hc:X.calm=true):kF X (.type "list") (λxs H Q=>∃(p:Addr) (n:Nat),xs=[.ref p]/\H p=some (.rng 0 n)/\n<=10000/\∀l,H l=none->Q (.ref l) (upd H l (.lst (vns (List.range n))))):=by
 intro pins s σ H xs us Q I r h;obtain⟨p,n,rfl,hp,hn,q⟩:=h;obtain⟨u,rfl,rx⟩:=vals1 r;cases rx;obtain⟨t,u,v,e⟩:=(show eO X.prog X.w H s.heap p (.rng 0 n) from I.hok p _ hp)
 have hsz:Builtin.Range.rangeSize 0 (n:Int) 1=n:=by rw[rangeSize_one];split<;>lia
 refine call_list_range (I.ok.hd hc) (show IsRange s.heap p 0 n 1 t u v from e) (small_one (by lia) (by lia) (by lia) (by lia)) hsz (by lia) λh' tk acc c' k e' it=>?_;have hv:b0 (vns (List.range n)) acc.toList:=by
  refine CO (by simp[it.1]) λj x u hx hu=>?_;rw[Zk]at hx;obtain⟨m,hm,rfl⟩:=Xz.mp hx;obtain⟨hj,rfl⟩:=Zj.mp hm;obtain⟨t,rfl⟩:=it.2 j u (by simpa using hu);exact⟨t,by simp⟩
 exact⟨.ref s.heap.objs.size,_,I.laid (t':=tk) k (Nat.le_refl _) (show eO X.prog X.w _ h' _ (.lst (vns (List.range n))) from⟨by simp;exact Yr hn (by decide),acc.toList,c',hv,by rw[e']⟩),rfl,q _ I.fresh⟩
end
def hJ(H:Hp)(a:Addr)(ts:MM.bD):Prop:=∃tr:List Addr,H a=some (.lst (tr.map V.ref))/\tr.length=ts.length/\∀(i:Nat) t,ts[i]?=some t->∃r,tr[i]?=some r/\H r=some (.tup [vn t.1,vn t.2])
def pK(H:Hp)(a:Addr)(os:MM.a7):Prop:=∃rr:List Addr,H a=some (.lst (rr.map V.ref))/\rr.length=os.length/\∀(i:Nat) l,os[i]?=some l->∃r,rr[i]?=some r/\H r=some (.lst (vns l))
theorem aZ.ts{H H':Hp}(g:aZ H H'){a:Addr}{ts:MM.bD}(h:hJ H a ts):hJ H' a ts:=by
 obtain⟨tr,h1,h2,h3⟩:=h;exact⟨tr,g _ _ h1,h2,λi t ht=>by obtain⟨r,q1,q2⟩:=h3 i t ht;exact⟨r,q1,g _ _ q2⟩⟩
theorem aZ.os{H H':Hp}(g:aZ H H'){a:Addr}{os:MM.a7}(h:pK H a os):pK H' a os:=by
 obtain⟨tr,h1,h2,h3⟩:=h;exact⟨tr,g _ _ h1,h2,λi t ht=>by obtain⟨r,q1,q2⟩:=h3 i t ht;exact⟨r,q1,g _ _ q2⟩⟩
theorem hJ.item{H:Hp}{a:Addr}{ts:MM.bD}(h:hJ H a ts){i:Nat}(hi:i<ts.length):∃xs r,H a=some (.lst xs)/\xs.length=ts.length/\atI xs (i:Int)=some (.ref r)/\H r=some (.tup [vn (ts.getD i (0,0)).1,vn (ts.getD i (0,0)).2]):=by
 obtain⟨tr,h1,h2,h3⟩:=h;obtain⟨r,q1,q2⟩:=h3 i ts[i] (Zz hi);refine⟨_,r,h1,by rw[Zq];exact h2,dX (by rw[Zk,q1];rfl),?_⟩;simp only[List.getD,Zz hi,Option.getD_some];exact q2
theorem pK.item{H:Hp}{a:Addr}{os:MM.a7}(h:pK H a os){i:Nat}(hi:i<os.length):∃xs r,H a=some (.lst xs)/\xs.length=os.length/\atI xs (i:Int)=some (.ref r)/\H r=some (.lst (vns (MM.row os i))):=by
 obtain⟨tr,h1,h2,h3⟩:=h;obtain⟨r,q1,q2⟩:=h3 i os[i] (Zz hi);refine⟨_,r,h1,by rw[Zq];exact h2,dX (by rw[Zk,q1];rfl),?_⟩;unfold MM.row;simp only[List.getD,Zz hi,Option.getD_some];exact q2
theorem jF{l:List Nat}{j:Nat}(h:j<l.length){k:Int}(hk:k=(j:Int)):atI (vns l) k=some (vn (l.getD j 0)):=by
 subst hk;exact dX (by rw[Zk,Zz h];simp[List.getD,h])
theorem K9{l:List Nat}{x:Nat}(h:x∈l):atI (vns l) ((l.idxOf x:Nat)-1:Int)=some (vn (MM.cG l x)):=by
 have h1:=List.idxOf_lt_length_of_mem h;unfold MM.cG;rcases Nat.eq_zero_or_pos (l.idxOf x) with q | q
 ·have e:(l.idxOf x+l.length-1)%l.length=l.length-1:=by rw[q,Nat.zero_add];exact Nat.mod_eq_of_lt (by omega)
  rw[e];unfold atI ixN;rw[if_neg (by lia),if_pos (by simp;lia)];have e2:((l.idxOf x:Nat)-1+((vns l).length:Int)).toNat=l.length-1:=by simp;omega
  show(vns l)[((l.idxOf x:Nat)-1+((vns l).length:Int)).toNat]?=_;rw[e2,Zk,Zz (by lia)];have:l.length-1<l.length:=by lia
  simp[List.getD,this]
 ·have e:(l.idxOf x+l.length-1)%l.length=l.idxOf x-1:=by
   have:l.idxOf x+l.length-1=(l.idxOf x-1)+l.length:=by lia
   rw[this,Nat.add_mod_right];exact Nat.mod_eq_of_lt (by omega)
  rw[e];exact jF (by omega) (by omega)
end L2
set_option linter.all false
set_option maxRecDepth 100000
set_option maxHeartbeats 4000000
namespace L2
open PySem PySem.Spec PyProof.Rows
theorem QV{J:It}{js:List (Option Nat)}{σ:St}{H1:Hp}{R:Hp->Prop}{D:Addr}{g:TG}{te:TE}(n:Nat)(Pe:Nat->V->Prop)(hD:H1 D=none)(hn:n<=100000)
  (go:∀i H',i<n->aZ H1 H'->J.go i H') (stop:∀H',aZ H1 H'->J.stop n H')
  (hs:∀i H' x H'' (k:V->Hp->Prop),i<n->aZ H1 H'->J.yld i H' x H''->(∀v H4,Pe i v->aZ H' H4->k v H4)->g x (inner js σ) H'' λσ2 H2=>Fills (inner js σ) σ2/\te σ2 H2 k)
  (hd:∀vs H',vs.length=n->(∀(i:Nat) v,vs[i]?=some v->Pe i v)->aZ H1 H'->H' D=some (.lst vs)->R H') :
  ∃W:Nat->Nat->List V->Hp->Prop,(∃m,W 0 m [] (upd H1 D (.lst []))) /\
   ∀i m ys H,W i m ys H->(J.stop i H/\R H)\/(J.go i H/\∃N:List V->Hp->Prop,(∀ys' H',N ys' H'->∃m',m' < m/\W (i+1) m' ys' H')/\∀x H',J.yld i H x H'->g x (inner js σ) H' λσ2 H2=>Fills (inner js σ) σ2/\A5 σ2 H2 λb H3 =>
    if b=true then te σ2 H3 λy H4=>H4 D=some (.lst ys)/\ys.length<ZW/\N (ys++[y]) (upd H4 D (.lst (ys++[y]))) else N ys H3):=by
 refine comp_map n (λi ys H'=>ys.length=i/\(∀(j:Nat) v,ys[j]?=some v->Pe j v)/\aZ H1 H'/\H' D=some (.lst ys)) ⟨rfl,λj v h=>by simp at h,aI hD _,aB⟩ ?_ ?_
 ·rintro i ys H' hi ⟨hl,hp,g1,hD'⟩;refine⟨go i H' hi g1,λx H'' hy=>hs i H' x H'' _ hi g1 hy λv H4 hv g4=>⟨g4 _ _ hD',?_,?_,?_,?_,aB⟩⟩
  ·rw[hl];exact Yt hi (Yr hn (by decide))
  ·rw[Zm,hl];rfl
  ·intro j v' h;by_cases hj:j<ys.length
   ·rw[Zx hj]at h;exact hp j v' h
   ·rw[Zy (by lia)]at h;have hj2:j-ys.length=0:=by
     have:=(Zj.mp h).1;simp at this;lia
    rw[hj2]at h;simp at h;subst h;have:j=i:=by lia
    subst this;exact hv
  ·exact λb o h=>by rw[aK (aH h hD)];exact g4 _ _ (g1 _ _ h)
 ·rintro ys H' ⟨hl,hp,g1,hD'⟩;exact⟨stop H' g1,hd ys H' hl hp g1 hD'⟩
theorem R4{vs:List V}{n:Nat}{fs:Nat->V}(hl:vs.length=n)(h:∀(i:Nat) v,vs[i]?=some v->v=fs i):vs=(List.range n).map fs:=by
 apply Yp;intro i;by_cases hi:i<n
 ·rw[Zk,Yk hi];obtain⟨v,hv⟩:∃v,vs[i]?=some v:=⟨vs[i],Zz (by lia)⟩
  rw[hv,h i v hv];rfl
 ·rw[Zr (by lia),Zr (by simp;lia)]
theorem dP{J:It}{js:List (Option Nat)}{σ:St}{H1:Hp}{R:Hp->Prop}{D:Addr}{g:TG}{te:TE}(n:Nat)(fs:Nat->V)(hD:H1 D=none)(hn:n<=100000)
  (go:∀i H',i<n->aZ H1 H'->J.go i H') (stop:∀H',aZ H1 H'->J.stop n H')
  (hs:∀i H' x H'' (k:V->Hp->Prop),i<n->aZ H1 H'->J.yld i H' x H''->(∀H4,aZ H' H4->k (fs i) H4)->g x (inner js σ) H'' λσ2 H2=>Fills (inner js σ) σ2/\te σ2 H2 k)
  (hd:∀H',aZ H1 H'->H' D=some (.lst ((List.range n).map fs))->R H') :
  ∃W:Nat->Nat->List V->Hp->Prop,(∃m,W 0 m [] (upd H1 D (.lst []))) /\
   ∀i m ys H,W i m ys H->(J.stop i H/\R H)\/(J.go i H/\∃N:List V->Hp->Prop,(∀ys' H',N ys' H'->∃m',m' < m/\W (i+1) m' ys' H')/\∀x H',J.yld i H x H'->g x (inner js σ) H' λσ2 H2=>Fills (inner js σ) σ2/\A5 σ2 H2 λb H3 =>
    if b=true then te σ2 H3 λy H4=>H4 D=some (.lst ys)/\ys.length<ZW/\N (ys++[y]) (upd H4 D (.lst (ys++[y]))) else N ys H3) :=
 QV n (λi v=>v=fs i) hD hn go stop (λi H' x H'' k hi g1 hy hk=>hs i H' x H'' k hi g1 hy λH4 g4=>hk _ _ rfl g4)
  λvs H' hl hp g1 e=>hd H' g1 (by rw[e,R4 hl hp])
def at0(ls:List Int)(j:Nat):Int:=ls.getD j 0
theorem gE{ls:List Int}{j:Nat}(h:j<ls.length):(ls.map V.int)[j]?=some (.int (at0 ls j)):=by
 unfold at0;rw[Zk,Zz h];simp[List.getD,h]
theorem xE{ls:List Int}{j:Nat}(h:j<ls.length):at0 ls j∈ls:=by
 unfold at0;simp[List.getD,h]
theorem dG{ls:List Int}{j:Nat}(h:j<ls.length){k:Int}(hk:k=(j:Int)):atI (ls.map V.int) k=some (.int (at0 ls j)):=by
 subst hk;exact dX (gE h)
def vo:Option Int->V
 |none=>.non
 |some i=>.int i
abbrev vos(l:List (Option Int)):List V:=l.map vo
def ov(l:List (Option Int))(j:Nat):Option Int:=l.getD j none
theorem GK{l:List (Option Int)}{j:Nat}(h:j<l.length):(vos l)[j]?=some (vo (ov l j)):=by
 unfold ov vos;rw[Zk,Zz h];simp[List.getD,h]
theorem DZ{l:List (Option Int)}{j:Nat}(h:j<l.length){k:Int}(hk:k=(j:Int)):atI (vos l) k=some (vo (ov l j)):=by
 subst hk;exact dX (GK h)
theorem wI(l:List (Option Int))(j:Nat)(o:Option Int):(vos l).set j (vo o)=vos (l.set j o):=by unfold vos;rw[List.map_set]
theorem JH(l:List (Option Int))(o:Option Int):vos l++[vo o]=vos (l++[o]):=by unfold vos;rw[Zt];rfl
theorem oV{n j:Nat}{k:Int}(h:j<n)(hk:k=(j:Int)):ixN n k=some j:=by
 subst hk;unfold ixN;rw[if_pos (by lia),if_pos (by lia)];simp
theorem K7{K:PySem.W.Frag}{H:Hp}{a:Addr}{ns:List Int}(h:H a=some (.lst (ns.map V.int))):Bd K H (.ref a) (.list (ns.map PyData.int)):=.lst (SqL.of h) (Bds.ints ns)
theorem S9{ds:List PyData}(n:Nat)(h:∀d∈ds,d.canLay0=true/\d.depth<=n):PyData.canLayAll0 ds=true/\PyData.depthAll ds<=n:=by
 induction ds with
 |nil=>exact⟨rfl,Nat.zero_le _⟩
 |cons d ds ih =>
  have h1:=h d Zd;have h2:=ih λx hx=>h x (Zw _ hx);refine⟨by rw[PyData.canLayAll0,h1.1,h2.1];rfl,?_⟩;rw[PyData.depthAll];exact Nat.max_le.mpr ⟨h1.2,h2.2⟩
theorem lay_ints(ns:List Int):PyData.canLayAll0 (ns.map PyData.int)=true/\PyData.depthAll (ns.map PyData.int)<=2:=S9 2 λd hd=>by
 obtain⟨n,_,rfl⟩:=Zh.mp hd;exact⟨rfl,by simp[PyData.depth]⟩
theorem via{tt r:TS}{D:Ends}{σ:St}{H:Hp}(I:St->Hp->Prop)(ht:(∀σ' H',I σ' H'->r D σ' H')->tt { D with nx:=r D } σ H)(hr:∀σ' H',I σ' H'->r D σ' H'):LK tt r D σ H:=ht hr
theorem shaped_ints(ns:List Int):SeqAt.shaped (.list (ns.map PyData.int))=true:=by
 have h:=lay_ints ns;unfold SeqAt.shaped;rw[Xw];refine⟨h.1,decide_eq_true ?_⟩;rw[PyData.depth]
 lia
theorem fL{K:PySem.W.Frag}{a:Addr}{xs:List V}{g:TG}{tb:TS}{D:Ends}{σ:St}{H:Hp}(Pv:Nat->St->Hp->Prop)(h0:Pv 0 σ H)(hl:∀i σ H,i<=xs.length->Pv i σ H->SqL K H a xs)
  (hs:∀(i:Nat) x σ H T,xs[i]?=some x->Pv i σ H->H T=none->g (.ref T) σ (upd H T (.tup [vn i,x])) λσ2 H2=>tb { D with nx:=Pv (i+1),ct:=Pv (i+1),bk:=D.nx } σ2 H2) (hd:∀σ H,Pv xs.length σ H->D.nx σ H) :
  ∃W:Nat->Nat->St->Hp->Prop,(∃m,W 0 m σ H)/\∀i m σ H,W i m σ H ->
   ((Ite K a).stop i H/\D.nx σ H)\/((Ite K a).go i H/\∃N:St->Hp->Prop,(∀σ' H',N σ' H'->∃m',m' < m/\W (i+1) m' σ' H')/\∀x H',(Ite K a).yld i H x H'->g x σ H' λσ2 H2=>tb { D with nx:=N,ct:=N,bk:=D.nx } σ2 H2):=by
 refine⟨λi m σ H=>m=xs.length-i/\i<=xs.length/\Pv i σ H,⟨xs.length,by simp,Nat.zero_le _,h0⟩,?_⟩;rintro i m σ H ⟨rfl,hi,p⟩;have q:=hl i σ H hi p;by_cases hlt:i<xs.length
 ·refine .inr ⟨⟨xs,xs[i],q,by simp[hlt]⟩,Pv (i+1),λσ' H' p'=>⟨xs.length-(i+1),by omega,rfl,hlt,p'⟩,λx H' y=>?_⟩;obtain⟨T,x',rfl,hT,rfl,y⟩:=y;exact hs i x' σ _ T (y xs q) p hT
 ·have e:i=xs.length:=by lia
  subst e;exact .inl ⟨⟨xs,q,Nat.le_refl _⟩,hd σ H p⟩
theorem yT(ns:List Int):∀k,k<=ns.length->PySem.preSum (at0 ns) k=(ns.take k).sum
 |0,_=>by simp[PySem.preSum]
 |k+1,h=>by
  rw[PySem.preSum,yT ns k (by lia),List.take_succ,List.sum_append];have hk:k<ns.length:=by lia
  unfold at0;simp[List.getD,hk]
section
variable{X:Cx}{pins:List (Addr×Obj)}{σ:St}{H:Hp}{s:Shared}
theorem kR{p:Addr}{its:List Value}(pl:PlainL s.heap p its.toArray) :
  (s.heap.push { cls:=.type "list_iterator",data:=.fields #[.ref p,.int 0 0] }).IsListIter s.heap.objs.size p 0/\(s.heap.push { cls:=.type "list_iterator",data:=.fields #[.ref p,.int 0 0] }).IsList p its.toArray:=by
 obtain⟨o,n,e,hc,hd,hs⟩:=pl;exact⟨⟨_,Heap.get?_push_size _ rfl,rfl,rfl⟩,o,Heap.get?_push_of_some _ e,hc,n,hs⟩
theorem sN{p:Addr}{its:List Value}(pl:PlainL s.heap p its.toArray):p<s.heap.objs.size:=by
 obtain⟨o,n,e,_⟩:=pl;exact Heap.lt_size e
theorem B2(hc:X.calm=true):kF X (.builtin "sum") (λxs H Q=>∃(p:Addr) (ns:List Int),xs=[.ref p]/\SqL X.K H p (ns.map V.int)/\Q (.int ns.sum) H):=by
 intro pins s σ H xs us Q I r h;obtain⟨p,ns,rfl,hq,q⟩:=h;obtain⟨u,rfl,rx⟩:=vals1 r;cases rx;obtain⟨its,rv,pl,hz⟩:=I.list hq;have hl:=rv.length;rw[Zq]at hl;have hp:=sN pl;refine call_sum_walkG (wpAny_pyIter_list pl.isList ?_);refine⟨s.heap.objs.size,[s.heap.objs.size,p],[s.heap.objs.size],its.toArray.size,_,_,at0 ns,rfl,Walks.list (show X.A.in1.handled=none from I.ok.hd hc) _ p (Nat.ne_of_lt hp) its.toArray,kR pl,λb hb=>?_,λi v hv=>?_,λh' tk t' hk=>?_⟩
 ·have:=Heap.lt_size (Heap.get?_push_size s.heap (o:={ cls:=.type "list_iterator",data:=.fields #[.ref p,.int 0 0] }) rfl);simp only[Zn,List.not_mem_nil,or_false]at hb;rcases hb with rfl | rfl
  ·exact this
  ·exact Nat.lt_trans hp this
 ·have hi:its[i]?=some v:=by simpa using hv
  have hi2:i<ns.length:=by rw[hl];exact(Zj.mp hi).1
  obtain⟨u',hu,ru⟩:=rv.get (gE hi2);rw[hi]at hu;cases hu;exact ru
 ·refine⟨.int ns.sum,H,I.kept (h':=h') (t':=tk) λb o e=>?_,⟨t',?_⟩,q⟩
  ·refine hk b o ?_ (Heap.get?_push_of_some _ e);simp only[Zn,List.not_mem_nil,or_false];exact Nat.ne_of_lt (Heap.lt_size e)
  ·rw[List.size_toArray,<-hl,yT ns _ (Nat.le_refl _),Yv]
end
end L2
namespace L2
open PySem PySem.Spec PyProof.Rows
theorem all_range(bs:List Bool):(List.range bs.length).all (λi=>bs.getD i true)=bs.all id:=by
 rw[Xx,List.all_eq_true,List.all_eq_true];constructor
 ·intro h b hb;obtain⟨i,hi,rfl⟩:=List.getElem_of_mem hb;have:=h i (by simpa using hi);simpa[List.getD,hi] using this
 ·intro h i hi;have hi':i<bs.length:=by simpa using hi
  have:=h bs[i] (Zp hi');simpa[List.getD,hi'] using this
theorem any_range(ns:List Int):(List.range ns.length).any (λi=>at0 ns i != 0)=ns.any (· != 0):=by
 rw[Xx,List.any_eq_true,List.any_eq_true];constructor
 ·rintro⟨i,hi,h⟩;have hi':i<ns.length:=by simpa using hi
  exact⟨_,xE hi',h⟩
 ·rintro⟨x,hx,h⟩;obtain⟨i,hi,rfl⟩:=List.getElem_of_mem hx;exact⟨i,by simpa using hi,by simpa[at0,List.getD,hi] using h⟩
section
variable{X:Cx}
theorem B4(hc:X.calm=true):kF X (.builtin "all") (λxs H Q=>∃(p:Addr) (bs:List Bool),xs=[.ref p]/\SqL X.K H p (bs.map V.bl)/\Q (.bl (bs.all id)) H):=by
 intro pins s σ H xs us Q I r h;obtain⟨p,bs,rfl,hq,q⟩:=h;obtain⟨u,rfl,rx⟩:=vals1 r;cases rx;obtain⟨its,rv,pl,hz⟩:=I.list hq;have hl:=rv.length;rw[Zq]at hl;have hp:=sN pl;refine call_all_walk (wpAny_pyIter_list pl.isList ?_);refine⟨s.heap.objs.size,[s.heap.objs.size,p],[s.heap.objs.size],its.toArray.size,_,_,λi=>bs.getD i true,rfl,Walks.list (show X.A.in1.handled=none from I.ok.hd hc) _ p (Nat.ne_of_lt hp) its.toArray,kR pl,λi v s' Q' E' hv hQ=>?_,λh' tk hk=>?_⟩
 ·have hi:its[i]?=some v:=by simpa using hv
  have hi2:i<bs.length:=by rw[hl];exact(Zj.mp hi).1
  obtain⟨u',hu,ru⟩:=rv.get (show(bs.map V.bl)[i]?=some (.bl (bs.getD i true)) by rw[Zk,Zz hi2];simp[List.getD,hi2]);rw[hi]at hu;cases hu;cases ru;exact wpAny_truthy_bool hQ
 ·refine⟨.bl (bs.all id),H,I.kept (h':=h') (t':=tk) λb o e=>?_,?_,q⟩
  ·refine hk b o ?_ (Heap.get?_push_of_some _ e);simp only[Zn,List.not_mem_nil,or_false];exact Nat.ne_of_lt (Heap.lt_size e)
  ·show Value.bool _=Value.bool _;rw[List.size_toArray,<-hl,all_range]
theorem NA(hc:X.calm=true):kF X (.builtin "any") (λxs H Q=>∃(p:Addr) (ns:List Int),xs=[.ref p]/\SqL X.K H p (ns.map V.int)/\Q (.bl (ns.any (· != 0))) H):=by
 intro pins s σ H xs us Q I r h;obtain⟨p,ns,rfl,hq,q⟩:=h;obtain⟨u,rfl,rx⟩:=vals1 r;cases rx;obtain⟨its,rv,pl,hz⟩:=I.list hq;have hl:=rv.length;rw[Zq]at hl;have hp:=sN pl;refine call_any_walk (wpAny_pyIter_list pl.isList ?_);refine⟨s.heap.objs.size,[s.heap.objs.size,p],[s.heap.objs.size],its.toArray.size,_,_,λi=>at0 ns i != 0,rfl,Walks.list (show X.A.in1.handled=none from I.ok.hd hc) _ p (Nat.ne_of_lt hp) its.toArray,kR pl,λi v s' Q' E' hv hQ=>?_,λh' tk hk=>?_⟩
 ·have hi:its[i]?=some v:=by simpa using hv
  have hi2:i<ns.length:=by rw[hl];exact(Zj.mp hi).1
  obtain⟨u',hu,ru⟩:=rv.get (gE hi2);rw[hi]at hu;cases hu;obtain⟨t,rfl⟩:=ru;exact PySem.P.truthy_int hQ
 ·refine⟨.bl (ns.any (· != 0)),H,I.kept (h':=h') (t':=tk) λb o e=>?_,?_,q⟩
  ·refine hk b o ?_ (Heap.get?_push_of_some _ e);simp only[Zn,List.not_mem_nil,or_false];exact Nat.ne_of_lt (Heap.lt_size e)
  ·show Value.bool _=Value.bool _;rw[List.size_toArray,<-hl,any_range]
end
end L2
namespace L2
open PySem PySem.Spec PyProof.Rows
section
variable{X:Cx}
theorem M8(hc:X.calm=true):kF X (.builtin "min") (λxs H Q=>∃(p:Addr) (ns:List Int),xs=[.ref p]/\SqL X.K H p (ns.map V.int)/\0<ns.length/\∀m:Int,m∈ns->(∀x∈ns,m<=x)->Q (.int m) H):=by
 intro pins s σ H xs us Q I r h;obtain⟨p,ns,rfl,hq,h0,q⟩:=h;obtain⟨u,rfl,rx⟩:=vals1 r;cases rx;obtain⟨its,rv,pl,hz⟩:=I.list hq;have hl:=rv.length;rw[Zq]at hl;have hp:=sN pl;have hv:∀(i:Nat) (v:Value),its.toArray[i]?=some v->∃t,v=Value.int (at0 ns i) t:=λi v hv=>by
  have hi:its[i]?=some v:=by simpa using hv
  have hi2:i<ns.length:=by rw[hl];exact(Zj.mp hi).1
  obtain⟨u',hu,ru⟩:=rv.get (gE hi2);rw[hi]at hu;cases hu;exact ru
 have hb:=argBest_lt (at0 ns) (its.toArray.size-1);refine call_min_walk (wpAny_pyIter_list pl.isList ?_);refine⟨s.heap.objs.size,[s.heap.objs.size,p],[s.heap.objs.size],its.toArray.size,_,_,_,rfl,Walks.list (show X.A.in1.handled=none from I.ok.hd hc) _ p (Nat.ne_of_lt hp) its.toArray,kR pl,λb hb=>?_,by simp;lia,CmpOf.ints_lt (at0 ns) hv,λv h' tk hP hk=>?_⟩
 ·have:=Heap.lt_size (Heap.get?_push_size s.heap (o:={ cls:=.type "list_iterator",data:=.fields #[.ref p,.int 0 0] }) rfl);simp only[Zn,List.not_mem_nil,or_false]at hb;rcases hb with rfl | rfl
  ·exact this
  ·exact Nat.lt_trans hp this
 ·obtain⟨t,rfl⟩:=hv _ _ hP;have hsz:its.toArray.size=ns.length:=by simp[hl]
  refine⟨.int _,H,I.kept (h':=h') (t':=tk) λb o e=>?_,⟨t,rfl⟩,q _ (xE (by omega)) λx hx=>?_⟩
  ·refine hk b o ?_ (Heap.get?_push_of_some _ e);simp only[Zn,List.not_mem_nil,or_false];exact Nat.ne_of_lt (Heap.lt_size e)
  ·obtain⟨i,hi,rfl⟩:=List.getElem_of_mem hx;have:=hb.2 i (by lia);have e:at0 ns i=ns[i]:=by unfold at0;simp[List.getD,hi]
   rw[<-e];exact this
end
end L2
namespace L2
open PySem PySem.Spec PyProof.Rows
section
variable{X:Cx}
theorem DW:kF X (.builtin "sorted") (λxs H Q=>∃p ns,xs=[.ref p]/\SqL X.K H p (ns.map V.int)/\ns.length<64/\∀(l:Addr) (ns':List Int),H l=none->ns'.Perm ns->ns'.Pairwise (·<=·)->Q (.ref l) (upd H l (.lst (ns'.map V.int)))):=by
 intro pins s σ H xs us Q I r h;obtain⟨p,ns,rfl,hq,h64,q⟩:=h;obtain⟨u,rfl,rx⟩:=vals1 r;cases rx;obtain⟨its,r',pl,hz⟩:=I.list hq;have hlen:=r'.length;rw[Zq]at hlen;refine sorted_ints (ns:=ns) (vs:=its) pl.isList (intsAre_of r') (by lia) λout ns' a1 a2 a3=>?_;obtain⟨e,he⟩:=sortedAll_at s.heap its out;have rv:=pN a1;refine⟨.ref (s.heap.objs.size+1),_,I.laid (t':=s.toks) (λ_ _=>sortedAll_old) (Nat.le_succ _) (show eO X.prog X.w _ _ _ (.lst (ns'.map V.int)) from⟨?_,out.toList,e,rv,he⟩),rfl,q _ ns' (I.hok.fresh (Nat.le_succ _)) a2 a3⟩;rw[Zq,a2.length_eq];exact Yr (by lia:ns.length<=64) (by decide)
end
end L2
namespace L2
open PySem PySem.Spec PyProof.Rows
section
variable{κ:Type}[DecidableEq κ]
def gZ(kvs:List (κ×V))(k:κ):Option V:=(kvs.find? λkv=>decide (kv.1=k)).map (·.2)
def putK(kvs:List (κ×V))(k:κ)(v:V):List (κ×V) :=
 if (kvs.any λkv=>decide (kv.1=k))=true then kvs.map (λkv=>if kv.1=k then (kv.1,v) else kv) else kvs++[(k,v)]
theorem fJ{p:κ×V}{r:List (κ×V)}{k:κ}(e:p.1=k):gZ (p::r) k=some p.2:=by simp[gZ,List.find?_cons,e]
theorem e8{p:κ×V}{r:List (κ×V)}{k:κ}(e:¬p.1=k):gZ (p::r) k=gZ r k:=by simp[gZ,List.find?_cons,e]
theorem nM(k:κ):∀kvs:List (κ×V),(kvs.any λkv=>decide (kv.1=k))=(gZ kvs k).isSome
 |[]=>rfl
 |p::r=>by
  rw[List.any_cons];by_cases e:p.1=k
  ·simp only[fJ e,decide_eq_true e,Bool.true_or,Option.isSome_some]
  ·rw[e8 e,decide_eq_false e,Bool.false_or];exact nM k r
theorem EI(k j:κ)(y:V):∀kvs:List (κ×V),gZ (kvs.map λkv=>if kv.1=k then (kv.1,y) else kv) j=(gZ kvs j).map λx=>if j=k then y else x
 |[]=>rfl
 |p::r=>by
  have ih:=EI k j y r;rw[List.map_cons];by_cases h:p.1=k
  ·rw[if_pos h];by_cases e:p.1=j
   ·rw[fJ (p:=(p.1,y)) e,fJ e,Option.map_some,if_pos (e.symm.trans h)]
   ·rw[e8 (p:=(p.1,y)) e,e8 e,ih]
  ·rw[if_neg h];by_cases e:p.1=j
   ·rw[fJ (p:=p) e,fJ e,Option.map_some,if_neg (λz=>h (e.trans z))]
   ·rw[e8 (p:=p) e,e8 e,ih]
theorem A4(k j:κ)(y:V):∀kvs:List (κ×V),gZ kvs k=none->gZ (kvs++[(k,y)]) j=if j=k then some y else gZ kvs j
 |[],_=>by
  by_cases e:k=j
  ·rw[if_pos e.symm];exact fJ (p:=(k,y)) e
  ·rw[if_neg (λz=>e z.symm)];exact e8 (p:=(k,y)) e
 |p::r,hn=>by
  rw[Yb];have hk:¬p.1=k:=λz=>by rw[fJ z]at hn;cases hn
  rw[e8 hk]at hn;have ih:=A4 k j y r hn;by_cases e:p.1=j
  ·rw[fJ e,fJ e,if_neg (λz=>hk (e.trans z))]
  ·rw[e8 e,e8 e,ih]
theorem NU(kvs:List (κ×V))(k j:κ)(y:V):gZ (putK kvs k y) j=if j=k then some y else gZ kvs j:=by
 unfold putK;by_cases a:(kvs.any λkv=>decide (kv.1=k))=true
 ·rw[if_pos a,EI];rw[nM]at a;by_cases e:j=k
  ·obtain⟨x,hx⟩:=Option.isSome_iff_exists.mp a;rw[if_pos e,e,hx,Option.map_some,if_pos rfl]
  ·rw[if_neg e];cases gZ kvs j with
   |none=>rfl
   |some x=>rw[Option.map_some,if_neg e]
 ·rw[if_neg a];refine A4 k j y kvs ?_;rw[nM]at a;cases q:gZ kvs k with
  |none=>rfl
  |some x=>rw[q]at a;exact(a rfl).elim
theorem oR(kvs:List (κ×V))(k:κ)(v:V):(putK kvs k v).length<=kvs.length+1:=by
 unfold putK;split
 ·rw[Zq];lia
 ·rw[Zm,Yq,List.length_nil];lia
theorem OQ{kvs:List (κ×V)}{k:κ}(v:V)(h:gZ kvs k=none):putK kvs k v=kvs++[(k,v)]:=by
 unfold putK;rw[nM,h];exact if_neg (by decide)
theorem uY.isSome_eq{o:Option V}{u:Option Value}(r:uY o u):o.isSome=u.isSome:=by
 cases o with
 |none=>cases u with
  |none=>rfl
  |some _=>exact(show False from r).elim
 |some _=>cases u with
  |none=>exact(show False from r).elim
  |some _=>rfl
theorem KV.val{kvs:List (κ×V)}{vs:List (κ×Value)}(r:KV kvs vs)(k:κ):uY (gZ kvs k) (valueAt vs k):=by
 unfold KV at r;induction r with
 |nil=>exact True.intro
 |@cons p q ps qs h t ih =>
  obtain⟨h1,h2⟩:=h;by_cases e:p.1=k
  ·have e':q.1=k:=h1.symm.trans e;have b:valueAt (q::qs) k=some q.2:=by simp[valueAt,List.find?_cons,e']
   rw[fJ e,b];exact h2
  ·have e':¬q.1=k:=λz=>e (h1.trans z);have b:valueAt (q::qs) k=valueAt qs k:=by simp[valueAt,List.find?_cons,e']
   rw[e8 e,b];exact ih
theorem KV.any{kvs:List (κ×V)}{vs:List (κ×Value)}(r:KV kvs vs)(k:κ):(kvs.any λkv=>decide (kv.1=k))=vs.any λkv=>decide (kv.1=k):=by
 unfold KV at r;induction r with
 |nil=>rfl
 |cons h t ih=>rw[List.any_cons,List.any_cons,ih,h.1]
theorem KV.repl{kvs:List (κ×V)}{vs:List (κ×Value)}(r:KV kvs vs)(k:κ){y:V}{u:Value}(ry:RelV y u) :
  KV (kvs.map λkv=>if kv.1=k then (kv.1,y) else kv) (vs.map λkv=>if kv.1=k then (kv.1,u) else kv):=by
 unfold KV at r ⊢;induction r with
 |nil=>exact .nil
 |@cons p q ps qs h t ih =>
  rw[List.map_cons,List.map_cons];refine .cons ?_ ih;obtain⟨h1,h2⟩:=h;by_cases e:p.1=k
  ·rw[if_pos e,if_pos (h1.symm.trans e)];exact⟨h1,ry⟩
  ·rw[if_neg e,if_neg (λz=>e (h1.trans z))];exact⟨h1,h2⟩
theorem KV.put{kvs:List (κ×V)}{vs:List (κ×Value)}(r:KV kvs vs)(k:κ){y:V}{u:Value}(ry:RelV y u):KV (putK kvs k y) (stored vs k u):=by
 unfold putK stored;rw[r.any k];by_cases e:(vs.any λkv=>decide (kv.1=k))=true
 ·rw[if_pos e,if_pos e];exact r.repl k ry
 ·rw[if_neg e,if_neg e];exact Paired.snoc r ⟨rfl,ry⟩
theorem KV.keys{kvs:List (κ×V)}{vs:List (κ×Value)}(r:KV kvs vs):kvs.map (·.1)=vs.map (·.1):=by
 unfold KV at r;induction r with
 |nil=>rfl
 |cons h t ih=>rw[List.map_cons,List.map_cons,ih,h.1]
theorem KV.length{kvs:List (κ×V)}{vs:List (κ×Value)}(r:KV kvs vs):kvs.length=vs.length:=Paired.length r
end
theorem KD{P:Program}{w:World}{k:Key}{u:Value}(r:RelV (kV k) u):(eI P w).is k u=true:=by
 cases k with
 |inl i=>obtain⟨t,e⟩:=(show ∃t,u=Value.int i t from r);subst e;exact FF P w i t
 |inr x=>obtain⟨t,e⟩:=(show ∃t,u=Value.str x t from r);subst e;exact FE P w x t
theorem BO{P:Program}{w:World}:∀{ks:List Key}{us:List Value},b0 (ks.map kV) us->ItemsAre (eI P w) ks us
 |[],_,r=>by rw[List.map_nil]at r;cases r;exact .nil
 |k::ks,_,r=>by
  rw[List.map_cons]at r;cases r with
  |cons h t=>exact .cons (KD h) (BO t)
abbrev KT(H:Hp):List (List Key×V)->List (List Key×Addr×Value)->Prop:=Paired λp q=>p.1=q.1/\H q.2.1=some (.tup (p.1.map kV))/\RelV p.2 q.2.2
theorem KT.val{H:Hp}{kvs:List (List Key×V)}{xs:List (List Key×Addr×Value)}(r:KT H kvs xs)(k:List Key):uY (gZ kvs k) ((atKey xs k).map (·.2)):=by
 induction r with
 |nil=>exact True.intro
 |@cons p q ps qs h t ih =>
  obtain⟨h1,_,h2⟩:=h;by_cases e:p.1=k
  ·have e':q.1=k:=h1.symm.trans e;have b:atKey (q::qs) k=some q.2:=by simp[atKey,List.find?_cons,e']
   rw[fJ e,b];exact h2
  ·have e':¬q.1=k:=λz=>e (h1.trans z);have b:atKey (q::qs) k=atKey qs k:=by simp[atKey,List.find?_cons,e']
   rw[e8 e,b];exact ih
theorem KT.repl{H:Hp}{kvs:List (List Key×V)}{xs:List (List Key×Addr×Value)}(r:KT H kvs xs)(k:List Key){y:V}{u:Value}(ry:RelV y u) :
  KT H (kvs.map λkv=>if kv.1=k then (kv.1,y) else kv) (xs.map (putAt k u)):=by
 induction r with
 |nil=>exact .nil
 |@cons p q ps qs h t ih =>
  rw[List.map_cons,List.map_cons];refine .cons ?_ ih;obtain⟨h1,h2,h3⟩:=h;unfold putAt;by_cases e:p.1=k
  ·rw[if_pos e,if_pos (h1.symm.trans e)];exact⟨h1,h2,ry⟩
  ·rw[if_neg e,if_neg (λz=>e (h1.trans z))];exact⟨h1,h2,h3⟩
theorem KT.put{H:Hp}{kvs:List (List Key×V)}{xs:List (List Key×Addr×Value)}(r:KT H kvs xs)(k:List Key){b:Addr}{y:V}{u:Value}(hb:H b=some (.tup (k.map kV)))(ry:RelV y u) :
  KT H (putK kvs k y) (storedH xs k b u):=by
 have e:(kvs.any λkv=>decide (kv.1=k))=(atKey xs k).isSome:=by
  rw[nM,(r.val k).isSome_eq,Option.isSome_map]
 unfold putK storedH;rw[e];by_cases q:(atKey xs k).isSome=true
 ·rw[if_pos q,if_pos q];exact r.repl k ry
 ·rw[if_neg q,if_neg q];exact Paired.snoc r ⟨rfl,hb,ry⟩
theorem KT.keeps{H H':Hp}{kvs:List (List Key×V)}{xs:List (List Key×Addr×Value)}(r:KT H kvs xs)(ht:∀b ys,H b=some (.tup ys)->H' b=some (.tup ys)):KT H' kvs xs :=
 Paired.mapP r λ_ _ z=>⟨z.1,ht _ _ z.2.1,z.2.2⟩
section
variable{P:Program}{w:World}{H:Hp}{h:Heap}{a:Addr}
theorem UI{u:HO}(ok:HOk P w H h)(e:Rd H a u):eO P w H h a u:=e.ok ok
theorem BS{kvs:List (Key×V)}(ok:HOk P w H h)(e:Rd H a (.dK kvs)):kvs.length<=ZW/\(a==sysModules)=false/\∃vs,KV kvs vs/\h.DictOf (eI P w) a vs :=
 show eO P w H h a (.dK kvs) from UI ok e
theorem UN{kvs:List (Key×V)}(ok:HOk P w H h)(e:H a=some (.dK kvs)):kvs.length<=ZW/\(a==sysModules)=false/\∃vs,KV kvs vs/\h.DictOf (eI P w) a vs:=BS ok (.inl e)
theorem DJ{ks:List Key}(ok:HOk P w H h)(e:H a=some (.tup (ks.map kV))):(tupleKind (eI P w)).is h ks a:=by
 obtain⟨_,its,r,o,h1,h2,n,h3⟩:=(show eO P w H h a (.tup (ks.map kV)) from ok a _ e)
 exact⟨o,its.toArray,n,h1,h2,h3,by simpa using BO r⟩
theorem KS{kvs:List (List Key×V)}(ok:HOk P w H h)(e:Rd H a (.dT kvs)):kvs.length<=ZW/\(a==sysModules)=false /\
  ∃xs,KT H kvs xs/\h.DictOfH (tupleKind (eI P w)) a xs:=by
 obtain⟨z,y,xs,r,o,es,ep,h1,h2,h3,h4,h5⟩:=(show eO P w H h a (.dT kvs) from UI ok e)
 refine⟨z,y,xs,r,o,es,ep,h1,h2,h3,h4,λx hx=>?_,h5⟩;have all:∀{l:List (List Key×V)}{m:List (List Key×Addr×Value)},KT H l m->∀x∈m,(tupleKind (eI P w)).is h x.1 x.2.1:=by
  intro l m q;induction q with
  |nil=>intro x hx;exact nomatch hx
  |@cons p q ps qs hq t ih =>
   intro x hx;rcases Zn.mp hx with e | hx
   ·subst e;exact DJ ok (by rw[<-hq.1];exact hq.2.1)
   ·exact ih x hx
 exact all r x hx
theorem YC{kvs:List (List Key×V)}(ok:HOk P w H h)(e:H a=some (.dT kvs)):kvs.length<=ZW/\(a==sysModules)=false /\
  ∃xs,KT H kvs xs/\h.DictOfH (tupleKind (eI P w)) a xs:=KS ok (.inl e)
end
def rS(H:Hp)(a:Addr)(y:V)(r:Option V):Prop :=
 (∃kvs k,Rd H a (.dK kvs)/\y=kV k/\r=gZ kvs k)\/∃kvs k b,Rd H a (.dT kvs)/\y=.ref b/\H b=some (.tup (k.map kV))/\r=gZ kvs k
def NH(H:Hp)(a:Addr)(y v:V)(H':Hp):Prop :=
 (∃kvs k,H a=some (.dK kvs)/\y=kV k/\kvs.length<ZW/\H'=upd H a (.dK (putK kvs k v))) \/
 ∃kvs k b,H a=some (.dT kvs)/\y=.ref b/\H b=some (.tup (k.map kV))/\kvs.length<ZW/\H'=upd H a (.dT (putK kvs k v))
theorem rS.k{H:Hp}{a:Addr}{kvs:List (Key×V)}{k:Key}(e:H a=some (.dK kvs)):rS H a (kV k) (gZ kvs k):=.inl ⟨kvs,k,.inl e,rfl,rfl⟩
theorem NH.k{H:Hp}{a:Addr}{kvs:List (Key×V)}{k:Key}{v:V}(e:H a=some (.dK kvs))(hl:kvs.length<ZW):NH H a (kV k) v (upd H a (.dK (putK kvs k v))):=.inl ⟨kvs,k,e,rfl,hl,rfl⟩
section
variable{X:Cx}{pins:List (Addr×Obj)}{σ:St}{H:Hp}{s:Shared}{a:Addr}{y v:V}{u r:Value}{o:Option V}{A:Around}{E:Value->Shared->Prop}
theorem Inv.big(I:Inv X pins σ H s):sysModules<s.heap.objs.size:=by
 have h:ZV<s.heap.objs.size:=(I.mod.glob.keeps I.bk).lt;exact Nat.lt_trans (by decide) h
theorem M5{Q:Value->Shared->Prop}(hu:A.units+1<cLine)(I:Inv X pins σ H s)(g:rS H a y (some v))(ry:RelV y u)(h:∀w' s',Inv X pins σ H s'->RelV v w'->Q w' s') :
  wpAny (model X.prog X.w) A (getItem (.ref a) u) Q E s:=by
 rcases g with⟨kvs,k,e,ey,l⟩ | ⟨kvs,k,b,e,ey,eb,l⟩
 ·subst ey;obtain⟨z,hd,vs,rel,dd⟩:=BS I.hok e;obtain⟨w',hw,rw'⟩:=uY.some_of (v:=v) (o:=valueAt vs k) (by rw[l];exact rel.val k);exact wpAny_getItem_of (KD ry) dd.mapOf hw (h w' _ (I.tok _) rw')
 ·subst ey;cases (show u=Value.ref b from ry);obtain⟨z,hd,xs,rel,dd⟩:=KS I.hok e;obtain⟨w',hw,rw'⟩:=uY.some_of (v:=v) (o:=(atKey xs k).map (·.2)) (by rw[l];exact rel.val k);obtain⟨p,hp,hp2⟩:=Xz.mp hw;refine wpAny_getItem_heap (tupleKind_room_in1 hu) (DJ I.hok eb) dd hp ?_;rw[hp2];exact h w' _ (I.tok _) rw'
theorem TQ{Q:Value->Shared->Prop}(hu:A.units+1<cLine)(I:Inv X pins σ H s)(g:rS H a y o)(ry:RelV y u)(h:∀s',Inv X pins σ H s'->Q (.bool (!o.isSome)) s') :
  wpAny (model X.prog X.w) A (compareOp .NotIn u (.ref a)) Q E s:=by
 rcases g with⟨kvs,k,e,ey,l⟩ | ⟨kvs,k,b,e,ey,eb,l⟩
 ·subst ey;obtain⟨z,hd,vs,rel,dd⟩:=BS I.hok e;refine wpAny_notIn_of (KD ry) hd dd.mapOf ?_;rw[<-(rel.val k).isSome_eq,<-l];exact h _ (I.tok _)
 ·subst ey;cases (show u=Value.ref b from ry);obtain⟨z,hd,xs,rel,dd⟩:=KS I.hok e;refine wpAny_notIn_heap (tupleKind_room_in1 hu) (DJ I.hok eb) hd dd ?_;have q:=(rel.val k).isSome_eq;rw[Option.isSome_map]at q;rw[<-q,<-l];exact h _ (I.tok _)
theorem KZ{h':Heap}{t':Nat}{ob:HO}(I:Inv X pins σ H s)(mu:Mut (H a))(hs:Heap.SameBut a s.heap h')(he:∃q,h'.get? a=some q)(new:eO X.prog X.w (upd H a ob) h' a ob) :
  Inv X pins σ (upd H a ob) { s with heap:=h',toks:=t' } :=
 I.write (x:=a) (e:=a) mu (.inl rfl) (λb q hb z=>(hs.2 b hb).trans z) he new
theorem WB{P:Program}{w:World}{H':Hp}{h':Heap}{kvs:List (Key×V)}{vs:List (Key×Value)}(z:kvs.length<=ZW)(hd:(a==sysModules)=false)(rel:KV kvs vs)(dd:h'.DictOf (eI P w) a vs) :
  eO P w H' h' a (.dK kvs):=⟨z,hd,vs,rel,dd⟩
theorem M4{H':Hp}{Q:Unit->Shared->Prop}(hu:A.units+1<cLine)(I:Inv X pins σ H s)(g:NH H a y v H')(ry:RelV y u)(rv:RelV v r)(h:∀s',Inv X pins σ H' s'->Q () s') :
  wpAny (model X.prog X.w) A (setItem (.ref a) u r) Q E s:=by
 rcases g with⟨kvs,k,e,ey,l,eH⟩ | ⟨kvs,k,b,e,ey,eb,l,eH⟩
 ·subst ey eH;obtain⟨z,hd,vs,rel,dd⟩:=UN I.hok e;have hz:vs.length<=ZW:=by rw[<-rel.length];exact z
  have hl:(putK kvs k v).length<=ZW:=by have:=oR kvs k v;lia
  refine wpAny_setItem_pairs (hsz:=hz) (KD ry) dd λh' dd' hs=>h _ ?_;have he:∃q,h'.get? a=some q:=let⟨q,_,_,hq,_⟩:=dd';⟨q,hq⟩;exact KZ I (by rw[e];exact True.intro) hs he (WB hl hd (rel.put k rv) dd')
 ·subst ey eH;cases (show u=Value.ref b from ry);obtain⟨z,hd,xs,rel,dd⟩:=YC I.hok e;have hz:xs.length<=ZW:=by rw[<-Paired.length rel];exact z
  have hl:(putK kvs k v).length<=ZW:=by have:=oR kvs k v;lia
  refine wpAny_setItem_heap (hsz:=hz) (tupleKind_room_in1 hu) (DJ I.hok eb) dd λh' dd' hs=>h _ ?_;obtain⟨q,es,ep,hq,h2,h3,h4,_,h5⟩:=dd';refine KZ I (by rw[e];exact True.intro) hs ⟨q,hq⟩ ⟨hl,hd,_,(rel.put k eb rv).keeps λc ys ec=>?_,q,es,ep,hq,h2,h3,h4,h5⟩;rw[aK (dI ec e (λz=>nomatch z))];exact ec
end
section
variable{X:Cx}{pins:List (Addr×Obj)}{σ:St}{H:Hp}{s:Shared}{a:Addr}{kvs:List (Key×V)}{k:Key}{u:Value}{A:Around}{E:Value->Shared->Prop}
end
def YJ(i:Expr):Prop:=∀ov iv,subscripted i false ov iv=operate [ov,iv] (getItem ov iv)
theorem RN{prog:Program}{w:World}{A:Around}{E:Value->Shared->Prop}{s:Shared}{env:Env}{value slice:Expr}{pos:Pos}{T id:String}{Q:Value->Shared->Prop}
  (hl:typeLookup (.type T) "__getitem__" = pure (some (.builtin id))) (hs:YJ slice)
  (h:wpAny (model prog w) A (eval value env) (λo s₁=>wpAny (model prog w) A (eval slice env) (λi s₂=>s₂.TypeIs o T/\wpAny (model prog w) A (getItem o i) Q E s₂) E s₁) E s) :
  wpAny (model prog w) A (eval (.Subscript value slice pos) env) Q E s:=by
 refine Subscript_ (ZX h (λo s₁ h₁=>ZX h₁ (λi s₂ h₂=>?_) λ_ _ x=>x) λ_ _ x=>x);obtain⟨hT,h₂⟩:=h₂;unfold subscriptTail;refine ZZ ?_;rw[getitemInPython_of_ne hT.not_modules];refine ZZ (wpAny_specialOf hT hl ?_);have fin:wpAny (model prog w) A (subscripted slice false o i) (λr s₃=>wpAny (model prog w) A (letTemporaryGo value o r >>= λ_=>pure r) Q E s₃) E s₂:=by
  rw[hs o i];exact wpAny_operating (ZX h₂ (λr s₃ h₃=>ZZ (wpAny_letTemporaryGo (ZY h₃))) λ_ _ x=>x)
 first
  |exact ZY (ZZ fin)
  |exact ZZ (ZY (ZZ fin))
  |exact ZZ fin
theorem FZ{X:Cx}{pins:List (Addr×Obj)}{σ:St}{H:Hp}{s:Shared}{a:Addr}{y:V}{o:Option V}(I:Inv X pins σ H s)(g:rS H a y o):s.TypeIs (.ref a) "dict":=by
 rcases g with⟨kvs,k,e,_,_⟩ | ⟨kvs,k,b,e,_,_,_⟩
 ·obtain⟨_,_,vs,_,dd⟩:=BS I.hok e;exact dd.typeIs
 ·obtain⟨_,_,xs,_,dd⟩:=KS I.hok e;exact dd.typeIs
def WY(td ty:TE):TE:=λσ H Q=>td σ H λx H1=>ty σ H1 λy H2=>∃a v,x=.ref a/\rS H2 a y (some v)/\Q v H2
def RL(ty td:TE):TE:=λσ H Q=>ty σ H λy H1=>td σ H1 λx H2=>∃a o,x=.ref a/\rS H2 a y o/\Q (.bl (!o.isSome)) H2
def XC(td ty tv:TE):TS:=λD σ H=>tv σ H λv H1=>td σ H1 λx H2=>ty σ H2 λy H3=>∃a H4,x=.ref a/\NH H3 a y v H4/\D.nx σ H4
section
variable{X:Cx}{o i e value:Expr}{pos pos' tpos:Pos}{td ty tv:TE}
theorem wU(hu:X.A.units+1<cLine)(ho:PE X o td)(hi:PE X i ty)(hs:YJ i):PE X (.Subscript o i pos) (WY td ty):=by
 intro pins s σ H Q I h;refine RN PySem.F.slot_dict_getitem.lookup hs (thn (ho pins s σ H _ I h) λu s1 ⟨x,H1,I1,rx,q1⟩=>thn (hi pins s1 σ H1 _ I1 q1) λiv s2 ⟨y,H2,I2,ry,a,v,ex,g,q2⟩=>?_);subst ex;obtain rfl:u=Value.ref a:=rx;exact⟨FZ I2 g,M5 hu I2 g ry λw' s3 I3 rw'=>⟨v,H2,I3,rw',q2⟩⟩
theorem BJ(hu:X.A.units+1<cLine)(hi:PE X i ty)(ho:PE X o td):PC X .NotIn i o (RL ty td):=by
 intro pins s σ H Q I h;refine thn (hi pins s σ H _ I h) λiv s1 ⟨y,H1,I1,ry,q1⟩=>thn (ho pins s1 σ H1 _ I1 q1) λu s2 ⟨x,H2,I2,rx,a,ov,ex,g,q2⟩=>?_;subst ex;obtain rfl:u=Value.ref a:=rx;exact TQ hu I2 g ry λs3 I3=>⟨.bl (!ov.isSome),H2,I3,rfl,q2⟩
theorem C7(hu:X.A.units+1<cLine)(ho:PE X o td)(hi:PE X i ty)(hv:PE X value tv)(hs:swapsWith value (some (.Subscript o i pos')) pos.line X.env=pure false) :
  PS X (.Assign [.Subscript o i pos'] value pos) (XC td ty tv):=by
 intro pins s σ H D I h;refine wpAny_Assign_Subscript (thn (hv pins s σ H _ I h) λr s1 ⟨v,H1,I1,rv,q1⟩=>thn (ho pins s1 σ H1 _ I1 q1) λu s2 ⟨x,H2,I2,rx,q2⟩=>thn (hi pins s2 σ H2 _ I2 q2) λiv s3 ⟨y,H3,I3,ry,a,H4,ex,g,q3⟩=>?_) hs;subst ex;obtain rfl:u=Value.ref a:=rx;exact M4 hu I3 g ry rv λs4 I4=>⟨σ,H4,I4,q3⟩
end
theorem QQ{P:Program}{w:World}{H:Hp}(h:Heap)(hb:sysModules<h.objs.size):eO P w H (h.push { cls:=.type "dict",data:=.dict #[] }) h.objs.size (.dK []) :=
 ⟨Nat.zero_le _,beq_eq_false_iff_ne.mpr (Ne.symm (Nat.ne_of_lt hb)),[],.nil,Heap.DictOf.new h⟩
def UX:TE:=λ_ H Q=>∀p,H p=none->Q (.ref p) (upd H p (.dK []))
section
variable{X:Cx}{pos:Pos}
theorem yV:PE X (.Dict [] [] pos) UX:=λpins s σ H Q I h =>
 wpAny_Dict_empty ⟨.ref s.heap.objs.size,_,I.laid (a:=s.heap.objs.size) (o:=.dK []) (t':=s.toks) (λ_ _ q=>Heap.get?_push_of_some _ q) (Nat.le_refl _) (QQ s.heap I.big),rfl,h _ (I.hok.fresh (Nat.le_refl _))⟩
end
end L2
namespace L2
open PySem PySem.Spec PyProof.Rows
theorem uD(its:List Value):∀k,k<=its.length->((List.range k).map λj:Nat=>(((its.length:Int)-1)+-1*(j:Int)).toNat).filterMap (its.toArray[·]?)=its.reverse.take k
 |0,_=>by simp
 |k+1,h=>by
  have e:(((its.length:Int)-1)+-1*(k:Int)).toNat=its.length-1-k:=by lia
  have hk:its.length-1-k<its.length:=by omega
  rw[List.range_succ,Zt,List.filterMap_append,uD its k (by lia),List.take_add_one,List.getElem?_reverse (by lia)];congr 1;simp only[List.map_cons,List.map_nil,e];rw[Zz hk];simp[hk]
theorem AK(its:List Value):slicePick its.toArray none none (some (-1))=its.reverse.toArray:=by
 have hb:sliceBounds none none (some (-1)) its.toArray.size=((its.length:Int)-1,-1,-1):=by
  simp only[sliceBounds,Option.getD_some,List.size_toArray,show ¬((-1:Int)>0) by decide,if_false]
 have hs:sliceRange ((its.length:Int)-1) (-1) (-1)=(List.range its.length).map λj:Nat=>(((its.length:Int)-1)+-1*(j:Int)).toNat:=by
  unfold sliceRange;simp only[show ¬((-1:Int)>0) by decide,if_false];have e:(if (its.length:Int)-1 > -1 then ((its.length:Int)-1 - -1 - -1-1) / - -1 else 0)=(its.length:Int):=by
   split
   ·have:((its.length:Int)-1 - -1 - -1-1)=(its.length:Int):=by lia
    rw[this,show(- -1:Int)=1 by decide,Int.ediv_one]
   ·lia
  rw[e,Int.toNat_natCast]
 unfold slicePick;rw[hb];show((sliceRange ((its.length:Int)-1) (-1) (-1)).filterMap (its.toArray[·]?)).toArray=_;rw[hs,uD its _ (Nat.le_refl _),List.take_of_length_le (by simp)]
theorem x6(its:List Value):slicePick its.toArray none (some 0) (some (-1))=(its.drop 1).reverse.toArray:=by
 have hb:sliceBounds none (some 0) (some (-1)) its.toArray.size=((its.length:Int)-1,max (-1) (min 0 ((its.length:Int)-1)),-1):=by
  simp only[sliceBounds,Option.getD_some,List.size_toArray,show ¬((-1:Int)>0) by decide,if_false,show ¬((0:Int)<0) by decide]
 have hs:sliceRange ((its.length:Int)-1) (max (-1) (min 0 ((its.length:Int)-1))) (-1)=(List.range (its.length-1)).map λj:Nat=>(((its.length:Int)-1)+-1*(j:Int)).toNat:=by
  unfold sliceRange;simp only[show ¬((-1:Int)>0) by decide,if_false];have e:(if (its.length:Int)-1>max (-1) (min 0 ((its.length:Int)-1)) then ((its.length:Int)-1-max (-1) (min 0 ((its.length:Int)-1)) - -1-1) / - -1 else 0)=((its.length-1:Nat):Int):=by
   rw[show(- -1:Int)=1 by decide];split
   ·rw[Int.ediv_one];lia
   ·omega
  rw[e,Int.toNat_natCast]
 unfold slicePick;rw[hb];show((sliceRange ((its.length:Int)-1) (max (-1) (min 0 ((its.length:Int)-1))) (-1)).filterMap (its.toArray[·]?)).toArray=_;rw[hs,uD its _ (by omega),List.reverse_drop]
section
variable{X:Cx}{e ste:Expr}{te:TE}{lo hi:Option Expr}{tl th tk:TO}{pos p2:Pos}
def Y1(K:PySem.W.Frag):V->Option Int->Option Int->Option Int->Hp->VK->Prop:=λx lo hi st H Q=>∃a xs k,x=.ref a/\SqL K H a xs/\lo=none/\st=some (-1)/\((hi=none/\k=0)\/(hi=some 0/\k=1))/\∀p,H p=none->Q (.ref p) (upd H p (.lst (xs.drop k).reverse))
def WT(K:PySem.W.Frag)(te:TE)(tl th tk:TO):TE:=λσ H Q=>te σ H λx H1=>tl σ H1 λl H2=>th σ H2 λu H3=>tk σ H3 λk H4=>Y1 K x l u k H4 Q
theorem MB(he:PE X e te)(hl:PO X lo tl)(hu:PO X hi th)(hk:PO X (some ste) tk):PE X (.Subscript e (.Slice lo hi (some ste) p2) pos) (WT X.K te tl th tk):=by
 intro pins s σ H Q I h;refine Subscript_ (thn (he pins s σ H _ I h) λv s1 ⟨x,H1,I1,r1,q1⟩=>?_);refine wpAny_Slice (thn (hl pins s1 σ H1 _ I1 q1) λvl s2 ⟨l,H2,I2,pl,q2⟩=>thn (hu pins s2 σ H2 _ I2 q2) λvu s3 ⟨u,H3,I3,pu,q3⟩=>thn (hk pins s3 σ H3 _ I3 q3) λvk s4 ⟨k,H4,I4,pk,q4⟩=>?_);have I5:Inv X pins σ H4 { s4 with heap:=s4.heap.push { cls:=.type "slice",data:=.fields #[vl,vu,vk] } }:=I4.kept (t':=s4.toks) λb ob q=>Heap.get?_push_of_some _ q;obtain⟨a,xs,n,rfl,hx,rfl,rfl,hh,q⟩:=q4;cases r1;obtain⟨its,r,ht,hz⟩:=I5.list hx;have hlen:=r.length;show wpAny (model X.prog X.w) X.A (subscriptTail e (.Slice lo hi (some ste) p2) (.ref a) (.ref s4.heap.objs.size)) (EP X pins σ Q) X.xe { s4 with heap:=s4.heap.push { cls:=.type "slice",data:=.fields #[vl,vu,vk] } };refine tail_any (ops:=[.ref a,.ref s4.heap.objs.size]) ht.isList.typeIs slot_list_getitem.lookup (wpAny_getItem_list_slice ht.isList (Heap.IsSliceOf.new ..) pl pu pk (by simp) ?_ (by rw[List.size_toArray]<;>lia)) (by with_unfolding_all rfl);have eq:slicePick its.toArray none u (some (-1))=((its.drop n).reverse).toArray:=by
  rcases hh with⟨rfl,rfl⟩ | ⟨rfl,rfl⟩
  ·rw[AK,List.drop_zero]
  ·exact x6 its
 rw[eq];refine⟨.ref _,_,I5.laid (o:=.lst (xs.drop n).reverse) (λb ob q=>Heap.get?_push_of_some _ q) (Nat.le_refl _) ?_,rfl,q _ (I5.hok.fresh (Nat.le_refl _))⟩;exact⟨by rw[List.length_reverse,Yf];omega,_,0,(r.drop n).reverse,Heap.get?_push_size _ rfl⟩
end
end L2
namespace L2
open PySem PyProof.Rows
theorem NT{l:List Nat}{i:Nat}{x:V}(h:(vns l)[i]?=some x):i<l.length/\x=vn (l.getD i 0):=by
 rw[Zk]at h;obtain⟨y,h1,h2⟩:=Xz.mp h;obtain⟨hi,rfl⟩:=Zj.mp h1;exact⟨hi,by rw[<-h2];simp[List.getD,hi]⟩
theorem wQ{rs:List Addr}{i:Nat}{x:V}(h:(rs.map V.ref)[i]?=some x):∃r,rs[i]?=some r/\x=.ref r:=by
 rw[Zk]at h;obtain⟨r,h1,h2⟩:=Xz.mp h;exact⟨r,h1,h2.symm⟩
end L2
namespace PySem
set_option maxRecDepth 100000
namespace F
end F
section
variable{prog:Program}{w:World}{A:Around}{E:Value->Shared->Prop}{s:Shared}
end
section
variable{prog:Program}{w:World}{A:Around}{s:Shared}
end
section
variable{prog:Program}{w:World}{A:Around}{E:Value->Shared->Prop}{s:Shared}
end
end PySem
namespace L2
open PySem PySem.Spec PyProof.Rows
section
variable{X:Cx}{e:Expr}{te:TE}{p p2 pos pos2:Pos}
end
end L2
namespace L2
open PySem PySem.Spec PyProof.Rows
section
variable{X:Cx}{K:PySem.W.Frag}{e ste:Expr}{te:TE}{lo hi:Option Expr}{tl th tk:TO}{p p2 pos pos2:Pos}
theorem IH(hK:X.K=K)(he:PE X e te)(hl:PO X lo tl)(hu:PO X hi th)(hk:PO X (some ste) tk):PE X (.Subscript e (.Slice lo hi (some ste) p2) pos) (WT K te tl th tk):=by subst hK;exact MB he hl hu hk
end
end L2
namespace SO
open PySem PyProof PyProof.Rows
structure Kept(k:SortKind)(z:Array Keyed)(t:SortSt):Prop where
 kd:kindOf t=k
 pm:(arrOf t).Perm z
 nf:failedOf t=none
 np:pendingOf t=#[]
def rk(ρ:Keyed->Int)(xs:Array Keyed)(i:Nat):Int:=(xs[i]?.map ρ).getD 0
def Up(ρ:Keyed->Int)(xs:Array Keyed)(m:Nat):Prop:=∀i j,i<=j->j<m->rk ρ xs i<=rk ρ xs j
def Dn(ρ:Keyed->Int)(xs:Array Keyed)(m:Nat):Prop:=∀i j,i<=j->j<m->rk ρ xs j<=rk ρ xs i
theorem E2{ρ:Keyed->Int}{xs ys:Array Keyed}{i j:Nat}(e:xs[i]?=ys[j]?):rk ρ xs i=rk ρ ys j:=by
 simp only[rk,e]
theorem BD{ρ:Keyed->Int}{xs:Array Keyed}{a d:Nat}(ha:a<xs.size)(hd:d<=a)(i:Nat) :
  rk ρ (bubble xs a d) i=if i=a-d then rk ρ xs a else if a-d<i/\i<=a then rk ρ xs (i-1) else rk ρ xs i:=by
 have e:=getElem?_bubble ha d hd i;split
 ·next q=>rw[if_pos q]at e;exact E2 e
 ·next q =>
  rw[if_neg q]at e;split
  ·next q2=>rw[if_pos q2]at e;exact E2 e
  ·next q2=>rw[if_neg q2]at e;exact E2 e
theorem uC{ρ:Keyed->Int}{xs:Array Keyed}{a b:Nat}(hb:b<=xs.size)(i:Nat) :
  rk ρ (mirror xs a b ((b-a) / 2)) i=if a<=i/\i<b then rk ρ xs (a+b-1-i) else rk ρ xs i:=by
 have e:=getElem?_mirror_all (i:=a) hb i;split
 ·next q=>rw[if_pos q]at e;exact E2 e
 ·next q=>rw[if_neg q]at e;exact E2 e
theorem yM{ρ:Keyed->Int}{xs:Array Keyed}{a b:Nat}(hb:b<=xs.size)
  (h:∀i,a<=i->i<b->rk ρ xs i=rk ρ xs (b-1)) (i:Nat):rk ρ (mirror xs a b ((b-a) / 2)) i=rk ρ xs i:=by
 rw[uC hb];by_cases q:a<=i/\i<b
 ·rw[if_pos q];have h1:=h (a+b-1-i) (by omega) (by omega);have h2:=h i q.1 q.2
  lia
 ·rw[if_neg q]
def Tells(M:Model)(A:Around)(E:Value->Shared->Prop)(s:Shared)(k:SortKind)(z:Array Keyed)(ρ:Keyed->Int):Prop :=
 ∀(p q:Keyed) (t:SortSt) (Q:Option Bool->SortSt->Prop),p∈z.toList->q∈z.toList->kindOf t=k ->
  Q (some (decide (ρ p<ρ q))) t->wpS M A E s (lt' p q) Q t
section
variable{M:Model}{A:Around}{E:Value->Shared->Prop}{s:Shared}{k:SortKind}{z:Array Keyed}{ρ:Keyed->Int}
theorem Kept.len{t:SortSt}(h:Kept k z t):(arrOf t).size=z.size:=h.pm.size_eq
theorem Kept.put{t:SortSt}(h:Kept k z t){xs:Array Keyed}(q:xs.Perm (arrOf t)):Kept k z (setArr t xs) :=
 ⟨h.kd,q.trans h.pm,h.nf,h.np⟩
theorem Kept.nth{t:SortSt}(h:Kept k z t){i:Nat}(hi:i<z.size) :
  ∃p,(arrOf t)[i]?=some p/\p∈z.toList/\rk ρ (arrOf t) i=ρ p:=by
 have hi':i<(arrOf t).size:=by rw[h.len];exact hi
 have e:(arrOf t)[i]?=some (arrOf t)[i]:=getElem?_pos _ i hi';refine⟨_,e,(Array.perm_iff_toList_perm.mp h.pm).mem_iff.mp (by simp),?_⟩;simp[rk,e]
theorem less(T:Tells M A E s k z ρ){t:SortSt}(h:Kept k z t){i j:Nat}(hi:i<z.size)(hj:j<z.size){Q:Option Bool->SortSt->Prop}
  (q:Q (some (decide (rk ρ (arrOf t) i<rk ρ (arrOf t) j))) t):wpS M A E s (ltAt' i j) Q t:=by
 obtain⟨a,ea,ma,ra⟩:=h.nth (ρ:=ρ) hi;obtain⟨b,eb,mb,rb⟩:=h.nth (ρ:=ρ) hj;rw[ra,rb]at q;rw[ltAt'_eq];refine wpS_bind (wpS_get ?_);have e1:elem' (arrOf t) i=pure a:=by rw[elem'_eq,ea]
 have e2:elem' (arrOf t) j=pure b:=by rw[elem'_eq,eb]
 show wpS M A E s (elem' (arrOf t) i >>= λu=>elem' (arrOf t) j >>= λv=>lt' u v) Q t;rw[e1,e2];exact wpS_bind (wpS_pure (wpS_bind (wpS_pure (T a b t Q ma mb h.kd q))))
def Slot(ρ:Keyed->Int)(xs:Array Keyed)(m l r:Nat):Prop :=
 l<=r/\r<=m/\(∀i,i<l->rk ρ xs i<=rk ρ xs m)/\(∀i,r<=i->i<m->rk ρ xs m<rk ρ xs i)
theorem Up.slotted{xs:Array Keyed}{m l:Nat}(hm:m<xs.size)(hu:Up ρ xs m)(h:Slot ρ xs m l l):Up ρ (bubble xs m (m-l)) (m+1):=by
 obtain⟨_,h2,h3,h4⟩:=h;intro i j hij hj;have el:m-(m-l)=l:=by lia
 rw[BD hm (by lia),BD hm (by lia),el];by_cases c1:i<l
 ·rw[if_neg (by lia),if_neg (by lia)];by_cases c2:j=l
  ·rw[if_pos c2];exact h3 i c1
  ·rw[if_neg c2];by_cases c3:l<j/\j<=m
   ·rw[if_pos c3];exact hu _ _ (by lia) (by omega)
   ·rw[if_neg c3];exact hu _ _ hij (by lia)
 ·by_cases c2:j=l
  ·have:i=l:=by lia
   rw[if_pos c2,if_pos this];exact Int.le_refl _
  ·rw[if_neg c2,if_pos (show l<j/\j<=m by lia)];by_cases c3:i=l
   ·rw[if_pos c3];exact Int.le_of_lt (h4 _ (by lia) (by lia))
   ·rw[if_neg c3,if_pos (by lia)];exact hu _ _ (by omega) (by lia)
theorem QB(T:Tells M A E s k z ρ){t:SortSt}{n d:Nat}(hn:n<=z.size)(hd:d<=n)(hK:Kept k z t)(hu:Up ρ (arrOf t) d)
  {Q:Bool->SortSt->Prop}(q:∀t',Kept k z t'->Up ρ (arrOf t') n->Q true t'):wpS M A E s (binarySort' 0 n d) Q t:=by
 rw[binarySort'_eq];simp only[Nat.zero_add];refine wpS_bind (wpS_mono (wpS_forRange (Q:=λc t'=>c=(none,())/\Kept k z t'/\Up ρ (arrOf t') n)
  (λm c t'=>c=(none,())/\Kept k z t'/\Up ρ (arrOf t') (min m n)) ?_ ?_ ?_) λc t' h=>by obtain⟨rfl,a,b⟩:=h;exact wpS_pure (q t' a b))
 ·rintro m c t' h1 h2 ⟨rfl,hK',hu'⟩;rw[Nat.min_eq_left (by lia)]at hu';have hm:m<z.size:=by lia
  have hm':m<(arrOf t').size:=by rw[hK'.len];exact hm
  refine wpS_bind (wpS_mono (wpS_forRange (Q:=λc t2=>t2=t'/\∃l,c=(none,l,l)/\Slot ρ (arrOf t') m l l)
   (λx c t2=>t2=t'/\∃l r,c=(none,l,r)/\r-l<=m-x/\Slot ρ (arrOf t') m l r) ?_ ?_ ?_) ?_)
  ·rintro x c t2 _ hx ⟨rfl,l,r,rfl,hs,hS⟩;dsimp only;obtain⟨s1,s2,s3,s4⟩:=hS;by_cases hlr:l>=r
   ·rw[if_pos hlr];exact wpS_pure ⟨rfl,l,by rw[show r=l by lia],Nat.le_refl _,by lia,s3,λi a b=>s4 i (by lia) b⟩
   ·rw[if_neg hlr];refine wpS_bind (less T hK' hm (show(l+r) / 2<z.size by lia) ?_);by_cases hc:rk ρ (arrOf t2) m<rk ρ (arrOf t2) ((l+r) / 2)
    ·rw[decide_eq_true hc];simp only[if_true];refine wpS_pure ⟨rfl,l,(l+r) / 2,rfl,by omega,by lia,by lia,s3,λi a b=>?_⟩;exact Int.lt_of_lt_of_le hc (hu' _ _ a b)
    ·rw[decide_eq_false hc];simp only[Bool.false_eq_true,if_false];refine wpS_pure ⟨rfl,(l+r) / 2+1,r,rfl,by omega,by lia,by lia,λi a=>?_,s4⟩;have:=hu' i ((l+r) / 2) (by lia) (by lia)
     lia
  ·rintro c t2 ⟨rfl,l,r,rfl,hs,hS⟩;have e:r=l:=by have:=hS.1;lia
   subst e;exact⟨rfl,_,rfl,hS⟩
  ·exact⟨rfl,0,m,rfl,by lia,by lia,by lia,λi a=>by lia,λi a b=>by lia⟩
  ·rintro c t2 ⟨rfl,l,rfl,hS⟩;dsimp only;rw[moveDown'_eq];refine wpS_bind (wpS_modify (wpS_pure ⟨rfl,hK'.put (bubble_perm _ _ _),?_⟩));rw[Nat.min_eq_left (by lia)];exact hu'.slotted hm' hS
 ·rintro c t' ⟨e,hK',hu'⟩;refine⟨e,hK',?_⟩
  rwa [show min (max (max d 1) n) n=n by lia]at hu'
 ·refine⟨rfl,hK,λi j hij hj=>?_⟩;by_cases hd0:d=0
  ·rw[show i=j by lia];exact Int.le_refl _
  ·exact hu i j hij (by lia)
end
end SO
namespace SO
open PySem PyProof PyProof.Rows
section
variable{prog:Program}{w:World}{A:Around}{E:Value->Shared->Prop}{s:Shared}{k:SortKind}{z:Array Keyed}{ρ:Keyed->Int}
theorem Up.one(xs:Array Keyed){m:Nat}(h:m<=1):Up ρ xs m:=λi j a b=>by
 rw[show i=j by lia];exact Int.le_refl _
theorem Up.more{xs:Array Keyed}{m:Nat}(hu:Up ρ xs m)(h:¬rk ρ xs m<rk ρ xs (m-1)):Up ρ xs (m+1):=by
 intro i j a b;by_cases c:j<m
 ·exact hu i j a c
 ·rw[show j=m by lia];by_cases c2:i=m
  ·rw[c2];exact Int.le_refl _
  ·have:=hu i (m-1) (by lia) (by lia);lia
theorem Dn.more{xs:Array Keyed}{m:Nat}(hu:Dn ρ xs m)(h:rk ρ xs m<=rk ρ xs (m-1)):Dn ρ xs (m+1):=by
 intro i j a b;by_cases c:j<m
 ·exact hu i j a c
 ·rw[show j=m by lia];by_cases c2:i=m
  ·rw[c2];exact Int.le_refl _
  ·have:=hu i (m-1) (by lia) (by lia);lia
theorem Dn.same{xs ys:Array Keyed}{m:Nat}(hu:Dn ρ xs m)(h:∀i,rk ρ ys i=rk ρ xs i):Dn ρ ys m:=λi j a b=>by
 rw[h,h];exact hu i j a b
theorem Dn.turned{xs:Array Keyed}{m:Nat}(hm:m<=xs.size)(hu:Dn ρ xs m):Up ρ (mirror xs 0 m ((m-0) / 2)) m:=λi j a b=>by
 rw[uC hm,uC hm,if_pos (by lia),if_pos (by lia)];exact hu _ _ (by omega) (by omega)
theorem rising(T:Tells (model prog w) A E s k z ρ){t:SortSt}{a n:Nat}(hn:n<=z.size)(h1:1<=a)(h2:a<=n)(hK:Kept k z t)(hu:Up ρ (arrOf t) a)
  {Q:AscSt->SortSt->Prop}
  (q:∀m,a<=m->m<=n->Up ρ (arrOf t) m->(m=n\/rk ρ (arrOf t) m<rk ρ (arrOf t) (m-1))->Q (none,m) t) :
  wpS (model prog w) A E s (ascLoop a n) Q t:=by
 unfold ascLoop;refine wpS_forRange (λx c t'=>c=(none,x)/\t'=t/\Up ρ (arrOf t) x) ?_ ?_ ⟨rfl,rfl,hu⟩
 ·rintro x c t' g1 g2 ⟨rfl,rfl,hx⟩;dsimp only;refine wpS_bind (less T hK (show x<z.size by lia) (show x-1<z.size by lia) ?_);by_cases c:rk ρ (arrOf t') x<rk ρ (arrOf t') (x-1)
  ·rw[decide_eq_true c];simp only[if_true];exact wpS_pure (q x g1 (by lia) hx (Or.inr c))
  ·rw[decide_eq_false c];simp only[Bool.false_eq_true,if_false];exact wpS_pure ⟨rfl,rfl,hx.more c⟩
 ·rintro c t' ⟨rfl,rfl,hx⟩;have e:max a n=n:=by lia
  rw[e]at hx ⊢;exact q n h2 (Nat.le_refl _) hx (Or.inl rfl)
def Flat(ρ:Keyed->Int)(xs:Array Keyed)(m e:Nat):Prop:=e+1<=m/\∀i,m-(e+1)<=i->i<m->rk ρ xs i=rk ρ xs (m-1)
theorem Flat.nought(xs:Array Keyed){m:Nat}(h:1<=m):Flat ρ xs m 0:=⟨h,λi a b=>by rw[show i=m-1 by lia]⟩
theorem Flat.more{xs:Array Keyed}{m e:Nat}(h:Flat ρ xs m e)(g:rk ρ xs m=rk ρ xs (m-1)):Flat ρ xs (m+1) (e+1) :=
 ⟨by have:=h.1;lia,λi a b=>by
  rw[show m+1-1=m by lia];by_cases c:i=m
  ·rw[c]
  ·rw[g];exact h.2 i (by lia) (by lia)⟩
theorem back(T:Tells (model prog w) A E s k z ρ){t:SortSt}{m n:Nat}(hn:n<=z.size)(h1:1<=m)(h2:m<=n)(hK:Kept k z t)(hd:Dn ρ (arrOf t) m)
  {Q:Option Nat->SortSt->Prop}(q:∀m' t',1<=m'->m'<=n->Kept k z t'->Up ρ (arrOf t') m'->Q (some m') t') :
  wpS (model prog w) A E s (tail3 m n) Q t:=by
 unfold tail3;have hs:m<=(arrOf t).size:=by rw[hK.len];lia
 refine wpS_bind (wpS_reverse ?_);have hK':=hK.put (mirror_perm (arrOf t) 0 m ((m-0) / 2));refine wpS_bind (rising T hn h1 h2 hK' (hd.turned hs) λm' g1 g2 g3 _=>?_);exact wpS_pure (q m' _ (by lia) g2 hK' g3)
theorem TN(T:Tells (model prog w) A E s k z ρ){t:SortSt}{m n:Nat}(hn:n<=z.size)(h1:1<=m)(h2:m<=n)(hK:Kept k z t)(hd:Dn ρ (arrOf t) m)
  {Q:DescSt->SortSt->Prop}
  (q:∀m' e t',1<=m'->m'<=n->Kept k z t'->Dn ρ (arrOf t') m'->Flat ρ (arrOf t') m' e->Q (none,m',e) t') :
  wpS (model prog w) A E s (descLoop m n) Q t:=by
 unfold descLoop;refine wpS_forRange (λx c t'=>∃e,c=(none,x,e)/\Kept k z t'/\Dn ρ (arrOf t') x/\Flat ρ (arrOf t') x e) ?_ ?_ ⟨0,rfl,hK,hd,Flat.nought _ h1⟩
 ·rintro x c t' g1 g2 ⟨e,rfl,hK',hx,hF⟩;dsimp only;have hs:x<=(arrOf t').size:=by rw[hK'.len];lia
  refine wpS_bind (less T hK' (show x<z.size by lia) (show x-1<z.size by lia) ?_);by_cases c:rk ρ (arrOf t') x<rk ρ (arrOf t') (x-1)
  ·rw[decide_eq_true c];simp only[if_true];have hm:=hx.more (Int.le_of_lt c);by_cases c2:e>0
   ·rw[if_pos c2];refine wpS_bind (wpS_reverse (wpS_pure ⟨0,rfl,hK'.put (mirror_perm _ _ _ _),hm.same (yM hs hF.2),Flat.nought _ (by lia)⟩))
   ·rw[if_neg c2];exact wpS_pure ⟨0,rfl,hK',hm,Flat.nought _ (by lia)⟩
  ·rw[decide_eq_false c];simp only[Bool.false_eq_true,if_false];refine wpS_bind (less T hK' (show x-1<z.size by lia) (show x<z.size by lia) ?_);by_cases c2:rk ρ (arrOf t') (x-1)<rk ρ (arrOf t') x
   ·rw[decide_eq_true c2];simp only[if_true];exact wpS_pure (q x e t' (by lia) (by lia) hK' hx hF)
   ·rw[decide_eq_false c2];simp only[Bool.false_eq_true,if_false];have e2:rk ρ (arrOf t') x=rk ρ (arrOf t') (x-1):=by lia
    exact wpS_pure ⟨e+1,rfl,hK',hx.more (by lia),hF.more e2⟩
 ·rintro c t' ⟨e,rfl,hK',hx,hF⟩;have e2:max m n=n:=by lia
  rw[e2]at hx hF ⊢;exact q n e t' (by lia) (Nat.le_refl _) hK' hx hF
theorem QM(T:Tells (model prog w) A E s k z ρ){t:SortSt}{m n:Nat}(hn:n<=z.size)(h2:m+1<=n)(hK:Kept k z t)(hd:Dn ρ (arrOf t) (m+1))
  {Q:Option Nat->SortSt->Prop}(q:∀m' t',1<=m'->m'<=n->Kept k z t'->Up ρ (arrOf t') m'->Q (some m') t') :
  wpS (model prog w) A E s (descPart m n) Q t:=by
 unfold descPart;refine wpS_bind (wpS_lift (wpAny_rule ⟨rfl,?_⟩));refine wpS_bind (TN T hn (by lia) h2 hK hd λm' e t' g1 g2 g3 g4 g5=>?_);dsimp only;have hs:m'<=(arrOf t').size:=by rw[g3.len];lia
 by_cases c:e>0
 ·rw[if_pos c];exact wpS_bind (wpS_reverse (back T hn g1 g2 (g3.put (mirror_perm _ _ _ _)) (g4.same (yM hs g5.2)) q))
 ·rw[if_neg c];exact back T hn g1 g2 g3 g4 q
theorem run(T:Tells (model prog w) A E s k z ρ){t:SortSt}{n:Nat}(hn:n<=z.size)(h1:1<=n)(hK:Kept k z t)
  {Q:Option Nat->SortSt->Prop}(q:∀m' t',1<=m'->m'<=n->Kept k z t'->Up ρ (arrOf t') m'->Q (some m') t') :
  wpS (model prog w) A E s (countRun' 0 n) Q t:=by
 rw[countRun0_eq];refine wpS_bind (rising T hn (Nat.le_refl 1) h1 hK (Up.one _ (Nat.le_refl 1)) λm g1 g2 g3 g4=>?_);dsimp only;by_cases c:m=n
 ·rw[if_pos (by simpa using c)];exact wpS_pure (q m t g1 g2 hK g3)
 rw[if_neg (by simpa using c)];have lt:=g4.resolve_left c;have hs:m<=(arrOf t).size:=by rw[hK.len];lia
 by_cases c2:m>1
 ·rw[if_pos c2];refine wpS_bind (less T hK (show 0<z.size by lia) (show m-1<z.size by lia) ?_);by_cases c3:rk ρ (arrOf t) 0<rk ρ (arrOf t) (m-1)
  ·rw[decide_eq_true c3];simp only[if_true];exact wpS_pure (q m t g1 g2 hK g3)
  ·rw[decide_eq_false c3];simp only[Bool.false_eq_true,if_false];have lev:∀i,0<=i->i<m->rk ρ (arrOf t) i=rk ρ (arrOf t) (m-1):=λi _ b=>by
    have a1:=g3 0 i (by lia) b;have a2:=g3 i (m-1) (by lia) (by lia)
    lia
   have hd:Dn ρ (arrOf t) m:=λi j a b=>by
    rw[lev i (by lia) (by lia),lev j (by lia) b];exact Int.le_refl _
   exact wpS_bind (wpS_reverse (QM T hn (by lia) (hK.put (mirror_perm _ _ _ _)) ((hd.more (Int.le_of_lt lt)).same (yM hs lev)) q))
 ·rw[if_neg c2];have e:m=1:=by lia
  have hd:Dn ρ (arrOf t) m:=λi j a b=>by rw[show i=j by lia];exact Int.le_refl _
  exact QM T hn (by lia) hK (hd.more (Int.le_of_lt lt)) q
end
end SO
namespace SO
open PySem PyProof PyProof.Rows
section
variable{prog:Program}{w:World}{A:Around}{E:Value->Shared->Prop}{s:Shared}{k:SortKind}{z:Array Keyed}{ρ:Keyed->Int}
def RA(ρ:Keyed->Int)(z:Array Keyed)(t:SortSt):Prop :=
 (arrOf t).Perm z/\Up ρ (arrOf t) z.size/\failedOf t=none/\(pendingOf t).size<=1
theorem Kept.ended{t:SortSt}(h:Kept k z t)(hu:Up ρ (arrOf t) z.size)(x:Nat×Nat×Nat):RA ρ z (setPending t ((pendingOf t).push x)):=by
 refine⟨h.pm,hu,h.nf,?_⟩;show((pendingOf t).push x).size<=1;rw[h.np];exact Nat.le_refl 1
theorem ordered(T:Tells (model prog w) A E s k z ρ){t:SortSt}(h2:2<=z.size)(h64:z.size<64)(hK:Kept k z t)
  {Q:Unit->SortSt->Prop}(q:∀t',(arrOf t').Perm z->failedOf t'=none->Up ρ (arrOf t') z.size->Q () t') :
  wpS (model prog w) A E s sortRuns' Q t:=by
 have least:minRun' z.size z.size 0=z.size:=by
  cases e:z.size with
  |zero=>lia
  |succ f=>rw[e]at h64;rw[minRun'_succ,if_pos h64]
 rw[sortRuns'_eq];refine wpS_bind (wpS_get ?_);dsimp only;simp only[hK.len,least];refine wpS_bind (wpS_mono (wpS_forRange (Q:=λc t'=>c=(none,z.size)/\RA ρ z t')
  (λx c t'=>(x=0/\c=(none,0)/\Kept k z t')\/(0<x/\c=(none,z.size)/\RA ρ z t')) ?_ ?_ ?_) ?_)
 ·rintro x c t' _ hx (⟨rfl,rfl,hK'⟩ | ⟨g,rfl,hE⟩)
  ·dsimp only;rw[if_neg (by lia)];simp only[Nat.sub_zero,Nat.min_self,Nat.zero_add];refine wpS_bind (run T (Nat.le_refl _) (by lia) hK' λm t2 g1 g2 g3 g4=>?_);dsimp only;by_cases c:m<z.size
   ·rw[if_pos c];refine wpS_bind (wpS_lift (wpAny_rule ⟨rfl,?_⟩));refine wpS_bind (QB T (Nat.le_refl _) g2 g3 g4 λt3 g5 g6=>?_);simp only[Bool.not_true,Bool.false_eq_true,if_false];refine wpS_bind (wpS_get ?_);have e:(pendingOf t3).back?=none:=by rw[g5.np];rfl
    rw[e];exact wpS_bind (wpS_modify (wpS_pure (Or.inr ⟨by lia,rfl,g5.ended g6 _⟩)))
   ·rw[if_neg c];have e1:m=z.size:=by lia
    subst e1;refine wpS_bind (wpS_get ?_);have e:(pendingOf t2).back?=none:=by rw[g3.np];rfl
    rw[e];exact wpS_bind (wpS_modify (wpS_pure (Or.inr ⟨by lia,rfl,g3.ended g4 _⟩)))
  ·dsimp only;rw[if_pos (Nat.le_refl _)];exact wpS_pure ⟨rfl,hE⟩
 ·rintro c t' (⟨g,_,_⟩ | ⟨_,e,hE⟩)
  ·lia
  ·exact⟨e,hE⟩
 ·exact Or.inl ⟨rfl,rfl,hK⟩
 ·rintro c t' ⟨rfl,hE⟩;dsimp only;refine wpS_bind (wpS_mono (wpS_forRange (Q:=λc t2=>c=(none,())/\t2=t') (λ_ c t2=>c=(none,())/\t2=t') ?_ (λ_ _ h=>h) ⟨rfl,rfl⟩) ?_)
  ·rintro x c t2 _ _ ⟨rfl,rfl⟩;refine wpS_bind (wpS_get ?_);rw[if_pos hE.2.2.2];exact wpS_pure ⟨rfl,rfl⟩
  ·rintro c t2 ⟨rfl,rfl⟩;exact wpS_pure (q _ hE.1 hE.2.2.1 hE.2.1)
def uV(h:Heap)(a:Addr)(vs:List Value):Heap :=
 ((h.update a (Obj.mapSeq λ_=>#[])).push (seqObj "tuple" vs.toArray 0)).push (seqObj "list" #[] 0)
abbrev dY(vs:List Value):Array Keyed:=vs.toArray.zip vs.toArray
theorem nH(vs:List Value):(dY vs).size=vs.length:=by simp[dY]
def ahead(h:Heap)(vs:List Value):Heap :=
 ((h.push (seqObj "list" #[] 0)).update h.objs.size (Obj.mapSeq (·++vs.toArray))).push (seqObj "list" vs.toArray 0)
end
end SO
namespace SO
def lx:List Int->List Int->Bool
 |[],[]=>false
 |[],_::_=>true
 |_::_,[]=>false
 |a::x,b::y=>if a=b then lx x y else decide (a<b)
theorem DC:∀x:List Int,lx x x=false
 |[]=>rfl
 |a::x=>by unfold lx;rw[if_pos rfl];exact DC x
theorem yY:∀x y u:List Int,lx x y=true->lx y u=true->lx x u=true
 |[],[],_,h,_=>by simp[lx]at h
 |[],_::_,[],_,h=>by simp[lx]at h
 |[],_::_,_::_,_,_=>rfl
 |_::_,[],_,h,_=>by simp[lx]at h
 |_::_,_::_,[],_,h=>by simp[lx]at h
 |a::x,b::y,c::u,h1,h2=>by
  unfold lx at h1 h2 ⊢;by_cases e1:a=b
  ·rw[if_pos e1]at h1;by_cases e2:b=c
   ·rw[if_pos e2]at h2;rw[if_pos (e1.trans e2)];exact yY x y u h1 h2
   ·rw[if_neg e2]at h2;rw[if_neg (by lia)];rw[e1];exact h2
  ·rw[if_neg e1]at h1;have l1:=of_decide_eq_true h1;by_cases e2:b=c
   ·rw[if_neg (by lia)];exact decide_eq_true (by lia)
   ·rw[if_neg e2]at h2;have l2:=of_decide_eq_true h2;rw[if_neg (by lia)];exact decide_eq_true (by lia)
theorem FI:∀x y:List Int,lx x y=false->lx y x=false->x=y
 |[],[],_,_=>rfl
 |[],_::_,h,_=>by simp[lx]at h
 |_::_,[],_,h=>by simp[lx]at h
 |a::x,b::y,h1,h2=>by
  unfold lx at h1 h2;by_cases e:a=b
  ·rw[if_pos e]at h1;rw[if_pos e.symm]at h2;rw[e,FI x y h1 h2]
  ·rw[if_neg e]at h1;rw[if_neg (λg=>e g.symm)]at h2;have l1:=of_decide_eq_false h1;have l2:=of_decide_eq_false h2;lia
def place(L:List (List Int))(x:List Int):Nat:=L.countP λy=>lx y x
theorem OW(L:List (List Int)){x y:List Int}(h:lx x y=true):place L x<=place L y :=
 List.countP_mono_left λu _ g=>yY u x y g h
theorem place_lt:∀(L:List (List Int)) {x y:List Int},x∈L->lx x y=true->place L x<place L y
 |[],_,_,m,_=>by cases m
 |u::L,x,y,m,h=>by
  unfold place;rw[List.countP_cons,List.countP_cons];have a:=OW L h;unfold place at a;by_cases e:u=x
  ·subst e;rw[DC,h];simp;lia
  ·have b:=place_lt L (x:=x) (y:=y) (by cases m with | head=>exact absurd rfl e | tail _ g=>exact g) h;unfold place at b;by_cases g:lx u x=true
   ·rw[g,yY _ _ _ g h];simp;lia
   ·have g':lx u x=false:=by simpa using g
    rw[g'];simp;lia
theorem iH(L:List (List Int)){x y:List Int}(hx:x∈L)(hy:y∈L):decide ((place L x:Int)<place L y)=lx x y:=by
 cases h:lx x y with
 |true=>exact decide_eq_true (by have:=place_lt L hx h;lia)
 |false =>
  refine decide_eq_false ?_;cases g:lx y x with
  |true=>have:=place_lt L hy g;lia
  |false=>rw[FI x y h g];lia
end SO
namespace SO
open PySem PyProof PyProof.Rows
section
variable{prog:Program}{w:World}{A:Around}{E:Value->Shared->Prop}{s:Shared}
theorem SJ(b:Bool){x y:Int}{t u:Tok}{Q:Bool->Shared->Prop}(h:Q (decide (x<y)) s):wpAny (model prog w) A (oneLt' b (.int x t) (.int y u)) Q E s:=by
 cases b with
 |true=>exact oneLt_int h
 |false=>exact PySem.W.kat_one _ _ (wpAny_lt_int h)
theorem FJ{b fin:Bool}{Q:Bool->Shared->Prop}:∀{xs ys:List Value}{ns ms:List Int}(i:Nat),IntsAre xs ns->IntsAre ys ms ->
  fin=decide (ns.length<ms.length)->Q (lx ns ms) s->PySem.W.KatLex prog w A b fin Q (xs.zip ys) i s
 |_,_,_,_,i,.nil,.nil,e,q=>by subst e;exact PySem.W.kat_nil q
 |_,_,_,_,i,.nil,.cons _ _ _,e,q=>by
  subst e;refine PySem.W.kat_nil ?_;rw[decide_eq_true (by simp)];exact q
 |_,_,_,_,i,.cons _ _ _,.nil,e,q=>by
  subst e;refine PySem.W.kat_nil ?_;rw[decide_eq_false (by simp)];exact q
 |_,_,_,_,i,.cons (vs:=xs) (ns:=ns) n t hx,.cons (vs:=ys) (ns:=ms) m u hy,e,q=>by
  rw[List.zip_cons_cons];refine PySem.W.kat_cons (wpAny_eqBool_int ?_);unfold lx at q;by_cases c:n=m
  ·rw[if_pos c]at q;rw[show(n==m)=true by simpa using c];refine PySem.W.kat_yes (FJ (i+1) hx hy ?_ q);rw[e];simp
  ·rw[if_neg c]at q;rw[show(n==m)=false by simpa using c];exact PySem.W.kat_no (SJ _ q)
def IY(h:Heap)(vs:List Value)(kf:Value->List Int):Prop :=
 ∀v∈vs,∃a o xs n,v=.ref a/\h.get? a=some o/\o.cls=.type "tuple"/\o.data=.seq xs n/\IntsAre xs.toList (kf v)
def rank(vs:List Value)(kf:Value->List Int)(p:Keyed):Int:=place (vs.map kf) (kf p.1)
theorem pV{vs:List Value}{p:Keyed}(h:p∈(dY vs).toList):p.1∈vs:=by
 have:p∈vs.zip vs:=by simpa[dY] using h
 exact(List.of_mem_zip (a:=p.1) (b:=p.2) this).1
theorem oW{xs:List Value}{ns:List Int}(h:IntsAre xs ns):xs.length=ns.length:=by
 induction h with
 |nil=>rfl
 |cons _ _ _ ih=>simp[ih]
theorem G7{vs:List Value}{kf:Value->List Int}{b:Bool}(h:IY s.heap vs kf):Tells (model prog w) A E s (tuples' b) (dY vs) (rank vs kf):=by
 intro p q t Q hp hq hk hQ;have mp:=pV hp;have mq:=pV hq;obtain⟨a,o,xs,n,e1,g1,_,d1,i1⟩:=h _ mp;obtain⟨a',o',xs',n',e2,g2,_,d2,i2⟩:=h _ mq;have r:decide (rank vs kf p<rank vs kf q)=lx (kf p.1) (kf q.1):=iH _ (Ym mp) (Ym mq);rw[r]at hQ;rw[lt'_eq];refine wpS_bind (wpS_get ?_);rw[hk,e1,e2];refine wpS_bind (wpS_lift (wpAny_attempt (PySem.W.kat_lt g1 d1 g2 d2 (FJ 0 i1 i2 ?_ ⟨rfl,?_⟩))))
 ·have l1:=oW i1;have l2:=oW i2;simp only[Array.length_toList]at l1 l2;rw[l1,l2]
 ·exact wpS_pure hQ
end
end SO
namespace SO
open PySem PyProof PyProof.Rows
open AutoSeq1 (wpAny_loadPart')
theorem w8:∀{xs:List Value}{ns:List Int},IntsAre xs ns->∀i,i<xs.length->∃n t,xs[i]?=some (.int n t)/\ns[i]?=some n
 |_,_,.nil,i,h=>by simp at h
 |_,_,.cons n t _,0,_=>⟨n,t,rfl,rfl⟩
 |_,_,.cons _ _ r,i+1,h=>by
  obtain⟨n,t,e1,e2⟩:=w8 r i (by simpa using h);exact⟨n,t,by simpa using e1,by simpa using e2⟩
section
variable{prog:Program}{w:World}{A:Around}{E:Value->Shared->Prop}{s:Shared}
end
end SO
namespace SO
open PySem PyProof PyProof.Rows
theorem EC:∀vs:List Value,vs.zip vs=vs.map λv=>(v,v)
 |[]=>rfl
 |v::vs=>by rw[List.zip_cons_cons,EC vs];rfl
theorem u4(vs:List Value):(dY vs).toList=vs.map λv=>(v,v):=by
 rw[<-EC];simp[dY]
theorem twice{vs:List Value}{q:Keyed}(h:q∈(dY vs).toList):q.2=q.1:=by
 rw[u4]at h;obtain⟨v,_,rfl⟩:=Zh.mp h;rfl
theorem GG{vs:List Value}{kf:Value->List Int}{xs:Array Keyed}(p:xs.Perm (dY vs))(u:Up (rank vs kf) xs vs.length) :
  (xs.map (·.2)).toList.Perm vs/\(xs.map (·.2)).toList.Pairwise λa b=>lx (kf b) (kf a)=false:=by
 have pl:=Array.perm_iff_toList_perm.mp p;constructor
 ·have e:=pl.map (·.2);rw[u4,Yh]at e;have e2:vs.map ((λq:Keyed=>q.2)∘λv=>(v,v))=vs:=by
   have:((λq:Keyed=>q.2)∘λv:Value=>(v,v))=id:=rfl;rw[this,List.map_id]
  rw[e2]at e;rw[Array.toList_map];exact e
 ·rw[Array.toList_map,List.pairwise_map,List.pairwise_iff_getElem];intro i j hi hj hij;have z:xs.size=vs.length:=by rw[p.size_eq,nH]
  have hi':i<xs.size:=by simpa using hi
  have hj':j<xs.size:=by simpa using hj
  have r:=u i j (by lia) (by lia);have mi:xs[i]∈(dY vs).toList:=pl.mem_iff.mp (by simp);have mj:xs[j]∈(dY vs).toList:=pl.mem_iff.mp (by simp);have ri:rk (rank vs kf) xs i=rank vs kf xs[i]:=by simp[rk,hi']
  have rj:rk (rank vs kf) xs j=rank vs kf xs[j]:=by simp[rk,hj']
  rw[ri,rj]at r;have t:=iH (vs.map kf) (x:=kf xs[j].1) (y:=kf xs[i].1) (Ym (pV mj)) (Ym (pV mi));rw[decide_eq_false (by unfold rank at r;lia)]at t;simp only[Array.getElem_toList];rw[twice mi,twice mj];exact t.symm
theorem NC{h:Heap}{vs:List Value}{b:Addr}{o:Obj}(hb:h.get? b=some o):(uV (ahead h vs) (h.objs.size+1) vs).get? b=some o:=by
 have lt:=Heap.lt_size hb;unfold uV ahead;refine Heap.get?_push_of_some _ (Heap.get?_push_of_some _ ?_);rw[Heap.get?_update_ne _ _ _ _ (Nat.ne_of_lt (YQ lt))];refine Heap.get?_push_of_some _ ?_;rw[Heap.get?_update_ne _ _ _ _ (Nat.ne_of_lt lt)];exact Heap.get?_push_of_some _ hb
section
variable{prog:Program}{w:World}{A:Around}{E:Value->Shared->Prop}{s:Shared}
theorem IY.mono{h h':Heap}{vs:List Value}{kf:Value->List Int}(H:IY h vs kf)(g:∀b o,h.get? b=some o->h'.get? b=some o):IY h' vs kf:=λv m=>by
 obtain⟨a,o,xs,n,e,g1,r⟩:=H v m;exact⟨a,o,xs,n,e,g _ _ g1,r⟩
end
end SO
namespace L2
open PySem PySem.Spec PyProof.Rows
section
variable{X:Cx}
theorem A3:∀{ps:List Addr}{us:List Value},b0 (ps.map V.ref) us->us=ps.map Value.ref
 |[],us,r=>by rw[List.map_nil]at r;cases r;rfl
 |p::ps,us,r=>by
  rw[List.map_cons]at r;cases r with
  |cons a b =>
   rw[A3 b];cases a;rfl
theorem BG:∀(ps:List Addr),b0 (ps.map V.ref) (ps.map Value.ref)
 |[]=>.nil
 |_::ps=>.cons rfl (BG ps)
def keyOf(kf:Addr->List Int):Value->List Int
 |.ref a=>kf a
 |_=>[]
theorem MA{ps:List Addr}{us:List Value}(h:us.Perm (ps.map Value.ref)):∃ps':List Addr,us=ps'.map Value.ref/\ps'.Perm ps:=by
 have e:us=(us.map λu=>match u with | .ref a=>a | _=>0).map Value.ref:=by
  rw[Yh];refine(List.map_id us).symm.trans (Yn λu m=>?_);obtain⟨a,_,rfl⟩:=Zh.mp (h.mem_iff.mp m);rfl
 refine⟨_,e,?_⟩;have g:=h.map λu:Value=>match u with | .ref a=>a | _=>0
 rw[Yh]at g;have i:((λu:Value=>match u with | .ref a=>a | _=>0)∘Value.ref)=id:=rfl;rw[i,List.map_id]at g;exact g
end
end L2
namespace SO
open PySem PyProof PyProof.Rows
section
variable{prog:Program}{w:World}{A:Around}{E:Value->Shared->Prop}{s:Shared}
theorem QL{h:Heap}{kf:Value->List Int}:∀{vs:List Value},IY h vs kf->(∀v∈vs,kf v≠[]) ->
  ∃fs:List Value,PySem.W.KatTups h vs fs/\fs.length=vs.length/\∀f∈fs,∃n t,f=.int n t
 |[],_,_=>⟨[],PySem.W.KatTups.nil,rfl,λ_ m=>by cases m⟩
 |v::vs,H,ne=>by
  obtain⟨fs,k,l,g⟩:=QL (vs:=vs) (λu m=>H u (.tail _ m)) λu m=>ne u (.tail _ m);obtain⟨a,o,xs,n,e,g1,c,d,i⟩:=H v (.head _);have hz:0<xs.toList.length:=by
   rw[oW i];exact List.length_pos_iff.mpr (ne v (.head _))
  obtain⟨n0,t0,e0,_⟩:=w8 i 0 hz;subst e;refine⟨.int n0 t0::fs,PySem.W.KatTups.cons g1 c d (by simpa using e0) k,by simp[l],λf m=>?_⟩;cases m with
  |head=>exact⟨n0,t0,rfl⟩
  |tail _ m=>exact g f m
end
end SO
namespace L2
open PySem PySem.Spec PyProof.Rows
section
variable{X:Cx}
end
end L2
namespace SO
open PySem PyProof PyProof.Rows
section
variable{prog:Program}{w:World}{A:Around}{E:Value->Shared->Prop}{s:Shared}{k:SortKind}{ρ:Keyed->Int}
theorem LR{a:Addr}{vs:List Value}{n:Nat}{P:Fin->Shared->Prop}(ho:s.heap.get? a=some (seqObj "list" vs.toArray n))(h64:vs.length<64)
  (hk:2<=vs.length->∀{Q:SortKind->Shared->Prop},Q k { s with heap:=uV s.heap a vs }->wpAny (model prog w) A (keyKind' vs.toArray) Q E { s with heap:=uV s.heap a vs })
  (T:Tells (model prog w) A (λ_ _=>False) { s with heap:=uV s.heap a vs } k (dY vs) ρ)
  (h:∀xs:Array Keyed,xs.Perm (dY vs)->Up ρ xs vs.length->P (.done (.ret .none)) { s with heap:=sortedHeap s.heap a vs (xs.map (·.2)).reverse }) :
  wpAny (model prog w) A (Builtin.«list.sort» ⟨[.ref a],[(Str.ofString "reverse",.bool true)]⟩) P E s:=by
 obtain⟨n1,ho1⟩:∃n1,(s.heap.update a (Obj.mapSeq λ_=>#[])).get? a=some (seqObj "list" #[] n1):=⟨_,get?_update_seq ho (λ_=>#[])⟩
 have ho2:(uV s.heap a vs).get? a=some (seqObj "list" #[] n1):=Heap.get?_push_of_some _ (Heap.get?_push_of_some _ ho1);have flip:(dY vs).reverse.Perm (dY vs):=Array.perm_iff_toList_perm.mpr (by rw[Array.toList_reverse];exact List.reverse_perm _);have T':Tells (model prog w) A (λ_ _=>False) { s with heap:=uV s.heap a vs } k (dY vs).reverse ρ:=λp q t Q hp hq=>T p q t Q
  ((Array.perm_iff_toList_perm.mp flip).mem_iff.mp hp) ((Array.perm_iff_toList_perm.mp flip).mem_iff.mp hq)
 have zs:(dY vs).reverse.size=vs.length:=by rw[Array.size_reverse,nH]
 have room:∀xs:Array Keyed,xs.Perm (dY vs)->(xs.map (·.2)).reverse.size<=ZW+1:=λxs p=>by
  rw[Array.size_reverse,Array.size_map,p.size_eq,nH,sizeLine_eq];lia
 rw[list_sort_rev];refine ZZ (listItems_at ho rfl ?_);refine ZZ (listUpdate_at ho rfl ?_);refine ZZ (seqEpoch_at ho1 rfl ?_);refine ZZ (wpAny_newTuple ?_);refine ZZ (wpAny_newList ?_);refine ZU ?_;show wpAny (model prog w) A _ P E { s with heap:=uV s.heap a vs };dsimp only;rw[if_pos rfl];refine ZZ (wpAny_rule ?_);have last:∀t:SortSt,(arrOf t).Perm (dY vs)->failedOf t=none->Up ρ (arrOf t) vs.length ->
   wpAny (model prog w) A (do
    let out:=(arrOf t).map (·.2)
    let touched:=(<-seqEpoch a) != n1
    Builtin.List.listUpdate (.ref a) λ_=>if true=true then out.reverse else out
    if let some e:=failedOf t then rule "list.sort.comparison-raised";throw e
    if touched then rule "list.sort.modified";raiseError "ValueError" "list modified during sort"
    ret .none) P E { s with heap:=uV s.heap a vs }:=by
  intro t p f u;refine ZZ (seqEpoch_at ho2 rfl ?_);refine ZZ (listUpdate_at ho2 rfl ?_ (hsz2:=room _ p));rw[f];simp only[bne_self_eq_false,Bool.false_eq_true,if_false];exact ZY (h _ p u)
 by_cases c:vs.length<2
 ·have c':vs.toArray.size<2:=by simpa using c
  rw[if_pos c',if_pos c'];refine ZZ (ZY ?_);rw[StateT.run_pure];refine ZZ (ZY ?_);exact last (SortSt.mk' general' (dY vs).reverse #[] 7 none) flip rfl (Up.one _ (by lia))
 ·have c':¬vs.toArray.size<2:=by simpa using c
  rw[if_neg c',if_neg c'];refine ZZ (hk (by lia) ?_);refine ZZ (ZX (ordered (Q:=λ_ t=>(arrOf t).Perm (dY vs).reverse/\failedOf t=none/\Up ρ (arrOf t) (dY vs).reverse.size) T'
   (t:=SortSt.mk' k (dY vs).reverse #[] 7 none) (by rw[zs];lia) (by rw[zs];exact h64) ⟨rfl,Array.Perm.refl _,rfl,rfl⟩
   λt' a1 a2 a3=>⟨a1,a2,a3⟩) ?_ λ_ _ e=>e.elim)
  rintro⟨⟨⟩,t⟩ s' ⟨rfl,p,f,u⟩;rw[zs]at u;exact last t (p.trans flip) f u
theorem ER{l:Addr}{vs:List Value}{Q:Value->Shared->Prop}(hl:s.heap.IsList l vs.toArray)(h64:vs.length<64)
  (hk:2<=vs.length->∀{E:Value->Shared->Prop}{Q:SortKind->Shared->Prop},Q k { s with heap:=uV (ahead s.heap vs) (s.heap.objs.size+1) vs } ->
   wpAny (model prog w) A.in1.in1 (keyKind' vs.toArray) Q E { s with heap:=uV (ahead s.heap vs) (s.heap.objs.size+1) vs })
  (T:Tells (model prog w) A.in1.in1 (λ_ _=>False) { s with heap:=uV (ahead s.heap vs) (s.heap.objs.size+1) vs } k (dY vs) ρ)
  (h:∀xs:Array Keyed,xs.Perm (dY vs)->Up ρ xs vs.length->Q (.ref (s.heap.objs.size+1)) { s with heap:=sortedAll s.heap vs (xs.map (·.2)).reverse }) :
  wpAny (model prog w) A (call (.builtin "sorted") [.ref l] [(Str.ofString "reverse",.bool true)]) Q E s:=by
 have sz:((s.heap.push (seqObj "list" #[] 0)).update s.heap.objs.size (Obj.mapSeq (·++vs.toArray))).objs.size=s.heap.objs.size+1:=by
  rw[Heap.size_update,size_push']
 have ho:(ahead s.heap vs).get? (s.heap.objs.size+1)=some (seqObj "list" vs.toArray 0):=by
  unfold ahead;rw[<-sz];exact Heap.get?_push_size _ rfl
 refine call_function_entry_kw kind_sorted plain_sorted entry_sorted (args_sorted_rev _ _) ?_;unfold Builtin.«sorted»;refine ZZ (m:=checkCount "sorted" 1 1 _) (ZY ?_);refine ZZ (collect_list hl ?_);refine ZZ (wpAny_newList ?_);rw[sz];show wpAny (model prog w) _ _ _ _ { s with heap:=ahead s.heap vs };refine ZZ (ZU (wpAny_call_entry_kw slot_list_sort ⟨_,ho,rfl⟩ entry_list_sort
  (LR (s:={ s with heap:=ahead s.heap vs }) (k:=k) (ρ:=ρ) ho h64 (λg _ q=>hk g q) T λxs p u=>⟨_,rfl,?_⟩) (args_list_sort_rev _ _)))
 exact ZY ⟨_,rfl,h xs p u⟩
theorem tV{l:Addr}{vs:List Value}{kf:Value->List Int}{Q:Value->Shared->Prop}(hl:s.heap.IsList l vs.toArray)(h64:vs.length<64)
  (H:IY s.heap vs kf) (ne:∀v∈vs,kf v≠[])
  (h:∀out:Array Value,out.toList.Perm vs->(out.toList.Pairwise λa b=>lx (kf a) (kf b)=false)->Q (.ref (s.heap.objs.size+1)) { s with heap:=sortedAll s.heap vs out }) :
  wpAny (model prog w) A (call (.builtin "sorted") [.ref l] [(Str.ofString "reverse",.bool true)]) Q E s:=by
 have H':IY (uV (ahead s.heap vs) (s.heap.objs.size+1) vs) vs kf:=H.mono λ_ _=>NC;refine ER (k:=tuples' true) (ρ:=rank vs kf) hl h64 (λh2 _ _ q=>?_) (G7 H') λxs p u=>h _ ?_ ?_
 ·obtain⟨fs,k,lf,g⟩:=QL H' ne;refine PySem.W.kat_kind (T:=Value.type "int") k (by lia) (λv m=>?_) (by decide) q;obtain⟨n,t,rfl⟩:=g v m;exact .now
 ·rw[Array.toList_reverse];exact(List.reverse_perm _).trans (GG p u).1
 ·rw[Array.toList_reverse,List.pairwise_reverse];exact(GG p u).2
end
end SO
namespace L2
open PySem PySem.Spec PyProof.Rows
section
variable{X:Cx}
def RB(X:Cx)(f:Value)(ks:List Str)(r:List V->List V->Hp->VK->Prop):Prop :=
 ∀(pins:List (Addr×Obj)) (s:Shared) (σ:St) (H:Hp) (xs:List V) (us:List Value) (zs:List V) (ws:List Value) (Q:VK),Inv X pins σ H s->b0 xs us->b0 zs ws->r xs zs H Q ->
  wpAny (model X.prog X.w) X.A (call f us (ks.zip ws)) (EP X pins σ Q) X.xe s
def YU(r:List V->List V->Hp->VK->Prop)(t tk:TA):TE:=λσ H Q=>t σ H λvs H1=>tk σ H1 λzs H2=>r vs zs H2 Q
theorem MC{x:Str}{p pos:Pos}{e:Expr}{es:List Expr}{t tk:TA}{id:String}{ks:List Str}{kws:List Keyword}{r:List V->List V->Hp->VK->Prop}(hc:RB X (.builtin id) ks r)(hg:Gl X x)(hm:X.mg x=none)(hv:bootBuiltins x=some (.builtin id))
  (ha:PA X (e::es) t) (hkw:PK X kws tk) (hn:x≠"__name__":=by decide) (hdb:(x==("__debug__" : Str))=false:=by decide)
  (he:backTo pos (starEach (e::es) X.env)=(false,eval e X.env)::backTo pos (starEach es X.env):=by rfl) (hpl:(backTo pos (starEach (e::es) X.env)).any (·.1)=false:=by rfl)
  (hall:(backToKw pos (keywordEach kws X.env)).all (·.1.isSome)=true:=by rfl) (hno:(backToKw pos (keywordEach kws X.env)).any (·.1.isNone)=false:=by rfl)
  (hks:(backToKw pos (keywordEach kws X.env)).filterMap (·.1)=ks:=by rfl):PE X (.Call (.Name x p) (e::es) kws pos) (YU r t tk):=by
 intro pins s σ H Q I h;refine wpAny_Call_Name_kw (rJ I hg hm hv ?_ hn hdb);refine callWith_kw (thn (ha pos pins s σ H _ I h) λus s1 ⟨vs,H1,I1,r1,q⟩=>?_) he hpl hall hno;refine thn (hkw pos pins s1 σ H1 _ I1 q) λws s2 ⟨zs,H2,I2,rz,q2⟩=>?_;rw[hks];exact hc pins s2 σ H2 vs us zs ws Q I2 r1 rz q2
theorem AU:RB X (.builtin "sorted") ["reverse"] (λxs zs H Q=>∃(p:Addr) (ps:List Addr) (kf:Addr->List Int),xs=[.ref p]/\zs=[.bl true]/\SqL X.K H p (ps.map V.ref)/\(∀q∈ps,kf q≠[]/\SqT X.K H q ((kf q).map V.int))/\ps.length<64 /\
  ∀(l:Addr) (ps':List Addr),H l=none->ps'.Perm ps->(ps'.Pairwise λa b=>SO.lx (kf a) (kf b)=false)->Q (.ref l) (upd H l (.lst (ps'.map V.ref)))):=by
 intro pins s σ H xs us zs ws Q I r rz h;obtain⟨p,ps,kf,rfl,rfl,hq,hk,h64,q⟩:=h;obtain⟨u,rfl,rx⟩:=vals1 r;cases rx;obtain⟨v,rfl,rv⟩:=vals1 rz;cases rv;obtain⟨its,r',pl,hz⟩:=I.list hq;have ei:=A3 r';subst ei;refine SO.tV (kf:=keyOf kf) pl.isList (by rw[Zq];exact h64) (λv m=>?_) (λv m=>?_) λout a1 a2=>?_
 ·obtain⟨a,ma,rfl⟩:=Zh.mp m;obtain⟨its',r2,⟨o,g1,c1,n,d1⟩,_⟩:=I.tuple (hk a ma).2;exact⟨a,o,its'.toArray,n,rfl,g1,c1,d1,(show IntsAre its' (kf a) from intsAre_of r2)⟩
 ·obtain⟨a,ma,rfl⟩:=Zh.mp m;exact(hk a ma).1
 ·obtain⟨ps',e1,e2⟩:=MA a1;rw[e1,List.pairwise_map]at a2;obtain⟨e,he⟩:=sortedAll_at s.heap (ps.map Value.ref) out;refine⟨.ref (s.heap.objs.size+1),_,I.laid (t':=s.toks) (λ_ _=>sortedAll_old) (Nat.le_succ _) (show eO X.prog X.w _ _ _ (.lst (ps'.map V.ref)) from⟨?_,out.toList,e,?_,he⟩),rfl,q _ ps' (I.hok.fresh (Nat.le_succ _)) e2 a2⟩
  ·rw[Zq,e2.length_eq];exact Yr (by lia:ps.length<=64) (by decide)
  ·rw[e1];exact BG ps'
end
end L2
namespace SO
open PySem PyProof PyProof.Rows
section
variable{prog:Program}{w:World}{A:Around}{E:Value->Shared->Prop}{s:Shared}
theorem TF{xl yl:List Int}{a b:Addr}{oa ob:Obj}{xs ys:Array Value}{na nb:Nat}{P:Fin->Shared->Prop}(hoa:s.heap.get? a=some oa)(hda:oa.data=.seq xs na)(hob:s.heap.get? b=some ob)(hcb:ob.cls=.type "tuple")(hdb:ob.data=.seq ys nb)
  (hia:IntsAre xs.toList xl) (hib:IntsAre ys.toList yl) (h:P (.done (.ret (.bool (lx yl xl)))) s) :
  wpAny (model prog w) A (Builtin.«tuple.__gt__» ⟨[.ref a,.ref b],[]⟩) P E s:=by
 have hTb:s.TypeIs (.ref b) "tuple":=⟨ob,hob,hcb⟩
 show wpAny _ _ (isInstance (.ref b) (.type "tuple") >>= _) _ _ s;refine ZZ (wpAny_isInstance hTb isSubtype_tuple_tuple ?_);simp only[Bool.not_true,Bool.false_eq_true,if_false];refine ZZ (wpAny_tupleItemsOf hoa hda ?_);refine ZZ (wpAny_tupleItemsOf hob hdb ?_);refine ZZ ?_;have l1:=oW hia;have l2:=oW hib;simp only[Array.length_toList]at l1 l2;refine wpAny_forIn_list _
  (λrest r s'=>r.1=none/\s'=s/\∃x' y' xs' ys',rest=List.zip xs' ys'/\IntsAre xs' x'/\IntsAre ys' y'/\lx y' x'=lx yl xl/\decide (ys'.length<xs'.length)=decide (ys.size<xs.size))
  _ ?_ ?_ _ _ ⟨rfl,rfl,xl,yl,xs.toList,ys.toList,rfl,hia,hib,rfl,by simp⟩
 ·rintro⟨u,v⟩ rest r s' ⟨hr,rfl,x',y',xs',ys',hz,hx',hy',hdec,hlen⟩;cases hx' with
  |nil=>simp at hz
  |@cons k1 t1 xs'' x'' hx'' =>
   cases hy' with
   |nil=>simp at hz
   |@cons k2 t2 ys'' y'' hy'' =>
    simp only[List.zip_cons_cons,List.cons.injEq,Prod.mk.injEq]at hz;obtain⟨⟨rfl,rfl⟩,rfl⟩:=hz;refine ZZ (wpAny_eqBool_int ?_);rw[show lx (k2::y'') (k1::x'')=(if k2=k1 then lx y'' x'' else decide (k2<k1)) from rfl]at hdec;by_cases hk:k1=k2
    ·rw[show(k1==k2)=true by simpa using hk];simp only[Bool.not_true,Bool.false_eq_true,if_false];rw[if_pos hk.symm]at hdec;exact ZY ⟨rfl,rfl,x'',y'',xs'',ys'',rfl,hx'',hy'',hdec,by simpa using hlen⟩
    ·rw[show(k1==k2)=false by simpa using hk];simp only[Bool.not_false,if_true];rw[if_neg (λz=>hk z.symm)]at hdec;rw[<-hdec]at h;refine ZZ (wpAny_rule ?_);refine ZZ (show wpAny _ _ (compareOp .Gt (.int k1 t1) (.int k2 t2)) _ _ _ from PyProof.Rows.gt_int ?_);exact ZZ (ZY (ZY (ZY h)))
 ·rintro⟨r1,r2⟩ s' ⟨hr,rfl,x',y',xs',ys',hz,hx',hy',hdec,hlen⟩;simp only at hr;subst hr;refine ZY ?_;have hfin:decide (ys.size<xs.size)=lx yl xl:=by
   rw[<-hdec,<-hlen];cases hx' with
   |nil =>
    cases hy' with
    |nil=>rfl
    |cons _ _=>rfl
   |cons _ _ =>
    cases hy' with
    |nil=>rfl
    |cons _ _=>simp at hz
  show P (.done (.ret (.bool (decide (xs.size>ys.size))))) s';rw[show decide (xs.size>ys.size)=decide (ys.size<xs.size) from rfl,hfin];exact h
theorem TC{xl yl:List Int}{a b:Addr}{oa ob:Obj}{xs ys:Array Value}{na nb:Nat}{Q:Value->Shared->Prop}(hu:A.units<cLine)(hoa:s.heap.get? a=some oa)(hca:oa.cls=.type "tuple")(hda:oa.data=.seq xs na)(hob:s.heap.get? b=some ob)(hcb:ob.cls=.type "tuple")(hdb:ob.data=.seq ys nb)
  (hia:IntsAre xs.toList xl) (hib:IntsAre ys.toList yl) (h:Q (.bool (lx yl xl)) s):wpAny (model prog w) A (compareOp .Gt (.ref a) (.ref b)) Q E s:=by
 show wpAny _ _ (richCompare .Gt (.ref a) (.ref b)) Q E s;exact wpAny_richCompare_same_room (op:=.Gt) (T:="tuple") ⟨oa,hoa,hca⟩ ⟨ob,hob,hcb⟩ PySem.F.slot_tuple_gt
  (wpAny_call_entry PySem.F.slot_tuple_gt ⟨oa,hoa,hca⟩ PySem.F.entry_tuple_gt (TF hoa hda hob hcb hdb hia hib ⟨_,rfl,(λz=>by cases z),h⟩) (PySem.F.args_tuple_gt_2 _ _)) hu
end
end SO
namespace L2
open PySem PySem.Spec PyProof.Rows
section
variable{X:Cx}
theorem VO(hu:X.A.units<cLine):OpR X (compareOp .Gt) (λx y H Q=>∃(a b:Addr) (xl yl:List Int),x=.ref a/\y=.ref b/\SqT X.K H a (xl.map V.int)/\SqT X.K H b (yl.map V.int)/\Q (.bl (SO.lx yl xl)) H):=by
 intro pins s σ H x y v u Q I rx ry h;obtain⟨a,b,xl,yl,rfl,rfl,ha,hb,q⟩:=h;cases rx;cases ry;obtain⟨its,r1,⟨o,g1,c1,n,d1⟩,_⟩:=I.tuple ha;obtain⟨its',r2,⟨o',g2,c2,n',d2⟩,_⟩:=I.tuple hb;exact SO.TC hu g1 c1 d1 g2 c2 d2 (intsAre_of r1) (intsAre_of r2) ⟨.bl _,H,I,rfl,q⟩
theorem rS.r{H:Hp}{a:Addr}{kvs:List (Key×V)}{k:Key}(e:Rd H a (.dK kvs)):rS H a (kV k) (gZ kvs k):=.inl ⟨kvs,k,e,rfl,rfl⟩
theorem TB{P:Program}{w:World}{n:Int}{v:Value}(h:(eI P w).is (.inl n) v=true):∃t,v=.int n t:=by
 rcases dU (show vG (.inl n) v=true from h) with⟨i,t,e,rfl⟩ | ⟨x,t,e,_⟩
 ·cases e;exact⟨t,rfl⟩
 ·cases e
theorem BN{P:Program}{w:World}{kvs:List (Key×V)}{vs:List (Key×Value)}(r:KV kvs vs){ns:List Int}(hn:kvs.map (·.1)=ns.map Sum.inl){us:List Value}(hl:us.length=vs.length)
  (hu:∀(i:Nat) v,us[i]?=some v->∃k x,vs[i]?=some (k,x)/\(eI P w).is k v=true):b0 (ns.map V.int) us/\us.length=ns.length:=by
 have e1:ns.length=us.length:=by
  have:=congrArg List.length hn;simp only[Zq]at this;rw[hl,<-r.length,this]
 refine⟨CO (by rw[Zq];exact e1) λj x u hx hu'=>?_,e1.symm⟩;obtain⟨k,y,h1,h2⟩:=hu j u hu';have e2:=r.keys;have e3:(vs.map (·.1))[j]?=some k:=by rw[Zk,h1];rfl
 rw[<-e2,hn,Zk]at e3;obtain⟨n,q1,q2⟩:=Xz.mp e3;subst q2;rw[Zk,q1]at hx;cases hx;exact TB h2
theorem IV(hc:X.calm=true):kF X (.type "list") (λxs H Q=>∃(d:Addr) (kvs:List (Key×V)) (ns:List Int),xs=[.ref d]/\Rd H d (.dK kvs)/\kvs.map (·.1)=ns.map Sum.inl/\∀l,H l=none->Q (.ref l) (upd H l (.lst (ns.map V.int)))):=by
 intro pins s σ H xs us Q I r h;obtain⟨d,kvs,ns,rfl,hd,hn,q⟩:=h;obtain⟨u,rfl,rx⟩:=vals1 r;cases rx;obtain⟨hz,ne,vs,kv,dd⟩:=BS I.hok hd;obtain⟨ep,hat⟩:=dd.dictAt;have hlen:=kv.length;refine PySem.W.kdl_call (PySem.W.kdl_dict (kvs:=vs) (ep:=ep) ne) (I.ok.hd hc) hat (by lia) λh' tk acc' c' k e' it=>?_;obtain⟨hv,hl⟩:=BN kv hn (us:=acc'.toList) (by rw[Array.length_toList];exact it.1) λi v hi=>it.2 i v (by rw[<-Array.getElem?_toList];exact hi);refine⟨.ref s.heap.objs.size,_,I.laid (t':=tk) k (Nat.le_refl _) (show eO X.prog X.w _ h' _ (.lst (ns.map V.int)) from⟨?_,acc'.toList,c',hv,by rw[e']⟩),rfl,q _ I.fresh⟩;have:=congrArg List.length hn;simp only[Zq]at this;rw[Zq]
 lia
theorem DX(hc:X.calm=true):kF X (.builtin "sorted") (λxs H Q=>∃(d:Addr) (kvs:List (Key×V)) (ns:List Int),xs=[.ref d]/\Rd H d (.dK kvs)/\kvs.map (·.1)=ns.map Sum.inl/\ns.length<64 /\
  ∀(l:Addr) (ns':List Int),H l=none->ns'.Perm ns->ns'.Pairwise (·<=·)->Q (.ref l) (upd H l (.lst (ns'.map V.int)))):=by
 intro pins s σ H xs us Q I r h;obtain⟨d,kvs,ns,rfl,hd,hn,h64,q⟩:=h;obtain⟨u,rfl,rx⟩:=vals1 r;cases rx;obtain⟨hz,ne,vs,kv,dd⟩:=BS I.hok hd;obtain⟨ep,hat⟩:=dd.dictAt;have hlen:=kv.length;refine Calls.call_function_entry kind_sorted plain_sorted entry_sorted (args_sorted1 _) ?_;unfold Builtin.«sorted»;refine ZZ (m:=checkCount "sorted" 1 1 _) (ZY ?_);refine ZZ (PySem.W.kdu_collect (PySem.W.kdl_dict (kvs:=vs) (ep:=ep) ne) (I.ok.hd hc) hat (by lia) λh' tk acc hk it=>?_);obtain⟨hv,hl⟩:=BN kv hn (us:=acc.toList) (by rw[Array.length_toList];exact it.1) λi v hi=>it.2 i v (by rw[<-Array.getElem?_toList];exact hi);have hl':acc.toList.length<64:=by lia
 have hz':acc.toList.length<=ZW:=Yr (by lia:acc.toList.length<=64) (by decide);refine ZZ (wpAny_newList ?_ hz');have ho:(h'.push (seqObj "list" acc.toList.toArray 0)).get? h'.objs.size=some (seqObj "list" acc.toList.toArray 0):=Heap.get?_push_size _ rfl;refine ZZ (ZU (wpAny_call_entry slot_list_sort ⟨_,ho,rfl⟩ entry_list_sort
  (list_sort_tree (s:={ s with heap:=h'.push (seqObj "list" acc.toList.toArray 0),toks:=tk }) ho (intsAre_of hv) hl' λout ns' a1 a2 a3=>⟨_,rfl,?_⟩) (args_list_sort _)))
 refine ZY ⟨_,rfl,?_⟩;have I1:Inv X pins σ H { s with heap:=h',toks:=tk }:=I.kept hk;obtain⟨e,he⟩:=sortedHeap_at (out:=out) ho;refine⟨.ref h'.objs.size,_,I1.laid (t':=tk) (λb o eb=>?_) (Nat.le_refl _) (show eO X.prog X.w _ _ _ (.lst (ns'.map V.int)) from⟨?_,out.toList,e,pN a1,he⟩),rfl,q _ ns' I1.fresh a2 a3⟩
 ·have hlt:=Heap.lt_size eb;show(sortedHeap _ _ _ _).get? b=_;rw[sortedHeap_old (Nat.ne_of_lt hlt) (by rw[Heap.size_push];exact YQ hlt)];exact Heap.get?_push_of_some _ eb
 ·rw[Zq,a2.length_eq];exact Yr (by lia:ns.length<=64) (by decide)
theorem p7:entryFor table "dict_itemiterator.__iter__" = some Builtin.«dict_keyiterator.__iter__» :=
 entryFor_alias (id':="dict_keyiterator.__iter__") (by kernel_rfl) rfl (by decide +kernel) (by kernel_rfl)
theorem Inv.freeze{pins:List (Addr×Obj)}{σ:St}{H:Hp}{s:Shared}{d:Addr}{kvs:List (Key×V)}{o:Obj}(I:Inv X pins σ H s)(hd:H d=some (.dK kvs))(ho:s.heap.get? d=some o):Inv X pins σ (upd H d (.frz o (.dK kvs))) s:=by
 have ne:∀b u,H b=some u->(∀z,u≠.dK z)->b≠d:=λb u e z q=>by subst q;rw[hd]at e;cases e;exact z _ rfl
 refine I.step (h':=s.heap) (g':=s.gens) (d':=s.drawn) (t':=s.toks) (ch:=[]) (λ_ z=>nomatch z) (λb o' _ _ _ e _=>e) (λb o' _ _ _ e _=>⟨o'.slots,e⟩) (λb o' _ _ e=>?_) (λb o' _ e=>⟨o',e⟩) (λb xs e=>?_) (λb ob u e=>?_) (λb ps e=>⟨#[],?_⟩) (λm h=>h) (λb u e=>?_) I.bare
 ·rw[aK (λq=>by subst q;rw[hd]at e;cases e)];exact e
 ·rw[aK (ne b _ e λz q=>by cases q)];exact e
 ·rw[aK (ne b _ e λz q=>by cases q)];exact e
 ·rw[aK (ne b _ e λz q=>by cases q),e];simp
 ·by_cases hb:b=d
  ·subst hb;rw[aB]at e;cases e;exact⟨ho,I.hok _ _ hd⟩
  ·rw[aK hb]at e;exact(I.hok b u e).stay (λc v _ q=>q) (λc q=>by rw[aK (ne c _ q λz q'=>by cases q')];exact q) λc xs q=>by rw[aK (ne c _ q λz q'=>by cases q')];exact q
def ItD(d:Addr)(o:Obj)(kvs:List (Key×V)):It :=
 ⟨λi H=>H d=some (.frz o (.dK kvs))/\i<kvs.length,λi H v H'=>∃T p,kvs[i]?=some p/\v=.ref T/\H T=none/\H'=upd H T (.tup [kV p.1,p.2]),λi H=>H d=some (.frz o (.dK kvs))/\kvs.length<=i⟩
theorem XT{P:Program}{w:World}{k:Key}{v:Value}(h:(eI P w).is k v=true):RelV (kV k) v:=by
 rcases dU (show vG k v=true from h) with⟨i,t,rfl,rfl⟩ | ⟨x,t,rfl,rfl⟩
 ·exact⟨t,rfl⟩
 ·exact⟨t,rfl⟩
theorem KV.get{κ:Type}:∀{kvs:List (κ×V)}{vs:List (κ×Value)}{i:Nat}{p:κ×V},KV kvs vs->kvs[i]?=some p->∃u,vs[i]?=some (p.1,u)/\RelV p.2 u
 |_,_,_,_,.nil,e=>by simp at e
 |_,_,0,_,.cons (b:=q) r _,e=>by
  simp at e;subst e;exact⟨q.2,by rw[r.1];rfl,r.2⟩
 |_,_,i+1,p,.cons _ t,e=>by
  obtain⟨u,h1,h2⟩:=KV.get (i:=i) (p:=p) t (by simpa using e);exact⟨u,by simpa using h1,h2⟩
theorem G5{P:Program}{w:World}{K:PySem.W.Frag}{elts:List Expr}{k:Nat}{pos:Pos}(d it:Addr)(o:Obj)(kvs:List (Key×V)){es:Array DictEntry}{ep:Nat}(hdat:o.data=.dict es ep) :
  Turn P w K (.Tuple elts k pos) (ItD d o kvs) [it] it (λi h=>∃ok ov,IsItemIter h it d i kvs.length ep ok ov) where
 mem:=by simp
 obj:=λi h st b hb=>by
  obtain⟨ok,ov,he⟩:=st;have e':=Zb.mp hb;subst e';exact⟨_,he,λv z=>by
   have z':Data.fields _=Data.cell v:=z;cases z'⟩
 keep:=λi h h' st k=>by
  obtain⟨ok,ov,he⟩:=st;exact⟨ok,ov,k it (by simp) _ he⟩
 item:=by
  intro X hP hw hK hc i pins s σ H E I hf st hg;subst hP hw hK;obtain⟨ok,ov,hit⟩:=st;obtain⟨hfz,hi⟩:=hg;obtain⟨ho,hz,ne,vs,kv,dd⟩:=(show eO X.prog X.w H s.heap d (.frz o (.dK kvs)) from I.hok d _ hfz)
  obtain⟨ep',hat⟩:=dd.dictAt;obtain⟨o2,es2,ho2,a1,hd2,a3⟩:=id hat;rw[ho]at ho2;cases ho2;rw[hdat]at hd2;cases hd2;have hlen:=kv.length;rw[hlen]at hit;obtain⟨u,hu,ru⟩:=KV.get kv (Zz hi);have fi:=hf it (by simp);refine wpAny_pyNext_items_item hit hat hu λkey h' hkey hout hT hsz hk=>?_;refine⟨_,rfl,?_⟩;have hTi:it≠s.heap.objs.size:=Nat.ne_of_lt (Heap.lt_size hit);have I1:Inv X pins σ (upd H s.heap.objs.size (.tup [kV kvs[i].1,kvs[i].2])) { s with heap:=h',toks:=s.toks } :=
   I.turnedNew (ch:=[it]) (λb v hb q=>hk b v (λz=>hb (by simp[z])) q) (λb v q=>by
    by_cases h1:b=it
    ·subst h1;exact⟨_,hout⟩
    ·exact⟨v,hk b v h1 q⟩) (Nat.le_refl _) hf ⟨by show 2<=ZW;decide,[key,u],.cons (XT hkey) (.cons ru .nil),⟨_,hT,rfl,_,rfl⟩⟩
  refine wpAny_letOwnedTupleGo_items hout λh2 he2 hs2=>?_;have I2:Inv X pins σ (upd H s.heap.objs.size (.tup [kV kvs[i].1,kvs[i].2])) { s with heap:=h2,toks:=s.toks } :=
   Inv.turned (s:={ s with heap:=h',toks:=s.toks }) (h':=h2) (t':=s.toks) (it:=it) I1 (λb o hb q=>(hs2.2 b hb).trans q) (by rw[aK hTi];exact fi.1) fi.2.1 fi.2.2.2.1 fi.2.2.2.2.1 fi.2.2.2.2.2
  refine⟨.ref s.heap.objs.size,_,I2,rfl,⟨s.heap.objs.size,kvs[i],Zz hi,rfl,I.fresh,rfl⟩,⟨_,_,by rw[hlen];exact he2⟩,λb hb=>?_⟩;have e':=Zb.mp hb;subst e';rw[aK hTi];exact fi.1
 done:=by
  intro X hP hw hK hc i pins s σ H E I hf st hg;subst hP hw hK;obtain⟨ok,ov,hit⟩:=st;obtain⟨hfz,hi⟩:=hg;obtain⟨ho,hz,ne,vs,kv,dd⟩:=(show eO X.prog X.w H s.heap d (.frz o (.dK kvs)) from I.hok d _ hfz)
  obtain⟨ep',hat⟩:=dd.dictAt;obtain⟨o2,es2,ho2,a1,hd2,a3⟩:=id hat;rw[ho]at ho2;cases ho2;rw[hdat]at hd2;cases hd2;have hlen:=kv.length;rw[hlen]at hit;obtain⟨f0,f1,f2,f3,f4,f5⟩:=hf it (by simp);refine wpAny_pyNext_items_end (I.ok.hd hc) hit hat (Zr (by lia)) λh' eb=>⟨rfl,?_⟩
  exact I.turned (t':=s.toks) (λb o hb q=>eb b o hb q) f0 f1 f3 f4 f5
 self:=λ_ _ s _ _ st h=>by
  obtain⟨ok,ov,he⟩:=st;have hT:s.TypeIs (.ref it) "dict_itemiterator":=⟨_,he,rfl⟩
  refine wpAny_pyIter_slot hT F.slot_dict_itemiterator_iter (wpAny_call_entry F.slot_dict_itemiterator_iter hT p7 ?_ (F.args_dict_itemiterator_iter_1 _));show wpAny _ _ (ret (.ref it)) _ _ s;exact ZY ⟨_,rfl,"dict_itemiterator",_,hT,F.slot_dict_itemiterator_next.lookup,h⟩
end
end L2
namespace L2
open PySem PySem.Spec PyProof.Rows
section
variable{X:Cx}
def V7(to:TE):TI:=λσ H R=>to σ H λx H1=>∃(d:Addr) (kvs:List (Key×V)),x=.ref d/\H1 d=some (.dK kvs)/\∀o,R (ItD d o kvs) (upd H1 d (.frz o (.dK kvs)))
theorem OX{o:Expr}{to:TE}{elts:List Expr}{k:Nat}{tpos apos cpos:Pos}(ho:PE X o to)
  (hbase:attributeBase o "items" X.env (eval o X.env)=eval o X.env:=by rfl) (hline:(apos.endLine==cpos.line)=true:=by rfl):PI X (.Tuple elts k tpos) (.Call (.Attribute o "items" apos) [] [] cpos) (V7 to):=by
 intro pins s σ H R I h;refine wpAny_Call_method0_late hbase hline (thn (ho pins s σ H _ I h) λv s1 ⟨x,H1,I1,r1,d,kvs,ex,hd,q1⟩=>?_);subst ex;cases r1;obtain⟨h1,h2⟩:=G2 (T:="dict") I1 (show RelV (.ref d) (.ref d) from rfl) (.inr (.inr (.inl ⟨rfl,.inl ⟨kvs,hd⟩⟩)));obtain⟨hz,ne,vs,kv,dd⟩:=UN I1.hok hd;refine⟨"dict","dict.items",PySem.F.plainAttrs_dict,PySem.F.slot_dict_items,PySem.F.type_dict_items,h1,h2,Calls.callWith_builtin rfl (PySem.evalArgs_none ?_)⟩;refine call_meetsIn PySem.F.slot_dict_items h1 PySem.F.entry_dict_items (PySem.F.args_dict_items_1 _) (meets_dict_items (eI X.prog X.w) d ne) ⟨⟨vs,dd⟩,?_⟩;obtain⟨ep,hat⟩:=dd.dictAt;obtain⟨o,es,ho',a1,hdat,a3⟩:=id hat;refine wpAny_pyIter_items (v:=s1.heap.objs.size) (d:=d) (knd:=eI X.prog X.w) (kvs:=vs) (ep:=ep) ⟨_,Heap.get?_push_size _ rfl,rfl,rfl⟩ (hat.push _) ?_;have I2:=(I1.freeze hd ho').kept (t':=s1.toks) (h':=s1.heap.push { cls:=.type "dict_items",data:=.fields #[.ref d] }) λb u e=>Heap.get?_push_of_some _ e;have I3:=I2.kept (t':=s1.toks) (h':=(s1.heap.push { cls:=.type "dict_items",data:=.fields #[.ref d] }).push { cls:=.type "dict_itemiterator",data:=.fields #[.none,.bool false,.ref d,.int 0 0,.int vs.length 0,.int ep 0,.none,.none] }) λb u e=>Heap.get?_push_of_some _ e;refine⟨(s1.heap.push { cls:=.type "dict_items",data:=.fields #[.ref d] }).objs.size,[(s1.heap.push { cls:=.type "dict_items",data:=.fields #[.ref d] }).objs.size],_,_,_,rfl,I3,G5 d _ o kvs hdat,⟨.none,.none,?_⟩,λb hb=>?_,q1 o⟩
 ·rw[kv.length];exact Heap.get?_push_size _ rfl
 ·have e':=Zb.mp hb;subst e';exact I2.fpOk (Nat.le_refl _) (I2.hok.fresh (Nat.le_refl _))
end
theorem M1{d:Addr}{o:Obj}{kvs:List (Key×V)}{g:TG}{tb:TS}{D:Ends}{σ:St}{H:Hp}(Pv:Nat->St->Hp->Prop)(h0:Pv 0 σ H)(hl:∀i σ H,i<=kvs.length->Pv i σ H->H d=some (.frz o (.dK kvs)))
  (hs:∀(i:Nat) p σ H T,kvs[i]?=some p->Pv i σ H->H T=none->g (.ref T) σ (upd H T (.tup [kV p.1,p.2])) λσ2 H2=>tb { D with nx:=Pv (i+1),ct:=Pv (i+1),bk:=D.nx } σ2 H2) (hd:∀σ H,Pv kvs.length σ H->D.nx σ H) :
  ∃W:Nat->Nat->St->Hp->Prop,(∃m,W 0 m σ H)/\∀i m σ H,W i m σ H ->
   ((ItD d o kvs).stop i H/\D.nx σ H)\/((ItD d o kvs).go i H/\∃N:St->Hp->Prop,(∀σ' H',N σ' H'->∃m',m' < m/\W (i+1) m' σ' H')/\∀x H',(ItD d o kvs).yld i H x H'->g x σ H' λσ2 H2=>tb { D with nx:=N,ct:=N,bk:=D.nx } σ2 H2):=by
 refine⟨λi m σ H=>m=kvs.length-i/\i<=kvs.length/\Pv i σ H,⟨kvs.length,by simp,Nat.zero_le _,h0⟩,?_⟩;rintro i m σ H ⟨rfl,hi,p⟩;have q:=hl i σ H hi p;by_cases hlt:i<kvs.length
 ·refine .inr ⟨⟨q,hlt⟩,Pv (i+1),λσ' H' p'=>⟨kvs.length-(i+1),by omega,rfl,hlt,p'⟩,λx H' y=>?_⟩;obtain⟨T,kv,e,rfl,hT,rfl⟩:=y;exact hs i kv σ _ T e p hT
 ·have e:i=kvs.length:=by lia
  subst e;exact .inl ⟨⟨q,Nat.le_refl _⟩,hd σ H p⟩
end L2
namespace L2
open PySem PySem.Spec PyProof.Rows
section
variable{X:Cx}{pins:List (Addr×Obj)}{σ:St}{H:Hp}{s:Shared}{h':Heap}
theorem Inv.turnedCh{t':Nat}{ch:List Addr}(I:Inv X pins σ H s)(k:∀b u,b∉ch->s.heap.get? b=some u->h'.get? b=some u)(hf:∀b∈ch,wG X pins H b):Inv X pins σ H { s with heap:=h',toks:=t' }:=by
 have nit:∀b u,H b=some u->b∉ch:=λb u e z=>by rw[(hf b z).1]at e;cases e
 refine I.step (g':=s.gens) (d':=s.drawn) (ch:=ch) (λb hb=>?_) (λb o _ _ hc e _=>k b o hc e) (λb o _ _ hc e _=>⟨o.slots,k b o hc e⟩) (λb u hc e n=>n) (λb u hc e=>⟨u,k b u hc e⟩)
  (λb xs e=>e) (λb ob u e=>e) (λb ps e=>⟨#[],by rw[e];simp⟩) (λm hm=>?_) (λb u e=>?_) I.bare
 ·exact⟨(hf b hb).2.2.2.1,(hf b hb).2.1,(hf b hb).2.2.2.2.1,(hf b hb).2.2.2.2.2⟩
 ·obtain⟨ob,es,ep,ho,r⟩:=hm;exact⟨ob,es,ep,k _ ob (λz=>(hf _ z).2.1 rfl) ho,r⟩
 ·refine(I.hok b u e).stay (λc v hc q=>k c v ?_ q) (λc q=>q) λc xs q=>q;rcases hc with z | z
  ·rw[z];exact nit b u e
  ·exact nit c _ z
end
def Itz(a b:Addr):It :=
 ⟨λi H=>∃xs ys x y,H a=some (.lst xs)/\H b=some (.lst ys)/\xs[i]?=some x/\ys[i]?=some y,λi H v H'=>∃T x y,v=.ref T/\H T=none/\H'=upd H T (.tup [x,y])/\(∀xs,H a=some (.lst xs)->xs[i]?=some x)/\∀ys,H b=some (.lst ys)->ys[i]?=some y,λi H=>∃xs ys,H a=some (.lst xs)/\H b=some (.lst ys)/\(xs.length<=i\/ys.length<=i)⟩
theorem NX{P:Program}{w:World}{K:PySem.W.Frag}{elts:List Expr}{k:Nat}{pos:Pos}(a b z TI TO i1 i2:Addr)(d:[z,TI,TO,i1,i2].Nodup) :
  Turn P w K (.Tuple elts k pos) (Itz a b) [z,TI,TO,i1,i2] z (λi h=>IsZip h z TI TO .none/\IsPair h TI (.ref i1) (.ref i2)/\(∃u v,IsPair h TO u v)/\h.IsListIter i1 a i/\h.IsListIter i2 b i):=by
 simp only[List.nodup_cons,Zn,List.not_mem_nil,or_false,not_or]at d;obtain⟨⟨d1,d2,d3,d4⟩,⟨d5,d6,d7⟩,⟨d8,d9⟩,d10,_⟩:=d;have apart:∀{H:Hp}{l l':Addr}{xs ys:List V},H l=some (.lst xs)->H l'=some (.lst ys)->(∀c∈[z,TI,TO,i1,i2],H c=none)->ZipApart z TI TO i1 i2 l l':=λ{H l l' xs ys} h h' hn =>
  ⟨Ne.symm d1,Ne.symm d2,Ne.symm d3,Ne.symm d4,d5,d6,d7,d8,d9,d10,aH h (hn z (by simp)),aH h (hn TO (by simp)),aH h (hn i1 (by simp)),aH h (hn i2 (by simp)),
   aH h' (hn z (by simp)),aH h' (hn TO (by simp)),aH h' (hn i1 (by simp)),aH h' (hn i2 (by simp))⟩
 refine⟨by simp,?_,?_,?_,?_,?_⟩
 ·rintro i h ⟨hz,hTI,⟨u,v,hTO⟩,⟨o1,h1,c1,e1⟩,⟨o2,h2,c2,e2⟩⟩ b' hb;simp only[Zn,List.not_mem_nil,or_false]at hb;rcases hb with rfl | rfl | rfl | rfl | rfl
  ·exact⟨_,hz,λv q=>by have q':Data.fields _=Data.cell v:=q;cases q'⟩
  ·exact⟨_,hTI,λv q=>by have q':Data.seq _ _=Data.cell v:=q;cases q'⟩
  ·exact⟨_,hTO,λv q=>by have q':Data.seq _ _=Data.cell v:=q;cases q'⟩
  ·exact⟨_,h1,λv q=>by rw[e1]at q;cases q⟩
  ·exact⟨_,h2,λv q=>by rw[e2]at q;cases q⟩
 ·rintro i h h' ⟨hz,hTI,⟨u,v,hTO⟩,h1,h2⟩ kk;exact⟨kk z (by simp) _ hz,kk TI (by simp) _ hTI,⟨u,v,kk TO (by simp) _ hTO⟩,h1.at λo e=>kk i1 (by simp) o e,h2.at λo e=>kk i2 (by simp) o e⟩
 ·intro X hP hw hK hc i pins s σ H E I hf st hg;subst hP hw hK;obtain⟨hz,hTI,⟨u,v,hTO⟩,h1,h2⟩:=st;obtain⟨xs,ys,x,y,ha,hb,hx,hy⟩:=hg;have D:=apart ha hb λc hc=>(hf c hc).1;obtain⟨_,its,n,rv,hl,e⟩:=I.lstM ha;obtain⟨_,its2,n2,rv2,hl2,e2⟩:=I.lstM hb;obtain⟨u1,hu1,ru1⟩:=rv.get hx;obtain⟨u2,hu2,ru2⟩:=rv2.get hy;have hux:its.toArray[i]?=some u1:=by simpa using hu1
  have huy:its2.toArray[i]?=some u2:=by simpa using hu2
  refine wpAny_pyNext_zip_item D hz hTI hTO h1 h2 ⟨_,e,rfl,n,rfl⟩ ⟨_,e2,rfl,n2,rfl⟩ hux huy λh' a1 a2 a3 a4 a5 a6 hk=>?_;refine⟨_,rfl,?_⟩;have kk:∀c o,c∉[z,TO,i1,i2]->s.heap.get? c=some o->h'.get? c=some o:=λc o hc q=>hk c o (λx=>hc (by simp[x])) (λx=>hc (by simp[x])) (λx=>hc (by simp[x])) (λx=>hc (by simp[x])) q;have th:∀c o,s.heap.get? c=some o->∃o',h'.get? c=some o':=λc o q=>by
   by_cases c1:c=z
   ·subst c1;exact⟨_,a1⟩
   ·by_cases c2:c=TO
    ·subst c2;exact⟨_,a2⟩
    ·by_cases c3:c=i1
     ·subst c3;obtain⟨o',q1,_⟩:=a3;exact⟨_,q1⟩
     ·by_cases c4:c=i2
      ·subst c4;obtain⟨o',q1,_⟩:=a4;exact⟨_,q1⟩
      ·exact⟨o,hk c o c1 c2 c3 c4 q⟩
  have sub:∀c∈[z,TO,i1,i2],c∈[z,TI,TO,i1,i2]:=λc hc=>by simp at hc ⊢;rcases hc with rfl | rfl | rfl | rfl<;>simp
  have I1:Inv X pins σ (upd H s.heap.objs.size (.tup [x,y])) { s with heap:=h',toks:=s.toks } :=
   I.turnedNew (ch:=[z,TO,i1,i2]) kk th (Nat.le_refl _) (λc hc=>hf c (sub c hc)) ⟨by show 2<=ZW;decide,[u1,u2],.cons ru1 (.cons ru2 .nil),⟨_,a5,rfl,_,rfl⟩⟩
  have fz:=hf z (by simp);have neT:∀c∈[z,TI,TO,i1,i2],c≠s.heap.objs.size:=λc hc=>by
   simp only[Zn,List.not_mem_nil,or_false]at hc;rcases hc with rfl | rfl | rfl | rfl | rfl
   ·exact Nat.ne_of_lt (Heap.lt_size hz)
   ·exact Nat.ne_of_lt (Heap.lt_size hTI)
   ·exact Nat.ne_of_lt (Heap.lt_size hTO)
   ·obtain⟨_,q,_⟩:=h1;exact Nat.ne_of_lt (Heap.lt_size q)
   ·obtain⟨_,q,_⟩:=h2;exact Nat.ne_of_lt (Heap.lt_size q)
  refine wpAny_letOwnedTupleGo_zip a1 λh2' hz2 hs2=>?_;have I2:Inv X pins σ (upd H s.heap.objs.size (.tup [x,y])) { s with heap:=h2',toks:=s.toks } :=
   Inv.turned (s:={ s with heap:=h',toks:=s.toks }) (h':=h2') (t':=s.toks) (it:=z) I1 (λc o hc q=>(hs2.2 c hc).trans q) (by rw[aK (neT z (by simp))];exact fz.1) fz.2.1 fz.2.2.2.1 fz.2.2.2.2.1 fz.2.2.2.2.2
  refine⟨.ref s.heap.objs.size,_,I2,rfl,⟨s.heap.objs.size,x,y,rfl,I.fresh,rfl,λzs hzs=>by rw[ha]at hzs;cases hzs;exact hx,λzs hzs=>by rw[hb]at hzs;cases hzs;exact hy⟩,
   ⟨hz2,(hs2.2 TI (Ne.symm d1)).trans (hk TI _ (Ne.symm d1) d5 d6 d7 hTI),⟨_,_,(hs2.2 TO (Ne.symm d2)).trans a2⟩,a3.at λo q=>(hs2.2 i1 (Ne.symm d3)).trans q,a4.at λo q=>(hs2.2 i2 (Ne.symm d4)).trans q⟩,λc hc=>?_⟩
  rw[aK (neT c hc)];exact(hf c hc).1
 ·intro X hP hw hK hc i pins s σ H E I hf st hg;subst hP hw hK;obtain⟨hz,hTI,⟨u,v,hTO⟩,h1,h2⟩:=st;obtain⟨xs,ys,ha,hb,hx⟩:=hg;have D:=apart ha hb λc hc=>(hf c hc).1;obtain⟨_,its,n,rv,hl,e⟩:=I.lstM ha;obtain⟨_,its2,n2,rv2,hl2,e2⟩:=I.lstM hb;have sub:∀c∈[z,TO,i1,i2],c∈[z,TI,TO,i1,i2]:=λc hc=>by simp at hc ⊢;rcases hc with rfl | rfl | rfl | rfl<;>simp
  refine wpAny_pyNext_zip_end (I.ok.hd hc) D hz hTI hTO h1 h2 ⟨_,e,rfl,n,rfl⟩ ⟨_,e2,rfl,n2,rfl⟩ ?_ λh' hk=>⟨rfl,?_⟩
  ·rcases hx with q | q
   ·left;simp;lia
   ·right;simp;lia
  ·exact I.turnedCh (t':=s.toks) (ch:=[z,TO,i1,i2]) (λc o hc q=>hk c o (λx=>hc (by simp[x])) (λx=>hc (by simp[x])) (λx=>hc (by simp[x])) (λx=>hc (by simp[x])) q) λc hc=>hf c (sub c hc)
 ·intro A i s Q E st h;exact wpAny_pyIter_zip st.1 h
section
variable{X:Cx}
def Y7(ta:TA):TI:=λσ H R=>ta σ H λvs H1=>∃a b xs ys,vs=[.ref a,.ref b]/\H1 a=some (.lst xs)/\H1 b=some (.lst ys)/\R (Itz a b) H1
theorem HR{a b:Expr}{ta:TA}{p pos:Pos}{elts:List Expr}{k:Nat}{tpos:Pos}(hg:Gl X "zip")(hm:X.mg "zip" = none)(ha:PA X [a,b] ta)(hs:starEach [a,b] X.env=[(false,eval a X.env),(false,eval b X.env)]:=by rfl)(hs2:starEach [b] X.env=[(false,eval b X.env)]:=by rfl) :
  PI X (.Tuple elts k tpos) (.Call (.Name "zip" p) [a,b] [] pos) (Y7 ta):=by
 intro pins s σ H R I h;refine Call_ (rJ I hg hm boot_zip (PyProof.Rows.callWith_type1 (thn (ha pos pins s σ H _ I h) λus s1 ⟨vs,H1,I1,r1,q1⟩=>?_) (by rw[hs,hs2]) (by rw[hs2];rfl)));obtain⟨l,l2,xs,ys,e,hx,hy,q⟩:=q1;subst e;cases r1 with
 |cons r rr =>
  cases rr with
  |cons r' rr =>
   cases rr;cases r;cases r';obtain⟨_,its,n,rv,hl,e⟩:=I1.lstM hx;obtain⟨_,its2,n2,rv2,hl2,e2⟩:=I1.lstM hy;refine call_zip_2 ⟨_,e,rfl,n,rfl⟩ ⟨_,e2,rfl,n2,rfl⟩ λh' z1 z2 z3 z4 z5 hsz hk=>?_;refine wpAny_pyIter_zip z1 ?_;have I2:Inv X pins σ H1 { s1 with heap:=h' }:=I1.kept (t':=s1.toks) hk;refine⟨s1.heap.objs.size+4,[s1.heap.objs.size+4,s1.heap.objs.size+2,s1.heap.objs.size+3,s1.heap.objs.size,s1.heap.objs.size+1],_,_,H1,rfl,I2,NX l l2 _ _ _ _ _ (by simp),⟨z1,z2,⟨_,_,z3⟩,z4,z5⟩,λc hc=>?_,q⟩;have hc':s1.heap.objs.size<=c:=by
    simp only[Zn,List.not_mem_nil,or_false]at hc;rcases hc with rfl | rfl | rfl | rfl | rfl<;>lia
   exact I1.fpOk hc' (I1.hok.fresh hc')
end
theorem KL{a b:Addr}{xs ys:List V}{g:TG}{tb:TS}{D:Ends}{σ:St}{H:Hp}(Pv:Nat->St->Hp->Prop)(hlen:xs.length=ys.length)(h0:Pv 0 σ H)(hl:∀i σ H,i<=xs.length->Pv i σ H->H a=some (.lst xs)/\H b=some (.lst ys))
  (hs:∀(i:Nat) x y σ H T,xs[i]?=some x->ys[i]?=some y->Pv i σ H->H T=none->g (.ref T) σ (upd H T (.tup [x,y])) λσ2 H2=>tb { D with nx:=Pv (i+1),ct:=Pv (i+1),bk:=D.nx } σ2 H2) (hd:∀σ H,Pv xs.length σ H->D.nx σ H) :
  ∃W:Nat->Nat->St->Hp->Prop,(∃m,W 0 m σ H)/\∀i m σ H,W i m σ H ->
   ((Itz a b).stop i H/\D.nx σ H)\/((Itz a b).go i H/\∃N:St->Hp->Prop,(∀σ' H',N σ' H'->∃m',m' < m/\W (i+1) m' σ' H')/\∀x H',(Itz a b).yld i H x H'->g x σ H' λσ2 H2=>tb { D with nx:=N,ct:=N,bk:=D.nx } σ2 H2):=by
 refine⟨λi m σ H=>m=xs.length-i/\i<=xs.length/\Pv i σ H,⟨xs.length,by simp,Nat.zero_le _,h0⟩,?_⟩;rintro i m σ H ⟨rfl,hi,p⟩;obtain⟨q1,q2⟩:=hl i σ H hi p;by_cases hlt:i<xs.length
 ·refine .inr ⟨⟨xs,ys,xs[i],ys[i]'(by lia),q1,q2,by simp[hlt],by rw[Zz (by lia)]⟩,Pv (i+1),λσ' H' p'=>⟨xs.length-(i+1),by lia,rfl,hlt,p'⟩,λx H' y=>?_⟩;obtain⟨T,x',y',rfl,hT,rfl,y1,y2⟩:=y;exact hs i x' y' σ _ T (y1 xs q1) (y2 ys q2) p hT
 ·have e:i=xs.length:=by lia
  subst e;exact .inl ⟨⟨xs,ys,q1,q2,.inl (Nat.le_refl _)⟩,hd σ H p⟩
end L2
namespace L2
open PySem PySem.Spec PyProof.Rows
end L2
namespace L2
open PySem PyProof.Rows
theorem tF:∀xs ys:List Int,PyData.eqvAll (xs.map PyData.int) (ys.map PyData.int)=decide (xs=ys)
 |[],[]=>rfl
 |[],_::_=>rfl
 |_::_,[]=>rfl
 |x::xs,y::ys=>by
  simp only[List.map_cons,PyData.eqvAll,tF xs ys,PyData.eqv];by_cases h:x=y
  ·subst h;simp
  ·simp[h]
theorem M3(xs ys:List Int):PyData.eqv (.list (xs.map PyData.int)) (.list (ys.map PyData.int))=decide (xs=ys):=by
 rw[PyData.eqv,tF]
end L2
namespace FL
structure En where
 d:Int
 v:Nat
 k:Nat
 by_:Int
section
variable(rest:Nat->Int)(src dst:Nat->Int->Nat)(len:Nat->Int->Int)(op:Nat->Int->Prop)
def Led(R:List En)(e:En):Prop:=op e.k e.by_/\dst e.k e.by_=e.v/\e.by_≠0/\∃u∈R,u.v=src e.k e.by_/\e.d=u.d+len e.k e.by_
def CJ(e:En):Prop:=e.by_=0/\e.d=0/\0<rest e.v
structure Rch(n:Nat)(pr:Nat->Int->Prop)(R W:List En)(nr:Nat->Option Int):Prop where
 old:∀(i:Nat) e,R[i]?=some e->CJ rest e\/Led src dst len op (R.take i) e
 wait:∀e∈W,CJ rest e\/Led src dst len op R e
 lt:∀e∈R++W,e.v<n
 nd:(R.map (·.v)).Nodup
 up:R.Pairwise λa b=>a.d<=b.d
 mono:∀u∈R,∀e∈W,u.d<=e.d
 dom:∀k by_,pr k by_->op k by_->∃x,nr (dst k by_)=some x/\∃u∈R,u.v=src k by_/\x<=u.d+len k by_
 near:∀v x,nr v=some x->∃e∈R++W,e.v=v/\e.d<=x
 pos:∀v,v<n->0<rest v->∃e∈R++W,e.v=v/\e.d<=0
variable{rest src dst len op}{n:Nat}{pr pr':Nat->Int->Prop}{R W W':List En}{nr:Nat->Option Int}{e:En}
theorem Led.more{R R':List En}(h:Led src dst len op R e)(s:∀u∈R,u∈R'):Led src dst len op R' e:=by
 obtain⟨a,b,c,u,hu,r⟩:=h;exact⟨a,b,c,u,s u hu,r⟩
theorem Rch.start(hW:∀e∈W,CJ rest e/\e.v<n)(all:∀v,v<n->0<rest v->∃e∈W,e.v=v):Rch rest src dst len op n (λ_ _=>False) [] W (λ_=>none) where
 old:=λi e h=>by simp at h
 wait:=λe he=>.inl (hW e he).1
 lt:=λe he=>(hW e (by simpa using he)).2
 nd:=List.nodup_nil
 up:=.nil
 mono:=λu hu=>by cases hu
 dom:=λ_ _ h=>h.elim
 near:=λ_ _ h=>by cases h
 pos:=λv hv h=>by
  obtain⟨e,he,ev⟩:=all v hv h;exact⟨e,by simpa using he,ev,by rw[(hW e he).1.2.1];exact Int.le_refl _⟩
theorem Rch.drop(h:Rch rest src dst len op n pr R W nr)(p:W.Perm (e::W'))(he:∃u∈R,u.v=e.v):Rch rest src dst len op n pr R W' nr:=by
 have sub:∀x∈W',x∈W:=λx hx=>p.mem_iff.mpr (.tail _ hx);have inst:∀{v:Nat}{x:Int},(∃e∈R++W,e.v=v/\e.d<=x)->∃e∈R++W',e.v=v/\e.d<=x:=λ{v x} ⟨y,hy,yv,yd⟩=>by
  rcases Zf.mp hy with hy | hy
  ·exact⟨y,List.mem_append_left _ hy,yv,yd⟩
  ·rcases Zn.mp (p.mem_iff.mp hy) with rfl | hy'
   ·obtain⟨u,hu,uv⟩:=he;exact⟨u,List.mem_append_left _ hu,uv.trans yv,Int.le_trans (h.mono u hu _ hy) yd⟩
   ·exact⟨y,List.mem_append_right _ hy',yv,yd⟩
 exact{ old:=h.old,wait:=λx hx=>h.wait x (sub x hx),lt:=λx hx=>h.lt x ((Zf.mp hx).elim (List.mem_append_left _) λz=>List.mem_append_right _ (sub x z)),nd:=h.nd,up:=h.up,mono:=λu hu x hx=>h.mono u hu x (sub x hx),dom:=h.dom,near:=λv x hv=>inst (h.near v x hv),pos:=λv hv hp=>inst (h.pos v hv hp) }
theorem Rch.take(h:Rch rest src dst len op n pr R W nr)(p:W.Perm (e::W'))(least:∀x∈W',e.d<=x.d)(he:∀u∈R,u.v≠e.v):Rch rest src dst len op n pr (R++[e]) W' nr:=by
 have me:e∈W:=p.mem_iff.mpr (.head _);have sub:∀x∈W',x∈W:=λx hx=>p.mem_iff.mpr (.tail _ hx);have inst:∀{v:Nat}{x:Int},(∃e∈R++W,e.v=v/\e.d<=x)->∃y∈(R++[e])++W',y.v=v/\y.d<=x:=λ{v x} ⟨y,hy,yv,yd⟩=>by
  refine⟨y,?_,yv,yd⟩;rcases Zf.mp hy with hy | hy
  ·exact List.mem_append_left _ (List.mem_append_left _ hy)
  ·rcases Zn.mp (p.mem_iff.mp hy) with rfl | hy'
   ·exact List.mem_append_left _ (List.mem_append_right _ (.head _))
   ·exact List.mem_append_right _ hy'
 exact{
  old:=λi x hx=>by
   rcases Xq i R.length with hi | hi
   ·rw[Zx hi]at hx;rw[List.take_append_of_le_length (Nat.le_of_lt hi)];exact h.old i x hx
   ·rw[Zy hi]at hx;have hz:i-R.length=0:=by
     have:=(Zj.mp hx).1;simp at this
     lia
    rw[hz]at hx;have ex:e=x:=by simpa using hx
    subst ex;have ei:i=R.length:=by lia
    subst ei;rw[List.take_left];exact h.wait _ me
  wait:=λx hx=>(h.wait x (sub x hx)).imp id λz=>z.more λu hu=>List.mem_append_left _ hu
  lt:=λx hx=>by
   rcases Zf.mp hx with hx | hx
   ·rcases Zf.mp hx with hx | hx
    ·exact h.lt x (List.mem_append_left _ hx)
    ·cases hx with
     |head=>exact h.lt _ (List.mem_append_right _ me)
     |tail _ z=>cases z
   ·exact h.lt x (List.mem_append_right _ (sub x hx))
  nd:=by
   rw[Zt];refine List.nodup_append.mpr ⟨h.nd,by simp,?_⟩;intro a ha b hb;obtain⟨u,hu,rfl⟩:=Zh.mp ha;have:b=e.v:=by simpa using hb
   rw[this];exact he u hu
  up:=List.pairwise_append.mpr ⟨h.up,List.pairwise_singleton _ _,λa ha b hb=>by
   have:b=e:=by simpa using hb
   rw[this];exact h.mono a ha e me⟩
  mono:=λu hu x hx=>by
   rcases Zf.mp hu with hu | hu
   ·exact h.mono u hu x (sub x hx)
   ·have:u=e:=by simpa using hu
    rw[this];exact least x hx
  dom:=λk by_ hp ho=>by
   obtain⟨x,h1,u,hu,r⟩:=h.dom k by_ hp ho;exact⟨x,h1,u,List.mem_append_left _ hu,r⟩
  near:=λv x hv=>inst (h.near v x hv)
  pos:=λv hv hp=>inst (h.pos v hv hp) }
theorem Rch.pass{k:Nat}{by_:Int}(h:Rch rest src dst len op n pr R W nr)(c:op k by_->∃x,nr (dst k by_)=some x/\∃u∈R,u.v=src k by_/\x<=u.d+len k by_)(sub:∀k' b',pr' k' b'->pr k' b'\/(k'=k/\b'=by_)):Rch rest src dst len op n pr' R W nr :=
 ⟨h.old,h.wait,h.lt,h.nd,h.up,h.mono,λk' b' hp ho=>(sub k' b' hp).elim (λz=>h.dom k' b' z ho) λz=>by
  obtain⟨rfl,rfl⟩:=z;exact c ho,h.near,h.pos⟩
theorem Rch.put{k:Nat}{by_:Int}{u:En}(h:Rch rest src dst len op n pr R W nr)(ho:op k by_)(hb:by_≠0)(hu:u∈R)(uv:u.v=src k by_)(top:∀x∈R,x.d<=u.d)(hl:0<=len k by_)(hd:dst k by_<n)
  (better:∀x,nr (dst k by_)=some x->u.d+len k by_<=x) (p:W'.Perm (⟨u.d+len k by_,dst k by_,k,by_⟩::W)) (sub:∀k' b',pr' k' b'->pr k' b'\/(k'=k/\b'=by_)) :
  Rch rest src dst len op n pr' R W' (λv=>if v=dst k by_ then some (u.d+len k by_) else nr v):=by
 have new:(⟨u.d+len k by_,dst k by_,k,by_⟩:En)∈W':=p.mem_iff.mpr (.head _);have grow:∀{v:Nat}{x:Int},(∃e∈R++W,e.v=v/\e.d<=x)->∃e∈R++W',e.v=v/\e.d<=x:=λ{v x} ⟨y,hy,r⟩=>by
  refine⟨y,?_,r⟩;rcases Zf.mp hy with hy | hy
  ·exact List.mem_append_left _ hy
  ·exact List.mem_append_right _ (p.mem_iff.mpr (.tail _ hy))
 exact{
  old:=h.old
  wait:=λx hx=>by
   rcases Zn.mp (p.mem_iff.mp hx) with rfl | hx
   ·exact .inr ⟨ho,rfl,hb,u,hu,uv,rfl⟩
   ·exact h.wait x hx
  lt:=λx hx=>by
   rcases Zf.mp hx with hx | hx
   ·exact h.lt x (List.mem_append_left _ hx)
   ·rcases Zn.mp (p.mem_iff.mp hx) with rfl | hx
    ·exact hd
    ·exact h.lt x (List.mem_append_right _ hx)
  nd:=h.nd
  up:=h.up
  mono:=λy hy x hx=>by
   rcases Zn.mp (p.mem_iff.mp hx) with rfl | hx
   ·show y.d<=u.d+len k by_;have:=top y hy
    lia
   ·exact h.mono y hy x hx
  dom:=λk' b' hp ho'=>by
   by_cases z:dst k' b'=dst k by_
   ·refine⟨_,if_pos z,?_⟩;rcases sub k' b' hp with y | ⟨rfl,rfl⟩
    ·obtain⟨x,h1,w,hw,wv,hx⟩:=h.dom k' b' y ho';rw[z]at h1;have:=better x h1;exact⟨w,hw,wv,by lia⟩
    ·exact⟨u,hu,uv,Int.le_refl _⟩
   ·rcases sub k' b' hp with y | ⟨rfl,rfl⟩
    ·obtain⟨x,h1,r⟩:=h.dom k' b' y ho';exact⟨x,(if_neg z).trans h1,r⟩
    ·exact absurd rfl z
  near:=λv x hv=>by
   by_cases z:v=dst k by_
   ·rw[if_pos z]at hv;cases hv;exact⟨_,List.mem_append_right _ new,z.symm,Int.le_refl _⟩
   ·rw[if_neg z]at hv;exact grow (h.near v x hv)
  pos:=λv hv hp=>grow (h.pos v hv hp) }
theorem Rch.shut(h:Rch rest src dst len op n pr R [] nr)(all:∀k by_,op k by_->(∃u∈R,u.v=src k by_)->pr k by_){k:Nat}{by_:Int}(ho:op k by_)(hs:∃u∈R,u.v=src k by_):∃u∈R,u.v=dst k by_:=by
 obtain⟨x,h1,_⟩:=h.dom k by_ (all k by_ ho hs) ho;obtain⟨e,he,ev,_⟩:=h.near _ _ h1;rw[List.append_nil]at he;exact⟨e,he,ev⟩
theorem Rch.have_pos(h:Rch rest src dst len op n pr R [] nr){v:Nat}(hv:v<n)(hp:0<rest v):∃u∈R,u.v=v:=by
 obtain⟨e,he,ev,_⟩:=h.pos v hv hp;rw[List.append_nil]at he;exact⟨e,he,ev⟩
noncomputable def lift(R:List En)(D:Int)(v:Nat):Int:=match R.find? λu=>u.v==v with
 |some u=>D-u.d
 |none=>0
theorem kS(nd:(R.map (·.v)).Nodup){u:En}(hu:u∈R)(D:Int):lift R D u.v=D-u.d:=by
 unfold lift;have:R.find? (λw=>w.v==u.v)=some u:=by
  induction R with
  |nil=>cases hu
  |cons a l ih =>
   rw[List.map_cons,List.nodup_cons]at nd;rcases Zn.mp hu with rfl | hu
   ·exact List.find?_cons_of_pos (by simp)
   ·have ne:¬(a.v==u.v)=true:=λz=>nd.1 (by rw[eq_of_beq z];exact Zh.mpr ⟨u,hu,rfl⟩);rw[List.find?_cons_of_neg (p:=λw:En=>w.v==u.v) ne];exact ih nd.2 hu
 rw[this]
theorem yZ{v:Nat}(h:∀u∈R,u.v≠v)(D:Int):lift R D v=0:=by
 unfold lift;have:R.find? (λw=>w.v==v)=none:=List.find?_eq_none.mpr λu hu z=>h u hu (eq_of_beq z);rw[this]
theorem Rch.slack(h:Rch rest src dst len op n pr (R++[e]) W nr)(all:∀k by_,op k by_->(∃u∈R,u.v=src k by_)->pr k by_)(nn:∀k by_,op k by_->0<=len k by_){k:Nat}{by_:Int}(ho:op k by_) :
  0<=len k by_-lift (R++[e]) e.d (src k by_)+lift (R++[e]) e.d (dst k by_):=by
 have top:∀u∈R++[e],u.d<=e.d:=λu hu=>by
  rcases Zf.mp hu with hu | hu
  ·exact(List.pairwise_append.mp h.up).2.2 u hu e (.head _)
  ·have:u=e:=by simpa using hu
   rw[this];exact Int.le_refl _
 have nn':=nn k by_ ho;have lo:0<=lift (R++[e]) e.d (dst k by_):=by
  by_cases z:∃u∈R++[e],u.v=dst k by_
  ·obtain⟨u,hu,uv⟩:=z;rw[<-uv,kS h.nd hu];have:=top u hu
   lia
  ·rw[yZ λu hu uv=>z ⟨u,hu,uv⟩];exact Int.le_refl _
 by_cases z:∃u∈R++[e],u.v=src k by_
 ·obtain⟨u,hu,uv⟩:=z;rw[<-uv,kS h.nd hu];rcases Zf.mp hu with hu' | hu'
  ·obtain⟨x,h1,w,hw,wv,hx⟩:=h.dom k by_ (all k by_ ho ⟨u,hu',uv⟩) ho;have ew:w.d=u.d:=by
    have a1:=kS h.nd hw 0;have a2:=kS h.nd hu 0;rw[wv,<-uv,a2]at a1
    lia
   obtain⟨y,hy,yv,yd⟩:=h.near _ _ h1;rcases Zf.mp hy with hy | hy
   ·rw[<-yv,kS h.nd hy]
    lia
   ·have:=h.mono e (List.mem_append_right _ (.head _)) y hy
    lia
  ·have:u=e:=by simpa using hu'
   rw[this]
   lia
 ·rw[yZ λu hu uv=>z ⟨u,hu,uv⟩]
  lia
theorem Rch.tight(h:Rch rest src dst len op n pr R W nr){i:Nat}(hi:R[i]?=some e)(hb:e.by_≠0)(D:Int):op e.k e.by_/\dst e.k e.by_=e.v/\len e.k e.by_-lift R D (src e.k e.by_)+lift R D (dst e.k e.by_)=0/\∃u j,j<i/\R[j]?=some u/\u.v=src e.k e.by_:=by
 rcases h.old i e hi with z | ⟨a,b,_,u,hu,uv,ud⟩
 ·exact absurd z.1 hb
 ·have hu':=List.mem_of_mem_take hu;obtain⟨j,hj,ej⟩:=Yy.mp hu;rw[Yw]at hj;refine⟨a,b,?_,u,j,by lia,?_,uv⟩
  ·rw[b,<-uv,kS h.nd hu',kS h.nd (Zg hi)]
   lia
  ·rw[<-ej,List.getElem_take,Zz (by lia)]
end
end FL
namespace FL
section
variable{rest:Nat->Int}{src dst:Nat->Int->Nat}{len:Nat->Int->Int}{op:Nat->Int->Prop}{n:Nat}{pr:Nat->Int->Prop}{R W:List En}{nr:Nat->Option Int}
inductive Back(src:Nat->Int->Nat)(R:List En):Nat->List (Nat×Int)->Nat->Prop
 |stop {i:Nat}{e:En}:R[i]?=some e->e.by_=0->Back src R i [] e.v
 |step {i j b:Nat}{e u:En}{ps:List (Nat×Int)}:R[i]?=some e->e.by_≠0->j<i->R[j]?=some u->u.v=src e.k e.by_->Back src R j ps b->Back src R i ((e.k,e.by_)::ps) b
theorem Back.there(h:Rch rest src dst len op n pr R W nr):∀(m i:Nat),i<m->i<R.length->∃ps b,Back src R i ps b/\b<n/\0<rest b
 |0,_,hm,_=>absurd hm (Nat.not_lt_zero _)
 |m+1,i,hm,hi=>by
  have g:=Zz hi;by_cases hb:(R[i]).by_=0
  ·refine⟨[],_,.stop g hb,h.lt _ (List.mem_append_left _ (Zp hi)),?_⟩;rcases h.old i _ g with z | z
   ·exact z.2.2
   ·exact absurd hb z.2.2.1
  ·obtain⟨_,_,_,u,j,hj,gj,uv⟩:=h.tight g hb 0;obtain⟨ps,b,hp,r⟩:=Back.there h m j (by lia) (by lia);exact⟨_,b,.step g hb hj gj uv hp,r⟩
theorem Back.open_(h:Rch rest src dst len op n pr R W nr){i b:Nat}{ps:List (Nat×Int)}(p:Back src R i ps b):∀q∈ps,op q.1 q.2/\∃(j:Nat) (e:En),j<=i/\R[j]?=some e/\e.k=q.1/\e.by_=q.2/\dst q.1 q.2=e.v/\∃(l:Nat) (u:En),l<j/\R[l]?=some u/\u.v=src q.1 q.2:=by
 induction p with
 |stop _ _=>intro q hq;cases hq
 |@step i j b e u ps g hb hj gj uv _ ih =>
  intro q hq;rcases Zn.mp hq with rfl | hq
  ·obtain⟨t1,t2,_,_⟩:=h.tight g hb 0;exact⟨t1,i,e,Nat.le_refl _,g,rfl,rfl,t2,j,u,hj,gj,uv⟩
  ·obtain⟨o,j',e',hj',r⟩:=ih q hq;exact⟨o,j',e',by lia,r⟩
theorem Q2(nd:(R.map (·.v)).Nodup){i j:Nat}{e u:En}(hi:R[i]?=some e)(hj:R[j]?=some u)(h:e.v=u.v):i=j:=by
 have a:(R.map (·.v))[i]?=some e.v:=by rw[Zk,hi];rfl
 have b:(R.map (·.v))[j]?=some e.v:=by rw[Zk,hj,h];rfl
 obtain⟨hi',ei⟩:=Zj.mp a;obtain⟨hj',ej⟩:=Zj.mp b;exact(List.getElem_inj nd).mp (ei.trans ej.symm)
theorem Back.once(h:Rch rest src dst len op n pr R W nr)(flip:∀k by_,op k by_->src k (-by_)=dst k by_)(one:∀k by_,op k by_->by_=1\/by_ = -1){i b:Nat}{ps:List (Nat×Int)}(p:Back src R i ps b):(ps.map (·.1)).Nodup:=by
 induction p with
 |stop _ _=>exact List.nodup_nil
 |@step i j b e u ps g hb hj gj uv p ih =>
  rw[List.map_cons,List.nodup_cons];refine⟨λz=>?_,ih⟩;obtain⟨q,hq,eq⟩:=Zh.mp z;obtain⟨oq,j',e',hj',g',k',b',d',l,w,hl,gl,wv⟩:=Back.open_ h p q hq;obtain⟨oe,de,_,_⟩:=h.tight g hb 0;have eq':q.1=e.k:=eq;have nd:=h.nd;by_cases s:q.2=e.by_
  ·rw[eq',s,de]at d';have:=Q2 nd g g' d'
   lia
  ·have sgn:q.2 = - e.by_:=by
    rcases one _ _ oq with x | x<;>rcases one _ _ oe with y | y<;>rw[x,y]at s ⊢<;>first | rfl | exact absurd rfl s
   have f:=flip _ _ oe;rw[eq',sgn,f,de]at wv;have:=Q2 nd gl g wv
   lia
end
def sm(m:Nat)(f:Nat->Int):Int:=((List.range m).map f).sum
theorem wK(f:Nat->Int):sm 0 f=0:=rfl
theorem dW(m:Nat)(f:Nat->Int):sm (m+1) f=sm m f+f m:=by
 unfold sm;rw[List.range_succ,Zt,List.sum_append];simp
theorem cW{m:Nat}{f g:Nat->Int}(h:∀k,k<m->f k=g k):sm m f=sm m g:=by
 induction m with
 |zero=>rfl
 |succ m ih=>rw[dW,dW,ih λk hk=>h k (by lia),h m (by lia)]
theorem OI{m k:Nat}(hk:k<m)(f:Nat->Int)(x:Int):sm m (λj=>f j+if j=k then x else 0)=sm m f+x:=by
 induction m with
 |zero=>exact absurd hk (Nat.not_lt_zero _)
 |succ m ih =>
  rw[dW,dW];by_cases z:k=m
  ·subst z;rw[cW (g:=f) λj hj=>by rw[if_neg (by lia)];lia,if_pos rfl]
   lia
  ·rw[ih (by lia),if_neg (λh=>z h.symm)]
   lia
def rs(m:Nat)(a b:Nat->Nat)(need g:Nat->Int)(v:Nat):Int:=need v-sm m (λk=>if a k=v then g k else 0)+sm m (λk=>if b k=v then g k else 0)
theorem XD{m k:Nat}{a b:Nat->Nat}{need g:Nat->Int}(hk:k<m)(x:Int)(v:Nat):rs m a b need (λj=>g j+if j=k then x else 0) v=rs m a b need g v-(if a k=v then x else 0)+(if b k=v then x else 0):=by
 have e:∀c:Nat->Nat,sm m (λj=>if c j=v then g j+(if j=k then x else 0) else 0)=sm m (λj=>if c j=v then g j else 0)+(if c k=v then x else 0):=λc=>by
  rw[<-OI hk];refine cW λj _=>?_;by_cases z:j=k
  ·subst z;rw[if_pos rfl,if_pos rfl];split<;>lia
  ·rw[if_neg z,if_neg z];split<;>lia
 unfold rs;rw[e a,e b]
 lia
def fS(g:Nat->Int)(x:Int):List (Nat×Int)->Nat->Int
 |[]=>g
 |(k,by_)::ps=>fS (λj=>g j+if j=k then by_*x else 0) x ps
def sd(a b:Nat->Nat)(k:Nat)(by_:Int):Nat:=if 0<by_ then a k else b k
def fr(a b:Nat->Nat)(k:Nat)(by_:Int):Nat:=if 0<by_ then b k else a k
theorem R0{m k:Nat}{a b:Nat->Nat}{need g:Nat->Int}{by_:Int}(hk:k<m)(one:by_=1\/by_ = -1)(x:Int)(v:Nat) :
  rs m a b need (λj=>g j+if j=k then by_*x else 0) v=rs m a b need g v-(if sd a b k by_=v then x else 0)+(if fr a b k by_=v then x else 0):=by
 rw[XD hk];rcases one with rfl | rfl
 ·have e1:sd a b k 1=a k:=rfl;have e2:fr a b k 1=b k:=rfl;rw[e1,e2,Int.one_mul]
 ·have e1:sd a b k (-1)=b k:=rfl;have e2:fr a b k (-1)=a k:=rfl;have e3 : -1*x = -x:=by lia
  rw[e1,e2,e3];by_cases z:a k=v<;>by_cases y:b k=v<;>simp only[z,y,if_true,if_false]<;>lia
theorem LW{rest:Nat->Int}{len:Nat->Int->Int}{op:Nat->Int->Prop}{n m:Nat}{pr:Nat->Int->Prop}{R W:List En}{nr:Nat->Option Int}{a b:Nat->Nat}{need:Nat->Int}
  (h:Rch rest (sd a b) (fr a b) len op n pr R W nr) (one:∀k by_,op k by_->by_=1\/by_ = -1) (hm:∀k by_,op k by_->k<m) (x:Int) {i c:Nat}{ps:List (Nat×Int)}(p:Back (sd a b) R i ps c) :
  ∀(g:Nat->Int) (e:En),R[i]?=some e->∀v,rs m a b need (fS g x ps) v=rs m a b need g v-(if c=v then x else 0)+(if e.v=v then x else 0):=by
 induction p with
 |@stop i e hi hb =>
  intro g e' he' v;rw[hi]at he';cases he';show rs m a b need g v=_
  lia
 |@step i j c e u ps hi hb hj gj uv p ih =>
  intro g e' he' v;rw[hi]at he';cases he';obtain⟨oe,de,_,_⟩:=h.tight hi hb 0;show rs m a b need (fS (λl=>g l+if l=e.k then e.by_*x else 0) x ps) v=_;rw[ih _ u gj v,R0 (hm _ _ oe) (one _ _ oe),de,uv]
  lia
theorem rE(x:Int):∀(ps:List (Nat×Int)) (g:Nat->Int) {j:Nat},j∉ps.map (·.1)->fS g x ps j=g j
 |[],_,_,_=>rfl
 |(k,by_)::ps,g,j,h=>by
  rw[List.map_cons,Zn,not_or]at h;show fS (λl=>g l+if l=k then by_*x else 0) x ps j=g j;rw[rE x ps _ h.2,if_neg h.1]
  lia
theorem BH(x:Int):∀(ps:List (Nat×Int)) (g:Nat->Int) {k:Nat}{by_:Int},(ps.map (·.1)).Nodup->(k,by_)∈ps->fS g x ps k=g k+by_*x
 |(k',b')::ps,g,k,by_,nd,h=>by
  rw[List.map_cons,List.nodup_cons]at nd;show fS (λl=>g l+if l=k' then b'*x else 0) x ps k=_;rcases Zn.mp h with e | h
  ·cases e;rw[rE x ps _ nd.1,if_pos rfl]
  ·have ne:k≠k':=λz=>nd.1 (Zh.mpr ⟨(k,by_),h,z⟩);rw[BH x ps _ nd.2 h,if_neg ne]
   lia
end FL
namespace FL
section
variable{m n:Nat}{a b:Nat->Nat}{lo:Nat->Int}{hi:Nat->Option Int}{co g p:Nat->Int}
def rt(a b:Nat->Nat)(co p:Nat->Int)(k:Nat):Int:=co k-p (a k)+p (b k)
structure iC(m:Nat)(a b:Nat->Nat)(lo:Nat->Int)(hi:Nat->Option Int)(co g p:Nat->Int):Prop where
 low:∀k,k<m->lo k<=g k
 high:∀k,k<m->∀h,hi k=some h->g k<=h
 over:∀k,k<m->0<rt a b co p k->g k=lo k
 under:∀k,k<m->rt a b co p k<0->hi k=some (g k)
def opn(m:Nat)(lo:Nat->Int)(hi:Nat->Option Int)(g:Nat->Int)(k:Nat)(by_:Int):Prop:=k<m/\((by_=1/\hi k≠some (g k))\/(by_ = -1/\g k≠lo k))
def ln(a b:Nat->Nat)(co p:Nat->Int)(k:Nat)(by_:Int):Int:=by_*rt a b co p k
theorem jL{k:Nat}{by_:Int}(h:opn m lo hi g k by_):by_=1\/by_ = -1:=h.2.imp (·.1) (·.1)
theorem RY(k:Nat){by_:Int}(h:by_=1\/by_ = -1):sd a b k (-by_)=fr a b k by_:=by
 rcases h with rfl | rfl<;>rfl
theorem iC.nn(s:iC m a b lo hi co g p){k:Nat}{by_:Int}(h:opn m lo hi g k by_):0<=ln a b co p k by_:=by
 obtain⟨hk,⟨rfl,z⟩ | ⟨rfl,z⟩⟩:=h
 ·unfold ln;rcases Int.lt_or_le (rt a b co p k) 0 with c | c
  ·exact absurd (s.under k hk c) z
  ·lia
 ·unfold ln;rcases Int.lt_or_le 0 (rt a b co p k) with c | c
  ·exact absurd (s.over k hk c) z
  ·lia
theorem iC.room(s:iC m a b lo hi co g p){k:Nat}{by_:Int}(h:opn m lo hi g k by_):(by_=1->∀x,hi k=some x->1<=x-g k)/\(by_ = -1->1<=g k-lo k):=by
 obtain⟨hk,⟨rfl,z⟩ | ⟨rfl,z⟩⟩:=h
 ·refine⟨λ_ x hx=>?_,λe=>absurd e (by decide)⟩;have:=s.high k hk x hx;have ne:g k≠x:=λe=>z (by rw[e];exact hx)
  lia
 ·refine⟨λe=>absurd e (by decide),λ_=>?_⟩;have:=s.low k hk
  lia
theorem uB(L:Nat->Int)(k:Nat):rt a b co (λv=>p v+L v) k=rt a b co p k-L (a k)+L (b k):=by
 show co k-(p (a k)+L (a k))+(p (b k)+L (b k))=co k-p (a k)+p (b k)-L (a k)+L (b k)
 lia
section
variable{rest:Nat->Int}{pr:Nat->Int->Prop}{R W:List En}{nr:Nat->Option Int}{e:En}
theorem iC.raised(s:iC m a b lo hi co g p)(h:Rch rest (sd a b) (fr a b) (ln a b co p) (opn m lo hi g) n pr (R++[e]) W nr)(all:∀k by_,opn m lo hi g k by_->(∃u∈R,u.v=sd a b k by_)->pr k by_) :
  iC m a b lo hi co g (λv=>p v+lift (R++[e]) e.d v) where
 low:=s.low
 high:=s.high
 over:=λk hk c=>by
  rw[uB]at c;by_cases z:g k=lo k
  ·exact z
  ·have o:opn m lo hi g k (-1):=⟨hk,.inr ⟨rfl,z⟩⟩
   have q:=h.slack all (λk' b' o'=>s.nn o') o;have e1:sd a b k (-1)=b k:=rfl;have e2:fr a b k (-1)=a k:=rfl;have e3:ln a b co p k (-1) = - rt a b co p k:=by unfold ln;lia
   rw[e1,e2,e3]at q
   lia
 under:=λk hk c=>by
  rw[uB]at c;by_cases z:hi k=some (g k)
  ·exact z
  ·have o:opn m lo hi g k 1:=⟨hk,.inl ⟨rfl,z⟩⟩
   have q:=h.slack all (λk' b' o'=>s.nn o') o;have e1:sd a b k 1=a k:=rfl;have e2:fr a b k 1=b k:=rfl;have e3:ln a b co p k 1=rt a b co p k:=by unfold ln;lia
   rw[e1,e2,e3]at q
   lia
theorem NY(h:Rch rest (sd a b) (fr a b) (ln a b co p) (opn m lo hi g) n pr R W nr){i c:Nat}{ps:List (Nat×Int)}(q:Back (sd a b) R i ps c)(D:Int):∀d∈ps,rt a b co (λv=>p v+lift R D v) d.1=0:=by
 intro d hd;obtain⟨o,j,u,_,gj,k1,b1,_⟩:=q.open_ h d hd;have hb:u.by_≠0:=by
  rw[b1];rcases jL o with x | x<;>rw[x]<;>decide
 obtain⟨_,_,t,_⟩:=h.tight gj hb D;rw[k1,b1]at t;rw[uB];rcases jL o with x | x
 ·rw[x]at t;have e1:sd a b d.1 1=a d.1:=rfl;have e2:fr a b d.1 1=b d.1:=rfl;have e3:ln a b co p d.1 1=rt a b co p d.1:=by unfold ln;lia
  rw[e1,e2,e3]at t;exact t
 ·rw[x]at t;have e1:sd a b d.1 (-1)=b d.1:=rfl;have e2:fr a b d.1 (-1)=a d.1:=rfl;have e3:ln a b co p d.1 (-1) = - rt a b co p d.1:=by unfold ln;lia
  rw[e1,e2,e3]at t
  lia
end
theorem iC.push{ps:List (Nat×Int)}{x:Int}(s:iC m a b lo hi co g p)(hx:0<=x)(nd:(ps.map (·.1)).Nodup)(op:∀d∈ps,opn m lo hi g d.1 d.2)(zero:∀d∈ps,rt a b co p d.1=0)
  (up:∀d∈ps,d.2=1->∀h,hi d.1=some h->x<=h-g d.1) (dn:∀d∈ps,d.2 = -1->x<=g d.1-lo d.1):iC m a b lo hi co (fS g x ps) p:=by
 have at_:∀k,(fS g x ps k=g k/\k∉ps.map (·.1))\/(∃by_,(k,by_)∈ps/\fS g x ps k=g k+by_*x):=λk=>by
  by_cases z:k∈ps.map (·.1)
  ·obtain⟨d,hd,rfl⟩:=Zh.mp z;exact .inr ⟨d.2,hd,BH x ps g nd hd⟩
  ·exact .inl ⟨rE x ps g z,z⟩
 refine⟨λk hk=>?_,λk hk h hh=>?_,λk hk c=>?_,λk hk c=>?_⟩
 ·have l:=s.low k hk;rcases at_ k with⟨e,_⟩ | ⟨by_,hd,e⟩
  ·rw[e];exact l
  ·rw[e];rcases jL (op _ hd) with y | y
   ·rw[show by_=1 from y];lia
   ·have:=dn _ hd y;rw[show by_ = -1 from y];have t:x<=g k-lo k:=this
    lia
 ·have l:=s.high k hk h hh;rcases at_ k with⟨e,_⟩ | ⟨by_,hd,e⟩
  ·rw[e];exact l
  ·rw[e];rcases jL (op _ hd) with y | y
   ·have t:x<=h-g k:=up _ hd y h hh;rw[show by_=1 from y];lia
   ·rw[show by_ = -1 from y];lia
 ·rcases at_ k with⟨e,_⟩ | ⟨by_,hd,e⟩
  ·rw[e];exact s.over k hk c
  ·have t:rt a b co p k=0:=zero _ hd
   lia
 ·rcases at_ k with⟨e,_⟩ | ⟨by_,hd,e⟩
  ·rw[e];exact s.under k hk c
  ·have t:rt a b co p k=0:=zero _ hd
   lia
end
end FL
namespace FL
theorem CV(m:Nat)(f g:Nat->Int):sm m (λk=>f k+g k)=sm m f+sm m g:=by
 induction m with
 |zero=>rfl
 |succ m ih=>rw[dW,dW,dW,ih];lia
theorem xY(m:Nat)(f g:Nat->Int):sm m (λk=>f k-g k)=sm m f-sm m g:=by
 induction m with
 |zero=>rfl
 |succ m ih=>rw[dW,dW,dW,ih];lia
theorem xZ(m:Nat):sm m (λ_=>0)=0:=by
 induction m with
 |zero=>rfl
 |succ m ih=>rw[dW,ih];rfl
theorem LU{m:Nat}{f:Nat->Int}(h:∀k,k<m->0<=f k):0<=sm m f:=by
 induction m with
 |zero=>exact Int.le_refl _
 |succ m ih =>
  rw[dW];have:=ih λk hk=>h k (by lia);have:=h m (by lia)
  lia
theorem OH{m:Nat}{f:Nat->Int}(z:sm m f=0){v:Nat}(hv:v<m)(h:f v≠0):∃u,u<m/\0<f u:=by
 by_cases c:∃u,u<m/\0<f u
 ·exact c
 ·exfalso;have neg:∀k,k<m->f k<=0:=λk hk=>Int.not_lt.mp λx=>c ⟨k,hk,x⟩;have key:∀j,j<=m->sm j f<=0/\(v<j->sm j f<0):=by
   intro j;induction j with
   |zero=>exact λ_=>⟨Int.le_refl _,λx=>absurd x (Nat.not_lt_zero _)⟩
   |succ j ih =>
    intro hj;obtain⟨i1,i2⟩:=ih (by lia);have n1:=neg j (by lia);rw[dW];refine⟨by lia,λx=>?_⟩;by_cases e:v=j
    ·subst e
     lia
    ·have:=i2 (by lia)
     lia
  have:=(key m (Nat.le_refl _)).2 hv
  lia
theorem IE{n c l:Nat}{r r':Nat->Int}{x:Int}(hc:c<n)(e:∀v,v<n->r' v=r v-(if c=v then x else 0)+(if l=v then x else 0))(h1:x<=r c)(h2:x<=- r l)(hx:1<=x) :
  sm n (λv=>max (r' v) 0)=sm n (λv=>max (r v) 0)-x:=by
 have ne:c≠l:=λz=>by subst z;lia
 have:=OI hc (λv=>max (r v) 0) (-x);rw[<-Int.sub_eq_add_neg]at this;rw[<-this];refine cW λv hv=>?_;rw[e v hv];by_cases z:v=c
 ·subst z;rw[if_pos rfl,if_neg (λy=>ne y.symm),if_pos rfl]
  lia
 ·rw[if_neg (λy=>z y.symm),if_neg z];by_cases y:l=v
  ·subst y;rw[if_pos rfl]
   lia
  ·rw[if_neg y]
   lia
def ss(S:List Nat)(f:Nat->Int):Int:=(S.map f).sum
theorem mD(v:Nat)(S:List Nat)(f:Nat->Int):ss (v::S) f=f v+ss S f:=by unfold ss;rw[List.map_cons,List.sum_cons]
theorem JM{S:List Nat}(nd:S.Nodup)(m:Nat)(c:Nat->Nat)(g:Nat->Int):ss S (λv=>sm m (λk=>if c k=v then g k else 0))=sm m (λk=>if c k∈S then g k else 0):=by
 induction S with
 |nil =>
  rw[cW (g:=λ_=>0) λk _=>if_neg (by simp),xZ];rfl
 |cons v S ih =>
  rw[List.nodup_cons]at nd;rw[mD,ih nd.2,<-CV];refine cW λk _=>?_;by_cases z:c k=v
  ·rw[if_pos z,if_neg (λy=>nd.1 (z▸y)),if_pos (by rw[z];exact .head _)]
   lia
  ·rw[if_neg z];by_cases y:c k∈S
   ·rw[if_pos y,if_pos (.tail _ y)];lia
   ·rw[if_neg y,if_neg (λw=>(Zn.mp w).elim z y)];rfl
theorem W2{S:List Nat}(nd:S.Nodup)(m:Nat)(a b:Nat->Nat)(need g:Nat->Int):ss S (rs m a b need g)=ss S need-sm m (λk=>if a k∈S then g k else 0)+sm m (λk=>if b k∈S then g k else 0):=by
 rw[<-JM nd,<-JM nd];clear nd;induction S with
 |nil=>rfl
 |cons v S ih =>
  rw[mD,mD,mD,mD,ih];unfold rs
  lia
theorem P0{m:Nat}{a b:Nat->Nat}{lo:Nat->Int}{hi:Nat->Option Int}{need g:Nat->Int}{S:List Nat}(nd:S.Nodup)(shut:∀k by_,opn m lo hi g k by_->sd a b k by_∈S->fr a b k by_∈S) :
  (∀k,k<m->a k∈S->b k∉S->hi k=some (g k))/\(∀k,k<m->b k∈S->a k∉S->g k=lo k) /\
  ss S (rs m a b need g)=ss S need+sm m (λk=>if a k∈S then (if b k∈S then 0 else-g k) else if b k∈S then g k else 0):=by
 refine⟨λk hk h1 h2=>?_,λk hk h1 h2=>?_,?_⟩
 ·by_cases z:hi k=some (g k)
  ·exact z
  ·exact absurd (shut k 1 ⟨hk,.inl ⟨rfl,z⟩⟩ h1) h2
 ·by_cases z:g k=lo k
  ·exact z
  ·exact absurd (shut k (-1) ⟨hk,.inr ⟨rfl,z⟩⟩ h1) h2
 ·rw[W2 nd];have:sm m (λk=>if a k∈S then (if b k∈S then 0 else-g k) else if b k∈S then g k else 0)=sm m (λk=>if b k∈S then g k else 0)-sm m (λk=>if a k∈S then g k else 0):=by
   rw[<-xY];refine cW λk _=>?_;by_cases x:a k∈S<;>by_cases y:b k∈S<;>simp only[x,y,if_true,if_false]<;>lia
  rw[this]
  lia
end FL
namespace FL
open SO
def Dn(w:List (List Int)):Prop:=w.Pairwise λx y=>lx x y=false
theorem DD{e x y:List Int}(h:lx e y=true)(g:lx x y=false):lx e x=true:=by
 have a:=iH [e,x,y] (x:=e) (y:=y) (by simp) (by simp);have b:=iH [e,x,y] (x:=x) (y:=y) (by simp) (by simp);have c:=iH [e,x,y] (x:=e) (y:=x) (by simp) (by simp);rw[h]at a;rw[g]at b;rw[<-c];have a':=of_decide_eq_true a;have b':=of_decide_eq_false b;exact decide_eq_true (by omega)
theorem S6{e x y:List Int}(h:lx e x=false)(g:lx x y=false):lx e y=false:=by
 cases z:lx e y with
 |false=>rfl
 |true=>rw[DD z g]at h;cases h
theorem VF{w:List (List Int)}{e:List Int}{i:Nat}(h:Dn w)(hi:i<=w.length)(f:∀j x,j<i->w[j]?=some x->lx e x=true)(b:∀j x,i<=j->w[j]?=some x->lx e x=false):Dn (w.take i++e::w.drop i):=by
 have tk:∀x∈w.take i,lx e x=true:=λx hx=>by
  obtain⟨j,hj,rfl⟩:=Yy.mp hx;rw[Yw]at hj;refine f j _ (by lia) ?_;rw[List.getElem_take,Zz (by lia)]
 have dr:∀x∈w.drop i,lx e x=false:=λx hx=>by
  obtain⟨j,hj,rfl⟩:=Yy.mp hx;rw[Yf]at hj;refine b (i+j) _ (by lia) ?_;rw[List.getElem_drop,Zz (by lia)]
 have h':(w.take i++w.drop i).Pairwise λx y=>lx x y=false:=by rw[List.take_append_drop];exact h
 obtain⟨h1,h2,h3⟩:=List.pairwise_append.mp h';refine List.pairwise_append.mpr ⟨h1,List.pairwise_cons.mpr ⟨dr,h2⟩,λx hx y hy=>?_⟩;rcases Zn.mp hy with rfl | hy
 ·cases z:lx x y with
  |false=>rfl
  |true =>
   have:=DD z (x:=y) (DC y);have q:=tk x hx;have a:=iH [x,y] (x:=x) (y:=y) (by simp) (by simp);have b:=iH [x,y] (x:=y) (y:=x) (by simp) (by simp);rw[z]at a;rw[q]at b;have a':=of_decide_eq_true a;have b':=of_decide_eq_true b
   lia
 ·exact h3 x hx y hy
theorem S7{w:List (List Int)}{e x:List Int}{m:Nat}(h:Dn w)(hm:w[m]?=some x)(z:lx e x=true):∀j y,j<m+1->w[j]?=some y->lx e y=true:=λj y hj hy=>by
 by_cases c:j=m
 ·subst c;rw[hm]at hy;cases hy;exact z
 ·obtain⟨h1,e1⟩:=Zj.mp hy;obtain⟨h2,e2⟩:=Zj.mp hm;have:=List.pairwise_iff_getElem.mp h j m h1 h2 (by lia);rw[e1,e2]at this;exact DD z this
theorem S8{w:List (List Int)}{e x:List Int}{m:Nat}(h:Dn w)(hm:w[m]?=some x)(z:lx e x=false):∀j y,m<=j->w[j]?=some y->lx e y=false:=λj y hj hy=>by
 by_cases c:j=m
 ·subst c;rw[hm]at hy;cases hy;exact z
 ·obtain⟨h1,e1⟩:=Zj.mp hy;obtain⟨h2,e2⟩:=Zj.mp hm;have:=List.pairwise_iff_getElem.mp h m j h2 h1 (by lia);rw[e1,e2]at this;exact S6 z this
theorem IF{w:List (List Int)}{d d':Int}{r r':List Int}(h:Dn (w++[d::r]))(hx:(d'::r')∈w):d<=d':=by
 have:=(List.pairwise_append.mp h).2.2 _ hx _ (.head _);unfold lx at this;by_cases z:d'=d
 ·lia
 ·rw[if_neg z]at this;have:=of_decide_eq_false this
  lia
end FL
namespace FL
theorem iC.step{m n c:Nat}{a b:Nat->Nat}{lo:Nat->Int}{hi:Nat->Option Int}{co g p need:Nat->Int}{pr:Nat->Int->Prop}{R W:List En}{nr:Nat->Option Int}{e:En}{ps:List (Nat×Int)}{x:Int}
  (s:iC m a b lo hi co g p) (h:Rch (rs m a b need g) (sd a b) (fr a b) (ln a b co p) (opn m lo hi g) n pr (R++[e]) W nr) (all:∀k by_,opn m lo hi g k by_->(∃u∈R,u.v=sd a b k by_)->pr k by_)
  (q:Back (sd a b) (R++[e]) R.length ps c) (hx:1<=x) (up:∀d∈ps,d.2=1->∀h,hi d.1=some h->x<=h-g d.1) (dn:∀d∈ps,d.2 = -1->x<=g d.1-lo d.1) :
  iC m a b lo hi co (fS g x ps) (λv=>p v+lift (R++[e]) e.d v)/\∀v,rs m a b need (fS g x ps) v=rs m a b need g v-(if c=v then x else 0)+(if e.v=v then x else 0):=by
 refine⟨(s.raised h all).push (by lia) (q.once h (λk b' o=>RY k (jL o)) λk b' o=>jL o) (λd hd=>(q.open_ h d hd).1) (NY h q e.d) up dn,λv=>?_⟩;refine LW h (λk b' o=>jL o) (λk b' o=>o.1) x q g e ?_ v;rw[Zy (Nat.le_refl _),Nat.sub_self];rfl
theorem U8{n c:Nat}(hc:c<n)(f:Nat->Int)(x:Int):sm n (λv=>f v*if c=v then x else 0)=f c*x:=by
 have:=OI hc (λ_=>0) (f c*x);rw[xZ,Int.zero_add]at this;rw[<-this];refine cW λv _=>?_;by_cases z:c=v
 ·subst z;rw[if_pos rfl,if_pos rfl];lia
 ·rw[if_neg z,if_neg (λy=>z y.symm),Int.mul_zero];rfl
theorem wM{n:Nat}(f:Nat->Int)(c:Nat->Nat)(g:Nat->Int):∀m,(∀k,k<m->c k<n)->sm n (λv=>f v*sm m (λk=>if c k=v then g k else 0))=sm m (λk=>f (c k)*g k)
 |0,_=>by
  rw[cW (g:=λ_=>0) λv _=>by rw[wK,Int.mul_zero],xZ];rfl
 |m+1,h=>by
  rw[dW,<-wM f c g m λk hk=>h k (by lia),<-U8 (h m (by lia)) f (g m),<-CV];refine cW λv _=>?_;rw[dW,Int.mul_add]
theorem TU{m n:Nat}{a b:Nat->Nat}{co g p need:Nat->Int}(z:∀v,v<n->rs m a b need g v=0)(ha:∀k,k<m->a k<n)(hb:∀k,k<m->b k<n) :
  sm m (λk=>co k*g k)=sm n (λv=>p v*need v)+sm m (λk=>rt a b co p k*g k):=by
 have e1:sm n (λv=>p v*need v)=sm m (λk=>p (a k)*g k)-sm m (λk=>p (b k)*g k):=by
  rw[<-wM p a g m ha,<-wM p b g m hb,<-xY];refine cW λv hv=>?_;have:=z v hv;unfold rs at this;rw[<-Int.mul_sub];congr 1
  lia
 rw[e1,<-xY,<-CV];refine cW λk _=>?_;show co k*g k=p (a k)*g k-p (b k)*g k+(co k-p (a k)+p (b k))*g k;rw[Int.add_mul,Int.sub_mul]
 lia
section
variable{a b:Nat->Nat}{co p:Nat->Int}{on:Nat->Option Nat}
end
section
variable{a b:Nat->Nat}{co p:Nat->Int}{free:List Nat}{t j:Nat}{on:Nat->Option Nat}{lc:Nat->Nat}
end
end FL
namespace AW
abbrev Ts:=List (Int×Int)
abbrev Os:=List (List Int)
def plc(ts:Ts)(e:Nat):Int:=((ts[e / 2]?).map λt=>if e%2=0 then t.1 else t.2).getD (-1)
def InW(m:Int)(ts:Ts):Prop:=∀t∈ts,(0<=t.1/\t.1<m)/\0<=t.2/\t.2<m
def all2(ts:Ts):List Int:=(List.range (2*ts.length)).map λn:Nat=>(n:Int)
def endsAt(ts:Ts)(p:Int):List Int:=(all2 ts).filter λe=>plc ts e.toNat==p
inductive Rch(ts:Ts):Int->Prop
 |zero:Rch ts 0
 |fwd {t:Int×Int}:t∈ts->Rch ts t.1->Rch ts t.2
 |bwd {t:Int×Int}:t∈ts->Rch ts t.2->Rch ts t.1
def LD(m:Int)(ts:Ts):Prop:=∀p:Int,0<=p->p<m->Rch ts p
def Fit(ts:Ts)(os:Os):Prop:=∀(i:Nat) (o:List Int),os[i]?=some o->o.length<=4/\o.Perm (endsAt ts i)
def YH(m:Int)(ts:Ts):Prop:=(1<=m/\m<=200)/\1<=ts.length/\ts.length<=400
def Q7(m:Int)(ts:Ts)(os:Os):Prop:=YH m ts/\InW m ts/\(os.length:Int)=m/\Fit ts os/\LD m ts
theorem FG{ts:Ts}{e:Int}:e∈all2 ts↔0<=e/\e<2*ts.length:=by
 unfold all2;rw[Zh];constructor
 ·rintro⟨n,hn,rfl⟩;have:=Zs.mp hn
  lia
 ·rintro⟨h0,h1⟩;exact⟨e.toNat,Zs.mpr (by lia),by lia⟩
theorem uL{α β:Type}{f:α->β}(hf:∀a b,f a=f b->a=b):∀{l:List α},l.Nodup->(l.map f).Nodup
 |[],_=>List.nodup_nil
 |a::l,h=>by
  obtain⟨h1,h2⟩:=List.nodup_cons.mp h;rw[List.map_cons,List.nodup_cons];refine⟨λq=>?_,uL hf h2⟩;obtain⟨b,hb,e⟩:=Zh.mp q;exact h1 (hf _ _ e▸hb)
theorem HZ(ts:Ts):(all2 ts).Nodup:=uL (λa b h=>by lia) List.nodup_range
theorem IA{ts:Ts}{p e:Int}:e∈endsAt ts p↔(0<=e/\e<2*ts.length)/\plc ts e.toNat=p:=by
 unfold endsAt;rw[Yz,FG,beq_iff_eq]
theorem DA(ts:Ts)(p:Int):(endsAt ts p).Nodup:=(HZ ts).filter _
theorem OY{l l':List Int}(h:l.Nodup)(h':l'.Nodup)(e:∀a,a∈l↔a∈l'):l.Perm l':=(List.perm_ext_iff_of_nodup h h').mpr e
theorem LQ{l l':List Int}(p:l.Perm l')(h:l.Pairwise (·<=·))(h':l'.Pairwise (·<=·)):l=l' :=
 p.eq_of_pairwise (λa b _ _ h1 h2=>Int.le_antisymm h1 h2) h h'
theorem RF(ts:Ts):(all2 ts).Pairwise (·<=·):=by
 unfold all2;rw[List.pairwise_map];exact List.pairwise_lt_range.imp λh=>by lia
theorem LH(ts:Ts)(p:Int):(endsAt ts p).Pairwise (·<=·):=(RF ts).filter _
theorem SD{ts:Ts}{t:Int×Int}{e:Nat}(h:e<2*ts.length):plc (ts++[t]) e=plc ts e:=by
 unfold plc;rw[Zx (by lia)]
theorem OV(ts:Ts)(t:Int×Int):plc (ts++[t]) (2*ts.length)=t.1:=by
 unfold plc;rw[show 2*ts.length / 2=ts.length by lia,Yx];show(if 2*ts.length%2=0 then t.1 else t.2)=t.1;rw[if_pos (by lia)]
theorem OU(ts:Ts)(t:Int×Int):plc (ts++[t]) (2*ts.length+1)=t.2:=by
 unfold plc;rw[show(2*ts.length+1) / 2=ts.length by lia,Yx];show(if (2*ts.length+1)%2=0 then t.1 else t.2)=t.2;rw[if_neg (by lia)]
theorem NB(ts:Ts)(t:Int×Int):all2 (ts++[t])=all2 ts++[(2*ts.length:Int),2*ts.length+1]:=by
 unfold all2;rw[Zm,show 2*(ts.length+[t].length)=2*ts.length+1+1 by simp;lia,List.range_succ,List.range_succ];simp
theorem FY(ts:Ts)(t:Int×Int)(p:Int):endsAt (ts++[t]) p=endsAt ts p++((if t.1=p then [(2*ts.length:Int)] else [])++if t.2=p then [(2*ts.length+1:Int)] else []):=by
 unfold endsAt;rw[NB,List.filter_append];congr 1
 ·refine List.filter_congr λe he=>?_;obtain⟨h0,h1⟩:=FG.mp he;rw[SD (by lia)]
 ·have e0:plc (ts++[t]) (2*(ts.length:Int)).toNat=t.1:=by rw[show(2*(ts.length:Int)).toNat=2*ts.length by lia,OV]
  have e1:plc (ts++[t]) (2*(ts.length:Int)+1).toNat=t.2:=by rw[show(2*(ts.length:Int)+1).toNat=2*ts.length+1 by lia,OU]
  simp only[List.filter_cons,List.filter_nil,e0,e1,beq_iff_eq];by_cases h1:t.1=p<;>by_cases h2:t.2=p<;>simp[h1,h2]
def nb(t:Int×Int)(p:Int):List Int:=(if t.1=p then [t.2] else [])++if t.2=p then [t.1] else []
def nbs(ts:Ts)(p:Int):List Int:=ts.flatMap λt=>nb t p
theorem PR(ts:Ts)(t:Int×Int)(p:Int):nbs (ts++[t]) p=nbs ts p++nb t p:=by
 unfold nbs;rw[List.flatMap_append];simp
theorem wW{ts:Ts}{p q:Int}:q∈nbs ts p↔∃t∈ts,(t.1=p/\t.2=q)\/(t.2=p/\t.1=q):=by
 unfold nbs nb;rw[List.mem_flatMap];constructor
 ·rintro⟨t,ht,h⟩;refine⟨t,ht,?_⟩;rcases Zf.mp h with h | h
  ·split at h
   ·exact .inl ⟨by assumption,(Zb.mp h).symm⟩
   ·cases h
  ·split at h
   ·exact .inr ⟨by assumption,(Zb.mp h).symm⟩
   ·cases h
 ·rintro⟨t,ht,⟨h1,h2⟩ | ⟨h1,h2⟩⟩
  ·exact⟨t,ht,List.mem_append_left _ (by rw[if_pos h1,h2];simp)⟩
  ·exact⟨t,ht,List.mem_append_right _ (by rw[if_pos h1,h2];simp)⟩
theorem Rch.step{ts:Ts}{p q:Int}(h:Rch ts p)(hq:q∈nbs ts p):Rch ts q:=by
 obtain⟨t,ht,⟨rfl,rfl⟩ | ⟨rfl,rfl⟩⟩:=wW.mp hq
 ·exact h.fwd ht
 ·exact h.bwd ht
theorem PU{m:Int}{ts:Ts}(h:InW m ts){p q:Int}(hq:q∈nbs ts p):0<=q/\q<m:=by
 obtain⟨t,ht,⟨rfl,rfl⟩ | ⟨rfl,rfl⟩⟩:=wW.mp hq
 ·exact(h t ht).2
 ·exact(h t ht).1
theorem Rch.within{ts:Ts}{S:Int->Prop}(h0:S 0)(hs:∀p,S p->∀q∈nbs ts p,S q){p:Int}(h:Rch ts p):S p:=by
 induction h with
 |zero=>exact h0
 |fwd ht _ ih=>exact hs _ ih _ (wW.mpr ⟨_,ht,.inl ⟨rfl,rfl⟩⟩)
 |bwd ht _ ih=>exact hs _ ih _ (wW.mpr ⟨_,ht,.inr ⟨rfl,rfl⟩⟩)
structure iC(m:Nat)(ts:Ts)(R:List Bool)(W:List Int):Prop where
 len:R.length=m
 zero:R[0]?=some true
 ok:∀p:Nat,R[p]?=some true->Rch ts p
 win:∀p∈W,∃n:Nat,p=n/\R[n]?=some true
 cl:∀p:Nat,R[p]?=some true->(p:Int)∈W\/∀q∈nbs ts p,R[q.toNat]?=some true
structure pI(m:Nat)(ts:Ts)(R:List Bool)(W:List Int)(p0 k:Nat):Prop where
 len:R.length=m
 zero:R[0]?=some true
 ok:∀p:Nat,R[p]?=some true->Rch ts p
 win:∀p∈W,∃n:Nat,p=n/\R[n]?=some true
 own:R[p0]?=some true
 cl:∀p:Nat,R[p]?=some true->(p:Int)∈W\/(p=p0/\∀(j:Nat) q,j<k->(nbs ts p0)[j]?=some q->R[q.toNat]?=some true)\/∀q∈nbs ts p,R[q.toNat]?=some true
theorem iC.start{m:Nat}{ts:Ts}(h:0<m):iC m ts ((List.range m).map λp=>decide (p=0)) [0] where
 len:=by simp
 zero:=by simp[h]
 ok:=λp hp=>by
  rw[Zk]at hp;cases e:(List.range m)[p]? with
  |none=>rw[e]at hp;cases hp
  |some n =>
   obtain⟨hn,rfl⟩:=Zj.mp e;rw[e]at hp;simp at hp;subst hp;exact .zero
 win:=λp hp=>⟨0,by simpa using hp,by simp[h]⟩
 cl:=λp hp=>by
  rw[Zk]at hp;cases e:(List.range m)[p]? with
  |none=>rw[e]at hp;cases hp
  |some n =>
   obtain⟨hn,rfl⟩:=Zj.mp e;rw[e]at hp;simp at hp;subst hp;exact .inl (by simp)
theorem iC.done{m:Nat}{ts:Ts}{R:List Bool}(hin:InW m ts)(h:iC m ts R []):R.all id=true↔LD m ts:=by
 rw[List.all_eq_true];constructor
 ·intro ha p h0 h1;obtain⟨n,rfl⟩:=Xv h0;have hn:n<R.length:=by rw[h.len];lia
  refine h.ok n ?_;rw[Zz hn];have:=ha _ (Zp hn);exact congrArg some this
 ·intro hw b hb;obtain⟨n,hn,rfl⟩:=Yy.mp hb;have hr:Rch ts (n:Int):=hw n (by lia) (by rw[h.len]at hn;lia);have e:=(hr.within (S:=λp=>0<=p/\R[p.toNat]?=some true) ⟨Int.le_refl _,h.zero⟩ λp hp q hq=>by
   obtain⟨k,rfl⟩:=Xv hp.1;refine⟨(PU hin hq).1,?_⟩;rcases h.cl k (by simpa using hp.2) with z | z
   ·cases z
   ·exact z q hq).2
  rw[show(n:Int).toNat=n by lia,Zz hn]at e;exact Option.some.inj e
theorem pI.start{m:Nat}{ts:Ts}{R:List Bool}{W:List Int}{p0:Nat}(h:iC m ts R (W++[(p0:Int)])):pI m ts R W p0 0 where
 len:=h.len
 zero:=h.zero
 ok:=h.ok
 win:=λp hp=>h.win p (List.mem_append_left _ hp)
 own:=by
  obtain⟨n,e,hn⟩:=h.win (p0:Int) (by simp);have:n=p0:=by lia
  exact this▸hn
 cl:=λp hp=>by
  rcases h.cl p hp with z | z
  ·rcases Zf.mp z with z | z
   ·exact .inl z
   ·have:p=p0:=by have:=Zb.mp z;lia
    exact .inr (.inl ⟨this,λj q hj=>absurd hj (Nat.not_lt_zero _)⟩)
  ·exact .inr (.inr z)
theorem pI.skip{m:Nat}{ts:Ts}{R:List Bool}{W:List Int}{p0 k:Nat}{q:Int}(h:pI m ts R W p0 k)(hq:(nbs ts p0)[k]?=some q)(hr:R[q.toNat]?=some true):pI m ts R W p0 (k+1) where
 len:=h.len
 zero:=h.zero
 ok:=h.ok
 win:=h.win
 own:=h.own
 cl:=λp hp=>by
  rcases h.cl p hp with z | ⟨z1,z2⟩ | z
  ·exact .inl z
  ·refine .inr (.inl ⟨z1,λj q' hj hq'=>?_⟩);by_cases hjk:j<k
   ·exact z2 j q' hjk hq'
   ·have:j=k:=by lia
    subst this;rw[hq]at hq';cases hq';exact hr
  ·exact .inr (.inr z)
theorem nO{R:List Bool}{i j:Nat}(hi:i<R.length):(R.set i true)[j]?=some true↔j=i\/R[j]?=some true:=by
 by_cases e:i=j
 ·subst e;rw[List.getElem?_set_self hi];simp
 ·rw[List.getElem?_set_ne e];constructor
  ·exact .inr
  ·rintro(z | z)
   ·exact absurd z.symm e
   ·exact z
theorem pI.reach{m:Nat}{ts:Ts}{R:List Bool}{W:List Int}{p0 k q:Nat}(h:pI m ts R W p0 k)(hq:(nbs ts p0)[k]?=some (q:Int))(hm:q<m):pI m ts (R.set q true) (W++[(q:Int)]) p0 (k+1):=by
 have hl:q<R.length:=by rw[h.len];exact hm
 have up:∀j:Nat,R[j]?=some true->(R.set q true)[j]?=some true:=λj hj=>(nO hl).mpr (.inr hj);have hrq:Rch ts q:=(h.ok p0 h.own).step (Zg hq);refine⟨by rw[List.length_set];exact h.len,up 0 h.zero,λp hp=>?_,λp hp=>?_,up _ h.own,λp hp=>?_⟩
 ·rcases(nO hl).mp hp with rfl | hp
  ·exact hrq
  ·exact h.ok p hp
 ·rcases Zf.mp hp with z | z
  ·obtain⟨n,e,hn⟩:=h.win p z;exact⟨n,e,up n hn⟩
  ·exact⟨q,Zb.mp z,(nO hl).mpr (.inl rfl)⟩
 ·rcases(nO hl).mp hp with rfl | hp
  ·exact .inl (by simp)
  ·rcases h.cl p hp with z | ⟨z1,z2⟩ | z
   ·exact .inl (List.mem_append_left _ z)
   ·refine .inr (.inl ⟨z1,λj q' hj hq'=>?_⟩);by_cases hjk:j<k
    ·exact up _ (z2 j q' hjk hq')
    ·have:j=k:=by lia
     subst this;rw[hq]at hq';cases hq';exact(nO hl).mpr (.inl (by lia))
   ·exact .inr (.inr λq' hq'=>up _ (z q' hq'))
theorem pI.finish{m:Nat}{ts:Ts}{R:List Bool}{W:List Int}{p0 k:Nat}(h:pI m ts R W p0 k)(hk:(nbs ts p0).length<=k):iC m ts R W where
 len:=h.len
 zero:=h.zero
 ok:=h.ok
 win:=h.win
 cl:=λp hp=>by
  rcases h.cl p hp with z | ⟨rfl,z2⟩ | z
  ·exact .inl z
  ·refine .inr λq hq=>?_;obtain⟨j,hj,e⟩:=Yy.mp hq;exact z2 j q (by lia) (by rw[Zz hj,e])
  ·exact .inr z
def jY(R:List Bool):Nat:=(R.filter (! ·)).length
theorem zE:∀{R:List Bool}{i:Nat},R[i]?=some false->jY (R.set i true)+1=jY R
 |[],_,h=>by simp at h
 |b::R,0,h=>by
  have e:b=false:=by simpa using h
  subst e;simp[jY]
 |b::R,i+1,h=>by
  have h':R[i]?=some false:=by simpa using h
  have ih:=zE h';unfold jY at ih ⊢;rw[List.set_cons_succ];cases b<;>simp<;>lia
end AW
namespace L2
open PySem PySem.Spec PyProof.Rows
theorem scm{N P:List Str}{sc:Scope}(a:sc.kind=.function:=by rfl)(b:sc.isCoroutine=false:=by rfl)(c:sc.isGenerator=false:=by rfl)(d:N.Nodup:=by decide +kernel)(e:N.take P.length=P:=by rfl)(f:∀x∈P,sc.names.lookup x=some .local\/sc.names.lookup x=some .cell:=by decide +kernel)(g:∀y∈sc.names,y.2≠.free:=by decide +kernel):a0 N P sc:=⟨a,b,c,d,e,f,g⟩
structure Fn4(K:PySem.W.Frag)(mg:Str->Option Value)(x:Str)(s:Stmt)(ps:List Str)(a:Addr)(d:FuncData):Prop where
 F:Fun K x x s a d
 m:mg x=some (.ref a)
 k:PySem.W.keepIn K (.ref a)=true
 b:Binds K d ps []
abbrev FnX(K:PySem.W.Frag)(x:Str)(s:Stmt):Prop:=∃f:Addr,PySem.W.nsIn K ZV x=some (some (.ref f))/\∃(oc:Value) (od:Option Addr) (kV dc pm:Value) (an:Option Addr) (cd ct:Value) (sl:Array (Option Value)),K.lookup f=some ⟨oc,od,.func (PySem.W.fnOf x x (kT s) (jM s) (aS s) .none kV dc pm an cd ct),sl⟩/\PySem.W.codeIn K cd x=true/\PySem.W.keepIn K (.ref f)=true
theorem b7{K:PySem.W.Frag}{mg:Str->Option Value}{h:Heap}{x:Str}{s:Stmt}{ps:List Str}(X:K.In h)(G:h.Ns ZV mg)(e:FnX K x s)(hb:∀(kV doc pm:Value) (an:Option Addr) (cdv ct:Value) (us:List Value),us.length=ps.length->bindArgs (PySem.W.fnOf x x (kT s) (jM s) (aS s) .none kV doc pm an cdv ct) ⟨us,[]⟩=pure (ps.zip us)):∃f d,Fn4 K mg x s ps f d:=by
 obtain⟨f,a,oc,od,kV,dc,pm,an,cd,ct,sl,l,c,k⟩:=e;have F:=IM (st:=s) l c k;exact⟨f,_,F,PySem.W.mg_of X G a,k,F.binds hb⟩
theorem V8{K:PySem.W.Frag}{mg:Str->Option Value}{h:Heap}{x:Str}{s:Stmt}{ps:List Str}(X:K.In h)(G:h.Ns ZV mg)(e:FnX K x s)(hb:∀(kV doc pm:Value) (an:Option Addr) (cdv ct:Value) (us:List Value),us.length=ps.length->bindArgs (PySem.W.fnOf x x (kT s) (jM s) (aS s) .none kV doc pm an cdv ct) ⟨us,[]⟩=pure (ps.zip us)):∃f d,Fn4 K mg x s ps f d/\∀(s:Shared) (us:List Value),us.length=ps.length->BindsTo s d ⟨us,[]⟩ (ps.zip us):=by
 obtain⟨f,a,oc,od,kV,dc,pm,an,cd,ct,sl,l,c,k⟩:=e;have F:=IM (st:=s) l c k;exact⟨f,_,⟨F,PySem.W.mg_of X G a,k,F.binds hb⟩,λs us hl=>.of_eq (hb _ _ _ _ _ _ us hl)⟩
theorem bK{X:Cx}{CX:CXT}{k:Nat}{f:Addr}{fd:FuncData}{ps:List Str}{sp:Sp}{E:XK}{x:Str}{p pos:Pos}{e:Expr}{es:List Expr}{s:Stmt}{t:TA}(F:bT X.prog X.w X.K X.mg X.base CX k f fd ps sp){j:Nat}(hr:jC j X.A)(c:Fn4 X.K X.mg x s ps f fd)(hx:uZ CX X E)
  (ha:PA X (e::es) t) (hj:k<=j:=by decide) (hg:Gl X x:=by rfl) (hdb:(x==("__debug__" : Str))=false:=by decide) (he:starEach (e::es) X.env=(false,eval e X.env)::starEach es X.env:=by rfl) (hpl:(backTo pos (starEach es X.env)).any (·.1)=false:=by rfl) :
  PE X (.Call (.Name x p) (e::es) [] pos) (UE sp [] E t):=SG F (hr.mono hj) hg c.m c.k c.b .nil hx ha hdb he hpl
structure Mth(T:String)(name:Str)(id:String):Prop where
 a:PlainAttrs T
 b:Slot T name id
 c:typeOf (.builtin id)=pure (.type "method_descriptor")
theorem mAp:Mth "list" "append" "list.append":=⟨PySem.F.plainAttrs_list,PySem.F.slot_list_append,PySem.F.type_list_append⟩
theorem mSp:Mth "str" "split" "str.split":=⟨PySem.F.plainAttrs_str,PySem.F.slot_str_split,PySem.F.type_str_split⟩
theorem mJn:Mth "str" "join" "str.join":=⟨PySem.F.plainAttrs_str,PySem.F.slot_str_join,PySem.F.type_str_join⟩
theorem mCo:Mth "str" "count" "str.count":=⟨PySem.F.plainAttrs_str,PySem.F.slot_str_count,PySem.F.type_str_count⟩
theorem lB{X:Cx}{o e:Expr}{es:List Expr}{to:TE}{t:TA}{name:Str}{apos cpos:Pos}{T id:String}{r:V->List V->Hp->VK->Prop}(M:Mth T name id)(hm:MtR X id r)(ho:PE X o to)(ha:PA X (e::es) t)
  (hbase:attributeBase o name X.env (eval o X.env)=eval o X.env:=by rfl)
  (hfew:((backTo cpos (starEach (e::es) X.env)).all (λx=>!x.1)&&(backToKw cpos (keywordEach [] X.env)).all (λx=>x.1.isSome)
   && decide ((e::es).length+([]:List Keyword).length+(if ([]:List Keyword).isEmpty then 0 else 1)<30))=true:=by rfl)
  (hline:(apos.endLine==cpos.line)=true:=by rfl) (hs:starEach (e::es) X.env=(false,eval e X.env)::starEach es X.env:=by rfl) (hplain:(backTo cpos (starEach es X.env)).any (·.1)=false:=by rfl) :
  PE X (.Call (.Attribute o name apos) (e::es) [] cpos) (tBM X.K T r to t):=oI M.a M.b M.c hm ho ha hbase hfew hline hs hplain
theorem aW{X:Cx}{pos:Pos}(i:Nat){x:Str}{e:Expr}{te:TE}{pos':Pos}(hN:X.N.Nodup)(he:PE X e te)(hi:X.N[i]?=some x:=by rfl)(hx:Loc X.env.scope x:=by first | exact Or.inl rfl | exact Or.inr rfl)(hs:swapsWith e (some (.Name x pos')) pos.line X.env=pure false:=by rfl)(hf:X.fn x=true\/X.env.scope.names.lookup x=some .local:=by first | exact .inl rfl | exact .inr rfl | assumption) :
  PS X (.Assign [.Name x pos'] e pos) (RM te (jH i)):=VH hN hi hx he hs hf
end L2
namespace K29
open PySem L2
def top(i:Nat):Stmt:=PySem.Challenge.pw_fewbends_k29_whole_costs_under_other_nam.main.body.getD i (.Pass ⟨0,0,0,0⟩)
abbrev oF:Stmt:=top 11
theorem sG:a0 ["web","many","ties"] ["web"] (aS oF):=scm
abbrev gM:Stmt:=top 12
theorem jG:a0 ["many","ties"] ["many","ties"] (aS gM):=scm
abbrev mF:Stmt:=top 13
theorem p9:a0 ["web","orders","order","ends"] ["web"] (aS mF):=scm
abbrev iF:Stmt:=top 14
theorem kM:a0 ["many","ties","ends","number","tie"] ["many","ties"] (aS iF):=scm
abbrev iE:Stmt:=top 15
theorem kL:a0 ["many","ties","near","a","b","reached","waiting","place","neighbour"] ["many","ties"] (aS iE):=scm
abbrev nV:Stmt:=top 16
theorem CY:a0 ["end"] ["end"] (aS nV):=scm
abbrev qQ:Stmt:=top 17
theorem EV:a0 ["web","end"] ["web","end"] (aS qQ):=scm
abbrev uA:Stmt:=top 18
theorem HJ:a0 ["web","end"] ["web","end"] (aS uA):=scm
abbrev yJ:Stmt:=top 19
theorem BC:a0 ["web","end","order"] ["web","end"] (aS yJ):=scm
abbrev C4:Stmt:=top 20
theorem EW:a0 ["web","told","seen","first","land","end"] ["web"] (aS C4):=scm
abbrev nX:Stmt:=top 21
theorem sD:a0 ["web","first","land","end"] ["web","first"] (aS nX):=scm
abbrev jV:Stmt:=top 22
theorem nA:a0 ["web","numbers","number","land","end"] ["web"] (aS jV):=scm
abbrev t9:Stmt:=top 23
theorem HI:a0 ["web"] ["web"] (aS t9):=scm
abbrev mG:Stmt:=top 24
theorem AN:a0 ["web"] ["web"] (aS mG):=scm
abbrev kZ:Stmt:=top 25
theorem yC:a0 ["web","outer"] ["web","outer"] (aS kZ):=scm
abbrev HL:Stmt:=top 27
theorem RZ:a0 ["way","prices"] ["way","prices"] (aS HL):=scm
abbrev C2:Stmt:=top 28
theorem ET:a0 ["net","going","told","way","number"] ["net","going"] (aS C2):=scm
abbrev iD:Stmt:=top 29
theorem kK:a0 ["net","prices","onward","free","changed","count"] ["net"] (aS iD):=scm
abbrev jU:Stmt:=top 30
theorem m9:a0 ["net","free","prices","onward","changed","number","way","below"] ["net","free","prices","onward"] (aS jU):=scm
abbrev qA:Stmt:=top 31
abbrev qV:Stmt:=top 33
theorem vA:a0 ["net","doors","number","way"] ["net"] (aS qV):=scm
abbrev yH:Stmt:=top 34
theorem BA:a0 ["net","prices","search","reached","last"] ["net","prices"] (aS yH):=scm
abbrev C3:Stmt:=top 35
theorem EU:a0 ["search","begun","waiting","nearest","reached","entry","knot","number","by","distance","far","nearer"] ["search"] (aS C3):=scm
abbrev qU:Stmt:=top 36
theorem EZ:a0 ["search","number","by"] ["search","number","by"] (aS qU):=scm
abbrev HK:Stmt:=top 37
theorem JX:a0 ["search","number","by","way"] ["search","number","by"] (aS HK):=scm
abbrev yE:Stmt:=top 38
theorem A7:a0 ["waiting","entry","first","beyond","middle"] ["waiting","entry"] (aS yE):=scm
abbrev jT:Stmt:=top 39
theorem m8:a0 ["search","reached","last","knot","entry"] ["search","reached","last"] (aS jT):=scm
abbrev tW:Stmt:=top 40
theorem x8:a0 ["search","reached","last","path","entry"] ["search","reached","last"] (aS tW):=scm
abbrev HM:Stmt:=top 41
theorem JY:a0 ["search","path","last","begin","rooms","bounds","amount","number","by"] ["search","path","last"] (aS HM):=scm
abbrev oE:Stmt:=top 43
theorem sF:a0 ["net","many","way"] ["net"] (aS oE):=scm
abbrev qW:Stmt:=top 44
theorem vB:a0 ["net","settled","ring","found"] ["net"] (aS qW):=scm
abbrev nB:Stmt:=top 45
abbrev mE:Stmt:=top 47
theorem AM:a0 ["number","outer"] ["number","outer"] (aS mE):=scm
abbrev C1:Stmt:=top 48
theorem ES:a0 ["shape","lefts"] ["shape"] (aS C1):=scm
abbrev nU:Stmt:=top 49
theorem r9:a0 ["shape","lefts","fewer"] ["shape"] (aS nU):=scm
abbrev HN:Stmt:=top 51
theorem JZ:a0 ["wishes","shape"] ["wishes","shape"] (aS HN):=scm
abbrev yF:Stmt:=top 52
theorem A8:a0 ["web","outer","wishes","needs","number","land"] ["web","outer","wishes"] (aS yF):=scm
abbrev kY:Stmt:=top 53
theorem nQ:a0 ["web","sets","ways","end","number","low","high"] ["web","sets"] (aS kY):=scm
abbrev nW:Stmt:=top 54
theorem sC:a0 ["web","wishes","weights","bars","numbers","ways","end","number","beyond"] ["web","wishes"] (aS nW):=scm
abbrev yI:Stmt:=top 55
theorem BB:a0 ["web","outer","wishes","told","many_ends","shape"] ["web","outer","wishes"] (aS yI):=scm
abbrev nZ:Stmt:=top 57
theorem CZ:a0 ["_law_script","_law_k"] ["_law_script","_law_k"] (aS nZ):=scm
abbrev C5:Stmt:=top 58
theorem EX:a0 ["_law_cell","_law_k","_law_turn","_law_number"] ["_law_cell","_law_k"] (aS C5):=scm
abbrev t8:Stmt:=top 59
theorem yB:a0 ["_law_number","_law_by","_law_k","_law_turn"] ["_law_number","_law_by","_law_k"] (aS t8):=scm
abbrev qS:Stmt:=top 60
theorem u7:a0 ["_law_number","_law_many","_law_told","_law_k"] ["_law_number","_law_many"] (aS qS):=scm
abbrev tY:Stmt:=top 61
theorem HH:a0 ["_law_end"] ["_law_end"] (aS tY):=scm
abbrev tX:Stmt:=top 62
theorem HG:a0 ["_law_ties","_law_end"] ["_law_ties","_law_end"] (aS tX):=scm
abbrev qT:Stmt:=top 63
theorem u9:a0 ["_law_ties","_law_orders","_law_end","_law_order"] ["_law_ties","_law_orders","_law_end"] (aS qT):=scm
abbrev t7:Stmt:=top 64
theorem yA:a0 ["_law_ties","_law_orders","_law_told","_law_left","_law_land","_law_here"] ["_law_ties","_law_orders"] (aS t7):=scm
abbrev yG:Stmt:=top 65
theorem A9:a0 ["_law_ties","_law_orders","_law_pick","_law_most","_law_some","_law_land","_law_one","_law_other_here","_law_a","_law_b","_law_end"] ["_law_ties","_law_orders","_law_pick","_law_most"] (aS yG):=scm
abbrev nY:Stmt:=top 66
theorem sE:a0 ["_law_ties","_law_orders","_law_cell","_law_places","_law_numbers","_law_names","_law_told","_law_k","_law_a","_law_b","_law_flip","_law_rows","_law_place_here","_law_order","_law_at"] ["_law_ties","_law_orders","_law_cell"] (aS nY):=scm
abbrev C6:Stmt:=top 67
theorem EY:a0 ["_law_script","_law_steps","_law_most","_law_cell","_law_ties","_law_orders","_law_k"] ["_law_script","_law_steps","_law_most"] (aS C6):=scm
abbrev qR:Stmt:=top 68
theorem u6:a0 ["_law_ties","_law_cell","_law_barred","_law_weights","_law_bars","_law_sets","_law_tie","_law_pick","_law_side"] ["_law_ties","_law_cell","_law_barred"] (aS qR):=scm
abbrev tZ:Stmt:=top 69
theorem x9:a0 ["_law_web","_law_wishes_here","_law_cell","_law_many","_law_ties","_law_orders","_law_places","_law_numbers","_law_told","_law_weights","_law_bars","_law_sets","_law_names","_law_k","_law_a","_law_b","_law_flip","_law_end","_law_corner","_law_rows","_law_place_here","_law_order"] ["_law_web","_law_wishes_here","_law_cell"] (aS tZ):=scm
abbrev kX:Stmt:=top 70
theorem nP:a0 ["_law_web","_law_outer","_law_wishes_here","_law_told"] ["_law_web","_law_outer","_law_wishes_here"] (aS kX):=scm
abbrev OL:Stmt:=top 71
theorem OK:a0 ["_law_script","_law_web","_law_cell","_law_some","_law_outer","_law_wishes_here","_law_least","_law_other_here","_law_names","_law_others","_law_rings","_law_land","_law_flipped","_law_corners","_law_end","_law_corner","_law_back","_law_by","_law_more","_law_less"] ["_law_script"] (aS OL):=scm
abbrev fN:Stmt:=inClass (top 32) 0
theorem nS:a0 ["self","net","prices"] ["self","net","prices"] (aS fN):=scm
set_option genInjectivity false in
structure Adr where
 fX:Tok
 iP:Tok
 kN:Tok
 eA:Tok
 aY:Addr
 iU:Addr
 iT:FuncData
 vY:Addr
 vS:FuncData
 j9:Addr
 j5:FuncData
 tP:Addr
 tI:FuncData
 lX:Addr
 lT:FuncData
 lW:Addr
 lS:FuncData
 pF:Addr
 pA:FuncData
 zZ:Addr
 zO:FuncData
 CH:Addr
 BZ:FuncData
 GP:Addr
 F7:FuncData
 LB:Addr
 K0:FuncData
 vV:Addr
 vP:FuncData
 pG:Addr
 pB:FuncData
 CG:Addr
 BY:FuncData
 tQ:Addr
 tJ:FuncData
 qM:Addr
 qH:FuncData
 zX:Addr
 zM:FuncData
 D9:Addr
 DR:FuncData
 iN:Addr
 iM:FuncData
 kB:Addr
 j7:FuncData
 qJ:Addr
 qE:FuncData
 rQ:Addr
 rO:FuncData
 AD:Addr
 zS:FuncData
 EA:Addr
 DS:FuncData
 kC:Addr
 j8:FuncData
 D8:Addr
 DQ:FuncData
 zY:Addr
 zN:FuncData
 kA:Addr
 j6:FuncData
 uW:Addr
 uR:FuncData
 IX:Addr
 IU:FuncData
 pH:Addr
 pC:FuncData
 rR:Addr
 rP:FuncData
 nE:Addr
 nC:FuncData
 tO:Addr
 tH:FuncData
 D0:Addr
 DP:FuncData
 vT:Addr
 vN:FuncData
 Q4:Addr
 QS:FuncData
 GM:Addr
 F0:FuncData
 qL:Addr
 qG:FuncData
 vU:Addr
 vO:FuncData
 GO:Addr
 F5:FuncData
 vX:Addr
 vR:FuncData
 EB:Addr
 DT:FuncData
 uX:Addr
 uS:FuncData
 AB:Addr
 zQ:FuncData
 CC:Addr
 BV:FuncData
 CB:Addr
 BU:FuncData
 AC:Addr
 zR:FuncData
 CF:Addr
 BX:FuncData
 GN:Addr
 F3:FuncData
 vW:Addr
 vQ:FuncData
 LC:Addr
 K3:FuncData
 AA:Addr
 zP:FuncData
 CD:Addr
 BW:FuncData
 qK:Addr
 qF:FuncData
 UQ:Addr
 UO:FuncData
structure Txt(K:PySem.W.Frag)(mg:Str->Option Value)(t:Adr):Prop where
 vM:Fn4 K mg "check_map" oF ["web"] t.vY t.vS
 jZ:Fn4 K mg "ties_name_places" gM ["many","ties"] t.j9 t.j5
 sZ:Fn4 K mg "orders_fit" mF ["web"] t.tP t.tI
 lR:Fn4 K mg "ends_at_places" iF ["many","ties"] t.lX t.lT
 lQ:Fn4 K mg "hangs_together" iE ["many","ties"] t.lW t.lS
 jB:Fn4 K mg "other_end" nV ["end"] t.pF t.pA
 zF:Fn4 K mg "place_of" qQ ["web","end"] t.zZ t.zO
 uQ:Fn4 K mg "goes_to" uA ["web","end"] t.CH t.BZ
 zK:Fn4 K mg "behind" yJ ["web","end"] t.GP t.F7
 tD:Fn4 K mg "lands" C4 ["web"] t.LB t.K0
 vJ:Fn4 K mg "land_from" nX ["web","first"] t.vV t.vP
 j3:Fn4 K mg "land_numbers" jV ["web"] t.pG t.pB
 BR:Fn4 K mg "is_flat" t9 ["web"] t.CG t.BY
 tE:Fn4 K mg "check_flat" mG ["web"] t.tQ t.tJ
 qD:Fn4 K mg "check_outer" kZ ["web","outer"] t.qM t.qH
 DN:Fn4 K mg "rate" HL ["way","prices"] t.zX t.zM
 KO:Fn4 K mg "rests" C2 ["net","going"] t.D9 t.DR
 lO:Fn4 K mg "settled_prices" iD ["net"] t.iN t.iM
 oZ:Fn4 K mg "lower_prices" jU ["net","free","prices","onward"] t.kB t.j7
 AS:Fn4 K mg "ring_behind" qA ["net","onward","knot"] t.qJ t.qE
 zI:Fn4 K mg "doors_of" qV ["net"] t.rQ t.rO
 zH:Fn4 K mg "filled" yH ["net","prices"] t.AD t.zS
 KP:Fn4 K mg "reach" C3 ["search"] t.EA t.DS
 mZ:Fn4 K mg "far_side" qU ["search","number","by"] t.kC t.j8
 IQ:Fn4 K mg "room" HK ["search","number","by"] t.D8 t.DQ
 FU:Fn4 K mg "put_in" yE ["waiting","entry"] t.zY t.zN
 oY:Fn4 K mg "raise_prices" jT ["search","reached","last"] t.kA t.j6
 BP:Fn4 K mg "path_to" tW ["search","reached","last"] t.uW t.uR
 QN:Fn4 K mg "push" HM ["search","path","last"] t.IX t.IU
 vL:Fn4 K mg "check_net" oE ["net"] t.pH t.pC
 zJ:Fn4 K mg "cheapest" qW ["net"] t.rR t.rP
 v9:Fn4 K mg "without_costs" nB ["net"] t.nE t.nC
 sY:Fn4 K mg "wanted_sum" mE ["number","outer"] t.tO t.tH
 KN:Fn4 K mg "turns" C1 ["shape"] t.D0 t.DP
 vH:Fn4 K mg "shortened" nU ["shape"] t.vT t.vN
 QO:Fn4 K mg "cost" HN ["wishes","shape"] t.Q4 t.QS
 FV:Fn4 K mg "net_of" yF ["web","outer","wishes"] t.GM t.F0
 qC:Fn4 K mg "corner_ways" kY ["web","sets"] t.qL t.qG
 vI:Fn4 K mg "left_ways" nW ["web","wishes"] t.vU t.vO
 FX:Fn4 K mg "fewest" yI ["web","outer","wishes"] t.GO t.F5
 fW:Fn4 K mg "_law_cell_at" nZ ["_law_script","_law_k"] t.vX t.vR
 fQ:Fn4 K mg "_law_mix" C5 ["_law_cell","_law_k"] t.EB t.DT
 jR:Fn4 K mg "_law_digit" t8 ["_law_number","_law_by","_law_k"] t.uX t.uS
 j4:Fn4 K mg "_law_turned" qS ["_law_number","_law_many"] t.AB t.zQ
 iL:Fn4 K mg "_law_other" tY ["_law_end"] t.CC t.BV
 pZ:Fn4 K mg "_law_place" tX ["_law_ties","_law_end"] t.CB t.BU
 mY:Fn4 K mg "_law_behind" qT ["_law_ties","_law_orders","_law_end"] t.AC t.zR
 lP:Fn4 K mg "_law_lands" t7 ["_law_ties","_law_orders"] t.CF t.BX
 FW:Fn4 K mg "_law_step" yG ["_law_ties","_law_orders","_law_pick","_law_most"] t.GN t.F3
 vK:Fn4 K mg "_law_renamed" nY ["_law_ties","_law_orders","_law_cell"] t.vW t.vQ
 KQ:Fn4 K mg "_law_map" C6 ["_law_script","_law_steps","_law_most"] t.LC t.K3
 zG:Fn4 K mg "_law_wishes" qR ["_law_ties","_law_cell","_law_barred"] t.AA t.zP
 BQ:Fn4 K mg "_law_named" tZ ["_law_web","_law_wishes_here","_law_cell"] t.CD t.BW
 fP:Fn4 K mg "_law_cost_told" kX ["_law_web","_law_outer","_law_wishes_here"] t.qK t.qF
 YA:Fn4 K mg "law" OL ["_law_script"] t.UQ t.UO
 bV:Cls K t.aY
 iQ:kD K t.aY "ways"
 gL:kD K t.aY "prices"
 fC:kD K t.aY "going"
 cN:kD K t.aY "resting"
 oP:kD K t.aY "doors"
 MN:Mk K t.aY t.iU
 PZ:mg "Search" = some (.ref t.aY)
 A0:Fun K "__init__" "Search.__init__" fN t.iU t.iT
 AX:Binds K t.iT ["self","net","prices"] []
 UB:mg "all" = none
 WO:mg "any" = none
 cK:mg "enumerate" = none
 UA:mg "int" = none
 dQ:mg "len" = none
 xG:mg "list" = none
 T9:mg "min" = none
 dZ:mg "range" = none
 xF:mg "sorted" = none
 T8:mg "sum" = none
 NI:mg "zip" = none
 cZ:mg "QUARTERS_ROUND" = some (.int 4 t.fX)
 gI:mg "MOST_PLACES" = some (.int 200 t.iP)
 iZ:mg "MOST_TIES" = some (.int 400 t.kN)
 dF:mg "MOST_ENDS_AT_A_PLACE" = some (.int 4 t.eA)
end K29
abbrev K29.lawK:Nat:=60
namespace NM
open L2 (at0)
structure Way where
 a:Nat
 b:Nat
 lo:Int
 hi:Option Int
 c:Int
def rt(ps:List Int)(w:Way):Int:=w.c-at0 ps w.a+at0 ps w.b
def mn(i j:Int):Int:=if j<i then j else i
def least(ps:List Int)(w:Way):Option Int :=
 match w.hi with
 |some h=>some (mn (w.lo*rt ps w) (h*rt ps w))
 |none=>if rt ps w<0 then none else some (w.lo*rt ps w)
def due(ps:List Int)(w:Way):Option Int :=
 if 0<rt ps w then some (rt ps w*w.lo) else if rt ps w<0 then (match w.hi with | some h=>some (rt ps w*h) | none=>none) else some 0
theorem MR(ps:List Int)(w:Way)(hb:∀h,w.hi=some h->w.lo<=h):least ps w=due ps w:=by
 unfold least due;generalize rt ps w=r;rcases hw:w.hi with _ | h
 ·dsimp only;by_cases h1:0<r
  ·rw[if_pos h1,if_neg (by lia),Int.mul_comm]
  ·by_cases h2:r<0
   ·rw[if_neg h1,if_pos h2,if_pos h2]
   ·have:r=0:=by lia
    subst this;simp
 ·have hl:=hb h hw;dsimp only;by_cases h1:0<r
  ·rw[if_pos h1];have:w.lo*r<=h*r:=Int.mul_le_mul_of_nonneg_right hl (by lia);unfold mn;rw[if_neg (by lia),Int.mul_comm]
  ·rw[if_neg h1];by_cases h2:r<0
   ·rw[if_pos h2];have:h*r<=w.lo*r:=Int.mul_le_mul_of_nonpos_right hl (by lia);unfold mn;by_cases e:h*r<w.lo*r
    ·rw[if_pos e,Int.mul_comm]
    ·rw[if_neg e];have:w.lo*r=h*r:=by omega
     rw[this,Int.mul_comm]
   ·have:r=0:=by lia
    subst this;simp[mn]
def bnd(f:Way->Option Int):List Way->Int->Option Int
 |[],t=>some t
 |w::ws,t=>match f w with
  |none=>none
  |some l=>bnd f ws (t+l)
theorem B5{f g:Way->Option Int}:∀(ws:List Way) (t:Int),(∀w∈ws,f w=g w)->bnd f ws t=bnd g ws t
 |[],_,_=>rfl
 |w::ws,t,h=>by
  unfold bnd;rw[h w Zd];cases g w with
  |none=>rfl
  |some l=>exact B5 ws _ λx hx=>h x (Zw _ hx)
theorem QZ{f:Way->Option Int}{ws:List Way}{i:Nat}{t l:Int}{w:Way}(h:ws[i]?=some w)(hf:f w=some l):bnd f (ws.drop i) t=bnd f (ws.drop (i+1)) (t+l):=by
 obtain⟨hi,rfl⟩:=Zj.mp h;rw[List.drop_eq_getElem_cons hi];show(match f ws[i]with | none=>none | some l=>bnd f (ws.drop (i+1)) (t+l))=_;rw[hf]
def dot(ps l:List Int)(n:Nat):Int:=((List.range n).map λk=>at0 ps k*at0 l k).sum
theorem tG(ps l:List Int)(n:Nat):dot ps l (n+1)=dot ps l n+at0 ps n*at0 l n:=by
 unfold dot;rw[List.range_succ,Zt,List.sum_append];simp
theorem kU{l:List Int}{j k:Nat}{v:Int}(h:j<l.length):at0 (l.set j v) k=if k=j then v else at0 l k:=by
 unfold at0;simp only[List.getD];by_cases e:k=j
 ·subst e;rw[if_pos rfl,List.getElem?_set_self h];rfl
 ·rw[if_neg e,List.getElem?_set_ne (Ne.symm e)]
theorem DO(ps:List Int){l:List Int}{j:Nat}{v:Int}(h:j<l.length):∀n,dot ps (l.set j v) n=dot ps l n+(if j<n then at0 ps j*(v-at0 l j) else 0)
 |0=>by simp[dot]
 |n+1=>by
  rw[tG,tG,DO ps h n,kU h];by_cases e:n=j
  ·subst e;rw[if_neg (by lia),if_pos rfl,if_pos (by lia),Int.mul_sub]
   lia
  ·rw[if_neg e];by_cases e2:j<n
   ·rw[if_pos e2,if_pos (by lia)];lia
   ·rw[if_neg e2,if_neg (by lia)];lia
def step(l:List Int)(w:Way)(g:Int):List Int:=(l.set w.a (at0 l w.a-g)).set w.b (at0 (l.set w.a (at0 l w.a-g)) w.b+g)
theorem r8(l:List Int)(w:Way)(g:Int):(step l w g).length=l.length:=by unfold step;simp
theorem EN{ps l:List Int}{w:Way}{g:Int}{n:Nat}(hl:l.length=n)(ha:w.a<n)(hb:w.b<n):dot ps (step l w g) n=dot ps l n-(at0 ps w.a-at0 ps w.b)*g:=by
 unfold step;rw[DO ps (by simp;lia),DO ps (by lia),if_pos ha,if_pos hb];have e1:at0 l w.a-g-at0 l w.a = -g:=by lia
 have e2:at0 (l.set w.a (at0 l w.a-g)) w.b+g-at0 (l.set w.a (at0 l w.a-g)) w.b=g:=by lia
 rw[e1,e2,Int.sub_mul,Int.mul_neg]
 lia
def left:List Way->List Int->List Int->List Int
 |w::ws,g::gs,l=>left ws gs (step l w g)
 |_,_,l=>l
def inB(w:Way)(g:Int):Prop:=w.lo<=g/\∀h,w.hi=some h->g<=h
def nG:List Way->List Int->Int
 |w::ws,g::gs=>w.c*g+nG ws gs
 |_,_=>0
structure nF(needs:List Int)(ws:List Way)(gs:List Int):Prop where
 len:gs.length=ws.length
 inb:∀(i:Nat) w g,ws[i]?=some w->gs[i]?=some g->inB w g
 zero:∀k,k<needs.length->at0 (left ws gs needs) k=0
theorem least_le{ps:List Int}{w:Way}{g d:Int}(h:inB w g)(e:least ps w=some d):d<=rt ps w*g:=by
 unfold least at e;generalize rt ps w=r at e ⊢;rcases hw:w.hi with _ | hh
 ·rw[hw]at e;dsimp only at e;by_cases h2:r<0
  ·rw[if_pos h2]at e;cases e
  ·rw[if_neg h2]at e;cases e;rw[Int.mul_comm r g];exact Int.mul_le_mul_of_nonneg_right h.1 (by lia)
 ·rw[hw]at e;cases e;rw[Int.mul_comm r g];by_cases h2:r<0
  ·have:hh*r<=g*r:=Int.mul_le_mul_of_nonpos_right (h.2 _ hw) (by lia);unfold mn;split<;>omega
  ·have:w.lo*r<=g*r:=Int.mul_le_mul_of_nonneg_right h.1 (by lia);unfold mn;split<;>lia
theorem YB{ps:List Int}{n:Nat}:∀(ws:List Way) (gs l:List Int) (t d:Int),gs.length=ws.length->(∀(i:Nat) w g,ws[i]?=some w->gs[i]?=some g->inB w g)->l.length=n->(∀w∈ws,w.a<n/\w.b<n) ->
  bnd (least ps) ws t=some d->d<=t+nG ws gs-dot ps l n+dot ps (left ws gs l) n
 |[],[],l,t,d,_,_,_,_,h=>by cases h;simp[nG,left]
 |[],_::_,_,_,_,hl,_,_,_,_=>by simp at hl
 |_::_,[],_,_,_,hl,_,_,_,_=>by simp at hl
 |w::ws,g::gs,l,t,d,hl,hin,hn,hk,h=>by
  unfold bnd at h;rcases hw:least ps w with _ | x
  ·rw[hw]at h;cases h
  ·rw[hw]at h;have ih:=YB ws gs (step l w g) (t+x) d (by simpa using hl) (λi w' g' h1 h2=>hin (i+1) w' g' (by simpa using h1) (by simpa using h2)) (by rw[r8];exact hn) (λw' h'=>hk w' (Zw _ h')) h;have h1:=least_le (hin 0 w g rfl rfl) hw;have hab:=hk w Zd;rw[EN hn hab.1 hab.2]at ih;show d<=t+(w.c*g+nG ws gs)-dot ps l n+dot ps (left ws gs (step l w g)) n;unfold rt at h1;have e:(w.c-at0 ps w.a+at0 ps w.b)*g=w.c*g-(at0 ps w.a-at0 ps w.b)*g:=by
    rw[<-Int.sub_mul];congr 1;lia
   rw[e]at h1
   lia
theorem zL{ps l:List Int}:∀n,(∀k,k<n->at0 l k=0)->dot ps l n=0
 |0,_=>rfl
 |n+1,h=>by rw[tG,zL n λk hk=>h k (by lia),h n (by lia)];simp
theorem SY{ps needs:List Int}{ws:List Way}{gs:List Int}{d:Int}(hk:∀w∈ws,w.a<needs.length/\w.b<needs.length)(G:nF needs ws gs)(h:bnd (least ps) ws (dot ps needs needs.length)=some d):d<=nG ws gs:=by
 have:=YB ws gs needs _ d G.len G.inb rfl hk h;rw[zL (l:=left ws gs needs) _ G.zero]at this
 lia
theorem BM{ws:List Way}{gs l:List Int}{i:Nat}{w:Way}{g:Int}(h1:ws[i]?=some w)(h2:gs[i]?=some g):left (ws.take (i+1)) (gs.take (i+1)) l=step (left (ws.take i) (gs.take i) l) w g:=by
 induction i generalizing ws gs l with
 |zero =>
  cases ws with
  |nil=>simp at h1
  |cons x ws =>
   cases gs with
   |nil=>simp at h2
   |cons y gs =>
    simp at h1 h2;subst h1 h2;simp[left]
 |succ i ih =>
  cases ws with
  |nil=>simp at h1
  |cons x ws =>
   cases gs with
   |nil=>simp at h2
   |cons y gs =>
    simp only[List.take_succ_cons,left];exact ih (by simpa using h1) (by simpa using h2)
theorem sU:∀(ws:List Way) (gs l:List Int),(left ws gs l).length=l.length
 |w::ws,g::gs,l=>by rw[left,sU,r8]
 |[],_,l=>by cases ‹List Int›<;>rfl
 |_::_,[],l=>rfl
theorem DU(d:Way):∀(ws:List Way) (gs:List Int),gs.length=ws.length->nG ws gs=((List.range ws.length).map λk=>(ws.getD k d).c*at0 gs k).sum
 |[],[],_=>rfl
 |[],_::_,h=>by simp at h
 |_::_,[],h=>by simp at h
 |w::ws,g::gs,h=>by
  rw[nG,DU d ws gs (by simpa using h),Yq,List.range_succ_eq_map,List.map_cons,List.sum_cons,Yh];rfl
end NM
namespace FL
open NM L2
def aF(ws:List Way)(k:Nat):Nat:=(ws[k]?.map (·.a)).getD 0
def bF(ws:List Way)(k:Nat):Nat:=(ws[k]?.map (·.b)).getD 0
def loF(ws:List Way)(k:Nat):Int:=(ws[k]?.map (·.lo)).getD 0
def hiF(ws:List Way)(k:Nat):Option Int:=ws[k]?.bind (·.hi)
def coF(ws:List Way)(k:Nat):Int:=(ws[k]?.map (·.c)).getD 0
section
variable{ws:List Way}{k:Nat}{w:Way}
theorem qN(h:ws[k]?=some w):aF ws k=w.a:=by unfold aF;rw[h];rfl
theorem tL(h:ws[k]?=some w):bF ws k=w.b:=by unfold bF;rw[h];rfl
theorem uM(h:ws[k]?=some w):loF ws k=w.lo:=by unfold loF;rw[h];rfl
theorem rM(h:ws[k]?=some w):hiF ws k=w.hi:=by unfold hiF;rw[h];rfl
theorem QX(h:ws[k]?=some w):coF ws k=w.c:=by unfold coF;rw[h];rfl
theorem J1(h:ws[k]?=some w)(ps:List Int):rt (aF ws) (bF ws) (coF ws) (at0 ps) k=NM.rt ps w:=by
 unfold rt NM.rt;rw[qN h,tL h,QX h]
end
theorem GL{l:List Int}{w:Way}{g:Int}(ha:w.a<l.length)(hb:w.b<l.length)(v:Nat):at0 (step l w g) v=at0 l v-(if w.a=v then g else 0)+(if w.b=v then g else 0):=by
 unfold step;rw[kU (by simpa using hb),kU ha,kU ha];by_cases x:v=w.b<;>by_cases y:v=w.a
 ·subst x;rw[if_pos rfl,if_pos y,if_pos y.symm,if_pos rfl,y]
 ·subst x;rw[if_pos rfl,if_neg y,if_neg (λz=>y z.symm),if_pos rfl];lia
 ·subst y;rw[if_neg x,if_pos rfl,if_pos rfl,if_neg (λz=>x z.symm)];lia
 ·rw[if_neg x,if_neg y,if_neg (λz=>y z.symm),if_neg (λz=>x z.symm)];lia
theorem DF{ws:List Way}{gs ns:List Int}(hl:gs.length=ws.length)(hk:∀w∈ws,w.a<ns.length/\w.b<ns.length)(v:Nat) :
  at0 (left ws gs ns) v=rs ws.length (aF ws) (bF ws) (at0 ns) (at0 gs) v:=by
 have key:∀i,i<=ws.length->at0 (left (ws.take i) (gs.take i) ns) v=rs i (aF ws) (bF ws) (at0 ns) (at0 gs) v:=by
  intro i;induction i with
  |zero=>intro _;simp[left,rs,wK]
  |succ i ih =>
   intro hi;have h1:ws[i]?=some ws[i]:=Zz (by lia);have h2:gs[i]?=some gs[i]:=Zz (by lia);have hw:=hk ws[i] (Zp _);have ll:=sU (ws.take i) (gs.take i) ns;rw[BM h1 h2,GL (by rw[ll];exact hw.1) (by rw[ll];exact hw.2),ih (by lia)];have eg:at0 gs i=gs[i]:=by unfold at0;simp[List.getD,h2]
   unfold rs;rw[dW,dW,qN h1,tL h1,eg]
   lia
 have:=key ws.length (Nat.le_refl _)
 rwa [Yv,List.take_of_length_le (by lia)]at this
section
variable{rest rest':Nat->Int}{src dst:Nat->Int->Nat}{len:Nat->Int->Int}{op:Nat->Int->Prop}{n:Nat}{pr:Nat->Int->Prop}{R W:List En}{nr:Nat->Option Int}
theorem Rch.congr(h:Rch rest src dst len op n pr R W nr)(e:∀v,v<n->rest v=rest' v):Rch rest' src dst len op n pr R W nr:=by
 have f:∀x∈R++W,CJ rest x->CJ rest' x:=λx hx z=>⟨z.1,z.2.1,by rw[<-e _ (h.lt x hx)];exact z.2.2⟩
 exact⟨λi x hx=>(h.old i x hx).imp (f x (List.mem_append_left _ (Zg hx))) id,λx hx=>(h.wait x hx).imp (f x (List.mem_append_right _ hx)) id,h.lt,h.nd,h.up,h.mono,h.dom,h.near,λv hv hp=>h.pos v hv (by rw[e v hv];exact hp)⟩
theorem few:∀(n:Nat) (l:List Nat),l.Nodup->(∀x∈l,x<n)->l.length<=n
 |0,[],_,_=>Nat.le_refl _
 |0,x::_,_,h=>absurd (h x (.head _)) (Nat.not_lt_zero _)
 |n+1,l,nd,h=>by
  have ih:=few n (l.filter λx=>decide (x≠n)) (nd.filter _) λx hx=>by
   obtain⟨h1,h2⟩:=Yz.mp hx;have:=h x h1;have:=of_decide_eq_true h2
   lia
  have key:∀m:List Nat,m.Nodup->m.length<=(m.filter λx=>decide (x≠n)).length+1:=by
   intro m;induction m with
   |nil=>intro _;simp
   |cons a m ihm =>
    intro hm;rw[List.nodup_cons]at hm;by_cases z:a=n
    ·have e:m.filter (λx=>decide (x≠n))=m:=List.filter_eq_self.mpr λx hx=>decide_eq_true λy=>hm.1 (by rw[z,<-y];exact hx);rw[List.filter_cons_of_neg (by simpa using z),e];simp
    ·rw[List.filter_cons_of_pos (by simpa using z)];have:=ihm hm.2;rw[Yq,Yq]
     lia
  have:=key l nd
  lia
theorem Rch.few(h:Rch rest src dst len op n pr R W nr):R.length<=n:=by
 have:=FL.few n (R.map (·.v)) h.nd λx hx=>by
  obtain⟨u,hu,rfl⟩:=Zh.mp hx;exact h.lt u (List.mem_append_left _ hu)
 simpa using this
def Out(rest:Nat->Int)(src dst:Nat->Int->Nat)(len:Nat->Int->Int)(op:Nat->Int->Prop)(n:Nat)(R:List En):Prop :=
 (∃(R':List En) (e:En) (W:List En) (nr:Nat->Option Int) (pr:Nat->Int->Prop),R=R'++[e]/\Rch rest src dst len op n pr R W nr/\(∀k by_,op k by_->(∃u∈R',u.v=src k by_)->pr k by_)/\rest e.v<0) \/
 (∃(nr:Nat->Option Int) (pr:Nat->Int->Prop),Rch rest src dst len op n pr R [] nr/\(∀k by_,op k by_->(∃u∈R,u.v=src k by_)->pr k by_)/\∀u∈R,0<=rest u.v)
theorem Out.congr(h:Out rest src dst len op n R)(e:∀v,v<n->rest v=rest' v):Out rest' src dst len op n R:=by
 rcases h with⟨R',x,W,nr,pr,rfl,h,a,l⟩ | ⟨nr,pr,h,a,l⟩
 ·exact .inl ⟨R',x,W,nr,pr,rfl,h.congr e,a,by rw[<-e _ (h.lt x (by simp))];exact l⟩
 ·exact .inr ⟨nr,pr,h.congr e,a,λu hu=>by rw[<-e _ (h.lt u (by simpa using hu))];exact l u hu⟩
end
structure JD(ws:List Way)(n:Nat)(ds:List (List (Nat×Int))):Prop where
 len:ds.length=n
 mem:∀(v:Nat) (l:List (Nat×Int)),ds[v]?=some l->∀(k:Nat) (by_:Int),(k,by_)∈l↔k<ws.length/\((by_=1/\aF ws k=v)\/(by_ = -1/\bF ws k=v))
 few:∀(v:Nat) (l:List (Nat×Int)),ds[v]?=some l->l.length<=2*ws.length
theorem JD.src{ws:List Way}{n:Nat}{ds:List (List (Nat×Int))}(h:JD ws n ds){v:Nat}{l:List (Nat×Int)}(hl:ds[v]?=some l){k:Nat}{by_:Int}(hm:(k,by_)∈l):k<ws.length/\(by_=1\/by_ = -1)/\sd (aF ws) (bF ws) k by_=v:=by
 obtain⟨h1,h2⟩:=(h.mem v l hl k by_).mp hm;rcases h2 with⟨rfl,e⟩ | ⟨rfl,e⟩
 ·exact⟨h1,.inl rfl,e⟩
 ·exact⟨h1,.inr rfl,e⟩
theorem JD.has{ws:List Way}{n:Nat}{ds:List (List (Nat×Int))}(h:JD ws n ds){k:Nat}{by_:Int}(hk:k<ws.length)(hb:by_=1\/by_ = -1){l:List (Nat×Int)}(hl:ds[sd (aF ws) (bF ws) k by_]?=some l):(k,by_)∈l:=by
 refine(h.mem _ l hl k by_).mpr ⟨hk,?_⟩;rcases hb with rfl | rfl
 ·exact .inl ⟨rfl,rfl⟩
 ·exact .inr ⟨rfl,rfl⟩
def rm(ws:List Way)(gs:List Int)(k:Nat)(by_:Int):Option Int:=if by_<0 then some (at0 gs k-loF ws k) else (hiF ws k).map λh=>h-at0 gs k
theorem OO{ws:List Way}{gs:List Int}{k:Nat}{by_:Int}(hk:k<ws.length)(hb:by_=1\/by_ = -1):opn ws.length (loF ws) (hiF ws) (at0 gs) k by_↔rm ws gs k by_≠some 0:=by
 unfold opn rm;rcases hb with rfl | rfl
 ·rw[if_neg (by decide)];constructor
  ·rintro⟨_,⟨_,z⟩ | ⟨z,_⟩⟩
   ·intro y;obtain⟨h,e1,e2⟩:=Xz.mp y;exact z (by rw[e1];congr 1;lia)
   ·exact absurd z (by decide)
  ·intro z;refine⟨hk,.inl ⟨rfl,λy=>z ?_⟩⟩;rw[y];show some (at0 gs k-at0 gs k)=some 0;rw[Int.sub_self]
 ·rw[if_pos (by decide)];constructor
  ·rintro⟨_,⟨z,_⟩ | ⟨_,z⟩⟩
   ·exact absurd z (by decide)
   ·intro y;have:=Option.some.inj y;exact z (by lia)
  ·intro z;refine⟨hk,.inr ⟨rfl,λy=>z ?_⟩⟩;congr 1;lia
end FL
namespace L2
open PySem PyProof.Rows NM
def wv(w:Way):List V:=[vn w.a,vn w.b,.int w.lo,vo w.hi,.int w.c]
def iO(H:Hp)(a:Addr)(ws:List Way):Prop:=∃rs:List Addr,H a=some (.lst (rs.map V.ref))/\rs.length=ws.length/\∀(i:Nat) w,ws[i]?=some w->∃r,rs[i]?=some r/\H r=some (.tup (wv w))
theorem iO.mono{H H':Hp}{a:Addr}{ws:List Way}(h:iO H a ws)(g:aZ H H'):iO H' a ws:=by
 obtain⟨rs,h1,h2,h3⟩:=h;exact⟨rs,g _ _ h1,h2,λi w hw=>by obtain⟨r,q1,q2⟩:=h3 i w hw;exact⟨r,q1,g _ _ q2⟩⟩
structure lY(H:Hp)(p na wa:Addr)(ns:List Int)(ws:List Way):Prop where
 tp:H p=some (.tup [.ref na,.ref wa])
 n:H na=some (.lst (ns.map V.int))
 w:iO H wa ws
theorem lY.mono{H H':Hp}{p na wa:Addr}{ns:List Int}{ws:List Way}(h:lY H p na wa ns ws)(g:aZ H H'):lY H' p na wa ns ws:=⟨g _ _ h.tp,g _ _ h.n,h.w.mono g⟩
structure YF(n:Nat)(w:Way):Prop where
 a:w.a<n
 b:w.b<n
 lo : -1000<=w.lo/\w.lo<=1000
 hi:∀h,w.hi=some h->w.lo<=h/\h<=1000
 c : -1000<=w.c/\w.c<=1000
structure GS(ns:List Int)(ws:List Way):Prop where
 n:1<=ns.length
 n2:ns.length<=1000
 w2:ws.length<=1000
 z:ns.sum=0
 nb:∀x∈ns,-100000<=x/\x<=100000
 w:∀w∈ws,YF ns.length w
theorem G1{H:Hp}{rs:List Addr}{ws:List Way}{i:Nat}{r:Addr}(hl:rs.length=ws.length)(h3:∀(i:Nat) w,ws[i]?=some w->∃r,rs[i]?=some r/\H r=some (.tup (wv w)))(h:rs[i]?=some r):∃w,ws[i]?=some w/\H r=some (.tup (wv w)):=by
 have hi:i<ws.length:=by rw[<-hl];exact(Zj.mp h).1
 obtain⟨r',q1,q2⟩:=h3 i ws[i] (Zz hi);rw[h]at q1;cases q1;exact⟨_,Zz hi,q2⟩
theorem w8{ls:List Int}{i:Nat}{x:V}(h:(ls.map V.int)[i]?=some x):i<ls.length/\x=.int (at0 ls i):=by
 have hi:i<ls.length:=by
  have:=(Zj.mp h).1;simpa using this
 rw[gE hi]at h;exact⟨hi,(Option.some.inj h).symm⟩
end L2
variable{P:PySem.Program}{w:PySem.World}{K:PySem.W.Frag}{mg:PySem.Str->Option PySem.Value}{base:PySem.Heap}{t:K29.Adr}
namespace K29
open PySem L2 PyProof.Rows NM
def JW:Sp:=λvs H Q _=>∃(p na wa:Addr) (ns:List Int) (ws:List Way),vs=[.ref p]/\lY H p na wa ns ws/\GS ns ws/\Q .non H
theorem PM(T:Txt K mg t):bT P w K mg base CX0 1 t.pH t.pC ["net"] JW:=by
 refine T.vL.F.ok sF (λvs H Q E h=>?_) (λcdv A outer s H vs Q E hr h=>?_)
 ·obtain⟨p,na,wa,ns,ws,rfl,_⟩:=h;rfl
 obtain⟨p,na,wa,ns,ws,rfl,hN,hO,q⟩:=h;have nd:=sF.nd;obtain⟨rs,e1,e2,e3⟩:=hN.w;refine⟨_,(aC (aW 1 nd (a8 aU rfl T.dQ PySem.boot_len (aA (aN aP (pv 0) aG (λ_ _=>rfl)) aE)))
  (aC (dH (bH lJ (pv 1) aG (bO _)) (aL sL) bW)
  (aC (dH (bH vD (a8 (B2 rfl) rfl T.T8 boot_sum (aA (aN aP (pv 0) aG (λ_ _=>rfl)) aE)) aG (bO _)) (aL sL) bW)
  (aL (cV PassesOwn.never rfl (cI (aN aP (pv 0) aG (λ_ _=>rfl))) (aO (i:=2) nd rfl (Or.inl rfl)) (aC (dH (lA (PW.pt (rB (oG sR iX aG (aN aP (pv 2) aG (λ_ _=>rfl)) (pv 1)) (pQ (oG sR iX aG (aN aP (pv 2) aG (λ_ _=>rfl)) (pv 1)))))) (aL sL) bW)
  (aL (dH (PW.pt (rB (bH J5 (aN aP (pv 2) aG (λ_ _=>rfl)) fI (bO _)) (pQ (bH iX (aN aP (pv 2) aG (λ_ _=>rfl)) (aN aP (pv 2) aG (λ_ _=>rfl)) (bO _))))) (aL sL) bW)))))))),?_⟩
 have hT:SqT K H p [.ref na,.ref wa]:=SqT.of hN.tp;have hn1:=hO.n;refine(aJ _ rfl p _ _ _ rfl (cQ rfl hT rfl na _ rfl (.inl (SqL.of hN.n)) ?_));have el:(((ns.map V.int).length:Nat):Int)=(ns.length:Int):=by rw[Zq]
 show jH 1 (V.int (((ns.map V.int).length:Nat):Int)) _ _ _;rw[el];refine(fF _ rfl rfl _ rfl (fU (decide_eq_false (λz=>by have:=V.int.inj z;lia)) ?_));refine(aJ _ rfl p _ _ _ rfl (cQ rfl hT rfl na _ rfl (SqL.of hN.n) ?_));refine⟨rfl,_,rfl,fU (by rw[hO.z];rfl) ?_⟩;refine(aJ _ rfl p _ _ _ rfl (gJ rfl hT rfl wa rfl ⟨_,SqL.of e1⟩ (jA (xs:=rs.map V.ref) (λ_ σ H'=>H'=H/\∃o:Option V,σ=[some (.ref p),some (.int ns.length),o]) ⟨rfl,none,rfl⟩ (λi σ H' _ h=>by obtain⟨rfl,_⟩:=h;exact SqL.of e1) ?_ ?_)))
 ·rintro i x σ H' hx ⟨rfl,o,rfl⟩;obtain⟨r,hr1,rfl⟩:=wQ hx;obtain⟨w,hw,er⟩:=G1 e2 e3 hr1;have ok:=hO.w w (Zg hw);have hW:SqT K H' r (wv w):=SqT.of er;have ha:=ok.a;have hb:=ok.b;refine(aJ _ rfl r _ _ _ rfl (cQ rfl hW rfl _ _ rfl rfl ⟨ _,rfl,gC (decide_eq_true (by lia)) (bP _ rfl _ _ rfl rfl ⟨ _,rfl,gC (decide_eq_true (by lia)) ?_⟩)⟩));refine(aJ _ rfl r _ _ _ rfl (cQ rfl hW rfl _ _ rfl rfl ⟨ _,rfl,gC (decide_eq_true (by lia)) (bP _ rfl _ _ rfl rfl ⟨ _,rfl,?_⟩)⟩));rw[decide_eq_true (show(w.b:Int)<(ns.length:Int) by lia)];refine iY ?_;refine(aJ _ rfl r _ _ (vo w.hi) rfl ⟨ rfl,hW,rfl,rfl,?_⟩);rcases hh:w.hi with _ | h
  ·exact⟨_,rfl,fU (by rfl) (iY ⟨rfl,_,rfl⟩)⟩
  ·have e4:atI (wv w) 3=some (.int h):=by show some (vo w.hi)=_;rw[hh];rfl
   have:=ok.hi h hh;exact⟨_,rfl,gC (by rfl) (aJ _ rfl r _ _ _ rfl (cU rfl hW e4 _ rfl (aM r _ _ _ rfl rfl hW (lG rfl _ _ rfl rfl _ rfl (fU (decide_eq_false (by lia)) ⟨rfl,_,rfl⟩)))))⟩
 ·rintro σ H' ⟨rfl,o,rfl⟩;exact q
end K29
namespace L2
open PySem PySem.Spec PyProof.Rows
section
variable{X:Cx}
def XG(K:PySem.W.Frag):V->V->Hp->VK->Prop:=λo i H Q=>∃p xs k v,o=.ref p/\i=.int k/\SqL K H p xs/\0<=k/\atI xs k=some v/\Q v H
theorem jX:YI X (XG X.K):=by
 intro pins s σ H o i ov iv Q I ro ri h;obtain⟨p,xs,k,z,rfl,rfl,hq,h0,he,q⟩:=h;cases ro;obtain⟨t,rfl⟩:=ri;obtain⟨its,r,pl,hz⟩:=I.list hq;obtain⟨j,h1,h2,h3,h4,h5⟩:=xD he;obtain⟨w,ew,rw'⟩:=r.get h2;have hl:=r.length;have hn:=mV;have hj:k.toNat=j:=by
  rw[seqIndex_of h0 h5]at h1;exact Option.some.inj h1
 exact wpAny_getItem_list pl.isList h0 (by lia) (by rw[hj];simpa using ew) ⟨z,H,I,rw',q⟩
end
end L2
namespace K29
open PySem L2 PyProof.Rows NM FL
def sW(wa pa ga ra da:Addr):List (Str×V):=bZ "doors" (.ref da) (bZ "resting" (.ref ra) (bZ "going" (.ref ga) (bZ "prices" (.ref pa) (bZ "ways" (.ref wa) []))))
theorem DM(wa pa ga ra da:Addr):(sW wa pa ga ra da).lookup ("ways" : Str)=some (.ref wa):=by
 unfold sW;rw[bY,if_neg (by decide +kernel),bY,if_neg (by decide +kernel),bY,if_neg (by decide +kernel),bY,if_neg (by decide +kernel),bY,if_pos rfl]
theorem uP(wa pa ga ra da:Addr):(sW wa pa ga ra da).lookup ("prices" : Str)=some (.ref pa):=by
 unfold sW;rw[bY,if_neg (by decide +kernel),bY,if_neg (by decide +kernel),bY,if_neg (by decide +kernel),bY,if_pos rfl]
theorem sX(wa pa ga ra da:Addr):(sW wa pa ga ra da).lookup ("going" : Str)=some (.ref ga):=by
 unfold sW;rw[bY,if_neg (by decide +kernel),bY,if_neg (by decide +kernel),bY,if_pos rfl]
theorem fV(wa pa ga ra da:Addr):(sW wa pa ga ra da).lookup ("resting" : Str)=some (.ref ra):=by
 unfold sW;rw[bY,if_neg (by decide +kernel),bY,if_pos rfl]
theorem QJ(wa pa ga ra da:Addr):(sW wa pa ga ra da).lookup ("doors" : Str)=some (.ref da):=by
 unfold sW;rw[bY,if_pos rfl]
structure SA where
 w:Addr
 p:Addr
 g:Addr
 r:Addr
 d:Addr
 rows:List Addr
def AI(H:Hp)(a:Addr)(l:List (Nat×Int)):Prop:=∃rs:List Addr,H a=some (.lst (rs.map V.ref))/\rs.length=l.length/\∀(j:Nat) q,l[j]?=some q->∃r,rs[j]?=some r/\H r=some (.tup [vn q.1,.int q.2])
theorem AI.keep{H H':Hp}{a:Addr}{l:List (Nat×Int)}(h:AI H a l)(k:∀b xs,(b=a->H b=some (.lst xs)->H' b=some (.lst xs))/\(H b=some (.tup xs)->H' b=some (.tup xs))):AI H' a l:=by
 obtain⟨rs,h1,h2,h3⟩:=h;refine⟨rs,(k a _).1 rfl h1,h2,λj q hq=>?_⟩;obtain⟨r,e1,e2⟩:=h3 j q hq;exact⟨r,e1,(k r _).2 e2⟩
structure SAt(C:Addr)(H:Hp)(s:Addr)(A:SA)(ws:List Way)(ds:List (List (Nat×Int)))(ps gs rs:List Int):Prop where
 ob:∃dx,H s=some (.ins C dx (sW A.w A.p A.g A.r A.d))
 w:iO H A.w ws
 p:H A.p=some (.lst (ps.map V.int))
 g:H A.g=some (.lst (gs.map V.int))
 r:H A.r=some (.lst (rs.map V.int))
 d:H A.d=some (.lst (A.rows.map V.ref))
 dl:A.rows.length=ds.length
 dr:∀(i:Nat) l,ds[i]?=some l->∃a,A.rows[i]?=some a/\AI H a l
 np:A.p∉A.w::A.d::A.rows
 ng:A.g∉A.w::A.d::A.rows
 nr:A.r∉A.w::A.d::A.rows
 pg:A.p≠A.g
 pr:A.p≠A.r
 gr:A.g≠A.r
theorem SAt.into{C:Addr}{H H':Hp}{s:Addr}{A:SA}{ws:List Way}{ds:List (List (Nat×Int))}{ps gs rs ps' gs' rs':List Int}(h:SAt C H s A ws ds ps gs rs)(k:∀b o,b≠A.p->b≠A.g->b≠A.r->(∀z,o≠.dK z)->H b=some o->H' b=some o)
  (p:H' A.p=some (.lst (ps'.map V.int))) (g:H' A.g=some (.lst (gs'.map V.int))) (r:H' A.r=some (.lst (rs'.map V.int))):SAt C H' s A ws ds ps' gs' rs':=by
 have nl:∀b o,(∀z,o≠.lst z)->(∀z,o≠.dK z)->H b=some o->H' b=some o:=λb o z z' e=>k b o (dI e h.p (z _)) (dI e h.g (z _)) (dI e h.r (z _)) z' e;have mm:∀b xs,b∈A.w::A.d::A.rows->H b=some (.lst xs)->H' b=some (.lst xs):=λb xs z e=>k b _ (λy=>h.np (y▸z)) (λy=>h.ng (y▸z)) (λy=>h.nr (y▸z)) (λy z=>by cases z) e;obtain⟨dx,e⟩:=h.ob;obtain⟨wr,w1,w2,w3⟩:=h.w;refine⟨⟨dx,nl _ _ (λz y=>by cases y) (λz y=>by cases y) e⟩,⟨wr,mm _ _ (by simp) w1,w2,λi w hw=>?_⟩,p,g,r,mm _ _ (by simp) h.d,h.dl,λi l hl=>?_,h.np,h.ng,h.nr,h.pg,h.pr,h.gr⟩
 ·obtain⟨r,q1,q2⟩:=w3 i w hw;exact⟨r,q1,nl _ _ (λz y=>by cases y) (λz y=>by cases y) q2⟩
 ·obtain⟨a,q1,q2⟩:=h.dr i l hl;refine⟨a,q1,q2.keep λb xs=>⟨λz=>?_,nl b _ (λz y=>by cases y) (λz y=>by cases y)⟩⟩;subst z;exact mm _ _ (Zw _ (Zw _ (Zg q1)))
theorem SAt.mono{C:Addr}{H H':Hp}{s:Addr}{A:SA}{ws:List Way}{ds:List (List (Nat×Int))}{ps gs rs:List Int}(h:SAt C H s A ws ds ps gs rs)(k:aZ H H'):SAt C H' s A ws ds ps gs rs :=
 h.into (λb o _ _ _ _ e=>k b o e) (k _ _ h.p) (k _ _ h.g) (k _ _ h.r)
theorem SAt.way{C:Addr}{H:Hp}{s:Addr}{A:SA}{ws:List Way}{ds:List (List (Nat×Int))}{ps gs rs:List Int}(h:SAt C H s A ws ds ps gs rs){k:Nat}{w:Way}(hw:ws[k]?=some w):∃xs r,H A.w=some (.lst xs)/\atI xs (k:Int)=some (.ref r)/\H r=some (.tup (wv w)):=by
 obtain⟨wr,w1,w2,w3⟩:=h.w;obtain⟨r,q1,q2⟩:=w3 k w hw;exact⟨_,r,w1,dX (by rw[Zk,q1];rfl),q2⟩
section
def CU(K:PySem.W.Frag):Sp:=λvs H Q _=>∃(r pa:Addr) (w:Way) (ps:List Int),vs=[.ref r,.ref pa]/\SqT K H r (wv w)/\H pa=some (.lst (ps.map V.int))/\w.a<ps.length/\w.b<ps.length/\Q (.int (NM.rt ps w)) H
theorem C9(T:Txt K mg t):bT P w K mg base CX0 1 t.zX t.zM ["way","prices"] (CU K):=by
 refine T.DN.F.ok RZ (λvs H Q E h=>?_) (λcdv A outer s H vs Q E hr h=>?_)
 ·obtain⟨r,pa,w,ps,rfl,_⟩:=h;rfl
 obtain⟨r,pa,w,ps,rfl,hr1,hp,ha,hb,q⟩:=h;refine⟨_,(aL (bE (aT c8 (aT iI (aN aP (pv 0) aG (λ_ _=>rfl)) (aN aQ (pv 1) (aN aP (pv 0) aG (λ_ _=>rfl)) (λ_ _=>rfl))) (aN aQ (pv 1) (aN aP (pv 0) aG (λ_ _=>rfl)) (λ_ _=>rfl))))),?_⟩;refine(aJ _ rfl r _ _ _ rfl (eZ rfl hr1 rfl _ rfl _ rfl (aM r _ _ _ rfl rfl hr1 (dC rfl pa _ _ _ rfl rfl (pM (SqL.of hp) (dG ha rfl) _ _ rfl rfl ?_)))));exact⟨_,rfl,(aJ _ rfl r _ _ _ rfl ⟨ rfl,(dD hr1 rfl pa _ _ _ rfl (cQ rfl (SqL.of hp) (dG hb rfl) _ _ rfl rfl q))⟩)⟩
structure SOk(n:Nat)(ws:List Way)(ds:List (List (Nat×Int)))(ps gs rs:List Int):Prop where
 pl:ps.length=n
 gl:gs.length=ws.length
 rl:rs.length=n
 w:∀w∈ws,w.a<n/\w.b<n
 d:JD ws n ds
def JT(C:Addr):Sp:=λvs H Q _=>∃(s:Addr) (A:SA) (ws:List Way) (ds:List (List (Nat×Int))) (ps gs rs:List Int) (k:Nat) (by_:Int),vs=[.ref s,vn k,.int by_]/\SAt C H s A ws ds ps gs rs/\k<ws.length/\Q (vn (fr (aF ws) (bF ws) k by_)) H
theorem HY(T:Txt K mg t):bT P w K mg base CX0 1 t.kC t.j8 ["search","number","by"] (JT t.aY):=by
 refine T.mZ.F.ok EZ (λvs H Q E h=>?_) (λcdv A outer s H vs Q E hr h=>?_)
 ·obtain⟨s,A,ws,ds,ps,gs,rs,k,by_,rfl,_⟩:=h;rfl
 obtain⟨s',A',ws,ds,ps,gs,rs,k,by_,rfl,S,hk,q⟩:=h;refine⟨_,(aL (bE (aN aP (aN aQ (fB (pv 0) rfl) (pv 1) (λ_ _=>rfl)) (oH (bH O3 (pv 2) aG (bO _)) aG aG) (λ_ _=>rfl)))),?_⟩;obtain⟨dx,ob⟩:=S.ob;have hw:ws[k]?=some ws[k]:=Zz hk;obtain⟨xs,r,h1,h2,h3⟩:=S.way hw;refine⟨_,(b8 rfl s' _ dx _ _ rfl (bQ ob T.bV T.iQ (DM _ _ _ _ _) _ rfl (aM A'.w _ _ _ rfl rfl (SqL.of h1) (xM h2 _ rfl _ _ rfl rfl ⟨ _,rfl,?_⟩))))⟩;unfold fr at q;rw[qN hw,tL hw]at q;refine kG (λc=>?_) (λc=>?_)
 ·rw[if_pos (of_decide_eq_true c)]at q;exact(aM r _ _ _ rfl rfl (SqT.of h3) ⟨ rfl,q⟩)
 ·rw[if_neg (λz=>c (decide_eq_true z))]at q;exact(aM r _ _ _ rfl rfl (SqT.of h3) ⟨ rfl,q⟩)
def HC(C:Addr):Sp:=λvs H Q _=>∃(s:Addr) (A:SA) (ws:List Way) (ds:List (List (Nat×Int))) (ps gs rs:List Int) (k:Nat) (by_:Int),vs=[.ref s,vn k,.int by_]/\SAt C H s A ws ds ps gs rs/\k<ws.length/\gs.length=ws.length/\Q (vo (rm ws gs k by_)) H
theorem J6(T:Txt K mg t):bT P w K mg base CX0 1 t.D8 t.DQ ["search","number","by"] (HC t.aY):=by
 refine T.IQ.F.ok JX (λvs H Q E h=>?_) (λcdv A outer s H vs Q E hr h=>?_)
 ·obtain⟨s,A,ws,ds,ps,gs,rs,k,by_,rfl,_⟩:=h;rfl
 obtain⟨s',A',ws,ds,ps,gs,rs,k,by_,rfl,S,hk,hl,q⟩:=h;have nd:=JX.nd;refine⟨_,(aC (aW 3 nd (aN aQ (fB (pv 0) rfl) (pv 1) (λ_ _=>rfl)))
  (aC (dH (bH iX (pv 2) aG (bO _)) (aL (bE (aT iI (aN aQ (fB (pv 0) rfl) (pv 1) (λ_ _=>rfl)) (aN aP (pv 3) aG (λ_ _=>rfl))))) bW)
  (aC (dH (bH oK (aN aP (pv 3) aG (λ_ _=>rfl)) fI (bO _)) (aL (bE fI)) bW)
  (aL (bE (aT iI (aN aP (pv 3) aG (λ_ _=>rfl)) (aN aQ (fB (pv 0) rfl) (pv 1) (λ_ _=>rfl)))))))),?_⟩
 obtain⟨dx,ob⟩:=S.ob;have hw:ws[k]?=some ws[k]:=Zz hk;obtain⟨xs,r,h1,h2,h3⟩:=S.way hw;unfold rm at q;rw[uM hw,rM hw]at q;have e2:atI (wv ws[k]) 3=some (vo ws[k].hi):=rfl;refine⟨_,(b8 rfl s' _ dx _ _ rfl (bQ ob T.bV T.iQ (DM _ _ _ _ _) _ rfl (aM A'.w _ _ _ rfl rfl (SqL.of h1) ⟨ h2,?_⟩)))⟩;refine(bP _ rfl _ _ rfl rfl ⟨ _,rfl,kG (λc=>?_) (λc=>?_)⟩)
 ·rw[if_pos (of_decide_eq_true c)]at q;exact⟨_,(b8 rfl s' _ dx _ _ rfl (bQ ob T.bV T.fC (sX _ _ _ _ _) _ rfl (aM A'.g _ _ _ rfl rfl (SqL.of S.g) ⟨ dG (by lia) rfl,(aJ _ rfl r _ _ _ rfl (cQ rfl (SqT.of h3) rfl _ _ rfl rfl q))⟩)))⟩
 ·rw[if_neg (λz=>c (decide_eq_true z))]at q;refine(aJ _ rfl r _ _ _ rfl ⟨ rfl,SqT.of h3,e2,rfl,?_⟩);rcases hh:ws[k].hi with _ | h
  ·rw[hh]at q;exact⟨_,rfl,vZ q⟩
  ·rw[hh]at q e2;exact⟨_,rfl,iY (aJ _ rfl r _ _ _ rfl (cU rfl (SqT.of h3) e2 _ rfl (dA s' _ dx _ _ rfl ob (cU T.bV T.fC (sX _ _ _ _ _) _ rfl (aM A'.g _ _ _ rfl rfl (SqL.of S.g) (UT (dG (by lia) rfl) _ _ rfl rfl q))))))⟩
end
end K29
namespace K29
open PySem L2 PyProof.Rows NM FL
def kl(e:En):List Int:=[e.d,(e.v:Int),(e.k:Int),e.by_]
abbrev ev(e:En):List V:=(kl e).map V.int
abbrev wr(W:List (Addr×En)):List V:=W.map λx=>V.ref x.1
def kvR(R:List (Addr×En)):List (Key×V):=R.map λx=>(Sum.inl (x.2.v:Int),V.ref x.1)
abbrev es(R:List (Addr×En)):List En:=R.map (·.2)
theorem LG{R:List (Addr×En)}{v:Nat}(h:∀x∈R,x.2.v≠v):gZ (kvR R) (Sum.inl (v:Int))=none:=by
 induction R with
 |nil=>rfl
 |cons x R ih =>
  show gZ ((Sum.inl (x.2.v:Int),V.ref x.1)::kvR R) _=none;rw[e8 (λz=>h x (.head _) (by have:=Sum.inl.inj z;lia))];exact ih λy hy=>h y (.tail _ hy)
theorem tU{R:List (Addr×En)}(nd:((es R).map (·.v)).Nodup){x:Addr×En}(hx:x∈R){v:Int}(hv:v=(x.2.v:Int)):gZ (kvR R) (Sum.inl v)=some (.ref x.1):=by
 subst hv;induction R with
 |nil=>cases hx
 |cons y R ih =>
  show gZ ((Sum.inl (y.2.v:Int),V.ref y.1)::kvR R) _=_;have nd:(y.2.v::(es R).map (·.v)).Nodup:=nd;rw[List.nodup_cons]at nd;rcases Zn.mp hx with rfl | hx
  ·exact fJ rfl
  ·rw[e8 (λz=>nd.1 ?_)]
   ·exact ih nd.2 hx
   ·have:y.2.v=x.2.v:=by have:=Sum.inl.inj z;lia
    rw[this];exact Zh.mpr ⟨x.2,Zh.mpr ⟨x,hx,rfl⟩,rfl⟩
theorem NV{R:List (Addr×En)}{v:Nat}(h:(gZ (kvR R) (Sum.inl (v:Int))).isSome=true):∃x∈R,x.2.v=v:=by
 apply ZT;intro z;rw[LG λx hx e=>z ⟨x,hx,e⟩]at h;cases h
theorem FO(R:List (Addr×En)):(kvR R).map (·.1)=((es R).map λe=>(e.v:Int)).map Sum.inl:=by
 unfold kvR;rw[Yh,Yh,Yh];rfl
section
def UF:Sp:=λvs H Q _=>∃(wl ta:Addr) (W:List (Addr×En)) (e:En),vs=[.ref wl,.ref ta]/\H wl=some (.lst (wr W))/\(∀x∈W,H x.1=some (.tup (ev x.2)))/\H ta=some (.tup (ev e))/\Dn (W.map λx=>kl x.2)/\W.length<1000000 /\
 ∀W':List (Addr×En),W'.Perm ((ta,e)::W)->Dn (W'.map λx=>kl x.2)->Q .non (upd H wl (.lst (wr W')))
theorem VR(T:Txt K mg t):bT P w K mg base CX0 1 t.zY t.zN ["waiting","entry"] UF:=by
 refine T.FU.F.ok A7 (λvs H Q E h=>?_) (λcdv A outer s H vs Q E hr h=>?_)
 ·obtain⟨wl,ta,W,e,rfl,_⟩:=h;rfl
 obtain⟨wl,ta,W,e,rfl,hW,hT,hta,dn,hl,q⟩:=h;have nd:=A7.nd;refine⟨_,(aC (aW 2 nd aG)
  (aC (aW 3 nd (a8 aU rfl T.dQ PySem.boot_len (aA (pv 0) aE)))
  (aC (iV PassesOwn.never (bH iX (pv 2) (pv 3) (bO _)) (aC (aW 4 nd (aT eG (aT c8 (pv 2) (pv 3)) aG))
  (aL (dH (bH (VO hr.units0) (aN aQ (pv 0) (pv 4) (λ_ _=>rfl)) (pv 1) (bO _)) (aL (aW 2 nd (aT c8 (pv 4) aG))) (aL (aW 3 nd (pv 4)))))))
  (aL (bX (oI PySem.F.plainAttrs_list PySem.F.slot_list_insert PySem.F.type_list_insert lK (pv 0) (aA (pv 2) (aA (pv 1) aE)))))))),?_⟩
 refine(bP _ rfl wl _ rfl (.inl (SqL.of hW)) ?_);have el:(((wr W).length:Nat):Int)=(W.length:Int):=by rw[Zq]
 show jH 3 (V.int (((wr W).length:Nat):Int)) _ _ _;rw[el];have up0:∀(j:Nat) x,j<0->(W.map λx=>kl x.2)[j]?=some x->SO.lx (kl e) x=true:=λj x z=>absurd z (Nat.not_lt_zero _);have dn0:∀(j:Nat) x,W.length<=j->(W.map λx=>kl x.2)[j]?=some x->SO.lx (kl e) x=false:=λj x z y=>by
  rw[Zr (by rw[Zq];exact z)]at y;cases y
 refine⟨λm σ H'=>H'=H/\∃(f b:Nat) (fi bi:Int) (o:Option V),m=b-f/\fi=f/\bi=b/\f<=b/\b<=W.length/\(∀(j:Nat) x,j<f->(W.map λx=>kl x.2)[j]?=some x->SO.lx (kl e) x=true) /\
  (∀(j:Nat) x,b<=j->(W.map λx=>kl x.2)[j]?=some x->SO.lx (kl e) x=false)/\σ=[some (.ref wl),some (.ref ta),some (.int fi),some (.int bi),o],⟨_,(b8 rfl 0 W.length _ _ none rfl (l9 rfl rfl (Nat.zero_le _) (Nat.le_refl _) up0 dn0 rfl))⟩,?_⟩
 rintro m σ H' ⟨rfl,f,b,fi,bi,o,rfl,rfl,rfl,hfb,hb,hup,hdn,rfl⟩;refine(cL _ rfl _ rfl _ _ rfl ⟨ rfl,_,rfl,kG (λc=>?_) (λc=>?_)⟩)
 ·have c':(f:Int)<(b:Int):=of_decide_eq_true c;refine⟨_,λσ' H'' h=>h,?_⟩;have hm:(f+b) / 2<W.length:=by lia
  have gm:W[(f+b) / 2]?=some W[(f+b) / 2]:=Zz hm;have gk:(W.map λx=>kl x.2)[(f+b) / 2]?=some (kl W[(f+b) / 2].2):=by rw[Zk,gm];rfl
  have ei:((f:Int)+(b:Int)) / 2=(((f+b) / 2:Nat):Int):=by lia
  refine(cL _ rfl _ rfl _ _ rfl (kI rfl _ _ rfl rfl ⟨by decide,by decide⟩ ?_));refine⟨_,rfl,(aJ _ rfl wl _ _ _ rfl (cU rfl (SqL.of hW) (by rw[ei];exact dX (by rw[Zk,gm];rfl)) _ rfl (aM _ ta (kl W[(f+b) / 2].2) (kl e) rfl rfl (SqT.of (hT _ (Zp _))) ⟨ SqT.of hta,_,rfl,?_⟩)))⟩;refine kG (λz=>?_) (λz=>?_)
  ·exact(bP _ rfl _ _ rfl rfl ⟨ b-((f+b) / 2+1),by omega,(b8 rfl ((f+b) / 2+1) b _ _ _ rfl (l9 (by lia) rfl (by lia) hb (S7 dn gk z) hdn rfl))⟩)
  ·exact(dB _ rfl ((f+b) / 2-f) (by lia) rfl (dA f ((f+b) / 2) _ _ _ rfl rfl (nJ ei (by lia) (by lia) hup (S8 dn gk (by simpa using z)) rfl)))
 ·have c':¬(f:Int)<(b:Int):=λz=>c (decide_eq_true z);have e':f=b:=by lia
  subst e';refine(jS _ rfl (.inl ⟨rfl,_,SqL.of hW⟩) _ rfl _ rfl (aM wl (wr W) f (.ref ta) rfl rfl hW ⟨ by rw[Zq];exact hb,by rw[Zq];exact Yt hl (by decide),?_⟩));have q':=q (W.take f++(ta,e)::W.drop f) (by
   have p1:(W.take f++(ta,e)::W.drop f).Perm ((ta,e)::(W.take f++W.drop f)):=List.perm_middle
   rwa [List.take_append_drop]at p1) (by
   rw[Zt,List.map_cons,List.map_take,List.map_drop];exact VF dn (by rw[Zq];exact hb) hup hdn)
  have ew:wr (W.take f++(ta,e)::W.drop f)=bI (wr W) f (.ref ta):=by
   unfold bI wr;rw[Zt,List.map_cons,List.map_take,List.map_drop]
  rw[ew]at q';exact q'
theorem MQ{E:List En}{x:En}(nd:((E++[x]).map (·.v)).Nodup)(D:Int)(v:Nat):lift (E++[x]) D v=if v=x.v then D-x.d else lift E D v:=by
 by_cases z:v=x.v
 ·rw[if_pos z,z,kS nd (by simp)]
 ·rw[if_neg z];unfold lift;rw[List.find?_append];have:[x].find? (λu=>u.v==v)=none:=List.find?_eq_none.mpr λu hu y=>by
   have:u=x:=by simpa using hu
   subst this;exact z (eq_of_beq y).symm
  rw[this,Option.or_none]
def JQ(C:Addr):Sp:=λvs H Q _=>∃(s d:Addr) (A:SA) (ws:List Way) (ds:List (List (Nat×Int))) (ps gs rs:List Int) (R:List (Addr×En)) (x:Addr×En),vs=[.ref s,.ref d,vn x.2.v]/\SAt C H s A ws ds ps gs rs/\H d=some (.dK (kvR R))/\(∀y∈R,H y.1=some (.tup (ev y.2))/\y.2.v<ps.length)/\((es R).map (·.v)).Nodup/\x∈R /\
 ∀(H':Hp) (ps':List Int),(∀b o,b≠A.p->b≠d->H b=some o->H' b=some o)->H' A.p=some (.lst (ps'.map V.int))->Rd H' d (.dK (kvR R))->ps'.length=ps.length->(∀v,at0 ps' v=at0 ps v+lift (es R) x.2.d v)->Q .non H'
theorem O8(T:Txt K mg t):bT P w K mg base CX0 1 t.kA t.j6 ["search","reached","last"] (JQ t.aY):=by
 refine T.oY.F.ok m8 (λvs H Q E h=>?_) (λcdv A outer s H vs Q E hr h=>?_)
 ·obtain⟨s,d,A,ws,ds,ps,gs,rs,R,x,rfl,_⟩:=h;rfl
 obtain⟨s',d,A',ws,ds,ps,gs,rs,R,x,rfl,S,hd,hR,ndp,hx,q⟩:=h;have nd:=m8.nd;have hu:=KH hr;refine⟨_,(aL (cV PassesOwn.never rfl (OX (pv 1)) (eL rfl (aV (aO (i:=3) nd rfl (Or.inl rfl)) (aV (aO (i:=4) nd rfl (Or.inl rfl)) cJ))) (aL (mJ (fB (pv 0) rfl) (pv 3) jX (aT iI (aN aP (wU hu (pv 1) (pv 2) (λ_ _=>rfl)) aG (λ_ _=>rfl)) (aN aP (pv 4) aG (λ_ _=>rfl))) zC set_list)))),?_⟩;refine(bP _ rfl d _ rfl hd (λo=>?_));obtain⟨dx,ob⟩:=S.ob;have npd:A'.p≠d:=dI S.p hd (by intro z;cases z);refine M1 (λi σ H'=>(∀b o,b≠A'.p->b≠d->H b=some o->H' b=some o)/\H' d=some (.frz o (.dK (kvR R)))/\(∃ps':List Int,H' A'.p=some (.lst (ps'.map V.int))/\ps'.length=ps.length/\∀v,at0 ps' v=at0 ps v+lift ((es R).take i) x.2.d v)/\∃o3 o4:Option V,σ=[some (.ref s'),some (.ref d),some (vn x.2.v),o3,o4])
  ⟨λb o' _ h2 h=>by rw[aK h2];exact h,aB,⟨ps,by rw[aK npd];exact S.p,rfl,λv=>by rw[List.take_zero];show _=_+(0:Int);lia⟩,_,_,rfl⟩ (λi σ H' _ h=>h.2.1) ?_ ?_
 ·rintro i p σ H' Tp hp ⟨k1,kd,⟨ps',e1,l1,a1⟩,o3,o4,rfl⟩ hTp;unfold kvR at hp;rw[Zk]at hp;obtain⟨y,hy,rfl⟩:=Xz.mp hp;have my:=Zg hy;have gT:=aI hTp (.tup [kV (Sum.inl (y.2.v:Int)),.ref y.1]);have ny:∀z∈R,z.1≠A'.p/\z.1≠d:=λz hz=>⟨dI (hR z hz).1 S.p (by intro z;cases z),dI (hR z hz).1 hd (by intro z;cases z)⟩
  have tup:∀z∈R,(upd H' Tp (.tup [kV (Sum.inl (y.2.v:Int)),.ref y.1])) z.1=some (.tup (ev z.2)):=λz hz=>gT _ _ (k1 _ _ (ny z hz).1 (ny z hz).2 (hR z hz).1);have ob':=gT _ _ (k1 _ _ (dI ob S.p (by intro z;cases z)) (dI ob hd (by intro z;cases z)) ob);have hv:=(hR y my).2;refine(a9 Tp _ rfl (SqT.of aB) rfl (cF _ _ rfl _ _ rfl rfl ?_));refine⟨_,(b8 rfl s' _ dx _ _ rfl (bQ ob' T.bV T.gL (uP _ _ _ _ _) _ rfl (aM A'.p _ _ _ rfl rfl (SqL.of (gT _ _ e1)) ⟨ (by show 0<=(y.2.v:Int);lia),dG (j:=y.2.v) (by lia) rfl,?_⟩)))⟩;refine(cL _ rfl _ rfl d _ rfl (dC (by have:=rS.r (H:=upd H' Tp (.tup [kV (Sum.inl (y.2.v:Int)),.ref y.1])) (a:=d) (kvs:=kvR R) (k:=Sum.inl (x.2.v:Int)) (.inr ⟨o,gT _ _ kd⟩);rw[tU ndp hx rfl]at this;exact this) x.1 _ _ _ rfl rfl ⟨ SqT.of (tup x hx),rfl,?_⟩));refine(aJ _ rfl y.1 _ _ _ rfl (cQ rfl (SqT.of (tup y my)) rfl _ _ rfl rfl ⟨ _,_,(dD rfl rfl A'.p _ _ y.2.v rfl ⟨ rfl,gT _ _ e1,oV (by rw[Zq];lia) rfl,?_⟩)⟩));have e2:=gT _ _ e1;refine⟨λb o' h1 h2 h=>by rw[aK h1];exact gT _ _ (k1 b o' h1 h2 h),by rw[aK npd.symm];exact gT _ _ kd,⟨ps'.set y.2.v (at0 ps' y.2.v+(x.2.d-y.2.d)),by rw[aB,List.map_set],by rw[List.length_set];exact l1,λv=>?_⟩,_,_,rfl⟩;have ey:(es R)[i]?=some y.2:=by rw[Zk,hy];rfl
  obtain⟨hi,ei⟩:=Zj.mp ey;have tk:(es R).take (i+1)=(es R).take i++[y.2]:=by rw[List.take_succ,ey];rfl
  have ndt:(((es R).take i++[y.2]).map (·.v)).Nodup:=by
   rw[<-tk,List.map_take];exact(List.take_sublist _ _).nodup ndp
  rw[tk,MQ ndt,kU (by lia)];by_cases z:v=y.2.v
  ·subst z;rw[if_pos rfl,if_pos rfl,a1];have:lift ((es R).take i) x.2.d y.2.v=0:=yZ (λu hu e=>by
    rw[Zt,List.nodup_append]at ndt;exact ndt.2.2 u.v (Zh.mpr ⟨u,hu,rfl⟩) y.2.v (by simp) e) _
   lia
  ·rw[if_neg z,if_neg z];exact a1 v
 ·rintro σ H' ⟨k1,kd,⟨ps',e1,l1,a1⟩,o3,o4,rfl⟩;have ek:(kvR R).length=(es R).length:=by unfold kvR;rw[Zq,Zq]
  rw[ek,Yv]at a1;exact q H' ps' k1 e1 (.inr ⟨o,kd⟩) l1 a1
end
end K29
namespace K29
open PySem L2 PyProof.Rows NM FL
theorem zW{xs:List V}{x:V}(h:xs.getLast?=some x):atI xs (-1)=some x:=by
 have hn:xs≠[]:=λz=>by rw[z]at h;cases h
 have hl:0<xs.length:=List.length_pos_iff.mpr hn;rw[List.getLast?_eq_getElem?]at h;unfold atI ixN;rw[if_neg (by lia),if_pos (by lia)];show xs[((-1:Int)+(xs.length:Int)).toNat]?=_;rw[show((-1:Int)+(xs.length:Int)).toNat=xs.length-1 by lia];exact h
theorem KJ(a b:Nat->Nat)(k:Nat){by_:Int}(h:by_=1\/by_ = -1):fr a b k (-by_)=sd a b k by_:=by
 rcases h with rfl | rfl<;>rfl
theorem vC(x:Int)(q:Nat×Int):∀(bs:List (Nat×Int)) (g:Nat->Int) (j:Nat),fS g x (bs++[q]) j=fS g x bs j+if j=q.1 then q.2*x else 0
 |[],g,j=>rfl
 |p::bs,g,j=>vC x q bs _ j
theorem AI.mono{H H':Hp}{a:Addr}{l:List (Nat×Int)}(h:AI H a l)(g:aZ H H'):AI H' a l:=h.keep λb xs=>⟨λ_=>g _ _,g _ _⟩
section
def OB(C:Addr):Sp:=λvs H Q _=>∃(s d:Addr) (A:SA) (ws:List Way) (ds:List (List (Nat×Int))) (ps gs rs:List Int) (R:List (Addr×En)) (x:Addr×En) (i c:Nat) (bs:List (Nat×Int)),vs=[.ref s,.ref d,vn x.2.v]/\SAt C H s A ws ds ps gs rs/\Rd H d (.dK (kvR R))/\(∀y∈R,H y.1=some (.tup (ev y.2)))/\((es R).map (·.v)).Nodup/\R[i]?=some x/\Back (sd (aF ws) (bF ws)) (es R) i bs c /\
 (∀q∈bs,q.1<ws.length/\(q.2=1\/q.2 = -1))/\bs.length<=1000/\∀(l:Addr) (H':Hp),H l=none->aZ H H'->AI H' l bs->Q (.ref l) H'
theorem SL(T:Txt K mg t)(kE:bT P w K mg base CX0 1 t.kC t.j8 ["search","number","by"] (JT t.aY)):bT P w K mg base CX0 2 t.uW t.uR ["search","reached","last"] (OB t.aY):=by
 refine T.BP.F.ok x8 (λvs H Q E h=>?_) (λcdv A outer s H vs Q E hr h=>?_)
 ·obtain⟨s,d,A,ws,ds,ps,gs,rs,R,x,i,c,bs,rfl,_⟩:=h;rfl
 obtain⟨s',d,A',ws,ds,ps,gs,rs,R,x,i,c,bs,rfl,S,hd,hR,ndp,hi,hB,hbs,hbl,q⟩:=h;have nd:=x8.nd;have hu:=KH hr;refine⟨_,(aC (aW 3 nd (cC aE))
  (aC (aW 4 nd (wU hu (pv 1) (pv 2) (λ_ _=>rfl)))
  (aC (iV PassesOwn.never (bH vD (aN aP (pv 4) aG (λ_ _=>rfl)) aG (bO _)) (aC (bX (lB mAp b9 (pv 3) (aA (cH (aA (aN aP (pv 4) aG (λ_ _=>rfl)) (aA (aN aP (pv 4) aG (λ_ _=>rfl)) aE))) aE)))
  (aL (aW 4 nd (wU hu (pv 1) (bK kE hr T.mZ aX (aA (pv 0) (aA (aN aP (pv 4) aG (λ_ _=>rfl)) (aA (sO mC (aN aP (pv 4) aG (λ_ _=>rfl))) aE)))) (λ_ _=>rfl))))))
  (aL (bE (pv 3)))))),?_⟩
 refine⟨(by show 0<=ZW;decide),λl hl=>?_⟩;have g1:=aI hl (.lst []);have rd:∀{H':Hp},aZ H H'->Rd H' d (.dK (kvR R)):=λ{H'} g=>hd.imp (g _ _) λ⟨o,z⟩=>⟨o,g _ _ z⟩
 have dg:∀{H':Hp}{y:Addr×En}{v:Int},aZ H H'->y∈R->v=(y.2.v:Int)->rS H' d (.int v) (some (.ref y.1)):=λ{H' y v} g hy hv=>by
  have:=rS.r (k:=Sum.inl v) (rd g);rw[tU ndp hy hv]at this;exact this
 have mx:=Zg hi;refine(cL _ rfl _ rfl d _ rfl ⟨ dg g1 mx rfl,?_⟩);refine⟨λm σ H'=>∃(j:Nat) (y:Addr×En) (b1 b2:List (Nat×Int)),m=b2.length/\R[j]?=some y/\Back (sd (aF ws) (bF ws)) (es R) j b2 c/\bs=b1++b2/\aZ H H'/\AI H' l b1/\σ=[some (.ref s'),some (.ref d),some (vn x.2.v),some (.ref l),some (.ref y.1)],
  (dA _ i x ([]) bs rfl hi ⟨ hB,rfl,g1,⟨[],aB,rfl,λj q hq=>by simp at hq⟩,rfl⟩),?_⟩
 rintro m σ H' ⟨j,y,b1,b2,rfl,hj,hB',rfl,g2,dr,rfl⟩;have my:=Zg hj;have ey:(es R)[j]?=some y.2:=by rw[Zk,hj];rfl
 have ty:=g2 _ _ (hR y my);refine(aJ _ rfl y.1 _ _ _ rfl (bQ rfl (SqT.of ty) rfl rfl _ rfl ?_));cases hB' with
 |stop g hb =>
  rw[ey]at g;cases g;refine XU (by rw[hb]) ⟨_,rfl,?_⟩;rw[List.append_nil]at q;exact q l H' hl g2 dr
 |@step _ j' _ e u b2' g hb hj' gu uv hB'' =>
  rw[ey]at g;cases g;obtain⟨y',hy',eu⟩:=Xz.mp (show(R[j']?).map (·.2)=some u by rw[<-Zk];exact gu);have my':=Zg hy';obtain⟨hk,h1⟩:=hbs (y.2.k,y.2.by_) (by simp);refine gC (by rw[decide_eq_false (λz=>hb (V.int.inj z))];rfl) ⟨_,λσ' H'' h=>h,?_⟩;obtain⟨rs',d1,d2,d3⟩:=dr;refine(fF _ rfl (.inl ⟨rfl,_,SqL.of d1⟩) _ rfl (aM y.1 _ _ _ rfl rfl (SqT.of ty) ⟨ rfl,(aJ _ rfl y.1 _ _ _ rfl ⟨ rfl,SqT.of ty,rfl,(by show 2<=ZW;decide),λTq hTq=>?_⟩)⟩));have g3:=aI hTq (.tup [vn y.2.k,.int y.2.by_]);have hlen:(rs'.map V.ref).length<ZW:=by
   rw[Zq,d2];rw[Zm,Yq]at hbl;exact Yt (by lia:b1.length<1000) (by decide)
  refine(bN l _ _ rfl rfl (g3 _ _ d1) hlen ?_);have nlT:Tq≠l:=(aH d1 hTq).symm;have g4:aZ H (upd (upd H' Tq (.tup [vn y.2.k,.int y.2.by_])) l (.lst (rs'.map V.ref++[.ref Tq]))):=λb o h=>by rw[aK (aH h hl)];exact g3 _ _ (g2 _ _ h)
  have ntl:∀{r:Addr}{xs:List V},H' r=some (.tup xs)->r≠l:=λh=>dI h d1 (by intro z;cases z);have ty4:=g4 _ _ (hR y my);refine(bJ _ rfl _ rfl _ rfl (aM y.1 _ _ _ rfl rfl (SqT.of ty4) ⟨ rfl,(aJ _ rfl y.1 _ _ _ rfl (cU rfl (SqT.of ty4) rfl _ rfl (bM s' A' ws ds ps gs rs (a9 y.2.k (-y.2.by_) rfl (S.mono g4) hk ?_))))⟩));refine⟨d,_,rfl,dg g4 my' (by rw[KJ _ _ _ h1,<-uv,eu]),?_⟩;refine(aJ b2'.length (by rw[Yq];lia) j' y' (b1++[(y.2.k,y.2.by_)]) b2' rfl (nJ hy' hB'' (by rw[Yd];rfl) g4 ⟨rs'++[Tq],by rw[aB,Zt];rfl,by rw[Zm,Zm,d2];rfl,λi' q' hq'=>?_⟩ rfl));rcases Xq i' b1.length with z | z
  ·rw[Zx z]at hq';obtain⟨r,r1,r2⟩:=d3 i' q' hq';exact⟨r,by rw[Zx (by lia)];exact r1,by rw[aK (ntl r2)];exact g3 _ _ r2⟩
  ·rw[Zy z]at hq';have z0:i' - b1.length=0:=by
    have:=(Zj.mp hq').1;simp at this
    lia
   rw[z0]at hq';cases hq';exact⟨Tq,by rw[Zy (by lia),d2,z0];rfl,by rw[aK nlT];exact aB⟩
def OA(C:Addr):Sp:=λvs H Q _=>∃(s l:Addr) (A:SA) (ws:List Way) (ds:List (List (Nat×Int))) (ps gs rs:List Int) (bs:List (Nat×Int)) (ql:Nat×Int) (last:Nat),vs=[.ref s,.ref l,vn last]/\SAt C H s A ws ds ps gs rs/\AI H l bs/\l≠A.g/\l≠A.r/\bs.getLast?=some ql/\bs.length<=1000 /\
 (∀q∈bs,q.1<ws.length/\(q.2=1\/q.2 = -1))/\gs.length=ws.length/\sd (aF ws) (bF ws) ql.1 ql.2<rs.length/\last<rs.length /\
 ∀(x:Int) (H':Hp) (gs' rs':List Int),x<=at0 rs (sd (aF ws) (bF ws) ql.1 ql.2)->x<=- at0 rs last->(∀q∈bs,∀r,rm ws gs q.1 q.2=some r->x<=r)->(x=at0 rs (sd (aF ws) (bF ws) ql.1 ql.2)\/x = - at0 rs last\/∃q∈bs,rm ws gs q.1 q.2=some x) ->
  (∀b o,b≠A.g->b≠A.r->H b=some o->H' b=some o)->H' A.g=some (.lst (gs'.map V.int))->gs'.length=gs.length->(∀k,at0 gs' k=fS (at0 gs) x bs k)->H' A.r=some (.lst (rs'.map V.int))->rs'.length=rs.length ->
  (∀v,at0 rs' v=at0 rs v-(if sd (aF ws) (bF ws) ql.1 ql.2=v then x else 0)+(if last=v then x else 0))->Q .non H'
theorem SK(T:Txt K mg t)(kE:bT P w K mg base CX0 1 t.kC t.j8 ["search","number","by"] (JT t.aY))(I0:bT P w K mg base CX0 1 t.D8 t.DQ ["search","number","by"] (HC t.aY)):bT P w K mg base CX0 2 t.IX t.IU ["search","path","last"] (OA t.aY):=by
 refine T.QN.F.ok JY (λvs H Q E h=>?_) (λcdv A outer s H vs Q E hr h=>?_)
 ·obtain⟨s,l,A,ws,ds,ps,gs,rs,bs,ql,last,rfl,_⟩:=h;rfl
 obtain⟨s',l,A',ws,ds,ps,gs,rs,bs,ql,last,rfl,S,dr,nlg,nlr,hql,hbl,hbs,hgl,hc,hla,q⟩:=h;have nd:=JY.nd;have nd_most:(["most"]:List Str).Nodup:=by decide
 have nd_number_by_search:(["number","by","search"]:List Str).Nodup:=by decide
 refine⟨_,(aC (aW 3 nd (bK kE hr T.mZ aX (aA (pv 0) (aA (aN aP (aN aQ (pv 1) (sO mC aG) (λ_ _=>rfl)) aG (λ_ _=>rfl)) (aA (sO mC (aN aP (aN aQ (pv 1) (sO mC aG) (λ_ _=>rfl)) aG (λ_ _=>rfl))) aE)))))
  (aC (bU (i:=4) nd rfl (Or.inl rfl)  (N':=["number","by","search"]) (js:=[none,none,some 0]) rfl (cI (pv 1)) (λ_ _ _ _ _=>(pX (K:=K) (n:=2) rfl rfl (aV (aO (i:=0) nd_number_by_search rfl (Or.inl rfl)) (aV (aO (i:=1) nd_number_by_search rfl (Or.inl rfl)) cJ)))) (λ_ _ _ _ _=>dJ) (λ_ _ _ _ _=>(bK I0 hr T.IQ aX (aA (pv 2) (aA (pv 0) (aA (pv 1) aE))))))
  (aC (bU (i:=5) nd rfl (Or.inl rfl)  (N':=["most"]) (js:=[none]) rfl (cI (pv 4)) (λ_ _ _ _ _=>(aO (i:=0) nd_most rfl (Or.inl rfl))) (λ_ _ _ _ _=>(uE (bH J5 (pv 0) fI (bO _)))) (λ_ _ _ _ _=>(pv 0)))
  (aC (aW 6 nd (a8 (M8 rfl) rfl T.T9 boot_min (aA (aT uI (cC (aA (aN aQ (fB (pv 0) rfl) (pv 3) (λ_ _=>rfl)) (aA (sO mC (aN aQ (fB (pv 0) rfl) (pv 2) (λ_ _=>rfl))) aE))) (pv 5)) aE)))
  (aC (cV PassesOwn.never rfl (cI (pv 1)) (eL rfl (aV (aO (i:=7) nd rfl (Or.inl rfl)) (aV (aO (i:=8) nd rfl (Or.inl rfl)) cJ))) (aL (mJ (fB (pv 0) rfl) (pv 7) jX (aT dO (pv 8) (pv 6)) zC set_list)))
  (aC (mJ (fB (pv 0) rfl) (pv 3) jX (pv 6) QA set_list)
  (aL (mJ (fB (pv 0) rfl) (pv 2) jX (pv 6) zC set_list)))))))),?_⟩
 obtain⟨lr,d1,d2,d3⟩:=id dr;obtain⟨dx,ob⟩:=S.ob;have mq:=List.mem_of_getLast? hql;obtain⟨r0,q1,q2⟩:∃r,(lr.map V.ref).getLast?=some (.ref r)/\H r=some (.tup [vn ql.1,.int ql.2]):=by
  rw[List.getLast?_eq_getElem?]at hql;obtain⟨r,e1,e2⟩:=d3 _ _ hql;refine⟨r,?_,e2⟩;rw[List.getLast?_eq_getElem?,Zq,Zk,d2,e1];rfl
 obtain⟨hk0,h10⟩:=hbs ql mq;refine(bJ _ rfl _ rfl _ rfl (aM l _ _ _ rfl rfl (SqL.of d1) (dC (zW q1) r0 _ _ _ rfl rfl (JG (SqT.of q2) rfl _ rfl _ rfl (aM l _ _ _ rfl rfl (SqL.of d1) (dC (zW q1) r0 _ _ _ rfl rfl ⟨ SqT.of q2,rfl,_,rfl,(bM s' A' ws ds ps gs rs (a9 ql.1 (-ql.2) rfl S hk0 ?_))⟩))))));rw[KJ _ _ _ h10];generalize hC:sd (aF ws) (bF ws) ql.1 ql.2=c at hc q;refine(dB _ rfl l rfl ⟨_,SqL.of d1⟩ (λD hD=>?_));have at_:∀{i:Nat},i<bs.length->∃r,(lr.map V.ref)[i]?=some (.ref r)/\H r=some (.tup [vn (bs.getD i (0,0)).1,.int (bs.getD i (0,0)).2])/\bs.getD i (0,0)∈bs:=λ{i} hi=>by
  obtain⟨r,e1,e2⟩:=d3 i bs[i] (Zz hi);have e3:bs.getD i (0,0)=bs[i]:=by simp[List.getD,hi]
  rw[e3];exact⟨r,by rw[Zk,e1];rfl,e2,Zp hi⟩
 refine dP bs.length (λi=>vo (rm ws gs (bs.getD i (0,0)).1 (bs.getD i (0,0)).2)) hD (by lia) (λi H' hi g=>by obtain⟨r,e1,_⟩:=at_ hi;exact⟨_,_,SqL.of (g _ _ d1),e1⟩) (λH' g=>⟨_,SqL.of (g _ _ d1),by rw[Zq];lia⟩) ?_ ?_
 ·rintro i H' x H'' k hi g ⟨rfl,hx⟩ hk;obtain⟨r,e1,e2,e3⟩:=at_ hi;have ex:=hx _ (SqL.of (g _ _ d1));rw[e1]at ex;cases ex;refine(a9 r _ rfl (SqT.of (g _ _ e2)) rfl (cF _ _ rfl _ _ rfl rfl ⟨ ((Fills.refl _).set _ rfl).set _ rfl,?_⟩));exact(bJ _ rfl _ rfl _ rfl (bM s' A' ws ds ps gs rs (fE _ _ rfl (S.mono g) ((hbs _ e3).1) hgl (hk _ (aZ.refl _)))))
 intro H1 g1 eD;obtain⟨rl,hrl⟩:∃rl:List (Option Int),rl=(List.range bs.length).map λi=>rm ws gs (bs.getD i (0,0)).1 (bs.getD i (0,0)).2:=⟨_,rfl⟩
 have erl:(List.range bs.length).map (λi=>vo (rm ws gs (bs.getD i (0,0)).1 (bs.getD i (0,0)).2))=vos rl:=by rw[hrl];unfold vos;rw[Yh];rfl
 rw[erl]at eD;have lrl:rl.length=bs.length:=by rw[hrl];simp
 refine(dB _ rfl D rfl ⟨_,SqL.of eD⟩ (λD2 hD2=>?_));refine m4 rl.length (λi ys H'=>ys=((rl.take i).filterMap id).map V.int/\aZ H1 H'/\H' D2=some (.lst ys)) ⟨rfl,aI hD2 _,aB⟩ ?_ ?_
 ·rintro i ys H' hi ⟨rfl,g2,e2⟩;have tk:(rl.take (i+1)).filterMap id=(rl.take i).filterMap id++([ov rl i]).filterMap id:=by
   rw[List.take_succ,List.filterMap_append];congr 1;unfold ov;simp[List.getD,hi]
  refine⟨⟨_,_,SqL.of (g2 _ _ eD),GK hi⟩,?_⟩;rintro x H'' ⟨rfl,hx⟩;have ex:=hx _ (SqL.of (g2 _ _ eD));rw[GK hi]at ex;cases ex;refine⟨(Fills.refl _).set _ rfl,?_⟩;refine(fF _ rfl rfl _ rfl ?_);have hlen:(((rl.take i).filterMap id).map V.int).length<ZW:=by
   rw[Zq];have:=List.length_filterMap_le id (rl.take i);rw[Yw]at this;exact Yt (by lia:((rl.take i).filterMap id).length<1001) (by decide)
  rcases ho:ov rl i with _ | z
  ·refine iY ⟨?_,g2,e2⟩;rw[tk,ho];simp
  ·refine vZ (rX _ rfl e2 hlen ?_ ?_ aB)
   ·rw[tk,ho];simp;rfl
   ·exact λb o h=>by rw[aK (aH h hD2)];exact g2 _ _ h
 rintro ys H2 ⟨rfl,g2,e2⟩;rw[Yv]at e2;refine⟨⟨_,SqL.of (g2 _ _ eD),by unfold vos;rw[Zq];exact Nat.le_refl _⟩,?_⟩;have g02:=g1.trans g2;have ob2:=g02 _ _ ob;have hr2:=g02 _ _ S.r;refine⟨_,(b8 rfl s' _ dx _ _ rfl (bQ ob2 T.bV T.cN (fV _ _ _ _ _) _ rfl (aM A'.r _ _ _ rfl rfl (SqL.of hr2) ⟨ dG hc rfl,?_⟩)))⟩;refine⟨_,(b8 rfl s' _ dx _ _ rfl (bQ ob2 T.bV T.cN (fV _ _ _ _ _) _ rfl (aM A'.r _ _ _ rfl rfl (SqL.of hr2) ⟨ dG hla rfl,_,rfl,(by show 2<=ZW;decide),λl2 hl2=>?_⟩)))⟩;have g3:=aI hl2 (.lst [.int (at0 rs c),.int (-at0 rs last)]);have lb:(rl.filterMap id).length<=1000:=by
  have:=List.length_filterMap_le id rl
  lia
 refine(aJ _ rfl l2 D2 _ _ rfl ⟨ rfl,aB,g3 _ _ e2,?_,λl3 hl3=>?_⟩)
 ·rw[Zq];exact Yr (show 2+(rl.filterMap id).length<=1002 by lia) (by decide)
 have g4:=aI hl3 (.lst ([.int (at0 rs c),.int (-at0 rs last)]++(rl.filterMap id).map V.int));refine(a9 l3 (at0 rs c::-at0 rs last::rl.filterMap id) rfl (SqL.of aB) (by simp) (λx hx hle=>?_));have g04:=g02.trans (g3.trans g4);have mrl:∀r,some r∈rl↔∃q∈bs,rm ws gs q.1 q.2=some r:=λr=>by
  rw[hrl,Zh];constructor
  ·rintro⟨i,hi,e⟩;obtain⟨_,_,_,e3⟩:=at_ (Zs.mp hi);exact⟨_,e3,e⟩
  ·rintro⟨q',hq',e⟩;obtain⟨i,hi,rfl⟩:=Yy.mp hq';exact⟨i,Zs.mpr hi,by rw[<-e];simp[List.getD,hi]⟩
 have mfm:∀r,r∈rl.filterMap id↔∃q∈bs,rm ws gs q.1 q.2=some r:=λr=>by
  rw[<-mrl,List.mem_filterMap];constructor
  ·rintro⟨o,h1,h2⟩;exact h2▸h1
  ·intro h;exact⟨_,h,rfl⟩
 have x1:x<=at0 rs c:=hle _ (by simp);have x2:x<=- at0 rs last:=hle _ (by simp);have x3:∀q∈bs,∀r,rm ws gs q.1 q.2=some r->x<=r:=λq' hq' r e=>hle _ (by simp only[Zn];exact .inr (.inr ((mfm r).mpr ⟨q',hq',e⟩)));have x4:x=at0 rs c\/x = - at0 rs last\/∃q∈bs,rm ws gs q.1 q.2=some x:=by
  simp only[Zn]at hx;exact hx.imp id λz=>z.imp id λz=>(mfm x).mp z
 generalize upd (upd H2 l2 (.lst [.int (at0 rs c),.int (-at0 rs last)])) l3 (.lst ([.int (at0 rs c),.int (-at0 rs last)]++(rl.filterMap id).map V.int))=H4 at g04;refine(dB _ rfl l rfl ⟨_,SqL.of (g04 _ _ d1)⟩ (jA (xs:=lr.map V.ref) (λi σ H'=>(∀b o,b≠A'.g->H b=some o->H' b=some o)/\(∃gs':List Int,H' A'.g=some (.lst (gs'.map V.int))/\gs'.length=gs.length/\∀k,at0 gs' k=fS (at0 gs) x (bs.take i) k) /\
  ∃o7 o8:Option V,σ=[some (.ref s'),some (.ref l),some (vn last),some (vn c),some (.ref D),some (.ref D2),some (.int x),o7,o8]) ⟨λb o _ h=>g04 _ _ h,⟨gs,g04 _ _ S.g,rfl,λk=>rfl⟩,_,_,rfl⟩ (λi σ H' _ h=>SqL.of (h.1 _ _ nlg d1)) ?_ ?_))
 ·rintro i y σ H' hy ⟨k1,⟨gs',e1,l1,a1⟩,o7,o8,rfl⟩;have hi:i<bs.length:=by
   have:=(Zj.mp hy).1;rw[Zq,d2]at this;exact this
  obtain⟨r,f1,f2,f3⟩:=at_ hi;rw[f1]at hy;cases hy;have f4:=k1 _ _ (dI f2 S.g (by intro z;cases z)) f2;obtain⟨b1,b2⟩:=hbs _ f3;have ob':=k1 _ _ (dI ob S.g (by intro z;cases z)) ob;refine(a9 r _ rfl (SqT.of f4) rfl (cF _ _ rfl _ _ rfl rfl ?_));refine⟨_,(b8 rfl s' _ dx _ _ rfl (bQ ob' T.bV T.fC (sX _ _ _ _ _) _ rfl (aM A'.g _ _ _ rfl rfl (SqL.of e1) ⟨ (by show 0<=((bs.getD i (0,0)).1:Int);lia),dG (j:=(bs.getD i (0,0)).1) (by lia) rfl,?_⟩)))⟩;refine(cL _ rfl _ rfl _ _ rfl (pM rfl (.inl (by rcases b2 with z | z<;>rw[z]<;>exact⟨by decide,by decide⟩)) _ _ rfl rfl (aM A'.g _ _ ((bs.getD i (0,0)).1) rfl rfl e1 ⟨ oV (by rw[Zq];lia) rfl,?_⟩)));refine⟨λb o h1 h=>by rw[aK h1];exact k1 b o h1 h,⟨gs'.set (bs.getD i (0,0)).1 (at0 gs' (bs.getD i (0,0)).1+(bs.getD i (0,0)).2*x),by rw[aB,List.map_set],by rw[List.length_set];exact l1,λk=>?_⟩,_,_,rfl⟩;have tk:bs.take (i+1)=bs.take i++[bs.getD i (0,0)]:=by
   rw[List.take_succ];congr 1;simp[List.getD,hi]
  rw[tk,vC,kU (by lia)];by_cases z:k=(bs.getD i (0,0)).1
  ·rw[if_pos z,if_pos z,<-z,a1]
  ·rw[if_neg z,if_neg z,a1];lia
 rintro σ H5 ⟨k1,⟨gs',e5,l5,a5⟩,o7,o8,rfl⟩;rw[Zq,d2,Yv]at a5;have ob5:=k1 _ _ (dI ob S.g (by intro z;cases z)) ob;have r5:=k1 _ _ S.gr.symm S.r;refine⟨_,(b8 rfl s' _ dx _ _ rfl (bQ ob5 T.bV T.cN (fV _ _ _ _ _) _ rfl (aM A'.r _ _ _ rfl rfl (SqL.of r5) (nI (by show 0<=(c:Int);lia) (dG (j:=c) hc rfl) _ rfl _ _ rfl (dC rfl A'.r _ _ c rfl rfl ⟨ r5,oV (by rw[Zq];lia) rfl,?_⟩)))))⟩;rw[show(rs.map V.int).set c (V.int (at0 rs c-x))=(rs.set c (at0 rs c-x)).map V.int by rw[List.map_set]];have ob6:(upd H5 A'.r (.lst ((rs.set c (at0 rs c-x)).map V.int))) s'=_:=(aK (dI ob5 r5 (by intro z;cases z))).trans ob5;refine⟨_,(b8 rfl s' _ dx _ _ rfl (bQ ob6 T.bV T.cN (fV _ _ _ _ _) _ rfl (aM A'.r _ _ _ rfl rfl (SqL.of aB) (nI (by show 0<=(last:Int);lia) (dG (j:=last) (by rw[List.length_set];exact hla) rfl) _ rfl _ _ rfl (dC rfl A'.r _ _ last rfl rfl ⟨ aB,oV (by rw[Zq,List.length_set];lia) rfl,?_⟩)))))⟩;refine q x _ gs' (step rs ⟨c,last,0,none,0⟩ x) x1 x2 x3 x4 (λb o h1 h2 h=>by rw[aK h2,aK h2];exact k1 b o h1 h) ?_ l5 a5 ?_ (r8 _ _ _) λv=>GL (w:=⟨c,last,0,none,0⟩) hc hla v
 ·rw[aK S.gr,aK S.gr];exact e5
 ·rw[aB];unfold NM.step;simp only[List.map_set]
end
end K29
namespace K29
open PySem L2 PyProof.Rows NM FL
structure LS(H0 H:Hp)(wl na rd:Addr)(W R:List (Addr×En))(nr:Nat->Option Int)(c:Nat):Prop where
 g:aZ H0 H
 w:H wl=some (.lst (wr W))
 wt:∀x∈W,H x.1=some (.tup (ev x.2))
 dn:Dn (W.map λx=>kl x.2)
 r:H rd=some (.dK (kvR R))
 rt:∀x∈R,H x.1=some (.tup (ev x.2))
 q:∃kvs,H na=some (.dK kvs)/\(∀v:Nat,gZ kvs (Sum.inl (v:Int))=(nr v).map V.int)/\kvs.length<=c
 wb:W.length<=64+c
 nwl:H0 wl=none
 nna:H0 na=none
 nrd:H0 rd=none
 ne:na≠rd
section
variable{H0 H H':Hp}{wl na rd:Addr}{W R:List (Addr×En)}{nr:Nat->Option Int}{c:Nat}
theorem LS.mono(h:LS H0 H wl na rd W R nr c)(k:aZ H H'):LS H0 H' wl na rd W R nr c:=by
 obtain⟨kvs,q1,q2⟩:=h.q;exact⟨h.g.trans k,k _ _ h.w,λx hx=>k _ _ (h.wt x hx),h.dn,k _ _ h.r,λx hx=>k _ _ (h.rt x hx),⟨kvs,k _ _ q1,q2⟩,h.wb,h.nwl,h.nna,h.nrd,h.ne⟩
theorem LS.more(h:LS H0 H wl na rd W R nr c){c':Nat}(k:c<=c'):LS H0 H wl na rd W R nr c':=by
 obtain⟨kvs,q1,q2,q3⟩:=h.q;have:=h.wb;exact⟨h.g,h.w,h.wt,h.dn,h.r,h.rt,⟨kvs,q1,q2,by lia⟩,by lia,h.nwl,h.nna,h.nrd,h.ne⟩
theorem LS.setw(h:LS H0 H wl na rd W R nr c){W':List (Addr×En)}(wt:∀x∈W',H x.1=some (.tup (ev x.2)))(dn:Dn (W'.map λx=>kl x.2))(wb:W'.length<=64+c):LS H0 (upd H wl (.lst (wr W'))) wl na rd W' R nr c:=by
 obtain⟨kvs,q1,q2⟩:=h.q;have k:∀b o,(∀z,o≠.lst z)->H b=some o->upd H wl (.lst (wr W')) b=some o:=λb o z e=>by rw[aK (dI e h.w (λy=>z _ y))];exact e
 exact⟨λb o e=>by rw[aK (aH e h.nwl)];exact h.g _ _ e,aB,λx hx=>k _ _ (λz y=>by cases y) (wt x hx),dn,k _ _ (λz y=>by cases y) h.r,λx hx=>k _ _ (λz y=>by cases y) (h.rt x hx),⟨kvs,k _ _ (λz y=>by cases y) q1,q2⟩,wb,h.nwl,h.nna,h.nrd,h.ne⟩
theorem LS.setr(h:LS H0 H wl na rd W R nr c){x:Addr×En}(hx:H x.1=some (.tup (ev x.2))):LS H0 (upd H rd (.dK (kvR (R++[x])))) wl na rd W (R++[x]) nr c:=by
 obtain⟨kvs,q1,q2⟩:=h.q;have k:∀b o,(∀z,o≠.dK z)->H b=some o->upd H rd (.dK (kvR (R++[x]))) b=some o:=λb o z e=>by rw[aK (dI e h.r (λy=>z _ y))];exact e
 exact⟨λb o e=>by rw[aK (aH e h.nrd)];exact h.g _ _ e,k _ _ (λz y=>by cases y) h.w,λx hx=>k _ _ (λz y=>by cases y) (h.wt x hx),h.dn,aB,λy hy=>k _ _ (λz y=>by cases y) ((Zf.mp hy).elim (h.rt y) λz=>by
  have:y=x:=by simpa using z
  rw[this];exact hx),⟨kvs,by rw[aK h.ne];exact q1,q2⟩,h.wb,h.nwl,h.nna,h.nrd,h.ne⟩
theorem LS.setq(h:LS H0 H wl na rd W R nr c){kvs:List (Key×V)}(e:H na=some (.dK kvs))(f:Nat)(x:Int):LS H0 (upd H na (.dK (putK kvs (Sum.inl (f:Int)) (.int x)))) wl na rd W R (λv=>if v=f then some x else nr v) (c+1):=by
 obtain⟨kvs',q1,q2,q3⟩:=h.q;rw[e]at q1;cases q1;have k:∀b o,(∀z,o≠.dK z)->H b=some o->upd H na (.dK (putK kvs (Sum.inl (f:Int)) (.int x))) b=some o:=λb o z e'=>by rw[aK (dI e' e (λy=>z _ y))];exact e'
 have:=h.wb;refine⟨λb o e'=>by rw[aK (aH e' h.nna)];exact h.g _ _ e',k _ _ (λz y=>by cases y) h.w,λx hx=>k _ _ (λz y=>by cases y) (h.wt x hx),h.dn,by rw[aK h.ne.symm];exact h.r,λx hx=>k _ _ (λz y=>by cases y) (h.rt x hx),⟨_,aB,λv=>?_,Yr (oR _ _ _) (by lia)⟩,by lia,h.nwl,h.nna,h.nrd,h.ne⟩;rw[NU];by_cases z:v=f
 ·subst z;rw[if_pos rfl,if_pos rfl];rfl
 ·rw[if_neg (λy=>z (by have:=Sum.inl.inj y;lia)),if_neg z];exact q2 v
end
def IT(B:List (Addr×En))(a:Addr):En:=match B.find? λx=>x.1==a with
 |some x=>x.2
 |none=>⟨0,0,0,0⟩
theorem KR{B:List (Addr×En)}{a:Addr}(h:a∈B.map (·.1)):(a,IT B a)∈B:=by
 unfold IT;cases e:B.find? (λx=>x.1==a) with
 |none =>
  obtain⟨x,hx,rfl⟩:=Zh.mp h;exact absurd (by simp) (List.find?_eq_none.mp e x hx)
 |some x =>
  have h1:=List.find?_some e;have h2:=List.mem_of_find?_eq_some e;have h3:x.1=a:=eq_of_beq h1;subst h3;exact h2
theorem V9{e u:En}(h:ev e=ev u):kl e=kl u:=by
 have:∀(a b:List Int),a.map V.int=b.map V.int->a=b:=by
  intro a;induction a with
  |nil=>intro b h;cases b with
   |nil=>rfl
   |cons _ _=>cases h
  |cons x a ih=>intro b h;cases b with
   |nil=>cases h
   |cons y b =>
    rw[List.map_cons,List.map_cons]at h;obtain⟨h1,h2⟩:=List.cons.inj h;rw[V.int.inj h1,ih b h2]
 exact this _ _ h
section
def JP(C:Addr):Sp:=λvs H Q _=>∃(s:Addr) (A:SA) (ws:List Way) (ds:List (List (Nat×Int))) (ps gs rs:List Int) (n:Nat),vs=[.ref s]/\SAt C H s A ws ds ps gs rs/\SOk n ws ds ps gs rs/\n<64/\ws.length<=1000/\iC ws.length (aF ws) (bF ws) (loF ws) (hiF ws) (coF ws) (at0 gs) (at0 ps) /\
 ∀(d:Addr) (H':Hp) (R:List (Addr×En)),H d=none->aZ H H'->H' d=some (.dK (kvR R))->(∀y∈R,H' y.1=some (.tup (ev y.2)))->Out (at0 rs) (sd (aF ws) (bF ws)) (fr (aF ws) (bF ws)) (ln (aF ws) (bF ws) (coF ws) (at0 ps)) (opn ws.length (loF ws) (hiF ws) (at0 gs)) n (es R)->Q (.ref d) H'
theorem O7(T:Txt K mg t)(AE:bT P w K mg base CX0 1 t.zX t.zM ["way","prices"] (CU K))(kE:bT P w K mg base CX0 1 t.kC t.j8 ["search","number","by"] (JT t.aY))(I0:bT P w K mg base CX0 1 t.D8 t.DQ ["search","number","by"] (HC t.aY))
  (Q9:bT P w K mg base CX0 1 t.zY t.zN ["waiting","entry"] UF):bT P w K mg base CX0 2 t.EA t.DS ["search"] (JP t.aY):=by
 refine T.KP.F.ok EU (λvs H Q E h=>?_) (λcdv A outer s H vs Q E hr h=>?_)
 ·obtain⟨s,A,ws,ds,ps,gs,rs,n,rfl,_⟩:=h;rfl
 obtain⟨s',A',ws,ds,ps,gs,rs,n,rfl,S,O,hn,hm,sr,q⟩:=h;have nd:=EU.nd;have hu:=KH hr;have nd_knot_rest:(["knot","rest"]:List Str).Nodup:=by decide
 refine⟨_,(aC (bU (i:=1) nd rfl (Or.inl rfl)  (N':=["knot","rest"]) (js:=[none,none]) rfl (fH rfl T.cK (aA (fB (pv 0) rfl) aE)) (λ_ _ _ _ _=>(pX (K:=K) (n:=2) rfl rfl (aV (aO (i:=0) nd_knot_rest rfl (Or.inl rfl)) (aV (aO (i:=1) nd_knot_rest rfl (Or.inl rfl)) cJ)))) (λ_ _ _ _ _=>(uE (bH O3 (pv 1) aG (bO _)))) (λ_ _ _ _ _=>(cH (aA aG (aA (pv 0) (aA aG (aA aG aE)))))))
  (aC (aW 2 nd (MC AU rfl T.xF boot_sorted (aA (pv 1) aE) (SE sP VI)))
  (aC (aW 3 nd yV)
  (aC (aW 4 nd yV)
  (aC (iV PassesOwn.never (fA (pv 2) (λ_=>rfl)) (aC (aW 5 nd (OZ PySem.F.plainAttrs_list PySem.F.slot_list_pop PySem.F.type_list_pop PV (pv 2)))
  (aC (aW 6 nd (aN aP (pv 5) aG (λ_ _=>rfl)))
  (aL (dH (VG (BJ hu (pv 6) (pv 4))) (aC (C7 hu (pv 4) (pv 6) (pv 5) rfl)
  (aC (dH (bH iX (aN aQ (fB (pv 0) rfl) (pv 6) (λ_ _=>rfl)) aG (bO _)) (aL (bE (pv 4))) bW)
  (aL (cV PassesOwn.never rfl (cI (aN aQ (fB (pv 0) rfl) (pv 6) (λ_ _=>rfl))) (eL rfl (aV (aO (i:=7) nd rfl (Or.inl rfl)) (aV (aO (i:=8) nd rfl (Or.inl rfl)) cJ))) (aC (aW 9 nd (aT c8 (aN aP (pv 5) aG (λ_ _=>rfl)) (aT dO (pv 8) (bK AE hr T.DN aX (aA (aN aQ (fB (pv 0) rfl) (pv 7) (λ_ _=>rfl)) (aA (fB (pv 0) rfl) aE))))))
  (aC (aW 10 nd (bK kE hr T.mZ aX (aA (pv 0) (aA (pv 7) (aA (pv 8) aE)))))
  (aC (aW 11 nd (XM (VM (BJ hu (pv 10) (pv 3))) (HS (kQ iX (pv 9) (wU hu (pv 3) (pv 10) (λ_ _=>rfl)) (bO _)))))
  (aL (dH (PW.pt (rB (fA (pv 11) (λ_=>rfl)) (pQ (bH vD (bK I0 hr T.IQ aX (aA (pv 0) (aA (pv 7) (aA (pv 8) aE)))) aG (bO _))))) (aC (C7 hu (pv 3) (pv 10) (pv 9) rfl)
  (aL (bX (bK Q9 hr T.FU aX (aA (pv 2) (aA (cH (aA (pv 9) (aA (pv 10) (aA (pv 7) (aA (pv 8) aE))))) aE)))))) bW))))))))) bW)))))
  (aL (bE (pv 4)))))))),?_⟩
 obtain⟨dx,ob⟩:=S.ob;have hrl:=O.rl;refine⟨_,(b8 rfl s' _ dx _ _ rfl (EH ob T.bV T.cN (fV _ _ _ _ _) A'.r rfl ⟨_,SqL.of S.r⟩ (λD hD=>?_)))⟩;refine m4 n (λi ys H'=>∃B:List (Addr×En),ys=wr B/\(∀x∈B,H' x.1=some (.tup (ev x.2))/\CJ (at0 rs) x.2/\x.2.v<n)/\(∀v,v<i->0<at0 rs v->∃x∈B,x.2.v=v)/\aZ H H'/\H' D=some (.lst ys)/\B.length<=i)
  (rX ([]) rfl (λx hx=>(by cases hx)) (λv hv=>absurd hv (Nat.not_lt_zero _)) (aI hD _) aB (Nat.le_refl _)) ?_ ?_
 ·rintro i ys H' hi ⟨B,rfl,hB,hv,g1,eD,bl⟩;refine⟨⟨_,_,SqL.of (g1 _ _ S.r),gE (by lia)⟩,?_⟩;rintro x H'' ⟨Tp,x',rfl,hTp,rfl,hx⟩;have ex:=hx _ (SqL.of (g1 _ _ S.r));rw[gE (by lia)]at ex;cases ex;have g2:=aI hTp (.tup [.int (i:Int),.int (at0 rs i)]);refine(a9 Tp _ rfl (SqT.of aB) rfl (cF _ _ rfl _ _ rfl rfl ⟨ ((Fills.refl _).set _ rfl).set _ rfl,?_⟩));refine(bP _ rfl _ _ rfl rfl ⟨ _,rfl,kG (λc=>?_) (λc=>?_)⟩)
  ·have c':0<at0 rs i:=of_decide_eq_true c;refine⟨_,rfl,(by show 4<=ZW;decide),λT2 hT2=>?_⟩;have g3:=g2.trans (aI hT2 (.tup [.int 0,.int (i:Int),.int 0,.int 0]));refine(EG (g3 _ _ eD) (by rw[Zq];exact Ys bl (Yt (by lia:i<64) (by decide))) (B++[(T2,⟨0,i,0,0⟩)]) (by unfold wr;rw[Zt];rfl) (λx hx=>?_) (λv hv' hp=>?_) (λb o h=>by rw[aK (aH h hD)];exact g3 _ _ (g1 _ _ h)) ⟨ aB,by rw[Zm];exact Nat.succ_le_succ bl⟩)
   ·rcases Zf.mp hx with hx | hx
    ·obtain⟨h1,h2⟩:=hB x hx;exact⟨by rw[aK (dI (g3 _ _ h1) (g3 _ _ eD) (by intro z;cases z))];exact g3 _ _ h1,h2⟩
    ·have:x=(T2,⟨0,i,0,0⟩):=by simpa using hx
     subst this;refine⟨?_,⟨rfl,rfl,c'⟩,hi⟩;rw[aK (aH (g2 _ _ eD) hT2).symm];exact aB
   ·by_cases z:v=i
    ·subst z;exact⟨_,List.mem_append_right _ (.head _),rfl⟩
    ·obtain⟨x,h1,h2⟩:=hv v (by lia) hp;exact⟨x,List.mem_append_left _ h1,h2⟩
  ·have c':¬0<at0 rs i:=λz=>c (decide_eq_true z);refine(rX B rfl (λx hx=>⟨g2 _ _ (hB x hx).1,(hB x hx).2⟩) (λv hv' hp=>?_) (g1.trans g2) (g2 _ _ eD) (by lia));by_cases z:v=i
   ·subst z;exact absurd hp c'
   ·exact hv v (by lia) hp
 rintro ys H1 ⟨B,rfl,hB,hv,g1,eD,bl⟩;refine⟨⟨_,SqL.of (g1 _ _ S.r),by rw[Zq];lia⟩,?_⟩;refine(dS _ rfl D (B.map (·.1)) (λa=>kl (IT B a)) rfl rfl ⟨ (by unfold wr at eD;rw[Yh];exact SqL.of eD),λa ha=>⟨by unfold kl;simp,SqT.of (hB _ (KR ha)).1⟩,by rw[Zq];lia,λwl ps' hwl hp hs=>?_⟩);have inB:∀a∈ps',(a,IT B a)∈B:=λa ha=>KR (hp.mem_iff.mp ha);intro na hna rd hrd;obtain⟨W0,hW0⟩:∃W0:List (Addr×En),W0=ps'.map λa=>(a,IT B a):=⟨_,rfl⟩
 have ew:ps'.map V.ref=wr W0:=by rw[hW0];unfold wr;rw[Yh];rfl
 have mW:∀x∈W0,x∈B:=λx hx=>by
  rw[hW0]at hx;obtain⟨a,ha,rfl⟩:=Zh.mp hx;exact inB a ha
 have h1wl:H wl=none:=g1.free hwl;have k1:=aI hwl (.lst (ps'.map V.ref));have k2:=aI hna (.dK []);have k3:=aI hrd (.dK []);have gg:=g1.trans (k1.trans (k2.trans k3));have nne:na≠rd:=λz=>by rw[z,aB]at hrd;cases hrd
 have ls:LS H (upd (upd (upd H1 wl (.lst (ps'.map V.ref))) na (.dK [])) rd (.dK [])) wl na rd W0 [] (λ_=>none) 0:=by
  refine⟨gg,?_,λx hx=>(k1.trans (k2.trans k3)) _ _ (hB x (mW x hx)).1,?_,aB,λx hx=>(by cases hx),⟨[],k3 _ _ aB,λv=>rfl,Nat.le_refl _⟩,?_,h1wl,(g1.trans k1).free hna,(g1.trans (k1.trans k2)).free hrd,nne⟩
  ·rw[<-ew];exact(k2.trans k3) _ _ aB
  ·unfold Dn;rw[hW0,Yh,List.pairwise_map];exact hs
  ·rw[hW0,Zq,hp.length_eq,Zq];lia
 have rch0:Rch (at0 rs) (sd (aF ws) (bF ws)) (fr (aF ws) (bF ws)) (ln (aF ws) (bF ws) (coF ws) (at0 ps)) (opn ws.length (loF ws) (hiF ws) (at0 gs)) n (λ_ _=>False) (es []) (es W0) (λ_=>none):=by
  refine Rch.start (λe he=>?_) (λv hv' hp'=>?_)
  ·obtain⟨x,hx,rfl⟩:=Zh.mp he;exact(hB x (mW x hx)).2
  ·obtain⟨x,h1,h2⟩:=hv v hv' hp';have mx:x.1∈ps':=hp.mem_iff.mpr (Zh.mpr ⟨x,h1,rfl⟩);refine⟨IT B x.1,Zh.mpr ⟨(x.1,IT B x.1),by rw[hW0];exact Zh.mpr ⟨_,mx,rfl⟩,rfl⟩,?_⟩;have t1:=(hB _ (inB x.1 mx)).1;rw[(hB x h1).1]at t1;have t2:=V9 (HO.tup.inj (Option.some.inj t1));unfold kl at t2;simp only[List.cons.injEq]at t2;have:=t2.2.1
   lia
 clear hv hB bl eD inB mW hp hs ew;generalize upd (upd (upd H1 wl (.lst (ps'.map V.ref))) na (.dK [])) rd (.dK [])=H2 at ls;clear k3 hrd k2 hna k1 hwl gg;refine⟨λm σ H'=>∃(W R:List (Addr×En)) (nr:Nat->Option Int),m=(n-R.length)*(2*ws.length+1)+W.length/\LS H H' wl na rd W R nr (R.length*(2*ws.length)) /\
  Rch (at0 rs) (sd (aF ws) (bF ws)) (fr (aF ws) (bF ws)) (ln (aF ws) (bF ws) (coF ws) (at0 ps)) (opn ws.length (loF ws) (hiF ws) (at0 gs)) n (λk b=>∃u∈R,∃l,ds[u.2.v]?=some l/\(k,b)∈l) (es R) (es W) nr/\(∀u∈R,0<=at0 rs u.2.v) /\
  ∃o5 o6 o7 o8 o9 o10 o11:Option V,σ=[some (.ref s'),some (.ref D),some (.ref wl),some (.ref na),some (.ref rd),o5,o6,o7,o8,o9,o10,o11],
  (aM _ W0 ([]) _ rfl (by show LS _ _ _ _ _ _ _ _ (0*_);rw[Nat.zero_mul];exact ls) (rch0.pass (k:=0) (by_:=0) (λz=>absurd z.2 (by rintro(⟨z,_⟩ | ⟨z,_⟩)<;>cases z)) (λk b z=>by obtain⟨u,hu',_⟩:=z;cases hu')) ⟨ λu hu'=>(by cases hu'),(bM _ _ _ _ _ _ _ rfl)⟩),?_⟩
 clear ls rch0 hW0;rintro m σ H' ⟨W,R,nr,rfl,L,rc,nn,o5,o6,o7,o8,o9,o10,o11,rfl⟩;have all:∀k b,opn ws.length (loF ws) (hiF ws) (at0 gs) k b->(∃u∈es R,u.v=sd (aF ws) (bF ws) k b)->∃u∈R,∃l,ds[u.2.v]?=some l/\(k,b)∈l:=λk b o z=>by
  obtain⟨u,hu',uv⟩:=z;obtain⟨x,hx,rfl⟩:=Zh.mp hu';have hvn:x.2.v<ds.length:=by rw[O.d.len];exact rc.lt _ (List.mem_append_left _ hu')
  refine⟨x,hx,ds[x.2.v],Zz hvn,O.d.has o.1 (jL o) ?_⟩;rw[<-uv];exact Zz hvn
 refine⟨_,rfl,_,.inl ⟨_,SqL.of L.w,rfl⟩,?_⟩;rcases List.eq_nil_or_concat W with hW | ⟨W',x,hW⟩
 ·
  subst hW;refine iY ⟨_,rfl,q rd H' R L.nrd L.g L.r L.rt (.inr ⟨nr,_,rc,all,λu hu'=>?_⟩)⟩;obtain⟨y,hy,rfl⟩:=Zh.mp hu';exact nn y hy
 rw[List.concat_eq_append]at hW;subst hW;refine gC (by unfold wr;simp) ⟨_,λσ' H'' h=>h,?_⟩;have hlast:(wr (W'++[x]))[(wr (W'++[x])).length-1]?=some (.ref x.1):=by unfold wr;simp
 have hdrop:(wr (W'++[x])).dropLast=wr W':=by unfold wr;simp
 have mx:x∈W'++[x]:=by simp
 refine(lF _ rfl (.inl ⟨rfl,_,SqL.of L.w⟩) wl _ _ rfl ⟨ rfl,L.w,hlast,?_⟩);rw[hdrop];have hwb:=L.wb;rw[Zm,ZQ]at hwb;have dn':Dn (W'.map λx=>kl x.2):=by
  have:=L.dn;unfold Dn at this;rw[Zt]at this;exact(List.pairwise_append.mp this).1
 have L1:=L.setw (W':=W') (λy hy=>L.wt y (List.mem_append_left _ hy)) dn' (by lia);have tx:(upd H' wl (.lst (wr W'))) x.1=some (.tup (ev x.2)):=by rw[aK (dI (L.wt x mx) L.w (by intro z;cases z))];exact L.wt x mx
 generalize upd H' wl (.lst (wr W'))=H3 at L1 tx;have pW:(es (W'++[x])).Perm (x.2::es W'):=by
  unfold es;rw[Zt];exact List.perm_append_comm
 have hvn:x.2.v<n:=rc.lt _ (List.mem_append_right _ (Zh.mpr ⟨x,mx,rfl⟩));refine(aJ _ rfl x.1 _ _ _ rfl ⟨ rfl,SqT.of tx,rfl,?_⟩);refine(cL _ rfl _ rfl rd _ rfl ⟨ rS.k (k:=Sum.inl (x.2.v:Int)) L1.r,_,rfl,?_⟩);cases hin:(gZ (kvR R) (Sum.inl (x.2.v:Int))).isSome with
 |true =>
  obtain⟨y,hy,ey⟩:=NV hin;have rc':=rc.drop pW ⟨y.2,Zh.mpr ⟨y,hy,rfl⟩,ey⟩;refine iY (dS _ ?_ W' R nr rfl L1 ⟨ rc',nn,(bM _ _ _ _ _ _ _ rfl)⟩);rw[Zm,ZQ];lia
 |false =>
  have hno:gZ (kvR R) (Sum.inl (x.2.v:Int))=none:=Option.isNone_iff_eq_none.mp (by rw[<-Option.not_isSome,hin];rfl);have hne:∀u∈es R,u.v≠x.2.v:=λu hu' e=>by
   obtain⟨y,hy,rfl⟩:=Zh.mp hu';have:=tU rc.nd hy (v:=(x.2.v:Int)) (by lia);rw[hno]at this;cases this
  have least:∀y∈es W',x.2.d<=y.d:=λy hy=>by
   obtain⟨z,hz,rfl⟩:=Zh.mp hy;have d0:=L.dn;rw[Zt]at d0;exact IF (w:=W'.map λx=>kl x.2) (d:=x.2.d) (r:=[(x.2.v:Int),(x.2.k:Int),x.2.by_]) (d':=z.2.d) (r':=[(z.2.v:Int),(z.2.k:Int),z.2.by_]) d0 (Zh.mpr ⟨z,hz,rfl⟩)
  have rc':=rc.take pW least hne;have ees:es R++[x.2]=es (R++[x]):=by unfold es;rw[Zt];rfl
  have few:=rc'.few;rw[Zm,ZQ,Zq]at few;have ekv:putK (kvR R) (Sum.inl (x.2.v:Int)) (V.ref x.1)=kvR (R++[x]):=by rw[OQ _ hno];unfold kvR;rw[Zt];rfl
  refine vZ (bJ _ rfl _ rfl _ rfl ⟨ rd,_,rfl,NH.k (k:=Sum.inl (x.2.v:Int)) L1.r (by unfold kvR;rw[Zq];exact Yt (by lia:R.length<64) (by decide)),?_⟩);rw[ekv];have L2':=L1.setr tx;have tx2:(upd H3 rd (.dK (kvR (R++[x])))) x.1=some (.tup (ev x.2)):=by rw[aK (dI tx L1.r (by intro z;cases z))];exact tx
  generalize upd H3 rd (.dK (kvR (R++[x])))=H4 at L2' tx2;have S4:=S.mono L2'.g;obtain⟨dx4,ob4⟩:=S4.ob;refine⟨_,(b8 rfl s' _ dx4 _ _ rfl (bQ ob4 T.bV T.cN (fV _ _ _ _ _) _ rfl (aM A'.r _ _ _ rfl rfl (SqL.of S4.r) (lG (dG (j:=x.2.v) (by lia) rfl) _ _ rfl rfl _ rfl (kG (λc=>?_) (λc=>?_))))))⟩
  ·
   have c':at0 rs x.2.v<0:=of_decide_eq_true c;refine⟨_,rfl,q rd H4 (R++[x]) L2'.nrd L2'.g L2'.r L2'.rt (.inl (dA (es R) x.2 (es W') nr _ ees.symm ?_ ⟨ all,c'⟩))⟩;rw[<-ees];exact rc'
  have c':¬at0 rs x.2.v<0:=λz=>c (decide_eq_true z);rw[ees]at rc';have hds:x.2.v<ds.length:=by rw[O.d.len];exact hvn
  have hrow:=Zz hds;obtain⟨ra,ra1,lr,d1,d2,d3⟩:=S4.dr x.2.v _ hrow;generalize hrw:ds[x.2.v]=row at hrow d2 d3;have hfew:=O.d.few _ _ hrow;have top:∀y∈es (R++[x]),y.d<=x.2.d:=λy hy=>by
   have u:=rc'.up;rw[<-ees]at u hy;rcases Zf.mp hy with hy | hy
   ·exact(List.pairwise_append.mp u).2.2 y hy x.2 (.head _)
   ·have:y=x.2:=by simpa using hy
    rw[this];exact Int.le_refl _
  have mxe:x.2∈es (R++[x]):=Zh.mpr ⟨x,by simp,rfl⟩;refine⟨_,(b8 rfl s' _ dx4 _ _ rfl (bQ ob4 T.bV T.oP (QJ _ _ _ _ _) _ rfl (aM A'.d _ _ _ rfl rfl (SqL.of S4.d) ⟨ dX (by rw[Zk,ra1];rfl),ra,rfl,⟨_,SqL.of d1⟩,?_⟩)))⟩;refine jA (xs:=lr.map V.ref) (λi σ H5=>∃(Wi:List (Addr×En)) (nri:Nat->Option Int),aZ H4 H4/\LS H H5 wl na rd Wi (R++[x]) nri (R.length*(2*ws.length)+i)/\Wi.length<=W'.length+i/\H5 ra=some (.lst (lr.map V.ref))/\(∀(j:Nat) q',row[j]?=some q'->∃r,lr[j]?=some r/\H5 r=some (.tup [vn q'.1,.int q'.2])) /\
   Rch (at0 rs) (sd (aF ws) (bF ws)) (fr (aF ws) (bF ws)) (ln (aF ws) (bF ws) (coF ws) (at0 ps)) (opn ws.length (loF ws) (hiF ws) (at0 gs)) n (λk b=>(∃u∈R,∃l,ds[u.2.v]?=some l/\(k,b)∈l)\/(k,b)∈row.take i) (es (R++[x])) (es Wi) nri /\
   ∃o7 o8 o9 o10 o11:Option V,σ=[some (.ref s'),some (.ref D),some (.ref wl),some (.ref na),some (.ref rd),some (.ref x.1),some (vn x.2.v),o7,o8,o9,o10,o11])
   (gH W' nr (aZ.refl _) L2' (Nat.le_refl _) d1 d3 ⟨ rc'.pass (k:=0) (by_:=0) (λz=>absurd z.2 (by rintro(⟨z,_⟩ | ⟨z,_⟩)<;>cases z)) (λk b z=>by
    rcases z with z | z
    ·exact .inl z
    ·rw[List.take_zero]at z;cases z),(CK _ _ _ _ _ rfl)⟩) (λi σ H5 _ h=>by obtain⟨_,_,_,_,_,h,_⟩:=h;exact SqL.of h) ?_ ?_
  ·rintro i y σ H5 hy ⟨Wi,nri,_,Li,wi,e5,f5,rci,o7,o8,o9,o10,o11,rfl⟩;have hi:i<row.length:=by
    have:=(Zj.mp hy).1;rw[Zq,d2]at this;exact this
   have hq:=Zz hi;generalize hqq:row[i]=qd at hq;obtain⟨k,b⟩:=qd;obtain⟨r,f1,f2⟩:=f5 i _ hq;rw[Zk,f1]at hy;cases hy;obtain⟨hk,h1,hsd⟩:=O.d.src hrow (Zg hq);have hw:ws[k]?=some ws[k]:=Zz hk;have S5:=S.mono Li.g;obtain⟨dx5,ob5⟩:=S5.ob;obtain⟨wx,wr5,w1,w2,w3⟩:=S5.way hw;have hab:=O.w _ (Zp hk);have tx5:H5 x.1=some (.tup (ev x.2)):=Li.rt x (by simp);have pls:=O.pl;have hdst:fr (aF ws) (bF ws) k b<n:=by
    unfold fr;rw[qN hw,tL hw];split
    ·exact hab.2
    ·exact hab.1
   have elen:ln (aF ws) (bF ws) (coF ws) (at0 ps) k b=b*NM.rt ps ws[k]:=by unfold ln;rw[J1 hw]
   refine(a9 r _ rfl (SqT.of f2) rfl (cF _ _ rfl _ _ rfl rfl ?_));refine(aJ _ rfl x.1 _ _ _ rfl (eZ rfl (SqT.of tx5) rfl _ rfl _ rfl (dA s' _ dx5 _ _ rfl ob5 (cU T.bV T.iQ (DM _ _ _ _ _) _ rfl (aM A'.w _ _ _ rfl rfl (SqL.of w1) ⟨ w2,_,(b8 rfl s' _ dx5 _ _ rfl ⟨ ob5,T.bV,(dD T.gL (uP _ _ _ _ _) wr5 A'.p (ws[k]) ps rfl (xP (SqT.of w3) S5.p (by lia) (by lia) _ _ rfl (pM rfl (.inl (show(-(2 ^ 64):Int)<b/\b<2 ^ 64 by rcases h1 with z | z<;>rw[z]<;>exact⟨by decide,by decide⟩)) _ _ rfl rfl ?_)))⟩)⟩)))));refine(bJ _ rfl _ rfl _ rfl (bM s' A' ws ds ps gs rs (a9 k b rfl S5 hk ?_)));have hdist:x.2.d+b*NM.rt ps ws[k]=x.2.d+ln (aF ws) (bF ws) (coF ws) (at0 ps) k b:=by rw[elen]
   obtain⟨kvs,q1,q2,q3⟩:=id Li.q;have tk:row.take (i+1)=row.take i++[(k,b)]:=by rw[List.take_succ,hq];rfl
   have sub:∀k' b',((∃u∈R,∃l,ds[u.2.v]?=some l/\(k',b')∈l)\/(k',b')∈row.take (i+1))->((∃u∈R,∃l,ds[u.2.v]?=some l/\(k',b')∈l)\/(k',b')∈row.take i)\/(k'=k/\b'=b):=λk' b' z=>by
    rcases z with z | z
    ·exact .inl (.inl z)
    ·rw[tk]at z;rcases Zf.mp z with z | z
     ·exact .inl (.inr z)
     ·have:(k',b')=(k,b):=by simpa using z
      cases this;exact .inr ⟨rfl,rfl⟩
   dsimp only[jH];refine via (λσ' H6=>H6=H5/\∃nb:Bool,(nb=true->∀z,nri (fr (aF ws) (bF ws) k b)=some z->x.2.d+b*NM.rt ps ws[k]<=z)/\(nb=false->∃z,nri (fr (aF ws) (bF ws) k b)=some z/\z<=x.2.d+b*NM.rt ps ws[k]) /\
    σ'=[some (.ref s'),some (.ref D),some (.ref wl),some (.ref na),some (.ref rd),some (.ref x.1),some (vn x.2.v),some (vn k),some (.int b),some (.int (x.2.d+b*NM.rt ps ws[k])),some (vn (fr (aF ws) (bF ws) k b)),some (.bl nb)]) (λhr'=>?_) ?_
   ·refine(cL _ rfl _ rfl na _ rfl ⟨ rS.k (k:=Sum.inl ((fr (aF ws) (bF ws) k b:Nat):Int)) q1,_,rfl,?_⟩);rw[q2];cases hz:nri (fr (aF ws) (bF ws) k b) with
    |none=>exact vZ (hr' _ _ ⟨rfl,true,λ_ z hz'=>(by rw[hz]at hz';cases hz'),λz=>(by cases z),rfl⟩)
    |some z =>
     have dg:=rS.k (k:=Sum.inl ((fr (aF ws) (bF ws) k b:Nat):Int)) q1;rw[q2,hz]at dg;refine iY (bJ _ rfl _ rfl _ rfl (gF na _ rfl dg _ _ rfl ⟨ rfl,hr' _ _ ⟨rfl,_,λc z' hz'=>?_,λc=>⟨z,hz,?_⟩,rfl⟩⟩))
     ·rw[hz]at hz';cases hz';exact Int.le_of_lt (of_decide_eq_true c)
     ·exact Int.not_lt.mp (of_decide_eq_false c)
   rintro σ' H6 ⟨rfl,nb,better,near,rfl⟩;have pass:(opn ws.length (loF ws) (hiF ws) (at0 gs) k b->nb=false)->∃(Wi':List (Addr×En)) (nri':Nat->Option Int),aZ H4 H4/\LS H H6 wl na rd Wi' (R++[x]) nri' (R.length*(2*ws.length)+(i+1))/\Wi'.length<=W'.length+(i+1)/\H6 ra=some (.lst (lr.map V.ref))/\(∀(j:Nat) q',row[j]?=some q'->∃r,lr[j]?=some r/\H6 r=some (.tup [vn q'.1,.int q'.2])) /\
     Rch (at0 rs) (sd (aF ws) (bF ws)) (fr (aF ws) (bF ws)) (ln (aF ws) (bF ws) (coF ws) (at0 ps)) (opn ws.length (loF ws) (hiF ws) (at0 gs)) n (λk b=>(∃u∈R,∃l,ds[u.2.v]?=some l/\(k,b)∈l)\/(k,b)∈row.take (i+1)) (es (R++[x])) (es Wi') nri':=λhop=>by
    refine(gH Wi nri (aZ.refl _) (Li.more (by lia)) (by lia) e5 f5 (rci.pass (k:=k) (by_:=b) (λo=>?_) sub));obtain⟨z,z1,z2⟩:=near (hop o);exact(dB z z1 x.2 mxe hsd.symm (by rw[<-hdist];exact z2))
   refine⟨_,rfl,nb,rfl,?_⟩;cases nb with
   |false =>
    obtain⟨Wi',nri',p⟩:=pass λ_=>rfl;exact iY (iY (gH Wi' nri' p.1 p.2.1 p.2.2.1 p.2.2.2.1 p.2.2.2.2.1 ⟨ p.2.2.2.2.2,(CK _ _ _ _ _ rfl)⟩))
   |true =>
    refine vZ (bJ _ rfl _ rfl _ rfl (bM s' A' ws ds ps gs rs (fE k b rfl S5 hk O.gl ?_)));refine⟨(by cases rm ws gs k b<;>rfl),_,rfl,?_⟩;by_cases ho:rm ws gs k b=some 0
    ·rw[ho];obtain⟨Wi',nri',p⟩:=pass λo=>absurd ho ((OO hk h1).mp o);exact iY (gH Wi' nri' p.1 p.2.1 p.2.2.1 p.2.2.2.1 p.2.2.2.2.1 ⟨ p.2.2.2.2.2,(CK _ _ _ _ _ rfl)⟩)
    ·have ho':¬vo (rm ws gs k b)=V.int 0:=λz=>ho (by
      cases e:rm ws gs k b with
      |none=>rw[e]at z;cases z
      |some y=>rw[e]at z;rw[V.int.inj z])
     have op:=(OO hk h1).mpr ho;have cb:R.length*(2*ws.length)+(i+1)<=64*2000:=by
      have:R.length*(2*ws.length)<=63*2000:=Nat.mul_le_mul (by lia) (by lia)
      lia
     refine gC (by rw[decide_eq_false ho'];rfl) (bJ _ rfl _ rfl _ rfl ⟨ na,_,rfl,NH.k (k:=Sum.inl ((fr (aF ws) (bF ws) k b:Nat):Int)) q1 (Ys q3 (Yt (by omega:R.length*(2*ws.length)+i<200000) (by decide))),?_⟩);have L7:=Li.setq q1 (fr (aF ws) (bF ws) k b) (x.2.d+b*NM.rt ps ws[k]);have nra:ra≠na:=dI e5 q1 (by intro z;cases z);have e7:(upd H6 na (.dK (putK kvs (Sum.inl ((fr (aF ws) (bF ws) k b:Nat):Int)) (.int (x.2.d+b*NM.rt ps ws[k]))))) ra=some (.lst (lr.map V.ref)):=by rw[aK nra];exact e5
     have f7:∀(j:Nat) q',row[j]?=some q'->∃r,lr[j]?=some r/\(upd H6 na (.dK (putK kvs (Sum.inl ((fr (aF ws) (bF ws) k b:Nat):Int)) (.int (x.2.d+b*NM.rt ps ws[k]))))) r=some (.tup [vn q'.1,.int q'.2]):=λj q' hq'=>by
      obtain⟨r',z1,z2⟩:=f5 j q' hq';exact⟨r',z1,by rw[aK (dI z2 q1 (by intro z;cases z))];exact z2⟩
     generalize upd H6 na (.dK (putK kvs (Sum.inl ((fr (aF ws) (bF ws) k b:Nat):Int)) (.int (x.2.d+b*NM.rt ps ws[k]))))=H7 at L7 e7 f7;refine(bJ _ rfl _ rfl _ rfl (dB _ rfl _ rfl (by show 4<=ZW;decide) (λTe hTe=>?_)));have k8:=aI hTe (.tup [.int (x.2.d+b*NM.rt ps ws[k]),vn (fr (aF ws) (bF ws) k b),vn k,.int b]);have L8:=L7.mono k8;have wb8:=L8.wb;refine(aM wl Te Wi ⟨x.2.d+b*NM.rt ps ws[k],fr (aF ws) (bF ws) k b,k,b⟩ rfl L8.w L8.wt ⟨ aB,L8.dn,by lia,λW8 p8 dn8=>?_⟩);have nral:ra≠wl:=λz=>by
      have h0:H ra=some (.lst (lr.map V.ref)):=by
       obtain⟨ra',y1,y2⟩:=S.dr x.2.v _ (by rw[<-hrw]at hrow;exact hrow);obtain⟨lr',y3,_⟩:=y2;rw[ra1]at y1;cases y1;exact y3.trans ((L2'.g _ _ y3).symm.trans d1)
      rw[z,L8.nwl]at h0;cases h0
     have L9:=L8.setw (W':=W8) (λy hy=>by
      rcases Zn.mp (p8.mem_iff.mp hy) with rfl | hy
      ·exact aB
      ·exact L8.wt y hy) dn8 (by rw[p8.length_eq,Yq];have:=Li.wb;lia)
     refine(gH W8 _ (aZ.refl _) L9 (by rw[p8.length_eq,Yq];lia) (by rw[aK nral];exact k8 _ _ e7) (λj q' hq'=>?_) ⟨ ?_,(CK _ _ _ _ _ rfl)⟩)
     ·obtain⟨r',z1,z2⟩:=f7 j q' hq';exact⟨r',z1,by rw[aK (dI (k8 _ _ z2) L8.w (by intro z;cases z))];exact k8 _ _ z2⟩
     ·rw[hdist]at p8 ⊢;refine rci.put (k:=k) (by_:=b) (u:=x.2) op (by rcases h1 with z | z<;>rw[z]<;>decide) mxe hsd.symm top (sr.nn op) hdst (λz hz=>by rw[<-hdist];exact better rfl z hz) ?_ sub;exact p8.map (·.2)
  ·rintro σ H5 ⟨Wi,nri,_,Li,wi,e5,f5,rci,o7,o8,o9,o10,o11,rfl⟩;rw[Zq,d2,Yv]at rci;rw[Zq,d2]at Li wi;have er:(R++[x]).length=R.length+1:=by simp
   refine(dS _ ?_ Wi (R++[x]) nri rfl (Li.more (by rw[er,Nat.succ_mul R.length (2*ws.length)];lia)) ⟨ rci.pass (k:=0) (by_:=0) (λz=>absurd z.2 (by rintro(⟨z,_⟩ | ⟨z,_⟩)<;>cases z)) (λk b z=>?_),λu hu'=>?_,(bM _ _ _ _ _ _ _ rfl)⟩)
   ·rw[er,Zm,ZQ];have e1:n-R.length=(n-(R.length+1))+1:=by lia
    rw[e1,Nat.succ_mul (n-(R.length+1)) (2*ws.length+1)]
    lia
   ·obtain⟨u,hu',l,h1,h2⟩:=z;rcases Zf.mp hu' with hu' | hu'
    ·exact .inl (.inl ⟨u,hu',l,h1,h2⟩)
    ·have:u=x:=by simpa using hu'
     subst this;rw[hrow]at h1;cases h1;exact .inl (.inr h2)
   ·rcases Zf.mp hu' with hu' | hu'
    ·exact nn u hu'
    ·have:u=x:=by simpa using hu'
     subst this
     lia
end
end K29
namespace K29
open PySem L2 PyProof.Rows NM FL
def pJ(H:Hp)(rows:List Addr)(ds:List (List (Nat×Int))):Prop:=rows.length=ds.length/\∀(v:Nat) l,ds[v]?=some l->∃a,rows[v]?=some a/\AI H a l
theorem pJ.mono{H H':Hp}{rows:List Addr}{ds:List (List (Nat×Int))}(h:pJ H rows ds)(g:aZ H H'):pJ H' rows ds :=
 ⟨h.1,λv l hl=>let⟨a,h1,h2⟩:=h.2 v l hl;⟨a,h1,h2.mono g⟩⟩
theorem pJ.put{H:Hp}{rows lr:List Addr}{ds:List (List (Nat×Int))}{l:List (Nat×Int)}{v k:Nat}{b:Int}{a Tq:Addr}(h:pJ H rows ds)(nd:rows.Nodup)(hv:ds[v]?=some l)(ha:rows[v]?=some a)(d1:H a=some (.lst (lr.map V.ref)))(d2:lr.length=l.length)
  (d3:∀(j:Nat) q,l[j]?=some q->∃r,lr[j]?=some r/\H r=some (.tup [vn q.1,.int q.2])) (hT:H Tq=none):pJ (upd (upd H Tq (.tup [vn k,.int b])) a (.lst (lr.map V.ref++[.ref Tq]))) rows (ds.set v (l++[(k,b)])):=by
 have g:=aI hT (.tup [vn k,.int b]);have nT:Tq≠a:=(aH d1 hT).symm;have tp:∀{r:Addr}{xs:List V},H r=some (.tup xs)->(upd (upd H Tq (.tup [vn k,.int b])) a (.lst (lr.map V.ref++[.ref Tq]))) r=some (.tup xs):=λe=>by rw[aK (dI e d1 (by intro z;cases z))];exact g _ _ e
 refine⟨by rw[List.length_set];exact h.1,λv' l' hl'=>?_⟩;by_cases z:v=v'
 ·subst z;rw[List.getElem?_set_self (Zj.mp hv).1]at hl';cases hl';refine⟨a,ha,lr++[Tq],by rw[aB,Zt];rfl,by rw[Zm,Zm,d2];rfl,λj q hq=>?_⟩;rcases Xq j l.length with y | y
  ·rw[Zx y]at hq;obtain⟨r,r1,r2⟩:=d3 j q hq;exact⟨r,by rw[Zx (by lia)];exact r1,tp r2⟩
  ·rw[Zy y]at hq;have z0:j-l.length=0:=by
    have:=(Zj.mp hq).1;simp at this
    lia
   rw[z0]at hq;cases hq;exact⟨Tq,by rw[Zy (by lia),d2,z0];rfl,by rw[aK nT];exact aB⟩
 ·rw[List.getElem?_set_ne z]at hl';obtain⟨a',h1,h2⟩:=h.2 v' l' hl';have na:a'≠a:=λy=>by
   subst y;obtain⟨p1,p2⟩:=Zj.mp h1;obtain⟨p3,p4⟩:=Zj.mp ha;exact z ((List.getElem_inj nd).mp (p4.trans p2.symm))
  exact⟨a',h1,h2.keep λc xs=>⟨λy e=>by subst y;rw[aK na];exact g _ _ e,tp⟩⟩
structure DrI(ws:List Way)(n i:Nat)(ds:List (List (Nat×Int))):Prop where
 len:ds.length=n
 mem:∀(v:Nat) (l:List (Nat×Int)),ds[v]?=some l->∀(k:Nat) (by_:Int),(k,by_)∈l↔k<i/\((by_=1/\aF ws k=v)\/(by_ = -1/\bF ws k=v))
 few:∀(v:Nat) (l:List (Nat×Int)),ds[v]?=some l->l.length<=2*i
theorem DrI.step{ws:List Way}{n i:Nat}{ds:List (List (Nat×Int))}(h:DrI ws n i ds){la lb:List (Nat×Int)}(h1:ds[aF ws i]?=some la)(h2:(ds.set (aF ws i) (la++[(i,1)]))[bF ws i]?=some lb) :
  DrI ws n (i+1) ((ds.set (aF ws i) (la++[(i,1)])).set (bF ws i) (lb++[(i,-1)])):=by
 have ha:=(Zj.mp h1).1;have hb:=(Zj.mp h2).1;rw[List.length_set]at hb;have mid:∀(v:Nat) l,(ds.set (aF ws i) (la++[(i,1)]))[v]?=some l->(∀(k:Nat) (by_:Int),(k,by_)∈l↔(k<i/\((by_=1/\aF ws k=v)\/(by_ = -1/\bF ws k=v)))\/(k=i/\by_=1/\aF ws i=v))/\l.length<=2*i+1:=λv l hl=>by
  by_cases z:aF ws i=v
  ·subst z;rw[List.getElem?_set_self ha]at hl;cases hl;refine⟨λk b=>?_,by have:=h.few _ _ h1;rw[Zm];simp;lia⟩;rw[Zf,h.mem _ _ h1];simp
  ·rw[List.getElem?_set_ne z]at hl;refine⟨λk b=>?_,by have:=h.few _ _ hl;lia⟩;rw[h.mem _ _ hl];simp[z]
 refine⟨by rw[List.length_set,List.length_set];exact h.len,λv l hl k b=>?_,λv l hl=>?_⟩
 ·by_cases z:bF ws i=v
  ·subst z;rw[List.getElem?_set_self (by rw[List.length_set];exact hb)]at hl;cases hl;rw[Zf,(mid _ _ h2).1];constructor
   ·rintro((⟨y1,y2⟩ | ⟨rfl,rfl,y⟩) | y)
    ·exact⟨by lia,y2⟩
    ·exact⟨by lia,.inl ⟨rfl,y⟩⟩
    ·have:(k,b)=(i,-1):=by simpa using y
     cases this;exact⟨by lia,.inr ⟨rfl,rfl⟩⟩
   ·rintro⟨y1,y2⟩;by_cases e:k=i
    ·subst e;rcases y2 with⟨rfl,y⟩ | ⟨rfl,y⟩
     ·exact .inl (.inr ⟨rfl,rfl,y⟩)
     ·exact .inr (by simp)
    ·exact .inl (.inl ⟨by lia,y2⟩)
  ·rw[List.getElem?_set_ne z]at hl;rw[(mid _ _ hl).1];constructor
   ·rintro(⟨y1,y2⟩ | ⟨rfl,rfl,y⟩)
    ·exact⟨by lia,y2⟩
    ·exact⟨by lia,.inl ⟨rfl,y⟩⟩
   ·rintro⟨y1,y2⟩;by_cases e:k=i
    ·subst e;rcases y2 with⟨rfl,y⟩ | ⟨rfl,y⟩
     ·exact .inr ⟨rfl,rfl,y⟩
     ·exact absurd y z
    ·exact .inl ⟨by lia,y2⟩
 ·by_cases z:bF ws i=v
  ·subst z;rw[List.getElem?_set_self (by rw[List.length_set];exact hb)]at hl;cases hl;have:=(mid _ _ h2).2;rw[Zm];simp
   lia
  ·rw[List.getElem?_set_ne z]at hl;have:=(mid _ _ hl).2
   lia
section
def JU:Sp:=λvs H Q _=>∃(p na wa:Addr) (ns:List Int) (ws:List Way),vs=[.ref p]/\lY H p na wa ns ws/\(∀w∈ws,w.a<ns.length/\w.b<ns.length)/\ns.length<=1000/\ws.length<=1000 /\
 ∀(da:Addr) (rows:List Addr) (ds:List (List (Nat×Int))) (H':Hp),H da=none->(∀a∈rows,H a=none)->aZ H H'->H' da=some (.lst (rows.map V.ref))->pJ H' rows ds->JD ws ns.length ds->Q (.ref da) H'
theorem PJ(T:Txt K mg t):bT P w K mg base CX0 1 t.rQ t.rO ["net"] JU:=by
 refine T.zI.F.ok vA (λvs H Q E h=>?_) (λcdv A outer s H vs Q E hr h=>?_)
 ·obtain⟨p,na,wa,ns,ws,rfl,_⟩:=h;rfl
 obtain⟨p,na,wa,ns,ws,rfl,hN,hab,hn,hm,q⟩:=h;have nd:=vA.nd;have nd_knot:(["knot"]:List Str).Nodup:=by decide
 refine⟨_,(aC (bU (i:=1) nd rfl (Or.inl rfl)  (N':=["knot"]) (js:=[none]) rfl (cI (aN aP (pv 0) aG (λ_ _=>rfl))) (λ_ _ _ _ _=>(aO (i:=0) nd_knot rfl (Or.inl rfl))) (λ_ _ _ _ _=>dJ) (λ_ _ _ _ _=>(cC aE)))
  (aC (cV PassesOwn.never rfl (fH rfl T.cK (aA (aN aP (pv 0) aG (λ_ _=>rfl)) aE)) (eL rfl (aV (aO (i:=2) nd rfl (Or.inl rfl)) (aV (aO (i:=3) nd rfl (Or.inl rfl)) cJ))) (aC (bX (lB mAp b9 (aN aQ (pv 1) (aN aP (pv 3) aG (λ_ _=>rfl)) (λ_ _=>rfl)) (aA (cH (aA (pv 2) (aA aG aE))) aE)))
  (aL (bX (lB mAp b9 (aN aQ (pv 1) (aN aP (pv 3) aG (λ_ _=>rfl)) (λ_ _=>rfl)) (aA (cH (aA (pv 2) (aA (sO mC aG) aE))) aE))))))
  (aL (bE (pv 1))))),?_⟩
 obtain⟨wrs,e1,e2,e3⟩:=hN.w;refine(aJ _ rfl p _ _ _ rfl (gJ rfl (SqT.of hN.tp) rfl na rfl ⟨_,SqL.of hN.n⟩ (λD hD=>?_)));refine comp_map ns.length (λi ys H'=>∃rows:List Addr,ys=rows.map V.ref/\rows.length=i/\rows.Nodup/\(∀a∈rows,a≠D/\H a=none/\H' a=some (.lst []))/\aZ H H'/\H' D=some (.lst ys))
  (rX ([]) rfl rfl List.nodup_nil (λa ha=>(by cases ha)) (aI hD _) aB) ?_ ?_
 ·rintro i ys H' hi ⟨rows,rfl,hl,hnd,hrw,g1,eD⟩;refine⟨⟨_,_,SqL.of (g1 _ _ hN.n),gE hi⟩,?_⟩;rintro x H'' ⟨rfl,hx⟩;refine⟨(Fills.refl _).set _ rfl,(by show 0<=ZW;decide),λa ha=>?_⟩;have g2:=aI ha (.lst []);have naD:a≠D:=(aH eD ha).symm;refine(EG (g2 _ _ eD) (by rw[Zq,hl];exact Yt (by lia:i<1000) (by decide)) (rows++[a]) (by rw[Zt];rfl) (by rw[Zm,hl];rfl) ?_ (λb hb=>?_) ⟨ λb o h=>by rw[aK (aH h hD)];exact g2 _ _ (g1 _ _ h),aB⟩)
  ·refine List.nodup_append.mpr ⟨hnd,by simp,λb hb c hc=>?_⟩;have:c=a:=by simpa using hc
   subst this;intro z;subst z;rw[(hrw _ hb).2.2]at ha;cases ha
  ·rcases Zf.mp hb with hb | hb
   ·obtain⟨r1,r2,r3⟩:=hrw b hb;exact⟨r1,r2,by rw[aK r1];exact g2 _ _ r3⟩
   ·have:b=a:=by simpa using hb
    subst this;exact⟨naD,g1.free ha,by rw[aK naD];exact aB⟩
 rintro ys H1 ⟨rows,rfl,hl,hnd,hrw,g1,eD⟩;refine⟨⟨_,SqL.of (g1 _ _ hN.n),by rw[Zq];exact Nat.le_refl _⟩,?_⟩;refine(aJ _ rfl p _ _ _ rfl (gJ rfl (SqT.of (g1 _ _ hN.tp)) rfl wa rfl ⟨_,SqL.of (g1 _ _ e1)⟩ ?_));refine fL (xs:=wrs.map V.ref) (λi σ H'=>aZ H H'/\H' D=some (.lst (rows.map V.ref))/\(∃ds,pJ H' rows ds/\DrI ws ns.length i ds)/\∃o2 o3:Option V,σ=[some (.ref p),some (.ref D),o2,o3])
  ⟨g1,eD,⟨List.replicate ns.length [],⟨by rw[hl,List.length_replicate],λv l hv=>?_⟩,?_⟩,_,_,rfl⟩ (λi σ H' _ h=>SqL.of (h.1 _ _ e1)) ?_ ?_
 ·obtain⟨hv1,hv2⟩:=Zj.mp hv;rw[List.getElem_replicate]at hv2;rw[List.length_replicate]at hv1;subst hv2;exact(dB (rows[v]) (Zz (by lia)) ([]) ((hrw _ (Zp _)).2.2) rfl (λj q' hq=>by simp at hq))
 ·refine⟨by simp,λv l hv k b=>?_,λv l hv=>?_⟩
  ·obtain⟨hv1,hv2⟩:=Zj.mp hv;rw[List.getElem_replicate]at hv2;subst hv2;simp
  ·obtain⟨hv1,hv2⟩:=Zj.mp hv;rw[List.getElem_replicate]at hv2;subst hv2;simp
 ·rintro i y σ H' Tp hy ⟨g2,eD2,⟨ds,ra,di⟩,o2,o3,rfl⟩ hTp;obtain⟨r,hr1,rfl⟩:=wQ hy;obtain⟨w',hw,er⟩:=G1 e2 e3 hr1;have hi:i<ws.length:=(Zj.mp hw).1;have ab:=hab w' (Zg hw);have g3:=aI hTp (.tup [vn i,.ref r]);have g23:=g2.trans g3;have ra3:=ra.mono g3;have eD3:=g3 _ _ eD2;have er3:=g23 _ _ er;have tT:(upd H' Tp (.tup [vn i,.ref r])) Tp=some (.tup [vn i,.ref r]):=aB;generalize upd H' Tp (.tup [vn i,.ref r])=H3 at g23 ra3 eD3 er3 tT;obtain⟨la,hla⟩:∃la,ds[w'.a]?=some la:=⟨_,Zz (by rw[di.len];exact ab.1)⟩
  obtain⟨a,a1,lr,d1,d2,d3⟩:=ra3.2 _ _ hla;have f1:=di.few _ _ hla;refine(a9 Tp _ rfl (SqT.of tT) rfl (cF _ _ rfl _ _ rfl rfl ?_));refine⟨_,rfl,(aJ _ rfl r _ _ _ rfl ⟨ rfl,(dD (SqT.of er3) rfl D _ _ (.ref a) rfl (EH rfl (SqL.of eD3) (dX (by rw[Zk,a1];rfl)) (.inl ⟨rfl,_,SqL.of d1⟩) _ rfl (by show 2<=ZW;decide) (λT1 hT1=>?_)))⟩)⟩;have k1:=aI hT1 (.tup [vn i,.int 1]);refine(bN a _ _ rfl rfl (k1 _ _ d1) (by rw[Zq,d2];exact Yt (by lia:la.length<3000) (by decide)) ?_);have ra4:=ra3.put (k:=i) (b:=1) hnd hla a1 d1 d2 d3 hT1;have rfree:∀b∈rows,H b=none:=λb hb=>(hrw b hb).2.1;have g4:aZ H (upd (upd H3 T1 (.tup [vn i,.int 1])) a (.lst (lr.map V.ref++[.ref T1]))):=λb o h=>by rw[aK (aH h (rfree a (Zg a1)))];exact k1 _ _ (g23 _ _ h)
  have nDa:D≠a:=λz=>(hrw a (Zg a1)).1 z.symm;have eD4:(upd (upd H3 T1 (.tup [vn i,.int 1])) a (.lst (lr.map V.ref++[.ref T1]))) D=some (.lst (rows.map V.ref)):=by rw[aK nDa];exact k1 _ _ eD3
  generalize upd (upd H3 T1 (.tup [vn i,.int 1])) a (.lst (lr.map V.ref++[.ref T1]))=H4 at ra4 g4 eD4;obtain⟨lb,hlb⟩:∃lb,(ds.set w'.a (la++[(i,1)]))[w'.b]?=some lb:=⟨_,Zz (by rw[List.length_set,di.len];exact ab.2)⟩
  obtain⟨a',a1',lr',d1',d2',d3'⟩:=ra4.2 _ _ hlb;have e5:=di.step (la:=la) (lb:=lb) (by rw[qN hw];exact hla) (by rw[qN hw,tL hw];exact hlb);rw[qN hw,tL hw]at e5;have f2:=e5.few w'.b _ (List.getElem?_set_self (by rw[List.length_set,di.len];exact ab.2));rw[Zm]at f2;refine⟨_,rfl,(aJ _ rfl r _ _ _ rfl ⟨ rfl,(dD (SqT.of (g4 _ _ er)) rfl D _ _ (.ref a') rfl (bQ rfl (SqL.of eD4) (dX (by rw[Zk,a1'];rfl)) (.inl ⟨rfl,_,SqL.of d1'⟩) _ rfl ⟨ _,rfl,(by show 2<=ZW;decide),λT2 hT2=>?_⟩))⟩)⟩;have k2:=aI hT2 (.tup [vn i,.int (-1)]);refine(bN a' _ _ rfl rfl (k2 _ _ d1') (by rw[Zq,d2'];exact Yt (by lia:lb.length<3000) (by decide)) ?_);have ra5:=ra4.put (k:=i) (b:=-1) hnd hlb a1' d1' d2' d3' hT2;refine⟨λb o h=>by rw[aK (aH h (rfree a' (Zg a1')))];exact k2 _ _ (g4 _ _ h),?_,⟨_,ra5,e5⟩,_,_,rfl⟩;rw[aK (λz=>(hrw a' (Zg a1')).1 z.symm)];exact k2 _ _ eD4
 ·rintro σ H' ⟨g2,eD2,⟨ds,ra,di⟩,o2,o3,rfl⟩;rw[Zq,e2]at di;exact⟨_,rfl,q D rows ds H' hD (λa ha=>(hrw a ha).2.1) g2 eD2 ra ⟨di.len,di.mem,di.few⟩⟩
def JO:Sp:=λvs H Q _=>∃(p na wa ga:Addr) (ns:List Int) (ws:List Way) (gs:List Int),vs=[.ref p,.ref ga]/\lY H p na wa ns ws/\(∀w∈ws,w.a<ns.length/\w.b<ns.length)/\H ga=some (.lst (gs.map V.int))/\gs.length=ws.length/\∀(r:Addr) (H':Hp),H r=none->aZ H H'->H' r=some (.lst ((left ws gs ns).map V.int))->Q (.ref r) H'
theorem O6(T:Txt K mg t):bT P w K mg base CX0 1 t.D9 t.DR ["net","going"] JO:=by
 refine T.KO.F.ok ET (λvs H Q E h=>?_) (λcdv A outer s H vs Q E hr h=>?_)
 ·obtain⟨p,na,wa,ga,ns,ws,gs,rfl,_⟩:=h;rfl
 obtain⟨p,na,wa,ga,ns,ws,gs,rfl,hN,hO,hG,hlen,q⟩:=h;have nd:=ET.nd;obtain⟨rs,e1,e2,e3⟩:=hN.w;refine⟨_,(aC (aW 2 nd (gN m7 rfl T.xG boot_list (aA (aN aP (pv 0) aG (λ_ _=>rfl)) aE)))
  (aC (cV PassesOwn.never rfl (HR rfl T.NI (aA (aN aP (pv 0) aG (λ_ _=>rfl)) (aA (pv 1) aE))) (eL rfl (aV (aO (i:=3) nd rfl (Or.inl rfl)) (aV (aO (i:=4) nd rfl (Or.inl rfl)) cJ))) (aC (mJ (pv 2) (aN aP (pv 3) aG (λ_ _=>rfl)) jX (pv 4) QA set_list)
  (aL (mJ (pv 2) (aN aP (pv 3) aG (λ_ _=>rfl)) jX (pv 4) zC set_list))))
  (aL (bE (pv 2))))),?_⟩
 refine(aJ _ rfl p _ _ _ rfl (cQ rfl (SqT.of hN.tp) rfl na _ rfl (.inl (SqL.of hN.n)) (λla hla=>?_)));have g1:=aI hla (.lst (ns.map V.int));refine(aJ _ rfl p _ _ _ rfl (cU rfl (SqT.of (g1 _ _ hN.tp)) rfl _ rfl (aM wa ga _ _ rfl (g1 _ _ e1) (g1 _ _ hG) ?_)));refine KL (λi σ H'=>aZ H H'/\H' la=some (.lst ((left (ws.take i) (gs.take i) ns).map V.int))/\∃o3 o4:Option V,σ=[some (.ref p),some (.ref ga),some (.ref la),o3,o4])
  (by rw[Zq,Zq,e2,hlen]) ⟨g1,aB,_,_,rfl⟩ (λi σ H' _ h=>⟨h.1 _ _ e1,h.1 _ _ hG⟩) ?_ ?_
 ·rintro i x y σ H1 Tp hx hy ⟨g2,el,o3,o4,rfl⟩ hTp;obtain⟨r,hr1,rfl⟩:=wQ hx;obtain⟨hi,rfl⟩:=w8 hy;obtain⟨w,hw,er⟩:=G1 e2 e3 hr1;obtain⟨ha,hb⟩:=hO w (Zg hw);have hgi:gs[i]?=some (at0 gs i):=by unfold at0;simp[List.getD,hi]
  have g3:=g2.trans (aI hTp (.tup [.ref r,.int (at0 gs i)]));have el3:=aI hTp (.tup [.ref r,.int (at0 gs i)]) _ _ el;have ll:(left (ws.take i) (gs.take i) ns).length=ns.length:=sU _ _ _;generalize hL:left (ws.take i) (gs.take i) ns=L at el3 ll;refine(a9 Tp _ rfl (SqT.of aB) rfl (cF _ _ rfl _ _ rfl rfl ?_));refine⟨_,rfl,(aJ _ rfl r _ _ _ rfl ⟨ rfl,(dD (SqT.of (g3 _ _ er)) rfl la _ _ _ rfl (bQ rfl (SqL.of el3) (by lia) (dG (j:=w.a) (by lia) rfl) _ rfl ⟨ _,_,(dD rfl rfl la _ _ w.a rfl ⟨ rfl,el3,oV (by rw[Zq];lia) rfl,?_⟩)⟩))⟩)⟩;rw[show(L.map V.int).set w.a (V.int (at0 L w.a-at0 gs i))=(L.set w.a (at0 L w.a-at0 gs i)).map V.int by rw[List.map_set]];have g4:aZ H (upd (upd H1 Tp (.tup [.ref r,.int (at0 gs i)])) la (.lst ((L.set w.a (at0 L w.a-at0 gs i)).map V.int))):=λb o h=>by rw[aK (aH h hla)];exact g3 _ _ h
  refine⟨_,rfl,(aJ _ rfl r _ _ _ rfl ⟨ rfl,(dD (SqT.of (g4 _ _ er)) rfl la _ _ _ rfl (bQ rfl (SqL.of aB) (by lia) (dG (j:=w.b) (by simp;lia) rfl) _ rfl ⟨ _,_,(dD rfl rfl la _ _ w.b rfl ⟨ rfl,aB,oV (by simp;lia) rfl,?_⟩)⟩))⟩)⟩;refine⟨?_,?_,_,_,rfl⟩
  ·exact λb o h=>by rw[aK (aH h hla)];exact g4 _ _ h
  ·rw[aB,BM hw hgi,hL];unfold NM.step;simp only[List.map_set]
 ·rintro σ H1 ⟨g2,el,o3,o4,rfl⟩;rw[Zq,e2,Yv,<-hlen,Yv]at el;exact⟨_,rfl,q la H1 hla g2 el⟩
def g0(ps:List Int)(w:Way):Int:=if NM.rt ps w<0 then w.hi.getD 0 else w.lo
def OE(C:Addr):Sp:=λvs H Q _=>∃(x dx p pa na wa:Addr) (ns:List Int) (ws:List Way) (ps:List Int),vs=[.ref x,.ref p,.ref pa]/\H x=some (.ins C dx [])/\lY H p na wa ns ws/\H pa=some (.lst (ps.map V.int))/\ps.length=ns.length/\(∀w∈ws,w.a<ns.length/\w.b<ns.length)/\ns.length<=1000/\ws.length<=1000/\(∀w∈ws,NM.rt ps w<0->∃h,w.hi=some h) /\
 ∀(H':Hp) (A:SA) (ds:List (List (Nat×Int))),(∀b o,b≠x->H b=some o->H' b=some o)->SAt C H' x A ws ds ps (ws.map (g0 ps)) (left ws (ws.map (g0 ps)) ns)->JD ws ns.length ds->H A.p=none->H A.g=none->H A.r=none->Q .non H'
theorem SR(T:Txt K mg t)(AE:bT P w K mg base CX0 1 t.zX t.zM ["way","prices"] (CU K))(T5:bT P w K mg base CX0 1 t.D9 t.DR ["net","going"] JO)(JB:bT P w K mg base CX0 1 t.rQ t.rO ["net"] JU) :
  bT P w K mg base CX0 2 t.iU t.iT ["self","net","prices"] (OE t.aY):=by
 refine T.A0.ok nS (λvs H Q E h=>?_) (λcdv A outer s H vs Q E hr h=>?_)
 ·obtain⟨x,dx,p,pa,na,wa,ns,ws,ps,rfl,_⟩:=h;rfl
 obtain⟨x,dx,p,pa,na,wa,ns,ws,ps,rfl,hx,hN,hP,pl,hab,hn,hm,hhi,q⟩:=h;have nd:=nS.nd;have nd_way_prices:(["way","prices"]:List Str).Nodup:=by decide
 refine⟨_,(aC (yP (pv 0) (aN aP (pv 1) aG (λ_ _=>rfl)) rfl)
  (aC (yP (pv 0) (gN m7 rfl T.xG boot_list (aA (pv 2) aE)) rfl)
  (aC (yP (pv 0) (gK (N':=["way","prices"]) (js:=[none,some 2]) rfl (cI (aN aP (pv 1) aG (λ_ _=>rfl))) (λ_ _ _ _ _=>(aO (i:=0) nd_way_prices rfl (Or.inl rfl))) (λ_ _ _ _ _=>dJ) (λ_ _ _ _ _=>(oH (bH iX (bK AE hr T.DN aX (aA (pv 0) (aA (pv 1) aE))) aG (bO _)) (aN (DI (K:=K) rfl) (pv 0) aG (λ_ _=>rfl)) (aN (DI (K:=K) rfl) (pv 0) aG (λ_ _=>rfl))))) rfl)
  (aC (yP (pv 0) (bK T5 hr T.KO aX (aA (pv 1) (aA (fB (pv 0) rfl) aE))) rfl)
  (aL (yP (pv 0) (bK JB hr T.zI aX (aA (pv 1) aE)) rfl)))))),?_⟩
 obtain⟨wrs,e1,e2,e3⟩:=hN.w;refine(aJ _ rfl p _ _ _ rfl (cU rfl (SqT.of hN.tp) rfl _ rfl (aM x _ dx ([]) rfl hx T.bV ⟨ T.iQ,(by show 0<1000;decide),?_⟩)));have K1:∀b o,b≠x->H b=some o->(upd H x (.ins t.aY dx (bZ "ways" (.ref wa) []))) b=some o:=λb o z h=>by rw[aK z];exact h
 have X1:(upd H x (.ins t.aY dx (bZ "ways" (.ref wa) []))) x=some (.ins t.aY dx (bZ "ways" (.ref wa) [])):=aB;have F1:∀b,(upd H x (.ins t.aY dx (bZ "ways" (.ref wa) []))) b=none->H b=none:=λb z=>by
  by_cases y:b=x
  ·subst y;rw[aB]at z;cases z
  ·rw[aK y]at z;exact z
 generalize upd H x (.ins t.aY dx (bZ "ways" (.ref wa) []))=H1 at K1 X1 F1;have nk:∀{b:Addr}{o:HO},H b=some o->(∀C' d f,o≠.ins C' d f)->b≠x:=λe z=>dI e hx (λy=>z _ _ _ y);have wk:∀{H':Hp},(∀b o,b≠x->H b=some o->H' b=some o)->lY H' p na wa ns ws:=λk=>⟨k _ _ (nk hN.tp (λ_ _ _ y=>by cases y)) hN.tp,k _ _ (nk hN.n (λ_ _ _ y=>by cases y)) hN.n,wrs,k _ _ (nk e1 (λ_ _ _ y=>by cases y)) e1,e2,λi w hw=>by
  obtain⟨r,r1,r2⟩:=e3 i w hw;exact⟨r,r1,k _ _ (nk r2 (λ_ _ _ y=>by cases y)) r2⟩⟩
 have hP1:=K1 _ _ (nk hP (λ_ _ _ y=>by cases y)) hP;refine(bP _ rfl pa _ rfl (.inl (SqL.of hP1)) (λl1 hl1=>?_));have s1:=aI hl1 (.lst (ps.map V.int));refine(aJ _ rfl x _ dx _ rfl ⟨ s1 _ _ X1,T.bV,T.gL,(by show 1<1000;decide),?_⟩);have nx1:l1≠x:=(aH X1 hl1).symm;have K2:∀b o,b≠x->H1 b=some o->(upd (upd H1 l1 (.lst (ps.map V.int))) x (.ins t.aY dx (bZ "prices" (.ref l1) (bZ "ways" (.ref wa) [])))) b=some o:=λb o z h=>by rw[aK z];exact s1 _ _ h
 have X2:(upd (upd H1 l1 (.lst (ps.map V.int))) x (.ins t.aY dx (bZ "prices" (.ref l1) (bZ "ways" (.ref wa) [])))) x=some (.ins t.aY dx (bZ "prices" (.ref l1) (bZ "ways" (.ref wa) []))):=aB;have P2:(upd (upd H1 l1 (.lst (ps.map V.int))) x (.ins t.aY dx (bZ "prices" (.ref l1) (bZ "ways" (.ref wa) [])))) l1=some (.lst (ps.map V.int)):=by rw[aK nx1];exact aB
 have F2:∀b,(upd (upd H1 l1 (.lst (ps.map V.int))) x (.ins t.aY dx (bZ "prices" (.ref l1) (bZ "ways" (.ref wa) [])))) b=none->H1 b=none:=λb z=>by
  by_cases y:b=x
  ·subst y;rw[aB]at z;cases z
  ·rw[aK y]at z;exact s1.free z
 generalize upd (upd H1 l1 (.lst (ps.map V.int))) x (.ins t.aY dx (bZ "prices" (.ref l1) (bZ "ways" (.ref wa) [])))=H2 at K2 X2 P2 F2;have K02:∀b o,b≠x->H b=some o->H2 b=some o:=λb o z h=>K2 b o z (K1 b o z h);have N2:=wk K02;obtain⟨wrs2,e12,e22,e32⟩:=N2.w;have hP2:=K02 _ _ (nk hP (λ_ _ _ y=>by cases y)) hP;refine(aJ _ rfl p _ _ _ rfl (gJ rfl (SqT.of N2.tp) rfl wa rfl ⟨_,SqL.of e12⟩ (λl2 hl2=>?_)));have lr:∀{i:Nat}(hi:i<ws.length),∃r,(wrs2.map V.ref)[i]?=some (.ref r)/\H2 r=some (.tup (wv ws[i])):=λ{i} hi=>by
  obtain⟨r,q1,q2⟩:=e32 i ws[i] (Zz hi);exact⟨r,by rw[Zk,q1];rfl,q2⟩
 refine dP ws.length (λi=>.int (at0 (ws.map (g0 ps)) i)) hl2 (by lia) (λi H' hi g=>by obtain⟨r,r1,_⟩:=lr hi;exact⟨_,_,SqL.of (g _ _ e12),r1⟩) (λH' g=>⟨_,SqL.of (g _ _ e12),by rw[Zq];lia⟩) ?_ ?_
 ·rintro i H' y H'' k hi g ⟨rfl,hy⟩ hk;obtain⟨r,r1,r2⟩:=lr hi;have ey:=hy _ (SqL.of (g _ _ e12));rw[r1]at ey;cases ey;have hw:=Zp hi;have ag:at0 (ws.map (g0 ps)) i=g0 ps ws[i]:=by unfold at0;simp[List.getD,hi]
  rw[ag]at hk;refine⟨(Fills.refl _).set _ rfl,?_⟩;refine⟨_,rfl,(aJ _ rfl r pa (ws[i]) ps rfl (xP (SqT.of (g _ _ r2)) (g _ _ hP2) (by rw[pl];exact(hab _ hw).1) (by rw[pl];exact(hab _ hw).2) _ _ rfl ⟨ rfl,_,rfl,kG (λc=>?_) (λc=>?_)⟩))⟩
  ·have c':NM.rt ps ws[i]<0:=of_decide_eq_true c;obtain⟨h,eh⟩:=hhi _ hw c';have eg:g0 ps ws[i]=h:=by unfold g0;rw[if_pos c',eh];rfl
   rw[eg]at hk;have e4:atI (wv ws[i]) 3=some (.int h):=by show some (vo ws[i].hi)=_;rw[eh];rfl
   exact(aJ _ rfl r _ _ _ rfl ⟨ rfl,SqT.of (g _ _ r2),e4,hk _ (aZ.refl _)⟩)
  ·have c':¬NM.rt ps ws[i]<0:=λz=>c (decide_eq_true z);have eg:g0 ps ws[i]=ws[i].lo:=by unfold g0;rw[if_neg c']
   rw[eg]at hk;exact(aJ _ rfl r _ _ _ rfl ⟨ rfl,SqT.of (g _ _ r2),rfl,hk _ (aZ.refl _)⟩)
 intro H3 g3 e3';have eg:(List.range ws.length).map (λi=>V.int (at0 (ws.map (g0 ps)) i))=(ws.map (g0 ps)).map V.int:=by
  apply Yp;intro i;by_cases hi:i<ws.length
  ·rw[Zk,Yk hi,Zk,Zk,Zz hi];unfold at0;simp[List.getD,hi]
  ·rw[Zr (by simp;lia),Zr (by simp;lia)]
 rw[eg]at e3';refine(aJ _ rfl x _ dx _ rfl ⟨ g3 _ _ X2,T.bV,T.fC,(by show 2<1000;decide),?_⟩);have nx2:l2≠x:=(aH X2 hl2).symm;have K4:∀b o,b≠x->H2 b=some o->(upd H3 x (.ins t.aY dx (bZ "going" (.ref l2) (bZ "prices" (.ref l1) (bZ "ways" (.ref wa) []))))) b=some o:=λb o z h=>by rw[aK z];exact g3 _ _ h
 have X4:(upd H3 x (.ins t.aY dx (bZ "going" (.ref l2) (bZ "prices" (.ref l1) (bZ "ways" (.ref wa) []))))) x=some (.ins t.aY dx (bZ "going" (.ref l2) (bZ "prices" (.ref l1) (bZ "ways" (.ref wa) [])))):=aB;have G4:(upd H3 x (.ins t.aY dx (bZ "going" (.ref l2) (bZ "prices" (.ref l1) (bZ "ways" (.ref wa) []))))) l2=some (.lst ((ws.map (g0 ps)).map V.int)):=by rw[aK nx2];exact e3'
 have F4:∀b,(upd H3 x (.ins t.aY dx (bZ "going" (.ref l2) (bZ "prices" (.ref l1) (bZ "ways" (.ref wa) []))))) b=none->H2 b=none:=λb z=>by
  by_cases y:b=x
  ·subst y;rw[aB]at z;cases z
  ·rw[aK y]at z;exact g3.free z
 generalize upd H3 x (.ins t.aY dx (bZ "going" (.ref l2) (bZ "prices" (.ref l1) (bZ "ways" (.ref wa) []))))=H4 at K4 X4 G4 F4;have K04:∀b o,b≠x->H b=some o->H4 b=some o:=λb o z h=>K4 b o z (K02 b o z h);have P4:=K4 _ _ nx1 P2;have lg:(bZ "going" (.ref l2) (bZ "prices" (.ref l1) (bZ "ways" (.ref wa) [])):List (Str×V)).lookup ("going" : Str)=some (.ref l2):=by rw[bY,if_pos rfl]
 refine⟨_,rfl,_,(b8 rfl x _ dx _ _ rfl ⟨ X4,T.bV,T.fC,lg,(bM p na wa l2 ns ws (ws.map (g0 ps)) (nJ rfl (wk K04) hab G4 (by rw[Zq]) (λl3 H5 hl3 g5 R5=>?_)))⟩)⟩;refine(aJ _ rfl x _ dx _ rfl ⟨ g5 _ _ X4,T.bV,T.cN,(by show 3<1000;decide),?_⟩);have nx3:l3≠x:=(aH X4 hl3).symm;have K6:∀b o,b≠x->H4 b=some o->(upd H5 x (.ins t.aY dx (bZ "resting" (.ref l3) (bZ "going" (.ref l2) (bZ "prices" (.ref l1) (bZ "ways" (.ref wa) [])))))) b=some o:=λb o z h=>by rw[aK z];exact g5 _ _ h
 have X6:(upd H5 x (.ins t.aY dx (bZ "resting" (.ref l3) (bZ "going" (.ref l2) (bZ "prices" (.ref l1) (bZ "ways" (.ref wa) [])))))) x=some (.ins t.aY dx (bZ "resting" (.ref l3) (bZ "going" (.ref l2) (bZ "prices" (.ref l1) (bZ "ways" (.ref wa) []))))):=aB;have R6:(upd H5 x (.ins t.aY dx (bZ "resting" (.ref l3) (bZ "going" (.ref l2) (bZ "prices" (.ref l1) (bZ "ways" (.ref wa) [])))))) l3=some (.lst ((left ws (ws.map (g0 ps)) ns).map V.int)):=by rw[aK nx3];exact R5
 have F6:∀b,(upd H5 x (.ins t.aY dx (bZ "resting" (.ref l3) (bZ "going" (.ref l2) (bZ "prices" (.ref l1) (bZ "ways" (.ref wa) [])))))) b=none->H4 b=none:=λb z=>by
  by_cases y:b=x
  ·subst y;rw[aB]at z;cases z
  ·rw[aK y]at z;exact g5.free z
 generalize upd H5 x (.ins t.aY dx (bZ "resting" (.ref l3) (bZ "going" (.ref l2) (bZ "prices" (.ref l1) (bZ "ways" (.ref wa) [])))))=H6 at K6 X6 R6 F6;have K06:∀b o,b≠x->H b=some o->H6 b=some o:=λb o z h=>K6 b o z (K04 b o z h);have P6:=K6 _ _ nx1 P4;have G6:=K6 _ _ nx2 G4;refine⟨_,(b8 rfl p na wa ns ws rfl ⟨ wk K06,hab,hn,hm,λda rows ds H7 hda hrows g7 D7 ra dk=>?_⟩)⟩;refine(aJ _ rfl x _ dx _ rfl ⟨ g7 _ _ X6,T.bV,T.oP,(by show 4<1000;decide),?_⟩);have nxd:da≠x:=(aH X6 hda).symm;have K8:∀b o,b≠x->H7 b=some o->(upd H7 x (.ins t.aY dx (sW wa l1 l2 l3 da))) b=some o:=λb o z h=>by rw[aK z];exact h
 have wk8:=wk (H':=upd H7 x (.ins t.aY dx (sW wa l1 l2 l3 da))) λb o z h=>K8 _ _ z (g7 _ _ (K06 b o z h));have fr1:H l1=none:=F1 _ hl1;have fr2:H l2=none:=F1 _ (F2 _ hl2);have fr3:H l3=none:=F1 _ (F2 _ (F4 _ hl3));have no:∀{l:Addr}{o:HO},H6 l=some o->H l=none->l∉wa::da::rows:=λ{l o} h6 h0 z=>by
  rcases Zn.mp z with rfl | z
  ·rw[e1]at h0;cases h0
  ·rcases Zn.mp z with rfl | z
   ·rw[hda]at h6;cases h6
   ·rw[hrows _ z]at h6;cases h6
 refine q (upd H7 x (.ins t.aY dx (sW wa l1 l2 l3 da))) ⟨wa,l1,l2,l3,da,rows⟩ ds (λb o z h=>K8 _ _ z (g7 _ _ (K06 b o z h))) ⟨⟨dx,aB⟩,wk8.w,K8 _ _ nx1 (g7 _ _ P6),K8 _ _ nx2 (g7 _ _ G6),K8 _ _ nx3 (g7 _ _ R6),K8 _ _ nxd D7,ra.1,λi l hl=>?_,no P6 fr1,no G6 fr2,no R6 fr3,?_,?_,?_⟩ dk fr1 fr2 fr3
 ·obtain⟨a,a1,a2⟩:=ra.2 i l hl;exact⟨a,a1,a2.keep λb xs=>⟨λy e=>K8 _ _ (dI e (g7 _ _ X6) (by intro z;cases z)) e,λe=>K8 _ _ (dI e (g7 _ _ X6) (by intro z;cases z)) e⟩⟩
 ·intro z;have z:l1=l2:=z;rw[<-z,P2]at hl2;cases hl2
 ·intro z;have z:l1=l3:=z;rw[<-z,P4]at hl3;cases hl3
 ·intro z;have z:l2=l3:=z;rw[<-z,G4]at hl3;cases hl3
end
end K29
namespace K29
open PySem L2 PyProof.Rows NM
def Unl(ns:List Int)(n:Nat):Prop:=ns≠[]/\(∀x∈ns,0<=x/\x<(n:Int))/\ns.Nodup
def among(ns:List Int)(n:Nat):List Int:=((List.range n).filter λk:Nat=>decide ((k:Int)∈ns)).map λk:Nat=>(k:Int)
theorem IW(ns:List Int)(n:Nat):among ns (n+1)=among ns n++(if (n:Int)∈ns then [(n:Int)] else []):=by
 unfold among;rw[List.range_succ,List.filter_append,Zt];by_cases h:(n:Int)∈ns<;>simp[h]
theorem lV{ns:List Int}{n:Nat}{x:Int}:x∈among ns n↔x∈ns/\0<=x/\x<(n:Int):=by
 unfold among;constructor
 ·intro h;obtain⟨k,hk,rfl⟩:=Zh.mp h;obtain⟨h1,h2⟩:=Yz.mp hk;have:=Zs.mp h1;exact⟨of_decide_eq_true h2,by lia,by lia⟩
 ·rintro⟨h1,h2,h3⟩;refine Zh.mpr ⟨x.toNat,Yz.mpr ⟨Zs.mpr (by lia),?_⟩,by lia⟩;rw[decide_eq_true_iff];have:((x.toNat:Nat):Int)=x:=by lia
  rw[this];exact h1
theorem tN(ns:List Int)(n:Nat):(among ns n).Pairwise (· < ·):=by
 unfold among;rw[List.pairwise_map];exact((List.pairwise_lt_range (n:=n)).sublist List.filter_sublist).imp λh=>by lia
theorem U7{ns ns':List Int}{n:Nat}(hne:ns≠[])(p:ns'.Perm ns)(s:ns'.Pairwise (·<=·)):ns'=among ns n↔Unl ns n:=by
 constructor
 ·intro h;have hd:(among ns n).Nodup:=(tN ns n).imp λh=>by lia
  refine⟨hne,λx hx=>(lV.mp (h▸(p.mem_iff.mpr hx))).2,?_⟩;rw[h]at p;exact p.nodup_iff.mp hd
 ·intro h;have hd:(among ns n).Nodup:=(tN ns n).imp λh=>by lia
  refine List.Perm.eq_of_pairwise (le:=(·<=·)) (λa b _ _ h1 h2=>Int.le_antisymm h1 h2) s ((tN ns n).imp λh=>by lia) (p.trans ?_);exact(List.perm_ext_iff_of_nodup h.2.2 hd).mpr λx=>⟨λhx=>lV.mpr ⟨hx,h.2.1 x hx⟩,λhx=>(lV.mp hx).1⟩
end K29
namespace NM
open L2 (at0)
def cc(f:Nat->Bool)(w:Way):Option Int:=if f w.a=true/\f w.b=false then w.hi else if f w.b=true/\f w.a=false then some (-w.lo) else some 0
def ind(f:Nat->Bool)(n:Nat):List Int:=(List.range n).map λk=>if f k=true then 1 else 0
theorem IK{f:Nat->Bool}{n k:Nat}(h:k<n):at0 (ind f n) k=if f k=true then 1 else 0:=by
 unfold ind at0;simp[List.getD,h]
theorem cut{f:Nat->Bool}{n:Nat}:∀(ws:List Way) (gs l:List Int) (t d:Int),gs.length=ws.length->(∀(i:Nat) w g,ws[i]?=some w->gs[i]?=some g->inB w g)->l.length=n->(∀w∈ws,w.a<n/\w.b<n) ->
  bnd (cc f) ws t=some d->dot (ind f n) l n-dot (ind f n) (left ws gs l) n<=d-t
 |[],[],l,t,d,_,_,_,_,h=>by cases h;simp[left]
 |[],_::_,_,_,_,hl,_,_,_,_=>by simp at hl
 |_::_,[],_,_,_,hl,_,_,_,_=>by simp at hl
 |w::ws,g::gs,l,t,d,hl,hin,hn,hk,h=>by
  unfold bnd at h;rcases hw:cc f w with _ | x
  ·rw[hw]at h;cases h
  ·rw[hw]at h;have ih:=cut ws gs (step l w g) (t+x) d (by simpa using hl) (λi w' g' h1 h2=>hin (i+1) w' g' (by simpa using h1) (by simpa using h2)) (by rw[r8];exact hn) (λw' h'=>hk w' (Zw _ h')) h;have hab:=hk w Zd;have h1:=hin 0 w g rfl rfl;rw[EN hn hab.1 hab.2,IK hab.1,IK hab.2]at ih;show dot (ind f n) l n-dot (ind f n) (left ws gs (step l w g)) n<=d-t;unfold cc at hw;unfold inB at h1;cases ha:f w.a<;>cases hb:f w.b<;>rw[ha,hb]at hw ih<;>simp at hw ih
   ·lia
   ·lia
   ·have:=h1.2 x hw
    lia
   ·lia
theorem VX{f:Nat->Bool}{needs:List Int}{ws:List Way}{gs:List Int}{d:Int}(hk:∀w∈ws,w.a<needs.length/\w.b<needs.length)(G:nF needs ws gs)(h:bnd (cc f) ws 0=some d):dot (ind f needs.length) needs needs.length<=d:=by
 have:=cut (f:=f) ws gs needs 0 d G.len G.inb rfl hk h;rw[zL (l:=left ws gs needs) _ G.zero]at this
 lia
end NM
namespace K29
open PySem L2 PyProof.Rows NM
theorem E6{l l':List Int}(p:l.Perm l'):l.sum=l'.sum:=by
 induction p with
 |nil=>rfl
 |cons x _ ih=>simp[ih]
 |swap x y l=>simp;lia
 |trans _ _ h1 h2=>exact h1.trans h2
def fof(ns:List Int)(k:Nat):Bool:=decide ((k:Int)∈ns)
def V1(ms ns:List Int):List Int:=(List.range ns.length).map λi=>at0 ms (at0 ns i).toNat
def P3(ms ns:List Int):Int:=(V1 ms ns).sum
theorem J9(ms ns:List Int):V1 ms ns=ns.map λx=>at0 ms x.toNat:=by
 unfold V1;apply Yp;intro i;by_cases h:i<ns.length
 ·rw[Zk,Yk h,Zk,Zz h];unfold at0;simp[List.getD,h]
 ·rw[Zr (by simp;lia),Zr (by simp;lia)]
theorem CA(ms ns:List Int):∀n N,n<=N->((among ns n).map λx=>at0 ms x.toNat).sum=dot (ind (fof ns) N) ms n
 |0,_,_=>rfl
 |n+1,N,h=>by
  rw[IW,Zt,List.sum_append,CA ms ns n N (by lia),tG,IK (by lia)];unfold fof;by_cases hn:(n:Int)∈ns
  ·rw[if_pos hn,if_pos (decide_eq_true hn)];simp
  ·rw[if_neg hn,if_neg (by simp[hn])];simp
theorem P1{ms ns:List Int}(hu:Unl ns ms.length):P3 ms ns=dot (ind (fof ns) ms.length) ms ms.length:=by
 rw[<-CA ms ns ms.length ms.length (Nat.le_refl _)];unfold P3;rw[J9];refine E6 (List.Perm.map _ ?_);have hd:(among ns ms.length).Nodup:=(tN ns ms.length).imp λh=>by lia
 exact(List.perm_ext_iff_of_nodup hu.2.2 hd).mpr λx=>⟨λhx=>lV.mpr ⟨hx,hu.2.1 x hx⟩,λhx=>(lV.mp hx).1⟩
def NF(ms ns:List Int)(ws:List Way):Prop:=Unl ns ms.length/\∃m,bnd (cc (fof ns)) ws 0=some m/\m<P3 ms ns
end K29
namespace FL
open NM L2
theorem RV(ns:List Int):sm ns.length (at0 ns)=ns.sum:=by
 unfold sm;congr 1;apply Yp;intro i;by_cases h:i<ns.length
 ·rw[Zk,Yk h,Zz h];unfold at0;simp[List.getD,h]
 ·rw[Zr (by simp;lia),Zr (by lia)]
theorem VA{m n:Nat}{a b:Nat->Nat}{need g:Nat->Int}(ha:∀k,k<m->a k<n)(hb:∀k,k<m->b k<n):sm n (rs m a b need g)=sm n need:=by
 have e:∀c:Nat->Nat,(∀k,k<m->c k<n)->sm n (λv=>sm m (λk=>if c k=v then g k else 0))=sm m g:=λc hc=>by
  have:=wM (n:=n) (λ_=>1) c g m hc;rw[cW (g:=λv=>sm m (λk=>if c k=v then g k else 0)) λv _=>Int.one_mul _,cW (m:=m) (g:=g) λk _=>Int.one_mul _]at this;exact this
 have e1:sm n (rs m a b need g)=sm n need-sm n (λv=>sm m (λk=>if a k=v then g k else 0))+sm n (λv=>sm m (λk=>if b k=v then g k else 0)):=by
  rw[<-xY,<-CV];rfl
 rw[e1,e a ha,e b hb]
 lia
theorem Q0{f:Way->Option Int}{ws:List Way}{F:Nat->Int}(h:∀(k:Nat) w,ws[k]?=some w->f w=some (F k))(t:Int):bnd f ws t=some (t+sm ws.length F):=by
 have key:∀i,i<=ws.length->bnd f ws t=bnd f (ws.drop i) (t+sm i F):=by
  intro i;induction i with
  |zero=>intro _;rw[wK,Int.add_zero];rfl
  |succ i ih =>
   intro hi;have hw:ws[i]?=some ws[i]:=Zz (by lia);rw[ih (by lia),QZ hw (h i _ hw),dW,Int.add_assoc]
 rw[key _ (Nat.le_refl _),List.drop_length];rfl
theorem Back.len{src:Nat->Int->Nat}{R:List En}{i c:Nat}{bs:List (Nat×Int)}(h:Back src R i bs c):bs.length<=i:=by
 induction h with
 |stop _ _=>exact Nat.zero_le _
 |step _ _ hj _ _ _ ih=>rw[Yq];lia
theorem Back.last{src:Nat->Int->Nat}{R:List En}{i c:Nat}{bs:List (Nat×Int)}(h:Back src R i bs c):bs=[]\/∃q,bs.getLast?=some q/\src q.1 q.2=c:=by
 induction h with
 |stop _ _=>exact .inl rfl
 |@step i j c e u ps g hb hj gu uv p ih =>
  refine .inr ?_;rcases ih with rfl | ⟨q,h1,h2⟩
  ·refine⟨(e.k,e.by_),rfl,?_⟩;cases p with
   |stop g' hb' =>
    rw[gu]at g';cases g';exact uv.symm
  ·refine⟨q,?_,h2⟩;cases ps with
   |nil=>cases h1
   |cons y ps=>rw[List.getLast?_cons_cons];exact h1
theorem N5{f:Nat->Int}:∀{S:List Nat},(∀v∈S,0<=f v)->∀{u:Nat},u∈S->0<f u->0<ss S f
 |v::S,h,u,hu,hp=>by
  have nn:∀{S:List Nat},(∀v∈S,0<=f v)->0<=ss S f:=by
   intro S;induction S with
   |nil=>intro _;exact Int.le_refl _
   |cons w S ih =>
    intro hS;rw[mD];have:=hS w (.head _);have:=ih λx hx=>hS x (.tail _ hx)
    lia
  rw[mD];rcases Zn.mp hu with rfl | hu
  ·have:=nn λx hx=>h x (.tail _ hx)
   lia
  ·have:=N5 (λx hx=>h x (.tail _ hx)) hu hp;have:=h v (.head _)
   lia
end FL
namespace K29
open PySem L2 PyProof.Rows NM FL
theorem W3{ws:List Way}{ps:List Int}(hb:∀w∈ws,∀h,w.hi=some h->w.lo<=h)(hhi:∀w∈ws,NM.rt ps w<0->∃h,w.hi=some h):iC ws.length (aF ws) (bF ws) (loF ws) (hiF ws) (coF ws) (at0 (ws.map (g0 ps))) (at0 ps):=by
 have at_:∀{k:Nat}(hk:k<ws.length),at0 (ws.map (g0 ps)) k=g0 ps ws[k]/\ws[k]?=some ws[k]:=λ{k} hk=>⟨by unfold at0;simp[List.getD,hk],Zz hk⟩
 refine⟨λk hk=>?_,λk hk h hh=>?_,λk hk c=>?_,λk hk c=>?_⟩
 ·obtain⟨e1,e2⟩:=at_ hk;rw[e1,uM e2];unfold g0;split
  ·rename_i c
   obtain⟨h,eh⟩:=hhi _ (Zp hk) c;rw[eh];exact hb _ (Zp hk) h eh
  ·exact Int.le_refl _
 ·obtain⟨e1,e2⟩:=at_ hk;rw[rM e2]at hh;rw[e1];unfold g0;split
  ·rw[hh];exact Int.le_refl _
  ·exact hb _ (Zp hk) h hh
 ·obtain⟨e1,e2⟩:=at_ hk;rw[J1 e2]at c;rw[e1,uM e2];unfold g0;rw[if_neg (by lia)]
 ·obtain⟨e1,e2⟩:=at_ hk;rw[J1 e2]at c;rw[e1,rM e2];unfold g0;obtain⟨h,eh⟩:=hhi _ (Zp hk) c;rw[if_pos c,eh];rfl
theorem VZ{ns gs lot:List Int}{ws:List Way}{co p:Nat->Int}{R:List En}{nr:Nat->Option Int}{pr:Nat->Int->Prop}
  (h:Rch (rs ws.length (aF ws) (bF ws) (at0 ns) (at0 gs)) (sd (aF ws) (bF ws)) (fr (aF ws) (bF ws)) (ln (aF ws) (bF ws) co p) (opn ws.length (loF ws) (hiF ws) (at0 gs)) ns.length pr R [] nr)
  (all:∀k by_,opn ws.length (loF ws) (hiF ws) (at0 gs) k by_->(∃u∈R,u.v=sd (aF ws) (bF ws) k by_)->pr k by_) (nn:∀u∈R,0<=rs ws.length (aF ws) (bF ws) (at0 ns) (at0 gs) u.v)
  {v:Nat}(hv:v<ns.length) (hp:0<rs ws.length (aF ws) (bF ws) (at0 ns) (at0 gs) v) (hl:lot.Perm (R.map λe=>(e.v:Int))):NF ns lot ws:=by
 have mem:∀k:Nat,(k:Int)∈lot↔k∈R.map (·.v):=λk=>by
  rw[hl.mem_iff,Zh,Zh];constructor
  ·rintro⟨e,he,z⟩;exact⟨e,he,by lia⟩
  ·rintro⟨e,he,z⟩;exact⟨e,he,by lia⟩
 obtain⟨u,hu,uv⟩:=h.have_pos hv hp;have shut:∀k by_,opn ws.length (loF ws) (hiF ws) (at0 gs) k by_->sd (aF ws) (bF ws) k by_∈R.map (·.v)->fr (aF ws) (bF ws) k by_∈R.map (·.v):=λk b o z=>by
  obtain⟨u,hu,e⟩:=Zh.mp z;obtain⟨u',hu',e'⟩:=h.shut all o ⟨u,hu,e⟩;exact Zh.mpr ⟨u',hu',e'⟩
 obtain⟨l1,l2,l3⟩:=P0 (need:=at0 ns) h.nd shut;have pos:0<ss (R.map (·.v)) (rs ws.length (aF ws) (bF ws) (at0 ns) (at0 gs)):=N5 (λx hx=>by
  obtain⟨e,he,rfl⟩:=Zh.mp hx;exact nn e he) (Zh.mpr ⟨u,hu,uv⟩) hp
 refine⟨⟨λz=>?_,λx hx=>?_,?_⟩,sm ws.length (λk=>if aF ws k∈R.map (·.v) then (if bF ws k∈R.map (·.v) then 0 else at0 gs k) else if bF ws k∈R.map (·.v) then-at0 gs k else 0),?_,?_⟩
 ·have:=(mem u.v).mpr (Zh.mpr ⟨u,hu,rfl⟩);rw[z]at this;cases this
 ·obtain⟨e,he,rfl⟩:=Zh.mp (hl.mem_iff.mp hx);have:=h.lt e (by simpa using he);constructor<;>lia
 ·refine hl.nodup_iff.mpr ?_;rw[show(R.map λe=>(e.v:Int))=(R.map (·.v)).map λk:Nat=>(k:Int) by rw[Yh];rfl];exact List.pairwise_map.mpr (h.nd.imp λz y=>z (by lia))
 ·rw[Q0 (F:=λk=>if aF ws k∈R.map (·.v) then (if bF ws k∈R.map (·.v) then 0 else at0 gs k) else if bF ws k∈R.map (·.v) then-at0 gs k else 0) λk w hw=>?_,Int.zero_add];have hk:=(Zj.mp hw).1;unfold cc;have ea:fof lot w.a=decide (aF ws k∈R.map (·.v)):=by unfold fof;rw[qN hw];exact decide_eq_decide.mpr (mem _)
  have eb:fof lot w.b=decide (bF ws k∈R.map (·.v)):=by unfold fof;rw[tL hw];exact decide_eq_decide.mpr (mem _)
  rw[ea,eb];by_cases x:aF ws k∈R.map (·.v)<;>by_cases y:bF ws k∈R.map (·.v)
  ·rw[decide_eq_true x,decide_eq_true y,if_pos x,if_pos y];rfl
  ·rw[decide_eq_true x,decide_eq_false y,if_pos x,if_neg y,if_pos ⟨rfl,rfl⟩,<-rM hw];exact l1 k hk x y
  ·have:=l2 k hk y x;rw[decide_eq_false x,decide_eq_true y,if_neg x,if_pos y,if_neg (by simp),if_pos ⟨rfl,rfl⟩,this,uM hw]
  ·rw[decide_eq_false x,decide_eq_false y,if_neg x,if_neg y];rfl
 ·have e1:P3 ns lot=ss (R.map (·.v)) (at0 ns):=by
   unfold P3 ss;rw[J9,E6 (hl.map _),Yh,Yh];congr 1
  rw[e1];have e2:sm ws.length (λk=>if aF ws k∈R.map (·.v) then (if bF ws k∈R.map (·.v) then 0 else-at0 gs k) else if bF ws k∈R.map (·.v) then at0 gs k else 0)=sm ws.length (λ_=>0)-sm ws.length (λk=>if aF ws k∈R.map (·.v) then (if bF ws k∈R.map (·.v) then 0 else at0 gs k) else if bF ws k∈R.map (·.v) then-at0 gs k else 0):=by
   rw[<-xY];refine cW λk _=>?_;by_cases x:aF ws k∈R.map (·.v)<;>by_cases y:bF ws k∈R.map (·.v)<;>simp only[x,y,if_true,if_false]<;>lia
  rw[e2,xZ]at l3
  lia
theorem QH{ns gs ps:List Int}{ws:List Way}(hl:gs.length=ws.length)(hab:∀w∈ws,w.a<ns.length/\w.b<ns.length)(sr:iC ws.length (aF ws) (bF ws) (loF ws) (hiF ws) (coF ws) (at0 gs) (at0 ps))
  (z:∀v,v<ns.length->rs ws.length (aF ws) (bF ws) (at0 ns) (at0 gs) v=0):nF ns ws gs:=by
 refine⟨hl,λi w g hw hg=>?_,λk hk=>by rw[DF hl hab];exact z k hk⟩;obtain⟨hi,eg⟩:=Zj.mp hg;have e0:at0 gs i=g:=by unfold at0;simp[List.getD,hg]
 have hi':i<ws.length:=by lia
 have h1:=sr.low i hi';rw[e0,uM hw]at h1;refine⟨h1,λh hh=>?_⟩;have:=sr.high i hi' h (by rw[rM hw];exact hh);rw[e0]at this;exact this
theorem V0{ns lot:List Int}{ws:List Way}(hab:∀w∈ws,w.a<ns.length/\w.b<ns.length)(h:NF ns lot ws)(gs:List Int):¬nF ns ws gs:=λG=>by
 obtain⟨u,m,e,hm⟩:=h;have:=VX hab G e;rw[P1 u]at hm
 lia
theorem TY{ns gs ps:List Int}{ws:List Way}(hl:gs.length=ws.length)(hab:∀w∈ws,w.a<ns.length/\w.b<ns.length)(sr:iC ws.length (aF ws) (bF ws) (loF ws) (hiF ws) (coF ws) (at0 gs) (at0 ps))
  (z:∀v,v<ns.length->rs ws.length (aF ws) (bF ws) (at0 ns) (at0 gs) v=0):bnd (due ps) ws (dot ps ns ns.length)=some (nG ws gs):=by
 have ha:∀k,k<ws.length->aF ws k<ns.length:=λk hk=>by rw[qN (Zz hk)];exact(hab _ (Zp hk)).1
 have hb:∀k,k<ws.length->bF ws k<ns.length:=λk hk=>by rw[tL (Zz hk)];exact(hab _ (Zp hk)).2
 rw[Q0 (F:=λk=>FL.rt (aF ws) (bF ws) (coF ws) (at0 ps) k*at0 gs k) λk w hw=>?_]
 ·have c:=TU (co:=coF ws) (p:=at0 ps) z ha hb;have e1:dot ps ns ns.length=sm ns.length (λv=>at0 ps v*at0 ns v):=rfl;have e2:nG ws gs=sm ws.length (λk=>coF ws k*at0 gs k):=by
   rw[DU ⟨0,0,0,none,0⟩ ws gs hl];refine cW λk hk=>?_;rw[QX (Zz hk)];simp[List.getD,hk]
  rw[e1,e2,c]
 ·have hk:=(Zj.mp hw).1;have e:=J1 hw ps;unfold due;rw[<-e];by_cases h1:0<FL.rt (aF ws) (bF ws) (coF ws) (at0 ps) k
  ·rw[if_pos h1,sr.over k hk h1,uM hw]
  ·rw[if_neg h1];by_cases h2:FL.rt (aF ws) (bF ws) (coF ws) (at0 ps) k<0
   ·have:=sr.under k hk h2;rw[rM hw]at this;rw[if_pos h2,this]
   ·have:FL.rt (aF ws) (bF ws) (coF ws) (at0 ps) k=0:=by lia
    rw[if_neg h2,this,Int.zero_mul]
theorem Q1{ns gs ps:List Int}{ws:List Way}(hl:gs.length=ws.length)(hab:∀w∈ws,w.a<ns.length/\w.b<ns.length)(hb:∀w∈ws,∀h,w.hi=some h->w.lo<=h)(sr:iC ws.length (aF ws) (bF ws) (loF ws) (hiF ws) (coF ws) (at0 gs) (at0 ps))
  (z:∀v,v<ns.length->rs ws.length (aF ws) (bF ws) (at0 ns) (at0 gs) v=0) (g':List Int) (G:nF ns ws g'):nG ws gs<=nG ws g':=by
 have e:=TY hl hab sr z;rw[<-B5 ws _ λw hw=>MR ps w (hb w hw)]at e;exact SY hab G e
section
def EO:Sp:=λvs H Q _=>∃(p pa na wa:Addr) (ns:List Int) (ws:List Way) (ps:List Int),vs=[.ref p,.ref pa]/\lY H p na wa ns ws/\GS ns ws/\ns.length<60/\H pa=some (.lst (ps.map V.int))/\ps.length=ns.length/\(∀w∈ws,NM.rt ps w<0->∃h,w.hi=some h) /\
 (∀(r l1 l2 l3:Addr) (lot:List Int) (H':Hp),aZ H H'->H' r=some (.tup [.ref l1,.ref l2,.ref l3])->H' l3=some (.lst (lot.map V.int))->NF ns lot ws->lot.length<=ns.length->Q (.ref r) H') /\
 (∀(r ga pb l3:Addr) (gs:List Int) (H':Hp),aZ H H'->H' r=some (.tup [.ref ga,.ref pb,.ref l3])->H' ga=some (.lst (gs.map V.int))->H' l3=some (.lst [])->nF ns ws gs->(∀g',nF ns ws g'->nG ws gs<=nG ws g')->Q (.ref r) H')
theorem MH(T:Txt K mg t)(AZ:bT P w K mg base CX0 2 t.iU t.iT ["self","net","prices"] (OE t.aY))(T6:bT P w K mg base CX0 2 t.EA t.DS ["search"] (JP t.aY))(AF:bT P w K mg base CX0 1 t.kA t.j6 ["search","reached","last"] (JQ t.aY))
  (NG:bT P w K mg base CX0 2 t.uW t.uR ["search","reached","last"] (OB t.aY)) (WJ:bT P w K mg base CX0 2 t.IX t.IU ["search","path","last"] (OA t.aY)):bT P w K mg base CX0 4 t.AD t.zS ["net","prices"] EO:=by
 refine T.zH.F.ok BA (λvs H Q E h=>?_) (λcdv A outer s H vs Q E hr h=>?_)
 ·obtain⟨p,pa,na,wa,ns,ws,ps,rfl,_⟩:=h;rfl
 obtain⟨p,pa,na,wa,ns,ws,ps,rfl,hN,hO,h60,hP,pl,hhi,qlot,qbest⟩:=h;have nd:=BA.nd;refine⟨_,(aC (aW 2 nd (SF T.MN AZ (hr.mono (by decide)) rfl T.PZ T.AX .nil aX (aA (pv 0) (aA (pv 1) aE))))
  (aC (iV PassesOwn.never (fA (a8 (NA rfl) rfl T.WO boot_any (aA (fB (pv 2) rfl) aE)) (λ_=>rfl)) (aC (aW 3 nd (bK T6 hr T.KP aX (aA (pv 2) aE)))
  (aC (aW 4 nd (aN rL (gN (IV rfl) rfl T.xG boot_list (aA (pv 3) aE)) (sO mC aG) (λ_ _=>rfl)))
  (aC (dH (bH UK (aN aQ (fB (pv 2) rfl) (pv 4) (λ_ _=>rfl)) aG (bO _)) (aL (bE (cH (aA (cC aE) (aA (cC aE) (aA (a8 (DX rfl) rfl T.xF boot_sorted (aA (pv 3) aE)) aE)))))) bW)
  (aC (bX (bK AF hr T.oY aX (aA (pv 2) (aA (pv 3) (aA (pv 4) aE)))))
  (aL (bX (bK WJ hr T.QN aX (aA (pv 2) (aA (bK NG hr T.BP aX (aA (pv 2) (aA (pv 3) (aA (pv 4) aE)))) (aA (pv 4) aE)))))))))))
  (aL (bE (cH (aA (fB (pv 2) rfl) (aA (fB (pv 2) rfl) (aA (cC aE) aE)))))))),?_⟩
 have hab:∀w∈ws,w.a<ns.length/\w.b<ns.length:=λw hw=>⟨(hO.w w hw).a,(hO.w w hw).b⟩
 have haF:∀k,k<ws.length->aF ws k<ns.length:=λk hk=>by rw[qN (Zz hk)];exact(hab _ (Zp hk)).1
 have hbF:∀k,k<ws.length->bF ws k<ns.length:=λk hk=>by rw[tL (Zz hk)];exact(hab _ (Zp hk)).2
 refine⟨_,rfl,_,rfl,λx dx nx ndx nex=>?_⟩;have s0:aZ H (upd (upd H dx (.own x)) x (.ins t.aY dx [])):=λb o e=>by rw[aK (aH e nx),aK (aH e ndx)];exact e
 refine(bM x dx p pa na wa ns (gH ws ps rfl aB (hN.mono s0) (s0 _ _ hP) pl ⟨ hab,hO.n2,hO.w2,hhi,λH1 A1 ds k1 S1 dk f1 f2 f3=>⟨rfl,?_⟩⟩));have g1:aZ H H1:=λb o e=>k1 _ _ (aH e nx) (s0 _ _ e);have gl0:(ws.map (g0 ps)).length=ws.length:=by rw[Zq]
 refine⟨λm σ H'=>∃(ps gs rs:List Int),m=(sm ns.length (λv=>max (at0 rs v) 0)).toNat/\aZ H H'/\SAt t.aY H' x A1 ws ds ps gs rs/\SOk ns.length ws ds ps gs rs/\iC ws.length (aF ws) (bF ws) (loF ws) (hiF ws) (coF ws) (at0 gs) (at0 ps) /\
  (∀v,v<ns.length->at0 rs v=FL.rs ws.length (aF ws) (bF ws) (at0 ns) (at0 gs) v)/\∃o3 o4:Option V,σ=[some (.ref p),some (.ref pa),some (.ref x),o3,o4],
  (aM _ ps _ _ rfl g1 S1 ⟨ ⟨pl,gl0,sU _ _ _,hab,dk⟩,W3 (λw hw h hh=>((hO.w w hw).hi h hh).1) hhi,λv _=>DF gl0 hab v,_,_,rfl⟩),?_⟩
 have fp:=s0.free f1;have fg:=s0.free f2;have fr':=s0.free f3;clear S1 k1 g1 gl0 hhi pl hP ps;rintro m σ H' ⟨ps,gs,rs,rfl,g,S,O,sr,hrs,o3,o4,rfl⟩;obtain⟨dx1,ob⟩:=S.ob;have hz:sm ns.length (at0 rs)=0:=by
  rw[cW hrs,VA haF hbF,RV,hO.z]
 refine⟨_,(b8 rfl x _ dx1 _ _ rfl (xP ob T.bV T.cN (fV _ _ _ _ _) A1.r rs rfl ⟨ SqL.of S.r,_,rfl,?_⟩))⟩;have hany:rs.any (· != 0)=true↔∃v,v<ns.length/\at0 rs v≠0:=by
  rw[List.any_eq_true];constructor
  ·rintro⟨y,hy,hne⟩;obtain⟨i,hi,rfl⟩:=Yy.mp hy;refine⟨i,by rw[<-O.rl];exact hi,?_⟩;unfold at0;simpa[List.getD,hi] using hne
  ·rintro⟨v,hv,hne⟩;exact⟨at0 rs v,xE (by rw[O.rl];exact hv),by simpa using hne⟩
 refine kG (λc=>?_) (λc=>?_)
 ·obtain⟨v0,hv0,hne⟩:=hany.mp c;obtain⟨v1,hv1,hp1⟩:=OH hz hv0 hne;refine⟨_,λσ' H'' h=>h,?_⟩;refine⟨_,rfl,(bM x A1 ws ds ps gs rs (xI ns.length rfl S O (by lia) hO.w2 sr (λd H2 R hd g2 d2 t2 out=>?_)))⟩;have out':=out.congr (rest':=FL.rs ws.length (aF ws) (bF ws) (at0 ns) (at0 gs)) hrs;have S2:=S.mono g2;have g02:=g.trans g2;have hlast:∃(R':List (Addr×En)) (y:Addr×En),R=R'++[y]:=by
   rcases List.eq_nil_or_concat R with z | ⟨R',y,z⟩
   ·exfalso;subst z;rcases out with⟨R',e,W,nr,pr,z,_⟩ | ⟨nr,pr,h,_⟩
    ·cases R'<;>cases z
    ·obtain⟨u,hu,_⟩:=h.have_pos hv1 hp1;cases hu
   ·exact⟨R',y,by rw[z,List.concat_eq_append]⟩
  obtain⟨R',y,rfl⟩:=hlast;have rdl:∀{H3:Hp},aZ H2 H3->Rd H3 d (.dK (kvR (R'++[y]))):=λg3=>.inl (g3 _ _ d2);have hyv:y.2.v<ns.length:=by
   rcases out with⟨_,_,_,_,_,_,h,_⟩ | ⟨_,_,h,_⟩
   ·exact h.lt _ (List.mem_append_left _ (by unfold es;simp))
   ·exact h.lt _ (List.mem_append_left _ (by unfold es;simp))
  have ndv:((es (R'++[y])).map (·.v)).Nodup:=by
   rcases out with⟨_,_,_,_,_,_,h,_⟩ | ⟨_,_,h,_⟩
   ·exact h.nd
   ·exact h.nd
  refine(dS _ rfl d _ _ rfl (.inl d2) ⟨ FO _,λl hl=>?_⟩);have g3:=aI hl (.lst (((es (R'++[y])).map λe=>(e.v:Int)).map V.int));refine⟨_,rfl,.inl (aM l _ _ (vn y.2.v) rfl rfl (SqL.of aB) ⟨ zW (by unfold es;simp),?_⟩)⟩;have S3:=S2.mono g3;have g03:=g02.trans g3;have d3:=g3 _ _ d2;have t3:∀z∈R'++[y],(upd H2 l (.lst (((es (R'++[y])).map λe=>(e.v:Int)).map V.int))) z.1=some (.tup (ev z.2)):=λz hz=>g3 _ _ (t2 z hz);have fd:H d=none:=g.free hd;have fdn:d≠A1.p/\d≠A1.g/\d≠A1.r:=⟨λz=>(by rw[z,S.p]at hd;cases hd),λz=>(by rw[z,S.g]at hd;cases hd),λz=>(by rw[z,S.r]at hd;cases hd)⟩
  clear d2 t2 S2 g02 rdl hl g3;generalize upd H2 l (.lst (((es (R'++[y])).map λe=>(e.v:Int)).map V.int))=H3 at S3 g03 d3 t3;obtain⟨dx3,ob3⟩:=S3.ob;refine⟨_,(b8 rfl x _ dx3 _ _ rfl (bQ ob3 T.bV T.cN (fV _ _ _ _ _) _ rfl (aM A1.r _ _ _ rfl rfl (SqL.of S3.r) (lG (dG (j:=y.2.v) (by rw[O.rl];exact hyv) rfl) _ _ rfl rfl _ rfl ?_))))⟩;have ees:es (R'++[y])=es R'++[y.2]:=by unfold es;rw[Zt];rfl
  rcases out' with⟨E',e,W,nr,pr,hE,rc,all,neg⟩ | ⟨nr,pr,rc,all,nn⟩
  ·
   rw[ees]at hE;obtain⟨rfl,hE2⟩:=List.append_inj' hE rfl;have hE3:y.2=e:=by simpa using hE2
   subst hE3;rw[ees]at rc;have negy:at0 rs y.2.v<0:=by rw[hrs _ hyv];exact neg
   refine fU (decide_eq_false (by lia)) ?_;obtain⟨bs,cb,hB,hcn,hcp⟩:=Back.there rc ((es R').length+1) (es R').length (Nat.lt_succ_self _) (by rw[Zm];exact Nat.lt_succ_self _);have hbo:=λq hq=>(hB.open_ rc q hq).1;have hbs:∀q∈bs,q.1<ws.length/\(q.2=1\/q.2 = -1):=λq hq=>⟨(hbo q hq).1,jL (hbo q hq)⟩
   have hbl:bs.length<=1000:=by
    have h1:=hB.len;have h2:=rc.few;rw[Zm]at h2
    lia
   have hgt:(es R'++[y.2])[(es R').length]?=some y.2:=by rw[Zy (Nat.le_refl _),Nat.sub_self];rfl
   obtain⟨ql,hql,hqc⟩:∃q,bs.getLast?=some q/\sd (aF ws) (bF ws) q.1 q.2=cb:=by
    rcases hB.last with z | z
    ·exfalso;subst z;cases hB with
     |stop gg _ =>
      rw[hgt]at gg;cases gg
      lia
    ·exact z
   have hcp':0<at0 rs cb:=by rw[hrs _ hcn];exact hcp
   refine(bJ _ rfl _ rfl _ rfl (bM x d A1 ws ds ps gs (bN rs (R'++[y]) y rfl S3 d3 (λz hz=>⟨t3 z hz,?_⟩) ⟨ ndv,by simp,λH4 ps' k4 p4 rd4 l4 a4=>?_⟩)))
   ·rw[O.pl];refine rc.lt z.2 (List.mem_append_left _ ?_);rw[<-ees];exact Zh.mpr ⟨z,hz,rfl⟩
   have S4:SAt t.aY H4 x A1 ws ds ps' gs rs:=S3.into (λb o h1 _ _ hk h=>k4 _ _ h1 (dI h d3 (hk _)) h) p4 (k4 _ _ S3.pg.symm fdn.2.1.symm S3.g) (k4 _ _ S3.pr.symm fdn.2.2.symm S3.r);have t4:∀z∈R'++[y],H4 z.1=some (.tup (ev z.2)):=λz hz=>k4 _ _ (dI (t3 z hz) S3.p (by intro y;cases y)) (dI (t3 z hz) d3 (by intro y;cases y)) (t3 z hz);have g4:aZ H H4:=λb o h=>k4 _ _ (aH h fp) (aH h fd) (g03 _ _ h);have hBl:(es R').length=R'.length:=by unfold es;rw[Zq]
   have hB':=hB;rw[<-ees,hBl]at hB';refine(bJ _ rfl _ rfl _ rfl ⟨ _,rfl,(bM x d A1 ws ds ps' gs (eY rs (R'++[y]) y R'.length cb bs rfl (eK S4 rd4 t4 ndv (by rw[Zy (Nat.le_refl _),Nat.sub_self];rfl) hB' hbs ⟨ hbl,λlp H5 hlp g5 dr5=>?_⟩)))⟩);have S5:=S4.mono g5;have nlg:lp≠A1.g:=λz=>by rw[z,S4.g]at hlp;cases hlp
   have nlr:lp≠A1.r:=λz=>by rw[z,S4.r]at hlp;cases hlp
   refine⟨_,rfl,(bM x lp A1 ws ds ps' gs (aM rs bs ql y.2.v rfl S5 dr5 (eK nlg nlr hql hbl hbs O.gl (by rw[hqc,O.rl];exact hcn) ⟨ by rw[O.rl];exact hyv,λxx H6 gs' rs' x1 x2 x3 x4 k6 e6 l6 a6 r6 lr6 b6=>?_⟩)))⟩;rw[hqc]at x1 x4 b6;have hx1:1<=xx:=by
    rcases x4 with z | z | ⟨q,hq,z⟩
    ·lia
    ·lia
    ·have rr:=sr.room (hbo q hq);have hk:=(hbs q hq).1;unfold rm at z;rcases(hbs q hq).2 with e1 | e1
     ·rw[e1,if_neg (by decide)]at z;obtain⟨h,z1,z2⟩:=Xz.mp z;have:=rr.1 e1 h z1
      lia
     ·rw[e1,if_pos (by decide)]at z;have:=rr.2 e1;have:=Option.some.inj z
      lia
   have eg:at0 gs'=fS (at0 gs) xx bs:=funext a6;have ep:at0 ps'=λv=>at0 ps v+lift (es R'++[y.2]) y.2.d v:=by
    funext v
    rw[a4,ees]
   obtain⟨sr',hrs'⟩:=sr.step rc all hB hx1 (λq hq e1 h hh=>x3 q hq _ (by unfold rm;rw[e1,if_neg (by decide),hh];rfl)) (λq hq e1=>x3 q hq _ (by unfold rm;rw[e1,if_pos (by decide)]));rw[<-eg,<-ep]at sr';rw[<-eg]at hrs';have hrs6:∀v,v<ns.length->at0 rs' v=FL.rs ws.length (aF ws) (bF ws) (at0 ns) (at0 gs') v:=λv hv=>by rw[b6,hrs',hrs v hv]
   have less:=IE (n:=ns.length) (c:=cb) (l:=y.2.v) (r:=at0 rs) (r':=at0 rs') hcn (λv _=>b6 v) x1 x2 hx1;have nn6:0<=sm ns.length (λv=>max (at0 rs' v) 0):=LU λk _=>Int.le_max_right _ _;refine(dS _ ?_ ps' gs' rs' rfl (λb o h=>k6 _ _ (aH h fg) (aH h fr') (g5 _ _ (g4 _ _ h))) ⟨ S5.into (λb o _ h2 h3 _ h=>k6 _ _ h2 h3 h) (k6 _ _ S5.pg S5.pr S5.p) e6 r6,⟨by rw[l4];exact O.pl,by rw[l6];exact O.gl,by rw[lr6];exact O.rl,hab,dk⟩,sr',hrs6,_,_,rfl⟩)
   lia
  ·
   have nny:0<=at0 rs y.2.v:=by rw[hrs _ hyv];exact nn _ (by rw[ees];simp)
   refine gC (decide_eq_true nny) ?_;refine⟨(by show 0<=ZW;decide),λl1 hl1=>?_⟩;have k1:=aI hl1 (.lst []);refine⟨(by show 0<=ZW;decide),λl2 hl2=>?_⟩;have k2:=aI hl2 (.lst []);have few:=rc.few;refine(dS _ rfl d _ _ rfl (.inl ((k1.trans k2) _ _ d3)) ⟨ FO _,by rw[Zq];lia,λl3 lot hl3 hperm hsort=>?_⟩);have k3:=aI hl3 (.lst (lot.map V.int));refine⟨(by show 3<=ZW;decide),λr hr'=>?_⟩;have k4:=aI hr' (.tup [.ref l1,.ref l2,.ref l3]);refine qlot r l1 l2 l3 lot _ (g03.trans (k1.trans (k2.trans (k3.trans k4)))) aB (k4 _ _ aB) (VZ rc all nn hv1 (by rw[<-hrs _ hv1];exact hp1) hperm) (by rw[hperm.length_eq,Zq];lia)
 ·
  have hall:∀v,v<ns.length->at0 rs v=0:=λv hv=>ZT λz=>c (hany.mpr ⟨v,hv,z⟩);refine⟨_,(b8 rfl x _ dx1 _ _ rfl (bQ ob T.bV T.fC (sX _ _ _ _ _) _ rfl (dA x _ dx1 _ _ rfl ob ⟨ T.bV,T.gL,uP _ _ _ _ _,(by show 0<=ZW;decide),λl3 hl3=>?_⟩)))⟩;have k3:=aI hl3 (.lst []);refine⟨(by show 3<=ZW;decide),λr hr'=>?_⟩;have k4:=aI hr' (.tup [.ref A1.g,.ref A1.p,.ref l3]);exact qbest r A1.g A1.p l3 gs _ (g.trans (k3.trans k4)) aB ((k3.trans k4) _ _ S.g) (k4 _ _ aB) (QH O.gl hab sr λv hv=>by rw[<-hrs v hv];exact hall v hv) (Q1 O.gl hab (λw hw h hh=>((hO.w w hw).hi h hh).1) sr λv hv=>by rw[<-hrs v hv];exact hall v hv)
end
end K29
namespace K29
open PySem L2 PyProof.Rows NM FL
def fre(ws:List Way)(i:Nat):List Nat:=(List.range i).filter λk=>(hiF ws k).isNone
theorem FR(ws:List Way)(i:Nat):fre ws (i+1)=fre ws i++(if (hiF ws i).isNone=true then [i] else []):=by
 unfold fre;rw[List.range_succ,List.filter_append];congr 1;by_cases z:(hiF ws i).isNone=true
 ·rw[if_pos z,List.filter_cons_of_pos (p:=λk=>(hiF ws k).isNone) z];rfl
 ·rw[if_neg z,List.filter_cons_of_neg (p:=λk=>(hiF ws k).isNone) z];rfl
theorem TH{ws:List Way}{k:Nat}:k∈fre ws ws.length↔k<ws.length/\hiF ws k=none:=by
 unfold fre;rw[Yz,Zs,Option.isNone_iff_eq_none]
theorem KI(ws:List Way)(i:Nat):(fre ws i).length<=i:=by
 have:=List.length_filter_le (λk=>(hiF ws k).isNone) (List.range i);rw[Yj]at this;exact this
def U0:Sp:=λ_ _ _ _=>False
theorem UL{CX:CXT}{k:Nat}{f:Addr}{fd:FuncData}{ps:List Str}:bT P w K mg base CX k f fd ps U0:=⟨λ_ _ _ _ h=>h.elim,λ_ _ _ _ _ _ _ _ _ _ _ _ _ h=>h.elim⟩
def JR:Sp:=λvs H Q _=>∃(p na wa f pr:Addr) (o:V) (ns:List Int) (ws:List Way) (free:List Nat) (ps:List Int),vs=[.ref p,.ref f,.ref pr,o]/\lY H p na wa ns ws/\(∀w∈ws,w.a<ns.length/\w.b<ns.length)/\H f=some (.lst (vns free))/\(∀k∈free,k<ws.length) /\
 H pr=some (.lst (ps.map V.int))/\ps.length=ns.length/\(∀w∈ws,0<=NM.rt ps w)/\Q .non H
theorem PH(T:Txt K mg t)(AE:bT P w K mg base CX0 1 t.zX t.zM ["way","prices"] (CU K)):bT P w K mg base CX0 2 t.kB t.j7 ["net","free","prices","onward"] JR:=by
 refine T.oZ.F.ok m9 (λvs H Q E h=>?_) (λcdv A outer s H vs Q E hr h=>?_)
 ·obtain⟨p,na,wa,f,pr,o,ns,ws,free,ps,rfl,_⟩:=h;rfl
 obtain⟨p,na,wa,f,pr,o,ns,ws,free,ps,rfl,hN,hab,hf,hfr,hP,pl,hz,q⟩:=h;have nd:=m9.nd;have hu:=KH hr;refine⟨_,(aC (aW 4 nd fI)
  (aC (cV PassesOwn.never rfl (cI (pv 1)) (aO (i:=5) nd rfl (Or.inl rfl)) (aC (aW 6 nd (aN aQ (aN aP (pv 0) aG (λ_ _=>rfl)) (pv 5) (λ_ _=>rfl)))
  (aC (aW 7 nd (bK AE hr T.DN aX (aA (pv 6) (aA (pv 2) aE))))
  (aL (dH (bH iX (pv 7) aG (bO _)) (aC (mJ (pv 2) (aN aP (pv 6) aG (λ_ _=>rfl)) jX (pv 7) zC set_list)
  (aC (C7 hu (pv 3) (aN aP (pv 6) aG (λ_ _=>rfl)) (pv 5) rfl)
  (aL (aW 4 nd (aN aP (pv 6) aG (λ_ _=>rfl)))))) bW)))))
  (aL (bE (pv 4))))),?_⟩
 obtain⟨rs,e1,e2,e3⟩:=hN.w;refine(dB _ rfl f rfl ⟨_,SqL.of hf⟩ (jA (xs:=vns free) (λj σ H'=>H=H'/\∃o5 o6 o7:Option V,σ=[some (.ref p),some (.ref f),some (.ref pr),some o,some .non,o5,o6,o7]) ⟨rfl,_,_,_,rfl⟩ (λj σ H' _ h=>by obtain⟨rfl,_⟩:=h;exact SqL.of hf) ?_ ?_))
 ·rintro j x σ H' hx ⟨rfl,o5,o6,o7,rfl⟩;rw[Zk]at hx;obtain⟨k,hk,rfl⟩:=Xz.mp hx;have hkl:=hfr k (Zg hk);obtain⟨r,r1,r2⟩:=e3 k _ (Zz hkl);have ab:=hab _ (Zp hkl);have hz':=hz _ (Zp hkl);refine(aJ _ rfl p _ _ _ rfl (cU rfl (SqT.of hN.tp) rfl _ rfl (aM wa _ _ _ rfl rfl (SqL.of e1) ⟨ dX (by rw[Zk,r1];rfl),?_⟩)));refine⟨_,rfl,(aJ _ rfl r pr (ws[k]) ps rfl ⟨ SqT.of r2,hP,by lia,by lia,?_⟩)⟩;exact(bP _ rfl _ _ rfl rfl ⟨ _,rfl,kG (λz=>absurd (of_decide_eq_true z) (Int.not_lt.mpr hz')) (λ_=>⟨rfl,_,_,_,rfl⟩)⟩)
 ·rintro σ H' ⟨rfl,o5,o6,o7,rfl⟩;exact⟨_,rfl,q⟩
def A6:Sp:=λvs H Q _=>∃(p na wa:Addr) (ns:List Int) (ws:List Way),vs=[.ref p]/\lY H p na wa ns ws/\GS ns ws/\(∀w∈ws,0<=w.c) /\
 ∀(r pa l:Addr) (H':Hp),aZ H H'->H' r=some (.tup [.ref pa,.ref l])->H' pa=some (.lst ((List.replicate ns.length (0:Int)).map V.int))->H' l=some (.lst [])->Q (.ref r) H'
theorem J0{n:Nat}{w:Way}:NM.rt (List.replicate n (0:Int)) w=w.c:=by
 have z:∀k,at0 (List.replicate n (0:Int)) k=0:=λk=>by
  unfold at0;rw[Zv];by_cases h:k<n
  ·simp[h]
  ·simp[h]
 unfold NM.rt;rw[z,z]
 lia
theorem HW(T:Txt K mg t)(AG:bT P w K mg base CX0 2 t.kB t.j7 ["net","free","prices","onward"] JR):bT P w K mg base CX0 3 t.iN t.iM ["net"] A6:=by
 have AY:bT P w K mg base CX0 1 t.qJ t.qE ["net","onward","knot"] U0:=UL;refine T.lO.F.ok kK (λvs H Q E h=>?_) (λcdv A outer s H vs Q E hr h=>?_)
 ·obtain⟨p,na,wa,ns,ws,rfl,_⟩:=h;rfl
 obtain⟨p,na,wa,ns,ws,rfl,hN,hO,hz,qr⟩:=h;have nd:=kK.nd;have nd_number_way:(["number","way"]:List Str).Nodup:=by decide
 have nd_knot:(["knot"]:List Str).Nodup:=by decide
 refine⟨_,(aC (bU (i:=1) nd rfl (Or.inl rfl)  (N':=["knot"]) (js:=[none]) rfl (cI (aN aP (pv 0) aG (λ_ _=>rfl))) (λ_ _ _ _ _=>(aO (i:=0) nd_knot rfl (Or.inl rfl))) (λ_ _ _ _ _=>dJ) (λ_ _ _ _ _=>aG))
  (aC (aW 2 nd yV)
  (aC (bU (i:=3) nd rfl (Or.inl rfl)  (N':=["number","way"]) (js:=[none,none]) rfl (fH rfl T.cK (aA (aN aP (pv 0) aG (λ_ _=>rfl)) aE)) (λ_ _ _ _ _=>(pX (K:=K) (n:=2) rfl rfl (aV (aO (i:=0) nd_number_way rfl (Or.inl rfl)) (aV (aO (i:=1) nd_number_way rfl (Or.inl rfl)) cJ)))) (λ_ _ _ _ _=>(uE (bH oK (aN (DI (K:=K) rfl) (pv 1) aG (λ_ _=>rfl)) fI (bO _)))) (λ_ _ _ _ _=>(pv 0)))
  (aC (aW 4 nd fI)
  (aC (cV PassesOwn.never rfl (cX rfl T.dZ (aA (a8 aU rfl T.dQ PySem.boot_len (aA (pv 1) aE)) aE)) (aO (i:=5) nd rfl (Or.inl rfl)) (aC (aW 4 nd (bK AG hr T.oZ aX (aA (pv 0) (aA (pv 3) (aA (pv 1) (aA (pv 2) aE))))))
  (aL (dH (bH oK (pv 4) fI (bO _)) (aL (bE (cH (aA (pv 1) (aA (cC aE) aE))))) bW))))
  (aL (bE (cH (aA (pv 1) (aA (bK AY hr T.AS aX (aA (pv 0) (aA (pv 2) (aA (pv 4) aE)))) aE)))))))))),?_⟩
 have hn:=hO.n;have hn2:=hO.n2;have hw2:=hO.w2;have hab:∀w∈ws,w.a<ns.length/\w.b<ns.length:=λw hw=>⟨(hO.w w hw).a,(hO.w w hw).b⟩
 refine(aJ _ rfl p _ _ _ rfl (gJ rfl (SqT.of hN.tp) rfl na rfl ⟨_,SqL.of hN.n⟩ (λpa hpa=>?_)));refine dP ns.length (λ_=>.int 0) hpa (by lia) (λi H' hi g=>⟨_,_,SqL.of (g _ _ hN.n),gE hi⟩) (λH' g=>⟨_,SqL.of (g _ _ hN.n),by rw[Zq];exact Nat.le_refl _⟩) ?_ ?_
 ·rintro i H' x H'' k hi g ⟨rfl,hx⟩ hk;exact⟨(Fills.refl _).set _ rfl,hk _ (aZ.refl _)⟩
 intro H1 g1 e1;have en:(List.range ns.length).map (λ_=>V.int 0)=(List.replicate ns.length (0:Int)).map V.int:=by
  apply Yp;intro i;by_cases h:i<ns.length
  ·simp[h]
  ·simp[h]
 rw[en]at e1;intro od hod;have g2:=aI hod (.dK []);have N2:=hN.mono (g1.trans g2);obtain⟨rs,w1,w2,w3⟩:=N2.w;refine(aJ _ rfl p _ _ _ rfl (gJ rfl (SqT.of N2.tp) rfl wa rfl ⟨_,SqL.of w1⟩ (λfa hfa=>?_)));refine m4 ws.length (λi ys H'=>ys=vns (fre ws i)/\aZ (upd H1 od (.dK [])) H'/\H' fa=some (.lst ys)) ⟨rfl,aI hfa _,aB⟩ ?_ ?_
 ·rintro i ys H' hi ⟨rfl,g3,e3⟩;have hw:ws[i]?=some ws[i]:=Zz hi;obtain⟨r,r1,r2⟩:=w3 i _ hw;have gi:(rs.map V.ref)[i]?=some (.ref r):=by rw[Zk,r1];rfl
  refine⟨⟨_,_,SqL.of (g3 _ _ w1),gi⟩,?_⟩;rintro x H'' ⟨Tp,x',rfl,hTp,rfl,hx⟩;have ex:=hx _ (SqL.of (g3 _ _ w1));rw[gi]at ex;cases ex;have g4:=aI hTp (.tup [.int (i:Int),.ref r]);have e4:atI (wv ws[i]) 3=some (vo ws[i].hi):=rfl;have lf:=KI ws i;refine(a9 Tp _ rfl (SqT.of aB) rfl (cF _ _ rfl _ _ rfl rfl ⟨ ((Fills.refl _).set _ rfl).set _ rfl,?_⟩));refine(aJ _ rfl r _ _ _ rfl (bQ rfl (SqT.of (g4 _ _ (g3 _ _ r2))) e4 rfl _ rfl ?_));have eh:=rM hw;rcases hh:ws[i].hi with _ | h
  ·refine vZ (rX _ rfl (g4 _ _ e3) ?_ ?_ ?_ aB)
   ·rw[Zq];exact Ys lf (Yt (by lia:i<1000) (by decide))
   ·rw[FR,if_pos (by rw[eh,hh];rfl)];unfold vns;rw[Zt];rfl
   ·exact λb u h=>by rw[aK (aH h hfa)];exact g4 _ _ (g3 _ _ h)
  ·refine iY ⟨?_,g3.trans g4,g4 _ _ e3⟩;rw[FR,if_neg (by rw[eh,hh];simp),List.append_nil]
 rintro ys H3 ⟨rfl,g3,e3⟩;refine⟨⟨_,SqL.of (g3 _ _ w1),by rw[Zq,w2];exact Nat.le_refl _⟩,?_⟩;have g03:=g1.trans (g2.trans g3);have p3:=(g2.trans g3) _ _ e1;have o3:=g3 _ _ (aB (H:=H1) (a:=od) (o:=.dK []));have N3:=N2.mono g3;have fl:=KI ws ws.length;have nod:od≠pa:=dI o3 p3 (by intro z;cases z);have hod0:H od=none:=g1.free hod;have npf:pa≠fa:=λz=>by rw[<-z,g2 _ _ e1]at hfa;cases hfa
 have npw:pa≠wa:=λz=>by
  obtain⟨rs0,z1,_⟩:=hN.w;rw[z,z1]at hpa;cases hpa
 have npn:pa≠na:=λz=>by rw[z,hN.n]at hpa;cases hpa
 refine(bP _ rfl pa _ rfl (.inl (SqL.of p3)) ⟨ _,rfl,by simp,by simp;lia,?_⟩);have ern:((((List.replicate ns.length (0:Int)).map V.int).length:Nat):Int).toNat=ns.length:=by rw[Zq,List.length_replicate];lia
 refine fZ (lo:=0) (n:=((((List.replicate ns.length (0:Int)).map V.int).length:Nat):Int).toNat) (λi σ H'=>i=0/\H3=H'/\∃o5:Option V,σ=[some (.ref p),some (.ref pa),some (.ref od),some (.ref fa),some .non,o5]) ⟨rfl,rfl,_,rfl⟩ ?_ ?_
 ·rintro i σ H' hi ⟨rfl,rfl,o5,rfl⟩;refine(bJ _ rfl _ rfl _ rfl ⟨ _,rfl,(bM p na wa fa pa _ ns (bN ws (fre ws ws.length) _ rfl N3 hab e3 ⟨ λk hk=>(TH.mp hk).1,p3,by simp,λw hw=>by rw[J0];exact hz w hw,?_⟩))⟩);refine(fF _ rfl rfl _ rfl (vZ ?_));refine⟨_,rfl,(by show 0<=ZW;decide),λl hl=>⟨(by show 2<=ZW;decide),λr hr'=>?_⟩⟩;have m1:=aI hl (.lst []);have m2:=aI hr' (.tup [.ref pa,.ref l]);exact qr r pa l _ (g03.trans (m1.trans m2)) aB ((m1.trans m2) _ _ p3) (m2 _ _ aB)
 ·rintro σ H' ⟨z,_⟩;rw[ern]at z
  lia
def xX:Sp:=λvs H Q _=>∃(p na wa:Addr) (ns:List Int) (ws:List Way),vs=[.ref p]/\lY H p na wa ns ws/\GS ns ws/\(∀w∈ws,0<=w.c)/\ns.length<60 /\
 (∀(r la:Addr) (lot:List Int) (H':Hp),aZ H H'->H' r=some (.tup [.str "none",.ref la])->H' la=some (.lst (lot.map V.int))->NF ns lot ws->lot.length<=ns.length->Q (.ref r) H') /\
 (∀(r ga pb:Addr) (gs:List Int) (H':Hp),aZ H H'->H' r=some (.tup [.str "best",.ref ga,.ref pb])->H' ga=some (.lst (gs.map V.int))->nF ns ws gs->(∀g',nF ns ws g'->nG ws gs<=nG ws g')->Q (.ref r) H')
theorem FB(T:Txt K mg t)(GW:bT P w K mg base CX0 1 t.pH t.pC ["net"] JW)(u3:bT P w K mg base CX0 3 t.iN t.iM ["net"] A6)(GV:bT P w K mg base CX0 4 t.AD t.zS ["net","prices"] EO):bT P w K mg base CX0 5 t.rR t.rP ["net"] xX:=by
 have wF:bT P w K mg base CX0 1 t.nE t.nC ["net"] U0:=UL;refine T.zJ.F.ok vB (λvs H Q E h=>?_) (λcdv A outer s H vs Q E hr h=>?_)
 ·obtain⟨p,na,wa,ns,ws,rfl,_⟩:=h;rfl
 obtain⟨p,na,wa,ns,ws,rfl,hN,hO,hz,h60,qlot,qbest⟩:=h;have nd:=vB.nd;have nd_knot:(["knot"]:List Str).Nodup:=by decide
 refine⟨_,(aC (bX (bK GW hr T.vL aX (aA (pv 0) aE)))
  (aC (aW 1 nd (bK u3 hr T.lO aX (aA (pv 0) aE)))
  (aC (aW 2 nd (aN aP (pv 1) aG (λ_ _=>rfl)))
  (aC (dH (fA (pv 2) (λ_=>rfl)) (aL (aW 3 nd (bK GV hr T.zH aX (aA (bK wF hr T.v9 aX (aA (pv 0) aE)) (aA (gK (N':=["knot"]) (js:=[none]) rfl (cI (aN aP (pv 0) aG (λ_ _=>rfl))) (λ_ _ _ _ _=>(aO (i:=0) nd_knot rfl (Or.inl rfl))) (λ_ _ _ _ _=>dJ) (λ_ _ _ _ _=>aG)) aE))))) (aL (aW 3 nd (bK GV hr T.zH aX (aA (pv 0) (aA (aN aP (pv 1) aG (λ_ _=>rfl)) aE))))))
  (aC (dH (fA (aN aP (pv 3) aG (λ_ _=>rfl)) (λ_=>rfl)) (aL (bE (cH (aA uF (aA (aN aP (pv 3) aG (λ_ _=>rfl)) aE))))) bW)
  (aC (dH (fA (pv 2) (λ_=>rfl)) (aL (bE (cH (aA uF (aA (aN aP (pv 3) aG (λ_ _=>rfl)) (aA (pv 2) aE)))))) bW)
  (aL (bE (cH (aA uF (aA (aN aP (pv 3) aG (λ_ _=>rfl)) (aA (aN aP (pv 3) aG (λ_ _=>rfl)) aE)))))))))))),?_⟩
 refine⟨_,(b8 rfl p na wa ns ws rfl ⟨ hN,hO,?_⟩)⟩;refine⟨_,(b8 rfl p na wa ns ws rfl ⟨ hN,hO,hz,λr0 pa l H1 g1 e0 e1 e2=>?_⟩)⟩;refine(aJ _ rfl r0 _ _ _ rfl ⟨ rfl,SqT.of e0,rfl,?_⟩);refine⟨_,rfl,_,.inl ⟨_,SqL.of e2,rfl⟩,iY ?_⟩;refine⟨_,rfl,(aJ _ rfl r0 _ _ _ rfl ⟨ rfl,SqT.of e0,rfl,(bM p pa na wa ns ws _ (eK rfl (hN.mono g1) hO h60 e1 (by simp) (λw hw c=>?_) ⟨ ?_,?_⟩))⟩)⟩
 ·rw[J0]at c;exact absurd (hz w hw) (Int.not_le.mpr c)
 ·intro r l1 l2 l3 lot H2 g2 f0 f3 hlot h60';refine(aJ _ rfl r _ _ _ rfl (cU rfl (SqT.of f0) rfl _ (.inl ⟨_,SqL.of f3,rfl⟩) (gC (by cases lot with | nil=>exact absurd rfl hlot.1.1 | cons _ _=>rfl) ?_)));refine(aJ _ rfl r _ _ _ rfl ⟨ rfl,SqT.of f0,rfl,(by show 2<=ZW;decide),λr2 hr2=>?_⟩);have k:=aI hr2 (.tup [.str "none",.ref l3]);exact qlot r2 l3 lot _ (g1.trans (g2.trans k)) aB (k _ _ f3) hlot h60'
 ·intro r ga pb l3 gs H2 g2 f0 fg f3 G B;refine(aJ _ rfl r _ _ _ rfl (cU rfl (SqT.of f0) rfl _ (.inl ⟨_,SqL.of f3,rfl⟩) (iY ?_)));refine⟨_,rfl,_,.inl ⟨_,SqL.of (g2 _ _ e2),rfl⟩,iY ?_⟩;refine(aJ _ rfl r _ _ _ rfl (cU rfl (SqT.of f0) rfl _ rfl (aM r _ _ _ rfl rfl (SqT.of f0) ⟨ rfl,(by show 3<=ZW;decide),λr2 hr2=>?_⟩)));have k:=aI hr2 (.tup [.str "best",.ref ga,.ref pb]);exact qbest r2 ga pb gs _ (g1.trans (g2.trans k)) aB (k _ _ fg) G B
end K29
namespace L2
open PySem PyProof.Rows
def TsI(H:Hp)(a:Addr)(ts:AW.Ts):Prop:=∃tr:List Addr,H a=some (.lst (tr.map V.ref))/\tr.length=ts.length/\∀(i:Nat) t,ts[i]?=some t->∃r,tr[i]?=some r/\H r=some (.tup [.int t.1,.int t.2])
def OsI(H:Hp)(a:Addr)(os:AW.Os):Prop:=∃tr:List Addr,H a=some (.lst (tr.map V.ref))/\tr.length=os.length/\∀(i:Nat) l,os[i]?=some l->∃r,tr[i]?=some r/\H r=some (.lst (l.map V.int))
def GR(H:Hp)(w:Addr)(m:Int)(ts:AW.Ts)(os:AW.Os):Prop:=∃tA oA:Addr,H w=some (.tup [.int m,.ref tA,.ref oA])/\TsI H tA ts/\OsI H oA os
theorem TsI.same{H H':Hp}{a:Addr}{ts:AW.Ts}(h:TsI H a ts)(g:aZ H H'):TsI H' a ts:=by
 obtain⟨tr,h1,h2,h3⟩:=h;exact⟨tr,g _ _ h1,h2,λi t e=>let⟨r,q1,q2⟩:=h3 i t e;⟨r,q1,g _ _ q2⟩⟩
theorem OsI.same{H H':Hp}{a:Addr}{os:AW.Os}(h:OsI H a os)(g:aZ H H'):OsI H' a os:=by
 obtain⟨tr,h1,h2,h3⟩:=h;exact⟨tr,g _ _ h1,h2,λi t e=>let⟨r,q1,q2⟩:=h3 i t e;⟨r,q1,g _ _ q2⟩⟩
theorem GR.same{H H':Hp}{w:Addr}{m:Int}{ts:AW.Ts}{os:AW.Os}(h:GR H w m ts os)(g:aZ H H'):GR H' w m ts os:=by
 obtain⟨tA,oA,h1,h2,h3⟩:=h;exact⟨tA,oA,g _ _ h1,h2.same g,h3.same g⟩
theorem TsI.nth{H:Hp}{a:Addr}{ts:AW.Ts}{tr:List Addr}(h1:tr.length=ts.length)(h2:∀(i:Nat) t,ts[i]?=some t->∃r,tr[i]?=some r/\H r=some (.tup [.int t.1,.int t.2])){i:Nat}{x:V}(hx:(tr.map V.ref)[i]?=some x) :
  ∃t r,ts[i]?=some t/\x=.ref r/\H r=some (.tup [.int t.1,.int t.2]):=by
 rw[Zk]at hx;cases e:ts[i]? with
 |none =>
  have:tr[i]?=none:=Zr (by rw[h1];exact List.getElem?_eq_none_iff.mp e);rw[this]at hx;cases hx
 |some t =>
  obtain⟨r,q1,q2⟩:=h2 i t e;rw[q1]at hx;cases hx;exact⟨t,r,rfl,rfl,q2⟩
theorem OsI.nth{H:Hp}{os:AW.Os}{tr:List Addr}(h1:tr.length=os.length)(h2:∀(i:Nat) l,os[i]?=some l->∃r,tr[i]?=some r/\H r=some (.lst (l.map V.int))){i:Nat}{x:V}(hx:(tr.map V.ref)[i]?=some x) :
  ∃l r,os[i]?=some l/\x=.ref r/\H r=some (.lst (l.map V.int)):=by
 rw[Zk]at hx;cases e:os[i]? with
 |none =>
  have:tr[i]?=none:=Zr (by rw[h1];exact List.getElem?_eq_none_iff.mp e);rw[this]at hx;cases hx
 |some t =>
  obtain⟨r,q1,q2⟩:=h2 i t e;rw[q1]at hx;cases hx;exact⟨t,r,rfl,rfl,q2⟩
structure jN(H H':Hp)(r:Addr)(rr:List Addr)(ls:List (List V)):Prop where
 at_:H' r=some (.lst (rr.map V.ref))
 len:rr.length=ls.length
 row:∀(i:Nat) l,ls[i]?=some l->∃x,rr[i]?=some x/\H' x=some (.lst l)
 nd:rr.Nodup
 nin:r∉rr
 new:H r=none
 news:∀x∈rr,H x=none
theorem jN.keep{H H' H2:Hp}{r:Addr}{rr:List Addr}{ls:List (List V)}(n:jN H H' r rr ls)(g:aZ H' H2):jN H H2 r rr ls :=
 ⟨g _ _ n.at_,n.len,λi l h=>let⟨x,h1,h2⟩:=n.row i l h;⟨x,h1,g _ _ h2⟩,n.nd,n.nin,n.new,n.news⟩
theorem aZ.fresh{H H':Hp}(g:aZ H H'){x:Addr}(hx:H x=none)(o:HO):aZ H (upd H' x o):=λb u h=>by rw[aK (aH h hx)];exact g _ _ h
theorem jN.set{H0 H:Hp}{o x:Addr}{rr:List Addr}{ls:List (List V)}(n:jN H0 H o rr ls){p:Nat}{l:List V}(hx:rr[p]?=some x):jN H0 (upd H x (.lst l)) o rr (ls.set p l) where
 at_:=by rw[aK (show o≠x from λz=>n.nin (z▸Zg hx))];exact n.at_
 len:=by rw[List.length_set];exact n.len
 row:=λi m h=>by
  by_cases e:p=i
  ·subst e;have hp:p<ls.length:=n.len▸(Zj.mp hx).1;rw[List.getElem?_set_self hp]at h;cases h;exact⟨x,hx,aB⟩
  ·rw[List.getElem?_set_ne e]at h;obtain⟨y,h1,h2⟩:=n.row i m h;refine⟨y,h1,?_⟩;have ne:y≠x:=by
    rintro rfl;obtain⟨a1,b1⟩:=Zj.mp h1;obtain⟨a2,b2⟩:=Zj.mp hx;exact e ((List.getElem_inj n.nd).mp (b2.trans b1.symm))
   rw[aK ne];exact h2
 nd:=n.nd
 nin:=n.nin
 new:=n.new
 news:=n.news
theorem jN.os{H H':Hp}{r:Addr}{rr:List Addr}{os:AW.Os}(n:jN H H' r rr (os.map λl=>l.map V.int)):OsI H' r os :=
 ⟨rr,n.at_,by rw[n.len,Zq],λi l h=>n.row i _ (by rw[Zk,h];rfl)⟩
theorem B1{J:It}{js:List (Option Nat)}{σ:St}{H1:Hp}{R:Hp->Prop}{D:Addr}{g:TG}{te:TE}(n:Nat)(fs:Nat->List V)(hD:H1 D=none)(hn:n<=100000)
  (go:∀i H',i<n->aZ H1 H'->J.go i H') (stop:∀H',aZ H1 H'->J.stop n H')
  (hs:∀i H' x H'' (k:V->Hp->Prop),i<n->aZ H1 H'->J.yld i H' x H''->(∀a H4,H' a=none->aZ H' H4->H4 a=some (.lst (fs i))->k (.ref a) H4)->g x (inner js σ) H'' λσ2 H2=>Fills (inner js σ) σ2/\te σ2 H2 k)
  (hd:∀(rr:List Addr) H',jN H1 H' D rr ((List.range n).map fs)->aZ H1 H'->R H') :
  ∃W:Nat->Nat->List V->Hp->Prop,(∃m,W 0 m [] (upd H1 D (.lst []))) /\
   ∀i m ys H,W i m ys H->(J.stop i H/\R H)\/(J.go i H/\∃N:List V->Hp->Prop,(∀ys' H',N ys' H'->∃m',m' < m/\W (i+1) m' ys' H')/\∀x H',J.yld i H x H'->g x (inner js σ) H' λσ2 H2=>Fills (inner js σ) σ2/\A5 σ2 H2 λb H3 =>
    if b=true then te σ2 H3 λy H4=>H4 D=some (.lst ys)/\ys.length<ZW/\N (ys++[y]) (upd H4 D (.lst (ys++[y]))) else N ys H3):=by
 refine comp_map n (λi ys H'=>∃rr:List Addr,ys=rr.map V.ref/\jN H1 H' D rr ((List.range i).map fs)/\aZ H1 H') ⟨[],rfl,⟨aB,rfl,λi l h=>by simp at h,List.nodup_nil,by simp,hD,by simp⟩,aI hD _⟩ ?_ ?_
 ·rintro i ys H' hi ⟨rr,rfl,w,g1⟩;have hl:rr.length=i:=by rw[w.len];simp
  refine⟨go i H' hi g1,λx H'' hy=>hs i H' x H'' _ hi g1 hy λa H4 ha g4 e4=>⟨g4 _ _ w.at_,?_,rr++[a],?_,?_,?_⟩⟩
  ·rw[Zq,hl];exact Yt hi (Yr hn (by decide))
  ·rw[Zt];rfl
  ·have aD:a≠D:=λz=>by rw[z,w.at_]at ha;cases ha
   have ain:a∉rr:=λz=>by
    obtain⟨j,hj,e⟩:=Yy.mp z;have hj':j<((List.range i).map fs).length:=w.len▸hj;obtain⟨y,h1,h2⟩:=w.row j _ (Zz hj');rw[Zz hj,e]at h1;cases h1;rw[ha]at h2;cases h2
   refine⟨by rw[Zt];exact aB,by simp[hl],λj l h=>?_,?_,?_,hD,?_⟩
   ·by_cases hj:j<i
    ·have e:((List.range (i+1)).map fs)[j]?=((List.range i).map fs)[j]?:=by simp[hj,YQ hj]
     rw[e]at h;obtain⟨y,h1,h2⟩:=w.row j l h;have yD:y≠D:=λz=>w.nin (z▸Zg h1);exact⟨y,by rw[Zx (by lia)];exact h1,by rw[aK yD];exact g4 _ _ h2⟩
    ·have hj2:j=i:=by
      have:=(Zj.mp h).1;simp at this;lia
     subst hj2;have e:l=fs j:=by simpa using h.symm
     subst e;exact⟨a,by rw[<-hl,Yx],by rw[aK aD];exact e4⟩
   ·rw[List.nodup_append];refine⟨w.nd,by simp,λb hb c hc z=>?_⟩;have e:c=a:=by simpa using hc
    subst e;subst z;exact ain hb
   ·intro z;rcases Zf.mp z with z | z
    ·exact w.nin z
    ·exact aD (Zb.mp z).symm
   ·intro y hy;rcases Zf.mp hy with z | z
    ·exact w.news y z
    ·rw[Zb.mp z];exact g1.free ha
  ·exact(g1.trans g4).fresh hD _
 ·rintro ys H' ⟨rr,rfl,w,g1⟩;exact⟨stop H' g1,hd rr H' w g1⟩
theorem jN.item{H0 H:Hp}{o:Addr}{rr:List Addr}{n:Nat}{f:Nat->List V}(w:jN H0 H o rr ((List.range n).map f)){p:Nat}(hp:p<n) :
  ∃x,rr[p]?=some x/\H x=some (.lst (f p))/\H0 x=none/\atI (rr.map V.ref) (p:Int)=some (.ref x):=by
 obtain⟨x,h1,h2⟩:=w.row p (f p) (by simp[hp]);exact⟨x,h1,h2,w.news x (Zg h1),dX (by rw[Zk,h1];rfl)⟩
theorem set_range{n p:Nat}{f:Nat->List V}{v:List V}:((List.range n).map f).set p v=(List.range n).map λi=>if i=p then v else f i:=by
 refine Yp λi=>?_;rw[List.getElem?_set];by_cases e:p=i
 ·subst e;by_cases h:p<n<;>simp[h]
 ·rw[if_neg e];by_cases h:i<n
  ·simp[h,Ne.symm e]
  ·simp[h]
theorem jN.put{H0 H:Hp}{o x:Addr}{rr:List Addr}{n p:Nat}{f:Nat->List V}(w:jN H0 H o rr ((List.range n).map f))(hx:rr[p]?=some x)(l:List V) :
  jN H0 (upd H x (.lst l)) o rr ((List.range n).map λi=>if i=p then l else f i):=by
 rw[<-set_range];exact w.set hx
theorem jN.other{H0 H:Hp}{o x:Addr}{rr:List Addr}{ls:List (List V)}(n:jN H0 H o rr ls)(h1:x≠o)(h2:x∉rr)(u:HO):jN H0 (upd H x u) o rr ls :=
 ⟨by rw[aK (Ne.symm h1)];exact n.at_,n.len,λi l h=>by
  obtain⟨y,a,b⟩:=n.row i l h;have ne:y≠x:=λz=>h2 (by rw[<-z];exact Zg a);exact⟨y,a,by rw[aK ne];exact b⟩,n.nd,n.nin,n.new,n.news⟩
theorem jN.notIn{H0 H:Hp}{o x:Addr}{rr:List Addr}{ls:List (List V)}(n:jN H0 H o rr ls)(hx:H x=none):x∉rr:=λz=>by
 obtain⟨i,hi,e⟩:=Yy.mp z;obtain⟨y,a,b⟩:=n.row i _ (Zz (n.len▸hi));rw[Zz hi,e]at a;cases a;rw[hx]at b;cases b
theorem UU{tt r:TS}{D:Ends}{σ:St}{H:Hp}(I:St->Hp->Prop)(ht:∀N:St->Hp->Prop,(∀σ' H',I σ' H'->N σ' H')->tt { D with nx:=N } σ H)(hr:∀σ' H',I σ' H'->r D σ' H'):LK tt r D σ H:=ht _ hr
end L2
namespace AW
def QE(m:Int)(ts:Ts):Bool:=ts.all λt=>(decide (0<=t.1)&&decide (t.1<m))&&(decide (0<=t.2)&&decide (t.2<m))
theorem QD{m:Int}{ts:Ts}:QE m ts=true↔InW m ts:=by
 unfold QE InW;rw[List.all_eq_true];simp only[Xw,decide_eq_true_eq]
end AW
namespace K29
open PySem L2 PyProof.Rows
theorem ch0{σ:L2.St}{H:Hp}{Q:VK}{i j:Nat}{x m:Int}(h1:σ[i]?=some (some (.int x)))(h2:σ[j]?=some (some (.int m)))(q:Q (.bl (decide (0<=x)&&decide (x<m))) H) :
  xR (rI0 λi j=>V.bl (decide (i<=j))) (rI0 λi j=>V.bl (decide (i<j))) (tC (V.int 0)) (RH i) (RH j) σ H Q:=by
 refine⟨_,h1,_,_,rfl,rfl,_,rfl,?_⟩;by_cases c:(0:Int)<=x
 ·rw[if_pos (decide_eq_true c)];rw[decide_eq_true c,Bool.true_and]at q;exact⟨_,h2,_,_,rfl,rfl,q⟩
 ·rw[if_neg (by simpa using c)];rw[decide_eq_false c,Bool.false_and]at q;exact q
def W4:Sp:=λvs H Q _=>∃(m:Int) (a:Addr) (ts:AW.Ts),vs=[.int m,.ref a]/\TsI H a ts/\ts.length<=1000/\∀H',aZ H H'->Q (.bl (AW.QE m ts)) H'
theorem VQ(T:Txt K mg t):bT P w K mg base CX0 1 t.j9 t.j5 ["many","ties"] W4:=by
 refine T.jZ.F.ok jG (λvs H Q E h=>?_) (λcdv A outer s H vs Q E hr h=>?_)
 ·obtain⟨m,a,ts,rfl,_⟩:=h;rfl
 obtain⟨m,a,ts,rfl,⟨tr,e1,e2,e3⟩,hl,q⟩:=h;have nd:=jG.nd;have nd_a_b_many:(["a","b","many"]:List Str).Nodup:=by decide
 refine⟨_,(aL (bE (a8 (B4 rfl) rfl T.UB boot_all (aA (gK (N':=["a","b","many"]) (js:=[none,none,some 0]) rfl (cI (pv 1)) (λ_ _ _ _ _=>(pX (K:=K) (n:=2) rfl rfl (aV (aO (i:=0) nd_a_b_many rfl (Or.inl rfl)) (aV (aO (i:=1) nd_a_b_many rfl (Or.inl rfl)) cJ)))) (λ_ _ _ _ _=>dJ) (λ_ _ _ _ _=>(O0 (E7 sR iX aG (pv 0) (pv 2)) (HS (E7 sR iX aG (pv 1) (pv 2)))))) aE)))),?_⟩;refine(dB _ rfl a rfl ⟨_,SqL.of e1⟩ (λD hD=>?_))
 let fs:Nat->Bool:=λk=>(ts[k]?).any λt=>(decide (0<=t.1)&&decide (t.1<m))&&(decide (0<=t.2)&&decide (t.2<m))
 refine dP ts.length (λk=>.bl (fs k)) hD (by lia) (λi H' hi g2=>?_) (λH' g2=>⟨_,SqL.of (g2 _ _ e1),by rw[Zq];lia⟩) ?_ ?_
 ·obtain⟨r,q1,_⟩:=e3 i ts[i] (Zz hi);exact⟨_,.ref r,SqL.of (g2 _ _ e1),by rw[Zk,q1];rfl⟩
 ·rintro i H' x H'' k hi g2 ⟨rfl,hx⟩ hk;obtain⟨t,r,et,rfl,er⟩:=TsI.nth (a:=a) e2 e3 (hx _ (SqL.of (g2 _ _ e1)));have hf:fs i=((decide (0<=t.1)&&decide (t.1<m))&&(decide (0<=t.2)&&decide (t.2<m))):=by show(ts[i]?).any _=_;rw[et];rfl
  have hk0:=hk H'' (aZ.refl _);rw[hf]at hk0;refine(a9 r _ rfl (SqT.of (g2 _ _ er)) rfl ?_);refine(cF _ _ rfl _ _ rfl rfl ⟨ ((Fills.refl _).set _ rfl).set _ rfl,?_⟩);refine ch0 (x:=t.1) (m:=m) rfl rfl ⟨_,rfl,?_⟩;by_cases c:(decide (0<=t.1)&&decide (t.1<m))=true
  ·rw[if_pos c];rw[c,Bool.true_and]at hk0;exact ch0 (x:=t.2) (m:=m) rfl rfl hk0
  ·rw[if_neg c];rw[Bool.eq_false_iff.mpr c,Bool.false_and]at hk0;exact hk0
 ·intro H' g2 hD';rw[show(List.range ts.length).map (λk=>V.bl (fs k))=((List.range ts.length).map fs).map V.bl by rw[Yh];rfl]at hD';refine⟨D,_,rfl,SqL.of hD',?_⟩;have e:((List.range ts.length).map fs).all id=AW.QE m ts:=by
   unfold AW.QE;rw[Xx,List.all_eq_true,List.all_eq_true];constructor
   ·intro h x hx;obtain⟨i,hi,rfl⟩:=Yy.mp hx;have:=h (fs i) (Zh.mpr ⟨i,Zs.mpr hi,rfl⟩);have e:fs i=_:=(show(ts[i]?).any _=_ from by rw[Zz hi])
    rw[e]at this;exact this
   ·intro h b hb;obtain⟨i,hi,rfl⟩:=Zh.mp hb;have hi:=Zs.mp hi;have e:fs i=_:=(show(ts[i]?).any _=_ from by rw[Zz hi])
    rw[e];exact h _ (Zp hi)
  rw[e];exact q H' g2
def W6:Sp:=λvs H Q _=>∃(m:Nat) (a:Addr) (ts:AW.Ts),vs=[vn m,.ref a]/\TsI H a ts/\AW.InW m ts/\m<=1000/\ts.length<=1000 /\
 ∀(r:Addr) (H':Hp),aZ H H'->OsI H' r ((List.range m).map λp:Nat=>AW.endsAt ts p)->Q (.ref r) H'
theorem VT(T:Txt K mg t):bT P w K mg base CX0 1 t.lX t.lT ["many","ties"] W6:=by
 refine T.lR.F.ok kM (λvs H Q E h=>?_) (λcdv A outer s H vs Q E hr h=>?_)
 ·obtain⟨m,a,ts,rfl,_⟩:=h;rfl
 obtain⟨m,a,ts,rfl,⟨tr,e1,e2,e3⟩,hw,hm,hl,q⟩:=h;have nd:=kM.nd;have nd_place:(["place"]:List Str).Nodup:=by decide
 refine⟨_,(aC (bU (i:=2) nd rfl (Or.inl rfl)  (N':=["place"]) (js:=[none]) rfl (cX rfl T.dZ (aA (pv 0) aE)) (λ_ _ _ _ _=>(aO (i:=0) nd_place rfl (Or.inl rfl))) (λ_ _ _ _ _=>dJ) (λ_ _ _ _ _=>(cC aE)))
  (aC (cV PassesOwn.never rfl (fH rfl T.cK (aA (pv 1) aE)) (eL rfl (aV (aO (i:=3) nd rfl (Or.inl rfl)) (aV (aO (i:=4) nd rfl (Or.inl rfl)) cJ))) (aC (bX (lB mAp b9 (aN aQ (pv 2) (aN aP (pv 4) aG (λ_ _=>rfl)) (λ_ _=>rfl)) (aA (aT dO aG (pv 3)) aE)))
  (aL (bX (lB mAp b9 (aN aQ (pv 2) (aN aP (pv 4) aG (λ_ _=>rfl)) (λ_ _=>rfl)) (aA (aT c8 (aT dO aG (pv 3)) aG) aE))))))
  (aL (bE (pv 2))))),?_⟩
 refine(pL _ rfl (m:Int) rfl (by lia) (by lia) (λD hD=>?_));refine B1 m (λ_=>[]) hD (by lia) (λi H' hi g2=>?_) (λH' g2=>?_) ?_ ?_
 ·show i<((m:Int)-0).toNat;lia
 ·show((m:Int)-0).toNat<=m;lia
 ·rintro i H' x H'' k hi g2 hy hk;obtain⟨e,y⟩:=hy;subst e;exact⟨(Fills.refl _).set _ rfl,(by show 0<=ZW;decide),λl hl'=>hk l _ hl' (aI hl' _) aB⟩
 ·intro rr H1 w1 g1
  let F:Nat->Nat->List V:=λk p=>(AW.endsAt (ts.take k) p).map V.int
  refine(dB _ rfl a rfl ⟨_,SqL.of (g1 _ _ e1)⟩ (fL (K:=K) (a:=a) (xs:=tr.map V.ref) (λk σ H'=>(∃v3 v4,σ=[some (vn m),some (.ref a),some (.ref D),v3,v4])/\jN H H' D rr ((List.range m).map (F k))/\aZ H H') ⟨⟨_,_,rfl⟩,?_,g1⟩ ?_ ?_ ?_))
  ·have e:F 0=λ_=>[]:=by funext p;show(AW.endsAt (ts.take 0) p).map V.int=[];rw[List.take_zero];rfl
   rw[e];exact w1
  ·rintro i σ H' hi ⟨_,_,g2⟩;exact SqL.of (g2 _ _ e1)
  ·rintro i x σ H' Tp hx ⟨⟨v3,v4,rfl⟩,w2,g2⟩ hTp;obtain⟨⟨u,v⟩,r,et,rfl,er⟩:=TsI.nth (a:=a) e2 e3 hx;obtain⟨⟨u0,u1⟩,v0,v1⟩:=hw _ (Zg et);obtain⟨p1,rfl⟩:=Xv u0;obtain⟨p2,rfl⟩:=Xv v0;have u1:p1<m:=Int.ofNat_lt.mp u1;have v1:p2<m:=Int.ofNat_lt.mp v1;have hi:i<ts.length:=(Zj.mp et).1;have g3:=g2.trans (aI hTp (.tup [vn i,.ref r]));have w3:=w2.keep (aI hTp (.tup [vn i,.ref r]));have small:∀(k p:Nat),(F k p).length<ZW:=λk p=>by
    show((AW.endsAt (ts.take k) p).map V.int).length<ZW;have h1:(AW.endsAt (ts.take k) p).length<=(AW.all2 (ts.take k)).length:=List.length_filter_le ..;have h2:(AW.all2 (ts.take k)).length<=2000:=by unfold AW.all2;rw[Zq,Yj,Yw];lia
    rw[Zq];exact Ys (Yr h1 h2) (by decide)
   refine(a9 Tp _ rfl (SqT.of aB) rfl (cF _ _ rfl _ _ rfl rfl ?_));obtain⟨x1,a1,b1,c1,d1⟩:=w3.item u1;refine⟨_,rfl,(aJ _ rfl r _ _ _ rfl ⟨ rfl,(dD (SqT.of (g3 _ _ er)) rfl D _ _ _ rfl (bQ rfl (SqL.of w3.at_) d1 (.inl ⟨rfl,_,SqL.of b1⟩) _ rfl (a9 _ _ rfl rfl (.inl ⟨by decide,by decide⟩) (bN x1 _ _ rfl rfl b1 (small i p1) ?_))))⟩)⟩;have w4:=w3.put a1 (F i p1++[V.int (2*(i:Int))]);have g4:=g3.fresh c1 (.lst (F i p1++[V.int (2*(i:Int))]));obtain⟨x2,a2,b2,c2,d2⟩:=w4.item v1;refine⟨_,rfl,(aJ _ rfl r _ _ _ rfl ⟨ rfl,(dD (SqT.of (g4 _ _ er)) rfl D _ _ _ rfl (bQ rfl (SqL.of w4.at_) d2 (.inl ⟨rfl,_,SqL.of b2⟩) _ rfl (a9 _ _ rfl rfl (.inl ⟨by decide,by decide⟩) ⟨ _,(lF _ rfl rfl x2 _ _ rfl (nJ rfl b2 ?_ ⟨_,_,rfl⟩ ?_ (g4.fresh c2 _)))⟩)))⟩)⟩
   ·show(if p2=p1 then F i p1++[V.int (2*(i:Int))] else F i p2).length<ZW;have h1:=small i p1;have h2:=small i p2;split
    ·rw[Zm];have h3:(AW.endsAt (ts.take i) p1).length<=(AW.all2 (ts.take i)).length:=List.length_filter_le ..;have h4:(AW.all2 (ts.take i)).length<=2000:=by unfold AW.all2;rw[Zq,Yj,Yw];lia
     have h5:(F i p1).length=(AW.endsAt (ts.take i) p1).length:=Zq ..;exact Ys (show _<=2001 by rw[h5];simp;lia) (by decide)
    ·exact h2
   ·have w5:=w4.put a2 ((if p2=p1 then F i p1++[V.int (2*(i:Int))] else F i p2)++[V.int (2*(i:Int)+1)]);have e:(λj=>if j=p2 then (if p2=p1 then F i p1++[V.int (2*(i:Int))] else F i p2)++[V.int (2*(i:Int)+1)] else if j=p1 then F i p1++[V.int (2*(i:Int))] else F i j)=F (i+1):=by
     funext j
     have ht:ts.take (i+1)=ts.take i++[((p1:Int),(p2:Int))]:=by rw[List.take_add_one,et];rfl
     have hlt:(ts.take i).length=i:=by rw[Yw];lia
     show _=(AW.endsAt (ts.take (i+1)) j).map V.int;rw[ht,AW.FY,hlt,Zt,Zt];have c1:((p1:Int)=(j:Int))↔(j=p1):=by lia
     have c2:((p2:Int)=(j:Int))↔(j=p2):=by lia
     simp only[c1,c2];by_cases k2:j=p2
     ·subst k2;by_cases k1:j=p1
      ·subst k1;simp[F]
      ·simp[F,k1]
     ·by_cases k1:j=p1
      ·subst k1;simp[F,k2]
      ·simp[F,k1,k2]
    rw[e]at w5;exact w5
  ·rintro σ H' ⟨⟨v3,v4,rfl⟩,w2,g2⟩;refine⟨_,rfl,q D H' g2 ?_⟩;have e:F (tr.map V.ref).length=λp:Nat=>(AW.endsAt ts p).map V.int:=by funext p;show(AW.endsAt (ts.take _) p).map V.int=_;rw[Zq,e2,Yv]
   rw[e]at w2;refine jN.os (rr:=rr) (H:=H) ?_;rw[Yh];exact w2
def UZ:Sp:=λvs H Q _=>∃(wa:Addr) (m:Nat) (ts:AW.Ts) (os:AW.Os),vs=[.ref wa]/\GR H wa m ts os/\AW.InW m ts/\m<=1000/\ts.length<=1000 /\
 ∀(b:Bool) (H':Hp),aZ H H'->(b=true↔os.length=m/\AW.Fit ts os)->Q (.bl b) H'
theorem SM(T:Txt K mg t):bT P w K mg base CX0 2 t.tP t.tI ["web"] UZ:=by
 refine T.sZ.F.ok p9 (λvs H Q E h=>?_) (λcdv A outer s H vs Q E hr h=>?_)
 ·obtain⟨wa,m,ts,os,rfl,_⟩:=h;rfl
 obtain⟨wa,m,ts,os,rfl,⟨tA,oA,hw,hT,or,o1,o2,o3⟩,hin,hm,hl,q⟩:=h;have nd:=p9.nd;refine⟨_,(aC (aW 1 nd (aN aP (pv 0) aG (λ_ _=>rfl)))
  (aC (dH (bH vD (a8 aU rfl T.dQ PySem.boot_len (aA (pv 1) aE)) (aN aP (pv 0) aG (λ_ _=>rfl)) (bO _)) (aL (bE sP)) bW)
  (aC (cV PassesOwn.never rfl (HR rfl T.NI (aA (pv 1) (aA (bK (VT T) hr T.lR aX (aA (aN aP (pv 0) aG (λ_ _=>rfl)) (aA (aN aP (pv 0) aG (λ_ _=>rfl)) aE))) aE))) (eL rfl (aV (aO (i:=2) nd rfl (Or.inl rfl)) (aV (aO (i:=3) nd rfl (Or.inl rfl)) cJ))) (aL (dH (PW.pt (XH (bH O3 (a8 aU rfl T.dQ PySem.boot_len (aA (pv 2) aE)) (mQ (v:=.int 4) rfl T.dF ⟨_,rfl⟩) (bO _)) (VE (bH (O2 hr.units) (a8 DW rfl T.xF boot_sorted (aA (pv 2) aE)) (pv 3) (bO _))))) (aL (bE sP)) bW)))
  (aL (bE sP))))),?_⟩
 refine(aJ _ rfl wa _ _ _ rfl ⟨ rfl,SqT.of hw,rfl,?_⟩);refine(bP _ rfl oA _ rfl (.inl (SqL.of o1)) (aJ _ rfl wa _ _ _ rfl (bQ rfl (SqT.of hw) rfl rfl _ rfl (kG (λc=>?_) (λc=>?_)))))
 ·refine q false H (aZ.refl _) ⟨λz=>Bool.noConfusion z,λz=>?_⟩;rw[Zq,o2,z.1]at c;simp at c
 have hlen:os.length=m:=by
  rw[Zq,o2]at c;apply ZT;intro z;apply c;simp only[Bool.not_eq_true',decide_eq_false_iff_not];intro z2;exact z (Int.ofNat.inj (V.int.inj z2))
 refine⟨_,rfl,(aJ _ rfl wa _ _ _ rfl (cU rfl (SqT.of hw) rfl _ rfl (aM wa _ _ _ rfl rfl (SqT.of hw) (xJ rfl m tA ts rfl hT hin ⟨ hm,hl,λr H1 g1 hE=>?_⟩))))⟩;obtain⟨er,r1,r2,r3⟩:=hE;refine(aM oA r _ _ rfl (g1 _ _ o1) r1 (KL (xs:=or.map V.ref) (ys:=er.map V.ref) (λk σ H'=>(∃v2 v3,σ=[some (.ref wa),some (.ref oA),v2,v3])/\aZ H1 H'/\∀(i:Nat) o,i<k->os[i]?=some o->o.length<=4/\o.Perm (AW.endsAt ts i)) ?_ ⟨⟨_,_,rfl⟩,aZ.refl _,λi o hi=>by lia⟩ ?_ ?_ ?_))
 ·rw[Zq,Zq,o2,r2,Zq,Yj,hlen]
 ·rintro i σ H' hi ⟨_,g2,_⟩;exact⟨g2 _ _ (g1 _ _ o1),g2 _ _ r1⟩
 ·rintro i x y σ H' Tp hx hy ⟨⟨v2,v3,rfl⟩,g2,ih⟩ hTp;obtain⟨o,ra,eo,rfl,era⟩:=OsI.nth o2 o3 hx;obtain⟨l,rb,el,rfl,erb⟩:=OsI.nth r2 r3 hy;have hi:i<m:=by rw[<-hlen];exact(Zj.mp eo).1
  have el2:l=AW.endsAt ts i:=by
   have:((List.range m).map λp:Nat=>AW.endsAt ts p)[i]?=some (AW.endsAt ts i):=by simp[hi]
   rw[this]at el;exact(Option.some.inj el).symm
  subst el2;have g3:=g2.trans (aI hTp (.tup [.ref ra,.ref rb]));refine(a9 Tp _ rfl (SqT.of aB) rfl (cF _ _ rfl _ _ rfl rfl ?_));refine(bP _ rfl ra _ rfl (.inl (SqL.of (g3 _ _ (g1 _ _ era)))) (l8 _ _ rfl rfl _ rfl (kG (λc=>vZ ?_) (λc=>?_))))
  ·have c:(4:Int)<((o.map V.int).length:Nat):=of_decide_eq_true c;rw[Zq]at c;refine q false _ (g1.trans g3) ⟨λz=>Bool.noConfusion z,λz=>?_⟩;have:=(z.2 i o eo).1
   lia
  have c4:o.length<=4:=by
   rw[Zq]at c;simp only[decide_eq_true_eq]at c
   lia
  refine(bR _ rfl ra o rfl (SqL.of (g3 _ _ (g1 _ _ era))) (by lia) (λls ns' hls p1 p2=>?_));have g4:=g3.trans (aI hls (.lst (ns'.map V.int)));refine(bR _ rfl _ _ (K7 aB) (K7 (g4 _ _ erb)) (shaped_ints _) ⟨ shaped_ints _,_,rfl,?_⟩);rw[M3];by_cases e:ns'=AW.endsAt ts i
  ·rw[decide_eq_true e];refine iY ⟨⟨_,_,rfl⟩,g4,λj o' hj ho'=>?_⟩;by_cases hj2:j<i
   ·exact ih j o' hj2 ho'
   ·have:j=i:=by lia
    subst this;rw[eo]at ho';cases ho';exact⟨c4,e▸p1.symm⟩
  ·rw[decide_eq_false e];refine vZ (q false _ (g1.trans g4) ⟨λz=>Bool.noConfusion z,λz=>?_⟩);exact absurd (AW.LQ (p1.trans (z.2 i o eo).2) p2 (AW.LH ts i)) e
 ·rintro σ H' ⟨⟨v2,v3,rfl⟩,g2,ih⟩;refine q true H' (g1.trans g2) ⟨λ_=>⟨hlen,λi o hio=>ih i o ?_ hio⟩,λ_=>rfl⟩;rw[Zq,o2];exact(Zj.mp hio).1
def U2:Sp:=λvs H Q _=>∃(m:Nat) (a:Addr) (ts:AW.Ts),vs=[vn m,.ref a]/\TsI H a ts/\AW.InW m ts/\0<m/\m<=1000/\ts.length<=1000 /\
 ∀(b:Bool) (H':Hp),aZ H H'->(b=true↔AW.LD m ts)->Q (.bl b) H'
def Q8(H:Hp)(m:Nat)(ts:AW.Ts)(D rA wA:Addr)(rr:List Addr)(R:List Bool)(W:List Int)(H':Hp):Prop :=
 jN H H' D rr ((List.range m).map λp:Nat=>(AW.nbs ts p).map V.int)/\H' rA=some (.lst (R.map V.bl))/\H' wA=some (.lst (W.map V.int))/\aZ H H'
theorem SZ(ts:AW.Ts)(p:Int):(AW.nbs ts p).length<=2*ts.length:=by
 induction ts with
 |nil=>exact Nat.le_refl _
 |cons t ts ih =>
  unfold AW.nbs AW.nb at ih ⊢;rw[List.flatMap_cons,Zm,Yq,Zm];have h1:(if t.1=p then [t.2] else []).length<=1:=by split<;>simp
  have h2:(if t.2=p then [t.1] else []).length<=1:=by split<;>simp
  lia
theorem SS(T:Txt K mg t):bT P w K mg base CX0 1 t.lW t.lS ["many","ties"] U2:=by
 refine T.lQ.F.ok kL (λvs H Q E h=>?_) (λcdv A outer s H vs Q E hr h=>?_)
 ·obtain⟨m,a,ts,rfl,_⟩:=h;rfl
 obtain⟨m,a,ts,rfl,⟨tr,e1,e2,e3⟩,hw,hm0,hm,hl,q⟩:=h;have nd:=kL.nd;have nd_place:(["place"]:List Str).Nodup:=by decide
 refine⟨_,(aC (bU (i:=2) nd rfl (Or.inl rfl)  (N':=["place"]) (js:=[none]) rfl (cX rfl T.dZ (aA (pv 0) aE)) (λ_ _ _ _ _=>(aO (i:=0) nd_place rfl (Or.inl rfl))) (λ_ _ _ _ _=>dJ) (λ_ _ _ _ _=>(cC aE)))
  (aC (cV PassesOwn.never rfl (cI (pv 1)) (eL rfl (aV (aO (i:=3) nd rfl (Or.inl rfl)) (aV (aO (i:=4) nd rfl (Or.inl rfl)) cJ))) (aC (bX (lB mAp b9 (aN aQ (pv 2) (pv 3) (λ_ _=>rfl)) (aA (pv 4) aE)))
  (aL (bX (lB mAp b9 (aN aQ (pv 2) (pv 4) (λ_ _=>rfl)) (aA (pv 3) aE))))))
  (aC (bU (i:=5) nd rfl (Or.inl rfl)  (N':=["place"]) (js:=[none]) rfl (cX rfl T.dZ (aA (pv 0) aE)) (λ_ _ _ _ _=>(aO (i:=0) nd_place rfl (Or.inl rfl))) (λ_ _ _ _ _=>dJ) (λ_ _ _ _ _=>(kQ lJ (pv 0) aG (bO _))))
  (aC (aW 6 nd (cC (aA aG aE)))
  (aC (iV PassesOwn.never (fA (pv 6) (λ_=>rfl)) (aC (aW 7 nd (OZ PySem.F.plainAttrs_list PySem.F.slot_list_pop PySem.F.type_list_pop PV (pv 6)))
  (aL (cV PassesOwn.never rfl (cI (aN aQ (pv 2) (pv 7) (λ_ _=>rfl))) (aO (i:=8) nd rfl (Or.inl rfl)) (aL (dH (lA (fA (aN aQ (pv 5) (pv 8) (λ_ _=>rfl)) (λ_=>rfl))) (aC (hZ sP (jE (pv 5) (pv 8) set_list))
  (aL (bX (lB mAp b9 (pv 6) (aA (pv 8) aE))))) bW))))))
  (aL (bE (a8 (B4 rfl) rfl T.UB boot_all (aA (pv 5) aE))))))))),?_⟩
 refine(pL _ rfl (m:Int) rfl (by lia) (by lia) (λD hD=>?_));refine B1 m (λ_=>[]) hD (by lia) (λi H' hi g2=>?_) (λH' g2=>?_) ?_ ?_
 ·show i<((m:Int)-0).toNat;lia
 ·show((m:Int)-0).toNat<=m;lia
 ·rintro i H' x H'' k hi g2 ⟨e,y⟩ hk;subst e;exact⟨(Fills.refl _).set _ rfl,(by show 0<=ZW;decide),λl hl'=>hk l _ hl' (aI hl' _) aB⟩
 intro rr H1 w1 g1
 let F:Nat->Nat->List V:=λk p=>(AW.nbs (ts.take k) p).map V.int
 have small:∀(k p:Nat),(F k p).length<=2000:=λk p=>by
  show((AW.nbs (ts.take k) p).map V.int).length<=2000;have h1:=SZ (ts.take k) p;rw[Yw]at h1;rw[Zq];lia
 refine(dB _ rfl a rfl ⟨_,SqL.of (g1 _ _ e1)⟩ (jA (K:=K) (a:=a) (xs:=tr.map V.ref) (λk σ H'=>(∃v3 v4,σ=[some (vn m),some (.ref a),some (.ref D),v3,v4,none,none,none,none])/\jN H H' D rr ((List.range m).map (F k))/\aZ H H') ⟨⟨_,_,rfl⟩,?_,g1⟩ ?_ ?_ ?_))
 ·have e:F 0=λ_=>[]:=by funext p;show(AW.nbs (ts.take 0) p).map V.int=[];rw[List.take_zero];rfl
  rw[e];exact w1
 ·rintro i σ H' hi ⟨_,_,g2⟩;exact SqL.of (g2 _ _ e1)
 ·rintro i x σ H' hx ⟨⟨v3,v4,rfl⟩,w2,g2⟩;obtain⟨⟨u,v⟩,r,et,rfl,er⟩:=TsI.nth (a:=a) e2 e3 hx;obtain⟨⟨u0,u1⟩,v0,v1⟩:=hw _ (Zg et);obtain⟨p1,rfl⟩:=Xv u0;obtain⟨p2,rfl⟩:=Xv v0;have u1:p1<m:=Int.ofNat_lt.mp u1;have v1:p2<m:=Int.ofNat_lt.mp v1;refine(a9 r _ rfl (SqT.of (g2 _ _ er)) rfl (cF _ _ rfl _ _ rfl rfl ?_));obtain⟨x1,a1,b1,c1,d1⟩:=w2.item u1;refine⟨_,rfl,(aJ _ rfl D _ _ _ rfl (bQ rfl (SqL.of w2.at_) d1 (.inl ⟨rfl,_,SqL.of b1⟩) _ rfl (bN x1 _ _ rfl rfl b1 (Ys (small i p1) (by decide)) ?_)))⟩;have w4:=w2.put a1 (F i p1++[V.int (p2:Int)]);have g4:=g2.fresh c1 (.lst (F i p1++[V.int (p2:Int)]));obtain⟨x2,a2,b2,c2,d2⟩:=w4.item v1;refine⟨_,rfl,(aJ _ rfl D _ _ _ rfl (bQ rfl (SqL.of w4.at_) d2 (.inl ⟨rfl,_,SqL.of b2⟩) _ rfl (bN x2 _ _ rfl rfl b2 ?_ ⟨ ⟨_,_,rfl⟩,?_,g4.fresh c2 _⟩)))⟩
  ·show(if p2=p1 then F i p1++[V.int (p2:Int)] else F i p2).length<ZW;have h1:=small i p1;have h2:=small i p2;refine Ys (show _<=2001 from ?_) (by decide);split
   ·rw[Zm];simp;lia
   ·lia
  ·have w5:=w4.put a2 ((if p2=p1 then F i p1++[V.int (p2:Int)] else F i p2)++[V.int (p1:Int)]);have e:(λj=>if j=p2 then (if p2=p1 then F i p1++[V.int (p2:Int)] else F i p2)++[V.int (p1:Int)] else if j=p1 then F i p1++[V.int (p2:Int)] else F i j)=F (i+1):=by
    funext j
    have ht:ts.take (i+1)=ts.take i++[((p1:Int),(p2:Int))]:=by rw[List.take_add_one,et];rfl
    show _=(AW.nbs (ts.take (i+1)) j).map V.int;rw[ht,AW.PR,Zt];unfold AW.nb;have c1:((p1:Int)=(j:Int))↔(j=p1):=by lia
    have c2:((p2:Int)=(j:Int))↔(j=p2):=by lia
    simp only[c1,c2];by_cases k2:j=p2
    ·subst k2;by_cases k1:j=p1
     ·subst k1;simp[F]
     ·simp[F,k1]
    ·by_cases k1:j=p1
     ·subst k1;simp[F,k2]
     ·simp[F,k1,k2]
   rw[e]at w5;exact w5
 rintro σ H2 ⟨⟨v3,v4,rfl⟩,w2,g2⟩;have eF:F (tr.map V.ref).length=λp:Nat=>(AW.nbs ts p).map V.int:=by funext p;show(AW.nbs (ts.take _) p).map V.int=_;rw[Zq,e2,Yv]
 rw[eF]at w2;refine(pL _ rfl (m:Int) rfl (by lia) (by lia) (λrA hrA=>?_));refine dP m (λp=>.bl (decide ((V.int (0+(p:Int)))=V.int 0))) hrA (by lia) (λi H' hi g3=>?_) (λH' g3=>?_) ?_ ?_
 ·show i<((m:Int)-0).toNat;lia
 ·show((m:Int)-0).toNat<=m;lia
 ·rintro i H' x H'' k hi g3 ⟨e,y⟩ hk;subst e;subst y;exact⟨(Fills.refl _).set _ rfl,_,rfl,rfl,hk _ (aZ.refl _)⟩
 intro H3 g3 eR;have eR0:(List.range m).map (λp:Nat=>V.bl (decide ((V.int (0+(p:Int)))=V.int 0)))=((List.range m).map λp=>decide (p=0)).map V.bl:=by
  rw[Yh];refine Yn λp _=>?_;show V.bl (decide _)=V.bl (decide (p=0));have hp:(V.int (0+(p:Int))=V.int 0)↔p=0:=⟨λz=>by have:=V.int.inj z;lia,λz=>by rw[z];rfl⟩
  simp only[hp]
 rw[eR0]at eR;refine⟨(by show 1<=ZW;decide),λwA hwA=>?_⟩;have w3:=w2.keep g3;have g23:=g2.trans g3;have rD:rA≠D:=λz=>by rw[z,w2.at_]at hrA;cases hrA
 have rin:rA∉rr:=w2.notIn hrA;have wD:wA≠D:=λz=>by rw[z,w3.at_]at hwA;cases hwA
 have win:wA∉rr:=w3.notIn hwA;have wr:wA≠rA:=λz=>by rw[z,eR]at hwA;cases hwA
 have r0:H rA=none:=g2.free hrA;have w0:H wA=none:=g23.free hwA;refine⟨λM σ H'=>∃R W v3 v4 v7 v8,(M=2*AW.jY R+W.length/\M<=2001)/\σ=[some (vn m),some (.ref a),some (.ref D),v3,v4,some (.ref rA),some (.ref wA),v7,v8]/\Q8 H m ts D rA wA rr R W H'/\AW.iC m ts R W,
  (bM _ _ _ _ _ _ _ ⟨ ⟨rfl,?bnd⟩,rfl,⟨w3.other wD win _,by rw[aK (Ne.symm wr)];exact eR,by exact aB,g23.fresh w0 _⟩,AW.iC.start hm0⟩),?_⟩
 case bnd =>
  have h1:AW.jY ((List.range m).map λp=>decide (p=0))<=m:=by
   unfold AW.jY;exact Yr (List.length_filter_le ..) (by simp)
  show _+1<=2001
  lia
 rintro M σ H' ⟨R,W,v3,v4,v7,v8,⟨rfl,hB⟩,rfl,⟨w4,hR,hW,g4⟩,hS⟩;refine⟨_,rfl,_,.inl ⟨_,SqL.of hW,rfl⟩,?_⟩;rcases List.eq_nil_or_concat W with rfl | ⟨W0,pz,rfl⟩
 ·refine iY (bP _ rfl rA R rfl (SqL.of hR) (q _ H' g4 (hS.done hw)))
 rw[List.concat_eq_append]at *;obtain⟨p0,rfl,hp0⟩:=hS.win pz (by simp);have hpm:p0<m:=by rw[<-hS.len];exact(Zj.mp hp0).1
 have eW:(W0++[(p0:Int)]).map V.int=W0.map V.int++[vn p0]:=by rw[Zt];rfl
 rw[eW];rw[show(!(W0.map V.int++[vn p0]).isEmpty)=true by simp];refine vZ ⟨λσ' H''=>∃R' W' v3 v4 v7 v8,2*AW.jY R'+W'.length<2*AW.jY R+(W0++[(p0:Int)]).length/\σ'=[some (vn m),some (.ref a),some (.ref D),v3,v4,some (.ref rA),some (.ref wA),v7,v8]/\Q8 H m ts D rA wA rr R' W' H''/\AW.iC m ts R' W',?_,?_⟩
 ·rintro σ' H'' ⟨R',W',v3,v4,v7,v8,hM,rfl,hI,hS'⟩;exact⟨_,hM,(eY R' W' _ _ _ _ ⟨rfl,by lia⟩ ⟨ rfl,hI,hS'⟩)⟩
 rw[eW]at hW;refine(lF _ rfl (.inl ⟨rfl,_,SqL.of hW⟩) wA _ (vn p0) rfl ⟨ rfl,hW,by rw[Zm];simp,?_⟩);rw[List.dropLast_concat];have w5:=w4.other wD win (.lst (W0.map V.int));have g5:=g4.fresh w0 (.lst (W0.map V.int));obtain⟨x1,a1,b1,c1,d1⟩:=w5.item hpm;have hlen:(W0++[(p0:Int)]).length=W0.length+1:=by simp
 rw[hlen];refine⟨_,rfl,(aJ _ rfl D _ _ _ rfl (gJ rfl (SqL.of w5.at_) d1 x1 rfl ⟨_,SqL.of b1⟩ (jA (K:=K) (a:=x1) (xs:=(AW.nbs ts p0).map V.int) (λk σ H''=>∃R' W' v8,2*AW.jY R'+W'.length<2*AW.jY R+(W0.length+1) /\
  σ=[some (vn m),some (.ref a),some (.ref D),v3,v4,some (.ref rA),some (.ref wA),some (vn p0),v8]/\Q8 H m ts D rA wA rr R' W' H''/\AW.pI m ts R' W' p0 k) (lZ R W0 _ (by lia) rfl ⟨w5,by rw[aK (Ne.symm wr)];exact hR,aB,g5⟩ (.start hS)) ?_ ?_ ?_)))⟩
 ·rintro i σ H'' hi ⟨R',W',v8,_,_,⟨w6,_⟩,_⟩;obtain⟨x2,a2,b2,_⟩:=w6.item hpm;rw[a1]at a2;cases a2;exact SqL.of b2
 ·rintro i x σ H'' hx ⟨R',W',v8,hM,rfl,⟨w6,hR',hW',g6⟩,hI⟩;rw[Zk]at hx;cases eq':(AW.nbs ts p0)[i]? with
  |none=>rw[eq']at hx;cases hx
  |some qz =>
   rw[eq']at hx;cases hx;obtain⟨q0,q1⟩:=AW.PU hw (Zg eq');obtain⟨qn,rfl⟩:=Xv q0;have q1:qn<m:=Int.ofNat_lt.mp q1;have hql:qn<R'.length:=by rw[hI.len];exact q1
   have eb:R'[qn]?=some R'[qn]:=Zz hql;refine⟨_,rfl,(aJ _ rfl rA _ _ (.bl R'[qn]) rfl (cU rfl (SqL.of hR') (dX (by rw[Zk,eb];rfl)) (R'[qn]) rfl ?_))⟩;cases hb:R'[qn]with
   |true =>
    refine iY (lZ R' W' _ hM rfl ⟨w6,hR',hW',g6⟩ (hI.skip eq' ?_));rw[show((qn:Int)).toNat=qn from rfl,eb,hb]
   |false =>
    rw[hb]at eb;have hset:(R'.map V.bl).set qn (.bl true)=(R'.set qn true).map V.bl:=by rw[List.map_set]
    have hf:=AW.zE eb;refine vZ ⟨_,rfl,(aJ _ rfl rA _ _ qn rfl ⟨ rfl,hR',?_,?_⟩)⟩
    ·exact oV (by rw[Zq];exact hql) rfl
    rw[hset];refine(fF _ rfl (.inl ⟨rfl,_,SqL.of (by rw[aK wr];exact hW')⟩) _ rfl (bN wA _ _ rfl rfl (by rw[aK wr];exact hW') ?_ ?_))
    ·rw[Zq];exact Ys (show _<=2001 by rw[hlen]at hB;lia) (by decide)
    refine(lZ (R'.set qn true) (W'++[(qn:Int)]) _ ?_ rfl ⟨(w6.other rD rin _).other wD win _,?_,?_,(g6.fresh r0 _).fresh w0 _⟩ (hI.reach eq' q1))
    ·rw[Zm];simp;lia
    ·rw[aK (Ne.symm wr)];exact aB
    ·rw[Zt];exact aB
 ·rintro σ H'' ⟨R',W',v8,hM,rfl,hI,hS'⟩;exact(eY R' W' _ _ _ _ (by simpa using hM) ⟨ rfl,hI,hS'.finish (by rw[Zq];exact Nat.le_refl _)⟩)
theorem YE{σ:L2.St}{H:Hp}{Q:VK}{a c x:Int}{tb:TE}(hb:∀R:VK,R (.int x) H->tb σ H R)(q:Q (.bl (decide (a<=x)&&decide (x<=c))) H) :
  xR (rI0 λi j=>V.bl (decide (i<=j))) (rI0 λi j=>V.bl (decide (i<=j))) (tC (V.int a)) tb (tC (V.int c)) σ H Q:=by
 refine hb _ ⟨_,_,rfl,rfl,_,rfl,?_⟩;by_cases h:a<=x
 ·rw[if_pos (decide_eq_true h)];rw[decide_eq_true h,Bool.true_and]at q;exact⟨_,_,rfl,rfl,q⟩
 ·rw[if_neg (by simpa using h)];rw[decide_eq_false h,Bool.false_and]at q;exact q
def RU:Sp:=λvs H Q _=>∃(wa:Addr) (m:Int) (ts:AW.Ts) (os:AW.Os),vs=[.ref wa]/\GR H wa m ts os/\AW.Q7 m ts os/\∀H',aZ H H'->Q .non H'
theorem PL(T:Txt K mg t):bT P w K mg base CX0 3 t.vY t.vS ["web"] RU:=by
 refine T.vM.F.ok sG (λvs H Q E h=>?_) (λcdv A outer s H vs Q E hr h=>?_)
 ·obtain⟨wa,m,ts,os,rfl,_⟩:=h;rfl
 obtain⟨wa,m,ts,os,rfl,⟨tA,oA,hw,hT,hO⟩,⟨⟨c1,c2⟩,c3,c4,c5,c6⟩,q⟩:=h;have nd:=sG.nd;refine⟨_,(aC (aW 1 nd (aN aP (pv 0) aG (λ_ _=>rfl)))
  (aC (aW 2 nd (aN aP (pv 0) aG (λ_ _=>rfl)))
  (aC (dH (lA (oG sR sR aG (pv 1) (mQ (v:=.int 200) rfl T.gI ⟨_,rfl⟩))) iG bW)
  (aC (dH (lA (oG sR sR aG (a8 aU rfl T.dQ PySem.boot_len (aA (pv 2) aE)) (mQ (v:=.int 400) rfl T.iZ ⟨_,rfl⟩))) iG bW)
  (aC (dH (lA (fA (bK (VQ T) hr T.jZ aX (aA (pv 1) (aA (pv 2) aE))) (λ_=>rfl))) iG bW)
  (aC (dH (lA (fA (bK (SM T) hr T.sZ aX (aA (pv 0) aE)) (λ_=>rfl))) iG bW)
  (aL (dH (lA (fA (bK (SS T) hr T.lQ aX (aA (pv 1) (aA (pv 2) aE))) (λ_=>rfl))) iG bW)))))))),?_⟩
 refine(aJ _ rfl wa _ _ _ rfl ⟨ rfl,SqT.of hw,rfl,?_⟩);refine(aJ _ rfl wa _ _ _ rfl ⟨ rfl,SqT.of hw,rfl,?_⟩);dsimp only[jH,LK,RK,RI,EK];refine YE (x:=m) ?h1 ?h2
 case h1=>exact λR h=>⟨_,rfl,h⟩
 refine⟨_,rfl,?_⟩;rw[show(decide ((1:Int)<=m)&&decide (m<=200))=true by rw[<-Bool.decide_and];exact decide_eq_true c1];refine iY ?_;obtain⟨tr,e1,e2,e3⟩:=id hT;dsimp only[NZ,LK,RK,RI,EK];refine YE (x:=((tr.map V.ref).length:Nat)) ?h3 ?h4
 case h3=>exact λR h=>(bP _ rfl tA _ rfl (.inl (SqL.of e1)) h)
 refine⟨_,rfl,?_⟩;rw[Zq,e2];rw[show(decide ((1:Int)<=(ts.length:Nat))&&decide (((ts.length:Nat):Int)<=400))=true by rw[<-Bool.decide_and];exact decide_eq_true (by lia)];refine iY ⟨_,(rY rfl _ rfl m tA ts rfl ⟨ hT,by lia,λH1 g1=>⟨_,rfl,?_⟩⟩)⟩;rw[AW.QD.mpr c3];obtain⟨n,rfl⟩:=Xv (show 0<=m by lia);refine iY (aJ _ rfl wa n ts os rfl ⟨ ⟨tA,oA,g1 _ _ hw,hT.same g1,hO.same g1⟩,c3,by lia,by lia,λb H2 g2 hb=>⟨_,rfl,?_⟩⟩);rw[hb.mpr ⟨Int.ofNat.inj c4,c5⟩];refine iY ⟨_,(rY rfl _ rfl n tA ts rfl (nJ ((hT.same g1).same g2) c3 (by lia) (by lia) (by lia) (λb H3 g3 hb=>⟨_,rfl,?_⟩)))⟩;rw[hb.mpr c6];exact iY (q H3 ((g1.trans g2).trans g3))
def U6(K:PySem.W.Frag):Sp:=λvs H Q _=>∃(a:Addr) (ns:List Int) (k:Int),vs=[.ref a,.int k]/\SqL K H a (ns.map V.int)/\0<=k/\∀c:Int,Q (.int c) H
theorem WD{ns:List Int}{k:Int}(h0:0<=k)(h:k<(ns.length:Int)):∃v:Int,atI (ns.map V.int) k=some (.int v):=by
 have hk:k.toNat<ns.length:=by lia
 have ek:k=((k.toNat:Nat):Int):=by lia
 have q:atI (ns.map V.int) ((k.toNat:Nat):Int)=some (.int ns[k.toNat]):=dX (by rw[Zk,Zz hk]<;>rfl);rw[<-ek]at q;exact⟨_,q⟩
theorem pU(T:Txt K mg t):bT P w K mg base CX0 1 t.vX t.vR ["_law_script","_law_k"] (U6 K):=by
 refine T.fW.F.ok CZ (λvs H Q E h=>?_) (λcdv A outer s H vs Q E hr h=>?_)
 ·obtain⟨a,ns,k,rfl,_⟩:=h;rfl
 obtain⟨a,ns,k,rfl,hS,h0,q⟩:=h;refine⟨_,(aC (dH (bH iX (pv 1) (a8 aU rfl T.dQ PySem.boot_len (aA (pv 0) aE)) (bO _)) (aL (bE (aN aQ (pv 0) (pv 1) (λ_ _=>rfl)))) bW)
  (aL (bE aG))),?_⟩
 refine(cL _ rfl _ rfl a _ rfl (lG (.inl hS) _ _ rfl rfl _ rfl ?_));refine kG (λc=>?_) (λc=>?_)
 ·have c':k<(((ns.map V.int).length:Nat):Int):=of_decide_eq_true c;rw[Zq]at c';obtain⟨v,hv⟩:=WD h0 c';exact⟨_,rfl,(aJ _ rfl a _ _ _ rfl ⟨ rfl,hS,hv,q v⟩)⟩
 ·exact q 0
def UG:Sp:=λvs H Q _=>∃c k:Int,vs=[.int c,.int k]/\0<=k/\k<=1000/\∀m:Int,0<=m->m<1000000000->Q (.int m) H
theorem iJ(T:Txt K mg t):bT P w K mg base CX0 1 t.EB t.DT ["_law_cell","_law_k"] UG:=by
 refine T.fQ.F.ok EX (λvs H Q E h=>?_) (λcdv A outer s H vs Q E hr h=>?_)
 ·obtain⟨a,k,rfl,_⟩:=h;rfl
 obtain⟨c,k,rfl,h0,h1,q⟩:=h;have nd:=EX.nd;refine⟨_,(aC (dH (bH UK (pv 0) (aT HV aG aG) (bO _)) (aC (cV PassesOwn.never rfl (cX rfl T.dZ (aA (pv 1) aE)) (aO (i:=2) nd rfl (Or.inl rfl)) (aL (aW 0 nd (aT eG (pv 0) (aT HV aG aG)))))
  (aL (bE (aT dE (pv 0) (aT HV aG aG))))) bW)
  (aC (aW 3 nd (aT dE (aT dO (aT c8 (aT c8 (aT dE (pv 0) aG) (aT dO (aT dO (pv 1) (pv 1)) aG)) (pv 1)) aG) aG))
  (aC (aW 3 nd (aT dE (aT dO (pv 3) (pv 3)) aG))
  (aL (bE (aT eG (aT dE (aT dO (pv 3) (aT c8 (pv 3) aG)) aG) aG)))))),?_⟩
 have p18:WL 10 18:=⟨by decide,by decide,by decide⟩
 have p6:WL 10 6:=⟨by decide,by decide,by decide⟩
 refine(bR _ rfl _ _ rfl rfl p18 (l8 _ _ rfl rfl _ rfl ?_));refine kG (λ_=>?_) (λ_=>?_)
 ·refine(pL _ rfl k rfl (by lia) (by lia) (fZ (lo:=0) (n:=k.toNat) (λ_ σ H'=>H'=H/\∃(c':Int) (o:Option V),σ=[some (.int c'),some (.int k),o,none]) ⟨rfl,c,none,rfl⟩ ?_ ?_))
  ·rintro i σ H' hi ⟨rfl,c',o,rfl⟩;exact(bR _ rfl _ _ rfl rfl p6 (fE _ _ rfl rfl ⟨by decide,by decide⟩ rfl ⟨ _,_,rfl⟩))
  ·rintro σ H' ⟨rfl,c',o,rfl⟩;refine(bR _ rfl _ _ rfl rfl p6 (a9 _ _ rfl rfl (by show(0:Int)<10 ^ 6;decide) (q _ (Xj _ (by decide)) ?_)));exact Int.lt_trans (Xk _ (by decide)) (by decide)
 ·refine(bR _ rfl _ _ rfl rfl (by show(0:Int)<1000003;decide) (cL _ rfl _ rfl _ _ rfl (xO rfl (.inl ⟨by lia,by lia⟩) _ _ rfl rfl (.inr ⟨by decide,by decide⟩) (l8 _ _ rfl rfl _ rfl (gF _ _ rfl rfl _ _ rfl (xO rfl (.inr ⟨by decide,by decide⟩) _ _ rfl rfl (by show(0:Int)<2147483629;decide) ?_))))));have b1:∀x:Int,0<=x%2147483629/\x%2147483629<2147483629:=λx=>⟨Xj _ (by decide),Xk _ (by decide)⟩
  have b2:∀x:Int,0<=x%2147483587/\x%2147483587<2147483587:=λx=>⟨Xj _ (by decide),Xk _ (by decide)⟩
  have b3:∀x:Int,0<=x%2147483579/\x%2147483579<2147483579:=λx=>⟨Xj _ (by decide),Xk _ (by decide)⟩
  generalize hn1:((c%1000003+k*k*7919+k)*48271%2147483629:Int)=n1;have r1:=b1 ((c%1000003+k*k*7919+k)*48271);rw[hn1]at r1;refine(cL _ rfl _ rfl _ _ rfl (xO rfl (.inl ⟨by lia,by lia⟩) _ _ rfl rfl (by show(0:Int)<2147483587;decide) ?_));have r2:=b2 (n1*n1);generalize n1*n1%2147483587=n2 at r2 ⊢;refine(cL _ rfl _ rfl _ _ rfl (kI rfl _ _ rfl rfl (.inl ⟨by lia,by lia⟩) (a9 _ _ rfl rfl (by show(0:Int)<2147483579;decide) (a9 _ _ rfl rfl ⟨by decide,by decide⟩ ?_))));have r3:=b3 (n2*(n2+2));generalize n2*(n2+2)%2147483579=n3 at r3 ⊢;exact q _ (by lia) (by lia)
def OC:Sp:=λvs H Q _=>∃e:Nat,vs=[vn e]/\Q (vn (MM.oth e)) H
theorem jO(T:Txt K mg t):bT P w K mg base CX0 1 t.CC t.BV ["_law_end"] OC:=by
 refine T.iL.F.ok HH (λvs H Q E h=>?_) (λcdv A outer s H vs Q E hr h=>?_)
 ·obtain⟨e,rfl,_⟩:=h;rfl
 obtain⟨e,rfl,q⟩:=h;refine⟨_,(aL (bE (aT iI (aT c8 (pv 0) aG) (aT dO aG (aT dE (pv 0) aG))))),?_⟩;refine(bP _ rfl _ _ rfl rfl (bR _ rfl _ _ rfl rfl (by show(0:Int)<2;decide) (a9 _ _ rfl rfl (.inl ⟨by decide,by decide⟩) ⟨ _,_,rfl,rfl,?_⟩)));have e1:(e:Int)+1-2*((e:Int)%2)=((MM.oth e:Nat):Int):=by unfold MM.oth;split<;>lia
 show Q (.int ((e:Int)+1-2*((e:Int)%2))) H;rw[e1];exact q
def RP:Sp:=λvs H Q _=>∃(a:Addr) (ts:MM.bD) (e:Nat),vs=[.ref a,vn e]/\hJ H a ts/\e<2*ts.length/\Q (vn (MM.place ts e)) H
theorem LA{x y:Nat}(e:Nat):atI [vn x,vn y] ((e:Int)%2)=some (vn (if e%2=0 then x else y)):=by
 rcases Nat.mod_two_eq_zero_or_one e with h | h
 ·rw[show(e:Int)%2=0 by lia,if_pos h];rfl
 ·rw[show(e:Int)%2=1 by lia,if_neg (by lia)];rfl
theorem uJ(T:Txt K mg t):bT P w K mg base CX0 1 t.CB t.BU ["_law_ties","_law_end"] RP:=by
 refine T.pZ.F.ok HG (λvs H Q E h=>?_) (λcdv A outer s H vs Q E hr h=>?_)
 ·obtain⟨a,ts,e,rfl,_⟩:=h;rfl
 obtain⟨a,ts,e,rfl,ht,he,q⟩:=h;refine⟨_,(aL (bE (aN rL (aN aQ (pv 0) (aT eG (pv 1) aG) (λ_ _=>rfl)) (aT dE (pv 1) aG) (λ_ _=>rfl)))),?_⟩;obtain⟨xs,r,h1,h2,h3,h4⟩:=ht.item (i:=e / 2) (by lia);refine(cL _ rfl _ rfl _ _ rfl (dD rfl ⟨by decide,by decide⟩ a xs _ _ rfl ⟨ rfl,SqL.of h1,(by show atI xs ((e:Int) / 2)=_;rw[show(e:Int) / 2=((e / 2:Nat):Int) by lia];exact h3),?_⟩));refine(bR _ rfl _ _ rfl rfl (by show(0:Int)<2;decide) (.inr (.inl (aM r _ _ _ rfl rfl (SqT.of h4) ⟨ LA e,?_⟩))));unfold MM.place at q;split
 ·rename_i h;rw[if_pos h]at q;exact q
 ·rename_i h;rw[if_neg h]at q;exact q
def XA:Sp:=λvs H Q _=>∃(a o:Addr) (ts:MM.bD) (os:MM.a7) (e:Nat),vs=[.ref a,.ref o,vn e]/\hJ H a ts/\pK H o os/\MM.Good ts os/\e<2*ts.length/\Q (vn (MM.behind ts os e)) H
theorem rG(T:Txt K mg t):bT P w K mg base CX0 2 t.AC t.zR ["_law_ties","_law_orders","_law_end"] XA:=by
 refine T.mY.F.ok u9 (λvs H Q E h=>?_) (λcdv A outer s H vs Q E hr h=>?_)
 ·obtain⟨a,o,ts,os,e,rfl,_⟩:=h;rfl
 obtain⟨a,o,ts,os,e,rfl,ht,ho,g,he,q⟩:=h;have nd:=u9.nd;refine⟨_,(aC (aW 3 nd (aN aQ (pv 1) (bK (uJ T) hr T.pZ aX (aA (pv 0) (aA (bK (jO T) hr T.iL aX (aA (pv 2) aE)) aE))) (λ_ _=>rfl)))
  (aL (bE (aN aQ (pv 3) (aT iI (oI PySem.F.plainAttrs_list PySem.F.slot_list_index PySem.F.type_list_index oQ (pv 3) (aA (bK (jO T) hr T.iL aX (aA (pv 2) aE)) aE)) aG) (λ_ _=>rfl))))),?_⟩
 have hp:=g.g.has (MM.oth e) (MM.bG he);obtain⟨xs,r,h1,h2,h3,h4⟩:=ho.item hp.1;refine(bJ _ rfl _ rfl _ rfl (dS e rfl a ts (MM.oth e) rfl ht (dC (MM.bG he) o xs _ _ rfl rfl ⟨ SqL.of h1,h3,?_⟩)));refine(rV _ rfl _ rfl (.inl ⟨rfl,_,SqL.of h4⟩) _ rfl (dS e rfl r _ _ rfl rfl (pM h4 hp.2 _ _ rfl rfl (aM r _ _ _ rfl rfl (SqL.of h4) ⟨ K9 hp.2,q⟩))))
end K29
namespace L2
open PySem PyProof.Rows
structure c7(H H':Hp)(r:Addr)(rr:List Addr)(ls:MM.a7):Prop where
 at_:H' r=some (.lst (rr.map V.ref))
 len:rr.length=ls.length
 row:∀(i:Nat) l,ls[i]?=some l->∃x,rr[i]?=some x/\H' x=some (.lst (vns l))
 nd:rr.Nodup
 nin:r∉rr
 new:H r=none
 news:∀x∈rr,H x=none
theorem c7.os{H H':Hp}{r:Addr}{rr:List Addr}{ls:MM.a7}(n:c7 H H' r rr ls):pK H' r ls:=⟨rr,n.at_,n.len,n.row⟩
theorem c7.keep{H H' H2:Hp}{r:Addr}{rr:List Addr}{ls:MM.a7}(n:c7 H H' r rr ls)(g:∀b o,b=r\/b∈rr->H' b=some o->H2 b=some o):c7 H H2 r rr ls :=
 ⟨g _ _ (.inl rfl) n.at_,n.len,λi l h=>by obtain⟨x,h1,h2⟩:=n.row i l h;exact⟨x,h1,g _ _ (.inr (Zg h1)) h2⟩,n.nd,n.nin,n.new,n.news⟩
theorem c7.ex{H H':Hp}{r:Addr}{rr:List Addr}{ls:MM.a7}(n:c7 H H' r rr ls){x:Addr}(hx:x∈rr):∃l,H' x=some (.lst (vns l)):=by
 obtain⟨i,hi,rfl⟩:=Yy.mp hx;have hi':i<ls.length:=by rw[<-n.len];exact hi
 obtain⟨y,h1,h2⟩:=n.row i (ls[i]'hi') (Zz hi');rw[Zz hi]at h1;cases h1;exact⟨_,h2⟩
theorem c7.push{H H' H2:Hp}{r x:Addr}{rr:List Addr}{ls:MM.a7}{l:List Nat}(n:c7 H H' r rr ls)(hx:H x=none)(hxr:x∉rr)(hxn:x≠r)(at2:H2 r=some (.lst ((rr++[x]).map V.ref)))(ax:H2 x=some (.lst (vns l)))
  (g:∀b o,b∈rr->H' b=some o->H2 b=some o):c7 H H2 r (rr++[x]) (ls++[l]) where
 at_:=at2
 len:=by rw[Zm,Zm,n.len];rfl
 row:=λi m h=>by
  rcases Xq i ls.length with q | q
  ·rw[Zx q]at h;obtain⟨y,h1,h2⟩:=n.row i m h;exact⟨y,by rw[Zx (by rw[n.len];exact q)];exact h1,g _ _ (Zg h1) h2⟩
  ·have hi:i=ls.length:=by
    obtain⟨z,_⟩:=Zj.mp h;rw[Zm]at z;simp at z
    lia
   subst hi;rw[Yx]at h;cases h;exact⟨x,by rw[<-n.len,Yx],ax⟩
 nd:=by
  rw[List.nodup_append];refine⟨n.nd,by simp,λa ha b hb z=>?_⟩;have e:b=x:=by simpa using hb
  subst e;subst z;exact hxr ha
 nin:=λz=>by
  rcases Zf.mp z with z | z
  ·exact n.nin z
  ·have e:r=x:=by simpa using z
   exact hxn e.symm
 new:=n.new
 news:=λy hy=>by
  rcases Zf.mp hy with z | z
  ·exact n.news y z
  ·have e:y=x:=by simpa using z
   subst e;exact hx
theorem kJ(l m:List Nat):vns (l++m)=vns l++vns m:=Zt
theorem DK(x:Nat)(l:List Nat):inV (vn x) (vns l)=decide (x∈l):=by
 unfold inV;rw[Xx,List.any_eq_true,decide_eq_true_iff];constructor
 ·rintro⟨y,hy,h⟩;obtain⟨n,hn,rfl⟩:=Zh.mp hy;have h':((n:Int)==(x:Int))=true:=h;have:n=x:=by have:=beq_iff_eq.mp h';lia
  subst this;exact hn
 ·intro h;exact⟨vn x,Zh.mpr ⟨x,h,rfl⟩,by show((x:Int)==(x:Int))=true;simp⟩
theorem xQ(l:List Nat):(vns l).all qB=true:=by rw[List.all_eq_true];intro y hy;obtain⟨n,_,rfl⟩:=Zh.mp hy;rfl
theorem DY{K:PySem.W.Frag}{H:Hp}:∀l:List Nat,Bds K H (vns l) (l.map λn:Nat=>PyData.int (n:Int))
 |[]=>.nil
 |n::l=>.cons (.int n) (DY l)
theorem u5(l:List Nat):SeqAt.shaped (.list (l.map λn:Nat=>PyData.int (n:Int)))=true:=by
 have e:(l.map λn:Nat=>PyData.int (n:Int))=(l.map λn:Nat=>(n:Int)).map PyData.int:=by rw[Yh];rfl
 rw[e];generalize (l.map λn:Nat=>(n:Int))=ns;simp[SeqAt.shaped,PyData.canLay0,PyData.canLayAll0,PyData.depth,PyData.depthAll,PySem.W.ke_canLayAll0,PySem.W.ke_depthAll]
theorem QP(l m:List Nat):PyData.eqv (.list (l.map λn:Nat=>PyData.int (n:Int))) (.list (m.map λn:Nat=>PyData.int (n:Int)))=decide (l=m):=by
 have e:∀l:List Nat,(l.map λn:Nat=>PyData.int (n:Int))=(l.map λn:Nat=>(n:Int)).map PyData.int:=λl=>by rw[Yh];rfl
 rw[e,e];unfold PyData.eqv;rw[PySem.W.ked_eqvAll];have inj:∀l m:List Nat,(l.map λn:Nat=>(n:Int))=(m.map λn:Nat=>(n:Int))->l=m:=by
  intro l;induction l with
  |nil=>intro m h;cases m with
   |nil=>rfl
   |cons _ _=>simp at h
  |cons a l ih=>intro m h;cases m with
   |nil=>simp at h
   |cons b m =>
    simp only[List.map_cons,List.cons.injEq]at h;rw[ih m h.2,show a=b by lia]
 by_cases h:l=m
 ·subst h;simp
 ·rw[decide_eq_false h,decide_eq_false (λz=>h (inj l m z))]
end L2
namespace K29
open PySem L2 PyProof.Rows
def OD:Sp:=λvs H Q _=>∃(a o:Addr) (ts:MM.bD) (os:MM.a7),vs=[.ref a,.ref o]/\hJ H a ts/\pK H o os/\MM.Good ts os/\ts.length<=500 /\
 ∀(r:Addr) (rr:List Addr) (H':Hp),aZ H H'->c7 H H' r rr (MM.bC (MM.behind ts os) (2*ts.length))->Q (.ref r) H'
theorem pS(T:Txt K mg t):bT P w K mg base CX0 3 t.CF t.BX ["_law_ties","_law_orders"] OD:=by
 refine T.lP.F.ok yA (λvs H Q E h=>?_) (λcdv A outer s H vs Q E hr h=>?_)
 ·obtain⟨a,o,ts,os,rfl,_⟩:=h;rfl
 obtain⟨a,o,ts,os,rfl,ht,ho,g,h500,q⟩:=h;have nd:=yA.nd;have nd_l_end_l_land:(["_law_end","_law_land"]:List Str).Nodup:=by decide
 refine⟨_,(aC (aW 2 nd (cC aE))
  (aC (aW 3 nd (gN (AV rfl) rfl T.xG boot_list (aA (gN GH rfl T.dZ boot_range (aA (aT dO aG (a8 aU rfl T.dQ PySem.boot_len (aA (pv 0) aE))) aE)) aE)))
  (aC (iV PassesOwn.never (bH (O2 hr.units) (pv 3) (cC aE) (bO _)) (aC (aW 4 nd (cC (aA (aN aQ (pv 3) aG (λ_ _=>rfl)) aE)))
  (aC (aW 5 nd (bK (rG T) hr T.mY aX (aA (pv 0) (aA (pv 1) (aA (aN aQ (pv 3) aG (λ_ _=>rfl)) aE)))))
  (aC (iV PassesOwn.never (bH vD (pv 5) (aN aQ (pv 4) aG (λ_ _=>rfl)) (bO _)) (aC (bX (lB mAp b9 (pv 4) (aA (pv 5) aE)))
  (aL (aW 5 nd (bK (rG T) hr T.mY aX (aA (pv 0) (aA (pv 1) (aA (pv 5) aE))))))))
  (aC (bX (lB mAp b9 (pv 2) (aA (pv 4) aE)))
  (aL (bU (i:=3) nd rfl (Or.inl rfl)  (N':=["_law_end","_law_land"]) (js:=[none,some 4]) rfl (cI (pv 3)) (λ_ _ _ _ _=>(aO (i:=0) nd_l_end_l_land rfl (Or.inl rfl))) (λ_ _ _ _ _=>(uE (bH (MS (K:=K) rfl) (pv 0) (pv 1) rfl))) (λ_ _ _ _ _=>(pv 0)))))))))
  (aL (bE (pv 2)))))),?_⟩
 have m:=g.maps;obtain⟨tr0,hta,htl,_⟩:=id ht;refine⟨(by show 0<=ZW;decide),λtr htr=>?_⟩;have g1:=aI htr (.lst []);refine(bP _ rfl a _ rfl (.inl (SqL.of (g1 _ _ hta))) (gG _ _ rfl rfl (.inl ⟨by decide,by decide⟩) _ rfl (λp hp=>?_)));have e2:(2:Int)*((tr0.map V.ref).length:Nat)=((2*ts.length:Nat):Int):=by rw[Zq,htl];push_cast;rfl
 rw[e2]at *;have g2:=aI hp (.rng 0 ((2*ts.length:Nat):Int));refine(a9 p (2*ts.length) rfl aB (by lia) (λlr hlr=>?_));have g3:=aI hlr (.lst (vns (List.range (2*ts.length))));have ntl:tr≠lr:=aH (g2 _ _ aB) hlr;generalize hf:MM.behind ts os=f at m q;generalize hN:2*ts.length=N at m q hlr g3 g2 hp;have n0:c7 H (upd (upd (upd H tr (.lst [])) p (.rng 0 (N:Int))) lr (.lst (vns (List.range N)))) tr [] [] :=
  ⟨g3 _ _ (g2 _ _ aB),rfl,λi l h=>by simp at h,List.nodup_nil,by simp,htr,λx hx=>by cases hx⟩
 refine⟨λk σ H1=>∃(lr:Addr) (left:List Nat) (rr:List Addr) (done:MM.a7) (o4 o5:Option V),k=left.length/\σ=[some (.ref a),some (.ref o),some (.ref tr),some (.ref lr),o4,o5]/\aZ H H1/\H1 lr=some (.lst (vns left)) /\
  c7 H H1 tr rr done/\lr≠tr/\done++MM.lf f left=MM.bC f N/\(∀x∈left,x<N)/\left.length<=N,(bM _ lr (List.range N) ([]) ([]) none none (eK rfl rfl ((g1.trans g2).trans g3) aB n0 (Ne.symm ntl) rfl ⟨ λx hx=>Zs.mp hx,by simp⟩)),?_⟩
 clear n0 g3 g2 hp hlr ntl lr p g1;rintro k σ H1 ⟨lr,left,rr,done,o4,o5,rfl,rfl,g1,el,n1,nlt,eq,hlt,hll⟩;refine⟨_,rfl,(by show 0<=ZW;decide),λp hp=>?_⟩;have gp:=aI hp (.lst []);refine(fE _ _ (.lst (SqL.of (gp _ _ el)) (DY left)) (.lst (SqL.of aB) (DY [])) (u5 left) (u5 []) ⟨ _,rfl,?_⟩);rw[QP];have n2:c7 H (upd H1 p (.lst [])) tr rr done:=n1.keep λb o' _ h=>gp _ _ h;have g2:=g1.trans gp;have el2:=gp _ _ el;generalize upd H1 p (.lst [])=H2 at n2 g2 el2 gp;clear hp;cases left with
 |nil =>
  refine fU rfl ?_;rw[MM.P5,List.append_nil]at eq;exact⟨_,rfl,q tr rr H2 g2 (eq▸n2)⟩
 |cons e r =>
  refine gC (by simp) ?_;have heN:e<N:=hlt e Zd;obtain⟨rd,rdN⟩:=MM.eQ m heN;have hdl:done.length<=N:=by
   have h1:=MM.y6 m _ (List.range N) (Nat.le_refl _) (λx hx=>Zs.mp hx);have h2:(done++MM.lf f (e::r)).length=(MM.bC f N).length:=by rw[eq]
   rw[Zm]at h2;unfold MM.bC at h2;rw[Yj]at h1
   lia
  have p1:atI (vns (e::r)) 0=some (vn e):=jF (l:=e::r) (j:=0) (by simp) rfl;refine⟨_,λσ' H' h=>h,?_⟩;refine(aJ _ rfl lr _ _ _ rfl ⟨ rfl,SqL.of el2,p1,(by show 1<=ZW;decide),λla hla=>?_⟩);have g3:=aI hla (.lst [vn e]);have nla:la≠tr/\la≠lr/\la∉rr:=by
   refine⟨(aH n2.at_ hla).symm,(aH el2 hla).symm,λz=>?_⟩;obtain⟨l,hl⟩:=n2.ex z;rw[hla]at hl;cases hl
  refine(bJ _ rfl _ rfl _ rfl (aM lr _ _ _ rfl rfl (SqL.of (g3 _ _ el2)) (b8 p1 a o ts os e rfl ⟨ (g2.trans g3).ts ht,(g2.trans g3).os ho,g,by rw[hN];exact heN,?_⟩)));rw[hf];refine⟨λk σ H4=>∃j,k=MM.per f e-j/\0<j/\j<=MM.per f e/\σ=[some (.ref a),some (.ref o),some (.ref tr),some (.ref lr),some (.ref la),some (vn (MM.iter f j e))]/\(∀b o,b≠la->H2 b=some o->H4 b=some o)/\H4 la=some (.lst (vns (MM.path f e j))),
   (gH _ 1 rfl Nat.one_pos rd.1 rfl (λb o' hb h=>g3 _ _ h) aB),?_⟩
  rintro k σ H4 ⟨j,rfl,hj0,hj,rfl,b4,e4⟩;have hH:∀b o',H b=some o'->H4 b=some o':=λb o' h=>b4 b o' (aH (g2 _ _ h) hla) (g2 _ _ h);have p0:atI (vns (MM.path f e j)) 0=some (vn e):=by
   have hl:0<(MM.path f e j).length:=by rw[MM.oJ];exact hj0
   refine(jF hl (k:=0) rfl).trans ?_;congr 2;unfold MM.path;simp[List.getD,hj0];rfl
  refine⟨_,rfl,(aJ _ rfl la _ _ _ rfl (bQ rfl (SqL.of e4) p0 rfl _ rfl ?_))⟩;by_cases hc:MM.iter f j e=e
  ·refine fU (by rw[hc];simp) ?_;have ej:j=MM.per f e:=by
    rcases Xq j (MM.per f e) with z | z
    ·exact absurd hc (rd.2.2 j hj0 z)
    ·lia
   subst ej;have n4:c7 H H4 tr rr done:=n2.keep λb o' hb h=>b4 b o' (by rcases hb with rfl | hb;exact Ne.symm nla.1;rintro rfl;exact nla.2.2 hb) h;refine(fF _ rfl (.inl ⟨rfl,_,SqL.of n4.at_⟩) _ rfl (bN tr _ _ rfl rfl n4.at_ ?_ ?_))
   ·rw[Zq,n4.len];exact Ys (by lia:done.length<=1000) (by decide)
   have el5:(upd H4 tr (.lst (rr.map V.ref++[.ref la]))) lr=some (.lst (vns (e::r))):=by rw[aK nlt];exact b4 _ _ (Ne.symm nla.2.1) el2
   have la5:(upd H4 tr (.lst (rr.map V.ref++[.ref la]))) la=some (.lst (vns (MM.aR f e))):=by rw[aK nla.1];exact e4
   have hH5:aZ H (upd H4 tr (.lst (rr.map V.ref++[.ref la]))):=λb o' h=>by rw[aK (aH h htr)];exact hH b o' h
   have n5:c7 H (upd H4 tr (.lst (rr.map V.ref++[.ref la]))) tr (rr++[la]) (done++[MM.aR f e]) :=
    n4.push (g2.free hla) nla.2.2 nla.1 (by rw[aB,Zt];rfl) la5 λb o' hb h=>by rw[aK (show b≠tr from λz=>n4.nin (z▸hb))];exact h
   generalize upd H4 tr (.lst (rr.map V.ref++[.ref la]))=H5 at el5 la5 hH5 n5;refine(dB _ rfl lr rfl ⟨_,SqL.of el5⟩ (λD hD=>?_));refine m4 (e::r).length (λi ys H'=>ys=vns (((e::r).take i).filter λx=>decide (x∉MM.aR f e))/\H'=upd H5 D (.lst ys)) ⟨by simp,rfl⟩ ?_ ?_
   ·rintro i ys H' hi ⟨rfl,rfl⟩;have gD:=aI hD (.lst (vns (((e::r).take i).filter λx=>decide (x∉MM.aR f e))));have hx:(vns (e::r))[i]?=some (vn (e::r)[i]):=by rw[Zk,Zz hi];rfl
    refine⟨⟨_,_,SqL.of (gD _ _ el5),hx⟩,?_⟩;rintro x' H'' ⟨rfl,hx'⟩;have e6:=hx' _ (SqL.of (gD _ _ el5));rw[hx]at e6;cases e6;refine⟨(Fills.refl _).set _ rfl,?_⟩;refine(cL _ rfl _ rfl la _ rfl (cU (.inl (SqL.of (gD _ _ la5))) rfl (xQ _) _ rfl ?_));rw[DK];have ts1:=take_succ_filter (λx=>decide (x∉MM.aR f e)) (e::r) i _ (Zz hi);have hfl:((List.take i (e::r)).filter λx=>decide (x∉MM.aR f e)).length<=1000:=by
     have h1:=List.length_filter_le (λx=>decide (x∉MM.aR f e)) (List.take i (e::r));have h2:(List.take i (e::r)).length<=(e::r).length:=List.length_take_le' _ _
     lia
    by_cases hxm:(e::r)[i]∈MM.aR f e
    ·refine fU (by simp[hxm]) ?_;rw[ts1,if_neg (by simp[hxm]),List.append_nil];exact⟨rfl,rfl⟩
    ·refine gC (by simp[hxm]) ?_;refine(GX _ rfl aB ?_ ?_ ?_)
     ·rw[Zq];exact Ys hfl (by decide)
     ·rw[ts1,if_pos (by simp[hxm]),kJ];rfl
     ·rw[hV]
   ·rintro ys H' ⟨rfl,rfl⟩;have gD:=aI hD (.lst (vns (((e::r).take (e::r).length).filter λx=>decide (x∉MM.aR f e))));refine⟨⟨_,SqL.of (gD _ _ el5),by rw[Zq];exact Nat.le_refl _⟩,?_⟩;have sh:=MM.eM m heN r;refine⟨_,?_,(eY D _ (rr++[la]) (done++[MM.aR f e]) _ _ rfl (eK rfl (hH5.trans gD) aB (n5.keep λb o' _ h=>gD _ _ h) ((aH n5.at_ hD).symm) ?_ ?_ ?_))⟩
    ·rw[Yv];simp only[Yq];lia
    ·rw[Yv,Yd];rw[MM.mX m hlt]at eq;exact eq
    ·intro x hx;rw[Yv]at hx;exact hlt x (Yz.mp hx).1
    ·rw[Yv];simp only[Yq]at hll;lia
  ·refine gC (by simp;lia) ?_;have hjp:=MM.yL rd hj0 hj hc;refine⟨_,λσ' H' h=>h,?_⟩;refine(fF _ rfl (.inl ⟨rfl,_,SqL.of e4⟩) _ rfl (bN la _ _ rfl rfl e4 ?_ ?_))
   ·rw[Zq,MM.oJ];exact Ys (by lia:j<=1000) (by decide)
   have e7:vns (MM.path f e j)++[vn (MM.iter f j e)]=vns (MM.path f e (j+1)):=by rw[MM.uG,kJ];rfl
   rw[e7];have hH5:aZ H (upd H4 la (.lst (vns (MM.path f e (j+1))))):=λb o' h=>by rw[aK (aH (g2 _ _ h) hla)];exact hH b o' h
   refine(bJ _ rfl _ rfl _ rfl (dA a o ts os (MM.iter f j e) rfl (hH5.ts ht) ⟨ hH5.os ho,g,by rw[hN];exact MM.cP m heN j,?_⟩));rw[hf];exact(EF (MM.per f e-(j+1)) (by lia) (j+1) rfl (by lia) (by lia) rfl ⟨ λb o' hb h=>by rw[aK hb];exact b4 b o' hb h,aB⟩)
end K29
namespace MM
theorem jP{l:List Nat}{i x y:Nat}:y∈L2.bI l i x↔y=x\/y∈l:=by
 unfold L2.bI;rw[Zf,Zn];have h:y∈l↔y∈l.take i\/y∈l.drop i:=by rw[<-Zf,List.take_append_drop]
 rw[h];constructor
 ·rintro(h | h | h)
  ·exact .inr (.inl h)
  ·exact .inl h
  ·exact .inr (.inr h)
 ·rintro(h | h | h)
  ·exact .inr (.inl h)
  ·exact .inl h
  ·exact .inr (.inr h)
theorem gP{l:List Nat}(nd:l.Nodup){i x:Nat}(h:x∉l):(L2.bI l i x).Nodup:=by
 unfold L2.bI;have p:(l.take i++x::l.drop i).Perm (x::l):=by
  have q:=List.perm_middle (a:=x) (l₁:=l.take i) (l₂:=l.drop i);rw[List.take_append_drop]at q;exact q
 exact(p.nodup_iff).mpr (List.nodup_cons.mpr ⟨h,nd⟩)
theorem jQ{α:Type}(l:List α)(i:Nat)(x:α):(L2.bI l i x).length=l.length+1:=by
 unfold L2.bI;rw[Zm,Yq,<-Nat.add_assoc,<-Zm,List.take_append_drop]
theorem pY(l:List Nat)(i x:Nat):L2.bI (L2.vns l) i (L2.vn x)=L2.vns (L2.bI l i x):=by
 unfold L2.bI L2.vns;rw[Zt,List.map_cons,List.map_take,List.map_drop]
end MM
namespace K29
open PySem L2 PyProof.Rows
def N9:Sp:=λvs H Q _=>∃(num:Int) (n:Nat),vs=[.int num,vn n]/\0<=num/\n<=400/\∀(r:Addr) (ps:List Nat),H r=none->ps.Nodup->(∀x∈ps,x<n)->ps.length=n->Q (.ref r) (upd H r (.lst (vns ps)))
theorem mS(T:Txt K mg t):bT P w K mg base CX0 1 t.AB t.zQ ["_law_number","_law_many"] N9:=by
 refine T.j4.F.ok u7 (λvs H Q E h=>?_) (λcdv A outer s H vs Q E hr h=>?_)
 ·obtain⟨num,n,rfl,_⟩:=h;rfl
 obtain⟨num,n,rfl,h0,hn,q⟩:=h;have nd:=u7.nd;refine⟨_,(aC (aW 2 nd (cC aE))
  (aC (cV PassesOwn.never rfl (cX rfl T.dZ (aA (pv 1) aE)) (aO (i:=3) nd rfl (Or.inl rfl)) (aC (bX (oI PySem.F.plainAttrs_list PySem.F.slot_list_insert PySem.F.type_list_insert lK (pv 2) (aA (aT dE (pv 0) (aT c8 (pv 3) aG)) (aA (pv 3) aE))))
  (aL (aW 0 nd (aT eG (pv 0) (aT c8 (pv 3) aG))))))
  (aL (bE (pv 2))))),?_⟩
 refine⟨(by show 0<=ZW;decide),λr hr0=>?_⟩;refine(pL _ rfl n rfl (by lia) (by lia) (fZ (lo:=0) (n:=(n:Int).toNat) (λi σ H'=>∃(num':Int) (ps:List Nat) (o:Option V),0<=num'/\σ=[some (.int num'),some (vn n),some (.ref r),o]/\H'=upd H r (.lst (vns ps))/\ps.Nodup/\(∀x∈ps,x<i)/\ps.length=i)
  (bN num ([]) none h0 rfl rfl List.nodup_nil ⟨ (λx hx=>by cases hx),rfl⟩) ?_ ?_))
 ·rintro i σ H' hi ⟨num',ps,o,h0',rfl,rfl,hnd,hlt,hl⟩;have hi':i<400:=by lia
  have e1:num' % (0+(i:Int)+1)=(((num' % (0+(i:Int)+1)).toNat:Nat):Int):=by
   have:=Xj num' (show(0+(i:Int)+1)≠0 by lia)
   lia
  have e2:(num' % (0+(i:Int)+1)).toNat<=i:=by
   have:=Xk num' (show 0<(0+(i:Int)+1) by lia)
   lia
  refine(jS _ rfl (.inl ⟨rfl,_,SqL.of aB⟩) _ rfl _ rfl (gF _ _ rfl rfl _ _ rfl ⟨ rfl,(by show(0:Int)<0+(i:Int)+1;lia),(aJ _ rfl r _ ((num' % (0+(i:Int)+1)).toNat) (vn i) rfl ⟨ ?_,aB,?_,?_,?_⟩)⟩))
  ·show[V.int (num' % (0+(i:Int)+1)),V.int (0+(i:Int))]=[V.int (((num' % (0+(i:Int)+1)).toNat:Nat):Int),V.int (i:Int)]
   rw[<-e1,Int.zero_add]
  ·rw[Zq];lia
  ·rw[Zq];exact Ys (by lia:ps.length<=1000) (by decide)
  refine(cL _ rfl _ rfl _ _ rfl (kI rfl _ _ rfl rfl ⟨by show(0:Int)<0+(i:Int)+1;lia,by show 0+(i:Int)+1<1073741824;lia⟩ ?_));refine(bN _ (bI ps (num' % (0+(i:Int)+1)).toNat i) _ ?_ rfl ?_ ?_ ⟨ ?_,?_⟩)
  ·exact Int.ediv_nonneg h0' (by lia)
  ·rw[hV,MM.pY]
  ·exact MM.gP hnd λz=>Nat.lt_irrefl _ (hlt i z)
  ·intro x hx;rcases MM.jP.mp hx with rfl | hx
   ·lia
   ·have:=hlt x hx;lia
  ·rw[MM.jQ,hl]
 ·rintro σ H' ⟨num',ps,o,h0',rfl,rfl,hnd,hlt,hl⟩;exact⟨_,rfl,q r ps hr0 hnd (λx hx=>by have:=hlt x hx;lia) (by lia)⟩
def JV:Sp:=λvs H Q _=>∃num by_ k:Int,vs=[.int num,.int by_,.int k]/\0<by_/\by_<1000/\0<=k/\k<=1000/\∀d:Int,0<=d->d<by_->Q (.int d) H
theorem pT(T:Txt K mg t):bT P w K mg base CX0 1 t.uX t.uS ["_law_number","_law_by","_law_k"] JV:=by
 refine T.jR.F.ok yB (λvs H Q E h=>?_) (λcdv A outer s H vs Q E hr h=>?_)
 ·obtain⟨num,b,k,rfl,_⟩:=h;rfl
 obtain⟨num,b,k,rfl,hb0,hb,hk0,hk,q⟩:=h;have nd:=yB.nd;refine⟨_,(aC (cV PassesOwn.never rfl (cX rfl T.dZ (aA (pv 2) aE)) (aO (i:=3) nd rfl (Or.inl rfl)) (aL (aW 0 nd (aT eG (pv 0) (pv 1)))))
  (aL (bE (aT dE (pv 0) (pv 1))))),?_⟩
 refine(pL _ rfl k rfl (by lia) (by lia) (fZ (lo:=0) (n:=k.toNat) (λ_ σ H'=>H'=H/\∃(c':Int) (o:Option V),σ=[some (.int c'),some (.int b),some (.int k),o]) ⟨rfl,num,none,rfl⟩ ?_ ?_))
 ·rintro i σ H' hi ⟨rfl,c',o,rfl⟩;exact(cL _ rfl _ rfl _ _ rfl ⟨ rfl,⟨hb0,by lia⟩,rfl,_,_,rfl⟩)
 ·rintro σ H' ⟨rfl,c',o,rfl⟩;exact(cL _ rfl _ rfl _ _ rfl ⟨ rfl,hb0,q _ (Xj _ (by lia)) (Xk _ hb0)⟩)
end K29
namespace MM
theorem DB(pick:Int){n:Nat}(h:0<n):∃i:Nat,i<n/\pick%(n:Int)=(i:Int):=by
 have h1:=Xj pick (show(n:Int)≠0 by lia);have h2:=Xk pick (show 0<(n:Int) by lia);exact⟨(pick%(n:Int)).toNat,by lia,by lia⟩
theorem pR{ts:bD}{t:Nat×Nat}{e:Nat}(h:e<2*ts.length):place (ts++[t]) e=place ts e:=by
 unfold place;have:e / 2<ts.length:=by lia
 simp only[List.getD,Zx this]
theorem kP(ts:bD)(t:Nat×Nat):place (ts++[t]) (2*ts.length)=t.1:=by
 unfold place;rw[if_pos (by lia),show 2*ts.length / 2=ts.length by lia];simp[List.getD]
theorem jK(ts:bD)(t:Nat×Nat):place (ts++[t]) (2*ts.length+1)=t.2:=by
 unfold place;rw[if_neg (by lia),show(2*ts.length+1) / 2=ts.length by lia];simp[List.getD]
theorem Good.newPlace{ts:bD}{os:a7}(g:Good ts os){a i:Nat}(ha:a<os.length)(h3:(row os a).length<4) :
  Good (ts++[(a,os.length)]) ((os.set a (L2.bI (row os a) i (2*ts.length)))++[[2*ts.length+1]]):=by
 have nm:2*ts.length∉row os a:=λz=>by have:=(g.g.ends a _ z).1;lia
 have g1:=g.g.congr (pl':=place (ts++[(a,os.length)])) λe he=>pR he;have g2:=g1.add ha (kP ts _) (l:=L2.bI (row os a) i (2*ts.length)) (λx=>jP) (gP (g.g.nd a) nm) (by rw[jQ];lia);have g3:=g2.new (by rw[List.length_set];exact jK ts _);refine⟨?_,by rw[Zm];simp⟩;rw[Zm];exact g3
theorem Good.newTie{ts:bD}{os:a7}(g:Good ts os){a b i j:Nat}(ha:a<os.length)(hb:b<os.length)(h1:(row os a).length<4)(h2:(row (os.set a (L2.bI (row os a) i (2*ts.length))) b).length<4) :
  Good (ts++[(a,b)]) ((os.set a (L2.bI (row os a) i (2*ts.length))).set b (L2.bI (row (os.set a (L2.bI (row os a) i (2*ts.length))) b) j (2*ts.length+1))):=by
 have nm:2*ts.length∉row os a:=λz=>by have:=(g.g.ends a _ z).1;lia
 have g1:=g.g.congr (pl':=place (ts++[(a,b)])) λe he=>pR he;have g2:=g1.add ha (kP ts _) (l:=L2.bI (row os a) i (2*ts.length)) (λx=>jP) (gP (g.g.nd a) nm) (by rw[jQ];lia);have nm2:2*ts.length+1∉row (os.set a (L2.bI (row os a) i (2*ts.length))) b:=λz=>by have:=(g2.ends b _ z).1;lia
 have g3:=g2.add (a:=b) (by rw[List.length_set];exact hb) (jK ts _) (l:=L2.bI (row (os.set a (L2.bI (row os a) i (2*ts.length))) b) j (2*ts.length+1)) (λx=>jP) (gP (g2.nd b) nm2) (by rw[jQ];lia);refine⟨?_,by rw[Zm];simp⟩;rw[Zm];exact g3
theorem FM{f:Nat->Nat}{N:Nat}(m:cE f N)(h:0<N):0<(bC f N).length:=by
 unfold bC;cases N with
 |zero=>lia
 |succ N =>
  have e:List.range (N+1)=0::(List.range N).map Nat.succ:=List.range_succ_eq_map;have hl:∀x∈List.range (N+1),x<N+1:=λx hx=>Zs.mp hx;rw[e]at hl ⊢;rw[mX m hl];simp
theorem vF{f:Nat->Nat}{N:Nat}(m:cE f N){d:List Nat}(h:d∈bC f N):0<d.length/\∀x∈d,x<N:=by
 obtain⟨e,he,rfl⟩:=rH m _ _ (Nat.le_refl _) (λx hx=>Zs.mp hx) d h;have heN:=Zs.mp he;exact⟨(FN m heN).1,iA m heN⟩
end MM
namespace L2
open PySem PyProof.Rows
theorem hJ.other{H:Hp}{a x:Addr}{ts:MM.bD}{zs:List V}(h:hJ H a ts)(hx:H x=some (.lst zs))(ne:x≠a)(o:HO):hJ (upd H x o) a ts:=by
 obtain⟨tr,h1,h2,h3⟩:=h;refine⟨tr,by rw[aK (Ne.symm ne)];exact h1,h2,λi t ht=>?_⟩;obtain⟨r,q1,q2⟩:=h3 i t ht;exact⟨r,q1,by rw[aK (dI q2 hx (λz=>nomatch z))];exact q2⟩
theorem hJ.push{H:Hp}{a r:Addr}{ts:MM.bD}{xs:List V}{t:Nat×Nat}(h:hJ H a ts)(hx:H a=some (.lst xs))(hr:H r=some (.tup [vn t.1,vn t.2])):hJ (upd H a (.lst (xs++[.ref r]))) a (ts++[t]):=by
 obtain⟨tr,h1,h2,h3⟩:=h;have ex:xs=tr.map V.ref:=by rw[hx]at h1;cases h1;rfl
 subst ex;refine⟨tr++[r],by rw[aB,Zt];rfl,by rw[Zm,Zm,h2];rfl,λi u hu=>?_⟩;rcases Xq i ts.length with q | q
 ·rw[Zx q]at hu;obtain⟨y,q1,q2⟩:=h3 i u hu;exact⟨y,by rw[Zx (by rw[h2];exact q)];exact q1,by rw[aK (dI q2 hx (λz=>nomatch z))];exact q2⟩
 ·have hi:i=ts.length:=by
   obtain⟨z,_⟩:=Zj.mp hu;rw[Zm]at z;simp at z
   lia
  subst hi;rw[Yx]at hu;cases hu;exact⟨r,by rw[<-h2,Yx],by rw[aK (dI hr hx (λz=>nomatch z))];exact hr⟩
theorem c7.set{H0 H:Hp}{o x:Addr}{rr:List Addr}{os:MM.a7}(n:c7 H0 H o rr os){p:Nat}{l:List Nat}(hx:rr[p]?=some x):c7 H0 (upd H x (.lst (vns l))) o rr (os.set p l) where
 at_:=by rw[aK (show o≠x from λz=>n.nin (z▸Zg hx))];exact n.at_
 len:=by rw[List.length_set];exact n.len
 row:=λi m h=>by
  by_cases e:p=i
  ·subst e;have hp:p<os.length:=by rw[<-n.len];exact(Zj.mp hx).1
   rw[List.getElem?_set_self hp]at h;cases h;exact⟨x,hx,aB⟩
  ·rw[List.getElem?_set_ne e]at h;obtain⟨y,h1,h2⟩:=n.row i m h;refine⟨y,h1,?_⟩;have ne:y≠x:=by
    rintro rfl;obtain⟨a1,b1⟩:=Zj.mp h1;obtain⟨a2,b2⟩:=Zj.mp hx;exact e ((List.getElem_inj n.nd).mp (b2.trans b1.symm))
   rw[aK ne];exact h2
 nd:=n.nd
 nin:=n.nin
 new:=n.new
 news:=n.news
theorem c7.item{H0 H:Hp}{o:Addr}{rr:List Addr}{os:MM.a7}(n:c7 H0 H o rr os){p:Nat}(hp:p<os.length):∃x,rr[p]?=some x/\x∈rr/\H x=some (.lst (vns (MM.row os p)))/\atI (rr.map V.ref) (p:Int)=some (.ref x):=by
 obtain⟨x,h1,h2⟩:=n.row p os[p] (Zz hp);refine⟨x,h1,Zg h1,?_,dX (by rw[Zk,h1];rfl)⟩;unfold MM.row;simp only[List.getD,Zz hp,Option.getD_some];exact h2
structure tS(H0 H:Hp)(a o:Addr)(rr:List Addr)(ts:MM.bD)(os:MM.a7):Prop where
 ts:hJ H a ts
 os:c7 H0 H o rr os
 an:H0 a=none
 ao:a≠o
 ar:a∉rr
theorem tS.keep{H0 H H':Hp}{a o:Addr}{rr:List Addr}{ts:MM.bD}{os:MM.a7}(m:tS H0 H a o rr ts os)(g:aZ H H'):tS H0 H' a o rr ts os:=⟨g.ts m.ts,m.os.keep λb u _ h=>g _ _ h,m.an,m.ao,m.ar⟩
end L2
namespace MM
structure tR(f:Nat->Nat)(l R:List Nat):Prop where
 nd:R.Nodup
 of:∀r∈R,r∈l
 all:∀x∈l,∃r∈R,x∈aR f r
 sep:∀r∈R,∀r'∈R,r'∈aR f r->r=r'
theorem E3(f:Nat->Nat):∃R,tR f [] R/\R.length=(lf f []).length:=by
 refine⟨[],⟨List.nodup_nil,?_,?_,?_⟩,rfl⟩<;>· intro r h;cases h
theorem DE{f:Nat->Nat}{N:Nat}(m:cE f N):∀(n:Nat) (l:List Nat),l.length<=n->(∀x∈l,x<N)->∃R,tR f l R/\R.length=(lf f l).length
 |0,l,h,_=>by
  have e:l=[]:=Yg.mp (by lia);subst e;exact E3 f
 |n+1,[],_,_=>E3 f
 |n+1,e::r,h,hl=>by
  have he:=hl e Zd;have s:=eM m he r;simp only[Yq]at h;obtain⟨R,q,ql⟩:=DE m n ((e::r).filter λx=>decide (x∉aR f e)) (by lia) (λx hx=>hl x (Yz.mp hx).1);have out:∀x∈R,x∈e::r/\x∉aR f e:=λx hx=>by
   have:=Yz.mp (q.of x hx);exact⟨this.1,by simpa using this.2⟩
  refine⟨e::R,⟨?_,?_,?_,?_⟩,by rw[mX m hl,Yq,Yq,ql]⟩
  ·exact List.nodup_cons.mpr ⟨λz=>(out e z).2 (fM m he),q.nd⟩
  ·intro x hx;rcases Zn.mp hx with rfl | hx
   ·exact Zd
   ·exact(out x hx).1
  ·intro x hx;by_cases z:x∈aR f e
   ·exact⟨e,Zd,z⟩
   ·obtain⟨y,y1,y2⟩:=q.all x (Yz.mpr ⟨hx,by simpa using z⟩);exact⟨y,Zw _ y1,y2⟩
  ·intro x hx y hy z;rcases Zn.mp hx with h1 | h1<;>rcases Zn.mp hy with h2 | h2
   ·rw[h1,h2]
   ·rw[h1]at z;exact absurd z (out y h2).2
   ·rw[h2]at z;exact absurd (fO m (hl x (out x h1).1) z) (out x h1).2
   ·exact q.sep x h1 y h2 z
theorem J2{f:Nat->Nat}{N:Nat}(m:cE f N){R S:List Nat}(a:tR f (List.range N) R)(b:tR f (List.range N) S):R.length<=S.length:=by
 have lt:∀r∈R,r<N:=λr h=>Zs.mp (a.of r h);have hg:∀r:Nat,∃s,r∈R->s∈S/\r∈aR f s:=λr=>by
  by_cases h:r∈R
  ·obtain⟨s,h1,h2⟩:=b.all r (a.of r h);exact⟨s,λ_=>⟨h1,h2⟩⟩
  ·exact⟨0,λz=>absurd z h⟩
 obtain⟨g,hg⟩:=Classical.axiomOfChoice hg;have nd:(R.map λr=>S.idxOf (g r)).Nodup:=by
  refine List.Pairwise.map (R:=λx y=>x∈R/\y∈R/\x≠y) _ ?_ ?_
  ·rintro x y ⟨hx,hy,hne⟩ z;have e:g x=g y:=by
    have h1:=List.getElem_idxOf (List.idxOf_lt_length_iff.mpr (hg x hx).1);have h2:=List.getElem_idxOf (List.idxOf_lt_length_iff.mpr (hg y hy).1);rw[<-h1,<-h2];congr 1
   have hs:=Zs.mp (b.of _ (hg x hx).1);have h3:=(hg y hy).2;rw[<-e]at h3;exact hne (a.sep x hx y hy (eX m (lt x hx) (fO m hs (hg x hx).2) h3))
  ·have:=a.nd;rw[List.nodup_iff_pairwise_ne]at this;exact List.Pairwise.imp_of_mem (λhx hy h=>⟨hx,hy,h⟩) this
 have:=oN S.length _ nd (λx hx=>by
  obtain⟨r,hr,rfl⟩:=Zh.mp hx;exact List.idxOf_lt_length_iff.mpr (hg r hr).1)
 rwa [Zq]at this
theorem gQ{f:Nat->Nat}{N:Nat}(m:cE f N){R:List Nat}(a:tR f (List.range N) R):(bC f N).length=R.length:=by
 obtain⟨S,b,l⟩:=DE m _ (List.range N) (Nat.le_refl _) (λx hx=>Zs.mp hx);have h1:=J2 m a b;have h2:=J2 m b a;show(lf f (List.range N)).length=_
 lia
theorem wO{f:Nat->Nat}{N:Nat}(m:cE f N):∃R,tR f (List.range N) R/\R.length=(bC f N).length:=DE m _ (List.range N) (Nat.le_refl _) (λx hx=>Zs.mp hx)
theorem AR{f g:Nat->Nat}{N:Nat}(m:cE f N)(k:cE g N){φ:Nat->Nat}(hφ:cE φ N)(h:∀x,x<N->g (φ x)=φ (f x)):(bC g N).length=(bC f N).length:=by
 obtain⟨R,q,l⟩:=wO m;have it:∀n x,x<N->iter g n (φ x)=φ (iter f n x):=by
  intro n;induction n with
  |zero=>intro x _;rfl
  |succ n ih=>intro x hx;show g (iter g n (φ x))=φ (f (iter f n x));rw[ih x hx,h _ (cP m hx n)]
 have sur:∀y,y<N->∃x,x<N/\φ x=y:=λy hy=>by
  obtain⟨n,h0,_,hn⟩:=gS hφ hy;refine⟨iter φ (n-1) y,cP hφ hy _,?_⟩;have e:n=(n-1)+1:=by lia
  rw[e]at hn;exact hn
 have lt:∀r∈R,r<N:=λr h=>Zs.mp (q.of r h);have a:tR g (List.range N) (R.map φ):=by
  refine⟨?_,?_,?_,?_⟩
  ·refine List.Pairwise.map (R:=λx y=>x∈R/\y∈R/\x≠y) _ ?_ ?_
   ·rintro x y ⟨hx,hy,hne⟩ z;exact hne (hφ.inj _ _ (lt x hx) (lt y hy) z)
   ·have:=q.nd;rw[List.nodup_iff_pairwise_ne]at this;exact List.Pairwise.imp_of_mem (λhx hy h=>⟨hx,hy,h⟩) this
  ·intro r hr;obtain⟨x,hx,rfl⟩:=Zh.mp hr;exact Zs.mpr (hφ.lt _ (lt x hx))
  ·intro y hy;obtain⟨x,hx,rfl⟩:=sur y (Zs.mp hy);obtain⟨r,r1,r2⟩:=q.all x (Zs.mpr hx);obtain⟨n,rfl⟩:=(bS m (lt r r1)).mp r2;exact⟨φ r,Zh.mpr ⟨r,r1,rfl⟩,(bS k (hφ.lt _ (lt r r1))).mpr ⟨n,it n r (lt r r1)⟩⟩
  ·intro r hr r' hr' z;obtain⟨x,hx,rfl⟩:=Zh.mp hr;obtain⟨y,hy,rfl⟩:=Zh.mp hr';obtain⟨n,hn⟩:=(bS k (hφ.lt _ (lt x hx))).mp z;rw[it n x (lt x hx)]at hn;have e:=hφ.inj _ _ (cP m (lt x hx) n) (lt y hy) hn;rw[q.sep x hx y hy ((bS m (lt x hx)).mpr ⟨n,e⟩)]
 rw[gQ k a,Zq,l]
theorem wZ{f:Nat->Nat}{N:Nat}(m:cE f N){S:Nat->Prop}(h:∀x,x<N->S x->S (f x)){x:Nat}(hx:x<N)(sx:S x):∀y∈aR f x,S y:=by
 intro y hy;obtain⟨n,rfl⟩:=(bS m hx).mp hy;clear hy;induction n with
 |zero=>exact sx
 |succ n ih=>exact h _ (cP m hx n) ih
theorem zA{f g:Nat->Nat}{x:Nat}:∀n,(∀i,i<n->g (iter f i x)=f (iter f i x))->iter g n x=iter f n x
 |0,_=>rfl
 |n+1,h=>by show g (iter g n x)=f (iter f n x);rw[zA n (λi hi=>h i (by lia)),h n (by lia)]
theorem MW(f:Nat->Nat)(x n:Nat):iter f (n+1) x=iter f n (f x):=by
 rw[Nat.add_comm,iB];rfl
theorem yK{f:Nat->Nat}{N:Nat}(m:cE f N){e k:Nat}(he:e<N)(r:qO f e k){i j:Nat}(hi:i<k)(hj:j<k)(h:iter f i e=iter f j e):i=j:=by
 rcases Nat.lt_trichotomy i j with q | q | q
 ·have e1:iter f i e=iter f i (iter f (j-i) e):=by rw[<-iB,Nat.sub_add_cancel (Nat.le_of_lt q)];exact h
  exact absurd (sV m he (cP m he _) i e1).symm (r.2.2 (j-i) (by lia) (by lia))
 ·exact q
 ·have e1:iter f j e=iter f j (iter f (i-j) e):=by rw[<-iB,Nat.sub_add_cancel (Nat.le_of_lt q)];exact h.symm
  exact absurd (sV m he (cP m he _) j e1).symm (r.2.2 (i-j) (by lia) (by lia))
theorem BF{f:Nat->Nat}{N:Nat}(m:cE f N){R:List Nat}(q:tR f (List.range N) R){u:Nat}(hu:u<N):∃S:List Nat,S.length+1=R.length/\S.Nodup/\(∀s∈S,s<N/\s∉aR f u)/\(∀x,x<N->x∉aR f u->∃s∈S,x∈aR f s)/\(∀r∈S,∀r'∈S,r'∈aR f r->r=r'):=by
 obtain⟨r0,h1,h2⟩:=q.all u (Zs.mpr hu);have lt:∀r∈R,r<N:=λr h=>Zs.mp (q.of r h);have h0:0<R.length:=List.length_pos_of_mem h1;refine⟨R.erase r0,?_,q.nd.erase _,?_,?_,?_⟩
 ·rw[List.length_erase_of_mem h1];lia
 ·intro s hs;have:=(q.nd.mem_erase_iff).mp hs;refine⟨lt s this.2,λz=>this.1 ?_⟩;exact(q.sep r0 h1 s this.2 (eX m (lt r0 h1) h2 z)).symm
 ·intro x hx z;obtain⟨s,s1,s2⟩:=q.all x (Zs.mpr hx);refine⟨s,(q.nd.mem_erase_iff).mpr ⟨λe=>z ?_,s1⟩,s2⟩;rw[e]at s2;exact eX m hu (fO m (lt r0 h1) h2) s2
 ·intro r hr r' hr' z;exact q.sep r (List.mem_of_mem_erase hr) r' (List.mem_of_mem_erase hr') z
theorem iK{f g:Nat->Nat}{N M:Nat}(m:cE f N)(k:cE g M)(hNM:N<=M){u:Nat}(hu:u<N)(same:∀x,x<N->x∉aR f u->g x=f x){s:Nat}(hs:s<N)(hsu:s∉aR f u)(y:Nat):y∈aR g s↔y∈aR f s:=by
 have off:∀i,iter f i s∉aR f u:=λi z=>hsu (eX m hu z (fO m hs ((bS m hs).mpr ⟨i,rfl⟩)));have it:∀n,iter g n s=iter f n s:=λn=>zA n λi _=>same _ (cP m hs i) (off i);rw[bS k (by lia),bS m hs];exact⟨λ⟨n,h⟩=>⟨n,by rw[<-it];exact h⟩,λ⟨n,h⟩=>⟨n,by rw[it];exact h⟩⟩
structure Put(f g:Nat->Nat)(N u j:Nat):Prop where
 j0:0<j
 jk:j<=per f u
 same:∀x,x<N->x≠u->x≠iter f j u->g x=f x
 v:g (iter f j u)=N+1
 n1:g (N+1)=f u
 n0:j<per f u->g N=f (iter f j u)/\g u=N
 n0':j=per f u->g N=N
theorem SB{f g:Nat->Nat}{N u j:Nat}(m:cE f N)(k:cE g (N+2))(hu:u<N)(p:Put f g N u j):(bC g (N+2)).length=(bC f N).length+1:=by
 obtain⟨R,q,ql⟩:=wO m;obtain⟨S,l,nd,out,all,sep⟩:=BF m q hu;obtain⟨r,hk⟩:=eQ m hu;generalize hP:per f u=P at r hk p;have j0:=p.j0;have jk:j<=P:=by have:=p.jk;lia
 have off:∀x,x<N->x∉aR f u->x≠u/\x≠iter f j u:=λx hx z=>⟨λe=>z (by rw[e];exact fM m hu),λe=>z (by rw[e];exact(bS m hu).mpr ⟨j,rfl⟩)⟩
 have same:∀x,x<N->x∉aR f u->g x=f x:=λx hx z=>p.same x hx (off x hx z).1 (off x hx z).2;have inO:∀x,x∈aR f u->∃i,0<i/\i<=P/\iter f i u=x:=λx hx=>by
  unfold aR at hx;rw[hP]at hx;obtain⟨i,h1,h2⟩:=lL.mp hx;rcases Nat.eq_zero_or_pos i with z | z
  ·subst z;exact⟨P,r.1,Nat.le_refl _,r.2.1.trans h2⟩
  ·exact⟨i,z,by lia,h2⟩
 have A:∀i,0<i->i<=j->iter g i (N+1)=iter f i u:=by
  intro i h0;induction i with
  |zero=>lia
  |succ i ih =>
   intro h1;rcases Nat.eq_zero_or_pos i with z | z
   ·subst z;exact p.n1
   ·show g (iter g i (N+1))=f (iter f i u);rw[ih z (by lia)];refine p.same _ (cP m hu i) (λe=>?_) (λe=>?_)
    ·exact r.2.2 i z (by lia) e
    ·rcases Xq j P with c | c
     ·have:=yK m hu r (by lia) c e;lia
     ·have:j=P:=by lia
      rw[this,r.2.1]at e;exact r.2.2 i z (by lia) e
 have B:j<P->∀i,0<i->i<=P-j->iter g i N=iter f (j+i) u:=by
  intro hj i h0;induction i with
  |zero=>lia
  |succ i ih =>
   intro h1;rcases Nat.eq_zero_or_pos i with z | z
   ·subst z;exact(p.n0 (by lia)).1
   ·show g (iter g i N)=f (iter f (j+i) u);rw[ih z (by lia)];refine p.same _ (cP m hu _) (λe=>?_) (λe=>?_)
    ·exact r.2.2 (j+i) (by lia) (by lia) e
    ·have:=yK m hu r (by lia) hj e;lia
 have a:tR g (List.range (N+2)) (S++[N,N+1]):=by
  have cA:∀y∈aR g (N+1),y=N+1\/∃i,0<i/\i<=j/\iter f i u=y:=wZ k (S:=λy=>y=N+1\/∃i,0<i/\i<=j/\iter f i u=y) (λx hx h=>by
   rcases h with rfl | ⟨i,h0,h1,rfl⟩
   ·exact .inr ⟨1,by lia,j0,p.n1.symm⟩
   ·rcases Xq i j with c | c
    ·refine .inr ⟨i+1,by lia,c,?_⟩;have e1:=A i h0 h1;have e2:=A (i+1) (by lia) c;rw[<-e2,<-e1];rfl
    ·have e:i=j:=by lia
     rw[e];exact .inl p.v) (by lia) (.inl rfl)
  have cB:∀y∈aR g N,y=N\/∃i,j<i/\i<=P/\iter f i u=y:=wZ k (S:=λy=>y=N\/∃i,j<i/\i<=P/\iter f i u=y) (λx hx h=>by
   rcases Xq j P with c | c
   ·rcases h with rfl | ⟨i,h0,h1,rfl⟩
    ·exact .inr ⟨j+1,by lia,c,(p.n0 (by lia)).1.symm⟩
    ·rcases Xq i P with d | d
     ·refine .inr ⟨i+1,by lia,d,?_⟩;have e1:=B c (i-j) (by lia) (by lia);have e2:=B c (i-j+1) (by lia) (by lia);rw[show j+(i-j)=i by lia]at e1;rw[show j+(i-j+1)=i+1 by lia]at e2;rw[<-e2,<-e1];rfl
     ·have e:i=P:=by lia
      rw[e,r.2.1];exact .inl (p.n0 (by lia)).2
   ·rcases h with rfl | ⟨i,h0,h1,rfl⟩
    ·exact .inl (p.n0' (by lia))
    ·lia) (by lia) (.inl rfl)
  refine⟨?_,?_,?_,?_⟩
  ·rw[List.nodup_append];refine⟨nd,by simp,λx hx y hy e=>?_⟩;have:=(out x hx).1;simp only[Zn,List.not_mem_nil,or_false]at hy
   lia
  ·intro x hx;rw[Zs];rcases Zf.mp hx with h | h
   ·have:=(out x h).1;lia
   ·simp only[Zn,List.not_mem_nil,or_false]at h;lia
  ·intro x hx;have hx:=Zs.mp hx;rcases Xq x N with c | c
   ·by_cases z:x∈aR f u
    ·obtain⟨i,h0,h1,rfl⟩:=inO x z;rcases Xq j i with d | d
     ·refine⟨N,by simp,(bS k (by lia)).mpr ⟨i-j,?_⟩⟩;rw[B (by lia) (i-j) (by lia) (by lia),show j+(i-j)=i by lia]
     ·exact⟨N+1,by simp,(bS k (by lia)).mpr ⟨i,A i h0 d⟩⟩
    ·obtain⟨s,s1,s2⟩:=all x c z;exact⟨s,List.mem_append_left _ s1,(iK m k (by lia) hu same (out s s1).1 (out s s1).2 x).mpr s2⟩
   ·rcases Xq N x with d | d
    ·have e:x=N+1:=by lia
     subst e;exact⟨N+1,by simp,fM k (by lia)⟩
    ·have e:x=N:=by lia
     subst e;exact⟨x,by simp,fM k (by lia)⟩
  ·intro x hx y hy z;have hin:∀i,iter f i u∈aR f u:=λi=>(bS m hu).mpr ⟨i,rfl⟩;have hlt:∀i,iter f i u<N:=λi=>cP m hu i;rcases Zf.mp hx with h1 | h1<;>rcases Zf.mp hy with h2 | h2
   ·exact sep x h1 y h2 ((iK m k (by lia) hu same (out x h1).1 (out x h1).2 y).mp z)
   ·have:=iA m (out x h1).1 y ((iK m k (by lia) hu same (out x h1).1 (out x h1).2 y).mp z);simp only[Zn,List.not_mem_nil,or_false]at h2
    lia
   ·have hy1:=(out y h2).1;simp only[Zn,List.not_mem_nil,or_false]at h1;rcases h1 with rfl | rfl
    ·rcases cB y z with e | ⟨i,_,_,e⟩
     ·lia
     ·exact absurd (e▸hin i) (out y h2).2
    ·rcases cA y z with e | ⟨i,_,_,e⟩
     ·lia
     ·exact absurd (e▸hin i) (out y h2).2
   ·simp only[Zn,List.not_mem_nil,or_false]at h1 h2;rcases h1 with rfl | rfl<;>rcases h2 with rfl | rfl
    ·rfl
    ·rcases cB _ z with e | ⟨i,_,_,e⟩
     ·lia
     ·have:=hlt i;lia
    ·rcases cA _ z with e | ⟨i,_,_,e⟩
     ·lia
     ·have:=hlt i;lia
    ·rfl
 rw[gQ k a,Zm,<-ql];show S.length+2=_
 lia
structure YL(f g:Nat->Nat)(N u:Nat):Prop where
 same:∀x,x<N->x≠u->g x=f x
 at_:g u=N
 n:g N=N+1
 n1:g (N+1)=f u
theorem LX{f g:Nat->Nat}{N u:Nat}(m:cE f N)(k:cE g (N+2))(hu:u<N)(p:YL f g N u):(bC g (N+2)).length=(bC f N).length:=by
 obtain⟨R,q,ql⟩:=wO m;obtain⟨S,l,nd,out,all,sep⟩:=BF m q hu;obtain⟨r,hk⟩:=eQ m hu;generalize hP:per f u=P at r hk;have off:∀x,x<N->x∉aR f u->x≠u:=λx hx z e=>z (by rw[e];exact fM m hu);have same:∀x,x<N->x∉aR f u->g x=f x:=λx hx z=>p.same x hx (off x hx z);have inO:∀x,x∈aR f u->∃i,0<i/\i<=P/\iter f i u=x:=λx hx=>by
  unfold aR at hx;rw[hP]at hx;obtain⟨i,h1,h2⟩:=lL.mp hx;rcases Nat.eq_zero_or_pos i with z | z
  ·subst z;exact⟨P,r.1,Nat.le_refl _,r.2.1.trans h2⟩
  ·exact⟨i,z,by lia,h2⟩
 have A:∀i,0<i->i<=P->iter g (i+1) N=iter f i u:=by
  intro i h0;induction i with
  |zero=>lia
  |succ i ih =>
   intro h1;rcases Nat.eq_zero_or_pos i with z | z
   ·subst z;show g (g N)=f u;rw[p.n,p.n1]
   ·show g (iter g (i+1) N)=f (iter f i u);rw[ih z (by lia)];exact p.same _ (cP m hu i) (λe=>r.2.2 i z (by lia) e)
 have a:tR g (List.range (N+2)) (S++[N]):=by
  have cA:∀y∈aR g N,y=N\/y=N+1\/∃i,0<i/\i<=P/\iter f i u=y:=wZ k (S:=λy=>y=N\/y=N+1\/∃i,0<i/\i<=P/\iter f i u=y) (λx hx h=>by
   rcases h with rfl | rfl | ⟨i,h0,h1,rfl⟩
   ·exact .inr (.inl p.n)
   ·exact .inr (.inr ⟨1,by lia,r.1,p.n1.symm⟩)
   ·rcases Xq i P with c | c
    ·refine .inr (.inr ⟨i+1,by lia,c,?_⟩);have e1:=A i h0 h1;have e2:=A (i+1) (by lia) c;rw[<-e2,<-e1];rfl
    ·have e:i=P:=by lia
     rw[e,r.2.1];exact .inl p.at_) (by lia) (.inl rfl)
  refine⟨?_,?_,?_,?_⟩
  ·rw[List.nodup_append];refine⟨nd,by simp,λx hx y hy e=>?_⟩;have:=(out x hx).1;simp only[Zn,List.not_mem_nil,or_false]at hy
   lia
  ·intro x hx;rw[Zs];rcases Zf.mp hx with h | h
   ·have:=(out x h).1;lia
   ·simp only[Zn,List.not_mem_nil,or_false]at h;lia
  ·intro x hx;have hx:=Zs.mp hx;rcases Xq x N with c | c
   ·by_cases z:x∈aR f u
    ·obtain⟨i,h0,h1,rfl⟩:=inO x z;exact⟨N,by simp,(bS k (by lia)).mpr ⟨i+1,A i h0 h1⟩⟩
    ·obtain⟨s,s1,s2⟩:=all x c z;exact⟨s,List.mem_append_left _ s1,(iK m k (by lia) hu same (out s s1).1 (out s s1).2 x).mpr s2⟩
   ·rcases Xq N x with d | d
    ·have e:x=N+1:=by lia
     subst e;exact⟨N,by simp,(bS k (by lia)).mpr ⟨1,p.n⟩⟩
    ·have e:x=N:=by lia
     subst e;exact⟨x,by simp,fM k (by lia)⟩
  ·intro x hx y hy z;have hin:∀i,iter f i u∈aR f u:=λi=>(bS m hu).mpr ⟨i,rfl⟩;rcases Zf.mp hx with h1 | h1<;>rcases Zf.mp hy with h2 | h2
   ·exact sep x h1 y h2 ((iK m k (by lia) hu same (out x h1).1 (out x h1).2 y).mp z)
   ·have:=iA m (out x h1).1 y ((iK m k (by lia) hu same (out x h1).1 (out x h1).2 y).mp z);simp only[Zn,List.not_mem_nil,or_false]at h2
    lia
   ·have hy1:=(out y h2).1;simp only[Zn,List.not_mem_nil,or_false]at h1;subst h1;rcases cA y z with e | e | ⟨i,_,_,e⟩
    ·lia
    ·lia
    ·exact absurd (e▸hin i) (out y h2).2
   ·simp only[Zn,List.not_mem_nil,or_false]at h1 h2
    lia
 rw[gQ k a,Zm,<-ql];show S.length+1=_
 lia
def Cn(f:Nat->Nat)(N:Nat):Prop:=∀S:Nat->Prop,(∀x,x<N->S x->S (f x))->(∀x,x<N->S x->S (oth x))->∀x y,x<N->y<N->S x->S y
def kH(ts:bD)(os:a7):Prop:=Cn (behind ts os) (2*ts.length)
theorem MD(n:Nat):oth (2*n)=2*n+1:=by unfold oth;rw[if_pos (by lia)]
theorem SH(n:Nat):oth (2*n+1)=2*n:=by unfold oth;rw[if_neg (by lia)];lia
theorem K5{f g:Nat->Nat}{T:Nat}(c:Cn f (2*T))(h:∀S:Nat->Prop,(∀x,x<2*T+2->S x->S (g x))->(∀x,x<2*T+2->S x->S (oth x))->(∀x,x<2*T->S x->S (f x))/\(S (2*T+1)->∃z,z<2*T/\S z)/\((∀y,y<2*T->S y)->S (2*T+1))):Cn g (2*T+2):=by
 intro S h1 h2 x y hx hy sx;obtain⟨a,b,d⟩:=h S h1 h2;have up:S (2*T)->S (2*T+1):=λs=>by have:=h2 _ (by lia) s;rwa [MD]at this
 have dn:S (2*T+1)->S (2*T):=λs=>by have:=h2 _ (by lia) s;rwa [SH]at this
 have old:∃z,z<2*T/\S z:=by
  rcases Xq x (2*T) with h | h
  ·exact⟨x,h,sx⟩
  ·have:x=2*T\/x=2*T+1:=by lia
   rcases this with rfl | rfl
   ·exact b (up sx)
   ·exact b sx
 obtain⟨z,hz,sz⟩:=old;have all:∀y,y<2*T->S y:=λy hy=>c S a (λx hx s=>h2 x (by lia) s) z y hz hy sz;have s1:=d all;rcases Xq y (2*T) with h | h
 ·exact all y h
 ·have:y=2*T\/y=2*T+1:=by lia
  rcases this with rfl | rfl
  ·exact dn s1
  ·exact s1
theorem MZ{f g:Nat->Nat}{T u:Nat}(m:cE f (2*T))(k:cE g (2*T+2))(hu:u<2*T)(p:YL f g (2*T) u):(bC g (2*T+2)).length=(bC f (2*T)).length/\(Cn f (2*T)->Cn g (2*T+2)):=by
 refine⟨LX m k hu p,λc=>K5 c λS h1 h2=>?_⟩;have up:S (2*T)->S (2*T+1):=λs=>by have:=h2 _ (by lia) s;rwa [MD]at this
 have s1:S (2*T+1)->S (f u):=λs=>by have:=h1 _ (by lia) s;rwa [p.n1]at this
 have su:S u->S (2*T):=λs=>by have:=h1 u (by lia) s;rwa [p.at_]at this
 refine⟨λx hx s=>?_,λs=>⟨f u,m.lt u hu,s1 s⟩,λall=>up (su (all u hu))⟩;by_cases q:x=u
 ·subst q;exact s1 (up (su s))
 ·rw[<-p.same x hx q];exact h1 x (by lia) s
theorem E5{f g:Nat->Nat}{T u j:Nat}(m:cE f (2*T))(k:cE g (2*T+2))(hu:u<2*T)(p:Put f g (2*T) u j):(bC g (2*T+2)).length=(bC f (2*T)).length+1/\(Cn f (2*T)->Cn g (2*T+2)):=by
 refine⟨SB m k hu p,λc=>K5 c λS h1 h2=>?_⟩;have hv:iter f j u<2*T:=cP m hu j;have up:S (2*T)->S (2*T+1):=λs=>by have:=h2 _ (by lia) s;rwa [MD]at this
 have dn:S (2*T+1)->S (2*T):=λs=>by have:=h2 _ (by lia) s;rwa [SH]at this
 have s1:S (2*T+1)->S (f u):=λs=>by have:=h1 _ (by lia) s;rwa [p.n1]at this
 have sv:S (iter f j u)->S (2*T+1):=λs=>by have:=h1 _ (by lia) s;rwa [p.v]at this
 have jk:=p.jk;refine⟨λx hx s=>?_,λs=>⟨f u,m.lt u hu,s1 s⟩,λall=>sv (all _ hv)⟩;by_cases q2:x=iter f j u
 ·rcases Xq j (per f u) with z | z
  ·have:=h1 _ (by lia) (dn (sv (q2▸s)));rw[(p.n0 z).1]at this;rw[q2];exact this
  ·have e:j=per f u:=by lia
   have e2:iter f j u=u:=by rw[e];exact(eQ m hu).1.2.1
   rw[q2,e2];exact s1 (sv (q2▸s))
 ·by_cases q:x=u
  ·subst q;rcases Xq j (per f x) with z | z
   ·have:=h1 x (by lia) s;rw[(p.n0 z).2]at this;exact s1 (up this)
   ·have e:j=per f x:=by lia
    exact absurd (by rw[e];exact(eQ m hu).1.2.1.symm) q2
  ·rw[<-p.same x hx q q2];exact h1 x (by lia) s
theorem yO{f g:Nat->Nat}{N:Nat}(m:cE f N)(k:cE g N){φ:Nat->Nat}(hφ:cE φ N)(ho:∀x,oth (φ x)=φ (oth x))(h:∀x,x<N->g (φ x)=φ (f x)):(bC g N).length=(bC f N).length/\(Cn f N->Cn g N):=by
 refine⟨AR m k hφ h,λc S h1 h2 x y hx hy sx=>?_⟩;have sj:∀{y:Nat},y<N->∃x,x<N/\φ x=y:=λ{y} hy=>by
  obtain⟨k,h0,_,h⟩:=gS hφ hy;refine⟨iter φ (k-1) y,cP hφ hy _,?_⟩;have e:k=(k-1)+1:=by lia
  have:iter φ (k-1+1) y=y:=by rw[<-e];exact h
  exact this
 obtain⟨x',hx',rfl⟩:=sj hx;obtain⟨y',hy',rfl⟩:=sj hy;exact c (λz=>S (φ z)) (λz hz s=>by rw[<-h z hz];exact h1 _ (hφ.lt z hz) s) (λz hz s=>by rw[<-ho z];exact h2 _ (hφ.lt z hz) s) x' y' hx' hy' sx
theorem eJ{l:List Nat}(nd:l.Nodup){k y:Nat}(h:l[k]?=some y):cG l y=l.getD (if k=0 then l.length-1 else k-1) 0:=by
 obtain⟨hk,e⟩:=Zj.mp h;have hm:y∈l:=Zg h;have h1:=List.idxOf_lt_length_of_mem hm;have e2:l[l.idxOf y]=l[k]:=(List.getElem_idxOf h1).trans e.symm;have e3:l.idxOf y=k:=(List.getElem_inj nd).mp e2;unfold cG;rw[e3];congr 1;split
 ·rename_i z;subst z;rw[Nat.zero_add];exact Nat.mod_eq_of_lt (by omega)
 ·have:k+l.length-1=(k-1)+l.length:=by lia
  rw[this,Nat.add_mod_right];exact Nat.mod_eq_of_lt (by omega)
theorem xB{l:List Nat}{i M:Nat}(hi:i<=l.length)(k:Nat):(L2.bI l i M)[k]?=if k<i then l[k]? else if k=i then some M else l[k-1]?:=by
 unfold L2.bI;have hl:(l.take i).length=i:=by rw[Yw];lia
 split
 ·rename_i h
  rw[Zx (by lia),List.getElem?_take_of_lt h]
 ·rename_i h
  rw[Zy (by lia),hl];split
  ·rename_i z;subst z;simp
  ·rename_i z
   rw[show k-i=(k-i-1)+1 by lia,List.getElem?_cons_succ,List.getElem?_drop];congr 1
   lia
theorem OT{l:List Nat}(nd:l.Nodup){x M:Nat}(hx:x∈l)(hM:M∉l) :
  cG (L2.bI l (l.idxOf x) M) M=cG l x/\∀y∈l,cG (L2.bI l (l.idxOf x) M) y=if y=x then M else cG l y:=by
 have h1:=List.idxOf_lt_length_of_mem hx;have gx:l[l.idxOf x]?=some x:=by rw[Zz h1,List.getElem_idxOf h1]
 generalize l.idxOf x=i at h1 gx;have nd':=gP nd (i:=i) hM;have len:=jQ l i M;have G:=xB (l:=l) (i:=i) (M:=M) (by lia);constructor
 ·rw[eJ nd' (k:=i) (y:=M) (by rw[G,if_neg (by lia),if_pos rfl]),eJ nd gx,len];rw[Zv,Zv,G];by_cases z:i=0
  ·rw[if_pos z,if_pos z,if_neg (by lia),if_neg (by lia)];rfl
  ·rw[if_neg z,if_neg z,if_pos (by lia)]
 ·intro y hy;obtain⟨k,hk,ek⟩:=Yy.mp hy;have gy:l[k]?=some y:=by rw[Zz hk,ek]
  by_cases hyx:y=x
  ·rw[if_pos hyx,hyx,eJ nd' (k:=i+1) (y:=x) (by rw[G,if_neg (by lia),if_neg (by lia)];exact gx),if_neg (by lia),Zv,G,if_neg (by lia),if_pos (by lia)];rfl
  ·have hki:k≠i:=λz=>by subst z;rw[gx]at gy;cases gy;exact hyx rfl
   rw[if_neg hyx,eJ nd gy];rcases Xq k i with c | c
   ·rw[eJ nd' (k:=k) (y:=y) (by rw[G,if_pos c];exact gy),len,Zv,Zv,G];by_cases z:k=0
    ·rw[if_pos z,if_pos z,if_neg (by lia),if_neg (by lia)];rfl
    ·rw[if_neg z,if_neg z,if_pos (by omega)]
   ·rw[eJ nd' (k:=k+1) (y:=y) (by rw[G,if_neg (by lia),if_neg (by lia)];exact gy),if_neg (by lia),if_neg (by lia),Zv,Zv,G,if_neg (by lia),if_neg (by lia)];rfl
theorem jJ{os:a7}{a:Nat}(ha:a<os.length)(l:List Nat):row (os.set a l) a=l:=by
 unfold row;rw[Zv,List.getElem?_set_self ha];rfl
theorem k7{os:a7}{a p:Nat}(h:a≠p)(l:List Nat):row (os.set a l) p=row os p:=by
 unfold row;rw[Zv,List.getElem?_set_ne h,<-Zv]
theorem yQ{os:a7}{a x M:Nat}(ha:a<os.length)(nd:(row os a).Nodup)(hx:x∈row os a)(hM:M∉row os a)(only:∀p,x∈row os p->p=a) :
  cG (row (os.set a (L2.bI (row os a) ((row os a).idxOf x) M)) a) M=cG (row os a) x /\
  ∀p y,y∈row os p->cG (row (os.set a (L2.bI (row os a) ((row os a).idxOf x) M)) p) y=if y=x then M else cG (row os p) y:=by
 obtain⟨h1,h2⟩:=OT nd hx hM;refine⟨by rw[jJ ha];exact h1,λp y hy=>?_⟩;by_cases e:a=p
 ·subst e;rw[jJ ha];exact h2 y hy
 ·rw[k7 e,if_neg];rintro rfl;exact e (only p hy).symm
theorem S0{os:a7}{a M i p y:Nat}(ha:a<os.length):y∈row (os.set a (L2.bI (row os a) i M)) p↔(y=M/\p=a)\/y∈row os p:=by
 by_cases e:a=p
 ·subst e;rw[jJ ha,jP];simp
 ·rw[k7 e];constructor
  ·exact .inr
  ·rintro(⟨_,h⟩ | h)
   ·exact absurd h.symm e
   ·exact h
theorem E8(n:Nat):oth (2*n)=2*n+1:=by unfold oth;rw[if_pos (by lia)]
theorem J4(n:Nat):oth (2*n+1)=2*n:=by unfold oth;rw[if_neg (by lia)];lia
noncomputable def eP(ts:bD)(os:a7):Nat:=(bC (behind ts os) (2*ts.length)).length
theorem y8{ts:bD}{os:a7}(g:Good ts os){u:Nat}(hu:u<2*ts.length)(h3:(row os (place ts (oth u))).length<4) :
  eP (ts++[(place ts (oth u),os.length)]) ((os.set (place ts (oth u)) (L2.bI (row os (place ts (oth u))) ((row os (place ts (oth u))).idxOf (oth u)) (2*ts.length)))++[[2*ts.length+1]])=eP ts os/\(kH ts os->kH (ts++[(place ts (oth u),os.length)]) ((os.set (place ts (oth u)) (L2.bI (row os (place ts (oth u))) ((row os (place ts (oth u))).idxOf (oth u)) (2*ts.length)))++[[2*ts.length+1]])):=by
 have ho:=bG hu;obtain⟨ha,hin⟩:=g.g.has (oth u) ho;have good:=g.newPlace (i:=(row os (place ts (oth u))).idxOf (oth u)) ha h3;have m':=good.maps;unfold eP kH;rw[show 2*(ts++[(place ts (oth u),os.length)]).length=2*ts.length+2 by rw[Zm];rfl]at m' ⊢;generalize hA:place ts (oth u)=a at ha hin good m' ⊢;have nm:2*ts.length∉row os a:=λz=>by have:=(g.g.ends a _ z).1;lia
 obtain⟨p1,p2⟩:=yQ (M:=2*ts.length) ha (g.g.nd a) hin nm (λp hp=>by rw[<-(g.g.ends p _ hp).2,hA]);have rowOld:∀p,p<os.length->row ((os.set a (L2.bI (row os a) ((row os a).idxOf (oth u)) (2*ts.length)))++[[2*ts.length+1]]) p=row (os.set a (L2.bI (row os a) ((row os a).idxOf (oth u)) (2*ts.length))) p:=λp hp=>by
  unfold row;rw[Zv,Zx (by rw[List.length_set];exact hp),<-Zv]
 have rowNew:row ((os.set a (L2.bI (row os a) ((row os a).idxOf (oth u)) (2*ts.length)))++[[2*ts.length+1]]) os.length=[2*ts.length+1]:=by
  unfold row;rw[Zv,Zy (by rw[List.length_set];exact Nat.le_refl _),List.length_set,Nat.sub_self];rfl
 have old:∀e,e<2*ts.length->behind (ts++[(a,os.length)]) ((os.set a (L2.bI (row os a) ((row os a).idxOf (oth u)) (2*ts.length)))++[[2*ts.length+1]]) e=if e=u then 2*ts.length else behind ts os e:=λe he=>by
  have q:=g.g.has (oth e) (bG he);unfold behind;rw[pR (bG he),rowOld _ q.1,p2 _ _ q.2];by_cases z:e=u
  ·rw[if_pos z,z,if_pos rfl]
  ·rw[if_neg z,if_neg (λh=>z (fY h))]
 refine MZ g.maps m' hu ⟨λx hx hne=>by rw[old x hx,if_neg hne],by rw[old u hu,if_pos rfl],?_,?_⟩
 ·unfold behind;rw[E8,jK,rowNew];unfold cG;simp
 ·unfold behind;rw[J4,kP,rowOld _ ha,p1];show cG _ _=cG (row os (place ts (oth u))) (oth u);rw[hA]
theorem DH{ts:bD}{os:a7}(g:Good ts os){u v:Nat}(hu:u<2*ts.length)(hv:v∈aR (behind ts os) u){a b:Nat}(ea:place ts (oth u)=a)(eb:place ts (oth v)=b)(h1:(row os a).length<4)
  (h2:(row (os.set a (L2.bI (row os a) ((row os a).idxOf (oth u)) (2*ts.length))) b).length<4) :
  eP (ts++[(a,b)]) ((os.set a (L2.bI (row os a) ((row os a).idxOf (oth u)) (2*ts.length))).set b (L2.bI (row (os.set a (L2.bI (row os a) ((row os a).idxOf (oth u)) (2*ts.length))) b) ((row (os.set a (L2.bI (row os a) ((row os a).idxOf (oth u)) (2*ts.length))) b).idxOf (oth v)) (2*ts.length+1)))=eP ts os+1/\(kH ts os->kH (ts++[(a,b)]) ((os.set a (L2.bI (row os a) ((row os a).idxOf (oth u)) (2*ts.length))).set b (L2.bI (row (os.set a (L2.bI (row os a) ((row os a).idxOf (oth u)) (2*ts.length))) b) ((row (os.set a (L2.bI (row os a) ((row os a).idxOf (oth u)) (2*ts.length))) b).idxOf (oth v)) (2*ts.length+1)))):=by
 have m:=g.maps;have hvN:=iA m hu v hv;have ho:=bG hu;have hov:=bG hvN;obtain⟨ha,hin⟩:=g.g.has (oth u) ho;obtain⟨hb,hinv⟩:=g.g.has (oth v) hov;rw[ea]at ha hin;rw[eb]at hb hinv;have good:=g.newTie (i:=(row os a).idxOf (oth u)) (j:=(row (os.set a (L2.bI (row os a) ((row os a).idxOf (oth u)) (2*ts.length))) b).idxOf (oth v)) ha hb h1 h2;have m':=good.maps;unfold eP kH;rw[show 2*(ts++[(a,b)]).length=2*ts.length+2 by rw[Zm];rfl]at m' ⊢;have nm:2*ts.length∉row os a:=λz=>by have:=(g.g.ends a _ z).1;lia
 obtain⟨p1,p2⟩:=yQ (M:=2*ts.length) ha (g.g.nd a) hin nm (λp hp=>by rw[<-(g.g.ends p _ hp).2,ea]);have mem1:∀p y,y∈row (os.set a (L2.bI (row os a) ((row os a).idxOf (oth u)) (2*ts.length))) p↔(y=2*ts.length/\p=a)\/y∈row os p:=λp y=>S0 ha;have g2:(row (os.set a (L2.bI (row os a) ((row os a).idxOf (oth u)) (2*ts.length))) b).Nodup:=by
  by_cases e:a=b
  ·subst e;rw[jJ ha];exact gP (g.g.nd a) nm
  ·rw[k7 e];exact g.g.nd b
 have nm2:2*ts.length+1∉row (os.set a (L2.bI (row os a) ((row os a).idxOf (oth u)) (2*ts.length))) b:=λz=>by
  rcases(mem1 _ _).mp z with⟨z,_⟩ | z
  ·lia
  ·have:=(g.g.ends b _ z).1;lia
 obtain⟨q1,q2⟩:=yQ (os:=os.set a (L2.bI (row os a) ((row os a).idxOf (oth u)) (2*ts.length))) (a:=b) (x:=oth v) (M:=2*ts.length+1) (by rw[List.length_set];exact hb) g2 ((mem1 _ _).mpr (.inr hinv)) nm2 (λp hp=>by
  rcases(mem1 _ _).mp hp with⟨z,_⟩ | z
  ·lia
  ·rw[<-(g.g.ends p _ z).2,eb])
 generalize hO1:os.set a (L2.bI (row os a) ((row os a).idxOf (oth u)) (2*ts.length))=os1 at p1 p2 mem1 q1 q2 good m' ⊢;generalize hO2:os1.set b (L2.bI (row os1 b) ((row os1 b).idxOf (oth v)) (2*ts.length+1))=os2 at q1 q2 good m' ⊢;have old:∀e,e<2*ts.length->behind (ts++[(a,b)]) os2 e=if e=v then 2*ts.length+1 else if e=u then 2*ts.length else behind ts os e:=λe he=>by
  have q:=g.g.has (oth e) (bG he);unfold behind;rw[pR (bG he),q2 _ _ ((mem1 _ _).mpr (.inr q.2)),p2 _ _ q.2];by_cases z:e=v
  ·rw[if_pos z,z,if_pos rfl]
  ·rw[if_neg z,if_neg (λh=>z (fY h))];by_cases z:e=u
   ·rw[if_pos z,z,if_pos rfl]
   ·rw[if_neg z,if_neg (λh=>z (fY h))]
 have atN:behind (ts++[(a,b)]) os2 (2*ts.length)=if v=u then 2*ts.length else behind ts os v:=by
  show cG (row os2 (place (ts++[(a,b)]) (oth (2*ts.length)))) (oth (2*ts.length))=_;rw[E8,jK,q1,p2 _ _ hinv];by_cases z:v=u
  ·rw[if_pos z,z,if_pos rfl]
  ·rw[if_neg z,if_neg (λh=>z (fY h))];unfold behind;rw[eb]
 have atN1:behind (ts++[(a,b)]) os2 (2*ts.length+1)=behind ts os u:=by
  show cG (row os2 (place (ts++[(a,b)]) (oth (2*ts.length+1)))) (oth (2*ts.length+1))=_;rw[J4,kP,q2 _ _ ((mem1 _ _).mpr (.inl ⟨rfl,rfl⟩)),if_neg (by lia),p1];unfold behind;rw[ea]
 obtain⟨r,hk⟩:=eQ m hu;by_cases hvu:v=u
 ·have e:iter (behind ts os) (per (behind ts os) u) u=u:=r.2.1;refine E5 (j:=per (behind ts os) u) m m' hu ⟨r.1,Nat.le_refl _,λx hx z1 z2=>?_,?_,atN1,λh=>by lia,λ_=>by rw[atN,if_pos hvu]⟩
  ·rw[e]at z2;rw[old x hx,if_neg (by rw[hvu];exact z1),if_neg z1]
  ·rw[e,old u hu,if_pos hvu.symm]
 ·unfold aR at hv;obtain⟨j,hj,ej⟩:=lL.mp hv;have j0:0<j:=Nat.pos_of_ne_zero λz=>by subst z;exact hvu ej.symm
  refine E5 (j:=j) m m' hu ⟨j0,by lia,λx hx z1 z2=>?_,?_,atN1,λh=>⟨?_,?_⟩,λh=>by lia⟩
  ·rw[ej]at z2;rw[old x hx,if_neg z2,if_neg z1]
  ·rw[ej,old v hvN,if_pos rfl]
  ·rw[atN,if_neg hvu,ej]
  ·rw[old u hu,if_neg (Ne.symm hvu),if_pos rfl]
theorem nN{f:Nat->Nat}{N:Nat}(m:cE f N){y:Nat}(hy:y<N):∃x,x<N/\f x=y:=by
 obtain⟨k,h0,_,h⟩:=gS m hy;refine⟨iter f (k-1) y,cP m hy _,?_⟩;have e:k=(k-1)+1:=by lia
 rw[e]at h;exact h
theorem wX{l:List Nat}(nd:l.Nodup)(h:∀x∈l,x<l.length):cE (λi=>l.getD i 0) l.length where
 lt:=λe he=>h _ (by simp only[List.getD,Zz he,Option.getD_some];exact Zp he)
 inj:=λa b ha hb q=>by
  simp only[List.getD,Zz ha,Zz hb,Option.getD_some]at q;exact(List.getElem_inj nd).mp q
def nmF(U F:Nat->Nat)(e:Nat):Nat:=2*U (e / 2)+(if e%2=0 then F (e / 2) else 1-F (e / 2))
theorem fT(U F:Nat->Nat)(hF:∀k,F k<=1)(e:Nat):nmF U F e / 2=U (e / 2)/\nmF U F e%2=(if e%2=0 then F (e / 2) else 1-F (e / 2)):=by
 have h:(if e%2=0 then F (e / 2) else 1-F (e / 2))<2:=by
  split
  ·exact Nat.lt_succ_of_le (hF _)
  ·exact Nat.lt_succ_of_le (Nat.sub_le _ _)
 unfold nmF;rw[Nat.mul_add_div (Nat.zero_lt_succ 1),Nat.div_eq_of_lt h,Nat.mul_add_mod,Nat.mod_eq_of_lt h];exact⟨rfl,rfl⟩
theorem oO{U F:Nat->Nat}{T:Nat}(hU:cE U T)(hF:∀k,F k<=1):cE (nmF U F) (2*T) where
 lt:=λe he=>by
  have h1:=hU.lt (e / 2) (by lia);have h2:=(fT U F hF e).1;rw[<-h2]at h1
  lia
 inj:=λa b ha hb h=>by
  have⟨a1,a2⟩:=fT U F hF a;have⟨b1,b2⟩:=fT U F hF b;rw[h]at a1 a2;have e:=hU.inj (a / 2) (b / 2) (by lia) (by lia) (a1.symm.trans b1);rw[b2,e]at a2;have hk:=hF (b / 2);refine zD e ?_;generalize F (b / 2)=f at a2 hk;rcases Nat.mod_two_eq_zero_or_one a with x | x<;>rcases Nat.mod_two_eq_zero_or_one b with y | y<;>rw[x,y]at a2 ⊢
  ·rw[if_pos rfl,if_neg (by decide)]at a2;lia
  ·rw[if_pos rfl,if_neg (by decide)]at a2;lia
theorem lH(ts:bD)(e:Nat):place ts e=if e%2=0 then (ts.getD (e / 2) (0,0)).1 else (ts.getD (e / 2) (0,0)).2:=rfl
theorem mI{ts told:bD}{os rows:a7}(g:Good ts os){U F Pl:Nat->Nat}(hU:cE U ts.length)(hF:∀k,F k<=1)(hP:cE Pl os.length)(ht:told.length=ts.length)(hr:rows.length=os.length)
  (hv:∀k,k<ts.length->told.getD (U k) (0,0)=if F k=0 then (Pl (ts.getD k (0,0)).1,Pl (ts.getD k (0,0)).2) else (Pl (ts.getD k (0,0)).2,Pl (ts.getD k (0,0)).1))
  (hw:∀p,p<os.length->∃l:List Nat,row rows (Pl p)=l.map (nmF U F)/\l.Perm (row os p)):Good told rows:=by
 have mN:=oO hU hF;have pl:∀e,e<2*ts.length->place told (nmF U F e)=Pl (place ts e):=λe he=>by
  have⟨h1,h2⟩:=fT U F hF e;have hk:=hv (e / 2) (by lia);have hf:=hF (e / 2);rw[lH told,lH ts,h1,h2,hk];by_cases q:e%2=0
  ·by_cases z:F (e / 2)=0
   ·simp[q,z]
   ·have z1:F (e / 2)=1:=by lia
    simp[q,z1]
  ·by_cases z:F (e / 2)=0
   ·simp[q,z]
   ·have z1:F (e / 2)=1:=by lia
    simp[q,z1]
 have out:∀p,rows.length<=p->row rows p=[]:=λp hp=>by
  unfold row;simp[List.getD,Zr hp]
 refine⟨⟨λp e he=>?_,λe he=>?_,λp=>?_,λp hp=>?_,λp=>?_⟩,by rw[ht];exact g.one⟩
 ·rcases Xq p rows.length with hp | hp
  ·obtain⟨p0,hp0,rfl⟩:=nN hP (hr▸hp);obtain⟨l,h1,h2⟩:=hw p0 hp0;rw[h1]at he;obtain⟨x,hx,rfl⟩:=Zh.mp he;have q:=g.g.ends p0 x (h2.mem_iff.mp hx);rw[ht];exact⟨mN.lt x q.1,by rw[pl x q.1,q.2]⟩
  ·rw[out p hp]at he;cases he
 ·rw[ht]at he;obtain⟨x,hx,rfl⟩:=nN mN he;have q:=g.g.has x hx;rw[pl x hx,hr];refine⟨hP.lt _ q.1,?_⟩;obtain⟨l,h1,h2⟩:=hw _ q.1;rw[h1];exact Zh.mpr ⟨x,h2.mem_iff.mpr q.2,rfl⟩
 ·rcases Xq p rows.length with hp | hp
  ·obtain⟨p0,hp0,rfl⟩:=nN hP (hr▸hp);obtain⟨l,h1,h2⟩:=hw p0 hp0;rw[h1];have ndl:l.Nodup:=h2.nodup_iff.mpr (g.g.nd p0);have hl:∀x∈l,x<2*ts.length:=λx hx=>(g.g.ends p0 x (h2.mem_iff.mp hx)).1;clear h1 h2;induction l with
   |nil=>exact List.nodup_nil
   |cons a l ih =>
    rw[List.map_cons,List.nodup_cons];obtain⟨n1,n2⟩:=List.nodup_cons.mp ndl;refine⟨λz=>?_,ih n2 λx hx=>hl x (Zw _ hx)⟩;obtain⟨y,hy,e⟩:=Zh.mp z;have:=mN.inj y a (hl y (Zw _ hy)) (hl a Zd) e;subst this;exact n1 hy
  ·rw[out p hp];exact List.nodup_nil
 ·obtain⟨p0,hp0,rfl⟩:=nN hP (hr▸hp);obtain⟨l,h1,h2⟩:=hw p0 hp0;rw[h1];intro z;have:l=[]:=List.map_eq_nil_iff.mp z;subst this;exact g.g.full p0 hp0 (h2.symm.eq_nil)
 ·rcases Xq p rows.length with hp | hp
  ·obtain⟨p0,hp0,rfl⟩:=nN hP (hr▸hp);obtain⟨l,h1,h2⟩:=hw p0 hp0;rw[h1,Zq,h2.length_eq];exact g.g.four p0
  ·rw[out p hp];simp
def Rot(l m:List Nat):Prop:=∃k,l=m.drop k++m.take k
theorem Rot.perm{l m:List Nat}(h:Rot l m):l.Perm m:=by
 obtain⟨k,rfl⟩:=h;have:=(List.perm_append_comm:(m.drop k++m.take k).Perm (m.take k++m.drop k))
 rwa [List.take_append_drop]at this
theorem OS{a:Nat}{t:List Nat}(nd:(a::t).Nodup){x:Nat}(hx:x∈a::t):cG (t++[a]) x=cG (a::t) x:=by
 have nd2:(t++[a]).Nodup:=(List.perm_append_comm (l₁:=t) (l₂:=[a])).nodup_iff.mpr nd;rcases Zn.mp hx with rfl | hx
 ·cases t with
  |nil=>rfl
  |cons b t =>
   rw[eJ (k:=0) nd rfl,eJ (k:=(b::t).length) nd2 (by rw[Zy (Nat.le_refl _),Nat.sub_self];rfl),if_pos rfl,if_neg (show ¬(b::t).length=0 from Nat.succ_ne_zero _)];show(b::t++[x]).getD t.length 0=(b::t).getD t.length 0;rw[Zv,Zv,Zx (Nat.lt_succ_self _)]
 ·obtain⟨i,hi,ei⟩:=Yy.mp hx;have gx:t[i]?=some x:=by rw[Zz hi,ei]
  have g1:(t++[a])[i]?=some x:=by rw[Zx hi];exact gx
  rw[eJ nd2 g1,eJ (k:=i+1) nd gx,if_neg (Nat.succ_ne_zero i)];cases i with
  |zero =>
   rw[if_pos rfl,Zm];show(t++[a]).getD t.length 0=a;rw[Zv,Zy (Nat.le_refl _),Nat.sub_self];rfl
  |succ j =>
   rw[if_neg (Nat.succ_ne_zero j)];show(t++[a]).getD j 0=t.getD j 0;rw[Zv,Zv,Zx (Nat.lt_of_succ_lt hi)]
theorem mL{l:List Nat}(nd:l.Nodup){x k:Nat}(hx:x∈l):cG (l.drop k++l.take k) x=cG l x:=by
 induction k with
 |zero=>rw[List.drop_zero,List.take_zero,List.append_nil]
 |succ k ih =>
  rw[<-ih];have pm:(l.drop k++l.take k).Perm l:=Rot.perm ⟨k,rfl⟩;rcases Xq k l.length with h | h
  ·have e:l.drop k=l[k]::l.drop (k+1):=List.drop_eq_getElem_cons h;have n2:=pm.nodup_iff.mpr nd;have m2:=pm.mem_iff.mpr hx;rw[e]at n2 m2;rw[List.take_succ_eq_append_getElem h,<-Yd,e];exact OS n2 m2
  ·rw[List.drop_eq_nil_of_le h,List.take_of_length_le h,List.drop_eq_nil_of_le (Nat.le_succ_of_le h),List.take_of_length_le (Nat.le_succ_of_le h)]
theorem yS{l:List Nat}(nd:l.Nodup){φ:Nat->Nat}(nd':(l.map φ).Nodup){x:Nat}(hx:x∈l):cG (l.map φ) (φ x)=φ (cG l x):=by
 obtain⟨i,hi,ei⟩:=Yy.mp hx;have gx:l[i]?=some x:=by rw[Zz hi,ei]
 have gx':(l.map φ)[i]?=some (φ x):=by rw[Zk,gx];rfl
 rw[eJ nd gx,eJ nd' gx',Zq];generalize hj:(if i=0 then l.length-1 else i-1)=j;have hj':j<l.length:=by split at hj<;>omega
 rw[Zv,Zv,Zk,Zz hj'];rfl
theorem wV{U F:Nat->Nat}(hF:∀k,F k<=1)(e:Nat):oth (nmF U F e)=nmF U F (oth e):=by
 refine zD ?_ ?_
 ·rw[iW,(fT U F hF e).1,(fT U F hF (oth e)).1,iW]
 ·rw[sQ,(fT U F hF e).2,(fT U F hF (oth e)).2,iW,sQ];rcases Nat.mod_two_eq_zero_or_one e with z | z<;>rw[z]
  ·rfl
  ·exact Nat.sub_sub_self (hF _)
theorem AO{ts told:bD}{os rows:a7}(g:Good ts os){U F Pl:Nat->Nat}(hU:cE U ts.length)(hF:∀k,F k<=1)(hP:cE Pl os.length)(ht:told.length=ts.length)(hr:rows.length=os.length)
  (hv:∀k,k<ts.length->told.getD (U k) (0,0)=if F k=0 then (Pl (ts.getD k (0,0)).1,Pl (ts.getD k (0,0)).2) else (Pl (ts.getD k (0,0)).2,Pl (ts.getD k (0,0)).1))
  (hw:∀p,p<os.length->∃l:List Nat,row rows (Pl p)=l.map (nmF U F)/\Rot l (row os p)):eP told rows=eP ts os/\(kH ts os->kH told rows):=by
 have good:=mI g hU hF hP ht hr hv λp hp=>by obtain⟨l,h1,h2⟩:=hw p hp;exact⟨l,h1,h2.perm⟩
 have mN:=oO hU hF;have pl:∀e,e<2*ts.length->place told (nmF U F e)=Pl (place ts e):=λe he=>by
  have⟨h1,h2⟩:=fT U F hF e;have hk:=hv (e / 2) (by lia);have hf:=hF (e / 2);rw[lH told,lH ts,h1,h2,hk];by_cases q:e%2=0
  ·by_cases z:F (e / 2)=0
   ·simp[q,z]
   ·have z1:F (e / 2)=1:=by lia
    simp[q,z1]
  ·by_cases z:F (e / 2)=0
   ·simp[q,z]
   ·have z1:F (e / 2)=1:=by lia
    simp[q,z1]
 have m':=good.maps;unfold eP kH;rw[ht]at m' ⊢;refine yO g.maps m' mN (λe=>wV hF e) λe he=>?_;have ho:=bG he;have q:=g.g.has (oth e) ho;obtain⟨l,h1,h2⟩:=hw _ q.1;unfold behind;rw[wV hF,pl _ ho,h1];have nd':=good.g.nd (Pl (place ts (oth e)));rw[h1]at nd';have pm:=h2.perm;rw[yS (pm.nodup_iff.mpr (g.g.nd _)) nd' (pm.mem_iff.mpr q.2)];obtain⟨k,rfl⟩:=h2;rw[mL (g.g.nd _) q.2]
def WI(ts:bD)(os:a7)(ts':bD)(os':a7):Prop:=(ts'=ts/\os'=os)\/(ts'.length=ts.length+1/\((os'.length=os.length+1/\(eP ts' os'=eP ts os/\(kH ts os->kH ts' os')))\/(os'.length=os.length/\(eP ts' os'=eP ts os+1/\(kH ts os->kH ts' os')))))
def Flat(ts:bD)(os:a7):Prop:=os.length+eP ts os=ts.length+2
structure FC(ts:bD)(os:a7):Prop where
 flat:Flat ts os
 conn:kH ts os
theorem WI.fc{ts ts':bD}{os os':a7}(h:WI ts os ts' os')(f:FC ts os):FC ts' os':=by
 have fl:=f.flat;have c:=f.conn;rcases h with⟨rfl,rfl⟩ | ⟨h1,⟨h2,h3,h4⟩ | ⟨h2,h3,h4⟩⟩
 ·exact f
 ·exact⟨by unfold Flat at *;lia,h4 c⟩
 ·exact⟨by unfold Flat at *;lia,h4 c⟩
theorem GC{ts:bD}{os:a7}(h:ts.length=1):kH ts os:=by
 intro S h1 h2 x y hx hy sx;rw[h]at hx hy;have e0:oth 0=1:=rfl;have e1:oth 1=0:=rfl;by_cases q:x=y
 ·exact q▸sx
 ·have:=h2 x (by lia) sx;have hx':(x=0/\y=1)\/(x=1/\y=0):=by lia
  rcases hx' with⟨rfl,rfl⟩ | ⟨rfl,rfl⟩
  ·rwa [e0]at this
  ·rwa [e1]at this
theorem IG{f:Nat->Nat}{N:Nat}(m:cE f N):(bC f N).flatten.Perm (List.range N):=by
 have one:=λ{x:Nat}(hx:x<N)=>y4 m _ (List.range N) (Nat.le_refl _) (λz hz=>Zs.mp hz) x (Zs.mpr hx);have mem:=λ(d:List Nat) (hd:d∈bC f N)=>rH m _ (List.range N) (Nat.le_refl _) (λz hz=>Zs.mp hz) d hd;have lt:∀d∈bC f N,∀x∈d,x<N:=λd hd x hx=>by
  obtain⟨e,he,rfl⟩:=mem d hd;exact iA m (Zs.mp he) x hx
 refine(List.perm_ext_iff_of_nodup ?_ List.nodup_range).mpr λx=>?_
 ·rw[List.nodup_iff_pairwise_ne,List.pairwise_flatten];refine⟨λd hd=>?_,?_⟩
  ·obtain⟨e,he,rfl⟩:=mem d hd;have:=rK m (Zs.mp he)
   rwa [List.nodup_iff_pairwise_ne]at this
  ·rw[List.pairwise_iff_getElem];intro i j hi hj hij x hx y hy e;subst e;obtain⟨k,d,_,_,h3⟩:=one (lt _ (Zp hi) x hx);have e1:=h3 i _ (Zz hi) hx;have e2:=h3 j _ (Zz hj) hy
   lia
 ·rw[List.mem_flatten,Zs];constructor
  ·rintro⟨d,hd,hx⟩;exact lt d hd x hx
  ·intro hx;obtain⟨k,d,h1,h2,_⟩:=one hx;exact⟨d,Zg h1,h2⟩
def su(l:List Nat)(f:Nat->Int):Int:=(l.map f).sum
theorem xT(f:Nat->Int):su [] f=0:=rfl
theorem dN(x:Nat)(l:List Nat)(f:Nat->Int):su (x::l) f=f x+su l f:=by unfold su;rw[List.map_cons,List.sum_cons]
theorem CS(f:Nat->Int):∀a b:List Nat,su (a++b) f=su a f+su b f
 |[],b=>by rw[xT,List.nil_append];lia
 |x::a,b=>by rw[Yb,dN,dN,CS f a b];lia
theorem pO{f:Nat->Int}{a b:List Nat}(h:a.Perm b):su a f=su b f:=by
 induction h with
 |nil=>rfl
 |cons x _ ih=>rw[dN,dN,ih]
 |swap x y l=>rw[dN,dN,dN,dN];lia
 |trans _ _ h1 h2=>exact h1.trans h2
theorem e9{f g:Nat->Int}:∀{l:List Nat},(∀x∈l,f x=g x)->su l f=su l g
 |[],_=>rfl
 |x::l,h=>by rw[dN,dN,h x Zd,e9 λy hy=>h y (Zw _ hy)]
theorem CT(f g:Nat->Int):∀l:List Nat,su l (λx=>f x+g x)=su l f+su l g
 |[]=>rfl
 |x::l=>by rw[dN,dN,dN,CT f g l];lia
theorem G9(f g:Nat->Int):∀l:List Nat,su l (λx=>f x-g x)=su l f-su l g
 |[]=>rfl
 |x::l=>by rw[dN,dN,dN,G9 f g l];lia
theorem rZ(k:Int):∀l:List Nat,su l (λ_=>k)=k*(l.length:Int)
 |[]=>by rw[xT];simp
 |x::l=>by rw[dN,rZ k l,Yq,Int.natCast_add,Int.mul_add];simp;lia
theorem xU(f:Nat->Int)(φ:Nat->Nat)(l:List Nat):su (l.map φ) f=su l λx=>f (φ x):=by unfold su;rw[Yh];rfl
theorem wR{a b:List Nat}(ha:a.Nodup)(hb:b.Nodup)(h:∀x,x∈a↔x∈b):a.Perm b:=(List.perm_ext_iff_of_nodup ha hb).mpr h
theorem O1(T:Nat):((List.range (2*T)).map oth).Perm (List.range (2*T)):=by
 refine wR ?_ List.nodup_range λx=>?_
 ·rw[List.Nodup,List.pairwise_map];exact List.Pairwise.imp (λh z=>h (fY z)) (List.nodup_range (n:=2*T))
 ·rw[Zh,Zs];constructor
  ·rintro⟨y,hy,rfl⟩;exact bG (Zs.mp hy)
  ·intro h;exact⟨oth x,Zs.mpr (bG h),cM x⟩
def trm(c l:Nat->Int)(e:Nat):Int:=2-c e+l e-l (oth e)
noncomputable abbrev lls(ts:bD)(os:a7):List (List Nat):=bC (behind ts os) (2*ts.length)
structure Plc(ts:bD)(os:a7)(c:Nat->Int):Prop where
 lo:∀e,e<2*ts.length->1<=c e
 hi:∀e,e<2*ts.length->c e<=4
 at_:∀p,p<os.length->su (row os p) (λe=>c (oth e))=4
structure Shp(ts:bD)(os:a7)(o:Nat)(c l:Nat->Int):Prop where
 pl:Plc ts os c
 pos:∀e,e<2*ts.length->0<=l e
 ld:∀(k:Nat) (d:List Nat),(lls ts os)[k]?=some d->su d (trm c l)=if k=o then -4 else 4
theorem cY{ts:bD}{os:a7}(g:Good ts os){k:Nat}{d:List Nat}(h:(lls ts os)[k]?=some d):d.Nodup/\(∀x∈d,x<2*ts.length)/\(∀x,x<2*ts.length->(behind ts os x∈d↔x∈d))/\d≠[]:=by
 have m:=g.maps;obtain⟨e,he,rfl⟩:=rH m _ (List.range (2*ts.length)) (Nat.le_refl _) (λz hz=>Zs.mp hz) d (Zg h);have he:=Zs.mp he;refine⟨rK m he,iA m he,λx hx=>?_,λz=>?_⟩
 ·have h1:behind ts os x∈aR (behind ts os) x:=(bS m hx).mpr ⟨1,rfl⟩;have hb:=m.lt x hx;constructor
  ·intro q;exact eX m he q (fO m hx h1)
  ·intro q;exact eX m he q h1
 ·have:=fM m he;rw[z]at this;cases this
def Num(ts:bD)(os:a7)(nm:Nat->Nat):Prop:=∀(k:Nat) (d:List Nat) (x:Nat),(lls ts os)[k]?=some d->x∈d->nm x=k
theorem PP{ts:bD}{os:a7}{nm:Nat->Nat}(g:Good ts os)(n:Num ts os nm){x:Nat}(hx:x<2*ts.length):∃d,(lls ts os)[nm x]?=some d/\x∈d:=by
 obtain⟨k,d,h1,h2,_⟩:=y4 g.maps _ _ (Nat.le_refl _) (λy hy=>Zs.mp hy) x (Zs.mpr hx);rw[n k d x h1 h2];exact⟨d,h1,h2⟩
theorem SX{ts:bD}{os:a7}{nm:Nat->Nat}(g:Good ts os)(n:Num ts os nm){x k:Nat}{d:List Nat}(hx:x<2*ts.length)(hk:(lls ts os)[k]?=some d):x∈d↔nm x=k:=by
 constructor
 ·exact n k d x hk
 ·intro h;obtain⟨d',h1,h2⟩:=PP g n hx;rw[h,hk]at h1;cases h1;exact h2
theorem PN{ts:bD}{os:a7}(g:Good ts os):∃nm,Num ts os nm:=by
 have h:∀x:Nat,∃k:Nat,∀(j:Nat) (d:List Nat),(lls ts os)[j]?=some d->x∈d->j=k:=λx=>by
  by_cases hx:x<2*ts.length
  ·obtain⟨k,_,_,_,u⟩:=y4 g.maps _ _ (Nat.le_refl _) (λy hy=>Zs.mp hy) x (Zs.mpr hx);exact⟨k,u⟩
  ·exact⟨0,λj d hj hd=>absurd ((cY g hj).2.1 x hd) hx⟩
 exact⟨λx=>Classical.choose (h x),λk d x hk hx=>(Classical.choose_spec (h x) k d hk hx).symm⟩
theorem lN{ts:bD}{os:a7}(g:Good ts os){k k':Nat}{d d':List Nat}{x:Nat}(h:(lls ts os)[k]?=some d)(hx:x∈d)(h':(lls ts os)[k']?=some d')(hx':x∈d'):k=k':=by
 obtain⟨nm,n⟩:=PN g;rw[<-n k d x h hx,<-n k' d' x h' hx']
theorem KA{ts:bD}{os:a7}(g:Good ts os):(lls ts os).length<=2*ts.length:=by
 have:=y6 g.maps _ (List.range (2*ts.length)) (Nat.le_refl _) (λz hz=>Zs.mp hz);rw[Yj]at this;exact this
end MM
theorem NW{G B:Prop}(m:B->G)(e:B):G:=m e
namespace K29
open PySem L2 PyProof.Rows
def UY:Sp:=λvs H Q _=>∃(H0:Hp) (ta oa:Addr) (pick most:Int) (rr:List Addr) (ts:MM.bD) (os:MM.a7),vs=[.ref ta,.ref oa,.int pick,.int most]/\aZ H0 H/\tS H0 H ta oa rr ts os/\MM.Good ts os/\ts.length<=100/\os.length<=100/\0<=pick /\
 ∀(H':Hp) (rr':List Addr) (ts':MM.bD) (os':MM.a7),aZ H0 H'->tS H0 H' ta oa rr' ts' os'->MM.Good ts' os'->ts'.length<=ts.length+1->os'.length<=os.length+1->MM.WI ts os ts' os'->Q .non H'
theorem PD(T:Txt K mg t):bT P w K mg base CX0 4 t.GN t.F3 ["_law_ties","_law_orders","_law_pick","_law_most"] UY:=by
 refine T.FW.F.ok A9 (λvs H Q E h=>?_) (λcdv A outer s H vs Q E hr h=>?_)
 ·obtain⟨H0,ta,oa,pick,most,rr,ts,os,rfl,_⟩:=h;rfl
 obtain⟨H0,ta,oa,pick,most,rr,ts,os,rfl,g0,hm,g,ht100,ho100,hp0,q⟩:=h;have nd:=A9.nd;refine⟨_,(aC (aW 4 nd (bK (pS T) hr T.lP aX (aA (pv 0) (aA (pv 1) aE))))
  (aC (aW 5 nd (aN aQ (pv 4) (aT dE (pv 2) (a8 aU rfl T.dQ PySem.boot_len (aA (pv 4) aE))) (λ_ _=>rfl)))
  (aC (aW 6 nd (bK (jO T) hr T.iL aX (aA (aN aQ (pv 5) (aT dE (aT eG (pv 2) aG) (a8 aU rfl T.dQ PySem.boot_len (aA (pv 5) aE))) (λ_ _=>rfl)) aE)))
  (aC (aW 7 nd (bK (jO T) hr T.iL aX (aA (aN aQ (pv 5) (aT dE (aT eG (pv 2) aG) (a8 aU rfl T.dQ PySem.boot_len (aA (pv 5) aE))) (λ_ _=>rfl)) aE)))
  (aC (aW 8 nd (bK (uJ T) hr T.pZ aX (aA (pv 0) (aA (pv 6) aE))))
  (aC (aW 9 nd (bK (uJ T) hr T.pZ aX (aA (pv 0) (aA (pv 7) aE))))
  (aC (aW 10 nd (aT dO aG (a8 aU rfl T.dQ PySem.boot_len (aA (pv 0) aE))))
  (aL (dH (PW.pt (rB (bH lJ (aT dE (aT eG (pv 2) aG) aG) aG (bO _)) (rB (bH iX (a8 aU rfl T.dQ PySem.boot_len (aA (pv 1) aE)) (pv 3) (bO _)) (pQ (bH iX (a8 aU rfl T.dQ PySem.boot_len (aA (aN aQ (pv 1) (pv 8) (λ_ _=>rfl)) aE)) aG (bO _)))))) (aC (bX (oI PySem.F.plainAttrs_list PySem.F.slot_list_insert PySem.F.type_list_insert lK (aN aQ (pv 1) (pv 8) (λ_ _=>rfl)) (aA (oI PySem.F.plainAttrs_list PySem.F.slot_list_index PySem.F.type_list_index oQ (aN aQ (pv 1) (pv 8) (λ_ _=>rfl)) (aA (pv 6) aE)) (aA (pv 10) aE))))
  (aC (bX (lB mAp b9 (pv 0) (aA (cH (aA (pv 8) (aA (a8 aU rfl T.dQ PySem.boot_len (aA (pv 1) aE)) aE))) aE)))
  (aL (bX (lB mAp b9 (pv 1) (aA (cC (aA (aT c8 (pv 10) aG) aE)) aE)))))) (aL (dH (PW.pt (rB (bH iX (a8 aU rfl T.dQ PySem.boot_len (aA (aN aQ (pv 1) (pv 8) (λ_ _=>rfl)) aE)) (aT iI aG (gN B3 rfl T.UA boot_int (aA (kQ lJ (pv 8) (pv 9) (bO _)) aE))) (bO _)) (pQ (bH iX (a8 aU rfl T.dQ PySem.boot_len (aA (aN aQ (pv 1) (pv 9) (λ_ _=>rfl)) aE)) (aT iI aG (gN B3 rfl T.UA boot_int (aA (kQ lJ (pv 8) (pv 9) (bO _)) aE))) (bO _))))) (aC (bX (oI PySem.F.plainAttrs_list PySem.F.slot_list_insert PySem.F.type_list_insert lK (aN aQ (pv 1) (pv 8) (λ_ _=>rfl)) (aA (oI PySem.F.plainAttrs_list PySem.F.slot_list_index PySem.F.type_list_index oQ (aN aQ (pv 1) (pv 8) (λ_ _=>rfl)) (aA (pv 6) aE)) (aA (pv 10) aE))))
  (aC (bX (oI PySem.F.plainAttrs_list PySem.F.slot_list_insert PySem.F.type_list_insert lK (aN aQ (pv 1) (pv 9) (λ_ _=>rfl)) (aA (oI PySem.F.plainAttrs_list PySem.F.slot_list_index PySem.F.type_list_index oQ (aN aQ (pv 1) (pv 9) (λ_ _=>rfl)) (aA (pv 7) aE)) (aA (aT c8 (pv 10) aG) aE))))
  (aL (bX (lB mAp b9 (pv 0) (aA (cH (aA (pv 8) (aA (pv 9) aE))) aE)))))) bW))))))))))),?_⟩
 have m:=g.maps;refine⟨_,rfl,(aJ _ rfl ta oa ts os rfl ⟨ hm.ts,hm.os.os,g,by lia,λr1 rr1 H1 g1 n1=>?_⟩)⟩;have hm1:=hm.keep g1;have lpos:=MM.FM m (by have:=g.one;lia);have rl1:(rr1.map V.ref).length=(MM.bC (MM.behind ts os) (2*ts.length)).length:=by rw[Zq];exact n1.len
 obtain⟨k1,hk1,ek1⟩:=MM.DB pick (n:=(rr1.map V.ref).length) (by lia);obtain⟨x1,x11,x12,x13,x14⟩:=n1.item (p:=k1) (by lia);obtain⟨lp,ll⟩:=MM.vF m (d:=MM.row (MM.bC (MM.behind ts os) (2*ts.length)) k1) (by
  unfold MM.row;have:k1<(MM.bC (MM.behind ts os) (2*ts.length)).length:=by lia
  simp only[List.getD,Zz this,Option.getD_some];exact Zp this)
 have lsame:∀x∈MM.row (MM.bC (MM.behind ts os) (2*ts.length)) k1,∀y∈MM.row (MM.bC (MM.behind ts os) (2*ts.length)) k1,y∈MM.aR (MM.behind ts os) x:=by
  have hk:k1<(MM.bC (MM.behind ts os) (2*ts.length)).length:=by lia
  have hd:MM.row (MM.bC (MM.behind ts os) (2*ts.length)) k1∈MM.bC (MM.behind ts os) (2*ts.length):=by
   unfold MM.row;simp only[List.getD,Zz hk,Option.getD_some];exact Zp hk
  obtain⟨e,he,hde⟩:=MM.rH m _ (List.range (2*ts.length)) (Nat.le_refl _) (λx hx=>Zs.mp hx) _ hd;have heN:=Zs.mp he;intro x hx y hy;rw[hde]at hx hy;exact MM.eX m (MM.iA m heN x hx) (MM.fO m heN hx) hy
 generalize MM.row (MM.bC (MM.behind ts os) (2*ts.length)) k1=land at x13 lp ll lsame;have ll1:(vns land).length=land.length:=Zq _;refine(bJ _ rfl _ rfl _ rfl (gF r1 _ rfl (.inl (SqL.of n1.at_)) _ _ rfl (dD rfl (by show(0:Int)<((rr1.map V.ref).length:Nat);lia) r1 _ _ _ rfl ⟨ rfl,SqL.of n1.at_,(by show atI _ (pick%((rr1.map V.ref).length:Nat))=_;rw[ek1];exact x14),?_⟩)));obtain⟨k2,hk2,ek2⟩:=MM.DB (pick / 8) (n:=(vns land).length) (by lia);obtain⟨k3,hk3,ek3⟩:=MM.DB (pick / 128) (n:=(vns land).length) (by lia);have e2:=ll (land.getD k2 0) (by simp only[List.getD,Zz (show k2<land.length by lia),Option.getD_some];exact Zp _);have e3:=ll (land.getD k3 0) (by simp only[List.getD,Zz (show k3<land.length by lia),Option.getD_some];exact Zp _);refine(cL _ rfl _ rfl _ _ rfl (nI rfl ⟨by decide,by decide⟩ _ rfl x1 _ rfl (kI (.inl (SqL.of x13)) _ _ rfl rfl (by show(0:Int)<((vns land).length:Nat);lia) (aM x1 _ _ _ rfl rfl (SqL.of x13) ⟨ (by show atI _ (pick / 8%((vns land).length:Nat))=_;rw[ek2];exact jF (by lia) rfl),_,rfl,?_⟩))));refine(cL _ rfl _ rfl _ _ rfl (nI rfl ⟨by decide,by decide⟩ _ rfl x1 _ rfl (kI (.inl (SqL.of x13)) _ _ rfl rfl (by show(0:Int)<((vns land).length:Nat);lia) (aM x1 _ _ _ rfl rfl (SqL.of x13) ⟨ (by show atI _ (pick / 128%((vns land).length:Nat))=_;rw[ek3];exact jF (by lia) rfl),_,rfl,?_⟩))));have e23:=lsame (land.getD k2 0) (by simp only[List.getD,Zz (show k2<land.length by lia),Option.getD_some];exact Zp _) (land.getD k3 0) (by simp only[List.getD,Zz (show k3<land.length by lia),Option.getD_some];exact Zp _);generalize land.getD k2 0=u1 at e2 e23;generalize land.getD k3 0=u2 at e3 e23;have o1:=g.g.has (MM.oth u1) (MM.bG e2);have o2:=g.g.has (MM.oth u2) (MM.bG e3);have lt1:=MM.bG e2;have lt2:=MM.bG e3;generalize ho1:MM.oth u1=one at o1 lt1;generalize ho2:MM.oth u2=two at o2 lt2;refine⟨_,(rY rfl _ rfl ta ts one rfl ⟨ hm1.ts,lt1,?_⟩)⟩;refine⟨_,(rY rfl _ rfl ta ts two rfl ⟨ hm1.ts,lt2,?_⟩)⟩;obtain⟨ha0,ha1⟩:=o1;obtain⟨hb0,hb1⟩:=o2;generalize hpa:MM.place ts one=a at ha0 ha1;generalize hpb:MM.place ts two=b at hb0 hb1;obtain⟨tr,tr1,tr2,tr3⟩:=id hm1.ts;refine(bP _ rfl ta _ rfl (.inl (SqL.of tr1)) (a9 _ _ rfl rfl (.inl ⟨by decide,by decide⟩) ?_));have eE:(2:Int)*((tr.map V.ref).length:Nat)=((2*ts.length:Nat):Int):=by rw[Zq,tr2];push_cast;rfl
 show jH 10 (V.int ((2:Int)*((tr.map V.ref).length:Nat))) _ _ _;rw[eE];have n2:=hm1.os;have g2:=g0.trans g1;obtain⟨xa,xa1,xa2,xa3,xa4⟩:=n2.item ha0;have hra:((vns (MM.row os a)).length:Int)=((MM.row os a).length:Nat):=by rw[Zq]
 have hro:((rr.map V.ref).length:Int)=(os.length:Nat):=by rw[Zq,n2.len]
 have nta:ta≠xa:=λz=>hm1.ar (z▸xa2);have noa:oa≠xa:=λz=>n2.nin (z▸xa2);have ia:=List.idxOf_lt_length_of_mem ha1;have noneC:Q .non H1:=q H1 rr ts os g2 hm1 g (by lia) (by lia) (.inl ⟨rfl,rfl⟩);refine' NW (λels=>?_) ?_;rotate_left
 ·refine(bR _ rfl _ _ rfl rfl ⟨by decide,by decide⟩ (fE _ _ rfl rfl (by show(0:Int)<3;decide) rfl ⟨ _,rfl,?_⟩));refine kG (λc1=>?_) (λc1=>fU rfl els);refine(bP _ rfl oa _ rfl (.inl (SqL.of n2.at_)) (bP _ rfl _ _ rfl rfl ⟨ _,rfl,?_⟩));refine kG (λc2=>?_) (λc2=>fU rfl els)
  ·refine⟨_,rfl,(aJ _ rfl oa _ _ _ rfl (cQ rfl (SqL.of n2.at_) xa4 xa _ rfl (.inl (SqL.of xa3)) (l8 _ _ rfl rfl _ rfl ?_)))⟩;refine kG (λc3=>?_) (λc3=>els)
   ·have c3':((vns (MM.row os a)).length:Int)<4:=of_decide_eq_true c3;rw[hra]at c3';have h3:(MM.row os a).length<4:=by lia
    refine⟨_,rfl,(aJ _ rfl oa _ _ _ rfl (bQ rfl (SqL.of n2.at_) xa4 (.inl ⟨rfl,_,SqL.of xa3⟩) _ rfl (aJ _ rfl oa _ _ _ rfl (bQ rfl (SqL.of n2.at_) xa4 (.inl ⟨rfl,_,SqL.of xa3⟩) _ rfl (bN xa _ one rfl rfl xa3 ha1 (aJ _ rfl xa _ _ _ rfl ⟨ rfl,xa3,?_,?_,?_⟩))))))⟩
    ·rw[Zq];lia
    ·rw[Zq];exact Ys (g.g.four a) (by decide)
    rw[MM.pY];have n3:=n2.set (l:=bI (MM.row os a) ((MM.row os a).idxOf one) (2*ts.length)) xa1;have t3:=hm1.ts.other xa3 (Ne.symm nta) (.lst (vns (bI (MM.row os a) ((MM.row os a).idxOf one) (2*ts.length))));have s3:aZ H0 (upd H1 xa (.lst (vns (bI (MM.row os a) ((MM.row os a).idxOf one) (2*ts.length))))):=λc u h=>by rw[aK (aH h (n2.news _ xa2))];exact g2 _ _ h
    have gd:=g.newPlace (i:=(MM.row os a).idxOf one) ha0 h3;have ct:=MM.y8 g e2 (by rw[ho1,hpa];exact h3);rw[ho1,hpa]at ct;have hol:(os.set a (bI (MM.row os a) ((MM.row os a).idxOf one) (2*ts.length))).length=os.length:=List.length_set;generalize upd H1 xa (.lst (vns (bI (MM.row os a) ((MM.row os a).idxOf one) (2*ts.length))))=H3 at n3 t3 s3;generalize os.set a (bI (MM.row os a) ((MM.row os a).idxOf one) (2*ts.length))=os1 at n3 gd ct hol;obtain⟨tq,tq1,tq2,tq3⟩:=id t3;refine(jS _ rfl (.inl ⟨rfl,_,SqL.of tq1⟩) _ rfl _ rfl (a9 oa _ rfl (.inl (SqL.of n3.at_)) (by show 2<=ZW;decide) (λtp htp=>?_)));have e0:(V.int ((rr.map V.ref).length:Nat))=vn os.length:=by rw[Zq,n2.len]
    rw[e0]at *;have g5:=aI htp (.tup [vn a,vn os.length]);refine(bN ta _ _ rfl rfl (g5 _ _ tq1) ?_ ?_)
    ·rw[Zq,tq2];exact Ys ht100 (by decide)
    have t5:=(g5.ts t3).push (t:=(a,os.length)) (g5 _ _ tq1) aB;have n5:c7 H0 (upd (upd H3 tp (.tup [vn a,vn os.length])) ta (.lst (tq.map V.ref++[.ref tp]))) oa rr os1:=n3.keep λc u hc h=>by
     rw[aK (show c≠ta by rcases hc with rfl | hc;exact Ne.symm hm1.ao;rintro rfl;exact hm1.ar hc)];exact g5 _ _ h
    have s5:aZ H0 (upd (upd H3 tp (.tup [vn a,vn os.length])) ta (.lst (tq.map V.ref++[.ref tp]))):=λc u h=>by rw[aK (aH h hm1.an)];exact g5 _ _ (s3 _ _ h)
    generalize upd (upd H3 tp (.tup [vn a,vn os.length])) ta (.lst (tq.map V.ref++[.ref tp]))=H5 at t5 n5 s5;refine(fF _ rfl (.inl ⟨rfl,_,SqL.of n5.at_⟩) _ rfl (a9 _ _ rfl rfl (by show 1<=ZW;decide) (λnl hnl=>?_)));have e1:(λi j:Int=>V.int (i+j)) ((2*ts.length:Nat):Int) 1=vn (2*ts.length+1):=rfl;rw[e1]at *;have g6:=aI hnl (.lst [vn (2*ts.length+1)]);refine(bN oa _ _ rfl rfl (g6 _ _ n5.at_) ?_ ?_)
    ·rw[Zq,n5.len,hol];exact Ys ho100 (by decide)
    have nlr:nl∉rr:=λz=>by obtain⟨l,hl⟩:=n5.ex z;rw[hnl]at hl;cases hl
    have nlo:nl≠oa:=(aH n5.at_ hnl).symm;have n6:=n5.push (x:=nl) (l:=[2*ts.length+1]) (H2:=upd (upd H5 nl (.lst [vn (2*ts.length+1)])) oa (.lst (rr.map V.ref++[.ref nl]))) (s5.free hnl) nlr nlo (by rw[aB,Zt];rfl) (by rw[aK nlo];exact aB) (λc u hc h=>by rw[aK (show c≠oa from λz=>n5.nin (z▸hc))];exact g6 _ _ h);have t6:=(g6.ts t5).other (g6 _ _ n5.at_) (Ne.symm hm1.ao) (.lst (rr.map V.ref++[.ref nl]));have s6:aZ H0 (upd (upd H5 nl (.lst [vn (2*ts.length+1)])) oa (.lst (rr.map V.ref++[.ref nl]))):=λc u h=>by rw[aK (aH h n2.new)];exact g6 _ _ (s5 _ _ h)
    have tnl:ta≠nl:=by obtain⟨tq',z1,_⟩:=id t5;exact aH z1 hnl
    exact q _ (rr++[nl]) _ _ s6 ⟨t6,n6,hm1.an,hm1.ao,λz=>(Zf.mp z).elim hm1.ar λz=>tnl (by simpa using z)⟩ gd (by rw[Zm];exact Nat.le_refl _) (by rw[Zm,hol];exact Nat.le_refl _) (.inr ⟨by rw[Zm];rfl,.inl ⟨by rw[Zm,hol];rfl,ct⟩⟩)
 ·obtain⟨xb,xb1,xb2,xb3,xb4⟩:=n2.item hb0;refine⟨_,rfl,(aJ _ rfl oa _ _ _ rfl (cQ rfl (SqL.of n2.at_) xa4 xa _ rfl (.inl (SqL.of xa3)) (dB _ rfl _ rfl rfl (.inr ⟨_,rfl,?_⟩))))⟩;refine(gF _ _ rfl rfl _ _ rfl ⟨ rfl,_,rfl,?_⟩);refine kG (λd1=>?_) (λd1=>fU rfl noneC);refine⟨_,rfl,(aJ _ rfl oa _ _ _ rfl (cQ rfl (SqL.of n2.at_) xb4 xb _ rfl (.inl (SqL.of xb3)) (dB _ rfl _ rfl rfl (.inr ⟨_,rfl,?_⟩))))⟩;refine(gF _ _ rfl rfl _ _ rfl ⟨ rfl,_,rfl,?_⟩);refine kG (λd2=>?_) (λd2=>noneC);have h12:(MM.row os a).length<4/\(MM.row (os.set a (bI (MM.row os a) ((MM.row os a).idxOf one) (2*ts.length))) b).length<4:=by
   have d1':((vns (MM.row os a)).length:Int)<4-(if decide (vn a=vn b)=true then 1 else 0):=of_decide_eq_true d1;have d2':((vns (MM.row os b)).length:Int)<4-(if decide (vn a=vn b)=true then 1 else 0):=of_decide_eq_true d2;rw[hra]at d1';rw[Zq]at d2';by_cases hab:a=b
   ·subst hab;rw[if_pos (by simp)]at d1';rw[MM.dR ha0,MM.jQ]
    lia
   ·have nab:¬(decide (vn a=vn b)=true):=by
     intro z;have z':=of_decide_eq_true z;injection z' with z';exact hab (by lia)
    rw[if_neg nab]at d1' d2';rw[MM.fG (Ne.symm hab)]
    lia
  refine⟨_,rfl,(aJ _ rfl oa _ _ _ rfl (bQ rfl (SqL.of n2.at_) xa4 (.inl ⟨rfl,_,SqL.of xa3⟩) _ rfl (aJ _ rfl oa _ _ _ rfl (bQ rfl (SqL.of n2.at_) xa4 (.inl ⟨rfl,_,SqL.of xa3⟩) _ rfl (bN xa _ one rfl rfl xa3 ha1 (aJ _ rfl xa _ _ _ rfl ⟨ rfl,xa3,?_,?_,?_⟩))))))⟩
  ·rw[Zq];lia
  ·rw[Zq];exact Ys (g.g.four a) (by decide)
  rw[MM.pY];have n3:=n2.set (l:=bI (MM.row os a) ((MM.row os a).idxOf one) (2*ts.length)) xa1;have t3:=hm1.ts.other xa3 (Ne.symm nta) (.lst (vns (bI (MM.row os a) ((MM.row os a).idxOf one) (2*ts.length))));have s3:aZ H0 (upd H1 xa (.lst (vns (bI (MM.row os a) ((MM.row os a).idxOf one) (2*ts.length))))):=λc u h=>by rw[aK (aH h (n2.news _ xa2))];exact g2 _ _ h
  have hb2:two∈MM.row (os.set a (bI (MM.row os a) ((MM.row os a).idxOf one) (2*ts.length))) b:=by
   by_cases hab:b=a
   ·subst hab;rw[MM.dR ha0];exact MM.jP.mpr (.inr hb1)
   ·rw[MM.fG hab];exact hb1
  have gd:=g.newTie (i:=(MM.row os a).idxOf one) (j:=(MM.row (os.set a (bI (MM.row os a) ((MM.row os a).idxOf one) (2*ts.length))) b).idxOf two) ha0 hb0 h12.1 h12.2;have ct:=MM.DH g e2 e23 (a:=a) (b:=b) (by rw[ho1];exact hpa) (by rw[ho2];exact hpb) h12.1 (by rw[ho1];exact h12.2);rw[ho1,ho2]at ct;have hol:(os.set a (bI (MM.row os a) ((MM.row os a).idxOf one) (2*ts.length))).length=os.length:=List.length_set;generalize upd H1 xa (.lst (vns (bI (MM.row os a) ((MM.row os a).idxOf one) (2*ts.length))))=H3 at n3 t3 s3;generalize os.set a (bI (MM.row os a) ((MM.row os a).idxOf one) (2*ts.length))=os1 at n3 hb2 gd ct h12 hol;obtain⟨yb,yb1,yb2,yb3,yb4⟩:=n3.item (p:=b) (by lia);have ib:=List.idxOf_lt_length_of_mem hb2;refine⟨_,rfl,(aJ _ rfl oa _ _ _ rfl (bQ rfl (SqL.of n3.at_) yb4 (.inl ⟨rfl,_,SqL.of yb3⟩) _ rfl (aJ _ rfl oa _ _ _ rfl (bQ rfl (SqL.of n3.at_) yb4 (.inl ⟨rfl,_,SqL.of yb3⟩) _ rfl (bN yb _ two rfl rfl yb3 hb2 (bP _ rfl _ _ rfl rfl (aM yb _ _ _ rfl rfl yb3 ⟨ ?_,?_,?_⟩)))))))⟩
  ·rw[Zq];lia
  ·rw[Zq];exact Nat.lt_trans h12.2 (by decide)
  have e1:(λi j:Int=>V.int (i+j)) ((2*ts.length:Nat):Int) 1=vn (2*ts.length+1):=rfl;rw[e1,MM.pY];have n4:=n3.set (l:=bI (MM.row os1 b) ((MM.row os1 b).idxOf two) (2*ts.length+1)) yb1;have t4:=t3.other yb3 (λz=>hm1.ar (z▸yb2)) (.lst (vns (bI (MM.row os1 b) ((MM.row os1 b).idxOf two) (2*ts.length+1))));have s4:aZ H0 (upd H3 yb (.lst (vns (bI (MM.row os1 b) ((MM.row os1 b).idxOf two) (2*ts.length+1))))):=λc u h=>by rw[aK (aH h (n2.news _ yb2))];exact s3 _ _ h
  generalize upd H3 yb (.lst (vns (bI (MM.row os1 b) ((MM.row os1 b).idxOf two) (2*ts.length+1))))=H4 at n4 t4 s4;obtain⟨tq,tq1,tq2,tq3⟩:=id t4;refine(jS _ rfl (.inl ⟨rfl,_,SqL.of tq1⟩) _ rfl _ rfl ⟨ (by show 2<=ZW;decide),λtp htp=>?_⟩);have g5:=aI htp (.tup [vn a,vn b]);refine(bN ta _ _ rfl rfl (g5 _ _ tq1) ?_ ?_)
  ·rw[Zq,tq2];exact Ys ht100 (by decide)
  have t5:=(g5.ts t4).push (t:=(a,b)) (g5 _ _ tq1) aB;have n5:c7 H0 (upd (upd H4 tp (.tup [vn a,vn b])) ta (.lst (tq.map V.ref++[.ref tp]))) oa rr (os1.set b (bI (MM.row os1 b) ((MM.row os1 b).idxOf two) (2*ts.length+1))):=n4.keep λc u hc h=>by
   rw[aK (show c≠ta by rcases hc with rfl | hc;exact Ne.symm hm1.ao;rintro rfl;exact hm1.ar hc)];exact g5 _ _ h
  have s5:aZ H0 (upd (upd H4 tp (.tup [vn a,vn b])) ta (.lst (tq.map V.ref++[.ref tp]))):=λc u h=>by rw[aK (aH h hm1.an)];exact g5 _ _ (s4 _ _ h)
  exact q _ rr _ _ s5 ⟨t5,n5,hm1.an,hm1.ao,hm1.ar⟩ gd (by rw[Zm];exact Nat.le_refl _) (by rw[List.length_set];lia) (.inr ⟨by rw[Zm];rfl,.inr ⟨by rw[List.length_set];exact hol,ct⟩⟩)
end K29
namespace L2
open PySem PyProof.Rows
theorem hJ.set{H:Hp}{a r:Addr}{ts:MM.bD}{xs:List V}{t:Nat×Nat}{j:Nat}(h:hJ H a ts)(hx:H a=some (.lst xs))(hr:H r=some (.tup [vn t.1,vn t.2])):hJ (upd H a (.lst (xs.set j (.ref r)))) a (ts.set j t):=by
 obtain⟨tr,h1,h2,h3⟩:=h;have ex:xs=tr.map V.ref:=by rw[hx]at h1;cases h1;rfl
 subst ex;refine⟨tr.set j r,by rw[aB,List.map_set],by rw[List.length_set,List.length_set,h2],λi u hu=>?_⟩;by_cases e:j=i
 ·subst e;have hj:j<ts.length:=by
   have:=(Zj.mp hu).1;rw[List.length_set]at this;exact this
  rw[List.getElem?_set_self hj]at hu;cases hu;exact⟨r,List.getElem?_set_self (by rw[h2];exact hj),by rw[aK (dI hr hx (λz=>nomatch z))];exact hr⟩
 ·rw[List.getElem?_set_ne e]at hu;obtain⟨y,q1,q2⟩:=h3 i u hu;exact⟨y,by rw[List.getElem?_set_ne e];exact q1,by rw[aK (dI q2 hx (λz=>nomatch z))];exact q2⟩
theorem BL{α:Type}{x:α}:∀{l:List α},l.Nodup->x∉l->∀p,(l.set p x).Nodup
 |[],_,_,_=>by simp
 |a::l,nd,h,0=>by
  rw[List.set_cons_zero,List.nodup_cons];exact⟨λz=>h (Zw _ z),(List.nodup_cons.mp nd).2⟩
 |a::l,nd,h,p+1=>by
  rw[List.set_cons_succ,List.nodup_cons];refine⟨λz=>?_,BL (List.nodup_cons.mp nd).2 (λz=>h (Zw _ z)) p⟩;rcases List.mem_or_eq_of_mem_set z with z | z
  ·exact(List.nodup_cons.mp nd).1 z
  ·subst z;exact h Zd
theorem c7.setRef{H0 H H2:Hp}{o x:Addr}{rr:List Addr}{os:MM.a7}{l:List Nat}{p:Nat}(n:c7 H0 H o rr os)(hx:H0 x=none)(hxr:x∉rr)(hxo:x≠o)(at2:H2 o=some (.lst ((rr.set p x).map V.ref)))(ax:H2 x=some (.lst (vns l)))
  (g:∀b u,b∈rr->H b=some u->H2 b=some u):c7 H0 H2 o (rr.set p x) (os.set p l) where
 at_:=at2
 len:=by rw[List.length_set,List.length_set];exact n.len
 row:=λi m h=>by
  by_cases e:p=i
  ·subst e;have hp:p<os.length:=by
    have:=(Zj.mp h).1;rw[List.length_set]at this;exact this
   rw[List.getElem?_set_self hp]at h;cases h;exact⟨x,List.getElem?_set_self (by rw[n.len];exact hp),ax⟩
  ·rw[List.getElem?_set_ne e]at h;obtain⟨y,h1,h2⟩:=n.row i m h;exact⟨y,by rw[List.getElem?_set_ne e];exact h1,g _ _ (Zg h1) h2⟩
 nd:=BL n.nd hxr p
 nin:=λz=>by
  rcases List.mem_or_eq_of_mem_set z with z | z
  ·exact n.nin z
  ·exact hxo z.symm
 new:=n.new
 news:=λy hy=>by
  rcases List.mem_or_eq_of_mem_set hy with z | z
  ·exact n.news y z
  ·subst z;exact hx
theorem F8(l:List Nat){k:Nat}(h:k<=l.length):tK (vns l) (some (k:Int)) none=vns (l.drop k):=by
 unfold tK;have e:(vns l).length=l.length:=Zq _;rw[HT.wN,HT.sH,e,Nat.min_eq_left h];have e2:(vns l).drop k=vns (l.drop k):=by unfold vns;rw[List.map_drop]
 rw[e2];exact List.take_of_length_le (by rw[Zq,Yf];exact Nat.le_refl _)
theorem QT(l:List Nat){k:Nat}(h:k<=l.length):tK (vns l) none (some (k:Int))=vns (l.take k):=by
 unfold tK;have e:(vns l).length=l.length:=Zq _;rw[HT.wN,HT.sH,e,Nat.min_eq_left h,List.drop_zero,Nat.sub_zero];unfold vns;rw[List.map_take]
theorem iS{n j:Nat}(h:j<n):ixN n (j:Int)=some j:=by
 unfold ixN;rw[if_pos (by lia),if_pos (by lia)];simp
theorem E1(l:List Nat)(k:Nat):(l.drop k++l.take k).Perm l:=by
 have h:=List.perm_append_comm (l₁:=l.drop k) (l₂:=l.take k);rw[List.take_append_drop]at h;exact h
end L2
namespace MM
theorem oX{α:Type}{l:List α}{i j:Nat}{x d:α}(h:i≠j):(l.set i x).getD j d=l.getD j d:=by
 rw[Zv,Zv,List.getElem?_set_ne h]
theorem lE{α:Type}{l:List α}{i:Nat}{x d:α}(h:i<l.length):(l.set i x).getD i d=x:=by
 rw[Zv,List.getElem?_set_self h];rfl
theorem Good.tie{ts:bD}{os:a7}(g:Good ts os){i:Nat}(hi:i<ts.length):(ts.getD i (0,0)).1<os.length/\(ts.getD i (0,0)).2<os.length:=by
 have h1:=(g.g.has (2*i) (by lia)).1;have h2:=(g.g.has (2*i+1) (by lia)).1;unfold place at h1 h2;rw[if_pos (by lia),show 2*i / 2=i by lia]at h1;rw[if_neg (by lia),show(2*i+1) / 2=i by lia]at h2;exact⟨h1,h2⟩
theorem J8(U:Nat->Nat)(fl:List Nat)(f:Nat):(List.range (2*(fl.length+1))).map (λe=>L2.vn (nmF U (λk=>(fl++[f]).getD k 0) e)) =
  (List.range (2*fl.length)).map (λe=>L2.vn (nmF U (λk=>fl.getD k 0) e))++[L2.vn (2*U fl.length+f),L2.vn (2*U fl.length+(1-f))]:=by
 have e:2*(fl.length+1)=2*fl.length+1+1:=by lia
 rw[e,List.range_succ,List.range_succ,Zt,Zt,Yd];have h0:(fl++[f]).getD fl.length 0=f:=by simp[List.getD]
 have e1:nmF U (λk=>(fl++[f]).getD k 0) (2*fl.length)=2*U fl.length+f:=by
  unfold nmF;rw[if_pos (by lia),show 2*fl.length / 2=fl.length by lia];show 2*U fl.length+(fl++[f]).getD fl.length 0=_;rw[h0]
 have e2:nmF U (λk=>(fl++[f]).getD k 0) (2*fl.length+1)=2*U fl.length+(1-f):=by
  unfold nmF;rw[if_neg (by lia),show(2*fl.length+1) / 2=fl.length by lia];show 2*U fl.length+(1-(fl++[f]).getD fl.length 0)=_;rw[h0]
 have e3:(List.range (2*fl.length)).map (λe=>L2.vn (nmF U (λk=>(fl++[f]).getD k 0) e))=(List.range (2*fl.length)).map (λe=>L2.vn (nmF U (λk=>fl.getD k 0) e)):=by
  refine Yn λx hx=>?_;have hx':=Zs.mp hx;have q:(fl++[f]).getD (x / 2) 0=fl.getD (x / 2) 0:=by
   have:x / 2<fl.length:=by lia
   simp[List.getD,Zx this]
  unfold nmF;show L2.vn (2*U (x / 2)+(if x%2=0 then (fl++[f]).getD (x / 2) 0 else 1-(fl++[f]).getD (x / 2) 0))=_;rw[q]
 rw[e3];congr 1;show[L2.vn _,L2.vn _]=_;rw[e1,e2]
end MM
namespace K29
open PySem L2 PyProof.Rows
def LO:Sp:=λvs H Q _=>∃(ta oa:Addr) (c:Int) (ts:MM.bD) (os:MM.a7),vs=[.ref ta,.ref oa,.int c]/\hJ H ta ts/\pK H oa os/\MM.Good ts os/\ts.length<=400/\os.length<=400 /\
 ∀(r tA oA:Addr) (rr:List Addr) (ts':MM.bD) (os':MM.a7) (H':Hp),aZ H H'->H' r=some (.tup [vn os.length,.ref tA,.ref oA])->tS H H' tA oA rr ts' os'->MM.Good ts' os'->ts'.length=ts.length->os'.length=os.length->(MM.eP ts' os'=MM.eP ts os/\(MM.kH ts os->MM.kH ts' os'))->Q (.ref r) H'
theorem E9(T:Txt K mg t):bT P w K mg base CX0 2 t.vW t.vQ ["_law_ties","_law_orders","_law_cell"] LO:=by
 refine T.vK.F.ok sE (λvs H Q E h=>?_) (λcdv A outer s H vs Q E hr h=>?_)
 ·obtain⟨ta,oa,c,ts,os,rfl,_⟩:=h;rfl
 obtain⟨ta,oa,c,ts,os,rfl,ht,ho,g,ht400,ho400,q⟩:=h;have nd:=sE.nd;have nd_l_end_l_names:(["_law_end","_law_names"]:List Str).Nodup:=by decide
 have nd_l_order:(["_law_order"]:List Str).Nodup:=by decide
 have nd_l_tie:(["_law_tie"]:List Str).Nodup:=by decide
 refine⟨_,(aC (aW 3 nd (bK (mS T) hr T.j4 aX (aA (bK (iJ T) hr T.fQ aX (aA (pv 2) (aA aG aE))) (aA (a8 aU rfl T.dQ PySem.boot_len (aA (pv 1) aE)) aE))))
  (aC (aW 4 nd (bK (mS T) hr T.j4 aX (aA (bK (iJ T) hr T.fQ aX (aA (pv 2) (aA aG aE))) (aA (a8 aU rfl T.dQ PySem.boot_len (aA (pv 0) aE)) aE))))
  (aC (aW 5 nd (cC aE))
  (aC (bU (i:=6) nd rfl (Or.inl rfl)  (N':=["_law_tie"]) (js:=[none]) rfl (cI (pv 0)) (λ_ _ _ _ _=>(aO (i:=0) nd_l_tie rfl (Or.inl rfl))) (λ_ _ _ _ _=>dJ) (λ_ _ _ _ _=>(cH (aA aG (aA aG aE)))))
  (aC (cV PassesOwn.never rfl (fH rfl T.cK (aA (pv 0) aE)) (eL rfl (aV (aO (i:=7) nd rfl (Or.inl rfl)) (aV (eL rfl (aV (aO (i:=8) nd rfl (Or.inl rfl)) (aV (aO (i:=9) nd rfl (Or.inl rfl)) cJ))) cJ))) (aC (aW 10 nd (bK (pT T) hr T.jR aX (aA (bK (iJ T) hr T.fQ aX (aA (pv 2) (aA aG aE))) (aA aG (aA (pv 7) aE)))))
  (aC (hZ (aN aQ (cC (aA (cH (aA (aN aQ (pv 3) (pv 8) (λ_ _=>rfl)) (aA (aN aQ (pv 3) (pv 9) (λ_ _=>rfl)) aE))) (aA (cH (aA (aN aQ (pv 3) (pv 9) (λ_ _=>rfl)) (aA (aN aQ (pv 3) (pv 8) (λ_ _=>rfl)) aE))) aE))) (pv 10) (λ_ _=>rfl)) (jE (pv 6) (aN aQ (pv 4) (pv 7) (λ_ _=>rfl)) set_list))
  (aL (aW 5 nd (aT uI (pv 5) (cC (aA (aT c8 (aT dO aG (aN aQ (pv 4) (pv 7) (λ_ _=>rfl))) (pv 10)) (aA (aT iI (aT c8 (aT dO aG (aN aQ (pv 4) (pv 7) (λ_ _=>rfl))) aG) (pv 10)) aE)))))))))
  (aC (bU (i:=11) nd rfl (Or.inl rfl)  (N':=["_law_order"]) (js:=[none]) rfl (cI (pv 1)) (λ_ _ _ _ _=>(aO (i:=0) nd_l_order rfl (Or.inl rfl))) (λ_ _ _ _ _=>dJ) (λ_ _ _ _ _=>(cC aE)))
  (aC (cV PassesOwn.never rfl (fH rfl T.cK (aA (pv 1) aE)) (eL rfl (aV (aO (i:=12) nd rfl (Or.inl rfl)) (aV (aO (i:=13) nd rfl (Or.inl rfl)) cJ))) (aC (aW 14 nd (aT dE (bK (pT T) hr T.jR aX (aA (bK (iJ T) hr T.fQ aX (aA (pv 2) (aA aG aE))) (aA aG (aA (pv 12) aE)))) (a8 aU rfl T.dQ PySem.boot_len (aA (pv 13) aE))))
  (aL (hZ (gK (N':=["_law_end","_law_names"]) (js:=[none,some 5]) rfl (cI (aT uI (lI pP (pv 13) (mO (pv 14)) kO) (lI pP (pv 13) kO (mO (pv 14))))) (λ_ _ _ _ _=>(aO (i:=0) nd_l_end_l_names rfl (Or.inl rfl))) (λ_ _ _ _ _=>dJ) (λ_ _ _ _ _=>(aN (fK (K:=K) rfl) (pv 1) (pv 0) (λ_ _=>rfl)))) (jE (pv 11) (aN aQ (pv 3) (pv 12) (λ_ _=>rfl)) set_list)))))
  (aL (bE (cH (aA (a8 aU rfl T.dQ PySem.boot_len (aA (pv 1) aE)) (aA (pv 6) (aA (pv 11) aE))))))))))))),?_⟩
 obtain⟨tr,tr1,tr2,tr3⟩:=id ht;obtain⟨rr,rr1,rr2,rr3⟩:=id ho;have trl:(tr.map V.ref).length=ts.length:=by rw[Zq];exact tr2
 have rrl:(rr.map V.ref).length=os.length:=by rw[Zq];exact rr2
 refine(bR _ rfl c 0 rfl (by decide) (by decide) (λm0 hm0 _=>(bP _ rfl oa _ rfl (.inl (SqL.of rr1)) (a9 m0 ((rr.map V.ref).length) rfl hm0 (by lia) (λpr ps hpr hpn hpl hpe=>?_)))));have g1:=aI hpr (.lst (vns ps));refine(bR _ rfl c 1 rfl (by decide) (by decide) (λm1 hm1 _=>(bP _ rfl ta _ rfl (.inl (SqL.of (g1 _ _ tr1))) (a9 m1 ((tr.map V.ref).length) rfl hm1 (by lia) (λnr nu hnr hnn hnl hne=>?_)))));rw[trl]at hnl hne;rw[rrl]at hpl hpe;have g2:=aI hnr (.lst (vns nu));have mP:MM.cE (λi=>ps.getD i 0) os.length:=by have:=MM.wX hpn (by rw[hpe];exact hpl);rw[hpe]at this;exact this
 have mU:MM.cE (λi=>nu.getD i 0) ts.length:=by have:=MM.wX hnn (by rw[hne];exact hnl);rw[hne]at this;exact this
 refine⟨(by show 0<=ZW;decide),λna0 hna0=>?_⟩;have g3:=aI hna0 (.lst []);have k1:(upd (upd (upd H pr (.lst (vns ps))) nr (.lst (vns nu))) na0 (.lst [])) pr=some (.lst (vns ps)):=g3 _ _ (g2 _ _ aB);have k2:(upd (upd (upd H pr (.lst (vns ps))) nr (.lst (vns nu))) na0 (.lst [])) nr=some (.lst (vns nu)):=g3 _ _ aB;have k3:(upd (upd (upd H pr (.lst (vns ps))) nr (.lst (vns nu))) na0 (.lst [])) na0=some (.lst []):=aB;have g4:=(g1.trans g2).trans g3;generalize upd (upd (upd H pr (.lst (vns ps))) nr (.lst (vns nu))) na0 (.lst [])=H4 at k1 k2 k3 g4;clear g1 g2 g3 hpr hnr hna0;have atP:∀x,x<os.length->atI (vns ps) (x:Int)=some (vn (ps.getD x 0)):=λx hx=>jF (by lia) rfl;have atU:∀x,x<ts.length->atI (vns nu) (x:Int)=some (vn (nu.getD x 0)):=λx hx=>jF (by lia) rfl;refine(dB _ rfl ta rfl ⟨_,SqL.of (g4 _ _ tr1)⟩ (λD hD=>?_));refine comp_map ts.length (λi ys H'=>hJ H' D (List.replicate i (0,0))/\H' D=some (.lst ys)/\aZ H4 H') ⟨⟨[],aB,rfl,λi t h=>by simp at h⟩,aB,aI hD _⟩ ?_ ?_
 ·rintro i ys H' hi ⟨h1,h2,h3⟩;have hx:(tr.map V.ref)[i]?=some (.ref (tr[i]'(by lia))):=by rw[Zk,Zz (by lia)];rfl
  refine⟨⟨_,_,SqL.of (h3 _ _ (g4 _ _ tr1)),hx⟩,?_⟩;rintro x H'' ⟨rfl,hx'⟩;refine⟨(Fills.refl _).set _ rfl,?_⟩;refine⟨(by show 2<=ZW;decide),λtp htp=>?_⟩;have g5:=aI htp (.tup [vn 0,vn 0]);have h1':=(g5.ts h1).push (t:=(0,0)) (g5 _ _ h2) aB;obtain⟨tr',e1,e2,_⟩:=id h1;have hyl:ys.length=i:=by
   rw[h2]at e1;cases e1;rw[Zq,e2,List.length_replicate]
  refine⟨g5 _ _ h2,by rw[hyl];exact Yt hi (Yr ht400 (by decide)),?_,aB,?_⟩
  ·rw[List.replicate_succ'];exact h1'
  ·exact λb o h=>by rw[aK (aH h hD)];exact g5 _ _ (h3 _ _ h)
 rintro ys H5 ⟨t5,d5,g5⟩;refine⟨⟨_,SqL.of (g5 _ _ (g4 _ _ tr1)),by rw[trl];exact Nat.le_refl _⟩,?_⟩;have naD:na0≠D:=aH k3 hD;refine(dB _ rfl ta rfl ⟨_,SqL.of (g5 _ _ (g4 _ _ tr1))⟩ (fL (xs:=tr.map V.ref) (λi σ H'=>∃(na:Addr) (fl:List Nat) (td:MM.bD) (o7 o8 o9 o10:Option V),
   σ=[some (.ref ta),some (.ref oa),some (.int c),some (.ref pr),some (.ref nr),some (.ref na),some (.ref D),o7,o8,o9,o10,none,none,none,none]/\aZ H4 H'/\fl.length=i/\(∀f∈fl,f<=1)/\na≠D /\
   H' na=some (.lst ((List.range (2*i)).map λe=>vn (MM.nmF (λk=>nu.getD k 0) (λk=>fl.getD k 0) e)))/\hJ H' D td/\td.length=ts.length /\
   ∀k,k<i->td.getD (nu.getD k 0) (0,0)=if fl.getD k 0=0 then (ps.getD (ts.getD k (0,0)).1 0,ps.getD (ts.getD k (0,0)).2 0) else (ps.getD (ts.getD k (0,0)).2 0,ps.getD (ts.getD k (0,0)).1 0))
  (bM na0 ([]) _ none none none none (eK rfl g5 rfl (λf hf=>by cases hf) naD (g5 _ _ k3) t5 ⟨ by simp,λk hk=>absurd hk (Nat.not_lt_zero _)⟩)) (λi σ H' _ h=>by obtain⟨na,fl,td,o7,o8,o9,o10,_,h1,_⟩:=h;exact SqL.of (h1 _ _ (g4 _ _ tr1))) ?_ ?_))
 ·rintro i x σ H6 Tt hx ⟨na,fl,td,o7,o8,o9,o10,rfl,s6,hfl,hf1,nD,en,td6,tdl,hv⟩ hTt;have hi:i<ts.length:=by have:=(Zj.mp hx).1;lia
  obtain⟨rt,rt1,rt2⟩:=tr3 i _ (Zz hi);have ex:x=.ref rt:=by rw[Zk,rt1]at hx;cases hx;rfl
  subst ex;have tab:=g.tie hi;have hget:ts.getD i (0,0)=ts[i]:=by simp only[List.getD,Zz hi,Option.getD_some]
  rw[<-hget]at rt2;have hUi:=mU.lt i hi;have gT:=aI hTt (.tup [vn i,.ref rt]);refine(a9 Tt _ rfl (SqT.of aB) rfl (wH _ _ rfl _ _ rfl (a9 rt _ rfl (SqT.of (gT _ _ (s6 _ _ (g4 _ _ rt2)))) rfl (cF _ _ rfl _ _ rfl rfl ⟨ rfl,?_⟩))));refine(bR _ rfl c 2 rfl (by decide) (by decide) (λm2 hm2 _=>(dS _ rfl m2 2 i rfl (by decide) ⟨ by decide,by lia,by lia,λd hd0 hd1=>?_⟩)));obtain⟨f,rfl,hf⟩:∃f:Nat,d=(f:Int)/\f<=1:=⟨d.toNat,by lia,by lia⟩
  have s7:=s6.trans gT;have td7:=gT.ts td6;have en7:=gT _ _ en;generalize upd H6 Tt (.tup [vn i,.ref rt])=H7 at s7 td7 en7;refine⟨_,rfl,(aJ _ rfl pr _ _ _ rfl (eZ rfl (SqL.of (s7 _ _ k1)) (atP _ tab.1) _ rfl _ rfl (aM pr _ _ _ rfl rfl (SqL.of (s7 _ _ k1)) ⟨ atP _ tab.2,(by show 2<=ZW;decide),λp1 hp1=>?_⟩)))⟩;have gp1:=aI hp1 (.tup [vn (ps.getD (ts.getD i (0,0)).1 0),vn (ps.getD (ts.getD i (0,0)).2 0)]);refine⟨_,rfl,(aJ _ rfl pr _ _ _ rfl (eZ rfl (SqL.of (gp1 _ _ (s7 _ _ k1))) (atP _ tab.2) _ rfl _ rfl (aM pr _ _ _ rfl rfl (SqL.of (gp1 _ _ (s7 _ _ k1))) ⟨ atP _ tab.1,(by show 2<=ZW;decide),λp2 hp2=>?_⟩)))⟩;have gp2:=aI hp2 (.tup [vn (ps.getD (ts.getD i (0,0)).2 0),vn (ps.getD (ts.getD i (0,0)).1 0)]);refine⟨(by show 2<=ZW;decide),λpl hpl=>?_⟩;have gp3:=aI hpl (.lst [.ref p1,.ref p2]);have hat:atI [V.ref p1,V.ref p2] (f:Int)=some (.ref (if f=0 then p1 else p2)):=by
   have:f=0\/f=1:=by lia
   rcases this with rfl | rfl<;>rfl
  have s8:=s7.trans ((gp1.trans gp2).trans gp3);have td8:=((gp1.trans gp2).trans gp3).ts td7;have en8:=gp3 _ _ (gp2 _ _ (gp1 _ _ en7));have htu:(upd (upd (upd H7 p1 (.tup [vn (ps.getD (ts.getD i (0,0)).1 0),vn (ps.getD (ts.getD i (0,0)).2 0)])) p2 (.tup [vn (ps.getD (ts.getD i (0,0)).2 0),vn (ps.getD (ts.getD i (0,0)).1 0)])) pl (.lst [.ref p1,.ref p2])) (if f=0 then p1 else p2) =
    some (.tup [vn (if f=0 then (ps.getD (ts.getD i (0,0)).1 0,ps.getD (ts.getD i (0,0)).2 0) else (ps.getD (ts.getD i (0,0)).2 0,ps.getD (ts.getD i (0,0)).1 0)).1,vn (if f=0 then (ps.getD (ts.getD i (0,0)).1 0,ps.getD (ts.getD i (0,0)).2 0) else (ps.getD (ts.getD i (0,0)).2 0,ps.getD (ts.getD i (0,0)).1 0)).2]):=by
   by_cases hz:f=0
   ·rw[if_pos hz,if_pos hz];exact gp3 _ _ (gp2 _ _ aB)
   ·rw[if_neg hz,if_neg hz];exact gp3 _ _ aB
  have epl:(upd (upd (upd H7 p1 (.tup [vn (ps.getD (ts.getD i (0,0)).1 0),vn (ps.getD (ts.getD i (0,0)).2 0)])) p2 (.tup [vn (ps.getD (ts.getD i (0,0)).2 0),vn (ps.getD (ts.getD i (0,0)).1 0)])) pl (.lst [.ref p1,.ref p2])) pl=some (.lst [.ref p1,.ref p2]):=aB;generalize upd (upd (upd H7 p1 (.tup [vn (ps.getD (ts.getD i (0,0)).1 0),vn (ps.getD (ts.getD i (0,0)).2 0)])) p2 (.tup [vn (ps.getD (ts.getD i (0,0)).2 0),vn (ps.getD (ts.getD i (0,0)).1 0)])) pl (.lst [.ref p1,.ref p2])=H8 at s8 td8 en8 htu epl;obtain⟨tq,tq1,tq2,_⟩:=id td8;refine(aJ _ rfl pl _ _ _ rfl (eZ rfl (SqL.of epl) hat _ rfl _ rfl (aJ _ rfl nr _ _ _ rfl ⟨ rfl,(dD (SqL.of (s8 _ _ k2)) (atU _ hi) D _ _ (nu.getD i 0) rfl ⟨ rfl,tq1,iS (by rw[Zq,tq2,tdl];exact hUi),?_⟩)⟩)));have td9:=td8.set (j:=nu.getD i 0) tq1 htu;have s9:aZ H4 (upd H8 D (.lst ((tq.map V.ref).set (nu.getD i 0) (.ref (if f=0 then p1 else p2))))):=λb u h=>by rw[aK (aH h hD)];exact s8 _ _ h
  have en9:(upd H8 D (.lst ((tq.map V.ref).set (nu.getD i 0) (.ref (if f=0 then p1 else p2))))) na=some (.lst ((List.range (2*i)).map λe=>vn (MM.nmF (λk=>nu.getD k 0) (λk=>fl.getD k 0) e))):=by rw[aK nD];exact en8
  generalize upd H8 D (.lst ((tq.map V.ref).set (nu.getD i 0) (.ref (if f=0 then p1 else p2))))=H9 at td9 s9 en9;refine(bJ _ rfl _ rfl _ rfl (aM nr _ _ _ rfl rfl (SqL.of (s9 _ _ k2)) (kI (atU _ hi) _ _ rfl rfl (.inl ⟨by decide,by decide⟩) (bP _ rfl _ _ rfl rfl ⟨ _,rfl,(aJ _ rfl nr _ _ _ rfl (cQ rfl (SqL.of (s9 _ _ k2)) (atU _ hi) _ _ rfl rfl (lG (.inl ⟨by decide,by decide⟩) _ _ rfl rfl _ rfl (a9 _ _ rfl rfl (by show 2<=ZW;decide) (λnl hnl=>?_)))))⟩))));have v1:V.int (2*((nu.getD i 0:Nat):Int)+(f:Int))=vn (2*nu.getD i 0+f):=by show V.int _=V.int _;congr 1
  have v2:V.int (2*((nu.getD i 0:Nat):Int)+1-(f:Int))=vn (2*nu.getD i 0+(1-f)):=by show V.int _=V.int _;congr 1;lia
  have gn1:=aI hnl (.lst [V.int (2*((nu.getD i 0:Nat):Int)+(f:Int)),V.int (2*((nu.getD i 0:Nat):Int)+1-(f:Int))]);refine(aM na nl _ _ rfl rfl (gn1 _ _ en9) ⟨ aB,?_,λnb hnb=>?_⟩)
  ·rw[Zq,Yj];exact Yr (by show 2*i+2<=1000;lia) (by decide)
  have gn2:=aI hnb (.lst (((List.range (2*i)).map λe=>vn (MM.nmF (λk=>nu.getD k 0) (λk=>fl.getD k 0) e))++[V.int (2*((nu.getD i 0:Nat):Int)+(f:Int)),V.int (2*((nu.getD i 0:Nat):Int)+1-(f:Int))]));obtain⟨tq',tq1',_,_⟩:=id td9;refine(bM nb (fl++[f]) _ _ _ _ _ (eK rfl (s9.trans (gn1.trans gn2)) (by rw[Zm,hfl];rfl) ?_ ((aH (gn1 _ _ tq1') hnb).symm) ?_ ((gn1.trans gn2).ts td9) ⟨ by rw[List.length_set];exact tdl,?_⟩))
  ·intro z hz;rcases Zf.mp hz with hz | hz
   ·exact hf1 z hz
   ·have:z=f:=by simpa using hz
    lia
  ·rw[aB];show some (HO.lst (((List.range (2*i)).map λe=>vn (MM.nmF (λk=>nu.getD k 0) (λk=>fl.getD k 0) e))++[V.int (2*((nu.getD i 0:Nat):Int)+(f:Int)),V.int (2*((nu.getD i 0:Nat):Int)+1-(f:Int))]))=_;rw[v1,v2];subst hfl;rw[MM.J8]
  ·intro k hk;subst hfl;rcases Xq k fl.length with hk' | hk'
   ·have ne:nu.getD fl.length 0≠nu.getD k 0:=λz=>by have:=mU.inj _ _ hi (by lia) z;lia
    have e1:(fl++[f]).getD k 0=fl.getD k 0:=by simp[List.getD,Zx hk']
    have e2:∀z:Nat×Nat,(td.set (nu.getD fl.length 0) z).getD (nu.getD k 0) (0,0)=td.getD (nu.getD k 0) (0,0):=λz=>MM.oX ne;rw[e1,e2];exact hv k hk'
   ·have ek:k=fl.length:=by lia
    subst ek;have e1:(fl++[f]).getD fl.length 0=f:=by simp[List.getD]
    have e2:∀z:Nat×Nat,(td.set (nu.getD fl.length 0) z).getD (nu.getD fl.length 0) (0,0)=z:=λz=>MM.lE (by rw[tdl];exact hUi);rw[e1,e2]
 ·rintro σ H6 ⟨na,fl,td,o7,o8,o9,o10,rfl,s6,hfl,hf1,nD,en,td6,tdl,hv⟩;rw[trl]at hfl hv en;have hF:∀k,(λk=>fl.getD k 0) k<=1:=λk=>by
   show fl.getD k 0<=1;rw[Zv];cases hk:fl[k]? with
   |none=>simp
   |some z=>exact hf1 z (Zg hk)
  have hNM:=MM.oO mU hF;generalize hnm:MM.nmF (λk=>nu.getD k 0) (λk=>fl.getD k 0)=NM at en hNM;have s0:=g4.trans s6;refine(dB _ rfl oa rfl ⟨_,SqL.of (s0 _ _ rr1)⟩ (λD2 hD2=>?_));refine comp_map os.length (λi ys H'=>∃rr':List Addr,ys=rr'.map V.ref/\c7 H6 H' D2 rr' (List.replicate i [])/\aZ H6 H') ⟨[],rfl,⟨aB,rfl,λi l h=>by simp at h,List.nodup_nil,by simp,hD2,λx hx=>by cases hx⟩,aI hD2 _⟩ ?_ ?_
  ·rintro i ys H' hi ⟨rr',rfl,n',g'⟩;have hx:(rr.map V.ref)[i]?=some (.ref (rr[i]'(by lia))):=by rw[Zk,Zz (by lia)];rfl
   refine⟨⟨_,_,SqL.of (g' _ _ (s0 _ _ rr1)),hx⟩,?_⟩;rintro x H'' ⟨rfl,hx'⟩;refine⟨(Fills.refl _).set _ rfl,?_⟩;refine⟨(by show 0<=ZW;decide),λnl hnl=>?_⟩;have g5:=aI hnl (.lst []);have nlr:nl∉rr':=λz=>by obtain⟨l,hl⟩:=n'.ex z;rw[hnl]at hl;cases hl
   have nlo:nl≠D2:=(aH n'.at_ hnl).symm;refine(GZ (g5 _ _ n'.at_) ?_ (rr'++[nl]) (by rw[Zt];rfl) ?_ ?_)
   ·rw[Zq,n'.len,List.length_replicate];exact Yt hi (Yr ho400 (by decide))
   ·rw[List.replicate_succ'];exact n'.push (x:=nl) (l:=[]) (g'.free hnl) nlr nlo (by rw[aB,Zt];rfl) (by rw[aK nlo];exact aB) λb u hb h=>by rw[aK (show b≠D2 from λz=>n'.nin (z▸hb))];exact g5 _ _ h
   ·exact λb o h=>by rw[aK (aH h hD2)];exact g5 _ _ (g' _ _ h)
  rintro ys H7 ⟨rr7,rfl,n7,g7⟩;refine⟨⟨_,SqL.of (g7 _ _ (s0 _ _ rr1)),by rw[rrl];exact Nat.le_refl _⟩,?_⟩;refine(dB _ rfl oa rfl ⟨_,SqL.of (g7 _ _ (s0 _ _ rr1))⟩ (fL (xs:=rr.map V.ref) (λi σ H'=>∃(rr':List Addr) (rows:MM.a7) (o12 o13 o14:Option V),
    σ=[some (.ref ta),some (.ref oa),some (.int c),some (.ref pr),some (.ref nr),some (.ref na),some (.ref D),o7,o8,o9,o10,some (.ref D2),o12,o13,o14]/\aZ H6 H'/\c7 H6 H' D2 rr' rows/\rows.length=os.length /\
    ∀p,p<i->∃l:List Nat,MM.row rows (ps.getD p 0)=l.map NM/\MM.Rot l (MM.row os p))
   (dA rr7 _ none none none rfl g7 ⟨ n7,by simp,λp hp=>absurd hp (Nat.not_lt_zero _)⟩) (λi σ H' _ h=>by obtain⟨rr',rows,o12,o13,o14,_,h1,_⟩:=h;exact SqL.of (h1 _ _ (s0 _ _ rr1))) ?_ ?_))
  ·rintro i x σ H8 Tt hx ⟨rr',rows,o12,o13,o14,rfl,s8,n8,rl8,hw⟩ hTt;have hi:i<os.length:=by have:=(Zj.mp hx).1;lia
   obtain⟨xo,xo1,xo2⟩:=rr3 i _ (Zz hi);have ex:x=.ref xo:=by rw[Zk,xo1]at hx;cases hx;rfl
   subst ex;have hrow:MM.row os i=os[i]:=by unfold MM.row;rw[Zv,Zz hi];rfl
   rw[<-hrow]at xo2;have hfull:=g.g.full i hi;have hfour:=g.g.four i;have hlt:∀e∈MM.row os i,e<2*ts.length:=λe he=>(g.g.ends i e he).1;generalize hord:MM.row os i=ord at xo2 hfull hfour hlt;have hPi:=mP.lt i hi;have gT:=aI hTt (.tup [vn i,.ref xo]);have s9:=s8.trans gT;have n9:c7 H6 (upd H8 Tt (.tup [vn i,.ref xo])) D2 rr' rows:=n8.keep λb u _ h=>gT _ _ h;refine(a9 Tt _ rfl (SqT.of aB) rfl (cF _ _ rfl _ _ rfl rfl ?_));generalize upd H8 Tt (.tup [vn i,.ref xo])=H9 at s9 n9;have exo:=s9 _ _ (s0 _ _ xo2);have ordl:(vns ord).length=ord.length:=Zq _;have ordp:0<ord.length:=List.length_pos_iff.mpr hfull;refine(bR _ rfl c 3 rfl (by decide) (by decide) (λm3 hm3 _=>(dS _ rfl m3 4 i rfl (by decide) ⟨ by decide,by lia,by lia,λd hd0 hd1=>(bP _ rfl xo _ rfl (.inl (SqL.of exo)) (a9 _ _ rfl rfl (by show(0:Int)<((vns ord).length:Nat);lia) ?_))⟩)));obtain⟨k,hk,ek⟩:=MM.DB d (n:=(vns ord).length) (by lia);show jH 14 (V.int (d%((vns ord).length:Nat))) _ _ _;rw[ek];refine(bJ _ rfl _ rfl _ rfl ⟨ xo,_,rfl,SqL.of exo,λs1 hs1=>?_⟩);rw[F8 ord (by lia)];have gs1:=aI hs1 (.lst (vns (ord.drop k)));refine(bJ _ rfl _ rfl _ rfl ⟨ xo,_,rfl,SqL.of (gs1 _ _ exo),λs2 hs2=>?_⟩);rw[QT ord (by lia)];have gs2:=aI hs2 (.lst (vns (ord.take k)));refine(aM s1 s2 _ _ rfl rfl (gs2 _ _ aB) ⟨ aB,?_,λrl hrl=>?_⟩)
   ·rw[Zq,Zq,Yf,Yw];exact Yr (by lia:_<=100) (by decide)
   rw[<-kJ];have gs3:=aI hrl (.lst (vns (ord.drop k++ord.take k)));have hperm:=E1 ord k;have s10:=s9.trans ((gs1.trans gs2).trans gs3);have n10:c7 H6 (upd (upd (upd H9 s1 (.lst (vns (ord.drop k)))) s2 (.lst (vns (ord.take k)))) rl (.lst (vns (ord.drop k++ord.take k)))) D2 rr' rows:=n9.keep λb u _ h=>gs3 _ _ (gs2 _ _ (gs1 _ _ h));have erl:(upd (upd (upd H9 s1 (.lst (vns (ord.drop k)))) s2 (.lst (vns (ord.take k)))) rl (.lst (vns (ord.drop k++ord.take k)))) rl=some (.lst (vns (ord.drop k++ord.take k))):=aB;generalize upd (upd (upd H9 s1 (.lst (vns (ord.drop k)))) s2 (.lst (vns (ord.take k)))) rl (.lst (vns (ord.drop k++ord.take k)))=H10 at s10 n10 erl;have hrot:MM.Rot (ord.drop k++ord.take k) ord:=⟨k,rfl⟩
   generalize ord.drop k++ord.take k=rot at erl hperm hrot;refine⟨rl,rfl,⟨_,SqL.of erl⟩,λD3 hD3=>?_⟩;refine comp_map rot.length (λi ys H'=>ys=vns ((rot.take i).map NM)/\H'=upd H10 D3 (.lst ys)) ⟨rfl,rfl⟩ ?_ ?_
   ·rintro j ys H' hj ⟨rfl,rfl⟩;have gD:=aI hD3 (.lst (vns ((rot.take j).map NM)));have hx:(vns rot)[j]?=some (vn rot[j]):=by rw[Zk,Zz hj];rfl
    refine⟨⟨_,_,SqL.of (gD _ _ erl),hx⟩,?_⟩;rintro x' H'' ⟨rfl,hx'⟩;have e6:=hx' _ (SqL.of (gD _ _ erl));rw[hx]at e6;cases e6;have hjl:=hlt rot[j] (hperm.mem_iff.mp (Zp hj));have hat:atI ((List.range (2*ts.length)).map λe=>vn (NM e)) ((rot[j]:Nat):Int)=some (vn (NM rot[j])):=dX (by rw[Zk,Yk hjl];rfl);have hrl5:rot.length<=4:=by rw[hperm.length_eq];exact hfour
    refine⟨(Fills.refl _).set _ rfl,?_⟩;refine⟨_,rfl,(aJ _ rfl na _ _ _ rfl (l9 rfl (SqL.of (gD _ _ (s10 _ _ en))) hat aB ?_ ?_ ?_))⟩
    ·rw[Zq,Zq,Yw];exact Ys (by lia:_<=4) (by decide)
    ·rw[List.take_add_one,Zz hj,Zt,kJ];rfl
    ·rw[hV]
   ·rintro ys H' ⟨rfl,rfl⟩;rw[Yv];have gD:=aI hD3 (.lst (vns (rot.map NM)));refine⟨⟨_,SqL.of (gD _ _ erl),by rw[Zq];exact Nat.le_refl _⟩,?_⟩;have D3r:D3∉rr':=λz=>by obtain⟨l,hl⟩:=n10.ex z;rw[hD3]at hl;cases hl
    have D3o:D3≠D2:=(aH n10.at_ hD3).symm;refine(bJ _ rfl _ rfl _ rfl (aM pr _ _ _ rfl rfl (SqL.of (gD _ _ (s10 _ _ (s6 _ _ k1)))) (dC (atP i hi) D2 _ _ (ps.getD i 0) rfl rfl ⟨ gD _ _ n10.at_,iS (by rw[Zq,n10.len,rl8];exact hPi),?_⟩)));have n11:=n10.setRef (x:=D3) (l:=rot.map NM) (p:=ps.getD i 0) (H2:=upd (upd H10 D3 (.lst (vns (rot.map NM)))) D2 (.lst ((rr'.map V.ref).set (ps.getD i 0) (.ref D3)))) (s10.free hD3) D3r D3o (by rw[aB,List.map_set]) (by rw[aK D3o];exact aB)
     λb u hb h=>by rw[aK (show b≠D2 from λz=>n10.nin (z▸hb))];exact gD _ _ h
    refine(dA _ _ _ _ _ rfl ?_ ⟨ n11,by rw[List.length_set];exact rl8,λp hp=>?_⟩)
    ·exact λb u h=>by rw[aK (aH h hD2)];exact gD _ _ (s10 _ _ h)
    ·rcases Xq p i with hp' | hp'
     ·have ne:ps.getD p 0≠ps.getD i 0:=λz=>by have:=mP.inj p i (by lia) hi z;lia
      rw[MM.fG ne];exact hw p hp'
     ·have ep:p=i:=by lia
      subst ep;rw[MM.dR (by rw[rl8];exact hPi),hord];exact⟨rot,rfl,hrot⟩
  ·rintro σ H8 ⟨rr',rows,o12,o13,o14,rfl,s8,n8,rl8,hw⟩;rw[rrl]at hw;refine(bP _ rfl oa _ rfl (.inl (SqL.of (s8 _ _ (s0 _ _ rr1)))) (dB _ rfl _ rfl (by show 3<=ZW;decide) (λr hr'=>?_)));have gr:=aI hr' (.tup [.int ((rr.map V.ref).length:Nat),.ref D,.ref D2]);obtain⟨tq,tq1,_,_⟩:=id td6;have nb:c7 H (upd H8 r (.tup [.int ((rr.map V.ref).length:Nat),.ref D,.ref D2])) D2 rr' rows :=
    ⟨gr _ _ n8.at_,n8.len,(n8.keep (λb u _ h=>gr _ _ h)).row,n8.nd,n8.nin,s0.free n8.new,λx hx=>s0.free (n8.news x hx)⟩
   refine q r D D2 rr' td rows _ ((s0.trans s8).trans gr) (by rw[aB,rrl]) ⟨(s8.trans gr).ts td6,nb,g4.free hD,aH tq1 hD2,λz=>by have:=n8.news D z;rw[tq1]at this;cases this⟩ ?_ tdl rl8 ?_
   ·refine MM.mI g mU hF mP tdl rl8 hv λp hp=>?_;obtain⟨l,h1,h2⟩:=hw p hp;rw[hnm];exact⟨l,h1,h2.perm⟩
   ·refine MM.AO g mU hF mP tdl rl8 hv ?_;rw[hnm];exact hw
end K29
namespace MM
theorem good2:Good [(0,1)] [[0],[1]] where
 one:=Nat.le_refl _
 g:={
  ends:=λp e he=>by
   match p,he with
   |0,he =>
    have h:e=0:=by simpa[row] using he
    subst h;exact⟨by decide,rfl⟩
   |1,he =>
    have h:e=1:=by simpa[row] using he
    subst h;exact⟨by decide,rfl⟩
   |p+2,he=>simp[row]at he
  has:=λe he=>by
   have:e=0\/e=1:=by simp at he;lia
   rcases this with rfl | rfl<;>exact⟨by decide,by decide⟩
  nd:=λp=>by
   match p with
   |0=>decide
   |1=>decide
   |p+2=>simp[row]
  full:=λp hp=>by
   match p,hp with
   |0,_=>decide
   |1,_=>decide
   |p+2,hp=>exact absurd hp (by show ¬p+2<2;lia)
  four:=λp=>by
   match p with
   |0=>decide
   |1=>decide
   |p+2=>simp[row] }
theorem UM:Good [(0,0)] [[0,1]] where
 one:=Nat.le_refl _
 g:={
  ends:=λp e he=>by
   match p,he with
   |0,he =>
    have h:e=0\/e=1:=by simpa[row] using he
    rcases h with rfl | rfl<;>exact⟨by decide,rfl⟩
   |p+1,he=>simp[row]at he
  has:=λe he=>by
   have:e=0\/e=1:=by simp at he;lia
   rcases this with rfl | rfl<;>exact⟨by decide,by decide⟩
  nd:=λp=>by
   match p with
   |0=>decide
   |p+1=>simp[row]
  full:=λp hp=>by
   match p,hp with
   |0,_=>decide
   |p+1,hp=>exact absurd hp (by show ¬p+1<1;lia)
  four:=λp=>by
   match p with
   |0=>decide
   |p+1=>simp[row] }
theorem X7:Flat [(0,1)] [[0],[1]]:=by
 have f0:behind [(0,1)] [[0],[1]] 0=1:=by decide
 have f1:behind [(0,1)] [[0],[1]] 1=0:=by decide
 have m:=good2.maps;have a:tR (behind [(0,1)] [[0],[1]]) (List.range 2) [0]:=by
  refine⟨by simp,by simp,λx hx=>⟨0,by simp,?_⟩,λr hr r' hr' _=>?_⟩
  ·have hx:=Zs.mp hx;rw[bS m (by decide)]
   match x,hx with
   |0,_=>exact⟨0,rfl⟩
   |1,_=>exact⟨1,f0⟩
  ·rw[Zb]at hr hr';rw[hr,hr']
 have c:=gQ (N:=2) m a;show 2+(bC (behind [(0,1)] [[0],[1]]) 2).length=3;rw[c];rfl
theorem X8:Flat [(0,0)] [[0,1]]:=by
 have f0:behind [(0,0)] [[0,1]] 0=0:=by decide
 have f1:behind [(0,0)] [[0,1]] 1=1:=by decide
 have m:=UM.maps;have i0:∀k,iter (behind [(0,0)] [[0,1]]) k 0=0:=λk=>by
  induction k with
  |zero=>rfl
  |succ k ih=>show behind _ _ (iter _ k 0)=0;rw[ih,f0]
 have i1:∀k,iter (behind [(0,0)] [[0,1]]) k 1=1:=λk=>by
  induction k with
  |zero=>rfl
  |succ k ih=>show behind _ _ (iter _ k 1)=1;rw[ih,f1]
 have a:tR (behind [(0,0)] [[0,1]]) (List.range 2) [0,1]:=by
  refine⟨by simp,by simp,λx hx=>⟨x,?_,fM m (Zs.mp hx)⟩,λr hr r' hr' z=>?_⟩
  ·have hx:=Zs.mp hx
   match x,hx with
   |0,_=>simp
   |1,_=>simp
  ·have hr2:r=0\/r=1:=by simpa using hr
   rcases hr2 with rfl | rfl
   ·obtain⟨k,hk⟩:=(bS m (by decide)).mp z;rw[i0]at hk;exact hk
   ·obtain⟨k,hk⟩:=(bS m (by decide)).mp z;rw[i1]at hk;exact hk
 have c:=gQ (N:=2) m a;show 1+(bC (behind [(0,0)] [[0,1]]) 2).length=3;rw[c];rfl
theorem fc2:FC [(0,1)] [[0],[1]]:=⟨X7,GC rfl⟩
theorem fc1:FC [(0,0)] [[0,1]]:=⟨X8,GC rfl⟩
end MM
namespace L2
open PySem PyProof.Rows
theorem tS.bse{H0 H1 H:Hp}{a o:Addr}{rr:List Addr}{ts:MM.bD}{os:MM.a7}(m:tS H1 H a o rr ts os)(g:aZ H0 H1):tS H0 H a o rr ts os :=
 ⟨m.ts,⟨m.os.at_,m.os.len,m.os.row,m.os.nd,m.os.nin,g.free m.os.new,λx hx=>g.free (m.os.news x hx)⟩,g.free m.an,m.ao,m.ar⟩
end L2
namespace K29
open PySem L2 PyProof.Rows
def W5(K:PySem.W.Frag):Sp:=λvs H Q _=>∃(sa:Addr) (ns:List Int) (steps most:Int),vs=[.ref sa,.int steps,.int most]/\SqL K H sa (ns.map V.int)/\0<=steps/\steps<=30 /\
 ∀(r tA oA:Addr) (rr:List Addr) (ts:MM.bD) (os:MM.a7) (H':Hp),aZ H H'->H' r=some (.tup [vn os.length,.ref tA,.ref oA])->tS H H' tA oA rr ts os->MM.Good ts os->ts.length<=40->os.length<=40->MM.FC ts os->Q (.ref r) H'
theorem SN(T:Txt K mg t):bT P w K mg base CX0 5 t.LC t.K3 ["_law_script","_law_steps","_law_most"] (W5 K):=by
 refine T.KQ.F.ok EY (λvs H Q E h=>?_) (λcdv A outer s H vs Q E hr h=>?_)
 ·obtain⟨sa,ns,steps,most,rfl,_⟩:=h;rfl
 obtain⟨sa,ns,steps,most,rfl,hS,hs0,hs1,q⟩:=h;have nd:=EY.nd;refine⟨_,(aC (aW 3 nd (bK (pU T) hr T.fW aX (aA (pv 0) (aA aG aE))))
  (aC (aW 4 nd (cC (aA (cH (aA aG (aA aG aE))) aE)))
  (aC (aW 5 nd (cC (aA (cC (aA aG aE)) (aA (cC (aA aG aE)) aE))))
  (aC (dH (bH lJ (aT dE (bK (iJ T) hr T.fQ aX (aA (pv 3) (aA aG aE))) aG) aG (bO _)) (aC (aW 4 nd (cC (aA (cH (aA aG (aA aG aE))) aE)))
  (aL (aW 5 nd (cC (aA (cC (aA aG (aA aG aE))) aE))))) bW)
  (aC (cV PassesOwn.never rfl (cX rfl T.dZ (aA (aT dE (bK (iJ T) hr T.fQ aX (aA (pv 3) (aA aG aE))) (aT c8 (pv 1) aG)) aE)) (aO (i:=6) nd rfl (Or.inl rfl)) (aL (bX (bK (PD T) hr T.FW aX (aA (pv 4) (aA (pv 5) (aA (bK (iJ T) hr T.fQ aX (aA (bK (pU T) hr T.fW aX (aA (pv 0) (aA (aT c8 aG (aT dE (pv 6) aG)) aE))) (aA (aT c8 aG (pv 6)) aE))) (aA (pv 2) aE))))))))
  (aL (bE (bK (E9 T) hr T.vK aX (aA (pv 4) (aA (pv 5) (aA (bK (pU T) hr T.fW aX (aA (pv 0) (aA aG aE))) aE))))))))))),?_⟩
 refine(dS _ rfl sa ns 0 rfl hS ⟨ by decide,λc=>?_⟩);refine⟨(by show 2<=ZW;decide),λt0 ht0=>⟨(by show 1<=ZW;decide),λta hta=>?_⟩⟩;have a1:=aI ht0 (.tup [vn 0,vn 1]);have a2:=aI hta (.lst [.ref t0]);refine⟨(by show 1<=ZW;decide),λo0 ho0=>⟨(by show 1<=ZW;decide),λo1 ho1=>⟨(by show 2<=ZW;decide),λoa hoa=>?_⟩⟩⟩;have a3:=aI ho0 (.lst [vn 0]);have a4:=aI ho1 (.lst [vn 1]);have a5:=aI hoa (.lst [.ref o0,.ref o1]);have gA:=(((a1.trans a2).trans a3).trans a4).trans a5;have n01:o0≠o1:=aH aB ho1;have n0a:oa≠o0:=(aH (a4 _ _ aB) hoa).symm;have n1a:oa≠o1:=(aH aB hoa).symm;have mA:tS H (upd (upd (upd (upd (upd H t0 (.tup [vn 0,vn 1])) ta (.lst [.ref t0])) o0 (.lst [vn 0])) o1 (.lst [vn 1])) oa (.lst [.ref o0,.ref o1])) ta oa [o0,o1] [(0,1)] [[0],[1]]:=by
  refine⟨⟨[t0],a5 _ _ (a4 _ _ (a3 _ _ aB)),rfl,λi u hu=>?_⟩,⟨aB,rfl,λi u hu=>?_,by simp[n01],by simp[n0a,n1a],?_,λx hx=>?_⟩,a1.free hta,aH (a4 _ _ (a3 _ _ aB)) hoa,λz=>?_⟩
  ·match i,hu with
   |0,hu=>cases hu;exact⟨t0,rfl,a5 _ _ (a4 _ _ (a3 _ _ (a2 _ _ aB)))⟩
   |i+1,hu=>simp at hu
  ·match i,hu with
   |0,hu=>cases hu;exact⟨o0,rfl,a5 _ _ (a4 _ _ aB)⟩
   |1,hu=>cases hu;exact⟨o1,rfl,a5 _ _ aB⟩
   |i+2,hu=>simp at hu
  ·exact((a1.trans a2).trans (a3.trans a4)).free hoa
  ·have hx':x=o0\/x=o1:=by simpa using hx
   rcases hx' with rfl | rfl
   ·exact(a1.trans a2).free ho0
   ·exact((a1.trans a2).trans a3).free ho1
  ·have hz:ta=o0\/ta=o1:=by simpa using z
   rcases hz with rfl | rfl
   ·exact aH aB ho0 rfl
   ·exact aH (a3 _ _ aB) ho1 rfl
 have gdA:=MM.good2;generalize upd (upd (upd (upd (upd H t0 (.tup [vn 0,vn 1])) ta (.lst [.ref t0])) o0 (.lst [vn 0])) o1 (.lst [vn 1])) oa (.lst [.ref o0,.ref o1])=HA at gA mA;clear a1 a2 a3 a4 a5 n01 n0a n1a ht0 hta ho0 ho1 hoa;refine(bR _ rfl c 0 rfl (by decide) (by decide) (λm0 hm0 _=>(fE _ _ rfl rfl (by show(0:Int)<4;decide) rfl ⟨ _,rfl,?_⟩)));refine kG (λcc=>?_) (λcc=>?_)
 ·refine⟨(by show 2<=ZW;decide),λt1 ht1=>⟨(by show 1<=ZW;decide),λtb htb=>?_⟩⟩;have a1:=aI ht1 (.tup [vn 0,vn 0]);have a2:=aI htb (.lst [.ref t1]);refine⟨(by show 2<=ZW;decide),λo2 ho2=>⟨(by show 1<=ZW;decide),λob hob=>?_⟩⟩;have a3:=aI ho2 (.lst [vn 0,vn 1]);have a4:=aI hob (.lst [.ref o2]);have gB:=gA.trans (((a1.trans a2).trans a3).trans a4);have mB:tS H (upd (upd (upd (upd HA t1 (.tup [vn 0,vn 0])) tb (.lst [.ref t1])) o2 (.lst [vn 0,vn 1])) ob (.lst [.ref o2])) tb ob [o2] [(0,0)] [[0,1]]:=by
   refine⟨⟨[t1],a4 _ _ (a3 _ _ aB),rfl,λi u hu=>?_⟩,⟨aB,rfl,λi u hu=>?_,by simp,by simp;exact(aH aB hob).symm,?_,λx hx=>?_⟩,gA.free (a1.free htb),aH (a3 _ _ aB) hob,λz=>?_⟩
   ·match i,hu with
    |0,hu=>cases hu;exact⟨t1,rfl,a4 _ _ (a3 _ _ (a2 _ _ aB))⟩
    |i+1,hu=>simp at hu
   ·match i,hu with
    |0,hu=>cases hu;exact⟨o2,rfl,a4 _ _ aB⟩
    |i+1,hu=>simp at hu
   ·exact gA.free ((a1.trans (a2.trans a3)).free hob)
   ·have hx':x=o2:=by simpa using hx
    subst hx';exact gA.free ((a1.trans a2).free ho2)
   ·have hz:tb=o2:=by simpa using z
    exact aH aB ho2 hz
  have gdB:=MM.UM;generalize upd (upd (upd (upd HA t1 (.tup [vn 0,vn 0])) tb (.lst [.ref t1])) o2 (.lst [vn 0,vn 1])) ob (.lst [.ref o2])=HB at gB mB;clear a1 a2 a3 a4 ht1 htb ho2 hob;refine(bR _ rfl c 1 rfl (by decide) (by decide) (λm1 hm1 _=>(bP _ rfl _ _ rfl rfl (gG _ _ rfl rfl (by show(0:Int)<steps+1;lia) (m1%(steps+1)) rfl ⟨ ?_,?_,?_⟩))))
  ·have:=Xj m1 (show steps+1≠0 by lia);lia
  ·have:=Xk m1 (show 0<steps+1 by lia);lia
  have hn:(m1%(steps+1)).toNat<=30:=by have:=Xk m1 (show 0<steps+1 by lia);lia
  refine fZ (lo:=0) (n:=(m1%(steps+1)).toNat) (λi σ H'=>∃(rr:List Addr) (ts:MM.bD) (os:MM.a7) (o6:Option V),σ=[some (.ref sa),some (.int steps),some (.int most),some (.int c),some (.ref tb),some (.ref ob),o6]/\aZ H H'/\tS H H' tb ob rr ts os/\MM.Good ts os/\ts.length<=i+1/\os.length<=i+2/\MM.FC ts os)
   (aM _ _ _ none rfl gB mB ⟨ gdB,by simp,by simp,MM.fc1⟩) ?_ ?_
  ·rintro i σ H1 hi ⟨rr,ts,os,o6,rfl,g1,hm,gd,l1,l2,fl⟩;refine(bJ _ rfl _ rfl _ rfl (bR _ rfl _ _ rfl rfl (by show(0:Int)<6;decide) ⟨ _,(lF _ rfl rfl sa ns _ rfl ⟨ g1.seq hS,by lia,λc2=>(bP _ rfl _ _ rfl rfl (a9 _ _ rfl (by lia) (by lia) (λm2 hm2 _=>⟨_,rfl,(bM H tb ob m2 most rr ts (xI os rfl g1 hm gd (by lia) (by lia) ⟨ hm2,?_⟩))⟩)))⟩)⟩));exact λH2 rr' ts' os' g' hm' gd' k1 k2 gw=>(aM rr' ts' os' _ rfl g' hm' ⟨ gd',by lia,by lia,gw.fc fl⟩)
  ·rintro σ H1 ⟨rr,ts,os,o6,rfl,g1,hm,gd,l1,l2,fl⟩;refine(bJ _ rfl _ rfl _ rfl (lZ sa ns 1 rfl (g1.seq hS) (by decide) (λc3=>(dA tb ob c3 ts os rfl hm.ts ⟨ hm.os.os,gd,by lia,by lia,?_⟩))));exact λr tA oA rr' ts' os' H2 g2 er hm2 gd2 k1 k2 k3=>q r tA oA rr' ts' os' H2 (g1.trans g2) (by rw[er,k2]) (hm2.bse g1) gd2 (by lia) (by lia) ⟨by have:=fl.flat;have:=k3.1;unfold MM.Flat at *;lia,k3.2 fl.conn⟩
 ·refine(bR _ rfl c 1 rfl (by decide) (by decide) (λm1 hm1 _=>(bP _ rfl _ _ rfl rfl (gG _ _ rfl rfl (by show(0:Int)<steps+1;lia) (m1%(steps+1)) rfl ⟨ ?_,?_,?_⟩))))
  ·have:=Xj m1 (show steps+1≠0 by lia);lia
  ·have:=Xk m1 (show 0<steps+1 by lia);lia
  have hn:(m1%(steps+1)).toNat<=30:=by have:=Xk m1 (show 0<steps+1 by lia);lia
  refine fZ (lo:=0) (n:=(m1%(steps+1)).toNat) (λi σ H'=>∃(rr:List Addr) (ts:MM.bD) (os:MM.a7) (o6:Option V),σ=[some (.ref sa),some (.int steps),some (.int most),some (.int c),some (.ref ta),some (.ref oa),o6]/\aZ H H'/\tS H H' ta oa rr ts os/\MM.Good ts os/\ts.length<=i+1/\os.length<=i+2/\MM.FC ts os)
   (aM _ _ _ none rfl gA mA ⟨ gdA,by simp,by simp,MM.fc2⟩) ?_ ?_
  ·rintro i σ H1 hi ⟨rr,ts,os,o6,rfl,g1,hm,gd,l1,l2,fl⟩;refine(bJ _ rfl _ rfl _ rfl (bR _ rfl _ _ rfl rfl (by show(0:Int)<6;decide) ⟨ _,(lF _ rfl rfl sa ns _ rfl ⟨ g1.seq hS,by lia,λc2=>(bP _ rfl _ _ rfl rfl (a9 _ _ rfl (by lia) (by lia) (λm2 hm2 _=>⟨_,rfl,(bM H ta oa m2 most rr ts (xI os rfl g1 hm gd (by lia) (by lia) ⟨ hm2,?_⟩))⟩)))⟩)⟩));exact λH2 rr' ts' os' g' hm' gd' k1 k2 gw=>(aM rr' ts' os' _ rfl g' hm' ⟨ gd',by lia,by lia,gw.fc fl⟩)
  ·rintro σ H1 ⟨rr,ts,os,o6,rfl,g1,hm,gd,l1,l2,fl⟩;refine(bJ _ rfl _ rfl _ rfl (lZ sa ns 1 rfl (g1.seq hS) (by decide) (λc3=>(dA ta oa c3 ts os rfl hm.ts ⟨ hm.os.os,gd,by lia,by lia,?_⟩))));exact λr tA oA rr' ts' os' H2 g2 er hm2 gd2 k1 k2 k3=>q r tA oA rr' ts' os' H2 (g1.trans g2) (by rw[er,k2]) (hm2.bse g1) gd2 (by lia) (by lia) ⟨by have:=fl.flat;have:=k3.1;unfold MM.Flat at *;lia,k3.2 fl.conn⟩
end K29
namespace L2
open PySem PyProof.Rows
def jI(H:Hp)(w:Addr)(n:Nat)(ts:MM.bD)(os:MM.a7):Prop:=∃tA oA:Addr,H w=some (.tup [vn n,.ref tA,.ref oA])/\hJ H tA ts/\pK H oA os
theorem aZ.web{H H':Hp}(g:aZ H H'){w:Addr}{n:Nat}{ts:MM.bD}{os:MM.a7}(h:jI H w n ts os):jI H' w n ts os:=by
 obtain⟨tA,oA,h1,h2,h3⟩:=h;exact⟨tA,oA,g _ _ h1,g.ts h2,g.os h3⟩
end L2
namespace K29
open PySem L2 PyProof.Rows
theorem sS(T:Txt K mg t):bT P w K mg base CX0 1 t.pF t.pA ["end"] OC:=by
 refine T.jB.F.ok CY (λvs H Q E h=>?_) (λcdv A outer s H vs Q E hr h=>?_)
 ·obtain⟨e,rfl,_⟩:=h;rfl
 obtain⟨e,rfl,q⟩:=h;refine⟨_,(aL (bE (aT VN (pv 0) aG))),?_⟩;refine(bP _ rfl _ _ rfl rfl ?_);have e1:Builtin.bitXor (e:Int) 1=((MM.oth e:Nat):Int):=by
  rw[PyProof.Rows.bitXor_and,PyProof.Rows.bitAnd_m1];unfold MM.oth;split<;>lia
 show Q (.int (Builtin.bitXor (e:Int) 1)) H;rw[e1];exact q
def N8:Sp:=λvs H Q _=>∃(wa:Addr) (n:Nat) (ts:MM.bD) (os:MM.a7) (e:Nat),vs=[.ref wa,vn e]/\jI H wa n ts os/\e<2*ts.length/\Q (vn (MM.place ts e)) H
theorem O9(T:Txt K mg t):bT P w K mg base CX0 1 t.zZ t.zO ["web","end"] N8:=by
 refine T.zF.F.ok EV (λvs H Q E h=>?_) (λcdv A outer s H vs Q E hr h=>?_)
 ·obtain⟨wa,n,ts,os,e,rfl,_⟩:=h;rfl
 obtain⟨wa,n,ts,os,e,rfl,⟨tA,oA,hw,ht,ho⟩,he,q⟩:=h;refine⟨_,(aL (bE (aN rL (aN rL (aN aP (pv 0) aG (λ_ _=>rfl)) (aT eG (pv 1) aG) (λ_ _=>rfl)) (aT dE (pv 1) aG) (λ_ _=>rfl)))),?_⟩;obtain⟨xs,r,h1,h2,h3,h4⟩:=ht.item (i:=e / 2) (by lia);refine(aJ _ rfl wa _ _ (.ref tA) rfl (cU rfl (SqT.of hw) rfl _ rfl (a9 _ _ rfl rfl ⟨by decide,by decide⟩ (.inl (aM tA xs _ _ rfl rfl (SqL.of h1) ⟨ (by show atI xs ((e:Int) / 2)=_;rw[show(e:Int) / 2=((e / 2:Nat):Int) by lia];exact h3),?_⟩)))));refine(bR _ rfl _ _ rfl rfl (by show(0:Int)<2;decide) (.inr (.inl (aM r _ _ _ rfl rfl (SqT.of h4) ⟨ LA e,?_⟩))));unfold MM.place at q;split
 ·rename_i h;rw[if_pos h]at q;exact q
 ·rename_i h;rw[if_neg h]at q;exact q
def U3:Sp:=λvs H Q _=>∃(wa:Addr) (n:Nat) (ts:MM.bD) (os:MM.a7) (e:Nat),vs=[.ref wa,vn e]/\jI H wa n ts os/\e<2*ts.length/\Q (vn (MM.place ts (MM.oth e))) H
theorem J7(T:Txt K mg t):bT P w K mg base CX0 2 t.CH t.BZ ["web","end"] U3:=by
 refine T.uQ.F.ok HJ (λvs H Q E h=>?_) (λcdv A outer s H vs Q E hr h=>?_)
 ·obtain⟨wa,n,ts,os,e,rfl,_⟩:=h;rfl
 obtain⟨wa,n,ts,os,e,rfl,hw,he,q⟩:=h;refine⟨_,(aL (bE (bK (O9 T) hr T.zF aX (aA (pv 0) (aA (bK (sS T) hr T.jB aX (aA (pv 1) aE)) aE))))),?_⟩;exact(bJ _ rfl _ rfl e rfl (dA wa n ts os (MM.oth e) rfl hw ⟨ MM.bG he,q⟩))
def OG:Sp:=λvs H Q _=>∃(wa:Addr) (n:Nat) (ts:MM.bD) (os:MM.a7) (e:Nat),vs=[.ref wa,vn e]/\jI H wa n ts os/\MM.Good ts os/\e<2*ts.length/\Q (vn (MM.behind ts os e)) H
theorem BK(T:Txt K mg t):bT P w K mg base CX0 3 t.GP t.F7 ["web","end"] OG:=by
 refine T.zK.F.ok BC (λvs H Q E h=>?_) (λcdv A outer s H vs Q E hr h=>?_)
 ·obtain⟨wa,n,ts,os,e,rfl,_⟩:=h;rfl
 obtain⟨wa,n,ts,os,e,rfl,hw,g,he,q⟩:=h;have nd:=BC.nd;refine⟨_,(aC (aW 2 nd (aN rL (aN aP (pv 0) aG (λ_ _=>rfl)) (bK (J7 T) hr T.uQ aX (aA (pv 0) (aA (pv 1) aE))) (λ_ _=>rfl)))
  (aL (bE (aN aQ (pv 2) (aT iI (oI PySem.F.plainAttrs_list PySem.F.slot_list_index PySem.F.type_list_index oQ (pv 2) (aA (bK (sS T) hr T.jB aX (aA (pv 1) aE)) aE)) aG) (λ_ _=>rfl))))),?_⟩
 obtain⟨tA,oA,hw1,ht,ho⟩:=id hw;have hp:=g.g.has (MM.oth e) (MM.bG he);obtain⟨xs,r,h1,h2,h3,h4⟩:=ho.item hp.1;refine(aJ _ rfl wa _ _ (.ref oA) rfl (eZ rfl (SqT.of hw1) rfl _ rfl _ rfl (dA wa n ts os e rfl hw ⟨ he,.inl (aM oA xs _ _ rfl rfl (SqL.of h1) ⟨ h3,?_⟩)⟩)));exact(rV _ rfl _ rfl (.inl ⟨rfl,_,SqL.of h4⟩) _ rfl (dS e rfl r _ _ rfl rfl (pM h4 hp.2 _ _ rfl rfl (aM r _ _ _ rfl rfl (SqL.of h4) ⟨ K9 hp.2,q⟩))))
def HD:Sp:=λvs H Q _=>∃(wa:Addr) (n:Nat) (ts:MM.bD) (os:MM.a7) (e:Nat),vs=[.ref wa,vn e]/\jI H wa n ts os/\MM.Good ts os/\ts.length<=500/\e<2*ts.length/\∀r,H r=none->Q (.ref r) (upd H r (.lst (vns (MM.aR (MM.behind ts os) e))))
theorem FA(T:Txt K mg t):bT P w K mg base CX0 4 t.vV t.vP ["web","first"] HD:=by
 refine T.vJ.F.ok sD (λvs H Q E h=>?_) (λcdv A outer s H vs Q E hr h=>?_)
 ·obtain⟨wa,n,ts,os,e,rfl,_⟩:=h;rfl
 obtain⟨wa,n,ts,os,e,rfl,hw,g,h500,he,q⟩:=h;have nd:=sD.nd;refine⟨_,(aC (aW 2 nd (cC (aA (pv 1) aE)))
  (aC (aW 3 nd (bK (BK T) hr T.zK aX (aA (pv 0) (aA (pv 1) aE))))
  (aC (iV PassesOwn.never (bH vD (pv 3) (pv 1) (bO _)) (aC (bX (lB mAp b9 (pv 2) (aA (pv 3) aE)))
  (aL (aW 3 nd (bK (BK T) hr T.zK aX (aA (pv 0) (aA (pv 3) aE)))))))
  (aL (bE (pv 2)))))),?_⟩
 have m:=g.maps;obtain⟨rd,rdN⟩:=MM.eQ m he;refine⟨_,rfl,(by show 1<=ZW;decide),λla hla=>?_⟩;have g1:=aI hla (.lst [vn e]);refine⟨_,rfl,_,(b8 rfl wa n ts os e rfl ⟨ g1.web hw,g,he,?_⟩)⟩;generalize hf:MM.behind ts os=f at m rd rdN q;refine⟨λk σ H4=>∃j,k=MM.per f e-j/\0<j/\j<=MM.per f e/\σ=[some (.ref wa),some (vn e),some (.ref la),some (vn (MM.iter f j e))]/\H4=upd H la (.lst (vns (MM.path f e j))),(fE _ 1 rfl Nat.one_pos rd.1 rfl rfl),?_⟩;rintro k σ H4 ⟨j,rfl,hj0,hj,rfl,rfl⟩;refine(rV _ rfl _ rfl rfl _ rfl ?_);by_cases hc:MM.iter f j e=e
 ·refine fU (by rw[hc];simp) ?_;have ej:j=MM.per f e:=by
   rcases Xq j (MM.per f e) with z | z
   ·exact absurd hc (rd.2.2 j hj0 z)
   ·lia
  subst ej;exact⟨_,rfl,q la hla⟩
 ·refine gC (by simp;lia) ?_;have hjp:=MM.yL rd hj0 hj hc;refine⟨_,λσ' H' h=>h,?_⟩;refine(fF _ rfl (.inl ⟨rfl,_,SqL.of aB⟩) _ rfl (bN la _ _ rfl rfl aB ?_ ?_))
  ·rw[Zq,MM.oJ];exact Ys (by lia:j<=1000) (by decide)
  have e7:vns (MM.path f e j)++[vn (MM.iter f j e)]=vns (MM.path f e (j+1)):=by rw[MM.uG,kJ];rfl
  rw[e7,hV];refine⟨_,rfl,_,(b8 rfl wa n ts os (MM.iter f j e) rfl ⟨ (aI hla _).web hw,g,MM.cP m he j,?_⟩)⟩;rw[hf];exact(EF (MM.per f e-(j+1)) (by lia) (j+1) rfl (by lia) (by lia) rfl rfl)
end K29
namespace MM
theorem FS{p:Nat->Bool}{N i:Nat}(hi:i<N)(h0:∀j,j<i->p j=false)(h1:p i=true):∃r,(List.range N).filter p=i::r:=by
 have e:N=(i+1)+(N-(i+1)):=by omega
 rw[e,List.range_add,List.range_succ,List.filter_append,List.filter_append];have e1:(List.range i).filter p=[]:=by
  rw[List.filter_eq_nil_iff];intro a ha;rw[h0 a (Zs.mp ha)];exact Bool.false_ne_true
 rw[e1,List.nil_append,List.filter_cons,if_pos h1];exact⟨_,rfl⟩
end MM
namespace K29
open PySem L2 PyProof.Rows
def RT:Sp:=λvs H Q _=>∃(wa:Addr) (n:Nat) (ts:MM.bD) (os:MM.a7),vs=[.ref wa]/\jI H wa n ts os/\MM.Good ts os/\ts.length<=500 /\
 ∀(r:Addr) (rr:List Addr) (H':Hp),aZ H H'->c7 H H' r rr (MM.bC (MM.behind ts os) (2*ts.length))->Q (.ref r) H'
theorem sT(T:Txt K mg t):bT P w K mg base CX0 5 t.LB t.K0 ["web"] RT:=by
 refine T.tD.F.ok EW (λvs H Q E h=>?_) (λcdv A outer s H vs Q E hr h=>?_)
 ·obtain⟨wa,n,ts,os,rfl,_⟩:=h;rfl
 obtain⟨wa,n,ts,os,rfl,hw,g,h500,q⟩:=h;have nd:=EW.nd;have nd_end:(["end"]:List Str).Nodup:=by decide
 refine⟨_,(aC (aW 1 nd (cC aE))
  (aC (bU (i:=2) nd rfl (Or.inl rfl)  (N':=["end"]) (js:=[none]) rfl (cX rfl T.dZ (aA (aT dO aG (a8 aU rfl T.dQ PySem.boot_len (aA (aN aP (pv 0) aG (λ_ _=>rfl)) aE))) aE)) (λ_ _ _ _ _=>(aO (i:=0) nd_end rfl (Or.inl rfl))) (λ_ _ _ _ _=>dJ) (λ_ _ _ _ _=>sP))
  (aC (cV PassesOwn.never rfl (cX rfl T.dZ (aA (aT dO aG (a8 aU rfl T.dQ PySem.boot_len (aA (aN aP (pv 0) aG (λ_ _=>rfl)) aE))) aE)) (aO (i:=3) nd rfl (Or.inl rfl)) (aL (dH (lA (fA (aN aQ (pv 2) (pv 3) (λ_ _=>rfl)) (λ_=>rfl))) (aC (aW 4 nd (bK (FA T) hr T.vJ aX (aA (pv 0) (aA (pv 3) aE))))
  (aC (cV PassesOwn.never rfl (cI (pv 4)) (aO (i:=5) nd rfl (Or.inl rfl)) (aL (hZ sP (jE (pv 2) (pv 5) set_list))))
  (aL (bX (lB mAp b9 (pv 1) (aA (pv 4) aE)))))) bW)))
  (aL (bE (pv 1)))))),?_⟩
 have m:=g.maps;obtain⟨tA,oA,hw1,ht,ho⟩:=id hw;obtain⟨tr,tr1,tr2,tr3⟩:=id ht;have eN:(2:Int)*((tr.map V.ref).length:Nat)=((2*ts.length:Nat):Int):=by rw[Zq,tr2];push_cast;rfl
 refine⟨(by show 0<=ZW;decide),λD1 hD1=>?_⟩;have g1:=aI hD1 (.lst []);refine(aJ _ rfl wa _ _ (.ref tA) rfl (cQ rfl (SqT.of (g1 _ _ hw1)) rfl tA _ rfl (.inl (SqL.of (g1 _ _ tr1))) (gG _ _ rfl rfl (.inl ⟨by decide,by decide⟩) _ rfl ⟨ ?_,?_,λD2 hD2=>?_⟩)))
 ·show -(2 ^ 62)<=(2:Int)*((tr.map V.ref).length:Nat);lia
 ·show(2:Int)*((tr.map V.ref).length:Nat)<2 ^ 62;rw[eN];lia
 have eN2:((2:Int)*((tr.map V.ref).length:Nat)).toNat=2*ts.length:=by rw[eN];exact Int.toNat_natCast _
 generalize hf:MM.behind ts os=f at m q;generalize hN:2*ts.length=N at m q eN eN2;refine comp_map N (λi ys H'=>ys=(List.replicate i false).map V.bl/\H'=upd (upd H D1 (.lst [])) D2 (.lst ys)) ⟨rfl,rfl⟩ ?_ ?_
 ·rintro i ys H' hi ⟨rfl,rfl⟩;refine⟨(by show i<((2:Int)*((tr.map V.ref).length:Nat)).toNat;lia),?_⟩;rintro x H'' ⟨rfl,rfl⟩;refine⟨(Fills.refl _).set _ rfl,aB,?_,?_,?_⟩
  ·rw[Zq,List.length_replicate];exact Yt hi (Yr (by lia:N<=1000) (by decide))
  ·rw[List.replicate_succ',Zt];rfl
  ·rw[hV]
 rintro ys H2 ⟨rfl,rfl⟩;refine⟨(by show((2:Int)*((tr.map V.ref).length:Nat)).toNat<=N;lia),?_⟩;have g2':=aI hD2 (.lst ((List.replicate N false).map V.bl));have g2:=g1.trans g2';have nD:D1≠D2:=aH aB hD2;have n0:c7 H (upd (upd H D1 (.lst [])) D2 (.lst ((List.replicate N false).map V.bl))) D1 [] []:=⟨g2' _ _ aB,rfl,λi l h=>by simp at h,List.nodup_nil,by simp,hD1,λx hx=>by cases hx⟩
 have e0:(upd (upd H D1 (.lst [])) D2 (.lst ((List.replicate N false).map V.bl))) D2=some (.lst ((List.replicate N false).map V.bl)):=aB;have hD2H:H D2=none:=g1.free hD2;generalize upd (upd H D1 (.lst [])) D2 (.lst ((List.replicate N false).map V.bl))=H2 at g2 n0 e0;clear g2' hD2 g1;refine(aJ _ rfl wa _ _ (.ref tA) rfl (cQ rfl (SqT.of (g2 _ _ hw1)) rfl tA _ rfl (.inl (SqL.of (g2 _ _ tr1))) (gG _ _ rfl rfl (.inl ⟨by decide,by decide⟩) _ rfl ⟨ ?_,?_,?_⟩)))
 ·show -(2 ^ 62)<=(2:Int)*((tr.map V.ref).length:Nat);lia
 ·show(2:Int)*((tr.map V.ref).length:Nat)<2 ^ 62;rw[eN];lia
 refine fZ (lo:=0) (n:=((2:Int)*((tr.map V.ref).length:Nat)).toNat) (λi σ H'=>∃(rr:List Addr) (done:MM.a7) (sn:List Bool) (o3 o4 o5:Option V),σ=[some (.ref wa),some (.ref D1),some (.ref D2),o3,o4,o5]/\aZ H H'/\c7 H H' D1 rr done/\D2∉rr /\
   H' D2=some (.lst (sn.map V.bl))/\sn.length=N/\done++MM.lf f ((List.range N).filter λx=>!sn.getD x false)=MM.bC f N/\∀j,j<i->sn.getD j false=true)
  (eY ([]) ([]) (List.replicate N false) none none none rfl (l9 g2 n0 (by simp) e0 (by simp) ?_ (λj hj=>absurd hj (Nat.not_lt_zero _)))) ?_ ?_
 ·have e:(List.range N).filter (λx=>!(List.replicate N false).getD x false)=List.range N:=by
   rw[List.filter_eq_self];intro a ha;have:=Zs.mp ha;simp[Zv,List.getElem?_replicate,this]
  rw[e];rfl
 ·rintro i σ H3 hi ⟨rr,done,sn,o3,o4,o5,rfl,g3,n3,dr,es,sl,eq,hs⟩;rw[eN2]at hi;have hi0:(0:Int)+(i:Int)=(i:Int):=Int.zero_add _;rw[hi0];have hat:atI (sn.map V.bl) (i:Int)=some (.bl (sn.getD i false)):=dX (by rw[Zk,Zv,Zz (show i<sn.length by lia)];rfl);refine⟨_,rfl,(aJ _ rfl D2 _ _ _ rfl (cU rfl (SqL.of es) hat _ rfl ?_))⟩;cases hb:sn.getD i false with
  |true =>
   refine fU rfl ?_;refine(eY rr done sn _ _ _ rfl (l9 g3 n3 dr es sl eq (λj hj=>?_)));rcases Xq j i with z | z
   ·exact hs j z
   ·have:j=i:=by lia
    subst this;exact hb
  |false =>
   refine gC rfl ?_;refine⟨_,rfl,_,(b8 rfl wa n ts os i rfl ⟨ g3.web hw,g,h500,by lia,λla hla=>?_⟩)⟩;rw[hf];have gl:=aI hla (.lst (vns (MM.aR f i)));have lanD1:la≠D1:=(aH n3.at_ hla).symm;have lanD2:la≠D2:=(aH es hla).symm;have lar:la∉rr:=λz=>by obtain⟨l,hl⟩:=n3.ex z;rw[hla]at hl;cases hl
   have hll:=MM.iA m hi;have lan:=MM.rK m hi;have lal:=(MM.FN m hi).2;have selfl:=MM.fM m hi;refine(dB _ rfl la rfl ⟨_,SqL.of aB⟩ (jA (xs:=vns (MM.aR f i)) (λj σ H'=>∃(sn':List Bool) (o5:Option V),σ=[some (.ref wa),some (.ref D1),some (.ref D2),some (vn i),some (.ref la),o5]/\H'=upd (upd H3 la (.lst (vns (MM.aR f i)))) D2 (.lst (sn'.map V.bl))/\sn'.length=N /\
     ∀x,sn'.getD x false=(sn.getD x false||decide (x∈(MM.aR f i).take j)))
    (a9 sn _ rfl ?_ sl (λx=>by simp)) (λj σ H' _ h=>by obtain⟨sn',o,_,rfl,_⟩:=h;exact SqL.of (by rw[aK lanD2];exact aB)) ?_ ?_))
   ·funext b
    by_cases hb':b=D2
    ·subst hb';rw[aB];exact gl _ _ es
    ·rw[aK hb']
   ·rintro j x σ H' hx ⟨sn',o,rfl,rfl,sl',hsn⟩;obtain⟨hj,ej⟩:=Zj.mp hx;rw[Zq]at hj;have ex:x=vn (MM.aR f i)[j]:=by rw[<-ej];simp
    subst ex;have hxN:=hll _ (Zp hj);refine⟨_,rfl,(aJ _ rfl D2 _ _ ((MM.aR f i)[j]) rfl (cQ rfl aB (iS (by rw[Zq];lia)) (sn'.set (MM.aR f i)[j] true) _ rfl ?_ ⟨ by rw[List.length_set];exact sl',λy=>?_⟩))⟩
    ·rw[hV,List.map_set]
    ·have hmem:y∈(MM.aR f i).take (j+1)↔y∈(MM.aR f i).take j\/y=(MM.aR f i)[j]:=by
      rw[List.take_add_one,Zz hj,Zf];simp
     by_cases hy:(MM.aR f i)[j]=y
     ·subst hy;rw[MM.lE (by lia)];simp[hmem]
     ·rw[MM.oX hy,hsn y];have:(y∈(MM.aR f i).take (j+1))=(y∈(MM.aR f i).take j):=by
       rw[eq_iff_iff,hmem];constructor
       ·rintro(z | z)
        ·exact z
        ·exact absurd z.symm hy
       ·exact .inl
      simp only[this]
   ·rintro σ H' ⟨sn',o,rfl,rfl,sl',hsn⟩;rw[Zq,Yv]at hsn;have n4:c7 H (upd (upd H3 la (.lst (vns (MM.aR f i)))) D2 (.lst (sn'.map V.bl))) D1 rr done:=n3.keep λb u hb h=>by
     rw[aK (show b≠D2 by rcases hb with rfl | hb;exact nD;rintro rfl;exact dr hb)];exact gl _ _ h
    have g4:aZ H (upd (upd H3 la (.lst (vns (MM.aR f i)))) D2 (.lst (sn'.map V.bl))):=λb u h=>by rw[aK (aH h hD2H)];exact gl _ _ (g3 _ _ h)
    have la4:(upd (upd H3 la (.lst (vns (MM.aR f i)))) D2 (.lst (sn'.map V.bl))) la=some (.lst (vns (MM.aR f i))):=by rw[aK lanD2];exact aB
    have es4:(upd (upd H3 la (.lst (vns (MM.aR f i)))) D2 (.lst (sn'.map V.bl))) D2=some (.lst (sn'.map V.bl)):=aB;generalize upd (upd H3 la (.lst (vns (MM.aR f i)))) D2 (.lst (sn'.map V.bl))=H4 at n4 g4 la4 es4;have hdl:done.length<=N:=by
     have h1:=MM.y6 m _ (List.range N) (Nat.le_refl _) (λx hx=>Zs.mp hx);have h2:=congrArg List.length eq;rw[Zm]at h2;unfold MM.bC at h2;rw[Yj]at h1
     lia
    refine(fF _ rfl (.inl ⟨rfl,_,SqL.of n4.at_⟩) _ rfl (bN D1 _ _ rfl rfl n4.at_ ?_ ?_))
    ·rw[Zq,n4.len];exact Ys (by lia:done.length<=1000) (by decide)
    have n5:=n4.push (x:=la) (l:=MM.aR f i) (H2:=upd H4 D1 (.lst (rr.map V.ref++[.ref la]))) (g3.free hla) lar lanD1 (by rw[aB,Zt];rfl) (by rw[aK lanD1];exact la4) λb u hb h=>by rw[aK (show b≠D1 from λz=>n4.nin (z▸hb))];exact h
    refine(eY (rr++[la]) (done++[MM.aR f i]) sn' _ _ _ rfl (l9 ?_ n5 ?_ ?_ sl' ?_ (λj hj=>?_)))
    ·exact λb u h=>by rw[aK (aH h hD1)];exact g4 _ _ h
    ·intro z;rcases Zf.mp z with z | z
     ·exact dr z
     ·have:D2=la:=by simpa using z
      exact lanD2 this.symm
    ·rw[aK (Ne.symm nD)];exact es4
    ·obtain⟨r,hr'⟩:=MM.FS (p:=λx=>!sn.getD x false) hi (λj hj=>by rw[hs j hj];rfl) (by rw[hb];rfl);have e2:(List.range N).filter (λx=>!sn'.getD x false)=(i::r).filter λx=>decide (x∉MM.aR f i):=by
      rw[<-hr',List.filter_filter];refine List.filter_congr λx _=>?_;rw[hsn x];by_cases z:x∈MM.aR f i<;>simp[z]
     rw[hr',MM.mX m (λx hx=>by rw[<-hr']at hx;exact Zs.mp (Yz.mp hx).1)]at eq;rw[Yd,e2];exact eq
    ·rw[hsn j];rcases Xq j i with z | z
     ·rw[hs j z];rfl
     ·have:j=i:=by lia
      subst this;simp[selfl]
 ·rintro σ H3 ⟨rr,done,sn,o3,o4,o5,rfl,g3,n3,dr,es,sl,eq,hs⟩;rw[eN2]at hs;have e:(List.range N).filter (λx=>!sn.getD x false)=[]:=by
   rw[List.filter_eq_nil_iff];intro a ha;rw[hs a (Zs.mp ha)];exact Bool.false_ne_true
  rw[e,MM.P5,List.append_nil]at eq;exact⟨_,rfl,q D1 rr H3 g3 (eq▸n3)⟩
end K29
namespace MM
theorem fD{f:Nat->Nat}{N:Nat}(m:cE f N){x:Nat}(hx:x<N):∃(k:Nat) (d:List Nat),(bC f N)[k]?=some d/\x∈d/\∀(j:Nat) (d':List Nat),(bC f N)[j]?=some d'->x∈d'->j=k :=
 y4 m _ _ (Nat.le_refl _) (λy hy=>Zs.mp hy) x (Zs.mpr hx)
end MM
namespace K29
open PySem L2 PyProof.Rows
def LP:Sp:=λvs H Q _=>∃(wa:Addr) (n:Nat) (ts:MM.bD) (os:MM.a7),vs=[.ref wa]/\jI H wa n ts os/\MM.Good ts os/\ts.length<=500 /\
 ∀(r:Addr) (nm:List Nat) (H':Hp),aZ H H'->H r=none->H' r=some (.lst (vns nm))->nm.length=2*ts.length->(∀(k:Nat) (d:List Nat) (x:Nat),(MM.bC (MM.behind ts os) (2*ts.length))[k]?=some d->x∈d->nm.getD x 0=k)->Q (.ref r) H'
theorem yW(T:Txt K mg t):bT P w K mg base CX0 6 t.pG t.pB ["web"] LP:=by
 refine T.j3.F.ok nA (λvs H Q E h=>?_) (λcdv A outer s H vs Q E hr h=>?_)
 ·obtain⟨wa,n,ts,os,rfl,_⟩:=h;rfl
 obtain⟨wa,n,ts,os,rfl,hw,g,h500,q⟩:=h;have nd:=nA.nd;have nd_end:(["end"]:List Str).Nodup:=by decide
 refine⟨_,(aC (bU (i:=1) nd rfl (Or.inl rfl)  (N':=["end"]) (js:=[none]) rfl (cX rfl T.dZ (aA (aT dO aG (a8 aU rfl T.dQ PySem.boot_len (aA (aN aP (pv 0) aG (λ_ _=>rfl)) aE))) aE)) (λ_ _ _ _ _=>(aO (i:=0) nd_end rfl (Or.inl rfl))) (λ_ _ _ _ _=>dJ) (λ_ _ _ _ _=>aG))
  (aC (cV PassesOwn.never rfl (fH rfl T.cK (aA (bK (sT T) hr T.tD aX (aA (pv 0) aE)) aE)) (eL rfl (aV (aO (i:=2) nd rfl (Or.inl rfl)) (aV (aO (i:=3) nd rfl (Or.inl rfl)) cJ))) (aL (cV PassesOwn.never rfl (cI (pv 3)) (aO (i:=4) nd rfl (Or.inl rfl)) (aL (hZ (pv 2) (jE (pv 1) (pv 4) set_list))))))
  (aL (bE (pv 1))))),?_⟩
 have m:=g.maps;obtain⟨tA,oA,hw1,ht,ho⟩:=id hw;obtain⟨tr,tr1,tr2,tr3⟩:=id ht;have eN:(2:Int)*((tr.map V.ref).length:Nat)=((2*ts.length:Nat):Int):=by rw[Zq,tr2];push_cast;rfl
 refine(aJ _ rfl wa _ _ (.ref tA) rfl (cQ rfl (SqT.of hw1) rfl tA _ rfl (.inl (SqL.of tr1)) (gG _ _ rfl rfl (.inl ⟨by decide,by decide⟩) _ rfl ⟨ ?_,?_,λD hD=>?_⟩)))
 ·show -(2 ^ 62)<=(2:Int)*((tr.map V.ref).length:Nat);lia
 ·show(2:Int)*((tr.map V.ref).length:Nat)<2 ^ 62;rw[eN];lia
 have eN2:((2:Int)*((tr.map V.ref).length:Nat)).toNat=2*ts.length:=by rw[eN];exact Int.toNat_natCast _
 generalize hf:MM.behind ts os=f at m q;generalize hN:2*ts.length=N at m q eN eN2;refine comp_map N (λi ys H'=>ys=vns (List.replicate i 0)/\H'=upd H D (.lst ys)) ⟨rfl,rfl⟩ ?_ ?_
 ·rintro i ys H' hi ⟨rfl,rfl⟩;refine⟨(by show i<((2:Int)*((tr.map V.ref).length:Nat)).toNat;lia),?_⟩;rintro x H'' ⟨rfl,rfl⟩;refine⟨(Fills.refl _).set _ rfl,aB,?_,?_,?_⟩
  ·rw[Zq,List.length_replicate];exact Yt hi (Yr (by lia:N<=1000) (by decide))
  ·rw[List.replicate_succ',kJ];rfl
  ·rw[hV]
 rintro ys H2 ⟨rfl,rfl⟩;refine⟨(by show((2:Int)*((tr.map V.ref).length:Nat)).toNat<=N;lia),?_⟩;have g2:=aI hD (.lst (vns (List.replicate N 0)));have e2:(upd H D (.lst (vns (List.replicate N 0)))) D=some (.lst (vns (List.replicate N 0))):=aB;generalize upd H D (.lst (vns (List.replicate N 0)))=H2 at g2 e2;refine(aJ _ rfl wa n ts os rfl ⟨ g2.web hw,g,h500,λr rr H3 g3 n3=>⟨r,rfl,⟨_,SqL.of n3.at_⟩,?_⟩⟩);rw[hf,hN]at n3;have rl:(rr.map V.ref).length=(MM.bC f N).length:=by rw[Zq];exact n3.len
 have rD:r≠D:=λz=>by have:=n3.new;rw[z,e2]at this;cases this
 have rrD:D∉rr:=λz=>by have:=n3.news D z;rw[e2]at this;cases this
 have hlk:∀i,i<(MM.bC f N).length->∃d x,(MM.bC f N)[i]?=some d/\rr[i]?=some x/\H3 x=some (.lst (vns d))/\(∀y∈d,y<N):=λi hi=>by
  obtain⟨x,h1,h2⟩:=n3.row i _ (Zz hi);exact(a9 _ x (Zz hi) h1 h2 ((MM.vF m (Zp hi)).2))
 refine fL (xs:=rr.map V.ref) (λi σ H'=>∃(nm:List Nat) (o2 o3 o4:Option V),σ=[some (.ref wa),some (.ref D),o2,o3,o4]/\(∀b u,b≠D->H3 b=some u->H' b=some u)/\H' D=some (.lst (vns nm))/\nm.length=N /\
   ∀(k:Nat) (d:List Nat) (x:Nat),k<i->(MM.bC f N)[k]?=some d->x∈d->nm.getD x 0=k)
  (aM _ none none none rfl (λb u _ h=>h) (g3 _ _ e2) ⟨ by simp,λk d x hk=>absurd hk (Nat.not_lt_zero _)⟩) (λi σ H' _ h=>by obtain⟨nm,o2,o3,o4,_,h1,_⟩:=h;exact SqL.of (h1 _ _ rD n3.at_)) ?_ ?_
 ·rintro i x σ H4 Tt hx ⟨nm,o2,o3,o4,rfl,b4,e4,l4,hk4⟩ hTt;have hi:i<(MM.bC f N).length:=by have:=(Zj.mp hx).1;lia
  obtain⟨d,xa,hd1,hx1,hx2,hdl⟩:=hlk i hi;have ex:x=.ref xa:=by rw[Zk,hx1]at hx;cases hx;rfl
  subst ex;have gT:=aI hTt (.tup [vn i,.ref xa]);have xaD:xa≠D:=λz=>rrD (z▸Zg hx1);refine(a9 Tt _ rfl (SqT.of aB) rfl (cF _ _ rfl _ _ rfl rfl ?_));have b5:∀b u,b≠D->H3 b=some u->(upd H4 Tt (.tup [vn i,.ref xa])) b=some u:=λb u hb h=>gT _ _ (b4 b u hb h);have e5:=gT _ _ e4;generalize upd H4 Tt (.tup [vn i,.ref xa])=H5 at b5 e5;refine(dB _ rfl xa rfl ⟨_,SqL.of (b5 _ _ xaD hx2)⟩ (jA (xs:=vns d) (λj σ H'=>∃(nm':List Nat) (o4:Option V),σ=[some (.ref wa),some (.ref D),some (vn i),some (.ref xa),o4]/\H'=upd H5 D (.lst (vns nm'))/\nm'.length=N/\∀y,nm'.getD y 0=if y∈d.take j then i else nm.getD y 0)
   (a9 nm _ rfl ?_ l4 (λy=>by simp)) (λj σ H' _ h=>by obtain⟨nm',o,_,rfl,_⟩:=h;exact SqL.of (by rw[aK xaD];exact b5 _ _ xaD hx2)) ?_ ?_))
  ·funext b
   by_cases hb':b=D
   ·subst hb';rw[aB];exact e5
   ·rw[aK hb']
  ·rintro j y σ H' hy ⟨nm',o,rfl,rfl,l',hnm⟩;obtain⟨hj,ej⟩:=Zj.mp hy;rw[Zq]at hj;have ex:y=vn d[j]:=by rw[<-ej];simp
   subst ex;have hyN:=hdl _ (Zp hj);refine(bJ _ rfl _ rfl _ rfl (aM D _ _ (d[j]) rfl rfl aB (kI (iS (by rw[Zq];lia)) (nm'.set d[j] i) _ rfl ?_ (by rw[List.length_set];exact l') (λz=>?_))))
   ·rw[hV];unfold vns;rw[List.map_set]
   ·have hmem:z∈d.take (j+1)↔z∈d.take j\/z=d[j]:=by rw[List.take_add_one,Zz hj,Zf];simp
    by_cases hz:d[j]=z
    ·subst hz;rw[MM.lE (by lia),if_pos (hmem.mpr (.inr rfl))]
    ·rw[MM.oX hz,hnm z];by_cases hz2:z∈d.take j
     ·rw[if_pos hz2,if_pos (hmem.mpr (.inl hz2))]
     ·rw[if_neg hz2,if_neg (λc=>(hmem.mp c).elim hz2 λc=>hz c.symm)]
  ·rintro σ H' ⟨nm',o,rfl,rfl,l',hnm⟩;rw[Zq,Yv]at hnm;refine(aM nm' _ _ _ rfl (λb u hb h=>by rw[aK hb];exact b5 b u hb h) aB ⟨ l',λk d' x hk hkd hx=>?_⟩);rw[hnm x];rcases Xq k i with z | z
   ·have hxd:x∉d:=λc=>by
     obtain⟨k0,d0,h1,h2,h3⟩:=MM.fD m (hdl x c);have:=h3 k d' hkd hx;have:=h3 i d hd1 c
     lia
    rw[if_neg hxd];exact hk4 k d' x z hkd hx
   ·have:k=i:=by lia
    subst this;rw[hd1]at hkd;cases hkd;rw[if_pos hx]
 ·rintro σ H4 ⟨nm,o2,o3,o4,rfl,b4,e4,l4,hk4⟩;rw[rl]at hk4;refine⟨_,rfl,q D nm H4 (λb u h=>b4 b u (aH h hD) (g3 _ _ (g2 _ _ h))) hD e4 l4 λk d x hkd hx=>hk4 k d x ?_ hkd hx⟩;exact(Zj.mp hkd).1
end K29
namespace L2
open PySem PyProof.Rows
theorem xC{rr:List Addr}{i:Nat}{x:Addr}(h:rr[i]?=some x):atI (rr.map V.ref) (i:Int)=some (.ref x):=dX (by rw[Zk,h];rfl)
end L2
namespace MM
end MM
namespace K29
open PySem L2 PyProof.Rows
noncomputable def flB(n:Nat)(ts:MM.bD)(os:MM.a7):Bool:=decide (V.int ((n:Int)+((MM.eP ts os:Nat):Int))=V.int ((ts.length:Nat)+2))
theorem QK{ts:MM.bD}{os:MM.a7}(f:MM.Flat ts os):flB os.length ts os=true:=by
 unfold flB;unfold MM.Flat at f;refine decide_eq_true ?_;congr 1
 lia
def U4:Sp:=λvs H Q _=>∃(wa:Addr) (n:Nat) (ts:MM.bD) (os:MM.a7),vs=[.ref wa]/\jI H wa n ts os/\MM.Good ts os/\ts.length<=500/\∀(H':Hp),aZ H H'->Q (.bl (flB n ts os)) H'
theorem SU(T:Txt K mg t):bT P w K mg base CX0 6 t.CG t.BY ["web"] U4:=by
 refine T.BR.F.ok HI (λvs H Q E h=>?_) (λcdv A outer s H vs Q E hr h=>?_)
 ·obtain⟨wa,n,ts,os,rfl,_⟩:=h;rfl
 obtain⟨wa,n,ts,os,rfl,hw,g,h500,q⟩:=h;obtain⟨tA,oA,h1,h2,h3⟩:=id hw;obtain⟨tr,t1,t2,t3⟩:=id h2;refine⟨_,(aL (bE (kQ lJ (aT c8 (aN rL (pv 0) aG (λ_ _=>rfl)) (a8 aU rfl T.dQ PySem.boot_len (aA (bK (sT T) hr T.tD aX (aA (pv 0) aE)) aE))) (aT c8 (a8 aU rfl T.dQ PySem.boot_len (aA (aN rL (pv 0) aG (λ_ _=>rfl)) aE)) aG) (bO _)))),?_⟩;refine⟨_,rfl,.inr (.inl (aM wa _ _ _ rfl rfl (SqT.of h1) ⟨ rfl,?_⟩))⟩;refine(aJ _ rfl wa n ts os rfl ⟨ hw,g,h500,λr rr H' g1 n1=>(gF r _ rfl (.inl (SqL.of n1.at_)) _ _ rfl ⟨ rfl,?_⟩)⟩);refine⟨_,rfl,.inr (.inl (aM wa _ _ _ rfl rfl (SqT.of (g1 _ _ h1)) ⟨ rfl,?_⟩))⟩;refine(gF tA _ rfl (.inl (SqL.of (g1 _ _ t1))) _ _ rfl ⟨ rfl,rfl,?_⟩);have:=q H' g1;unfold flB MM.eP at this;rw[<-n1.len,<-t2]at this;simpa only[Zq] using this
end K29
namespace AW
open MM
def cT(ts:bD):Ts:=ts.map λt=>((t.1:Int),(t.2:Int))
def cO(os:a7):Os:=os.map λo=>o.map λn:Nat=>(n:Int)
theorem uT(ts:bD):(cT ts).length=ts.length:=Zq _
theorem QY(os:a7):(cO os).length=os.length:=Zq _
theorem UJ{ts:bD}{e:Nat}(h:e<2*ts.length):plc (cT ts) e=(place ts e:Int):=by
 have hi:e / 2<ts.length:=by lia
 unfold plc place cT;rw[Zk,Zz hi,Zv,Zz hi];simp only[Option.map_some,Option.getD_some];split<;>rfl
theorem Y6{ts:bD}{os:a7}(g:Good ts os):InW os.length (cT ts):=λt ht=>by
 obtain⟨u,hu,rfl⟩:=Zh.mp ht;obtain⟨i,hi,rfl⟩:=Yy.mp hu;have a:=(g.g.has (2*i) (by lia)).1;have b:=(g.g.has (2*i+1) (by lia)).1;have e1:place ts (2*i)=ts[i].1:=by
  unfold place;rw[if_pos (by lia),show 2*i / 2=i by lia,Zv,Zz hi];rfl
 have e2:place ts (2*i+1)=ts[i].2:=by
  unfold place;rw[if_neg (by lia),show(2*i+1) / 2=i by lia,Zv,Zz hi];rfl
 rw[e1]at a;rw[e2]at b;exact⟨⟨by show(0:Int)<=(ts[i].1:Int);lia,by show(ts[i].1:Int)<_;lia⟩,by show(0:Int)<=(ts[i].2:Int);lia,by show(ts[i].2:Int)<_;lia⟩
theorem cast_inj:∀a b:Nat,(a:Int)=(b:Int)->a=b:=λa b h=>by lia
theorem X9{ts:bD}{os:a7}(g:Good ts os):Fit (cT ts) (cO os):=λi o ho=>by
 unfold cO at ho;rw[Zk]at ho;obtain⟨l,hl,rfl⟩:=Xz.mp ho;have er:row os i=l:=by unfold row;rw[Zv,hl];rfl
 refine⟨?_,OY (uL cast_inj (er▸g.g.nd i)) (DA _ _) λa=>?_⟩
 ·have:=g.g.four i;rw[er]at this;rw[Zq];exact this
 rw[IA,uT,Zh];constructor
 ·rintro⟨e,he,rfl⟩;have:=g.g.ends i e (er.symm▸he);exact⟨⟨by lia,by lia⟩,by rw[Int.toNat_natCast,UJ this.1,this.2]⟩
 ·rintro⟨⟨h0,h1⟩,h2⟩;obtain⟨e,rfl⟩:=Xv h0;have he:e<2*ts.length:=by lia
  rw[Int.toNat_natCast,UJ he]at h2;have hp:place ts e=i:=by lia
  have:=(g.g.has e he).2;rw[hp,er]at this;exact⟨e,this,rfl⟩
theorem BI{ts:bD}{e:Nat}(h:e<2*ts.length):∃t∈cT ts,(t.1=(place ts e:Int)/\t.2=(place ts (oth e):Int))\/(t.2=(place ts e:Int)/\t.1=(place ts (oth e):Int)):=by
 have hi:e / 2<ts.length:=by lia
 refine⟨((ts[e / 2].1:Int),(ts[e / 2].2:Int)),Zh.mpr ⟨ts[e / 2],Zp hi,rfl⟩,?_⟩;unfold place;rw[iW,sQ,Zv,Zz hi];by_cases c:e%2=0
 ·left;rw[if_pos c,if_neg (by lia)];exact⟨rfl,rfl⟩
 ·right;rw[if_neg c,if_pos (by lia)];exact⟨rfl,rfl⟩
theorem RD{ts:bD}{os:a7}(g:Good ts os)(c:kH ts os):LD os.length (cT ts):=by
 have at_:∀p,p<os.length->∃e,e<2*ts.length/\place ts e=p:=λp hp=>by
  cases hr:row os p with
  |nil=>exact absurd hr (g.g.full p hp)
  |cons e l=>exact⟨e,g.g.ends p e (by rw[hr];exact Zd)⟩
 have key:=c (λe=>Rch (cT ts) (place ts e:Int)) (λe he h=>by
  have hb:=(g.behind he).2;show Rch _ ((place ts (behind ts os e):Nat):Int);rw[hb];obtain⟨t,ht,h1 | h1⟩:=BI he
  ·exact h1.2▸Rch.fwd ht (h1.1.symm▸h)
  ·exact h1.2▸Rch.bwd ht (h1.1.symm▸h)) (λe he h=>by
  obtain⟨t,ht,h1 | h1⟩:=BI he
  ·exact h1.2▸Rch.fwd ht (h1.1.symm▸h)
  ·exact h1.2▸Rch.bwd ht (h1.1.symm▸h))
 intro p h0 h1;obtain⟨q,rfl⟩:=Xv h0;obtain⟨e,he,rfl⟩:=at_ q (by lia);obtain⟨z,hz,ez⟩:=at_ 0 (by lia);exact key z e hz he (by show Rch _ ((place ts z:Nat):Int);rw[ez];exact .zero)
theorem PX{ts:bD}{os:a7}(g:Good ts os)(c:kH ts os)(h1:os.length<=200)(h2:ts.length<=400):Q7 os.length (cT ts) (cO os):=by
 have o1:1<=os.length:=by have:=(g.g.has 0 (by have:=g.one;lia)).1;lia
 exact⟨⟨⟨by lia,by lia⟩,by rw[uT];exact g.one,by rw[uT];exact h2⟩,Y6 g,by rw[QY],X9 g,RD g c⟩
end AW
namespace K29
open PySem L2 PyProof.Rows
def mn(i j:Int):Int:=if j<i then j else i
def few(ls:List Int)(j:Nat):Int:=at0 ls j-mn (at0 ls j) (at0 ls (MM.oth j))
def rN(ls:List Int)(n:Nat):List V:=(List.range n).map λj=>.int (few ls j)
theorem FT(ls:List Int)(n:Nat):rN ls (n+1)=rN ls n++[.int (few ls n)]:=by
 unfold rN;rw[List.range_succ,Zt];rfl
theorem IP(ls:List Int)(n:Nat):(rN ls n).length=n:=by unfold rN;simp
def RO(K:PySem.W.Frag):Sp:=λvs H Q _=>∃(p c l:Addr) (n:Nat) (cs ls:List Int),vs=[.ref p]/\SqT K H p [.ref c,.ref l]/\SqL K H c (cs.map V.int)/\SqL K H l (ls.map V.int)/\ls.length=2*n/\n<=1000 /\
 ∀(r a b:Addr) (H':Hp),aZ H H'->H a=none->H b=none->a≠b->H' r=some (.tup [.ref a,.ref b])->H' a=some (.lst (cs.map V.int))->H' b=some (.lst (rN ls (2*n)))->Q (.ref r) H'
theorem O5(T:Txt K mg t)(GU:bT P w K mg base CX0 1 t.pF t.pA ["end"] OC):bT P w K mg base CX0 2 t.vT t.vN ["shape"] (RO K):=by
 refine T.vH.F.ok r9 (λvs H Q E h=>?_) (λcdv A outer s H vs Q E hr h=>?_)
 ·obtain⟨p,c,l,n,cs,ls,rfl,_⟩:=h;rfl
 obtain⟨p,c,l,n,cs,ls,rfl,hT,hC,hS,hl,hn,q⟩:=h;have nd:=r9.nd;have nd1:(["end","left","lefts"]:List Str).Nodup:=by decide
 refine⟨_,(aC (aW 1 nd (aN aP (pv 0) aG (λ_ _=>rfl)))
  (aC (bU (i:=2) nd rfl (Or.inl rfl)  (N':=["end","left","lefts"]) (js:=[none,none,some 1]) rfl (fH rfl T.cK (aA (pv 1) aE)) (λ_ _ _ _ _=>(pX (K:=K) (n:=2) rfl rfl (aV (aO (i:=0) nd1 rfl (Or.inl rfl)) (aV (aO (i:=1) nd1 rfl (Or.inl rfl)) cJ)))) (λ_ _ _ _ _=>dJ) (λ_ _ _ _ _=>(aT iI (pv 1) (a8 (M9 rfl) rfl T.T9 boot_min (aA (pv 1) (aA (aN (fK (K:=K) rfl) (pv 2) (bK GU hr T.jB aX (aA (pv 0) aE)) (λ_ _=>rfl)) aE))))))
  (aL (bE (cH (aA (gN m7 rfl T.xG boot_list (aA (aN aP (pv 0) aG (λ_ _=>rfl)) aE)) (aA (pv 2) aE))))))),?_⟩
 refine(aJ _ rfl p _ _ (.ref l) rfl ⟨ rfl,hT,rfl,?_⟩);refine(dB _ rfl l rfl ⟨_,hS⟩ (λD hD=>?_));refine comp_map (2*n) (λi ys H'=>ys=rN ls i/\H' D=some (.lst ys)/\aZ H H') ⟨rfl,aB,aI hD _⟩ ?_ ?_
 ·rintro i ys H' hi ⟨rfl,hD',g1⟩;have hS1:=g1.seq hS;refine⟨⟨_,_,hS1,gE (by lia)⟩,?_⟩;rintro x H'' ⟨T',x',rfl,hT',rfl,hx⟩;have ex:=hx _ hS1;rw[gE (by lia)]at ex;cases ex;have g2:=aI hT' (.tup [.int i,.int (at0 ls i)]);have hS2:=g2.seq hS1;refine(a9 T' _ rfl (SqT.of aB) rfl (cF _ _ rfl _ _ rfl rfl ⟨ ((Fills.refl _).set _ rfl).set _ rfl,?_⟩));refine(bJ _ rfl _ rfl _ rfl ⟨ _,rfl,(aJ i rfl l _ _ _ rfl (RC rfl hS2 (dG (j:=MM.oth i) (by rw[hl];exact MM.bG hi) rfl) _ _ rfl (gH _ _ rfl rfl (g2 _ _ hD') ?_ ?_ ⟨ aB,?_⟩)))⟩)
  ·rw[IP];exact Yt hi (Yr (by lia:2*n<=2000) (by decide))
  ·rw[FT];rfl
  ·exact λb o h=>by rw[aK (aH h hD)];exact g2 _ _ (g1 _ _ h)
 ·rintro ys H' ⟨rfl,hD',g1⟩;refine⟨⟨_,g1.seq hS,by rw[Zq];lia⟩,?_⟩;refine(aJ _ rfl p _ _ (.ref c) rfl (cQ rfl (aZ.tup g1 hT) rfl c _ rfl (.inl (g1.seq hC)) (λa ha=>?_)));refine⟨_,rfl,(by show 2<=ZW;decide),λr hr'=>?_⟩;have g2:=aI ha (.lst (cs.map V.int));have g3:=aI hr' (.tup [.ref a,.ref D]);exact q r a D _ (g1.trans (g2.trans g3)) (g1.free ha) hD (aH hD' ha).symm aB (g3 _ _ aB) (g3 _ _ (g2 _ _ hD'))
def sum2(ls:List Int)(k:Nat):Int:=at0 ls (2*k)+at0 ls (2*k+1)
def xS(ls:List Int)(n:Nat):List V:=(List.range n).map λj=>.int (sum2 ls j)
theorem G8(ls:List Int)(n:Nat):(xS ls n).length=n:=by unfold xS;simp
theorem NS{ls:List (Option Int)}{i:Nat}{x:V}(h:(vos ls)[i]?=some x):i<ls.length/\x=vo (ov ls i):=by
 have hi:i<ls.length:=by
  have:=(Zj.mp h).1;simpa using this
 rw[GK hi]at h;exact⟨hi,(Option.some.inj h).symm⟩
structure wC(H:Hp)(p wa ba sa:Addr)(ws:List Int)(bs ss:List (Option Int)):Prop where
 tp:H p=some (.tup [.ref wa,.ref ba,.ref sa])
 w:H wa=some (.lst (ws.map V.int))
 b:H ba=some (.lst (vos bs))
 s:H sa=some (.lst (vos ss))
structure WE(H:Hp)(p ca la:Addr)(cs ls:List Int):Prop where
 tp:H p=some (.tup [.ref ca,.ref la])
 c:H ca=some (.lst (cs.map V.int))
 l:H la=some (.lst (ls.map V.int))
theorem wC.mono{H H':Hp}{p wa ba sa:Addr}{ws:List Int}{bs ss:List (Option Int)}(h:wC H p wa ba sa ws bs ss)(g:aZ H H'):wC H' p wa ba sa ws bs ss:=⟨g _ _ h.tp,g _ _ h.w,g _ _ h.b,g _ _ h.s⟩
structure Fit(k:Nat)(ws:List Int)(bs ss:List (Option Int))(cs ls:List Int):Prop where
 w:ws.length=k
 b:bs.length=k
 s:ss.length=2*k
 c:cs.length=2*k
 l:ls.length=2*k
 n:k<=100
 wb:∀x∈ws,0<=x/\x<=1000
def XR(bs:List (Option Int))(ls:List Int)(k:Nat):Prop:=∀b,ov bs k=some b->sum2 ls k<=b
def XQ(ss:List (Option Int))(cs:List Int)(k:Nat):Prop:=∀c,ov ss k=some c->at0 cs k=c
def IZ(bs ss:List (Option Int))(cs ls:List Int)(n:Nat):Prop:=(∀k,k<n->XR bs ls k)/\∀k,k<2*n->XQ ss cs k
def JN(K:PySem.W.Frag):Sp:=λvs H Q _=>∃(p c l:Addr) (n:Nat) (cs ls:List Int),vs=[.ref p]/\WE H p c l cs ls/\ls.length=2*n/\n<=1000 /\
 ∀(r:Addr) H',H r=none->aZ H H'->H' r=some (.lst (xS ls n))->Q (.ref r) H'
theorem O4(T:Txt K mg t):bT P w K mg base CX0 1 t.D0 t.DP ["shape"] (JN K):=by
 refine T.KN.F.ok ES (λvs H Q E h=>?_) (λcdv A outer s H vs Q E hr h=>?_)
 ·obtain⟨p,c,l,n,cs,ls,rfl,_⟩:=h;rfl
 obtain⟨p,c,l,n,cs,ls,rfl,hT,hl,hn,q⟩:=h;have nd:=ES.nd;have nd_first_lefts:(["first","lefts"]:List Str).Nodup:=by decide
 refine⟨_,(aC (aW 1 nd (aN aP (pv 0) aG (λ_ _=>rfl)))
  (aL (bE (gK (N':=["first","lefts"]) (js:=[none,some 1]) rfl (L5 rfl T.dZ (aA aG (aA (a8 aU rfl T.dQ PySem.boot_len (aA (pv 1) aE)) (aA aG aE)))) (λ_ _ _ _ _=>(aO (i:=0) nd_first_lefts rfl (Or.inl rfl))) (λ_ _ _ _ _=>dJ) (λ_ _ _ _ _=>(aT c8 (aN (fK (K:=K) rfl) (pv 1) (pv 0) (λ_ _=>rfl)) (aN (fK (K:=K) rfl) (pv 1) (aT c8 (pv 0) aG) (λ_ _=>rfl)))))))),?_⟩
 refine(aJ _ rfl p _ _ (.ref l) rfl ⟨ rfl,SqT.of hT.tp,rfl,?_⟩);refine(bP _ rfl l _ rfl (.inl (SqL.of hT.l)) ⟨ n,by rw[Zq,hl];push_cast;rfl,by lia,λD hD=>?_⟩);refine dP n (λj=>.int (sum2 ls j)) hD (by lia) (λi H' hi _=>hi) (λH' _=>Nat.le_refl _) ?_ ?_
 ·rintro i H' x H'' k hi g1 ⟨rfl,rfl⟩ hk;have hS':SqL K H'' l (ls.map V.int):=SqL.of (g1 _ _ hT.l);refine⟨(Fills.refl _).set _ rfl,?_⟩;refine⟨_,rfl,(aJ _ rfl l _ _ _ rfl (eZ rfl hS' (dG (j:=2*i) (by lia) (by lia)) _ rfl _ rfl ⟨ _,_,(dD rfl rfl l _ _ _ rfl (cQ rfl hS' (dG (j:=2*i+1) (by lia) (by lia)) _ _ rfl rfl (hk _ (aZ.refl _))))⟩))⟩
 ·intro H' g1 e;exact q D H' hD g1 e
def B0(ws ls:List Int)(n:Nat):List Int:=(List.range n).map λk=>sum2 ls k*at0 ws k
def costOf(ws ls:List Int)(n:Nat):Int:=(B0 ws ls n).sum
theorem TV(ws ls:List Int)(n:Nat):(List.range n).map (λk=>V.int (sum2 ls k*at0 ws k))=(B0 ws ls n).map V.int:=by unfold B0;rw[Yh];rfl
def U5:Sp:=λvs H Q _=>∃(p wa ba sa p2 ca la:Addr) (n:Nat) (ws:List Int) (bs ss:List (Option Int)) (cs ls:List Int),vs=[.ref p,.ref p2]/\wC H p wa ba sa ws bs ss/\WE H p2 ca la cs ls/\Fit n ws bs ss cs ls /\
 ∀H',aZ H H'->Q (.int (costOf ws ls n)) H'
theorem SV(T:Txt K mg t)(T4:bT P w K mg base CX0 1 t.D0 t.DP ["shape"] (JN K)):bT P w K mg base CX0 2 t.Q4 t.QS ["wishes","shape"] U5:=by
 refine T.QO.F.ok JZ (λvs H Q E h=>?_) (λcdv A outer s H vs Q E hr h=>?_)
 ·obtain⟨p,wa,ba,sa,p2,ca,la,n,ws,bs,ss,cs,ls,rfl,_⟩:=h;rfl
 obtain⟨p,wa,ba,sa,p2,ca,la,n,ws,bs,ss,cs,ls,rfl,hW,hT,hF,q⟩:=h;have nd:=JZ.nd;have hn:=hF.n;have hw:=hF.w;have nd_many_weight:(["many","weight"]:List Str).Nodup:=by decide
 refine⟨_,(aL (bE (a8 (B2 rfl) rfl T.T8 boot_sum (aA (gK (N':=["many","weight"]) (js:=[none,none]) rfl (HR rfl T.NI (aA (bK T4 hr T.KN aX (aA (pv 1) aE)) (aA (aN aP (pv 0) aG (λ_ _=>rfl)) aE))) (λ_ _ _ _ _=>(pX (K:=K) (n:=2) rfl rfl (aV (aO (i:=0) nd_many_weight rfl (Or.inl rfl)) (aV (aO (i:=1) nd_many_weight rfl (Or.inl rfl)) cJ)))) (λ_ _ _ _ _=>dJ) (λ_ _ _ _ _=>(aT dO (pv 0) (pv 1)))) aE)))),?_⟩;refine⟨_,rfl,(eY p2 ca la n cs ls rfl ⟨ hT,hF.l,by lia,λr H1 hr0 g1 e1=>?_⟩)⟩;refine(aJ _ rfl p _ _ _ rfl ⟨ rfl,(dD (SqT.of (g1 _ _ hW.tp)) rfl r wa _ _ rfl ⟨ e1,g1 _ _ hW.w,λD hD=>?_⟩)⟩);have lw:∀{i:Nat},i<n->(ws.map V.int)[i]?=some (.int (at0 ws i)):=λhi=>gE (by lia);have lr:∀{i:Nat},i<n->(xS ls n)[i]?=some (.int (sum2 ls i)):=λhi=>by unfold xS;rw[Zk,Yk hi];rfl
 refine dP n (λk=>.int (sum2 ls k*at0 ws k)) hD (by lia) (λi H' hi g2=>(aM _ _ _ _ (g2 _ _ e1) (g2 _ _ (g1 _ _ hW.w)) (lr hi) (lw hi))) (λH' g2=>⟨_,_,g2 _ _ e1,g2 _ _ (g1 _ _ hW.w),.inl (by rw[G8];exact Nat.le_refl _)⟩) ?_ ?_
 ·rintro i H' x H'' k hi g2 ⟨Tp,x',y',rfl,hTp,rfl,y1,y2⟩ hk;have ex:=y1 _ (g2 _ _ e1);rw[lr hi]at ex;cases ex;have ey:=y2 _ (g2 _ _ (g1 _ _ hW.w));rw[lw hi]at ey;cases ey;have hb:=hF.wb _ (xE (ls:=ws) (j:=i) (by lia));refine(a9 Tp _ rfl (SqT.of aB) rfl (cF _ _ rfl _ _ rfl rfl ⟨ ((Fills.refl _).set _ rfl).set _ rfl,?_⟩));exact(cL _ rfl _ rfl _ _ rfl ⟨ rfl,.inr ⟨by lia,by lia⟩,hk _ (aI hTp _)⟩)
 ·intro H' g2 e;rw[TV]at e;exact⟨D,_,rfl,SqL.of e,q _ (g1.trans g2)⟩
end K29
namespace L2
open PySem PyProof.Rows NM
theorem A2{H:Hp}{wa:Addr}{ws:List Way}{rs:List Addr}(e1:H wa=some (.lst (rs.map V.ref)))(e2:rs.length=ws.length)(e3:∀(i:Nat) w,ws[i]?=some w->∃r,rs[i]?=some r/\H r=some (.tup (wv w))){r:Addr}{w:Way}(er:H r=some (.tup (wv w))) :
  iO (upd H wa (.lst (rs.map V.ref++[.ref r]))) wa (ws++[w]):=by
 refine⟨rs++[r],by rw[aB,Zt];rfl,by simp[e2],λj x hx=>?_⟩;by_cases hj:j<ws.length
 ·rw[Zx hj]at hx;obtain⟨r',q1,q2⟩:=e3 j x hx;exact⟨r',by rw[Zx (by lia)];exact q1,by rw[aK (dI q2 e1 (λz=>nomatch z))];exact q2⟩
 ·have hj2:j=ws.length:=by
   have:=(Zj.mp hx).1;simp at this;lia
  subst hj2;simp at hx;subst hx;exact⟨r,by rw[<-e2];simp,by rw[aK (dI er e1 (λz=>nomatch z))];exact er⟩
theorem NR{H:Hp}{ws1 ws2:List Way}{rs1 rs2:List Addr}(e2:rs1.length=ws1.length)(e3:∀(i:Nat) w,ws1[i]?=some w->∃r,rs1[i]?=some r/\H r=some (.tup (wv w)))
  (f2:rs2.length=ws2.length) (f3:∀(i:Nat) w,ws2[i]?=some w->∃r,rs2[i]?=some r/\H r=some (.tup (wv w))) {p:Addr}(hp:H p=none) :
  iO (upd H p (.lst (rs1.map V.ref++rs2.map V.ref))) p (ws1++ws2):=by
 have g:=aI hp (.lst (rs1.map V.ref++rs2.map V.ref));refine⟨rs1++rs2,by rw[aB,Zt],by simp[e2,f2],λj x hx=>?_⟩;by_cases hj:j<ws1.length
 ·rw[Zx hj]at hx;obtain⟨r',q1,q2⟩:=e3 j x hx;exact⟨r',by rw[Zx (by lia)];exact q1,g _ _ q2⟩
 ·rw[Zy (by lia)]at hx;obtain⟨r',q1,q2⟩:=f3 _ x hx;exact⟨r',by rw[Zy (by lia),e2];exact q1,g _ _ q2⟩
theorem jI.mono{H H':Hp}{w:Addr}{n:Nat}{ts:MM.bD}{os:MM.a7}(h:jI H w n ts os)(g:aZ H H'):jI H' w n ts os:=g.web h
end L2
namespace K29
open PySem L2 PyProof.Rows NM
noncomputable abbrev LL(ts:MM.bD)(os:MM.a7):List (List Nat):=MM.bC (MM.behind ts os) (2*ts.length)
structure jD(ts:MM.bD)(os:MM.a7)(nm:List Nat):Prop where
 len:nm.length=2*ts.length
 at_:∀(k:Nat) (d:List Nat) (x:Nat),(LL ts os)[k]?=some d->x∈d->nm.getD x 0=k
theorem jD.uniq{ts:MM.bD}{os:MM.a7}{nm nm':List Nat}(g:MM.Good ts os)(h:jD ts os nm)(h':jD ts os nm'):nm=nm':=by
 have h1:=h.len;have h2:=h'.len;apply Yp;intro i;by_cases hi:i<2*ts.length
 ·obtain⟨k,d,q1,q2,_⟩:=MM.fD g.maps hi;have e1:=h.at_ k d i q1 q2;have e2:=h'.at_ k d i q1 q2;have a1:i<nm.length:=by lia
  have a2:i<nm'.length:=by lia
  simp only[List.getD,Zz a1,Zz a2,Option.getD_some]at e1 e2;rw[Zz a1,Zz a2,e1,e2]
 ·rw[Zr (by lia),Zr (by lia)]
def fR(n:Nat)(ts:MM.bD)(nm:List Nat)(ss:List (Option Int))(e:Nat):Way:=⟨MM.place ts (MM.oth e),n+nm.getD e 0,(ov ss e).getD 1,some ((ov ss e).getD 4),0⟩
def oT(n:Nat)(nm:List Nat)(ws:List Int)(bs:List (Option Int))(e:Nat):Way:=⟨n+nm.getD e 0,n+nm.getD (MM.oth e) 0,0,ov bs (e / 2),at0 ws (e / 2)⟩
def cD(n:Nat)(ts:MM.bD)(nm:List Nat)(ws:List Int)(bs ss:List (Option Int)):List Way:=(List.range (2*ts.length)).map (fR n ts nm ss)++(List.range (2*ts.length)).map (oT n nm ws bs)
def lC(ll:List (List Nat))(outer k:Nat):Int:=(if k=outer then -4 else 4)-2*((ll.getD k []).length:Int)
def cS(n:Nat)(ll:List (List Nat))(outer:Nat):List Int:=List.replicate n 4++(List.range ll.length).map (lC ll outer)
theorem qZ{α:Type}(f:Nat->α)(i:Nat):(List.range (i+1)).map f=(List.range i).map f++[f i]:=by rw[List.range_succ,Zt];rfl
def OF:Sp:=λvs H Q _=>∃(wa sa:Addr) (n:Nat) (ts:MM.bD) (os:MM.a7) (ss:List (Option Int)),vs=[.ref wa,.ref sa]/\jI H wa n ts os/\MM.Good ts os/\ts.length<=40/\H sa=some (.lst (vos ss))/\ss.length=2*ts.length /\
 ∀(r:Addr) (nm:List Nat) (H':Hp),aZ H H'->H r=none->jD ts os nm->iO H' r ((List.range (2*ts.length)).map (fR n ts nm ss))->Q (.ref r) H'
theorem MI(T:Txt K mg t):bT P w K mg base CX0 7 t.qL t.qG ["web","sets"] OF:=by
 refine T.qC.F.ok nQ (λvs H Q E h=>?_) (λcdv A outer s H vs Q E hr h=>?_)
 ·obtain⟨wa,sa,n,ts,os,ss,rfl,_⟩:=h;rfl
 obtain⟨wa,sa,n,ts,os,ss,rfl,hWeb,g,h40,hS,hsl,q⟩:=h;have nd:=nQ.nd;refine⟨_,(aC (aW 2 nd (cC aE))
  (aC (cV PassesOwn.never rfl (fH rfl T.cK (aA (bK (yW T) hr T.j3 aX (aA (pv 0) aE)) aE)) (eL rfl (aV (aO (i:=3) nd rfl (Or.inl rfl)) (aV (aO (i:=4) nd rfl (Or.inl rfl)) cJ))) (aC (aW 5 nd (oH (bH oK (aN aQ (pv 1) (pv 3) (λ_ _=>rfl)) fI (bO _)) aG (aN aQ (pv 1) (pv 3) (λ_ _=>rfl))))
  (aC (aW 6 nd (oH (bH oK (aN aQ (pv 1) (pv 3) (λ_ _=>rfl)) fI (bO _)) (mQ (v:=.int 4) rfl T.cZ ⟨_,rfl⟩) (aN aQ (pv 1) (pv 3) (λ_ _=>rfl))))
  (aL (bX (lB mAp b9 (pv 2) (aA (cH (aA (bK (J7 T) hr T.uQ aX (aA (pv 0) (aA (pv 3) aE))) (aA (aT c8 (aN aP (pv 0) aG (λ_ _=>rfl)) (pv 4)) (aA (pv 5) (aA (pv 6) (aA aG aE)))))) aE)))))))
  (aL (bE (pv 2))))),?_⟩
 refine⟨(by show 0<=ZW;decide),λwl hwl=>?_⟩;have g0:=aI hwl (.lst []);refine(aJ _ rfl wa n ts os rfl ⟨ hWeb.mono g0,g,by lia,λr nm H1 g1 hr0 er hnl hnm=>?_⟩);have num:jD ts os nm:=⟨hnl,hnm⟩
 have nrl:r≠wl:=(aH aB hr0).symm;have w1:H1 wl=some (.lst []):=g1 _ _ aB;refine⟨r,rfl,⟨_,SqL.of er⟩,fL (xs:=vns nm)
  (λi σ H'=>iO H' wl ((List.range i).map (fR n ts nm ss))/\aZ H H'/\H' r=some (.lst (vns nm))/\∃o3 o4 o5 o6:Option V,σ=[some (.ref wa),some (.ref sa),some (.ref wl),o3,o4,o5,o6])
  ⟨⟨[],w1,rfl,λi w h=>by simp at h⟩,g0.trans g1,er,_,_,_,_,rfl⟩ (λi σ H' _ h=>SqL.of h.2.2.1) ?_ ?_⟩
 ·rintro i x σ H2 Tp hx ⟨⟨rs,e1,e2,e3⟩,g2,er2,o3,o4,o5,o6,rfl⟩ hTp;obtain⟨hi,rfl⟩:=NT hx;have hi':i<2*ts.length:=by lia
  have g3:=aI hTp (.tup [vn i,vn (nm.getD i 0)]);have g23:=g2.trans g3;have e1':=g3 _ _ e1;have eS:=g23 _ _ hS;have hWeb3:=hWeb.mono g23;obtain⟨tA,oA,hw,_,_⟩:=id hWeb3;refine(a9 Tp _ rfl (SqT.of aB) rfl (cF _ _ rfl _ _ rfl rfl ?_));have fin:∀(lo hi:Int),lo=(ov ss i).getD 1->hi=(ov ss i).getD 4->∀(p:Addr),(upd H2 Tp (.tup [vn i,vn (nm.getD i 0)])) p=none ->
    iO (upd (upd (upd H2 Tp (.tup [vn i,vn (nm.getD i 0)])) p (.tup [vn (MM.place ts (MM.oth i)),.int ((n:Int)+((nm.getD i 0:Nat):Int)),.int lo,.int hi,.int 0])) wl (.lst (rs.map V.ref++[.ref p]))) wl ((List.range (i+1)).map (fR n ts nm ss)) /\
    aZ H (upd (upd (upd H2 Tp (.tup [vn i,vn (nm.getD i 0)])) p (.tup [vn (MM.place ts (MM.oth i)),.int ((n:Int)+((nm.getD i 0:Nat):Int)),.int lo,.int hi,.int 0])) wl (.lst (rs.map V.ref++[.ref p]))) /\
    (upd (upd (upd H2 Tp (.tup [vn i,vn (nm.getD i 0)])) p (.tup [vn (MM.place ts (MM.oth i)),.int ((n:Int)+((nm.getD i 0:Nat):Int)),.int lo,.int hi,.int 0])) wl (.lst (rs.map V.ref++[.ref p]))) r=some (.lst (vns nm)):=by
   intro lo hi hlo hhi p hp;have g4:=aI hp (.tup [vn (MM.place ts (MM.oth i)),.int ((n:Int)+((nm.getD i 0:Nat):Int)),.int lo,.int hi,.int 0]);refine⟨?_,λb o h=>by rw[aK (aH h hwl)];exact g4 _ _ (g23 _ _ h),by rw[aK nrl];exact g4 _ _ (g3 _ _ er2)⟩;rw[qZ];refine A2 (g4 _ _ e1') e2 (λj w hj=>by obtain⟨r',q1,q2⟩:=e3 j w hj;exact⟨r',q1,g4 _ _ (g3 _ _ q2)⟩) ?_;rw[aB];unfold wv fR;rw[<-hlo,<-hhi];simp only[vo,vn,Int.natCast_add]
  rcases ho:ov ss i with _ | c
  ·have eC:atI (vos ss) ((i:Nat):Int)=some .non:=by rw[DZ (j:=i) (by lia) rfl,ho];rfl
   refine⟨_,rfl,(aJ _ rfl sa _ _ _ rfl (bQ rfl (SqL.of eS) eC rfl _ rfl (gC (by rfl) ?_)))⟩;refine⟨_,rfl,(aJ _ rfl sa _ _ _ rfl (bQ rfl (SqL.of eS) eC rfl _ rfl (gC (by rfl) ?_)))⟩;refine(jS _ rfl (.inl ⟨rfl,_,SqL.of e1'⟩) _ rfl _ rfl (dA wa n ts os i rfl hWeb3 ⟨ hi',(aJ _ rfl wa _ _ _ rfl (cU rfl (SqT.of hw) rfl _ rfl (l8 _ _ rfl rfl _ rfl ⟨ _,rfl,(by show 5<=ZW;decide),λp hp=>?_⟩)))⟩));obtain⟨f1,f2,f3⟩:=fin 1 4 (by rw[ho];rfl) (by rw[ho];rfl) p hp;exact(bN wl _ _ rfl rfl (aI hp _ _ _ e1') (by rw[Zq,e2];simp;exact Yt hi' (Yr (by lia:2*ts.length<=80) (by decide))) ⟨ f1,f2,f3,_,_,_,_,rfl⟩)
  ·have eC:atI (vos ss) ((i:Nat):Int)=some (.int c):=by rw[DZ (j:=i) (by lia) rfl,ho];rfl
   refine⟨_,rfl,(aJ _ rfl sa _ _ _ rfl (bQ rfl (SqL.of eS) eC rfl _ rfl (fU (by rfl) ⟨_,rfl,(aJ _ rfl sa _ _ _ rfl ⟨ rfl,SqL.of eS,eC,?_⟩)⟩)))⟩;refine⟨_,rfl,(aJ _ rfl sa _ _ _ rfl (bQ rfl (SqL.of eS) eC rfl _ rfl (fU (by rfl) ⟨_,rfl,(aJ _ rfl sa _ _ _ rfl ⟨ rfl,SqL.of eS,eC,?_⟩)⟩)))⟩;refine(jS _ rfl (.inl ⟨rfl,_,SqL.of e1'⟩) _ rfl _ rfl (dA wa n ts os i rfl hWeb3 ⟨ hi',(aJ _ rfl wa _ _ _ rfl (cU rfl (SqT.of hw) rfl _ rfl (l8 _ _ rfl rfl _ rfl ⟨ _,rfl,(by show 5<=ZW;decide),λp hp=>?_⟩)))⟩));obtain⟨f1,f2,f3⟩:=fin c c (by rw[ho];rfl) (by rw[ho];rfl) p hp;exact(bN wl _ _ rfl rfl (aI hp _ _ _ e1') (by rw[Zq,e2];simp;exact Yt hi' (Yr (by lia:2*ts.length<=80) (by decide))) ⟨ f1,f2,f3,_,_,_,_,rfl⟩)
 ·rintro σ H2 ⟨hw2,g2,er2,o3,o4,o5,o6,rfl⟩;rw[Zq,hnl]at hw2;exact⟨_,rfl,q wl nm H2 g2 hwl num hw2⟩
def U1:Sp:=λvs H Q _=>∃(wa p wA bA sA:Addr) (n:Nat) (ts:MM.bD) (os:MM.a7) (ws:List Int) (bs ss:List (Option Int)),vs=[.ref wa,.ref p]/\jI H wa n ts os/\MM.Good ts os/\ts.length<=40/\wC H p wA bA sA ws bs ss/\ws.length=ts.length/\bs.length=ts.length /\
 ∀(r:Addr) (nm:List Nat) (H':Hp),aZ H H'->H r=none->jD ts os nm->iO H' r ((List.range (2*ts.length)).map (oT n nm ws bs))->Q (.ref r) H'
theorem SQ(T:Txt K mg t):bT P w K mg base CX0 7 t.vU t.vO ["web","wishes"] U1:=by
 refine T.vI.F.ok sC (λvs H Q E h=>?_) (λcdv A outer s H vs Q E hr h=>?_)
 ·obtain⟨wa,p,wA,bA,sA,n,ts,os,ws,bs,ss,rfl,_⟩:=h;rfl
 obtain⟨wa,p,wA,bA,sA,n,ts,os,ws,bs,ss,rfl,hWeb,g,h40,hW,hwl',hbl,q⟩:=h;have nd:=sC.nd;refine⟨_,(aC (aW 2 nd (aN aP (pv 1) aG (λ_ _=>rfl)))
  (aC (aW 3 nd (aN aP (pv 1) aG (λ_ _=>rfl)))
  (aC (aW 4 nd (bK (yW T) hr T.j3 aX (aA (pv 0) aE)))
  (aC (aW 5 nd (cC aE))
  (aC (cV PassesOwn.never rfl (fH rfl T.cK (aA (pv 4) aE)) (eL rfl (aV (aO (i:=6) nd rfl (Or.inl rfl)) (aV (aO (i:=7) nd rfl (Or.inl rfl)) cJ))) (aC (aW 8 nd (aN aQ (pv 4) (bK (sS T) hr T.jB aX (aA (pv 6) aE)) (λ_ _=>rfl)))
  (aL (bX (lB mAp b9 (pv 5) (aA (cH (aA (aT c8 (aN aP (pv 0) aG (λ_ _=>rfl)) (pv 7)) (aA (aT c8 (aN aP (pv 0) aG (λ_ _=>rfl)) (pv 8)) (aA aG (aA (aN aQ (pv 3) (aT eG (pv 6) aG) (λ_ _=>rfl)) (aA (aN aQ (pv 2) (aT eG (pv 6) aG) (λ_ _=>rfl)) aE)))))) aE))))))
  (aL (bE (pv 5)))))))),?_⟩
 refine(aJ _ rfl p _ _ _ rfl ⟨ rfl,SqT.of hW.tp,rfl,?_⟩);refine(aJ _ rfl p _ _ _ rfl ⟨ rfl,SqT.of hW.tp,rfl,?_⟩);refine(aJ _ rfl wa n ts os rfl ⟨ hWeb,g,by lia,λr nm H1 g1 hr0 er hnl hnm=>?_⟩);have num:jD ts os nm:=⟨hnl,hnm⟩
 refine⟨(by show 0<=ZW;decide),λwl hwl=>?_⟩;have g0:=g1.trans (aI hwl (.lst []));have er1:=aI hwl (.lst []) _ _ er;have nrl:r≠wl:=aH er hwl;have hwl0:H wl=none:=g1.free hwl;refine(dB _ rfl r rfl ⟨_,SqL.of er1⟩ (fL (xs:=vns nm)
  (λi σ H'=>iO H' wl ((List.range i).map (oT n nm ws bs))/\aZ H H'/\H' r=some (.lst (vns nm))/\∃o6 o7 o8:Option V,σ=[some (.ref wa),some (.ref p),some (.ref wA),some (.ref bA),some (.ref r),some (.ref wl),o6,o7,o8])
  ⟨⟨[],aB,rfl,λi w h=>by simp at h⟩,g0,er1,_,_,_,rfl⟩ (λi σ H' _ h=>SqL.of h.2.2.1) ?_ ?_))
 ·rintro i x σ H2 Tp hx ⟨⟨rs,e1,e2,e3⟩,g2,er2,o6,o7,o8,rfl⟩ hTp;obtain⟨hi,rfl⟩:=NT hx;have hi':i<2*ts.length:=by lia
  have ho':MM.oth i<2*ts.length:=MM.bG hi';have g3:=aI hTp (.tup [vn i,vn (nm.getD i 0)]);have g23:=g2.trans g3;have e1':=g3 _ _ e1;have er3:=g3 _ _ er2;have hW3:=hW.mono g23;obtain⟨tA,oA,hw,_,_⟩:=id (hWeb.mono g23);have ei2:((i:Nat):Int) / 2=((i / 2:Nat):Int):=by lia
  refine(a9 Tp _ rfl (SqT.of aB) rfl (cF _ _ rfl _ _ rfl rfl ?_));refine(bJ _ rfl _ rfl i rfl (aM r _ _ _ rfl rfl (SqL.of er3) ⟨ jF (j:=MM.oth i) (by lia) rfl,?_⟩));refine(fF _ rfl (.inl ⟨rfl,_,SqL.of e1'⟩) _ rfl (aM wa _ _ _ rfl rfl (SqT.of hw) (xM rfl _ rfl _ _ rfl rfl (aJ _ rfl wa _ _ _ rfl (cU rfl (SqT.of hw) rfl _ rfl (l8 _ _ rfl rfl _ rfl (bR _ rfl _ _ rfl rfl ⟨by decide,by decide⟩ (aM bA _ _ _ rfl rfl (SqL.of hW3.b) (GY (DZ (j:=i / 2) (by lia) ei2) _ rfl _ rfl (a9 _ _ rfl rfl ⟨by decide,by decide⟩ (aM wA _ _ _ rfl rfl (SqL.of hW3.w) ⟨ dG (j:=i / 2) (by lia) ei2,(by show 5<=ZW;decide),λpp hpp=>?_⟩)))))))))));have g4:=aI hpp (.tup [.int ((n:Int)+((nm.getD i 0:Nat):Int)),.int ((n:Int)+((nm.getD (MM.oth i) 0:Nat):Int)),.int 0,vo (ov bs (i / 2)),.int (at0 ws (i / 2))]);refine(bN wl _ _ rfl rfl (g4 _ _ e1') (by rw[Zq,e2];simp;exact Yt hi' (Yr (by lia:2*ts.length<=80) (by decide))) ⟨ ?_,λb o h=>by rw[aK (aH h hwl0)];exact g4 _ _ (g23 _ _ h),by rw[aK nrl];exact g4 _ _ er3,_,_,_,rfl⟩);rw[qZ];refine A2 (g4 _ _ e1') e2 (λj w hj=>by obtain⟨r',q1,q2⟩:=e3 j w hj;exact⟨r',q1,g4 _ _ (g3 _ _ q2)⟩) ?_;rw[aB];unfold wv oT;simp only[vn,Int.natCast_add]
 ·rintro σ H2 ⟨hw2,g2,er2,o6,o7,o8,rfl⟩;rw[Zq,hnl]at hw2;exact⟨_,rfl,q wl nm H2 g2 hwl0 num hw2⟩
def N7:Sp:=λvs H Q _=>∃(k o:Nat),vs=[vn k,vn o]/\Q (.int (if k=o then -4 else 4)) H
theorem MF(T:Txt K mg t):bT P w K mg base CX0 1 t.tO t.tH ["number","outer"] N7:=by
 refine T.sY.F.ok AM (λvs H Q E h=>?_) (λcdv A outer s H vs Q E hr h=>?_)
 ·obtain⟨k,o,rfl,_⟩:=h;rfl
 obtain⟨k,o,rfl,q⟩:=h;refine⟨_,(aL (bE (oH (bH lJ (pv 0) (pv 1) (bO _)) (sO mC (mQ (v:=.int 4) rfl T.cZ ⟨_,rfl⟩)) (mQ (v:=.int 4) rfl T.cZ ⟨_,rfl⟩)))),?_⟩;refine(rV _ rfl _ rfl rfl _ rfl (kG (λc=>?_) (λc=>?_)))
 ·have:k=o:=by
   have c':V.int (k:Int)=V.int (o:Int):=of_decide_eq_true c;have:=V.int.inj c'
   lia
  rw[if_pos this]at q;exact⟨_,rfl,q⟩
 ·have:¬k=o:=λz=>c (by subst z;exact decide_eq_true rfl);rw[if_neg this]at q;exact q
def RQ:Sp:=λvs H Q _=>∃(wa p wA bA sA:Addr) (n o:Nat) (ts:MM.bD) (os:MM.a7) (ws:List Int) (bs ss:List (Option Int)),vs=[.ref wa,vn o,.ref p]/\jI H wa n ts os/\MM.Good ts os/\ts.length<=40/\n<=40/\o<(LL ts os).length/\wC H p wA bA sA ws bs ss/\ws.length=ts.length/\bs.length=ts.length/\ss.length=2*ts.length /\
 ∀(r na wl:Addr) (nm:List Nat) (H':Hp),aZ H H'->H na=none->H wl=none->na≠wl->jD ts os nm->lY H' r na wl (cS n (LL ts os) o) (cD n ts nm ws bs ss)->Q (.ref r) H'
theorem PB(T:Txt K mg t):bT P w K mg base CX0 8 t.GM t.F0 ["web","outer","wishes"] RQ:=by
 refine T.FV.F.ok A8 (λvs H Q E h=>?_) (λcdv A outer s H vs Q E hr h=>?_)
 ·obtain⟨wa,p,wA,bA,sA,n,o,ts,os,ws,bs,ss,rfl,_⟩:=h;rfl
 obtain⟨wa,p,wA,bA,sA,n,o,ts,os,ws,bs,ss,rfl,hWeb,g,h40,hn40,ho,hW,hwl',hbl,hsl,q⟩:=h;have nd:=A8.nd;have nd_place:(["place"]:List Str).Nodup:=by decide
 have hLN:(LL ts os).length<=2*ts.length:=by
  have:=MM.y6 g.maps _ (List.range (2*ts.length)) (Nat.le_refl _) (λz hz=>Zs.mp hz);rw[Yj]at this;exact this
 refine⟨_,(aC (bU (i:=3) nd rfl (Or.inl rfl)  (N':=["place"]) (js:=[none]) rfl (cX rfl T.dZ (aA (aN aP (pv 0) aG (λ_ _=>rfl)) aE)) (λ_ _ _ _ _=>(aO (i:=0) nd_place rfl (Or.inl rfl))) (λ_ _ _ _ _=>dJ) (λ_ _ _ _ _=>(mQ (v:=.int 4) rfl T.cZ ⟨_,rfl⟩)))
  (aC (cV PassesOwn.never rfl (fH rfl T.cK (aA (bK (sT T) hr T.tD aX (aA (pv 0) aE)) aE)) (eL rfl (aV (aO (i:=4) nd rfl (Or.inl rfl)) (aV (aO (i:=5) nd rfl (Or.inl rfl)) cJ))) (aL (bX (lB mAp b9 (pv 3) (aA (aT iI (bK (MF T) hr T.sY aX (aA (pv 4) (aA (pv 1) aE))) (aT dO aG (a8 aU rfl T.dQ PySem.boot_len (aA (pv 5) aE)))) aE)))))
  (aL (bE (cH (aA (pv 3) (aA (aT uI (bK (MI T) hr T.qC aX (aA (pv 0) (aA (aN aP (pv 2) aG (λ_ _=>rfl)) aE))) (bK (SQ T) hr T.vI aX (aA (pv 0) (aA (pv 2) aE)))) aE))))))),?_⟩
 obtain⟨tA,oA,hw,_,_⟩:=id hWeb;refine(aJ _ rfl wa _ _ _ rfl (NO rfl (SqT.of hw) rfl _ rfl (by lia) (by lia) (λna hna=>?_)));refine dP ((n:Int)).toNat (λ_=>.int 4) hna (by lia) (λi H' hi _=>hi) (λH' _=>Nat.le_refl _) ?_ ?_
 ·rintro i H' x H'' k hi g2 ⟨rfl,rfl⟩ hk;exact⟨(Fills.refl _).set _ rfl,hk _ (aZ.refl _)⟩
 intro H1 g1 ena;rw[show(List.range ((n:Int)).toNat).map (λ_=>V.int 4)=(List.replicate n (4:Int)).map V.int by
  have:((n:Int)).toNat=n:=by lia
  rw[this];apply Yp;intro i;by_cases h:i<n
  ·simp[h]
  ·simp[h]]at ena
 dsimp only[jH];refine(aJ _ rfl wa n ts os rfl ⟨ hWeb.mono g1,g,by lia,λr rr H2 g2 nos=>?_⟩);have g12:=g1.trans g2;have ena2:=g2 _ _ ena;have nrr:na≠r:=λz=>by have:=nos.new;rw[<-z,ena]at this;cases this
 have nrx:∀x∈rr,x≠na:=λx hx z=>by have:=nos.news x hx;rw[z,ena]at this;cases this
 refine⟨r,rfl,⟨_,SqL.of nos.at_⟩,fL (xs:=rr.map V.ref)
  (λi σ H'=>aZ H H'/\H' r=some (.lst (rr.map V.ref))/\(∀(j:Nat) l,(LL ts os)[j]?=some l->∃x,rr[j]?=some x/\H' x=some (.lst (vns l)))/\H' na=some (.lst ((List.replicate n (4:Int)++(List.range i).map (lC (LL ts os) o)).map V.int))/\∃o4 o5:Option V,σ=[some (.ref wa),some (vn o),some (.ref p),some (.ref na),o4,o5])
  ⟨g12,nos.at_,nos.row,by simpa using ena2,_,_,rfl⟩ (λi σ H' _ h=>SqL.of h.2.1) ?_ ?_⟩
 ·rintro i x σ H3 Tp hx ⟨g3,er3,hrow,en3,o4,o5,rfl⟩ hTp;obtain⟨y,hy,rfl⟩:=wQ hx;have hil:i<(LL ts os).length:=by rw[<-nos.len];exact(Zj.mp hy).1
  obtain⟨y',hy',ey⟩:=hrow i _ (Zz hil);rw[hy]at hy';cases hy';have g4:=aI hTp (.tup [vn i,.ref y]);have en4:=g4 _ _ en3;have ey4:=g4 _ _ ey;refine(a9 Tp _ rfl (SqT.of aB) rfl (cF _ _ rfl _ _ rfl rfl ?_));refine(jS _ rfl (.inl ⟨rfl,_,SqL.of en4⟩) _ rfl _ rfl (US i o rfl _ rfl (gF y _ rfl (.inl (SqL.of ey4)) _ _ rfl (pM rfl (.inl ⟨by decide,by decide⟩) _ _ rfl rfl (bN na _ _ rfl rfl en4 ?_ ?_)))))
  ·simp;exact Yt (by lia:n+i<200) (by decide)
  refine⟨λb o' h=>by rw[aK (aH h hna)];exact g4 _ _ (g3 _ _ h),by rw[aK nrr.symm];exact g4 _ _ er3,λj l hl=>?_,?_,_,_,rfl⟩
  ·obtain⟨x,q1,q2⟩:=hrow j l hl;exact⟨x,q1,by rw[aK (nrx x (Zg q1))];exact g4 _ _ q2⟩
  ·rw[aB,qZ,<-Yd,Zt (l₂:=[lC (LL ts os) o i])];have e:lC (LL ts os) o i=(if i=o then -4 else 4)-2*(((vns (LL ts os)[i]).length:Nat):Int):=by
    unfold lC;simp[List.getD,hil]
   rw[e];rfl
 rintro σ H3 ⟨g3,er3,hrow,en3,o4,o5,rfl⟩;rw[Zq,nos.len]at en3;have hW3:=hW.mono g3;refine(bJ _ rfl _ rfl _ rfl (aM p _ _ _ rfl rfl (SqT.of hW3.tp) ⟨ rfl,(eY wa sA n ts os ss rfl (nJ (hWeb.mono g3) g h40 hW3.s hsl (λc1 nm H4 g4 hc1 num hc=>?_)))⟩));have g34:=g3.trans g4;refine⟨_,rfl,_,rfl,(bM wa p wA bA sA n ts (aM os ws bs ss rfl (hWeb.mono g34) g ⟨ h40,hW.mono g34,hwl',hbl,λc2 nm' H5 g5 hc2 num' hl=>?_⟩))⟩;have enm:=jD.uniq g num num';subst enm;obtain⟨rs1,a1,a2,a3⟩:=hc.mono g5;obtain⟨rs2,b1,b2,b3⟩:=hl;refine(aM c1 c2 _ _ rfl rfl a1 ⟨ b1,by rw[Zq,Zq,a2,b2];simp;exact Yr (by lia:2*ts.length+2*ts.length<=200) (by decide),λwl hwl=>?_⟩);have g6:=aI hwl (.lst (rs1.map V.ref++rs2.map V.ref));have g35:=g4.trans g5;refine⟨(by show 2<=ZW;decide),λr' hr'=>?_⟩;have g7:=aI hr' (.tup [.ref na,.ref wl]);have en6:=g6 _ _ (g35 _ _ en3);refine q r' na wl nm _ (((g3.trans g35).trans g6).trans g7) hna ((g3.trans g35).free hwl) (aH (g35 _ _ en3) hwl) num ⟨aB,g7 _ _ en6,iO.mono (NR a2 a3 b2 b3 hwl) g7⟩
end K29
namespace L2
open PySem PySem.Spec PyProof.Rows
theorem WS{H:Hp}{a:Addr}{tn:MM.bD}(h:TsI H a (AW.cT tn)):hJ H a tn:=by
 obtain⟨tr,h1,h2,h3⟩:=h;refine⟨tr,h1,by rw[h2,AW.uT],λi t e=>h3 i ((t.1:Int),(t.2:Int)) ?_⟩;unfold AW.cT;rw[Zk,e];rfl
theorem XN{H:Hp}{a:Addr}{on:MM.a7}(h:OsI H a (AW.cO on)):pK H a on:=by
 obtain⟨tr,h1,h2,h3⟩:=h;refine⟨tr,h1,by rw[h2,AW.QY],λi l e=>?_⟩;obtain⟨r,r1,r2⟩:=h3 i (l.map λn:Nat=>(n:Int)) (by unfold AW.cO;rw[Zk,e];rfl);exact⟨r,r1,by rw[r2,Yh];rfl⟩
theorem G0{H:Hp}{w:Addr}{tn:MM.bD}{on:MM.a7}(h:GR H w on.length (AW.cT tn) (AW.cO on)):jI H w on.length tn on:=let⟨tA,oA,h1,h2,h3⟩:=h;⟨tA,oA,h1,WS h2,XN h3⟩
end L2
namespace K29
open PySem L2 PyProof.Rows
theorem chO{σ:L2.St}{H:Hp}{Q:VK}{x:Int}{tb tc:TE}(hb:∀R:VK,R (.int x) H->tb σ H R)(h1:¬0<=x->Q (.bl false) H)(h2:0<=x->tc σ H λv H'=>rI0 (λi j=>V.bl (decide (i<j))) (.int x) v H' Q) :
  xR (rI0 λi j=>V.bl (decide (i<=j))) (rI0 λi j=>V.bl (decide (i<j))) (tC (V.int 0)) tb tc σ H Q:=by
 refine hb _ ⟨_,_,rfl,rfl,_,rfl,?_⟩;by_cases h:0<=x
 ·rw[if_pos (decide_eq_true h)];exact h2 h
 ·rw[if_neg (by simpa using h)];exact h1 h
structure Mp(H:Hp)(wa:Addr)(tn:MM.bD)(on:MM.a7):Prop where
 w:GR H wa on.length (AW.cT tn) (AW.cO on)
 m:AW.Q7 on.length (AW.cT tn) (AW.cO on)
 g:MM.Good tn on
theorem Mp.same{H H':Hp}{wa:Addr}{tn:MM.bD}{on:MM.a7}(h:Mp H wa tn on)(g:aZ H H'):Mp H' wa tn on:=⟨h.w.same g,h.m,h.g⟩
theorem Mp.few{H:Hp}{wa:Addr}{tn:MM.bD}{on:MM.a7}(h:Mp H wa tn on):tn.length<=400:=by have:=h.m.1.2.2;rw[AW.uT]at this;exact this
def W9:Sp:=λvs H Q _=>∃(wa:Addr) (tn:MM.bD) (on:MM.a7),vs=[.ref wa]/\Mp H wa tn on/\MM.Flat tn on/\∀H',aZ H H'->Q .non H'
theorem VW(T:Txt K mg t):bT P w K mg base CX0 7 t.tQ t.tJ ["web"] W9:=by
 refine T.tE.F.ok AN (λvs H Q E h=>?_) (λcdv A outer s H vs Q E hr h=>?_)
 ·obtain⟨wa,tn,on,rfl,_⟩:=h;rfl
 obtain⟨wa,tn,on,rfl,hM,hF,q⟩:=h;have h4:=hM.few;refine⟨_,(aC (bX (bK (PL T) hr T.vM aX (aA (pv 0) aE)))
  (aL (dH (lA (fA (bK (SU T) hr T.BR aX (aA (pv 0) aE)) (λ_=>rfl))) iG bW))),?_⟩
 refine(aJ _ rfl wa _ _ _ rfl ⟨ hM.w,hM.m,λH1 g1=>?_⟩);refine(aJ _ rfl wa _ tn on rfl ⟨ G0 (hM.w.same g1),hM.g,by lia,λH2 g2=>⟨_,rfl,fU (by rw[QK hF];rfl) (q _ (g1.trans g2))⟩⟩)
noncomputable abbrev nL(tn:MM.bD)(on:MM.a7):Nat:=(MM.bC (MM.behind tn on) (2*tn.length)).length
def W7:Sp:=λvs H Q _=>∃(wa:Addr) (o:Int) (tn:MM.bD) (on:MM.a7),vs=[.ref wa,.int o]/\Mp H wa tn on/\MM.Flat tn on/\0<=o/\o<nL tn on/\∀H',aZ H H'->Q .non H'
theorem VU(T:Txt K mg t):bT P w K mg base CX0 8 t.qM t.qH ["web","outer"] W7:=by
 refine T.qD.F.ok yC (λvs H Q E h=>?_) (λcdv A outer s H vs Q E hr h=>?_)
 ·obtain⟨wa,o,tn,on,rfl,_⟩:=h;rfl
 obtain⟨wa,o,tn,on,rfl,hM,hF,h0,h1,q⟩:=h;have h4:=hM.few;refine⟨_,(aC (bX (bK (VW T) hr T.tE aX (aA (pv 0) aE)))
  (aL (dH (lA (oG sR iX aG (pv 1) (a8 aU rfl T.dQ PySem.boot_len (aA (bK (sT T) hr T.tD aX (aA (pv 0) aE)) aE)))) iG bW))),?_⟩
 refine(dS _ rfl wa tn on rfl hM ⟨ hF,λH1 g1=>?_⟩);dsimp only[NZ,LK,RK,RI,EK];refine chO (x:=o) ?h1 ?h2 ?h3
 case h1=>exact λR h=>⟨_,rfl,h⟩
 case h2=>exact λz=>absurd h0 z
 intro _;refine(aJ _ rfl wa _ tn on rfl ⟨ G0 (hM.w.same g1),hM.g,by lia,λr rr H2 g2 n2=>(gF r _ rfl (.inl (SqL.of n2.at_)) _ _ rfl ⟨ rfl,_,rfl,?_⟩)⟩);have hl:(((rr.map V.ref).length:Nat):Int)=(nL tn on:Int):=by rw[Zq,n2.len]
 rw[hl,decide_eq_true h1];exact iY (q _ (g1.trans g2))
end K29
namespace L2
open PySem PySem.Spec PyProof.Rows
theorem M7(xs:List V)(k:Nat):tK xs (some (k:Int)) none=xs.drop k:=by
 unfold tK;rw[HT.sH,HT.wN];by_cases h:k<=xs.length
 ·rw[Nat.min_eq_left h,List.take_of_length_le (by rw[Yf];lia)]
 ·rw[Nat.min_eq_right (by lia),List.drop_of_length_le (Nat.le_refl _),List.drop_of_length_le (by lia),List.take_nil]
theorem TR(xs:List V)(k:Nat):tK xs none (some (k:Int))=xs.take k:=by
 unfold tK;rw[HT.sH,HT.wN,List.drop_zero,Nat.sub_zero];by_cases h:k<=xs.length
 ·rw[Nat.min_eq_left h]
 ·rw[Nat.min_eq_right (by lia),List.take_of_length_le (Nat.le_refl _),List.take_of_length_le (by lia)]
end L2
namespace K29
open PySem L2 PyProof.Rows NM
theorem R3(n:Nat):(List.replicate n (4:Int)).sum=4*n:=by
 induction n with
 |zero=>rfl
 |succ n ih=>rw[List.replicate_succ,List.sum_cons,ih];lia
theorem JI(f g:Nat->Int):∀l:List Nat,(l.map λk=>f k-2*g k).sum=(l.map f).sum-2*(l.map g).sum
 |[]=>rfl
 |k::l=>by
  rw[List.map_cons,List.sum_cons,JI f g l,List.map_cons,List.sum_cons,List.map_cons,List.sum_cons];lia
theorem JJ(o:Nat):∀n:Nat,((List.range n).map λk=>if k=o then (-4:Int) else 4).sum=if o<n then 4*(n:Int)-8 else 4*n
 |0=>rfl
 |n+1=>by
  rw[List.range_succ,Zt,List.sum_append,JJ o n,List.map_cons,List.map_nil,List.sum_cons,List.sum_nil];by_cases h:n=o
  ·subst h;rw[if_pos rfl,if_neg (by lia),if_pos (by lia)];lia
  ·rw[if_neg h];by_cases h2:o<n
   ·rw[if_pos h2,if_pos (by lia)];lia
   ·rw[if_neg h2,if_neg (by lia)];lia
theorem EL:∀l:List Nat,(l.map λn:Nat=>(n:Int)).sum=((l.sum:Nat):Int)
 |[]=>rfl
 |a::l=>by rw[List.map_cons,List.sum_cons,List.sum_cons,EL l];lia
theorem KC:∀ll:List (List Nat),(ll.map List.length).sum=ll.flatten.length
 |[]=>rfl
 |l::ll=>by rw[List.map_cons,List.sum_cons,KC ll,List.flatten_cons,Zm]
theorem one_le{a:Nat}:∀{l:List Nat},a∈l->a<=l.sum
 |b::l,h=>by
  rw[List.sum_cons];rcases Zn.mp h with rfl | h
  ·lia
  ·have:=one_le h;lia
theorem Q6{tn:MM.bD}{on:MM.a7}(g:MM.Good tn on):((LL tn on).map List.length).sum=2*tn.length:=by
 rw[KC,(MM.IG g.maps).length_eq,Yj]
theorem MK{tn:MM.bD}{on:MM.a7}(g:MM.Good tn on)(f:MM.Flat tn on){o:Nat}(ho:o<(LL tn on).length):(cS on.length (LL tn on) o).sum=0:=by
 unfold cS;rw[List.sum_append,R3];have e:(List.range (LL tn on).length).map (lC (LL tn on) o)=(List.range (LL tn on).length).map λk=>(if k=o then (-4:Int) else 4)-2*(((LL tn on).getD k []).length:Int):=rfl;have e2:(List.range (LL tn on).length).map (λk=>(((LL tn on).getD k []).length:Int))=((LL tn on).map List.length).map λn:Nat=>(n:Int):=by
  rw[Yh];refine List.ext_getElem (by simp) λi h1 h2=>?_;have hi:i<(LL tn on).length:=by simpa using h1
  simp[Zv,Zz hi]
 rw[e,JI (λk=>if k=o then (-4:Int) else 4) (λk=>(((LL tn on).getD k []).length:Int)),JJ,if_pos ho,e2,EL,Q6 g];have:on.length+(LL tn on).length=tn.length+2:=f
 lia
structure GQ(ws:List Int)(bs ss:List (Option Int)):Prop where
 w:∀x∈ws,0<=x/\x<=1000
 b:∀x,some x∈bs->0<=x/\x<=1000
 s:∀x,some x∈ss->1<=x/\x<=4
theorem uK{tn:MM.bD}{on:MM.a7}{nm:List Nat}(g:MM.Good tn on)(h:jD tn on nm){e:Nat}(he:e<2*tn.length):nm.getD e 0<(LL tn on).length:=by
 obtain⟨k,d,q1,q2,_⟩:=MM.fD g.maps he;rw[h.at_ k d e q1 q2];exact(Zj.mp q1).1
theorem pE{ws:List Int}{i:Nat}(h:i<ws.length):at0 ws i∈ws:=by unfold at0;rw[Zv,Zz h];exact Zp h
theorem uH{l:List (Option Int)}{i:Nat}{x:Int}(h:ov l i=some x):some x∈l:=by
 unfold ov at h;rw[Zv]at h;cases hh:l[i]? with
 |none=>rw[hh]at h;cases h
 |some y=>rw[hh]at h;exact h▸Zg hh
theorem VY{tn:MM.bD}{on:MM.a7}{nm:List Nat}{ws:List Int}{bs ss:List (Option Int)}{o:Nat}(g:MM.Good tn on)(f:MM.Flat tn on)(t40:tn.length<=40)(ho:o<(LL tn on).length)(hn:jD tn on nm)(hl:ws.length=tn.length)(hw:GQ ws bs ss) :
  GS (cS on.length (LL tn on) o) (cD on.length tn nm ws bs ss)/\(cS on.length (LL tn on) o).length=tn.length+2/\(cD on.length tn nm ws bs ss).length=4*tn.length:=by
 have fl:on.length+(LL tn on).length=tn.length+2:=f;have nl:(cS on.length (LL tn on) o).length=on.length+(LL tn on).length:=by unfold cS;simp
 have wl:(cD on.length tn nm ws bs ss).length=4*tn.length:=by unfold cD;simp;lia
 have o1:1<=on.length:=by have:=(g.g.has 0 (by have:=g.one;lia)).1;lia
 refine⟨⟨by lia,by lia,by lia,MK g f ho,λx hx=>?_,λwy hwy=>?_⟩,by lia,wl⟩
 ·unfold cS at hx;rcases Zf.mp hx with z | z
  ·rw[List.eq_of_mem_replicate z];lia
  ·obtain⟨k,hk,rfl⟩:=Zh.mp z;have hk:=Zs.mp hk;have:((LL tn on).getD k []).length<=2*tn.length:=by
    rw[<-Q6 g,Zv,Zz hk];exact one_le (Ym (Zp hk))
   unfold lC;split<;>lia
 ·unfold cD at hwy;rcases Zf.mp hwy with z | z
  ·obtain⟨e,he,rfl⟩:=Zh.mp z;have he:=Zs.mp he;have h1:=(g.g.has (MM.oth e) (MM.bG he)).1;have h2:=uK g hn he;cases hs:ov ss e with
   |none=>unfold fR;rw[hs];exact⟨by show MM.place tn (MM.oth e)<_;lia,by show on.length+nm.getD e 0<_;lia,by show(-1000:Int)<=1/\(1:Int)<=1000;lia,λh hh=>by cases hh;show(1:Int)<=4/\(4:Int)<=1000;lia,by show(-1000:Int)<=0/\(0:Int)<=1000;lia⟩
   |some x =>
    have:=hw.s x (uH hs);unfold fR;rw[hs];exact⟨by show MM.place tn (MM.oth e)<_;lia,by show on.length+nm.getD e 0<_;lia,by show(-1000:Int)<=x/\x<=1000;lia,λh hh=>by cases hh;show x<=x/\x<=1000;lia,by show(-1000:Int)<=0/\(0:Int)<=1000;lia⟩
  ·obtain⟨e,he,rfl⟩:=Zh.mp z;have he:=Zs.mp he;have h1:=uK g hn he;have h2:=uK g hn (MM.bG he);have h3:=hw.w _ (pE (ws:=ws) (i:=e / 2) (by lia));refine⟨by show on.length+nm.getD e 0<_;lia,by show on.length+nm.getD (MM.oth e) 0<_;lia,by show(-1000:Int)<=0/\(0:Int)<=1000;lia,λh hh=>?_,by show(-1000:Int)<=at0 ws (e / 2)/\at0 ws (e / 2)<=1000;lia⟩;have:=hw.b h (uH hh);exact this
theorem YD{n:Nat}{tn:MM.bD}{nm:List Nat}{ws:List Int}{bs ss:List (Option Int)}(hl:ws.length=tn.length)(hw:GQ ws bs ss):∀w∈cD n tn nm ws bs ss,0<=w.c:=λw h=>by
 unfold cD at h;rcases Zf.mp h with z | z
 ·obtain⟨e,he,rfl⟩:=Zh.mp z;exact Int.le_refl 0
 ·obtain⟨e,he,rfl⟩:=Zh.mp z;have he:=Zs.mp he;exact(hw.w _ (pE (ws:=ws) (i:=e / 2) (by lia))).1
theorem VV(T:Txt K mg t):bT P w K mg base CX0 5 t.rR t.rP ["net"] xX:=by
 exact FB T (PM T) (HW T (PH T (C9 T))) (MH T (SR T (C9 T) (O6 T) (PJ T)) (O7 T (C9 T) (HY T) (J6 T) (VR T)) (O8 T) (SL T (HY T)) (SK T (HY T) (J6 T)))
end K29
namespace FL
theorem HE(N:Nat)(f:Nat->Int):∀M,sm (N+M) f=sm N f+sm M λk=>f (N+k)
 |0=>by rw[wK,Nat.add_zero];lia
 |M+1=>by rw[show N+(M+1)=N+M+1 from rfl,dW,HE N f M,dW];lia
end FL
namespace MM
theorem JL(p:Nat->Prop)[DecidablePred p](f:Nat->Int):∀l:List Nat,su l (λx=>if p x then f x else 0)=su (l.filter λx=>decide (p x)) f
 |[]=>rfl
 |x::l=>by
  rw[dN,JL p f l,List.filter_cons];by_cases h:p x
  ·rw[if_pos h,if_pos (by simpa using h),dN]
  ·rw[if_neg h,if_neg (by simpa using h)];lia
theorem wJ{N:Nat}{d:List Nat}(p:Nat->Prop)[DecidablePred p](f:Nat->Int)(nd:d.Nodup)(h:∀x,x∈d↔x<N/\p x):su (List.range N) (λx=>if p x then f x else 0)=su d f:=by
 rw[JL];refine pO (wR (List.nodup_range.filter _) nd λx=>?_);rw[Yz,Zs,h,decide_eq_true_iff]
theorem N4(T:Nat)(f:Nat->Int):su (List.range (2*T)) f=su (List.range (2*T)) λe=>f (oth e):=by
 rw[<-pO (O1 T),xU]
end MM
namespace K29
open PySem L2 PyProof.Rows NM FL
theorem UP{a b:List Int}{k:Nat}(h:k<a.length):at0 (a++b) k=at0 a k:=by unfold at0;rw[Zv,Zv,Zx h]
theorem Q3{a b:List Int}{k:Nat}:at0 (a++b) (a.length+k)=at0 b k:=by unfold at0;rw[Zv,Zv,Zy (by lia),Nat.add_sub_cancel_left]
section
variable{n:Nat}{ts:MM.bD}{os:MM.a7}{nm:List Nat}{ws:List Int}{bs ss:List (Option Int)}{cs ls:List Int}{o:Nat}
theorem CN{e:Nat}(h:e<2*ts.length):(cD n ts nm ws bs ss)[e]?=some (fR n ts nm ss e):=by
 unfold cD;rw[Zx (by simpa using h),Zk,Yk h];rfl
theorem CM{e:Nat}(h:e<2*ts.length):(cD n ts nm ws bs ss)[2*ts.length+e]?=some (oT n nm ws bs e):=by
 unfold cD;rw[Zy (by simp),Zq,Yj,Nat.add_sub_cancel_left,Zk,Yk h];rfl
theorem nK:(cD n ts nm ws bs ss).length=2*ts.length+2*ts.length:=by unfold cD;simp
theorem wL(hc:cs.length=2*ts.length)(f:Way->Nat)(v:Nat) :
  sm (2*ts.length+2*ts.length) (λk=>if (((cD n ts nm ws bs ss)[k]?.map f).getD 0)=v then at0 (cs++ls) k else 0)=MM.su (List.range (2*ts.length)) (λe=>if f (fR n ts nm ss e)=v then at0 cs e else 0)+MM.su (List.range (2*ts.length)) (λe=>if f (oT n nm ws bs e)=v then at0 ls e else 0):=by
 rw[HE];have e1:=cW (m:=2*ts.length) (f:=λk=>if (((cD n ts nm ws bs ss)[k]?.map f).getD 0)=v then at0 (cs++ls) k else 0) (g:=λe=>if f (fR n ts nm ss e)=v then at0 cs e else 0) λk hk=>by rw[CN hk,UP (by lia)];rfl
 have e2:=cW (m:=2*ts.length) (f:=λk=>if (((cD n ts nm ws bs ss)[2*ts.length+k]?.map f).getD 0)=v then at0 (cs++ls) (2*ts.length+k) else 0) (g:=λe=>if f (oT n nm ws bs e)=v then at0 ls e else 0) λk hk=>by rw[CM hk,<-hc,Q3];rfl
 rw[e1,e2];rfl
theorem CQ{N:Nat}{f:Nat->Int}(h:∀e,f e=0):MM.su (List.range N) f=0:=by
 rw[MM.e9 (g:=λ_=>0) λx _=>h x,MM.rZ];lia
theorem yN(g:MM.Good ts os)(hc:cs.length=2*ts.length){p:Nat}(hp:p<os.length) :
  rs (2*ts.length+2*ts.length) (aF (cD os.length ts nm ws bs ss)) (bF (cD os.length ts nm ws bs ss)) (at0 (cS os.length (LL ts os) o)) (at0 (cs++ls)) p=4-MM.su (MM.row os p) λe=>at0 cs (MM.oth e):=by
 unfold rs;have ea:=wL (n:=os.length) (ts:=ts) (nm:=nm) (ws:=ws) (bs:=bs) (ss:=ss) (ls:=ls) hc (·.a) p;have eb:=wL (n:=os.length) (ts:=ts) (nm:=nm) (ws:=ws) (bs:=bs) (ss:=ss) (ls:=ls) hc (·.b) p;have z1:MM.su (List.range (2*ts.length)) (λe=>if (oT os.length nm ws bs e).a=p then at0 ls e else 0)=0:=CQ λe=>if_neg (show ¬os.length+nm.getD e 0=p by lia);have z2:MM.su (List.range (2*ts.length)) (λe=>if (oT os.length nm ws bs e).b=p then at0 ls e else 0)=0:=CQ λe=>if_neg (show ¬os.length+nm.getD (MM.oth e) 0=p by lia);have z3:MM.su (List.range (2*ts.length)) (λe=>if (fR os.length ts nm ss e).b=p then at0 cs e else 0)=0:=CQ λe=>if_neg (show ¬os.length+nm.getD e 0=p by lia);have nd:at0 (cS os.length (LL ts os) o) p=4:=by
  unfold cS;rw[UP (by simpa using hp)];unfold at0;rw[Zv,List.getElem?_replicate,if_pos hp];rfl
 have z4:MM.su (List.range (2*ts.length)) (λe=>if (fR os.length ts nm ss e).a=p then at0 cs e else 0)=MM.su (MM.row os p) λe=>at0 cs (MM.oth e):=by
  rw[MM.N4];refine(MM.e9 λe _=>?_).trans (MM.wJ (λe=>MM.place ts e=p) (λe=>at0 cs (MM.oth e)) (g.g.nd p) λx=>⟨λh=>g.g.ends p x h,λh=>?_⟩)
  ·show(if MM.place ts (MM.oth (MM.oth e))=p then at0 cs (MM.oth e) else 0)=_;rw[MM.cM]
  ·have:=(g.g.has x h.1).2
   rwa [h.2]at this
 unfold aF bF;rw[ea,eb,z1,z2,z3,z4,nd]
 lia
theorem BE(g:MM.Good ts os)(hn:jD ts os nm)(hc:cs.length=2*ts.length){k:Nat}{d:List Nat}(hk:(LL ts os)[k]?=some d) :
  rs (2*ts.length+2*ts.length) (aF (cD os.length ts nm ws bs ss)) (bF (cD os.length ts nm ws bs ss)) (at0 (cS os.length (LL ts os) o)) (at0 (cs++ls)) (os.length+k)=(if k=o then -4 else 4)-MM.su d (MM.trm (at0 cs) (at0 ls)):=by
 unfold rs;have ea:=wL (n:=os.length) (ts:=ts) (nm:=nm) (ws:=ws) (bs:=bs) (ss:=ss) (ls:=ls) hc (·.a) (os.length+k);have eb:=wL (n:=os.length) (ts:=ts) (nm:=nm) (ws:=ws) (bs:=bs) (ss:=ss) (ls:=ls) hc (·.b) (os.length+k);have land:=MM.cY g hk;have num:MM.Num ts os λx=>nm.getD x 0:=λk d x h1 h2=>hn.at_ k d x h1 h2;have mem:∀x,x∈d↔x<2*ts.length/\os.length+nm.getD x 0=os.length+k:=λx=>⟨λh=>⟨land.2.1 x h,by rw[hn.at_ k d x hk h]⟩,λh=>(MM.SX g num h.1 hk).mpr (by have:=h.2;lia)⟩
 have kl:=(Zj.mp hk).1;have nd:at0 (cS os.length (LL ts os) o) (os.length+k)=(if k=o then -4 else 4)-2*(d.length:Int):=by
  unfold cS;have:=Q3 (a:=List.replicate os.length (4:Int)) (b:=(List.range (LL ts os).length).map (lC (LL ts os) o)) (k:=k);rw[List.length_replicate]at this;rw[this];unfold at0;rw[Zv,Zk,Yk kl];show lC (LL ts os) o k=_;unfold lC;rw[Zv,hk];rfl
 have z1:MM.su (List.range (2*ts.length)) (λe=>if (fR os.length ts nm ss e).a=os.length+k then at0 cs e else 0)=0:=by
  refine(MM.e9 (g:=λ_=>0) λe he=>if_neg (show ¬MM.place ts (MM.oth e)=os.length+k by have:=(g.g.has (MM.oth e) (MM.bG (Zs.mp he))).1;lia)).trans (by rw[MM.rZ];lia)
 have z2:MM.su (List.range (2*ts.length)) (λe=>if (oT os.length nm ws bs e).a=os.length+k then at0 ls e else 0)=MM.su d λe=>at0 ls e:=MM.wJ (λe=>os.length+nm.getD e 0=os.length+k) (λe=>at0 ls e) land.1 mem;have z3:MM.su (List.range (2*ts.length)) (λe=>if (fR os.length ts nm ss e).b=os.length+k then at0 cs e else 0)=MM.su d λe=>at0 cs e:=MM.wJ (λe=>os.length+nm.getD e 0=os.length+k) (λe=>at0 cs e) land.1 mem;have z4:MM.su (List.range (2*ts.length)) (λe=>if (oT os.length nm ws bs e).b=os.length+k then at0 ls e else 0)=MM.su d λe=>at0 ls (MM.oth e):=by
  rw[MM.N4];refine(MM.e9 λe _=>?_).trans (MM.wJ (λe=>os.length+nm.getD e 0=os.length+k) (λe=>at0 ls (MM.oth e)) land.1 mem);show(if os.length+nm.getD (MM.oth (MM.oth e)) 0=os.length+k then at0 ls (MM.oth e) else 0)=_;rw[MM.cM]
 have tr:MM.su d (MM.trm (at0 cs) (at0 ls))=2*(d.length:Int)-MM.su d (λe=>at0 cs e)+MM.su d (λe=>at0 ls e)-MM.su d λe=>at0 ls (MM.oth e):=by
  rw[<-MM.rZ 2 d,<-MM.G9,<-MM.CT,<-MM.G9];rfl
 unfold aF bF;rw[ea,eb,z1,z2,z3,z4,nd,tr]
 lia
def AH(bs ss:List (Option Int))(cs ls:List Int)(N:Nat):Prop:=∀e,e<N->(∀b,ov bs (e / 2)=some b->at0 ls e<=b)/\∀s,ov ss e=some s->at0 cs e=s
theorem uO(g:MM.Good ts os)(hn:jD ts os nm)(hs:∀x,some x∈ss->1<=x/\x<=4)(hc:cs.length=2*ts.length)(hl:ls.length=2*ts.length) :
  nF (cS os.length (LL ts os) o) (cD os.length ts nm ws bs ss) (cs++ls)↔MM.Shp ts os o (at0 cs) (at0 ls)/\AH bs ss cs ls (2*ts.length):=by
 have nl:(cS os.length (LL ts os) o).length=os.length+(LL ts os).length:=by unfold cS;simp
 have hab:∀w∈cD os.length ts nm ws bs ss,w.a<(cS os.length (LL ts os) o).length/\w.b<(cS os.length (LL ts os) o).length:=λw hw=>by
  rw[nl];unfold cD at hw;rcases Zf.mp hw with z | z
  ·obtain⟨e,he,rfl⟩:=Zh.mp z;have he:=Zs.mp he;have h1:=(g.g.has (MM.oth e) (MM.bG he)).1;have h2:=uK g hn he;exact⟨by show MM.place ts (MM.oth e)<_;lia,by show os.length+nm.getD e 0<_;lia⟩
  ·obtain⟨e,he,rfl⟩:=Zh.mp z;have he:=Zs.mp he;have h1:=uK g hn he;have h2:=uK g hn (MM.bG he);exact⟨by show os.length+nm.getD e 0<_;lia,by show os.length+nm.getD (MM.oth e) 0<_;lia⟩
 have gl:(cs++ls).length=(cD os.length ts nm ws bs ss).length:=by rw[Zm,nK,hc,hl]
 have gc:∀{e},e<2*ts.length->(cs++ls)[e]?=some (at0 cs e):=λ{e} he=>by
  rw[Zx (by lia)];unfold at0;rw[Zv,Zz (by lia)];rfl
 have gg:∀{e},e<2*ts.length->(cs++ls)[2*ts.length+e]?=some (at0 ls e):=λ{e} he=>by
  rw[Zy (by lia),hc,Nat.add_sub_cancel_left];unfold at0;rw[Zv,Zz (by lia)];rfl
 have rsl:∀v,at0 (left (cD os.length ts nm ws bs ss) (cs++ls) (cS os.length (LL ts os) o)) v=rs (2*ts.length+2*ts.length) (aF (cD os.length ts nm ws bs ss)) (bF (cD os.length ts nm ws bs ss)) (at0 (cS os.length (LL ts os) o)) (at0 (cs++ls)) v:=λv=>by
  rw[DF gl hab v,nK]
 have sv:∀{e s},ov ss e=some s->1<=s/\s<=4:=λh=>hs _ (uH h);constructor
 ·intro G;have ic:∀{e},e<2*ts.length->(ov ss e).getD 1<=at0 cs e/\at0 cs e<=(ov ss e).getD 4:=λ{e} he=>let h:=G.inb e _ _ (CN he) (gc he);⟨h.1,h.2 _ rfl⟩;have il:∀{e},e<2*ts.length->0<=at0 ls e/\∀b,ov bs (e / 2)=some b->at0 ls e<=b:=λ{e} he=>G.inb _ _ _ (CM he) (gg he);refine⟨⟨⟨λe he=>?_,λe he=>?_,λp hp=>?_⟩,λe he=>(il he).1,λk d hk=>?_⟩,λe he=>⟨(il he).2,λs h=>?_⟩⟩
  ·have:=ic he;cases h:ov ss e with
   |none=>rw[h]at this;exact this.1
   |some s=>rw[h]at this;have h1:=sv h;have h2:s<=at0 cs e:=this.1;lia
  ·have:=ic he;cases h:ov ss e with
   |none=>rw[h]at this;exact this.2
   |some s=>rw[h]at this;have h1:=sv h;have h2:at0 cs e<=s:=this.2;lia
  ·have:=G.zero p (by lia);rw[rsl,yN g hc hp]at this
   lia
  ·have:=G.zero (os.length+k) (by rw[nl];have:k<(LL ts os).length:=(Zj.mp hk).1;lia);rw[rsl,BE g hn hc hk]at this
   lia
  ·have:=ic he;rw[h]at this;have h1:s<=at0 cs e:=this.1;have h2:at0 cs e<=s:=this.2
   lia
 ·rintro⟨S,F⟩;refine⟨gl,λi w x hw hx=>?_,λv hv=>?_⟩
  ·have hi:=(Zj.mp hw).1;rw[nK]at hi;by_cases h:i<2*ts.length
   ·rw[CN h]at hw;rw[gc h]at hx;cases hw;cases hx;have h1:=S.pl.lo i h;have h2:=S.pl.hi i h;cases z:ov ss i with
    |none=>exact⟨by show(ov ss i).getD 1<=_;rw[z];exact h1,λh e=>by cases e;show _<=(ov ss i).getD 4;rw[z];exact h2⟩
    |some s =>
     have:=(F i h).2 s z;exact⟨by show(ov ss i).getD 1<=_;rw[z];show s<=_;lia,λh e=>by cases e;show _<=(ov ss i).getD 4;rw[z];show _<=s;lia⟩
   ·obtain⟨e,rfl⟩:∃e,i=2*ts.length+e:=⟨i-2*ts.length,by lia⟩
    have he:e<2*ts.length:=by lia
    rw[CM he]at hw;rw[gg he]at hx;cases hw;cases hx;exact⟨S.pos e he,(F e he).1⟩
  ·rw[rsl];by_cases h:v<os.length
   ·rw[yN g hc h,S.pl.at_ v h];rfl
   ·obtain⟨k,rfl⟩:∃k,v=os.length+k:=⟨v-os.length,by lia⟩
    have kl:k<(LL ts os).length:=by lia
    rw[BE g hn hc (Zz kl),S.ld k _ (Zz kl)];lia
theorem EM(f:Nat->Int):∀T,MM.su (List.range (2*T)) f=MM.su (List.range T) λk=>f (2*k)+f (2*k+1)
 |0=>rfl
 |T+1=>by
  rw[show 2*(T+1)=2*T+1+1 from rfl,List.range_succ,List.range_succ,List.range_succ,MM.CS,MM.CS,EM f T,MM.CS,MM.dN,MM.xT,MM.dN,MM.xT,MM.dN,MM.xT];lia
theorem zT(hc:cs.length=2*ts.length)(hl:ls.length=2*ts.length):nG (cD n ts nm ws bs ss) (cs++ls)=costOf ws ls ts.length:=by
 rw[DU ⟨0,0,0,none,0⟩ _ _ (by rw[Zm,nK,hc,hl]),nK];have e:=HE (2*ts.length) (λk=>((cD n ts nm ws bs ss).getD k ⟨0,0,0,none,0⟩).c*at0 (cs++ls) k) (2*ts.length);have e1:=cW (m:=2*ts.length) (f:=λk=>((cD n ts nm ws bs ss).getD k ⟨0,0,0,none,0⟩).c*at0 (cs++ls) k) (g:=λ_=>0) λk hk=>by rw[Zv,CN hk];exact Int.zero_mul _
 have e2:=cW (m:=2*ts.length) (f:=λk=>((cD n ts nm ws bs ss).getD (2*ts.length+k) ⟨0,0,0,none,0⟩).c*at0 (cs++ls) (2*ts.length+k)) (g:=λk=>at0 ws (k / 2)*at0 ls k) λk hk=>by rw[Zv,CM hk,<-hc,Q3];rfl
 rw[e1,e2,xZ]at e;refine e.trans ?_;rw[Int.zero_add];refine(EM (λk=>at0 ws (k / 2)*at0 ls k) ts.length).trans ?_;unfold costOf B0 MM.su;congr 1;refine Yn λk _=>?_;unfold sum2;rw[show 2*k / 2=k by lia,show(2*k+1) / 2=k by lia,<-Int.mul_add,Int.mul_comm]
theorem FP{T:Nat}(hp:∀e,e<2*T->0<=at0 ls e)(h:AH bs ss cs ls (2*T)):IZ bs ss cs ((List.range (2*T)).map (few ls)) T:=by
 have at_:∀{e},e<2*T->at0 ((List.range (2*T)).map (few ls)) e=few ls e:=λ{e} he=>by
  unfold at0;rw[Zv,Zk,Yk he];rfl
 refine⟨λk hk b hb=>?_,λk hk c=>(h k hk).2 c⟩;have b1:=(h (2*k) (by lia)).1 b (by rw[show 2*k / 2=k by lia];exact hb);have b2:=(h (2*k+1) (by lia)).1 b (by rw[show(2*k+1) / 2=k by lia];exact hb);have p1:=hp (2*k) (by lia);have p2:=hp (2*k+1) (by lia);unfold sum2;rw[at_ (by lia),at_ (by lia)];unfold few;have o1:MM.oth (2*k)=2*k+1:=by unfold MM.oth;rw[if_pos (by lia)]
 have o2:MM.oth (2*k+1)=2*k:=by unfold MM.oth;rw[if_neg (by lia)];lia
 rw[o1,o2];unfold mn;split<;>split<;>lia
end
end K29
namespace K29
open PySem L2 PyProof.Rows NM
theorem TK{ls:List Int}{T k:Nat}(h:k<T)(hp:∀e,e<2*T->0<=at0 ls e):sum2 ((List.range (2*T)).map (few ls)) k<=sum2 ls k:=by
 have at_:∀{e},e<2*T->at0 ((List.range (2*T)).map (few ls)) e=few ls e:=λ{e} he=>by
  unfold at0;rw[Zv,Zk,Yk he];rfl
 have p1:=hp (2*k) (by lia);have p2:=hp (2*k+1) (by lia);unfold sum2;rw[at_ (by lia),at_ (by lia)];unfold few;have o1:MM.oth (2*k)=2*k+1:=by unfold MM.oth;rw[if_pos (by lia)]
 have o2:MM.oth (2*k+1)=2*k:=by unfold MM.oth;rw[if_neg (by lia)];lia
 rw[o1,o2];unfold mn;split<;>split<;>lia
theorem N1:∀{l:List Nat}{f g:Nat->Int},(∀k∈l,f k<=g k)->(l.map f).sum<=(l.map g).sum
 |[],_,_,_=>Int.le_refl _
 |k::l,f,g,h=>by
  rw[List.map_cons,List.map_cons,List.sum_cons,List.sum_cons];have:=h k Zd;have:=N1 (l:=l) λx hx=>h x (Zw _ hx)
  lia
theorem QU{ws ls:List Int}{T:Nat}(hw:∀x∈ws,0<=x/\x<=1000)(lw:ws.length=T)(hp:∀e,e<2*T->0<=at0 ls e):costOf ws ((List.range (2*T)).map (few ls)) T<=costOf ws ls T:=by
 unfold costOf B0;exact N1 λk hk=>Int.mul_le_mul_of_nonneg_right (TK (Zs.mp hk) hp) (hw _ (pE (by have:=Zs.mp hk;lia))).1
theorem TL(ls:List Int)(e:Nat):few ls e-few ls (MM.oth e)=at0 ls e-at0 ls (MM.oth e):=by
 unfold few;rw[MM.cM];unfold mn;split<;>split<;>lia
theorem TM(ls:List Int)(e:Nat):0<=few ls e:=by
 unfold few mn;split<;>lia
theorem RW{ts:MM.bD}{os:MM.a7}{o:Nat}{c:Nat->Int}{ls:List Int}(g:MM.Good ts os)(S:MM.Shp ts os o c (at0 ls)):MM.Shp ts os o c (at0 ((List.range (2*ts.length)).map (few ls))):=by
 have at_:∀{e},e<2*ts.length->at0 ((List.range (2*ts.length)).map (few ls)) e=few ls e:=λ{e} he=>by
  unfold at0;rw[Zv,Zk,Yk he];rfl
 refine⟨S.pl,λe he=>by rw[at_ he];exact TM ls e,λk d hk=>?_⟩;rw[<-S.ld k d hk];refine MM.e9 λe he=>?_;have h:=(MM.cY g hk).2.1 e he;unfold MM.trm;rw[at_ h,at_ (MM.bG h)];have:=TL ls e
 lia
def Told(ts:MM.bD)(os:MM.a7)(o:Nat)(ws:List Int)(bs ss:List (Option Int))(H:Hp)(r:Addr):Prop :=
 (∃la lot,H r=some (.tup [.str "none",.ref la])/\H la=some (.lst (lot.map V.int))/\(∀nm,jD ts os nm->NF (cS os.length (LL ts os) o) lot (cD os.length ts nm ws bs ss))/\lot.length<=42/\∀cs ls:List Int,cs.length=2*ts.length->ls.length=2*ts.length->MM.Shp ts os o (at0 cs) (at0 ls)->¬AH bs ss cs ls (2*ts.length)) \/
 ∃(v a b ra:Addr) (cs ls:List Int),H r=some (.tup [.str "shape",.ref v,.ref ra])/\WE H v a b cs ls/\cs.length=2*ts.length/\ls.length=2*ts.length/\MM.Shp ts os o (at0 cs) (at0 ls)/\IZ bs ss cs ls ts.length /\
  ∀c2 l2:List Int,c2.length=2*ts.length->l2.length=2*ts.length->MM.Shp ts os o (at0 c2) (at0 l2)->AH bs ss c2 l2 (2*ts.length)->costOf ws ls ts.length<=costOf ws l2 ts.length
def YX:Sp:=λvs H Q _=>∃(wa p wA bA sA:Addr) (o:Nat) (tn:MM.bD) (on:MM.a7) (ws:List Int) (bs ss:List (Option Int)),vs=[.ref wa,vn o,.ref p]/\Mp H wa tn on/\MM.Flat tn on/\tn.length<=40/\on.length<=40/\o<nL tn on/\wC H p wA bA sA ws bs ss/\ws.length=tn.length/\bs.length=tn.length/\ss.length=2*tn.length/\GQ ws bs ss /\
 ∀(r:Addr) (H':Hp),aZ H H'->Told tn on o ws bs ss H' r->Q (.ref r) H'
theorem XO(T:Txt K mg t):bT P w K mg base CX0 9 t.GO t.F5 ["web","outer","wishes"] YX:=by
 have GT:=O5 (P:=P) (w:=w) (base:=base) T (sS T);refine T.FX.F.ok BB (λvs H Q E h=>?_) (λcdv A outer s H vs Q E hr h=>?_)
 ·obtain⟨wa,p,wA,bA,sA,o,tn,on,ws,bs,ss,rfl,_⟩:=h;rfl
 obtain⟨wa,p,wA,bA,sA,o,tn,on,ws,bs,ss,rfl,hM,hF,t40,o40,ho,hW,l1,l2,l3,hok,q⟩:=h;have nd:=BB.nd;refine⟨_,(aC (bX (bK (VU T) hr T.qD aX (aA (pv 0) (aA (pv 1) aE))))
  (aC (aW 3 nd (bK (VV T) hr T.zJ aX (aA (bK (PB T) hr T.FV aX (aA (pv 0) (aA (pv 1) (aA (pv 2) aE)))) aE)))
  (aC (dH (bH lJ (aN aP (pv 3) aG (λ_ _=>rfl)) uF (bO _)) (aL (bE (pv 3))) bW)
  (aC (aW 4 nd (aT dO aG (a8 aU rfl T.dQ PySem.boot_len (aA (aN aP (pv 0) aG (λ_ _=>rfl)) aE))))
  (aC (aW 5 nd (bK GT hr T.vH aX (aA (cH (aA (lI pP (aN aP (pv 3) aG (λ_ _=>rfl)) kO (mO (pv 4))) (aA (lI pP (aN aP (pv 3) aG (λ_ _=>rfl)) (mO (pv 4)) kO) aE))) aE)))
  (aL (bE (cH (aA uF (aA (pv 5) (aA (aN aP (pv 3) aG (λ_ _=>rfl)) aE))))))))))),?_⟩
 refine⟨_,rfl,(aJ _ rfl wa o tn on rfl ⟨ hM,hF,by lia,by lia,λH1 g1=>?_⟩)⟩;have hM1:=hM.same g1;dsimp only;refine UU (λσ' H'=>∃r:Addr,σ'=[some (.ref wa),some (vn o),some (.ref p),some (.ref r),none,none]/\aZ H H'/\((∃la lot,H' r=some (.tup [.str "none",.ref la])/\H' la=some (.lst (lot.map V.int))/\(∀nm,jD tn on nm->NF (cS on.length (LL tn on) o) lot (cD on.length tn nm ws bs ss))/\lot.length<=42/\∀cs ls:List Int,cs.length=2*tn.length->ls.length=2*tn.length->MM.Shp tn on o (at0 cs) (at0 ls)->¬AH bs ss cs ls (2*tn.length))\/∃(z:Str) (ga ra:Addr) (gs:List Int) (nm:List Nat),H' r=some (.tup [.str z,.ref ga,.ref ra])/\decide (V.str z=V.str (Str.ofString "none"))=false/\H' ga=some (.lst (gs.map V.int))/\gs.length=4*tn.length/\jD tn on nm/\nF (cS on.length (LL tn on) o) (cD on.length tn nm ws bs ss) gs/\∀g',nF (cS on.length (LL tn on) o) (cD on.length tn nm ws bs ss) g'->nG (cD on.length tn nm ws bs ss) gs<=nG (cD on.length tn nm ws bs ss) g')) (λN n1=>?_) ?_
 ·refine(bJ _ rfl _ rfl _ rfl (bM wa p wA bA sA on.length o (dA tn on ws bs ss rfl (G0 hM1.w) (eK hM.g t40 o40 ho (hW.mono g1) l1 l2 ⟨ l3,λrn na wl nm H2 g2 _ _ _ hnum hN=>?_⟩))));obtain⟨nok,nlen,wlen⟩:=VY hM.g hF t40 ho hnum l1 hok (bs:=bs) (ss:=ss);have g02:=g1.trans g2;refine(dA rn na wl _ _ rfl hN ⟨ nok,YD l1 hok,by lia,λr la lot H3 g3 f0 f1 f2 f3=>?_,λr ga pb gs H3 g3 f0 f1 G B=>?_⟩)
  ·exact n1 _ _ ⟨r,rfl,g02.trans g3,.inl (fE _ lot f0 f1 (λnm' h=>by rw[jD.uniq hM.g h hnum];exact f2) (by lia) (λcs ls lc ll S F=>V0 (λw hw=>⟨(nok.w w hw).a,(nok.w w hw).b⟩) f2 _ ((uO hM.g hnum hok.s lc ll).mpr ⟨S,F⟩)))⟩
  ·exact n1 _ _ ⟨r,rfl,g02.trans g3,.inr (dA _ ga pb gs nm f0 (by decide +kernel) ⟨ f1,by rw[G.len,wlen],hnum,G,B⟩)⟩
 rintro σ H3 ⟨r,rfl,g3,⟨la,lot,f0,f4⟩ | ⟨z,ga,ra,gs,nm,f0,fz,f1,hg,hnum,G,B⟩⟩
 ·exact(aJ _ rfl r _ 0 _ rfl (bQ rfl (SqT.of f0) rfl rfl _ rfl (gC (by rfl) ⟨_,rfl,q _ _ g3 (.inl ⟨_,lot,f0,f4⟩)⟩)))
 obtain⟨tA,oA,e1,⟨tr,e2,e3,e4⟩,_⟩:=(hM.same g3).w;refine(aJ _ rfl r _ 0 _ rfl (bQ rfl (SqT.of f0) rfl rfl _ rfl (fU fz ?_)));refine(aJ _ rfl wa _ 1 _ rfl (cQ rfl (SqT.of e1) rfl tA _ rfl (.inl (SqL.of e2)) (a9 _ _ rfl rfl (.inl ⟨by decide,by decide⟩) ?_)));have em:2*(((tr.map V.ref).length:Nat):Int)=((2*tn.length:Nat):Int):=by rw[Zq,e3,AW.uT];lia
 show jH 4 (V.int (2*(((tr.map V.ref).length:Nat):Int))) _ _ _;rw[em];dsimp only[jH];refine(aJ _ rfl r _ 1 _ rfl (eZ rfl (SqT.of f0) rfl _ rfl _ rfl ⟨ ga,_,rfl,SqL.of f1,λc hc=>?_⟩));rw[TR];have k4:=aI hc (.lst ((gs.map V.int).take (2*tn.length)));refine(aJ _ rfl r _ 1 _ rfl (eZ rfl (SqT.of (k4 _ _ f0)) rfl _ rfl _ rfl ⟨ ga,_,rfl,SqL.of (k4 _ _ f1),λd hd=>?_⟩));rw[M7];have k5:=aI hd (.lst ((gs.map V.int).drop (2*tn.length)));refine⟨(by show 2<=ZW;decide),λu hu=>?_⟩;have k6:=aI hu (.tup [.ref c,.ref d]);refine(eY u c d tn.length (gs.take (2*tn.length)) (gs.drop (2*tn.length)) rfl (nJ (SqT.of aB) (SqL.of (k6 _ _ (k5 _ _ (by rw[aB,List.map_take])))) (SqL.of (k6 _ _ (by rw[aB,List.map_drop]))) (by rw[Yf];lia) (by lia) (λv a b H4 g4 na nb _ v1 v2 v3=>?_)));have g46:=k4.trans (k5.trans (k6.trans g4));have lc2:(gs.take (2*tn.length)).length=2*tn.length:=by rw[Yw];lia
 have ll2:(gs.drop (2*tn.length)).length=2*tn.length:=by rw[Yf];lia
 rw[<-List.take_append_drop (2*tn.length) gs]at G B;obtain⟨S2,F2⟩:=(uO hM.g hnum hok.s lc2 ll2).mp G;refine⟨_,rfl,(aJ _ rfl r _ 2 _ rfl ⟨ rfl,SqT.of (g46 _ _ f0),rfl,(by show 3<=ZW;decide),λy hy=>q _ _ (g3.trans (g46.trans (aI hy _))) (.inr (eY v a b ra (gs.take (2*tn.length)) ((List.range (2*tn.length)).map (few (gs.drop (2*tn.length)))) aB (nJ ⟨aI hy _ _ _ v1,aI hy _ _ _ v2,by rw[Yh];exact aI hy _ _ _ v3⟩ lc2 (by simp) (RW hM.g S2) (FP S2.pos F2) (λc2 l2 hc hl S F=>?_))))⟩)⟩;have:=B _ ((uO hM.g hnum hok.s hc hl).mpr ⟨S,F⟩);rw[zT lc2 ll2,zT hc hl]at this;exact Int.le_trans (QU hok.w l1 S2.pos) this
end K29
namespace L2
open PySem PyProof.Rows
structure L3(H0 H:Hp)(p1 p2 p3:Addr)(X Y Z:List V):Prop where
 g:aZ H0 H
 a:H p1=some (.lst X)
 b:H p2=some (.lst Y)
 c:H p3=some (.lst Z)
 na:H0 p1=none
 nb:H0 p2=none
 nc:H0 p3=none
 ab:p1≠p2
 ac:p1≠p3
 bc:p2≠p3
section
variable{H0 H:Hp}{a b c:Addr}{X Y Z:List V}
theorem L3.new(h:L3 H0 H a b c X Y Z){p:Addr}(hp:H p=none)(o:HO):L3 H0 (upd H p o) a b c X Y Z :=
 have g:=aI hp o
 ⟨h.g.trans g,g _ _ h.a,g _ _ h.b,g _ _ h.c,h.na,h.nb,h.nc,h.ab,h.ac,h.bc⟩
theorem L3.setA(h:L3 H0 H a b c X Y Z)(X':List V):L3 H0 (upd H a (.lst X')) a b c X' Y Z :=
 ⟨λd o q=>by rw[aK (aH q h.na)];exact h.g _ _ q,aB,by rw[aK h.ab.symm];exact h.b,by rw[aK h.ac.symm];exact h.c,h.na,h.nb,h.nc,h.ab,h.ac,h.bc⟩
theorem L3.setB(h:L3 H0 H a b c X Y Z)(X':List V):L3 H0 (upd H b (.lst X')) a b c X X' Z :=
 ⟨λd o q=>by rw[aK (aH q h.nb)];exact h.g _ _ q,by rw[aK h.ab];exact h.a,aB,by rw[aK h.bc.symm];exact h.c,h.na,h.nb,h.nc,h.ab,h.ac,h.bc⟩
theorem L3.setC(h:L3 H0 H a b c X Y Z)(X':List V):L3 H0 (upd H c (.lst X')) a b c X Y X' :=
 ⟨λd o q=>by rw[aK (aH q h.nc)];exact h.g _ _ q,by rw[aK h.ac];exact h.a,by rw[aK h.bc];exact h.b,aB,h.na,h.nb,h.nc,h.ab,h.ac,h.bc⟩
end
end L2
namespace K29
open PySem L2 PyProof.Rows
theorem XI(m:Int):∃z:Int,atI [V.int 1,V.int 1,V.int (m / 4%4),V.int (m / 4%1001)] (m%4)=some (.int z)/\0<=z/\z<=1000:=by
 have h:m%4=0\/m%4=1\/m%4=2\/m%4=3:=by lia
 rcases h with h | h | h | h<;>rw[h]
 ·exact⟨_,rfl,by lia,by lia⟩
 ·exact⟨_,rfl,by lia,by lia⟩
 ·exact⟨_,rfl,by lia,by lia⟩
 ·exact⟨_,rfl,by lia,by lia⟩
theorem XJ(m b x y:Int)(hb:b=0\/b=1)(hx:0<=x/\x<=1000)(hy:0<=y/\y<=1000):∃o:Option Int,atI [V.non,V.non,V.int x,V.int y] (m / 16%4*b)=some (vo o)/\(∀z,o=some z->0<=z/\z<=1000)/\(b=0->o=none):=by
 rcases hb with rfl | rfl
 ·rw[Int.mul_zero];exact⟨none,rfl,λz h=>(by cases h),λ_=>rfl⟩
 ·rw[Int.mul_one];have h:m / 16%4=0\/m / 16%4=1\/m / 16%4=2\/m / 16%4=3:=by lia
  rcases h with h | h | h | h<;>rw[h]
  ·exact⟨none,rfl,λz h=>(by cases h),λ_=>rfl⟩
  ·exact⟨none,rfl,λz h=>(by cases h),λ_=>rfl⟩
  ·exact⟨some x,rfl,λz h=>(by cases h;exact hx),λh=>(by cases h)⟩
  ·exact⟨some y,rfl,λz h=>(by cases h;exact hy),λh=>(by cases h)⟩
def N6(K:PySem.W.Frag):Sp:=λvs H Q _=>∃(ta:Addr) (xs:List V) (c b:Int),vs=[.ref ta,.int c,.int b]/\SqL K H ta xs/\xs.length<=100/\(b=0\/b=1) /\
 ∀(p wa ba sa:Addr) (ws:List Int) (bs ss:List (Option Int)) (H':Hp),L3 H H' wa ba sa (ws.map V.int) (vos bs) (vos ss)->H' p=some (.tup [.ref wa,.ref ba,.ref sa])->H p=none ->
  ws.length=xs.length->bs.length=xs.length->ss.length=2*xs.length->GQ ws bs ss->(b=0->(∀x∈bs,x=none)/\∀x∈ss,x=none)->Q (.ref p) H'
theorem HX(T:Txt K mg t)(T7:bT P w K mg base CX0 1 t.EB t.DT ["_law_cell","_law_k"] UG)(CI:bT P w K mg base CX0 1 t.uX t.uS ["_law_number","_law_by","_law_k"] JV) :
  bT P w K mg base CX0 2 t.AA t.zP ["_law_ties","_law_cell","_law_barred"] (N6 K):=by
 refine T.zG.F.ok u6 (λvs H Q E h=>?_) (λcdv A outer s H vs Q E hr h=>?_)
 ·obtain⟨ta,xs,c,b,rfl,_⟩:=h;rfl
 obtain⟨ta,xs,c,b,rfl,hS,hn,hb,q⟩:=h;have nd:=u6.nd;refine⟨_,(aC (aW 3 nd (cC aE))
  (aC (aW 4 nd (cC aE))
  (aC (aW 5 nd (cC aE))
  (aC (cV PassesOwn.never rfl (cX rfl T.dZ (aA (a8 aU rfl T.dQ PySem.boot_len (aA (pv 0) aE)) aE)) (aO (i:=6) nd rfl (Or.inl rfl)) (aC (aW 7 nd (bK T7 hr T.fQ aX (aA (pv 1) (aA (pv 6) aE))))
  (aC (bX (lB mAp b9 (pv 3) (aA (aN aQ (cC (aA aG (aA aG (aA (aT dE (aT eG (pv 7) aG) aG) (aA (aT dE (aT eG (pv 7) aG) aG) aE))))) (aT dE (pv 7) aG) (λ_ _=>rfl)) aE)))
  (aC (bX (lB mAp b9 (pv 4) (aA (aN aQ (cC (aA fI (aA fI (aA (aT dE (aT eG (pv 7) aG) aG) (aA (aT dE (aT eG (pv 7) aG) aG) aE))))) (aT dO (aT dE (aT eG (pv 7) aG) aG) (pv 2)) (λ_ _=>rfl)) aE)))
  (aL (cV PassesOwn.never rfl (cX rfl T.dZ (aA aG aE)) (aO (i:=8) nd rfl (Or.inl rfl)) (aC (bX (lB mAp b9 (pv 5) (aA fI aE)))
  (aL (dH (PW.pt (rB (bH lJ (pv 2) aG (bO _)) (pQ (bH lJ (bK CI hr T.jR aX (aA (aT eG (pv 7) aG) (aA aG (aA (pv 8) aE)))) aG (bO _))))) (aL (hZ (aT c8 aG (aT dE (bK CI hr T.jR aX (aA (aT eG (pv 7) aG) (aA aG (aA (pv 8) aE)))) aG)) (jE (pv 5) (aT c8 (aT dO aG (pv 6)) (pv 8)) set_list))) bW)))))))))
  (aL (bE (cH (aA (pv 3) (aA (pv 4) (aA (pv 5) aE)))))))))),?_⟩
 refine⟨(by show 0<=ZW;decide),λwa hwa=>?_⟩;have g1:=aI hwa (.lst []);refine⟨(by show 0<=ZW;decide),λba hba=>?_⟩;have g2:=g1.trans (aI hba (.lst []));refine⟨(by show 0<=ZW;decide),λsa hsa=>?_⟩;have g3:=g2.trans (aI hsa (.lst []));have nwb:wa≠ba:=aH aB hba;have nws:wa≠sa:=aH (by rw[aK nwb];exact aB) hsa;have nbs:ba≠sa:=aH aB hsa;have l0:L3 H (upd (upd (upd H wa (.lst [])) ba (.lst [])) sa (.lst [])) wa ba sa [] [] [] :=
  ⟨g3,by rw[aK nws,aK nwb];exact aB,by rw[aK nbs];exact aB,aB,hwa,g1.free hba,g2.free hsa,nwb,nws,nbs⟩
 refine(bP _ rfl ta _ rfl (.inl (g3.seq hS)) ⟨ _,rfl,by lia,by lia,fZ (lo:=0) (n:=((xs.length:Nat):Int).toNat)
  (λi σ H'=>∃(ws:List Int) (bs ss:List (Option Int)),L3 H H' wa ba sa (ws.map V.int) (vos bs) (vos ss)/\ws.length=i/\bs.length=i/\ss.length=2*i/\GQ ws bs ss/\(b=0->(∀x∈bs,x=none)/\∀x∈ss,x=none) /\
   ∃o6 o7 o8:Option V,σ=[some (.ref ta),some (.int c),some (.int b),some (.ref wa),some (.ref ba),some (.ref sa),o6,o7,o8])
  (bN ([]) ([]) ([]) l0 rfl rfl rfl ⟨ ⟨λx hx=>by simp at hx,λx hx=>by simp at hx,λx hx=>by simp at hx⟩,(λ_=>⟨λx hx=>(by simp at hx),λx hx=>(by simp at hx)⟩),none,none,none,rfl⟩) ?_ ?_⟩)
 ·rintro i σ H1 hi ⟨ws,bs,ss,l1,hw,hbl,hsl,hwb,hfr,o6,o7,o8,rfl⟩;have hi':i<100:=by lia
  refine(cL _ rfl _ rfl _ _ rfl ⟨ by lia,by lia,λm hm hm'=>?_⟩);obtain⟨z,hz,hz0,hz1⟩:=XI m;obtain⟨o,ho,hob,ho0⟩:=XJ m b (m / 64%3) (m / 64%41) hb (by lia) (by lia);refine(fF _ rfl (.inl ⟨rfl,_,SqL.of l1.a⟩) _ rfl (a9 _ _ rfl rfl ⟨by decide,by decide⟩ (gG _ _ rfl rfl (by show(0:Int)<4;decide) _ rfl (a9 _ _ rfl rfl ⟨by decide,by decide⟩ (fE _ _ rfl rfl (by show(0:Int)<1001;decide) (by show 4<=ZW;decide) (λp hp=>?_))))));have l2:=l1.new hp (.lst [V.int 1,V.int 1,V.int (m / 4%4),V.int (m / 4%1001)]);refine(bR _ rfl _ _ rfl rfl (by show(0:Int)<4;decide) (aM p _ _ _ rfl rfl (SqL.of aB) (xJ hz wa _ _ rfl rfl l2.a ⟨ by rw[Zq,hw];exact Nat.lt_trans hi' (by decide),?_⟩)));have l3:=l2.setA (ws.map V.int++[.int z]);refine(fF _ rfl (.inl ⟨rfl,_,SqL.of l3.b⟩) _ rfl (a9 _ _ rfl rfl ⟨by decide,by decide⟩ (gG _ _ rfl rfl (by show(0:Int)<3;decide) _ rfl (a9 _ _ rfl rfl ⟨by decide,by decide⟩ (fE _ _ rfl rfl (by show(0:Int)<41;decide) (by show 4<=ZW;decide) (λp2 hp2=>?_))))));have l4:=l3.new hp2 (.lst [V.non,V.non,V.int (m / 64%3),V.int (m / 64%41)]);refine(bR _ rfl _ _ rfl rfl ⟨by decide,by decide⟩ (gG _ _ rfl rfl (by show(0:Int)<4;decide) _ rfl (a9 _ _ rfl rfl (.inr (by rcases hb with rfl | rfl<;>decide)) (aM p2 _ _ _ rfl rfl (SqL.of aB) (xJ ho ba _ _ rfl rfl l4.b ⟨ by rw[Zq,hbl];exact Nat.lt_trans hi' (by decide),?_⟩)))));have l5:=l4.setB (vos bs++[vo o]);refine⟨2,rfl,by lia,by lia,fZ (lo:=0) (n:=((2:Int)).toNat)
   (λj σ H'=>∃(ss:List (Option Int)) (o8:Option V),L3 H H' wa ba sa (ws.map V.int++[.int z]) (vos bs++[vo o]) (vos ss)/\ss.length=2*i+j/\(∀x,some x∈ss->1<=x/\x<=4)/\(b=0->∀x∈ss,x=none) /\
    σ=[some (.ref ta),some (.int c),some (.int b),some (.ref wa),some (.ref ba),some (.ref sa),some (.int (0+(i:Nat))),some (.int m),o8])
   (fE ss _ l5 (by lia) hwb.s (λz=>(hfr z).2) rfl) ?_ ?_⟩
  ·rintro j σ H2 hj ⟨ss,o8,l6,hsl,hsb,hs0,rfl⟩;have hj':j<2:=by lia
   refine(lF _ rfl (.inl ⟨rfl,_,SqL.of l6.c⟩) sa _ _ rfl ⟨ rfl,l6.c,by rw[Zq,hsl];exact Yt (by lia:2*i+j<1000) (by decide),?_⟩);have l7:=l6.setC (vos ss++[V.non]);have es:vos ss++[V.non]=vos (ss++[none]):=JH ss none;have hsn:∀x,some x∈ss++[none]->1<=x/\x<=4:=λx hx=>(Zf.mp hx).elim (hsb x) λz=>by simp at z
   have hsz:b=0->∀x∈ss++[none],x=none:=λz x hx=>(Zf.mp hx).elim (hs0 z x) λy=>by simpa using y
   refine(fF _ rfl rfl _ rfl (kG (λhb1=>?_) (λhb1=>iY ?_)))
   ·refine(bR _ rfl _ _ rfl rfl ⟨by decide,by decide⟩ (dS _ rfl _ _ _ rfl (by decide) ⟨ by decide,by lia,by lia,λd hd0 hd1=>⟨rfl,_,rfl,kG (λ_=>?_) (λ_=>?_)⟩⟩))
    ·refine(bR _ rfl _ _ rfl rfl ⟨by decide,by decide⟩ (dS _ rfl _ _ _ rfl (by decide) ⟨ by decide,by lia,by lia,λe he0 he1=>?_⟩));refine(a9 _ _ rfl rfl (by show(0:Int)<4;decide) ⟨ _,_,rfl,rfl,?_⟩);refine(cL _ rfl _ rfl _ _ rfl (nI rfl (.inl ⟨by decide,by decide⟩) _ rfl _ _ rfl (dC rfl sa _ _ (2*i+j) rfl rfl ⟨ l7.c,oV (by rw[Zm,Zq,hsl];simp) (by push_cast;lia),?_⟩)));refine(fE ((ss++[none]).set (2*i+j) (some (1+e%4))) _ ?_ ?_ (λx hx=>?_) (λz=>by have:=V.int.inj (of_decide_eq_true hb1);lia) rfl)
     ·rw[<-wI,<-es];exact l7.setC _
     ·rw[List.length_set,Zm,hsl];rfl
     ·rcases List.mem_or_eq_of_mem_set hx with hx | hx
      ·exact hsn x hx
      ·cases hx;lia
    ·exact(fE (ss++[none]) _ (by rw[<-es];exact l7) (by rw[Zm,hsl];rfl) hsn hsz rfl)
   ·exact(fE (ss++[none]) _ (by rw[<-es];exact l7) (by rw[Zm,hsl];rfl) hsn hsz rfl)
  ·rintro σ H2 ⟨ss,o8,l6,hsl,hsb,hs0,rfl⟩;refine(bN (ws++[z]) (bs++[o]) ss ?_ ?_ ?_ ?_ ⟨ ?_,(λz=>⟨λx hx=>(Zf.mp hx).elim ((hfr z).1 x) λy=>(Zb.mp y).trans (ho0 z),hs0 z⟩),_,_,_,rfl⟩)
   ·rw[Zt,<-JH];exact l6
   ·rw[Zm,hw];rfl
   ·rw[Zm,hbl];rfl
   ·have:(2:Int).toNat=2:=rfl
    lia
   ·refine⟨λx hx=>?_,λx hx=>?_,hsb⟩
    ·rcases Zf.mp hx with hx | hx
     ·exact hwb.w x hx
     ·simp at hx;subst hx;exact⟨hz0,hz1⟩
    ·rcases Zf.mp hx with hx | hx
     ·exact hwb.b x hx
     ·exact hob x (Zb.mp hx).symm
 ·rintro σ H1 ⟨ws,bs,ss,l1,hw,hbl,hsl,hwb,hfr,o6,o7,o8,rfl⟩;refine(EE _ rfl _ rfl _ rfl (by show 3<=ZW;decide) (λp hp=>?_));have e:((xs.length:Nat):Int).toNat=xs.length:=by lia
  exact q p wa ba sa ws bs ss _ (l1.new hp _) aB (l1.g.free hp) (by lia) (by lia) (by lia) hwb hfr
end K29
namespace K29
open PySem L2 PyProof.Rows NM
theorem MV{bs ss:List (Option Int)}{cs ls:List Int}{T:Nat}(hp:∀e,e<2*T->0<=at0 ls e)(h:IZ bs ss cs ls T):AH bs ss cs ls (2*T):=λe he=>by
 refine⟨λb hb=>?_,h.2 e he⟩;have h1:=h.1 (e / 2) (by lia) b hb;unfold sum2 at h1;have p1:=hp (2*(e / 2)) (by lia);have p2:=hp (2*(e / 2)+1) (by lia);have:e=2*(e / 2)\/e=2*(e / 2)+1:=by lia
 rcases this with z | z<;>rw[z]<;>lia
def Fits(ts:MM.bD)(os:MM.a7)(o:Nat)(bs ss:List (Option Int))(cs ls:List Int):Prop:=cs.length=2*ts.length/\ls.length=2*ts.length/\MM.Shp ts os o (at0 cs) (at0 ls)/\AH bs ss cs ls (2*ts.length)
def gY(ts:MM.bD)(os:MM.a7)(o:Nat)(ws:List Int)(bs ss:List (Option Int))(x:Option Int):Prop :=
 (x=none/\∀cs ls,¬Fits ts os o bs ss cs ls)\/∃cs ls,x=some (costOf ws ls ts.length)/\Fits ts os o bs ss cs ls/\∀c2 l2,Fits ts os o bs ss c2 l2->costOf ws ls ts.length<=costOf ws l2 ts.length
theorem gY.alike{ts ts':MM.bD}{os os':MM.a7}{o o':Nat}{ws ws':List Int}{bs ss bs' ss':List (Option Int)}{x y:Option Int}{k:Int}(hk:0<=k)(hx:gY ts os o ws bs ss x)(hy:gY ts' os' o' ws' bs' ss' y)
  (f:∀cs ls,Fits ts os o bs ss cs ls->∃cs' ls',Fits ts' os' o' bs' ss' cs' ls'/\costOf ws' ls' ts'.length=k*costOf ws ls ts.length)
  (g:∀cs' ls',Fits ts' os' o' bs' ss' cs' ls'->∃cs ls,Fits ts os o bs ss cs ls/\costOf ws' ls' ts'.length=k*costOf ws ls ts.length):(x=none/\y=none)\/∃a,x=some a/\y=some (k*a):=by
 rcases hx with⟨rfl,nx⟩ | ⟨cs,ls,rfl,fx,mx⟩<;>rcases hy with⟨rfl,ny⟩ | ⟨cs',ls',rfl,fy,my⟩
 ·exact .inl ⟨rfl,rfl⟩
 ·obtain⟨c,l,h,_⟩:=g _ _ fy;exact absurd h (nx _ _)
 ·obtain⟨c,l,h,_⟩:=f _ _ fx;exact absurd h (ny _ _)
 ·refine .inr ⟨_,rfl,congrArg some ?_⟩;obtain⟨c,l,h,e⟩:=f _ _ fx;obtain⟨c2,l2,h2,e2⟩:=g _ _ fy;have a1:=my _ _ h;have a2:=Int.mul_le_mul_of_nonneg_left (mx _ _ h2) hk
  lia
theorem JK{k:Int}:∀{l:List Nat}{f g:Nat->Int},(∀x∈l,f x=k*g x)->(l.map f).sum=k*(l.map g).sum
 |[],_,_,_=>by simp
 |x::l,f,g,h=>by
  rw[List.map_cons,List.map_cons,List.sum_cons,List.sum_cons,h x Zd,JK (l:=l) λy hy=>h y (Zw _ hy),Int.mul_add]
theorem gY.times{ts:MM.bD}{os:MM.a7}{o:Nat}{ws ws':List Int}{bs ss:List (Option Int)}{x y:Option Int}{k:Int}(hk:0<=k)(hw:∀i,i<ts.length->at0 ws' i=k*at0 ws i)(hx:gY ts os o ws bs ss x)(hy:gY ts os o ws' bs ss y):(x=none/\y=none)\/∃a,x=some a/\y=some (k*a):=by
 have e:∀ls,costOf ws' ls ts.length=k*costOf ws ls ts.length:=λls=>by
  unfold costOf B0;refine JK λi hi=>?_;rw[hw i (Zs.mp hi),Int.mul_left_comm]
 exact hx.alike hk hy (λcs ls h=>⟨cs,ls,h,e ls⟩) λcs ls h=>⟨cs,ls,h,e ls⟩
theorem gY.nones{ts:MM.bD}{os:MM.a7}{o:Nat}{ws ws':List Int}{bs ss:List (Option Int)}{y:Option Int}(hx:gY ts os o ws bs ss none)(hy:gY ts os o ws' bs ss y):y=none:=by
 rcases hx with⟨_,n⟩ | ⟨_,_,z,_⟩
 ·rcases hy with⟨rfl,_⟩ | ⟨_,_,_,h,_⟩
  ·rfl
  ·exact absurd h (n _ _)
 ·cases z
def YY:Sp:=λvs H Q _=>∃(wa p wA bA sA:Addr) (o:Nat) (tn:MM.bD) (on:MM.a7) (ws:List Int) (bs ss:List (Option Int)),vs=[.ref wa,vn o,.ref p]/\Mp H wa tn on/\MM.Flat tn on/\tn.length<=40/\on.length<=40/\o<nL tn on/\wC H p wA bA sA ws bs ss/\ws.length=tn.length/\bs.length=tn.length/\ss.length=2*tn.length/\GQ ws bs ss /\
 ∀(x:Option Int) (H':Hp),aZ H H'->gY tn on o ws bs ss x->Q (vo x) H'
theorem yX(T:Txt K mg t):bT P w K mg base CX0 10 t.qK t.qF ["_law_web","_law_outer","_law_wishes_here"] YY:=by
 have WK:=SV (P:=P) (w:=w) (base:=base) T (O4 T);refine T.fP.F.ok nP (λvs H Q E h=>?_) (λcdv A outer s H vs Q E hr h=>?_)
 ·obtain⟨wa,p,wA,bA,sA,o,tn,on,ws,bs,ss,rfl,_⟩:=h;rfl
 obtain⟨wa,p,wA,bA,sA,o,tn,on,ws,bs,ss,rfl,hM,hF,t40,o40,ho,hW,l1,l2,l3,hok,q⟩:=h;have nd:=nP.nd;refine⟨_,(aC (aW 3 nd (bK (XO T) hr T.FX aX (aA (pv 0) (aA (pv 1) (aA (pv 2) aE)))))
  (aC (dH (bH lJ (aN aP (pv 3) aG (λ_ _=>rfl)) uF (bO _)) (aL (bE fI)) bW)
  (aL (bE (bK WK hr T.QO aX (aA (pv 2) (aA (aN aP (pv 3) aG (λ_ _=>rfl)) aE))))))),?_⟩
 refine(bJ _ rfl _ rfl _ rfl (bM wa p wA bA sA o tn (aM on ws bs ss rfl hM hF (eK t40 o40 ho hW l1 l2 l3 ⟨ hok,λr H1 g1 h=>?_⟩))));rcases h with⟨la,lot,f0,_,_,_,no⟩ | ⟨v,a,b,ra,cs,ls,f0,sh,c1,c2,S,k,m⟩
 ·exact(aJ _ rfl r _ 0 _ rfl (bQ rfl (SqT.of f0) rfl rfl _ rfl (gC (by decide +kernel) (q none _ g1 (.inl ⟨rfl,λcs ls h=>no cs ls h.1 h.2.1 h.2.2.1 h.2.2.2⟩)))))
 ·refine(aJ _ rfl r _ 0 _ rfl (bQ rfl (SqT.of f0) rfl rfl _ rfl (fU (by decide +kernel) ?_)));exact⟨_,rfl,(aJ _ rfl r _ 1 _ rfl ⟨ rfl,SqT.of f0,rfl,(bM p wA bA sA v a b (eY tn.length ws bs ss cs ls rfl ⟨ hW.mono g1,sh,⟨l1,l2,l3,c1,c2,by lia,hok.w⟩,λH2 g2=>q (some _) _ (g1.trans g2) (.inr ⟨cs,ls,rfl,⟨c1,c2,S,MV S.pos k⟩,λc2 l2 h=>m c2 l2 h.1 h.2.1 h.2.2.1 h.2.2.2⟩)⟩))⟩)⟩
end K29
namespace MM
theorem FK(t:List Nat)(b:Nat):(t++[b]).getD t.length 0=b:=by
 rw[Zv,Zy (Nat.le_refl _),Nat.sub_self];rfl
theorem mK{a:Nat}{t:List Nat}(nd:(a::t).Nodup):cG (a::t) a=(a::t).getD t.length 0:=by
 rw[eJ (k:=0) nd rfl,if_pos rfl];rfl
theorem LY{x:Nat}{m:List Nat}(nd:(x::m).Nodup)(nd':(m.reverse++[x]).Nodup):cG (m.reverse++[x]) (cG (x::m) x)=x:=by
 rcases List.eq_nil_or_concat m with rfl | ⟨m',b,rfl⟩
 ·rw[mK nd];exact mK nd'
 ·rw[List.concat_eq_append]at nd nd' ⊢;rw[List.reverse_append]at nd' ⊢;have e1:cG (x::(m'++[b])) x=b:=by
   rw[mK nd,Zm];exact FK m' b
  rw[e1];refine(mK (a:=b) (t:=m'.reverse++[x]) nd').trans ?_;rw[Zm];exact FK _ x
theorem OR{l:List Nat}(nd:l.Nodup){x:Nat}(hx:x∈l):cG l.reverse (cG l x)=x:=by
 obtain⟨k,hk,ek⟩:=Yy.mp hx;have e:l.drop k=x::l.drop (k+1):=by rw[List.drop_eq_getElem_cons hk,ek]
 have pm:(l.drop k++l.take k).Perm l:=Rot.perm ⟨k,rfl⟩;have n1:=pm.nodup_iff.mpr nd;have r1:=mL nd (k:=k) hx;have eR:l.reverse=(l.drop k).reverse++(l.take k).reverse:=by rw[<-List.reverse_append,List.take_append_drop]
 have nR:l.reverse.Nodup:=(List.reverse_perm l).nodup_iff.mpr nd;have r2:=mL nR (k:=(l.drop k).reverse.length) (List.mem_reverse.mpr (yR hx));rw[<-r2,eR,List.drop_left,List.take_left,<-List.reverse_append,<-r1,e,Yb];rw[e,Yb]at n1;have n2:((l.drop (k+1)++l.take k).reverse++[x]).Nodup:=by
  have:=(List.reverse_perm (x::(l.drop (k+1)++l.take k))).nodup_iff.mpr n1
  rwa [List.reverse_cons]at this
 rw[List.reverse_cons];exact LY n1 n2
def rv(os:a7):a7:=os.map List.reverse
theorem mH(os:a7):(rv os).length=os.length:=by unfold rv;rw[Zq]
theorem qX(os:a7)(p:Nat):row (rv os) p=(row os p).reverse:=by
 unfold row rv;rw[Zv,Zv,Zk];cases os[p]? with
 |none=>rfl
 |some l=>rfl
theorem UH(os:a7):rv (rv os)=os:=by
 unfold rv;rw[Yh];have:(List.reverse∘List.reverse:List Nat->List Nat)=id:=by funext l;simp
 rw[this,List.map_id]
theorem Good.rv{ts:bD}{os:a7}(g:Good ts os):Good ts (rv os) where
 one:=g.one
 g:={
  ends:=λp e he=>g.g.ends p e (by rw[qX]at he;exact List.mem_reverse.mp he)
  has:=λe he=>by rw[mH,qX];exact⟨(g.g.has e he).1,List.mem_reverse.mpr (g.g.has e he).2⟩
  nd:=λp=>by rw[qX];exact(List.reverse_perm _).nodup_iff.mpr (g.g.nd p)
  full:=λp hp=>by rw[qX];rw[mH]at hp;exact λz=>g.g.full p hp (List.reverse_eq_nil_iff.mp z)
  four:=λp=>by rw[qX,List.length_reverse];exact g.g.four p }
theorem uU{ts:bD}{os:a7}(g:Good ts os){e:Nat}(he:e<2*ts.length):behind ts (rv os) (oth (behind ts os e))=oth e:=by
 have hb:=g.behind he;show cG (row (rv os) (place ts (oth (oth (behind ts os e))))) (oth (oth (behind ts os e)))=oth e;rw[cM,hb.2,qX];exact OR (g.g.nd _) (g.g.has _ (bG he)).2
theorem GI{ts:bD}{os:a7}(g:Good ts os){x:Nat}(hx:x<2*ts.length):∃e,e<2*ts.length/\oth (behind ts os e)=x:=by
 obtain⟨k,h0,_,h⟩:=gS g.maps (bG hx);refine⟨iter (behind ts os) (k-1) (oth x),cP g.maps (bG hx) _,?_⟩;have e:k=(k-1)+1:=by lia
 have:iter (behind ts os) (k-1+1) (oth x)=oth x:=by rw[<-e];exact h
 have e2:behind ts os (iter (behind ts os) (k-1) (oth x))=oth x:=this;rw[e2,cM]
theorem zV{ts:bD}{os:a7}(g:Good ts os){a b:Nat}(ha:a<2*ts.length)(hb:b<2*ts.length)(h:oth (behind ts os a)=oth (behind ts os b)):a=b:=g.maps.inj a b ha hb (fY h)
def Mir(f g:Nat->Nat)(N:Nat):Prop:=∀e,e<N->g (oth (f e))=oth e
theorem Mir.steps{f g:Nat->Nat}{N:Nat}(m:cE f N)(h:Mir f g N){e:Nat}(he:e<N):∀k,iter g k (oth (iter f k e))=oth e
 |0=>rfl
 |k+1=>by
  rw[MW g];show MM.iter g k (g (oth (f (MM.iter f k e))))=oth e;rw[h _ (cP m he k)];exact Mir.steps m h he k
theorem Mir.land{f g:Nat->Nat}{T:Nat}(m:cE f (2*T))(k:cE g (2*T))(h:Mir f g (2*T)){x y:Nat}(hx:x<2*T)(hy:y∈aR f x):oth y∈aR g (oth x):=by
 obtain⟨n,rfl⟩:=(bS m hx).mp hy;have hl:=bG (cP m hx n);exact fO k hl ((bS k hl).mpr ⟨n,Mir.steps m h hx n⟩)
theorem Mir.symm{f g:Nat->Nat}{T:Nat}(m:cE f (2*T))(h:Mir f g (2*T)):Mir g f (2*T):=by
 intro e he;obtain⟨k,h0,_,hk⟩:=gS m (bG he);have e1:k=(k-1)+1:=by lia
 have hz:iter f (k-1) (oth e)<2*T:=cP m (bG he) _;have h2:f (iter f (k-1) (oth e))=oth e:=by
  have:iter f (k-1+1) (oth e)=oth e:=by rw[<-e1];exact hk
  exact this
 have h3:=h _ hz;rw[h2,cM]at h3;rw[h3,cM,h2]
theorem QG{ts:bD}{os:a7}(g:Good ts os):Mir (behind ts os) (behind ts (rv os)) (2*ts.length):=λe he=>uU g he
theorem wY{ts:bD}{os:a7}(g:Good ts os){x y:Nat}(hx:x<2*ts.length):oth y∈aR (behind ts (rv os)) (oth x)↔y∈aR (behind ts os) x:=by
 have m:=g.maps;have k:=g.rv.maps;have h:=QG g;constructor
 ·intro q;have:=Mir.land k m (h.symm m) (bG hx) q
  rwa [cM,cM]at this
 ·intro q;exact Mir.land m k h hx q
theorem R1{ts:bD}{os:a7}(g:Good ts os){R:List Nat}(a:tR (behind ts os) (List.range (2*ts.length)) R):tR (behind ts (rv os)) (List.range (2*ts.length)) (R.map oth):=by
 have lt:∀r∈R,r<2*ts.length:=λr h=>Zs.mp (a.of r h);obtain⟨nd,of,all,sep⟩:=a;refine⟨?_,λr hr=>?_,λx hx=>?_,λr hr r' hr' z=>?_⟩
 ·rw[List.Nodup,List.pairwise_map];exact List.Pairwise.imp (λh z=>h (fY z)) nd
 ·obtain⟨y,hy,rfl⟩:=Zh.mp hr;exact Zs.mpr (bG (lt y hy))
 ·have hxN:=Zs.mp hx;obtain⟨r,h1,h2⟩:=all (oth x) (Zs.mpr (bG hxN));refine⟨oth r,Zh.mpr ⟨r,h1,rfl⟩,?_⟩;have:=(wY g (lt r h1)).mpr h2
  rwa [cM]at this
 ·obtain⟨y,hy,rfl⟩:=Zh.mp hr;obtain⟨y',hy',rfl⟩:=Zh.mp hr';rw[sep y hy y' hy' ((wY g (lt y hy)).mp z)]
theorem ML{ts:bD}{os:a7}(g:Good ts os):eP ts (rv os)=eP ts os:=by
 obtain⟨R,a,l⟩:=wO g.maps;have:=gQ g.rv.maps (R1 g a);unfold eP;rw[this,Zq,l]
theorem TJ{ts:bD}{os:a7}(g:Good ts os)(fl:Flat ts os):Flat ts (rv os):=by
 unfold Flat at *;rw[ML g,mH];exact fl
theorem xV{f:Nat->Int}{φ:Nat->Nat}{a b:List Nat}(na:a.Nodup)(nb:b.Nodup)(inj:∀x∈b,∀y∈b,φ x=φ y->x=y)(h:∀z,z∈a↔∃x∈b,φ x=z):su a f=su b λx=>f (φ x):=by
 rw[<-xU f φ b];refine pO (wR na ?_ λz=>(h z).trans Zh.symm);rw[List.Nodup,List.pairwise_map];exact List.Pairwise.imp_of_mem (λ{x y} hx hy ne z=>ne (inj x hx y hy z)) nb
theorem jW{ts:bD}{os:a7}(g:Good ts os){k:Nat}{d:List Nat}(h:(lls ts os)[k]?=some d){x:Nat}(hx:x∈d):∀y,y∈d↔y∈aR (behind ts os) x:=by
 have m:=g.maps;obtain⟨e,he,rfl⟩:=rH m _ (List.range (2*ts.length)) (Nat.le_refl _) (λz hz=>Zs.mp hz) d (Zg h);have he:=Zs.mp he;have hxN:=iA m he x hx;intro y;constructor
 ·intro hy;exact eX m hxN (fO m he hx) hy
 ·intro hy;exact eX m he hx hy
theorem OJ{ts:bD}{os:a7}{o k:Nat}{c l c' l':Nat->Int}{d:List Nat}(g:Good ts os)(s:Shp ts os o c l)(hc:∀e,e<2*ts.length->c' (oth (behind ts os e))=c e)(hl:∀e,e<2*ts.length->l' e=l (oth e))
  (hk:(lls ts (rv os))[k]?=some d) (ho:o<(lls ts os).length) (hd:oth (((lls ts os)[o]).getD 0 0)∈d):Shp ts (rv os) k c' l':=by
 have m:=g.maps;have gR:=g.rv;have onto:=λ{x:Nat}(hx:x<2*ts.length)=>GI g hx;have hLo:=Zz ho;have Lo:=cY g hLo;have hp:0<((lls ts os)[o]).length:=List.length_pos_iff.mpr Lo.2.2.2;have hfm:((lls ts os)[o]).getD 0 0∈(lls ts os)[o]:=by simp[List.getD,hp]
 have hf:=Lo.2.1 _ hfm;refine⟨⟨λe he=>?_,λe he=>?_,λp hp=>?_⟩,λe he=>by rw[hl e he];exact s.pos _ (bG he),λj dj hj=>?_⟩
 ·obtain⟨z,hz,rfl⟩:=onto he;rw[hc z hz];exact s.pl.lo z hz
 ·obtain⟨z,hz,rfl⟩:=onto he;rw[hc z hz];exact s.pl.hi z hz
 ·rw[mH]at hp;rw[qX,pO (List.reverse_perm _)];have e1:=s.pl.at_ p hp;rw[<-e1];have key:su (row os p) (λz=>c' (oth z))=su ((row os p).map oth) (λe=>c' (oth (behind ts os e))):=by
   refine xV (g.g.nd p) ?_ ?_ λz=>?_
   ·rw[List.Nodup,List.pairwise_map];exact List.Pairwise.imp (λh q=>h (fY q)) (g.g.nd p)
   ·intro x hx y hy q;obtain⟨x',hx',rfl⟩:=Zh.mp hx;obtain⟨y',hy',rfl⟩:=Zh.mp hy;exact m.inj _ _ (bG (g.g.ends p x' hx').1) (bG (g.g.ends p y' hy').1) q
   ·constructor
    ·intro hz;have q:=g.g.ends p z hz;obtain⟨e,he,ee⟩:=onto (bG q.1);have ez:behind ts os e=z:=fY ee;refine⟨e,Zh.mpr ⟨oth e,?_,cM e⟩,ez⟩;have hb:=(g.behind he).2;rw[ez,q.2]at hb;have:=(g.g.has (oth e) (bG he)).2;rw[<-hb]at this;exact this
    ·rintro⟨x,hx,rfl⟩;obtain⟨x',hx',rfl⟩:=Zh.mp hx;have q:=g.g.ends p x' hx';have hb:=g.behind (bG q.1);have:=(g.g.has _ hb.1).2;rw[hb.2,cM,q.2]at this;exact this
  rw[key,xU];exact e9 λx hx=>hc _ (bG (g.g.ends p x hx).1)
 ·
  have Lj:=cY gR hj;obtain⟨x,hx⟩:=List.exists_mem_of_ne_nil _ Lj.2.2.2;have hxN:=Lj.2.1 x hx;obtain⟨nm,num⟩:=PN g;obtain⟨d0,h1,h2⟩:=PP g num (bG hxN);have L0:=cY g h1;have mem:∀z,z∈dj↔oth z∈d0:=λz=>by
   rw[jW gR hj hx z,jW g h1 h2 (oth z),<-wY g (bG hxN),cM,cM]
  have e1:su dj (trm c' l')=su d0 (λy=>trm c' l' (oth y)):=by
   refine xV Lj.1 L0.1 (λx _ y _ q=>fY q) λz=>?_;rw[mem z];constructor
   ·intro q;exact⟨oth z,q,cM z⟩
   ·rintro⟨y,hy,rfl⟩;rw[cM];exact hy
  have e2:su d0 (λy=>trm c' l' (oth y))=su d0 (λe=>trm c' l' (oth (behind ts os e))):=by
   refine xV L0.1 L0.1 (λx hx y hy q=>m.inj x y (L0.2.1 x hx) (L0.2.1 y hy) q) λz=>?_;constructor
   ·intro hz;obtain⟨e,he,ee⟩:=onto (bG (L0.2.1 z hz));have ez:behind ts os e=z:=fY ee;exact⟨e,(L0.2.2.1 e he).mp (by rw[ez];exact hz),ez⟩
   ·rintro⟨e,he,rfl⟩;exact(L0.2.2.1 e (L0.2.1 e he)).mpr he
  have e3:su d0 (λe=>trm c' l' (oth (behind ts os e)))=su d0 (λe=>(2-c e)+(l (behind ts os e)-l (oth (behind ts os e)))):=e9 λe he=>by
   have hb:=m.lt e (L0.2.1 e he);unfold trm;rw[hc e (L0.2.1 e he),cM,hl _ (bG hb),hl _ hb,cM]
   lia
  have e4:su d0 (λe=>l (behind ts os e)-l (oth (behind ts os e)))=su d0 (λe=>l e-l (oth e)):=by
   refine(xV (f:=λe=>l e-l (oth e)) L0.1 L0.1 (λx hx y hy q=>m.inj x y (L0.2.1 x hx) (L0.2.1 y hy) q) λz=>?_).symm;constructor
   ·intro hz;obtain⟨e,he,ee⟩:=onto (bG (L0.2.1 z hz));have ez:behind ts os e=z:=fY ee;exact⟨e,(L0.2.2.1 e he).mp (by rw[ez];exact hz),ez⟩
   ·rintro⟨e,he,rfl⟩;exact(L0.2.2.1 e (L0.2.1 e he)).mpr he
  have e5:su d0 (trm c l)=su d0 (λe=>(2-c e)+(l e-l (oth e))):=e9 λe _=>by unfold trm;lia
  rw[e1,e2,e3,CT,e4,<-CT,<-e5,s.ld _ d0 h1];have hiff:j=k↔nm (oth x)=o:=by
   have hfk:oth (((lls ts os)[o]).getD 0 0)∈dj↔j=k:=by
    constructor
    ·intro q;exact lN gR hj q hk hd
    ·intro q;subst q;rw[hk]at hj;cases hj;exact hd
   rw[<-hfk,mem,cM];constructor
   ·intro q;exact lN g h1 q hLo hfm
   ·intro q;rw[q,hLo]at h1;cases h1;exact hfm
  by_cases q:j=k
  ·rw[if_pos q,if_pos (hiff.mp q)]
  ·rw[if_neg q,if_neg (λz=>q (hiff.mpr z))]
structure Ren(ts told:bD)(os rows:a7)(φ Pl:Nat->Nat):Prop where
 g:Good ts os
 g':Good told rows
 N:told.length=ts.length
 P:rows.length=os.length
 m:cE φ (2*ts.length)
 p:cE Pl os.length
 o:∀e,oth (φ e)=φ (oth e)
 b:∀e,e<2*ts.length->behind told rows (φ e)=φ (behind ts os e)
 r:∀q,q<os.length->(row rows (Pl q)).Perm ((row os q).map φ)
section
variable{ts told:bD}{os rows:a7}{φ Pl:Nat->Nat}
theorem Ren.it(R:Ren ts told os rows φ Pl){x:Nat}(hx:x<2*ts.length):∀n,iter (behind told rows) n (φ x)=φ (iter (behind ts os) n x)
 |0=>rfl
 |n+1=>by
  show behind told rows (iter (behind told rows) n (φ x))=φ (behind ts os (iter (behind ts os) n x));rw[R.it hx n,R.b _ (cP R.g.maps hx n)]
theorem Ren.land(R:Ren ts told os rows φ Pl){k k' y:Nat}{d d':List Nat}(hd:(lls ts os)[k]?=some d)(hy:y∈d)(hd':(lls told rows)[k']?=some d')(hy':φ y∈d')(z:Nat):z∈d'↔∃x∈d,φ x=z:=by
 have hyN:=(cY R.g hd).2.1 y hy;have hyN':=(cY R.g' hd').2.1 _ hy';rw[jW R.g' hd' hy',bS R.g'.maps hyN'];constructor
 ·rintro⟨n,rfl⟩;exact⟨_,(jW R.g hd hy _).mpr ((bS R.g.maps hyN).mpr ⟨n,rfl⟩),(R.it hyN n).symm⟩
 ·rintro⟨x,hx,rfl⟩;obtain⟨n,rfl⟩:=(bS R.g.maps hyN).mp ((jW R.g hd hy _).mp hx);exact⟨n,R.it hyN n⟩
theorem Ren.sums(R:Ren ts told os rows φ Pl){c l c' l':Nat->Int}(hc:∀e,e<2*ts.length->c' (φ e)=c e)(hl:∀e,e<2*ts.length->l' (φ e)=l e){k k' y:Nat}{d d':List Nat}(hd:(lls ts os)[k]?=some d)(hy:y∈d)(hd':(lls told rows)[k']?=some d')(hy':φ y∈d'):su d' (trm c' l')=su d (trm c l):=by
 have L:=cY R.g hd;rw[xV (cY R.g' hd').1 L.1 (λx hx y hy h=>R.m.inj x y (L.2.1 x hx) (L.2.1 y hy) h) (R.land hd hy hd' hy')];refine e9 λx hx=>?_;have hx:=L.2.1 x hx;unfold trm;rw[R.o,hc x hx,hl x hx,hl _ (bG hx)]
theorem Ren.same(R:Ren ts told os rows φ Pl){o o' x k k' y:Nat}{e e' d d':List Nat}(he:(lls ts os)[o]?=some e)(hx:x∈e)(he':(lls told rows)[o']?=some e')(hx':φ x∈e')(hd:(lls ts os)[k]?=some d)(hy:y∈d)(hd':(lls told rows)[k']?=some d')(hy':φ y∈d'):k=o↔k'=o':=by
 constructor
 ·rintro rfl;rw[hd]at he;cases he;exact lN R.g' hd' ((R.land hd hy hd' hy' _).mpr ⟨x,hx,rfl⟩) he' hx'
 ·rintro rfl;rw[hd']at he';cases he';obtain⟨z,hz,q⟩:=(R.land hd hy hd' hy' _).mp hx';have:=R.m.inj _ _ ((cY R.g hd).2.1 z hz) ((cY R.g he).2.1 x hx) q;rw[this]at hz;exact lN R.g hd hz he hx
theorem Ren.shp(R:Ren ts told os rows φ Pl){o o' x:Nat}{e e':List Nat}{c l c' l':Nat->Int}(hc:∀e,e<2*ts.length->c' (φ e)=c e)(hl:∀e,e<2*ts.length->l' (φ e)=l e)(he:(lls ts os)[o]?=some e)(hx:x∈e)(he':(lls told rows)[o']?=some e')(hx':φ x∈e') :
  Shp told rows o' c' l'↔Shp ts os o c l:=by
 have sur:∀{z},z<2*told.length->∃x,x<2*ts.length/\φ x=z:=λ{z} hz=>nN R.m (by rw[<-R.N];exact hz);have lt:∀{z},z<2*ts.length->φ z<2*told.length:=λ{z} hz=>by rw[R.N];exact R.m.lt z hz
 have rw':∀q,q<os.length->su (row rows (Pl q)) (λe=>c' (oth e))=su (row os q) λe=>c (oth e):=λq hq=>by
  rw[pO (R.r q hq),xU];refine e9 λx hx=>?_;rw[R.o,hc _ (bG (R.g.g.ends q x hx).1)]
 constructor
 ·intro S;refine⟨⟨λe h=>by rw[<-hc e h];exact S.pl.lo _ (lt h),λe h=>by rw[<-hc e h];exact S.pl.hi _ (lt h),λq hq=>by rw[<-rw' q hq];exact S.pl.at_ _ (by rw[R.P];exact R.p.lt q hq)⟩,λe h=>by rw[<-hl e h];exact S.pos _ (lt h),λk d hd=>?_⟩;obtain⟨y,hy⟩:=List.exists_mem_of_ne_nil _ (cY R.g hd).2.2.2;obtain⟨k',d',hd',hy',_⟩:=fD R.g'.maps (x:=φ y) (lt ((cY R.g hd).2.1 y hy));rw[<-R.sums hc hl hd hy hd' hy',S.ld k' d' hd'];simp only[R.same he hx he' hx' hd hy hd' hy']
 ·intro S;refine⟨⟨λe h=>?_,λe h=>?_,λq hq=>?_⟩,λe h=>?_,λk' d' hd'=>?_⟩
  ·obtain⟨z,hz,rfl⟩:=sur h;rw[hc z hz];exact S.pl.lo z hz
  ·obtain⟨z,hz,rfl⟩:=sur h;rw[hc z hz];exact S.pl.hi z hz
  ·obtain⟨p,hp,rfl⟩:=nN R.p (by rw[<-R.P];exact hq);rw[rw' p hp];exact S.pl.at_ p hp
  ·obtain⟨z,hz,rfl⟩:=sur h;rw[hl z hz];exact S.pos z hz
  ·obtain⟨z,hz'⟩:=List.exists_mem_of_ne_nil _ (cY R.g' hd').2.2.2;obtain⟨y,hyN,rfl⟩:=sur ((cY R.g' hd').2.1 z hz');obtain⟨k,d,hd,hy,_⟩:=fD R.g.maps (x:=y) hyN;rw[R.sums hc hl hd hy hd' hz',S.ld k d hd];simp only[R.same he hx he' hx' hd hy hd' hz']
theorem Ren.fc(R:Ren ts told os rows φ Pl)(f:FC ts os):FC told rows:=by
 have m':=R.g'.maps;rw[R.N]at m';have h:=yO R.g.maps m' R.m R.o R.b;refine⟨?_,?_⟩
 ·have:=f.flat;unfold Flat eP at this ⊢;rw[R.P,R.N,h.1];exact this
 ·unfold kH;rw[R.N];exact h.2 f.conn
end
theorem E4{ts told:bD}{os rows:a7}(g:Good ts os){U F Pl:Nat->Nat}(hU:cE U ts.length)(hF:∀k,F k<=1)(hP:cE Pl os.length)(ht:told.length=ts.length)(hr:rows.length=os.length)
  (hv:∀k,k<ts.length->told.getD (U k) (0,0)=if F k=0 then (Pl (ts.getD k (0,0)).1,Pl (ts.getD k (0,0)).2) else (Pl (ts.getD k (0,0)).2,Pl (ts.getD k (0,0)).1))
  (hw:∀p,p<os.length->∃l:List Nat,row rows (Pl p)=l.map (nmF U F)/\Rot l (row os p)):Ren ts told os rows (nmF U F) Pl:=by
 have good:=mI g hU hF hP ht hr hv λp hp=>by obtain⟨l,h1,h2⟩:=hw p hp;exact⟨l,h1,h2.perm⟩
 refine⟨g,good,ht,hr,oO hU hF,hP,λe=>wV hF e,λe he=>?_,λq hq=>by obtain⟨l,h1,h2⟩:=hw q hq;rw[h1];exact h2.perm.map _⟩;have ho:=bG he;have q:=g.g.has (oth e) ho;have pl:place told (nmF U F (oth e))=Pl (place ts (oth e)):=by
  have⟨h1,h2⟩:=fT U F hF (oth e);have hk:=hv (oth e / 2) (by lia);have hf:=hF (oth e / 2);rw[lH told,lH ts,h1,h2,hk];by_cases q:oth e%2=0
  ·by_cases z:F (oth e / 2)=0
   ·simp[q,z]
   ·have z1:F (oth e / 2)=1:=by lia
    simp[q,z1]
  ·by_cases z:F (oth e / 2)=0
   ·simp[q,z]
   ·have z1:F (oth e / 2)=1:=by lia
    simp[q,z1]
 obtain⟨l,h1,h2⟩:=hw _ q.1;unfold behind;rw[wV hF,pl,h1];have nd':=good.g.nd (Pl (place ts (oth e)));rw[h1]at nd';have pm:=h2.perm;rw[yS (pm.nodup_iff.mpr (g.g.nd _)) nd' (pm.mem_iff.mpr q.2)];obtain⟨k,rfl⟩:=h2;rw[mL (g.g.nd _) q.2]
theorem TX{ts:bD}{os:a7}(g:Good ts os)(c:kH ts os):kH ts (rv os):=λS h1 h2 x y hx hy sx=>c S (λe he se=>by
 have hb:=bG (g.maps.lt e he);have m:=g.rv.maps;have q:oth e∈aR (behind ts (rv os)) (oth (behind ts os e)):=(bS m hb).mpr ⟨1,uU g he⟩;have:=h2 _ hb (wZ m h1 (bG he) (h2 e he se) _ (fO m hb q));rw[cM]at this;exact this) h2 x y hx hy sx
end MM
namespace K29
open PySem L2 PyProof.Rows
theorem pD(f:Nat->Int){N e:Nat}(he:e<N):at0 ((List.range N).map f) e=f e:=by
 unfold at0;rw[Zv,Zk,Yk he];rfl
theorem CP{φ:Nat->Nat}{N:Nat}(m:MM.cE φ N)(cs:List Int):∃cs':List Int,cs'.length=N/\∀e,e<N->at0 cs' (φ e)=at0 cs e:=by
 have h:∀y,∃x,y<N->x<N/\φ x=y:=λy=>by
  by_cases hy:y<N
  ·obtain⟨x,h⟩:=MM.nN m hy;exact⟨x,λ_=>h⟩
  ·exact⟨0,λz=>absurd z hy⟩
 refine⟨(List.range N).map λy=>at0 cs (Classical.choose (h y)),by simp,λe he=>?_⟩;have hp:=m.lt e he;have q:=Classical.choose_spec (h (φ e)) hp;rw[pD _ hp,m.inj _ _ q.1 he q.2]
theorem MO{U:Nat->Nat}{T:Nat}(m:MM.cE U T):((List.range T).map U).Perm (List.range T):=by
 refine MM.wR ?_ List.nodup_range λx=>?_
 ·rw[List.Nodup,List.pairwise_map];exact List.Pairwise.imp_of_mem (λ{x y} hx hy ne z=>ne (m.inj x y (Zs.mp hx) (Zs.mp hy) z)) List.nodup_range
 ·rw[Zh,Zs];constructor
  ·rintro⟨y,hy,rfl⟩;exact m.lt y (Zs.mp hy)
  ·intro h;obtain⟨y,hy,e⟩:=MM.nN m h;exact⟨y,Zs.mpr hy,e⟩
section
variable{ts told:MM.bD}{os rows:MM.a7}{φ Pl U:Nat->Nat}{ws ws' ls ls' cs cs':List Int}{bs ss bs' ss':List (Option Int)}
theorem GA{T:Nat}(mU:MM.cE U T)(hφ:∀e,φ e / 2=U (e / 2))(ho:∀e,MM.oth (φ e)=φ (MM.oth e))(hl:∀e,e<2*T->at0 ls' (φ e)=at0 ls e)(hw:∀k,k<T->at0 ws' (U k)=at0 ws k):costOf ws' ls' T=costOf ws ls T:=by
 show MM.su (List.range T) (λk=>sum2 ls' k*at0 ws' k)=MM.su (List.range T) λk=>sum2 ls k*at0 ws k;rw[<-MM.pO (MO mU),MM.xU];refine MM.e9 λk hk=>?_;have hk:=Zs.mp hk;rw[hw k hk];congr 1;unfold sum2;rw[<-hl (2*k) (by lia),<-hl (2*k+1) (by lia),<-MM.MD k,<-ho];have h:=hφ (2*k);rw[show 2*k / 2=k by lia]at h;have:φ (2*k)=2*U k\/φ (2*k)=2*U k+1:=by lia
 rcases this with z | z
 ·rw[z,MM.MD]
 ·rw[z,MM.SH,Int.add_comm]
theorem KM{N:Nat}(m:MM.cE φ N)(hφ:∀e,φ e / 2=U (e / 2))(hc:∀e,e<N->at0 cs' (φ e)=at0 cs e)(hl:∀e,e<N->at0 ls' (φ e)=at0 ls e)(hb:∀e,e<N->ov bs' (U (e / 2))=ov bs (e / 2))(hs:∀e,e<N->ov ss' (φ e)=ov ss e):AH bs' ss' cs' ls' N↔AH bs ss cs ls N:=by
 constructor
 ·intro h e he;have q:=h (φ e) (m.lt e he);rw[hφ,hb e he,hs e he,hc e he,hl e he]at q;exact q
 ·intro h e' he';obtain⟨e,he,rfl⟩:=MM.nN m he';rw[hφ,hb e he,hs e he,hc e he,hl e he];exact h e he
theorem gY.ren(R:MM.Ren ts told os rows φ Pl)(mU:MM.cE U ts.length)(hφ:∀e,φ e / 2=U (e / 2))(hw:∀k,k<ts.length->at0 ws' (U k)=at0 ws k)(hb:∀k,k<ts.length->ov bs' (U k)=ov bs k)(hs:∀e,e<2*ts.length->ov ss' (φ e)=ov ss e)
  {o o' z:Nat}{e e':List Nat}(he:(MM.lls ts os)[o]?=some e) (hz:z∈e) (he':(MM.lls told rows)[o']?=some e') (hz':φ z∈e') {x y:Option Int}(hx:gY ts os o ws bs ss x) (hy:gY told rows o' ws' bs' ss' y):y=x:=by
 have hb':∀e,e<2*ts.length->ov bs' (U (e / 2))=ov bs (e / 2):=λe h=>hb _ (by lia);have key:=hx.alike (k:=1) (by decide) hy (λcs ls h=>?_) λcs' ls' h=>?_
 ·rcases key with⟨rfl,rfl⟩ | ⟨a,rfl,rfl⟩
  ·rfl
  ·rw[Int.one_mul]
 ·obtain⟨_,_,S,F⟩:=h;obtain⟨cs',c1,hc⟩:=CP R.m cs;obtain⟨ls',c2,hl⟩:=CP R.m ls;refine⟨cs',ls',⟨by rw[R.N];exact c1,by rw[R.N];exact c2,(R.shp hc hl he hz he' hz').mpr S,by rw[R.N];exact(KM R.m hφ hc hl hb' hs).mpr F⟩,?_⟩;rw[R.N,Int.one_mul];exact GA mU hφ R.o hl hw
 ·obtain⟨_,_,S,F⟩:=h;have hc:∀e,e<2*ts.length->at0 cs' (φ e)=at0 ((List.range (2*ts.length)).map λe=>at0 cs' (φ e)) e:=λe he=>(pD (λe=>at0 cs' (φ e)) he).symm;have hl:∀e,e<2*ts.length->at0 ls' (φ e)=at0 ((List.range (2*ts.length)).map λe=>at0 ls' (φ e)) e:=λe he=>(pD (λe=>at0 ls' (φ e)) he).symm;refine⟨_,_,⟨by simp,by simp,(R.shp hc hl he hz he' hz').mp S,(KM R.m hφ hc hl hb' hs).mp (by rw[<-R.N];exact F)⟩,?_⟩;rw[R.N,Int.one_mul];exact GA mU hφ R.o hl hw
theorem GB{T:Nat}(hl:∀e,e<2*T->at0 ls' e=at0 ls (MM.oth e)):costOf ws ls' T=costOf ws ls T:=by
 show MM.su (List.range T) (λk=>sum2 ls' k*at0 ws k)=MM.su (List.range T) λk=>sum2 ls k*at0 ws k;refine MM.e9 λk hk=>?_;have hk:=Zs.mp hk;congr 1;unfold sum2;rw[hl _ (by lia),hl _ (by lia),MM.MD,MM.SH,Int.add_comm]
theorem FH(g:MM.Good ts os):MM.cE (λe=>MM.oth (MM.behind ts os e)) (2*ts.length):=⟨λe he=>MM.bG (g.maps.lt e he),λa b ha hb h=>MM.zV g ha hb h⟩
theorem gY.mir(g:MM.Good ts os)(hs:∀e,e<2*ts.length->ov ss' (MM.oth (MM.behind ts os e))=ov ss e){o k:Nat}{e d:List Nat}(he:(MM.lls ts os)[o]?=some e)(hk:(MM.lls ts (MM.rv os))[k]?=some d)(hd:MM.oth (e.getD 0 0)∈d){x y:Option Int}(hx:gY ts os o ws bs ss x)(hy:gY ts (MM.rv os) k ws bs ss' y):y=x:=by
 have m:=FH g;obtain⟨ho,ee⟩:=Zj.mp he;obtain⟨hk',ek⟩:=Zj.mp hk;have fst:∀{l:List Nat},l≠[]->l.getD 0 0∈l:=λ{l} h=>by
  have:=List.length_pos_iff.mpr h;simp[List.getD,this]
 have he0:=fst (MM.cY g he).2.2.2;have hd0:=fst (MM.cY g.rv hk).2.2.2;have fit:∀{cs cs' ls ls':List Int},(∀e,e<2*ts.length->at0 cs' (MM.oth (MM.behind ts os e))=at0 cs e)->(∀e,e<2*ts.length->at0 ls' e=at0 ls (MM.oth e))->(AH bs ss' cs' ls' (2*ts.length)↔AH bs ss cs ls (2*ts.length)):=λ{cs cs' ls ls'} hc hl=>by
  constructor
  ·intro h e he;refine⟨λb q=>?_,λs q=>?_⟩
   ·have:=(h (MM.oth e) (MM.bG he)).1 b (by rw[MM.iW];exact q);rw[hl _ (MM.bG he),MM.cM]at this;exact this
   ·rw[<-hc e he];exact(h _ (m.lt e he)).2 s (by rw[hs e he];exact q)
  ·intro h e' he';refine⟨λb q=>?_,λs q=>?_⟩
   ·rw[hl _ he'];exact(h _ (MM.bG he')).1 b (by rw[MM.iW];exact q)
   ·obtain⟨e,he,rfl⟩:=MM.nN m he';rw[hs e he]at q;rw[hc e he];exact(h e he).2 s q
 have key:=hx.alike (k:=1) (by decide) hy (λcs ls h=>?_) λcs' ls' h=>?_
 ·rcases key with⟨rfl,rfl⟩ | ⟨a,rfl,rfl⟩
  ·rfl
  ·rw[Int.one_mul]
 ·obtain⟨_,_,S,F⟩:=h;obtain⟨cs',c1,hc⟩:=CP m cs;have hl:∀e,e<2*ts.length->at0 ((List.range (2*ts.length)).map λe=>at0 ls (MM.oth e)) e=at0 ls (MM.oth e):=λe he=>pD (λe=>at0 ls (MM.oth e)) he;refine⟨cs',_,⟨c1,by simp,MM.OJ g S hc hl hk ho (by rw[ee];exact hd),(fit hc hl).mpr F⟩,?_⟩;rw[Int.one_mul];exact GB hl
 ·obtain⟨_,_,S,F⟩:=h;have hc:∀e,e<2*ts.length->at0 cs' (MM.oth (MM.behind ts os e))=at0 ((List.range (2*ts.length)).map λe=>at0 cs' (MM.oth (MM.behind ts os e))) e:=λe he=>(pD (λe=>at0 cs' (MM.oth (MM.behind ts os e))) he).symm;have hl2:∀e,e<2*ts.length->at0 ((List.range (2*ts.length)).map λe=>at0 ls' (MM.oth e)) e=at0 ls' (MM.oth e):=λe he=>pD (λe=>at0 ls' (MM.oth e)) he;have hl:∀e,e<2*ts.length->at0 ls' e=at0 ((List.range (2*ts.length)).map λe=>at0 ls' (MM.oth e)) (MM.oth e):=λe he=>by rw[hl2 _ (MM.bG he),MM.cM]
  have S2:=MM.OJ (o:=k) (k:=o) (d:=e) g.rv S (c':=at0 ((List.range (2*ts.length)).map λe=>at0 cs' (MM.oth (MM.behind ts os e)))) (l':=at0 ((List.range (2*ts.length)).map λe=>at0 ls' (MM.oth e))) (λe' he'=>?_) hl2 (by rw[MM.UH];exact he) hk' ?_
  ·rw[MM.UH]at S2;refine⟨_,_,⟨by simp,by simp,S2,(fit hc hl).mp F⟩,?_⟩;rw[Int.one_mul];exact GB hl
  ·obtain⟨e,he,rfl⟩:=MM.nN m he';rw[MM.uU g he,MM.cM,<-hc e he]
  ·rw[ek];have h1:=(MM.jW g.rv hk hd _).mp hd0;rw[<-MM.cM (d.getD 0 0)]at h1;exact(MM.jW g he he0 _).mpr ((MM.wY g ((MM.cY g he).2.1 _ he0)).mp h1)
end
end K29
namespace K29
open PySem L2 PyProof.Rows
theorem KB{α:Type}{P:Nat->α->Prop}:∀T:Nat,(∀j,j<T->∃y,P j y)->∃l:List α,l.length=T/\∀(j:Nat) y,l[j]?=some y->P j y
 |0,_=>⟨[],rfl,λj y h=>by simp at h⟩
 |T+1,h=>by
  obtain⟨l,hl,hp⟩:=KB T λj hj=>h j (by lia);obtain⟨y,hy⟩:=h T (by lia);refine⟨l++[y],by rw[Zm,hl];rfl,λj z hz=>?_⟩;rcases Xq j l.length with q | q
  ·rw[Zx q]at hz;exact hp j z hz
  ·rw[Zy q]at hz;have:=(Zj.mp hz).1;rw[ZQ]at this;have ej:j=T:=by lia
   rw[show j-l.length=0 by lia]at hz;cases hz;rw[ej];exact hy
theorem RG{H:Hp}{D:Addr}{xs:List V}{T:Nat}{U:Nat->Nat}{f:Nat->Nat×Nat}(m:MM.cE U T)(lx:xs.length=T)(hD:H D=some (.lst xs))(h:∀k,k<T->∃a,xs[U k]?=some (.ref a)/\H a=some (.tup [vn (f k).1,vn (f k).2])):∃td:MM.bD,hJ H D td/\td.length=T/\∀k,k<T->td.getD (U k) (0,0)=f k:=by
 obtain⟨l,hl,hp⟩:=KB (P:=λj (y:Addr×(Nat×Nat))=>xs[j]?=some (.ref y.1)/\H y.1=some (.tup [vn y.2.1,vn y.2.2])/\∀k,k<T->U k=j->y.2=f k) T λj hj=>by
  obtain⟨k,hk,rfl⟩:=MM.nN m hj;obtain⟨a,a1,a2⟩:=h k hk;exact⟨(a,f k),a1,a2,λk' hk' e=>by rw[m.inj _ _ hk' hk e]⟩
 have ex:xs=(l.map Prod.fst).map V.ref:=by
  refine Yp λj=>?_;rw[Yh,Zk];cases q:l[j]? with
  |none=>rw[Zr (by have:=List.getElem?_eq_none_iff.mp q;lia)];rfl
  |some y=>rw[(hp j y q).1];rfl
 refine⟨l.map Prod.snd,⟨l.map Prod.fst,by rw[<-ex];exact hD,by rw[Zq,Zq],λi t e=>?_⟩,by rw[Zq];exact hl,λk hk=>?_⟩
 ·rw[Zk]at e;cases q:l[i]? with
  |none=>rw[q]at e;cases e
  |some y =>
   rw[q]at e;cases e;exact⟨y.1,by rw[Zk,q];rfl,(hp i y q).2.1⟩
 ·have hj:U k<l.length:=by rw[hl];exact m.lt k hk
  have q:=Zz hj;rw[Zv,Zk,q];exact(hp _ _ q).2.2 k hk rfl
end K29
namespace L2
open PySem PyProof.Rows
structure L4(H0 H:Hp)(p1 p2 p3 p4:Addr)(X Y Z U:List V):Prop where
 l:L3 H0 H p1 p2 p3 X Y Z
 d:H p4=some (.lst U)
 nd:H0 p4=none
 ad:p1≠p4
 bd:p2≠p4
 cd:p3≠p4
section
variable{H0 H:Hp}{a b c d:Addr}{X Y Z U:List V}
theorem L3.mono{H':Hp}(h:L3 H0 H a b c X Y Z)(g:aZ H H'):L3 H0 H' a b c X Y Z:=⟨h.g.trans g,g _ _ h.a,g _ _ h.b,g _ _ h.c,h.na,h.nb,h.nc,h.ab,h.ac,h.bc⟩
theorem L4.mono{H':Hp}(h:L4 H0 H a b c d X Y Z U)(g:aZ H H'):L4 H0 H' a b c d X Y Z U:=⟨h.l.mono g,g _ _ h.d,h.nd,h.ad,h.bd,h.cd⟩
theorem L4.setA(h:L4 H0 H a b c d X Y Z U)(X':List V):L4 H0 (upd H a (.lst X')) a b c d X' Y Z U:=⟨h.l.setA X',by rw[aK h.ad.symm];exact h.d,h.nd,h.ad,h.bd,h.cd⟩
theorem L4.setB(h:L4 H0 H a b c d X Y Z U)(X':List V):L4 H0 (upd H b (.lst X')) a b c d X X' Z U:=⟨h.l.setB X',by rw[aK h.bd.symm];exact h.d,h.nd,h.ad,h.bd,h.cd⟩
theorem L4.setC(h:L4 H0 H a b c d X Y Z U)(X':List V):L4 H0 (upd H c (.lst X')) a b c d X Y X' U:=⟨h.l.setC X',by rw[aK h.cd.symm];exact h.d,h.nd,h.ad,h.bd,h.cd⟩
theorem L4.setD(h:L4 H0 H a b c d X Y Z U)(X':List V):L4 H0 (upd H d (.lst X')) a b c d X Y Z X' :=
 ⟨⟨λp o q=>by rw[aK (aH q h.nd)];exact h.l.g _ _ q,by rw[aK h.ad];exact h.l.a,by rw[aK h.bd];exact h.l.b,by rw[aK h.cd];exact h.l.c,h.l.na,h.l.nb,h.l.nc,h.l.ab,h.l.ac,h.l.bc⟩,aB,h.nd,h.ad,h.bd,h.cd⟩
end
end L2
namespace K29
open PySem L2 PyProof.Rows
theorem kU{l:List Int}{j k:Nat}{v:Int}(h:j<l.length):at0 (l.set j v) k=if k=j then v else at0 l k:=by
 unfold at0;rw[Zv,Zv,List.getElem?_set];by_cases e:j=k
 ·subst e;rw[if_pos rfl,if_pos h,if_pos rfl];rfl
 ·rw[if_neg e,if_neg (Ne.symm e)]
theorem HU{l:List (Option Int)}{j k:Nat}{x:Option Int}(h:j<l.length):ov (l.set j x) k=if k=j then x else ov l k:=by
 unfold ov;rw[Zv,Zv,List.getElem?_set];by_cases e:j=k
 ·subst e;rw[if_pos rfl,if_pos h,if_pos rfl];rfl
 ·rw[if_neg e,if_neg (Ne.symm e)]
def pairF(Pl F:Nat->Nat)(ts:MM.bD)(k:Nat):Nat×Nat:=if F k=0 then (Pl (ts.getD k (0,0)).1,Pl (ts.getD k (0,0)).2) else (Pl (ts.getD k (0,0)).2,Pl (ts.getD k (0,0)).1)
def RS:Sp:=λvs H Q _=>∃(wa ta oa p wA bA sA:Addr) (c:Int) (ts:MM.bD) (os:MM.a7) (ws:List Int) (bs ss:List (Option Int)),vs=[.ref wa,.ref p,.int c]/\H wa=some (.tup [vn os.length,.ref ta,.ref oa])/\hJ H ta ts/\pK H oa os/\MM.Good ts os/\ts.length<=40/\os.length<=40/\wC H p wA bA sA ws bs ss/\ws.length=ts.length/\bs.length=ts.length/\ss.length=2*ts.length /\
 ∀(r r1 r2 tA oA na wB bB sB:Addr) (td:MM.bD) (rows:MM.a7) (φ U Pl:Nat->Nat) (ws':List Int) (bs' ss':List (Option Int)) (H':Hp),aZ H H'->H' r=some (.tup [.ref r1,.ref na,.ref r2])->H' r1=some (.tup [vn os.length,.ref tA,.ref oA])->hJ H' tA td->pK H' oA rows->H' na=some (.lst ((List.range (2*ts.length)).map λe=>vn (φ e)))->wC H' r2 wB bB sB ws' bs' ss'->ws'.length=ts.length->bs'.length=ts.length->ss'.length=2*ts.length ->
  MM.Ren ts td os rows φ Pl->MM.cE U ts.length->(∀e,φ e / 2=U (e / 2))->(∀k,k<ts.length->at0 ws' (U k)=at0 ws k)->(∀k,k<ts.length->ov bs' (U k)=ov bs k)->(∀e,e<2*ts.length->ov ss' (φ e)=ov ss e)->Q (.ref r) H'
theorem MG(T:Txt K mg t):bT P w K mg base CX0 2 t.CD t.BW ["_law_web","_law_wishes_here","_law_cell"] RS:=by
 refine T.BQ.F.ok x9 (λvs H Q E h=>?_) (λcdv A outer s H vs Q E hr h=>?_)
 ·obtain⟨wa,ta,oa,p,wA,bA,sA,c,ts,os,ws,bs,ss,rfl,_⟩:=h;rfl
 obtain⟨wa,ta,oa,p,wA,bA,sA,c,ts,os,ws,bs,ss,rfl,hwa,ht,ho,g,t40,o40,hWs,lw,lb,lss,q⟩:=h;have nd:=x9.nd;have nd_l_end_l_names:(["_law_end","_law_names"]:List Str).Nodup:=by decide
 have nd_l_order:(["_law_order"]:List Str).Nodup:=by decide
 have nd_l_end:(["_law_end"]:List Str).Nodup:=by decide
 have nd_l_tie:(["_law_tie"]:List Str).Nodup:=by decide
 refine⟨_,(aC (hZ (pv 0) (eL rfl (aV (aO (i:=3) nd rfl (Or.inl rfl)) (aV (aO (i:=4) nd rfl (Or.inl rfl)) (aV (aO (i:=5) nd rfl (Or.inl rfl)) cJ)))))
  (aC (aW 6 nd (bK (mS T) hr T.j4 aX (aA (bK (iJ T) hr T.fQ aX (aA (pv 2) (aA aG aE))) (aA (pv 3) aE))))
  (aC (aW 7 nd (bK (mS T) hr T.j4 aX (aA (bK (iJ T) hr T.fQ aX (aA (pv 2) (aA aG aE))) (aA (a8 aU rfl T.dQ PySem.boot_len (aA (pv 4) aE)) aE))))
  (aC (bU (i:=8) nd rfl (Or.inl rfl)  (N':=["_law_tie"]) (js:=[none]) rfl (cI (pv 4)) (λ_ _ _ _ _=>(aO (i:=0) nd_l_tie rfl (Or.inl rfl))) (λ_ _ _ _ _=>dJ) (λ_ _ _ _ _=>fI))
  (aC (bU (i:=9) nd rfl (Or.inl rfl)  (N':=["_law_tie"]) (js:=[none]) rfl (cI (pv 4)) (λ_ _ _ _ _=>(aO (i:=0) nd_l_tie rfl (Or.inl rfl))) (λ_ _ _ _ _=>dJ) (λ_ _ _ _ _=>aG))
  (aC (bU (i:=10) nd rfl (Or.inl rfl)  (N':=["_law_tie"]) (js:=[none]) rfl (cI (pv 4)) (λ_ _ _ _ _=>(aO (i:=0) nd_l_tie rfl (Or.inl rfl))) (λ_ _ _ _ _=>dJ) (λ_ _ _ _ _=>aG))
  (aC (bU (i:=11) nd rfl (Or.inl rfl)  (N':=["_law_end"]) (js:=[none]) rfl (cX rfl T.dZ (aA (aT dO aG (a8 aU rfl T.dQ PySem.boot_len (aA (pv 4) aE))) aE)) (λ_ _ _ _ _=>(aO (i:=0) nd_l_end rfl (Or.inl rfl))) (λ_ _ _ _ _=>dJ) (λ_ _ _ _ _=>aG))
  (aC (aW 12 nd (cC aE))
  (aC (cV PassesOwn.never rfl (fH rfl T.cK (aA (pv 4) aE)) (eL rfl (aV (aO (i:=13) nd rfl (Or.inl rfl)) (aV (eL rfl (aV (aO (i:=14) nd rfl (Or.inl rfl)) (aV (aO (i:=15) nd rfl (Or.inl rfl)) cJ))) cJ))) (aC (aW 16 nd (bK (pT T) hr T.jR aX (aA (bK (iJ T) hr T.fQ aX (aA (pv 2) (aA aG aE))) (aA aG (aA (pv 13) aE)))))
  (aC (hZ (aN aQ (cC (aA (cH (aA (aN aQ (pv 6) (pv 14) (λ_ _=>rfl)) (aA (aN aQ (pv 6) (pv 15) (λ_ _=>rfl)) aE))) (aA (cH (aA (aN aQ (pv 6) (pv 15) (λ_ _=>rfl)) (aA (aN aQ (pv 6) (pv 14) (λ_ _=>rfl)) aE))) aE))) (pv 16) (λ_ _=>rfl)) (jE (pv 8) (aN aQ (pv 7) (pv 13) (λ_ _=>rfl)) set_list))
  (aC (hZ (aN aQ (aN aP (pv 1) aG (λ_ _=>rfl)) (pv 13) (λ_ _=>rfl)) (jE (pv 9) (aN aQ (pv 7) (pv 13) (λ_ _=>rfl)) set_list))
  (aC (hZ (aN aQ (aN aP (pv 1) aG (λ_ _=>rfl)) (pv 13) (λ_ _=>rfl)) (jE (pv 10) (aN aQ (pv 7) (pv 13) (λ_ _=>rfl)) set_list))
  (aL (aW 12 nd (aT uI (pv 12) (cC (aA (aT c8 (aT dO aG (aN aQ (pv 7) (pv 13) (λ_ _=>rfl))) (pv 16)) (aA (aT iI (aT c8 (aT dO aG (aN aQ (pv 7) (pv 13) (λ_ _=>rfl))) aG) (pv 16)) aE)))))))))))
  (aC (cV PassesOwn.never rfl (fH rfl T.cK (aA (aN aP (pv 1) aG (λ_ _=>rfl)) aE)) (eL rfl (aV (aO (i:=17) nd rfl (Or.inl rfl)) (aV (aO (i:=18) nd rfl (Or.inl rfl)) cJ))) (aL (hZ (pv 18) (jE (pv 11) (aN aQ (pv 12) (pv 17) (λ_ _=>rfl)) set_list))))
  (aC (bU (i:=19) nd rfl (Or.inl rfl)  (N':=["_law_order"]) (js:=[none]) rfl (cI (pv 5)) (λ_ _ _ _ _=>(aO (i:=0) nd_l_order rfl (Or.inl rfl))) (λ_ _ _ _ _=>dJ) (λ_ _ _ _ _=>(cC aE)))
  (aC (cV PassesOwn.never rfl (fH rfl T.cK (aA (pv 5) aE)) (eL rfl (aV (aO (i:=20) nd rfl (Or.inl rfl)) (aV (aO (i:=21) nd rfl (Or.inl rfl)) cJ))) (aL (hZ (gK (N':=["_law_end","_law_names"]) (js:=[none,some 12]) rfl (cI (aT uI (lI pP (pv 21) (mO aG) kO) (lI pP (pv 21) kO (mO aG)))) (λ_ _ _ _ _=>(aO (i:=0) nd_l_end_l_names rfl (Or.inl rfl))) (λ_ _ _ _ _=>dJ) (λ_ _ _ _ _=>(aN (fK (K:=K) rfl) (pv 1) (pv 0) (λ_ _=>rfl)))) (jE (pv 19) (aN aQ (pv 6) (pv 20) (λ_ _=>rfl)) set_list))))
  (aL (bE (cH (aA (cH (aA (pv 3) (aA (pv 8) (aA (pv 19) aE)))) (aA (pv 12) (aA (cH (aA (pv 9) (aA (pv 10) (aA (pv 11) aE)))) aE)))))))))))))))))),?_⟩
 obtain⟨tr,tr1,tr2,tr3⟩:=id ht;obtain⟨rr,rr1,rr2,rr3⟩:=id ho;have trl:(tr.map V.ref).length=ts.length:=by rw[Zq];exact tr2
 have rrl:(rr.map V.ref).length=os.length:=by rw[Zq];exact rr2
 refine(bR _ rfl wa _ rfl (SqT.of hwa) rfl (wH _ _ rfl _ _ rfl ⟨ _,_,rfl,rfl,?_⟩));refine(bR _ rfl c 0 rfl (by decide) (by decide) (λm0 hm0 _=>(bR _ rfl m0 os.length rfl hm0 (by lia) (λpr ps hpr hpn hpl hpe=>?_))));have g1:=aI hpr (.lst (vns ps));refine(bR _ rfl c 1 rfl (by decide) (by decide) (λm1 hm1 _=>(bP _ rfl ta _ rfl (.inl (SqL.of (g1 _ _ tr1))) (a9 m1 ((tr.map V.ref).length) rfl hm1 (by lia) (λnr nu hnr hnn hnl hne=>?_)))));rw[trl]at hnl hne;have g2:=aI hnr (.lst (vns nu));have mP:MM.cE (λi=>ps.getD i 0) os.length:=by have:=MM.wX hpn (by rw[hpe];exact hpl);rw[hpe]at this;exact this
 have mU:MM.cE (λi=>nu.getD i 0) ts.length:=by have:=MM.wX hnn (by rw[hne];exact hnl);rw[hne]at this;exact this
 have k1:(upd (upd H pr (.lst (vns ps))) nr (.lst (vns nu))) pr=some (.lst (vns ps)):=g2 _ _ aB;have k2:(upd (upd H pr (.lst (vns ps))) nr (.lst (vns nu))) nr=some (.lst (vns nu)):=aB;have g4:=g1.trans g2;generalize upd (upd H pr (.lst (vns ps))) nr (.lst (vns nu))=H4 at k1 k2 g4;clear g1 g2 hpr hnr;have atP:∀x,x<os.length->atI (vns ps) (x:Int)=some (vn (ps.getD x 0)):=λx hx=>jF (by lia) rfl;have atU:∀x,x<ts.length->atI (vns nu) (x:Int)=some (vn (nu.getD x 0)):=λx hx=>jF (by lia) rfl;have tr4:=g4 _ _ tr1;have hxr:∀i,i<ts.length->∃v,(tr.map V.ref)[i]?=some v:=λi hi=>⟨_,Zz (by lia)⟩
 refine(dB _ rfl ta rfl ⟨_,SqL.of tr4⟩ (λD hD=>dP ts.length (λ_=>.non) hD (by lia) (λi H' hi g'=>⟨_,_,SqL.of (g' _ _ tr4),(hxr i hi).choose_spec⟩) (λH' g'=>⟨_,SqL.of (g' _ _ tr4),by rw[trl];exact Nat.le_refl _⟩) (λi H' x H'' k hi g' hy hk=>?_) ?_))
 ·obtain⟨rfl,_⟩:=hy;exact⟨(Fills.refl _).set _ rfl,hk _ (aZ.refl _)⟩
 intro H5 g5 eD;refine(dB _ rfl ta rfl ⟨_,SqL.of (g5 _ _ tr4)⟩ (λW hW=>dP ts.length (λ_=>.int 0) hW (by lia) (λi H' hi g'=>⟨_,_,SqL.of (g' _ _ (g5 _ _ tr4)),(hxr i hi).choose_spec⟩) (λH' g'=>⟨_,SqL.of (g' _ _ (g5 _ _ tr4)),by rw[trl];exact Nat.le_refl _⟩) (λi H' x H'' k hi g' hy hk=>?_) ?_))
 ·obtain⟨rfl,_⟩:=hy;exact⟨(Fills.refl _).set _ rfl,hk _ (aZ.refl _)⟩
 intro H6 g6 eW;have g56:=g5.trans g6;refine(dB _ rfl ta rfl ⟨_,SqL.of (g56 _ _ tr4)⟩ (λB hB=>dP ts.length (λ_=>.int 0) hB (by lia) (λi H' hi g'=>⟨_,_,SqL.of (g' _ _ (g56 _ _ tr4)),(hxr i hi).choose_spec⟩) (λH' g'=>⟨_,SqL.of (g' _ _ (g56 _ _ tr4)),by rw[trl];exact Nat.le_refl _⟩) (λi H' x H'' k hi g' hy hk=>?_) ?_))
 ·obtain⟨rfl,_⟩:=hy;exact⟨(Fills.refl _).set _ rfl,hk _ (aZ.refl _)⟩
 intro H7 g7 eB;have g57:=g56.trans g7;have eT:(2*(((tr.map V.ref).length:Nat):Int)).toNat=2*ts.length:=by lia
 refine(bP _ rfl ta _ rfl (.inl (SqL.of (g57 _ _ tr4))) (gG _ _ rfl rfl (.inl ⟨by decide,by decide⟩) _ rfl ⟨ by lia,by lia,λS hS=>?_⟩));refine dP (2*(((tr.map V.ref).length:Nat):Int)).toNat (λ_=>.int 0) hS (by lia) (λi H' hi _=>hi) (λH' _=>Nat.le_refl _) (λi H' x H'' k hi g' hy hk=>?_) ?_
 ·obtain⟨rfl,rfl⟩:=hy;exact⟨(Fills.refl _).set _ rfl,hk _ (aZ.refl _)⟩
 intro H8 g8 eS;rw[eT]at eS;have L:L4 H4 H8 D W B S ((List.range ts.length).map λ_=>V.non) ((List.replicate ts.length 0).map V.int) (vos (List.replicate ts.length (some 0))) (vos (List.replicate (2*ts.length) (some 0))):=by
  have c1:∀n,(List.range n).map (λ_=>V.int 0)=(List.replicate n (0:Int)).map V.int:=λn=>by rw[List.map_const',List.map_replicate,Yj]
  have c2:∀n,(List.range n).map (λ_=>V.int 0)=vos (List.replicate n (some 0)):=λn=>by unfold vos;rw[List.map_const',List.map_replicate,Yj];rfl
  rw[c1]at eW;rw[c2]at eB eS;exact⟨⟨g57.trans g8,g8 _ _ (g7 _ _ (g6 _ _ eD)),g8 _ _ (g7 _ _ eW),g8 _ _ eB,hD,g5.free hW,g56.free hB,aH eD hW,aH (g6 _ _ eD) hB,aH eW hB⟩,eS,g57.free hS,aH (g7 _ _ (g6 _ _ eD)) hS,aH (g7 _ _ eW) hS,aH eB hS⟩
 clear eD eW eB eS g5 g6 g7 g8 g56 g57 hD hW hB hS;refine⟨(by show 0<=ZW;decide),λna0 hna0=>?_⟩;have nn:na0≠D/\na0≠W/\na0≠B/\na0≠S:=⟨(aH L.l.a hna0).symm,(aH L.l.b hna0).symm,(aH L.l.c hna0).symm,(aH L.d hna0).symm⟩
 have L:=L.mono (aI hna0 (.lst []));have n0:upd H8 na0 (.lst []) na0=some (.lst []):=aB;generalize upd H8 na0 (.lst [])=H9 at *;have hws4:=hWs.mono g4;refine(dB _ rfl ta rfl ⟨_,SqL.of (L.l.g _ _ tr4)⟩ (fL (xs:=tr.map V.ref) (λi σ H'=>∃(na:Addr) (fl:List Nat) (xs:List V) (w':List Int) (b':List (Option Int)) (o13 o14 o15 o16:Option V),
   σ=[some (.ref wa),some (.ref p),some (.int c),some (vn os.length),some (.ref ta),some (.ref oa),some (.ref pr),some (.ref nr),some (.ref D),some (.ref W),some (.ref B),some (.ref S),some (.ref na),o13,o14,o15,o16,none,none,none,none,none] /\
   L4 H4 H' D W B S xs (w'.map V.int) (vos b') (vos (List.replicate (2*ts.length) (some 0)))/\fl.length=i/\(∀f∈fl,f<=1)/\(na≠D/\na≠W/\na≠B/\na≠S) /\
   H' na=some (.lst ((List.range (2*i)).map λe=>vn (MM.nmF (λk=>nu.getD k 0) (λk=>fl.getD k 0) e)))/\xs.length=ts.length/\w'.length=ts.length/\b'.length=ts.length /\
   ∀k,k<i->(∃a,xs[nu.getD k 0]?=some (.ref a)/\H' a=some (.tup [vn (pairF (λi=>ps.getD i 0) (λk=>fl.getD k 0) ts k).1,vn (pairF (λi=>ps.getD i 0) (λk=>fl.getD k 0) ts k).2]))/\at0 w' (nu.getD k 0)=at0 ws k/\ov b' (nu.getD k 0)=ov bs k)
  (bM na0 ([]) _ _ _ none none (gH none none rfl L rfl (λf hf=>by cases hf) nn ⟨ n0,by simp,by simp,by simp,λk hk=>absurd hk (Nat.not_lt_zero _)⟩)) (λi σ H' _ h=>by obtain⟨na,fl,xs,w',b',o13,o14,o15,o16,_,h1,_⟩:=h;exact SqL.of (h1.l.g _ _ tr4)) ?_ ?_))
 ·rintro i x σ H6 Tt hx ⟨na,fl,xs,w',b',o13,o14,o15,o16,rfl,L6,hfl,hf1,nD,en,lx,lw',lb',hv⟩ hTt;have hi:i<ts.length:=by have:=(Zj.mp hx).1;lia
  obtain⟨rt,rt1,rt2⟩:=tr3 i _ (Zz hi);have ex:x=.ref rt:=by rw[Zk,rt1]at hx;cases hx;rfl
  subst ex;have tab:=g.tie hi;have hget:ts.getD i (0,0)=ts[i]:=by simp only[List.getD,Zz hi,Option.getD_some]
  rw[<-hget]at rt2;have hUi:=mU.lt i hi;have gT:=aI hTt (.tup [vn i,.ref rt]);refine(a9 Tt _ rfl (SqT.of aB) rfl (wH _ _ rfl _ _ rfl (a9 rt _ rfl (SqT.of (gT _ _ (L6.l.g _ _ (g4 _ _ rt2)))) rfl (cF _ _ rfl _ _ rfl rfl ⟨ rfl,?_⟩))));refine(bR _ rfl c 2 rfl (by decide) (by decide) (λm2 hm2 _=>(dS _ rfl m2 2 i rfl (by decide) ⟨ by decide,by lia,by lia,λd hd0 hd1=>?_⟩)));obtain⟨f,rfl,hf⟩:∃f:Nat,d=(f:Int)/\f<=1:=⟨d.toNat,by lia,by lia⟩
  have L7:=L6.mono gT;have en7:=gT _ _ en;generalize upd H6 Tt (.tup [vn i,.ref rt])=H7 at L7 en7 gT;have s7:=L7.l.g;refine⟨_,rfl,(aJ _ rfl pr _ _ _ rfl (eZ rfl (SqL.of (s7 _ _ k1)) (atP _ tab.1) _ rfl _ rfl (aM pr _ _ _ rfl rfl (SqL.of (s7 _ _ k1)) ⟨ atP _ tab.2,(by show 2<=ZW;decide),λp1 hp1=>?_⟩)))⟩;have gp1:=aI hp1 (.tup [vn (ps.getD (ts.getD i (0,0)).1 0),vn (ps.getD (ts.getD i (0,0)).2 0)]);refine⟨_,rfl,(aJ _ rfl pr _ _ _ rfl (eZ rfl (SqL.of (gp1 _ _ (s7 _ _ k1))) (atP _ tab.2) _ rfl _ rfl (aM pr _ _ _ rfl rfl (SqL.of (gp1 _ _ (s7 _ _ k1))) ⟨ atP _ tab.1,(by show 2<=ZW;decide),λp2 hp2=>?_⟩)))⟩;have gp2:=aI hp2 (.tup [vn (ps.getD (ts.getD i (0,0)).2 0),vn (ps.getD (ts.getD i (0,0)).1 0)]);refine⟨(by show 2<=ZW;decide),λpl hpl=>?_⟩;have gp3:=aI hpl (.lst [.ref p1,.ref p2]);have hat:atI [V.ref p1,V.ref p2] (f:Int)=some (.ref (if f=0 then p1 else p2)):=by
   have:f=0\/f=1:=by lia
   rcases this with rfl | rfl<;>rfl
  have gp:=gp1.trans (gp2.trans gp3);have L8:=L7.mono gp;have en8:=gp _ _ en7;have g68:=gT.trans gp;have htu:(upd (upd (upd H7 p1 (.tup [vn (ps.getD (ts.getD i (0,0)).1 0),vn (ps.getD (ts.getD i (0,0)).2 0)])) p2 (.tup [vn (ps.getD (ts.getD i (0,0)).2 0),vn (ps.getD (ts.getD i (0,0)).1 0)])) pl (.lst [.ref p1,.ref p2])) (if f=0 then p1 else p2) =
    some (.tup [vn (if f=0 then (ps.getD (ts.getD i (0,0)).1 0,ps.getD (ts.getD i (0,0)).2 0) else (ps.getD (ts.getD i (0,0)).2 0,ps.getD (ts.getD i (0,0)).1 0)).1,vn (if f=0 then (ps.getD (ts.getD i (0,0)).1 0,ps.getD (ts.getD i (0,0)).2 0) else (ps.getD (ts.getD i (0,0)).2 0,ps.getD (ts.getD i (0,0)).1 0)).2]):=by
   by_cases hz:f=0
   ·rw[if_pos hz,if_pos hz];exact gp3 _ _ (gp2 _ _ aB)
   ·rw[if_neg hz,if_neg hz];exact gp3 _ _ aB
  have epl:(upd (upd (upd H7 p1 (.tup [vn (ps.getD (ts.getD i (0,0)).1 0),vn (ps.getD (ts.getD i (0,0)).2 0)])) p2 (.tup [vn (ps.getD (ts.getD i (0,0)).2 0),vn (ps.getD (ts.getD i (0,0)).1 0)])) pl (.lst [.ref p1,.ref p2])) pl=some (.lst [.ref p1,.ref p2]):=aB;generalize upd (upd (upd H7 p1 (.tup [vn (ps.getD (ts.getD i (0,0)).1 0),vn (ps.getD (ts.getD i (0,0)).2 0)])) p2 (.tup [vn (ps.getD (ts.getD i (0,0)).2 0),vn (ps.getD (ts.getD i (0,0)).1 0)])) pl (.lst [.ref p1,.ref p2])=H8 at L8 en8 htu epl g68 ⊢;clear gp1 gp2 gp3 gp hp1 hp2 hpl L7 en7 gT hTt;generalize (if f=0 then p1 else p2)=ap at hat htu;refine(aJ _ rfl pl _ _ _ rfl (eZ rfl (SqL.of epl) hat _ rfl _ rfl (aJ _ rfl nr _ _ _ rfl ⟨ rfl,(dD (SqL.of (L8.l.g _ _ k2)) (atU _ hi) D _ _ (nu.getD i 0) rfl ⟨ rfl,L8.l.a,iS (by rw[lx];exact hUi),?_⟩)⟩)));have L9:=L8.setA (xs.set (nu.getD i 0) (.ref ap));have en9:upd H8 D (.lst (xs.set (nu.getD i 0) (.ref ap))) na=some (.lst ((List.range (2*i)).map λe=>vn (MM.nmF (λk=>nu.getD k 0) (λk=>fl.getD k 0) e))):=by rw[aK nD.1];exact en8
  have kt9:∀a z,H8 a=some (.tup z)->upd H8 D (.lst (xs.set (nu.getD i 0) (.ref ap))) a=some (.tup z):=λa z h=>by rw[aK (λe=>by rw[e,L8.l.a]at h;cases h)];exact h
  generalize upd H8 D (.lst (xs.set (nu.getD i 0) (.ref ap)))=H9 at L9 en9 kt9 ⊢;have w9:=hws4.mono L9.l.g;refine(aJ _ rfl p _ 0 _ rfl (cU rfl (SqT.of w9.tp) rfl _ rfl (aM wA _ _ _ rfl rfl (SqL.of w9.w) (xN (dG (j:=i) (by lia) rfl) _ rfl _ rfl _ rfl (aM nr _ _ _ rfl rfl (SqL.of (L9.l.g _ _ k2)) (dC (atU _ hi) W _ _ (nu.getD i 0) rfl rfl ⟨ L9.l.b,iS (by rw[Zq,lw'];exact hUi),?_⟩))))));rw[<-List.map_set];have L10:=L9.setB ((w'.set (nu.getD i 0) (at0 ws i)).map V.int);have en10:upd H9 W (.lst ((w'.set (nu.getD i 0) (at0 ws i)).map V.int)) na=some (.lst ((List.range (2*i)).map λe=>vn (MM.nmF (λk=>nu.getD k 0) (λk=>fl.getD k 0) e))):=by rw[aK nD.2.1];exact en9
  have kt10:∀a z,H8 a=some (.tup z)->upd H9 W (.lst ((w'.set (nu.getD i 0) (at0 ws i)).map V.int)) a=some (.tup z):=λa z h=>by
   have h:=kt9 a z h;rw[aK (λe=>by rw[e,L9.l.b]at h;cases h)];exact h
  generalize upd H9 W (.lst ((w'.set (nu.getD i 0) (at0 ws i)).map V.int))=H10 at L10 en10 kt10 ⊢;have w10:=hws4.mono L10.l.g;refine(aJ _ rfl p _ 1 _ rfl (cU rfl (SqT.of w10.tp) rfl _ rfl (aM bA _ _ _ rfl rfl (SqL.of w10.b) (xN (DZ (j:=i) (by lia) rfl) _ rfl _ rfl _ rfl (aM nr _ _ _ rfl rfl (SqL.of (L10.l.g _ _ k2)) (dC (atU _ hi) B _ _ (nu.getD i 0) rfl rfl ⟨ L10.l.c,iS (by rw[Zq,lb'];exact hUi),?_⟩))))));rw[wI];have L11:=L10.setC (vos (b'.set (nu.getD i 0) (ov bs i)));have en11:upd H10 B (.lst (vos (b'.set (nu.getD i 0) (ov bs i)))) na=some (.lst ((List.range (2*i)).map λe=>vn (MM.nmF (λk=>nu.getD k 0) (λk=>fl.getD k 0) e))):=by rw[aK nD.2.2.1];exact en10
  have kt11:∀a z,H8 a=some (.tup z)->upd H10 B (.lst (vos (b'.set (nu.getD i 0) (ov bs i)))) a=some (.tup z):=λa z h=>by
   have h:=kt10 a z h;rw[aK (λe=>by rw[e,L10.l.c]at h;cases h)];exact h
  generalize upd H10 B (.lst (vos (b'.set (nu.getD i 0) (ov bs i))))=H11 at L11 en11 kt11 ⊢;have s11:=L11.l.g;refine(bJ _ rfl _ rfl _ rfl (aM nr _ _ _ rfl rfl (SqL.of (s11 _ _ k2)) (kI (atU _ hi) _ _ rfl rfl (.inl ⟨by decide,by decide⟩) (bP _ rfl _ _ rfl rfl ⟨ _,rfl,(aJ _ rfl nr _ _ _ rfl (cQ rfl (SqL.of (s11 _ _ k2)) (atU _ hi) _ _ rfl rfl (lG (.inl ⟨by decide,by decide⟩) _ _ rfl rfl _ rfl (a9 _ _ rfl rfl (by show 2<=ZW;decide) (λnl hnl=>?_)))))⟩))));have v1:V.int (2*((nu.getD i 0:Nat):Int)+(f:Int))=vn (2*nu.getD i 0+f):=by show V.int _=V.int _;congr 1
  have v2:V.int (2*((nu.getD i 0:Nat):Int)+1-(f:Int))=vn (2*nu.getD i 0+(1-f)):=by show V.int _=V.int _;congr 1;lia
  have gn1:=aI hnl (.lst [V.int (2*((nu.getD i 0:Nat):Int)+(f:Int)),V.int (2*((nu.getD i 0:Nat):Int)+1-(f:Int))]);refine(aM na nl _ _ rfl rfl (gn1 _ _ en11) ⟨ aB,?_,λnb hnb=>?_⟩)
  ·rw[Zq,Yj];exact Yr (by show 2*i+2<=1000;lia) (by decide)
  have gn2:=aI hnb (.lst (((List.range (2*i)).map λe=>vn (MM.nmF (λk=>nu.getD k 0) (λk=>fl.getD k 0) e))++[V.int (2*((nu.getD i 0:Nat):Int)+(f:Int)),V.int (2*((nu.getD i 0:Nat):Int)+1-(f:Int))]));have gn:=gn1.trans gn2;have LN:=L11.mono gn1;subst hfl;refine(bM nb (fl++[f]) _ _ _ _ _ (gH _ _ rfl (L11.mono gn) (by rw[Zm];rfl) ?_ ⟨(aH LN.l.a hnb).symm,(aH LN.l.b hnb).symm,(aH LN.l.c hnb).symm,(aH LN.d hnb).symm⟩ ⟨ ?_,by rw[List.length_set];exact lx,by rw[List.length_set];exact lw',by rw[List.length_set];exact lb',?_⟩))
  ·intro z hz;rcases Zf.mp hz with hz | hz
   ·exact hf1 z hz
   ·have:z=f:=by simpa using hz
    lia
  ·rw[aB];show some (HO.lst (((List.range (2*fl.length)).map λe=>vn (MM.nmF (λk=>nu.getD k 0) (λk=>fl.getD k 0) e))++[V.int (2*((nu.getD fl.length 0:Nat):Int)+(f:Int)),V.int (2*((nu.getD fl.length 0:Nat):Int)+1-(f:Int))]))=_;rw[v1,v2];rw[MM.J8]
  ·intro k hk;rw[kU (by lia),HU (by lia)];rcases Xq k fl.length with hk' | hk'
   ·have ne:nu.getD k 0≠nu.getD fl.length 0:=λz=>by have:=mU.inj _ _ (by lia) hi z;lia
    have e1:(fl++[f]).getD k 0=fl.getD k 0:=by simp[List.getD,Zx hk']
    obtain⟨⟨a,a1,a2⟩,a3,a4⟩:=hv k hk';refine⟨⟨a,by rw[List.getElem?_set_ne (Ne.symm ne)];exact a1,?_⟩,by rw[if_neg ne];exact a3,by rw[if_neg ne];exact a4⟩;have:=gn _ _ (kt11 _ _ (g68 _ _ a2));unfold pairF at this ⊢;dsimp only at this ⊢;simp only[e1];exact this
   ·have ek:k=fl.length:=by lia
    subst ek;have e1:(fl++[f]).getD fl.length 0=f:=by simp[List.getD]
    refine⟨⟨ap,List.getElem?_set_self (by lia),?_⟩,by rw[if_pos rfl],by rw[if_pos rfl]⟩;have:=gn _ _ (kt11 _ _ htu);unfold pairF;dsimp only;simp only[e1];exact this
 rintro σ H6 ⟨na,fl,xs,w',b',o13,o14,o15,o16,rfl,L6,hfl,hf1,nD,en,lx,lw',lb',hv⟩;rw[trl]at hfl hv en;have hF:∀k,(λk=>fl.getD k 0) k<=1:=λk=>by
  show fl.getD k 0<=1;rw[Zv];cases hk:fl[k]? with
  |none=>simp
  |some z=>exact hf1 z (Zg hk)
 have hNM:=MM.oO mU hF;have hhalf:∀e,MM.nmF (λk=>nu.getD k 0) (λk=>fl.getD k 0) e / 2=nu.getD (e / 2) 0:=λe=>(MM.fT _ _ hF e).1;obtain⟨td,hts,ltd,htd⟩:=RG mU lx L6.l.a λk hk=>(hv k hk).1;have hww:∀k,k<ts.length->at0 w' (nu.getD k 0)=at0 ws k:=λk hk=>(hv k hk).2.1;have hbb:∀k,k<ts.length->ov b' (nu.getD k 0)=ov bs k:=λk hk=>(hv k hk).2.2;clear hv lx;generalize hnm:MM.nmF (λk=>nu.getD k 0) (λk=>fl.getD k 0)=φ at en hNM hhalf;have atN:∀e,e<2*ts.length->atI ((List.range (2*ts.length)).map λe=>vn (φ e)) ((e:Nat):Int)=some (vn (φ e)):=λe he=>dX (by rw[Zk,Yk he];rfl);have w6:=hws4.mono L6.l.g;dsimp only;refine UU (λσ' H'=>∃(s':List (Option Int)) (o17 o18:Option V),σ'=[some (.ref wa),some (.ref p),some (.int c),some (vn os.length),some (.ref ta),some (.ref oa),some (.ref pr),some (.ref nr),some (.ref D),some (.ref W),some (.ref B),some (.ref S),some (.ref na),o13,o14,o15,o16,o17,o18,none,none,none] /\
   L4 H4 H' D W B S xs (w'.map V.int) (vos b') (vos s')/\H' na=some (.lst ((List.range (2*ts.length)).map λe=>vn (φ e)))/\hJ H' D td/\s'.length=2*ts.length/\∀e,e<2*ts.length->ov s' (φ e)=ov ss e) (λN n1=>?_) ?_
 ·refine(aJ _ rfl p _ 2 _ rfl (gJ rfl (SqT.of w6.tp) rfl sA rfl ⟨_,SqL.of w6.s⟩ (fL (xs:=vos ss) (λi σ' H'=>∃(s':List (Option Int)) (o17 o18:Option V),σ'=[some (.ref wa),some (.ref p),some (.int c),some (vn os.length),some (.ref ta),some (.ref oa),some (.ref pr),some (.ref nr),some (.ref D),some (.ref W),some (.ref B),some (.ref S),some (.ref na),o13,o14,o15,o16,o17,o18,none,none,none] /\
   L4 H4 H' D W B S xs (w'.map V.int) (vos b') (vos s')/\H' na=some (.lst ((List.range (2*ts.length)).map λe=>vn (φ e)))/\hJ H' D td/\s'.length=2*ts.length/\∀e,e<i->ov s' (φ e)=ov ss e)
   (bN _ none none rfl L6 en hts ⟨ by simp,λe he=>absurd he (Nat.not_lt_zero _)⟩) (λi σ H' _ h=>by obtain⟨s',_,_,_,h1,_⟩:=h;exact SqL.of ((hws4.mono h1.l.g).s)) ?_ ?_)))
  ·rintro i x σ H7 Tt hx ⟨s',o17,o18,rfl,L7,en7,ts7,ls',hs'⟩ hTt;obtain⟨hi,rfl⟩:=NS hx;have gT:=aI hTt (.tup [vn i,vo (ov ss i)]);have L8:=L7.mono gT;refine(a9 Tt _ rfl (SqT.of aB) rfl (cF _ _ rfl _ _ rfl rfl ?_));have hφ:=hNM.lt i (by lia);refine(bJ _ rfl _ rfl _ rfl (aJ _ rfl na _ _ _ rfl ⟨ rfl,(dD (SqL.of (gT _ _ en7)) (atN i (by lia)) S _ _ (φ i) rfl ⟨ rfl,L8.d,iS (by rw[Zq,ls'];exact hφ),?_⟩)⟩));rw[wI];refine(bN _ _ _ rfl (L8.setD _) (by rw[aK nD.2.2.2];exact gT _ _ en7) ?_ ⟨ by rw[List.length_set];exact ls',λe he=>?_⟩)
   ·obtain⟨tq,q1,q2,q3⟩:=gT.ts ts7;refine⟨tq,by rw[aK L8.ad];exact q1,q2,λi t h=>?_⟩;obtain⟨y,y1,y2⟩:=q3 i t h;exact⟨y,y1,by rw[aK (λz=>by rw[z,L8.d]at y2;cases y2)];exact y2⟩
   ·rw[HU (by rw[ls'];exact hφ)];by_cases z:e=i
    ·rw[z,if_pos rfl]
    ·rw[if_neg (λq=>z (hNM.inj _ _ (by lia) (by lia) q))];exact hs' e (by lia)
  ·rintro σ H7 ⟨s',o17,o18,rfl,L7,en7,ts7,ls',hs'⟩;exact n1 _ _ (bN s' _ _ rfl L7 en7 ts7 ⟨ ls',λe he=>hs' e (by rw[Zq,lss];exact he)⟩)
 clear L6 en hts w6;rintro σ' H6 ⟨s',o17,o18,rfl,L6,en,hts,ls',hss⟩;have s6:=L6.l.g;have s0:=g4.trans s6;refine(dB _ rfl oa rfl ⟨_,SqL.of (s0 _ _ rr1)⟩ (λD2 hD2=>?_));refine comp_map os.length (λi ys H'=>∃rr':List Addr,ys=rr'.map V.ref/\c7 H6 H' D2 rr' (List.replicate i [])/\aZ H6 H') ⟨[],rfl,⟨aB,rfl,λi l h=>by simp at h,List.nodup_nil,by simp,hD2,λx hx=>by cases hx⟩,aI hD2 _⟩ ?_ ?_
 ·rintro i ys H' hi ⟨rr',rfl,n',g'⟩;have hx:(rr.map V.ref)[i]?=some (.ref (rr[i]'(by lia))):=by rw[Zk,Zz (by lia)];rfl
  refine⟨⟨_,_,SqL.of (g' _ _ (s0 _ _ rr1)),hx⟩,?_⟩;rintro x H'' ⟨rfl,hx'⟩;refine⟨(Fills.refl _).set _ rfl,?_⟩;refine⟨(by show 0<=ZW;decide),λnl hnl=>?_⟩;have g5:=aI hnl (.lst []);have nlr:nl∉rr':=λz=>by obtain⟨l,hl⟩:=n'.ex z;rw[hnl]at hl;cases hl
  have nlo:nl≠D2:=(aH n'.at_ hnl).symm;refine(GZ (g5 _ _ n'.at_) ?_ (rr'++[nl]) (by rw[Zt];rfl) ?_ ?_)
  ·rw[Zq,n'.len,List.length_replicate];exact Yt hi (Yr o40 (by decide))
  ·rw[List.replicate_succ'];exact n'.push (x:=nl) (l:=[]) (g'.free hnl) nlr nlo (by rw[aB,Zt];rfl) (by rw[aK nlo];exact aB) λb u hb h=>by rw[aK (show b≠D2 from λz=>n'.nin (z▸hb))];exact g5 _ _ h
  ·exact λb o h=>by rw[aK (aH h hD2)];exact g5 _ _ (g' _ _ h)
 rintro ys H7 ⟨rr7,rfl,n7,g7⟩;refine⟨⟨_,SqL.of (g7 _ _ (s0 _ _ rr1)),by rw[rrl];exact Nat.le_refl _⟩,?_⟩;refine(dB _ rfl oa rfl ⟨_,SqL.of (g7 _ _ (s0 _ _ rr1))⟩ (fL (xs:=rr.map V.ref) (λi σ H'=>∃(rr':List Addr) (rows:MM.a7) (o20 o21:Option V),
   σ=[some (.ref wa),some (.ref p),some (.int c),some (vn os.length),some (.ref ta),some (.ref oa),some (.ref pr),some (.ref nr),some (.ref D),some (.ref W),some (.ref B),some (.ref S),some (.ref na),o13,o14,o15,o16,o17,o18,some (.ref D2),o20,o21]/\aZ H6 H'/\c7 H6 H' D2 rr' rows/\rows.length=os.length /\
   ∀p,p<i->∃l:List Nat,MM.row rows (ps.getD p 0)=l.map φ/\MM.Rot l (MM.row os p))
  (aM rr7 _ none none rfl g7 n7 ⟨ by simp,λp hp=>absurd hp (Nat.not_lt_zero _)⟩) (λi σ H' _ h=>by obtain⟨rr',rows,o20,o21,_,h1,_⟩:=h;exact SqL.of (h1 _ _ (s0 _ _ rr1))) ?_ ?_))
 ·rintro i x σ H8 Tt hx ⟨rr',rows,o20,o21,rfl,s8,n8,rl8,hw⟩ hTt;have hi:i<os.length:=by have:=(Zj.mp hx).1;lia
  obtain⟨xo,xo1,xo2⟩:=rr3 i _ (Zz hi);have ex:x=.ref xo:=by rw[Zk,xo1]at hx;cases hx;rfl
  subst ex;have hrow:MM.row os i=os[i]:=by unfold MM.row;rw[Zv,Zz hi];rfl
  rw[<-hrow]at xo2;have hfull:=g.g.full i hi;have hfour:=g.g.four i;have hlt:∀e∈MM.row os i,e<2*ts.length:=λe he=>(g.g.ends i e he).1;generalize hord:MM.row os i=ord at xo2 hfull hfour hlt;have hPi:=mP.lt i hi;have gT:=aI hTt (.tup [vn i,.ref xo]);have s9:=s8.trans gT;have n9:c7 H6 (upd H8 Tt (.tup [vn i,.ref xo])) D2 rr' rows:=n8.keep λb u _ h=>gT _ _ h;refine(a9 Tt _ rfl (SqT.of aB) rfl (cF _ _ rfl _ _ rfl rfl ?_));generalize upd H8 Tt (.tup [vn i,.ref xo])=H9 at s9 n9;have exo:=s9 _ _ (s0 _ _ xo2);have ordp:0<ord.length:=List.length_pos_iff.mpr hfull;refine(cL _ rfl _ rfl xo _ rfl ⟨ SqL.of exo,λs1 hs1=>?_⟩);have c1:tK (vns ord) (some (1:Int)) none=vns (ord.drop 1):=F8 ord (k:=1) (by lia);rw[c1];have gs1:=aI hs1 (.lst (vns (ord.drop 1)));refine(cL _ rfl _ rfl xo _ rfl ⟨ SqL.of (gs1 _ _ exo),λs2 hs2=>?_⟩);have c2:tK (vns ord) none (some (1:Int))=vns (ord.take 1):=QT ord (k:=1) (by lia);rw[c2];have gs2:=aI hs2 (.lst (vns (ord.take 1)));refine(aM s1 s2 _ _ rfl rfl (gs2 _ _ aB) ⟨ aB,?_,λrl hrl=>?_⟩)
  ·rw[Zq,Zq,Yf,Yw];exact Yr (by lia:_<=100) (by decide)
  rw[<-kJ];have gs3:=aI hrl (.lst (vns (ord.drop 1++ord.take 1)));have hperm:=E1 ord 1;have s10:=s9.trans ((gs1.trans gs2).trans gs3);have n10:c7 H6 (upd (upd (upd H9 s1 (.lst (vns (ord.drop 1)))) s2 (.lst (vns (ord.take 1)))) rl (.lst (vns (ord.drop 1++ord.take 1)))) D2 rr' rows:=n9.keep λb u _ h=>gs3 _ _ (gs2 _ _ (gs1 _ _ h));have erl:(upd (upd (upd H9 s1 (.lst (vns (ord.drop 1)))) s2 (.lst (vns (ord.take 1)))) rl (.lst (vns (ord.drop 1++ord.take 1)))) rl=some (.lst (vns (ord.drop 1++ord.take 1))):=aB;generalize upd (upd (upd H9 s1 (.lst (vns (ord.drop 1)))) s2 (.lst (vns (ord.take 1)))) rl (.lst (vns (ord.drop 1++ord.take 1)))=H10 at s10 n10 erl;have hrot:MM.Rot (ord.drop 1++ord.take 1) ord:=⟨1,rfl⟩
  generalize ord.drop 1++ord.take 1=rot at erl hperm hrot;refine⟨rl,rfl,⟨_,SqL.of erl⟩,λD3 hD3=>?_⟩;refine comp_map rot.length (λi ys H'=>ys=vns ((rot.take i).map φ)/\H'=upd H10 D3 (.lst ys)) ⟨rfl,rfl⟩ ?_ ?_
  ·rintro j ys H' hj ⟨rfl,rfl⟩;have gD:=aI hD3 (.lst (vns ((rot.take j).map φ)));have hx:(vns rot)[j]?=some (vn rot[j]):=by rw[Zk,Zz hj];rfl
   refine⟨⟨_,_,SqL.of (gD _ _ erl),hx⟩,?_⟩;rintro x' H'' ⟨rfl,hx'⟩;have e6:=hx' _ (SqL.of (gD _ _ erl));rw[hx]at e6;cases e6;have hjl:=hlt rot[j] (hperm.mem_iff.mp (Zp hj));have hrl5:rot.length<=4:=by rw[hperm.length_eq];exact hfour
   refine⟨(Fills.refl _).set _ rfl,?_⟩;refine⟨_,rfl,(aJ _ rfl na _ _ _ rfl (l9 rfl (SqL.of (gD _ _ (s10 _ _ en))) (atN _ hjl) aB ?_ ?_ ?_))⟩
   ·rw[Zq,Zq,Yw];exact Ys (by lia:_<=4) (by decide)
   ·rw[List.take_add_one,Zz hj,Zt,kJ];rfl
   ·rw[hV]
  ·rintro ys H' ⟨rfl,rfl⟩;rw[Yv];have gD:=aI hD3 (.lst (vns (rot.map φ)));refine⟨⟨_,SqL.of (gD _ _ erl),by rw[Zq];exact Nat.le_refl _⟩,?_⟩;have D3r:D3∉rr':=λz=>by obtain⟨l,hl⟩:=n10.ex z;rw[hD3]at hl;cases hl
   have D3o:D3≠D2:=(aH n10.at_ hD3).symm;refine(bJ _ rfl _ rfl _ rfl (aM pr _ _ _ rfl rfl (SqL.of (gD _ _ (s10 _ _ (s6 _ _ k1)))) (dC (atP i hi) D2 _ _ (ps.getD i 0) rfl rfl ⟨ gD _ _ n10.at_,iS (by rw[Zq,n10.len,rl8];exact hPi),?_⟩)));have n11:=n10.setRef (x:=D3) (l:=rot.map φ) (p:=ps.getD i 0) (H2:=upd (upd H10 D3 (.lst (vns (rot.map φ)))) D2 (.lst ((rr'.map V.ref).set (ps.getD i 0) (.ref D3)))) (s10.free hD3) D3r D3o (by rw[aB,List.map_set]) (by rw[aK D3o];exact aB)
    λb u hb h=>by rw[aK (show b≠D2 from λz=>n10.nin (z▸hb))];exact gD _ _ h
   refine(aM _ _ _ _ rfl ?_ n11 ⟨ by rw[List.length_set];exact rl8,λp hp=>?_⟩)
   ·exact λb u h=>by rw[aK (aH h hD2)];exact gD _ _ (s10 _ _ h)
   ·rcases Xq p i with hp' | hp'
    ·have ne:ps.getD p 0≠ps.getD i 0:=λz=>by have:=mP.inj p i (by lia) hi z;lia
     rw[MM.fG ne];exact hw p hp'
    ·have ep:p=i:=by lia
     subst ep;rw[MM.dR (by rw[rl8];exact hPi),hord];exact⟨rot,rfl,hrot⟩
 ·rintro σ H8 ⟨rr',rows,o20,o21,rfl,s8,n8,rl8,hw⟩;rw[rrl]at hw;have R:MM.Ren ts td os rows φ (λi=>ps.getD i 0):=by
   rw[<-hnm];refine MM.E4 g mU hF mP ltd rl8 (λk hk=>htd k hk) λp hp=>?_;rw[hnm];exact hw p hp
  refine(EE _ rfl _ rfl _ rfl (by show 3<=ZW;decide) (λr1 hr1=>?_));have k3:=aI hr1 (.tup [vn os.length,.ref D,.ref D2]);refine(bJ _ rfl _ rfl _ rfl ⟨ _,rfl,(by show 3<=ZW;decide),λr2 hr2=>?_⟩);have k4:=aI hr2 (.tup [.ref W,.ref B,.ref S]);refine⟨(by show 3<=ZW;decide),λr hr'=>?_⟩;have k5:=aI hr' (.tup [.ref r1,.ref na,.ref r2]);have kk:=k3.trans (k4.trans k5);have gz:=s8.trans kk;exact q r r1 r2 D D2 na W B S td rows φ _ _ w' b' s' _ ((g4.trans s6).trans gz) aB (k5 _ _ (k4 _ _ aB)) (gz.ts hts) (n8.keep (λb u _ h=>kk _ _ h)).os (gz _ _ en) ⟨k5 _ _ aB,gz _ _ L6.l.b,gz _ _ L6.l.c,gz _ _ L6.d⟩ lw' lb' ls' R mU hhalf hww hbb hss
end K29
namespace L2
open PySem PyProof.Rows
theorem hJ.toI{H:Hp}{a:Addr}{ts:MM.bD}(h:hJ H a ts):TsI H a (AW.cT ts):=by
 obtain⟨tr,h1,h2,h3⟩:=h;refine⟨tr,h1,by rw[h2,AW.cT,Zq],λi t e=>?_⟩;rw[AW.cT,Zk]at e;cases c:ts[i]? with
 |none=>rw[c]at e;cases e
 |some u=>rw[c]at e;cases e;exact h3 i u c
theorem pK.toI{H:Hp}{a:Addr}{os:MM.a7}(h:pK H a os):OsI H a (AW.cO os):=by
 obtain⟨tr,h1,h2,h3⟩:=h;refine⟨tr,h1,by rw[h2,AW.cO,Zq],λi t e=>?_⟩;rw[AW.cO,Zk]at e;cases c:os[i]? with
 |none=>rw[c]at e;cases e
 |some u =>
  rw[c]at e;cases e;obtain⟨r,q1,q2⟩:=h3 i u c;exact⟨r,q1,by rw[q2,Yh];rfl⟩
theorem NQ{H:Hp}{r tA oA:Addr}{ts:MM.bD}{os:MM.a7}(h1:H r=some (.tup [vn os.length,.ref tA,.ref oA]))(h2:hJ H tA ts)(h3:pK H oA os):GR H r os.length (AW.cT ts) (AW.cO os):=⟨tA,oA,h1,h2.toI,h3.toI⟩
end L2
namespace K29
open PySem L2 PyProof.Rows NM
def JS(K:PySem.W.Frag):Sp:=λvs H Q _=>∃(sa:Addr) (ns:List Int),vs=[.ref sa]/\SqL K H sa (ns.map V.int)/\ns.length<=63/\∀H',Q (.bl true) H'
theorem VS(T:Txt K mg t):bT P w K mg base CX0 lawK t.UQ t.UO ["_law_script"] (JS K):=by
 have JA:=HX (P:=P) (w:=w) (base:=base) T (iJ T) (pT T);refine T.YA.F.ok OK (λvs H Q E h=>?_) (λcdv A outer s H vs Q E hr h=>?_)
 ·obtain⟨sa,ns,rfl,_⟩:=h;rfl
 obtain⟨sa,ns,rfl,hS,_,q⟩:=h;have nd:=OK.nd;have nd_l_weight:(["_law_weight"]:List Str).Nodup:=by decide
 have nd_l_weight_l_by:(["_law_weight","_law_by"]:List Str).Nodup:=by decide
 have nd_l_k_l_back_l_some_l_outer:(["_law_k","_law_back","_law_some","_law_outer"]:List Str).Nodup:=by decide
 have nd_l_end:(["_law_end"]:List Str).Nodup:=by decide
 have nd_l_order:(["_law_order"]:List Str).Nodup:=by decide
 have nd_l_k_l_names_l_rings_l_some_l_outer:(["_law_k","_law_names","_law_rings","_law_some","_law_outer"]:List Str).Nodup:=by decide
 refine⟨_,(aC (aW 1 nd (bK (SN T) hr T.KQ aX (aA (pv 0) (aA aG (aA aG aE)))))
  (aC (aW 2 nd (bK (pU T) hr T.fW aX (aA (pv 0) (aA aG aE))))
  (aC (aW 3 nd (bK (pS T) hr T.lP aX (aA (aN aP (pv 1) aG (λ_ _=>rfl)) (aA (aN aP (pv 1) aG (λ_ _=>rfl)) aE))))
  (aC (aW 4 nd (aT dE (bK (iJ T) hr T.fQ aX (aA (pv 2) (aA aG aE))) (a8 aU rfl T.dQ PySem.boot_len (aA (pv 3) aE))))
  (aC (aW 5 nd (bK JA hr T.zG aX (aA (aN aP (pv 1) aG (λ_ _=>rfl)) (aA (bK (pU T) hr T.fW aX (aA (pv 0) (aA aG aE))) (aA aG aE)))))
  (aC (aW 6 nd (bK (yX T) hr T.fP aX (aA (pv 1) (aA (pv 4) (aA (pv 5) aE)))))
  (aC (hZ (bK (MG T) hr T.BQ aX (aA (pv 1) (aA (pv 5) (aA (bK (pU T) hr T.fW aX (aA (pv 0) (aA aG aE))) aE)))) (eL rfl (aV (aO (i:=7) nd rfl (Or.inl rfl)) (aV (aO (i:=8) nd rfl (Or.inr rfl)) (aV (aO (i:=9) nd rfl (Or.inl rfl)) cJ)))))
  (aC (aW 10 nd (bK (pS T) hr T.lP aX (aA (aN aP (pv 7) aG (λ_ _=>rfl)) (aA (aN aP (pv 7) aG (λ_ _=>rfl)) aE))))
  (aC (aW 11 nd (aN aQ (gK (N':=["_law_k","_law_names","_law_rings","_law_some","_law_outer"]) (js:=[none,some 8,some 10,some 3,some 4]) rfl (cX rfl T.dZ (aA (a8 aU rfl T.dQ PySem.boot_len (aA (pv 3) aE)) aE)) (λ_ _ _ _ _=>(aO (i:=0) nd_l_k_l_names_l_rings_l_some_l_outer rfl (Or.inl rfl))) (λ_ _ _ _ _=>(uE (bH (P8 (K:=K) rfl) (aN (fK (K:=K) rfl) (pv 1) (aN (fK (K:=K) rfl) (aN (fK (K:=K) rfl) (pv 3) (pv 4) (λ_ _=>rfl)) aG (λ_ _=>rfl)) (λ_ _=>rfl)) (aN (fK (K:=K) rfl) (pv 2) (pv 0) (λ_ _=>rfl)) rfl))) (λ_ _ _ _ _=>(pv 0))) aG (λ_ _=>rfl)))
  (aC (dH (bH vD (bK (yX T) hr T.fP aX (aA (pv 7) (aA (pv 11) (aA (pv 9) aE)))) (pv 6) (bO _)) (aL (bE sP)) bW)
  (aC (aW 12 nd (cH (aA (aN aP (pv 1) aG (λ_ _=>rfl)) (aA (aN aP (pv 1) aG (λ_ _=>rfl)) (aA (gK (N':=["_law_order"]) (js:=[none]) rfl (cI (aN aP (pv 1) aG (λ_ _=>rfl))) (λ_ _ _ _ _=>(aO (i:=0) nd_l_order rfl (Or.inl rfl))) (λ_ _ _ _ _=>dJ) (λ_ _ _ _ _=>(IH (K:=K) rfl (pv 0) kO kO (mO (sO mC aG))))) aE)))))
  (aC (bU (i:=13) nd rfl (Or.inl rfl)  (N':=["_law_end"]) (js:=[none]) rfl (cI (aN aP (pv 5) aG (λ_ _=>rfl))) (λ_ _ _ _ _=>(aO (i:=0) nd_l_end rfl (Or.inl rfl))) (λ_ _ _ _ _=>dJ) (λ_ _ _ _ _=>fI))
  (aC (cV PassesOwn.never rfl (fH rfl T.cK (aA (aN aP (pv 5) aG (λ_ _=>rfl)) aE)) (eL rfl (aV (aO (i:=14) nd rfl (Or.inl rfl)) (aV (aO (i:=15) nd rfl (Or.inl rfl)) cJ))) (aL (hZ (pv 15) (jE (pv 13) (bK (jO T) hr T.iL aX (aA (bK (rG T) hr T.mY aX (aA (aN aP (pv 1) aG (λ_ _=>rfl)) (aA (aN aP (pv 1) aG (λ_ _=>rfl)) (aA (pv 14) aE)))) aE)) set_list))))
  (aC (aW 16 nd (bK (pS T) hr T.lP aX (aA (aN aP (pv 12) aG (λ_ _=>rfl)) (aA (aN aP (pv 12) aG (λ_ _=>rfl)) aE))))
  (aC (aW 11 nd (aN aQ (gK (N':=["_law_k","_law_back","_law_some","_law_outer"]) (js:=[none,some 16,some 3,some 4]) rfl (cX rfl T.dZ (aA (a8 aU rfl T.dQ PySem.boot_len (aA (pv 16) aE)) aE)) (λ_ _ _ _ _=>(aO (i:=0) nd_l_k_l_back_l_some_l_outer rfl (Or.inl rfl))) (λ_ _ _ _ _=>(uE (bH (P8 (K:=K) rfl) (bK (jO T) hr T.iL aX (aA (aN (fK (K:=K) rfl) (aN (fK (K:=K) rfl) (pv 2) (pv 3) (λ_ _=>rfl)) aG (λ_ _=>rfl)) aE)) (aN (fK (K:=K) rfl) (pv 1) (pv 0) (λ_ _=>rfl)) rfl))) (λ_ _ _ _ _=>(pv 0))) aG (λ_ _=>rfl)))
  (aC (dH (bH vD (bK (yX T) hr T.fP aX (aA (pv 12) (aA (pv 11) (aA (cH (aA (aN aP (pv 5) aG (λ_ _=>rfl)) (aA (aN aP (pv 5) aG (λ_ _=>rfl)) (aA (pv 13) aE)))) aE)))) (pv 6) (bO _)) (aL (bE sP)) bW)
  (aC (aW 17 nd (aT c8 aG (aT dE (bK (iJ T) hr T.fQ aX (aA (pv 2) (aA aG aE))) aG)))
  (aC (aW 18 nd (bK (yX T) hr T.fP aX (aA (pv 1) (aA (pv 4) (aA (cH (aA (gK (N':=["_law_weight","_law_by"]) (js:=[none,some 17]) rfl (cI (aN aP (pv 5) aG (λ_ _=>rfl))) (λ_ _ _ _ _=>(aO (i:=0) nd_l_weight_l_by rfl (Or.inl rfl))) (λ_ _ _ _ _=>dJ) (λ_ _ _ _ _=>(aT dO (pv 1) (aT dE (pv 0) aG)))) (aA (aN aP (pv 5) aG (λ_ _=>rfl)) (aA (aN aP (pv 5) aG (λ_ _=>rfl)) aE)))) aE)))))
  (aC (aW 19 nd (bK (yX T) hr T.fP aX (aA (pv 1) (aA (pv 4) (aA (cH (aA (gK (N':=["_law_weight"]) (js:=[none]) rfl (cI (aN aP (pv 5) aG (λ_ _=>rfl))) (λ_ _ _ _ _=>(aO (i:=0) nd_l_weight rfl (Or.inl rfl))) (λ_ _ _ _ _=>dJ) (λ_ _ _ _ _=>(aT dE (pv 0) aG))) (aA (aN aP (pv 5) aG (λ_ _=>rfl)) (aA (aN aP (pv 5) aG (λ_ _=>rfl)) aE)))) aE)))))
  (aC (dH (bH oK (pv 19) fI (bO _)) (aL (bE (O0 (kQ oK (pv 18) fI (bO _)) (HS (kQ oK (pv 6) fI (bO _)))))) bW)
  (aL (bE (kQ lJ (pv 18) (aT dO (pv 17) (pv 19)) (bO _)))))))))))))))))))))))),?_⟩
 refine(aJ _ rfl sa ns 15 10 rfl ⟨ hS,by decide,by decide,λr tA oA rr ts os H1 g1 hr1 hM gd tl ol fc=>?_⟩);have hMp:Mp H1 r ts os:=⟨NQ hr1 hM.ts hM.os.os,AW.PX gd fc.conn (by lia) (by lia),gd⟩
 refine(dS _ rfl sa ns 8 rfl (g1.seq hS) ⟨ by decide,λc=>?_⟩);refine(aJ _ rfl r _ _ (.ref tA) rfl (cU rfl (SqT.of hr1) rfl _ rfl (aM r _ _ (.ref oA) rfl rfl (SqT.of hr1) (dC rfl tA oA ts os rfl hM.ts ⟨ hM.os.os,gd,by lia,λla lr H2 g2 hN=>?_⟩))));refine(bR _ rfl c 0 rfl (by decide) (by decide) (λm0 hm0 _=>?_));have ll:(lr.map V.ref).length=(LL ts os).length:=by rw[Zq,hN.len]
 have t1:=gd.one;have pos:0<(LL ts os).length:=by
  obtain⟨k,d,q1,_⟩:=MM.fD gd.maps (x:=0) (by lia);have:k<(LL ts os).length:=(Zj.mp q1).1
  lia
 obtain⟨o,eo,ho⟩:∃o:Nat,m0%((lr.map V.ref).length:Nat)=(o:Int)/\o<(LL ts os).length:=by
  rw[ll];have h1:=Xj m0 (show((LL ts os).length:Int)≠0 by lia);have h2:=Xk m0 (show 0<((LL ts os).length:Int) by lia);exact⟨(m0%((LL ts os).length:Int)).toNat,by lia,by lia⟩
 refine(bP _ rfl la _ rfl (.inl (SqL.of hN.at_)) (a9 _ _ rfl rfl (by show(0:Int)<((lr.map V.ref).length:Nat);lia) ?_));show jH 4 (V.int (m0%((lr.map V.ref).length:Nat))) _ _ _;rw[eo];clear eo hm0 ll;have hr2:=g2 _ _ hr1;have ht2:=g2.ts hM.ts;obtain⟨trr,t1',t2',_⟩:=id ht2;have ho2:pK H2 oA os:=(hM.os.keep λb u _ h=>g2 _ _ h).os;have hs2:=(g1.trans g2).seq hS;have hM2:=hMp.same g2;refine(aJ _ rfl r _ _ (.ref tA) rfl (cU rfl (SqT.of hr2) rfl _ rfl (lZ sa ns 9 rfl hs2 (by decide) (λc9=>(aM tA _ c9 1 rfl (SqL.of t1') (by rw[Zq];lia) ⟨ .inr rfl,λp0 wA bA sA ws bs ss H3 l3 w3 _ lw lb lss ok _=>?_⟩)))));rw[Zq,t2']at lw lb lss;have g3:=l3.g;have hw3:wC H3 p0 wA bA sA ws bs ss:=⟨w3,l3.a,l3.b,l3.c⟩
 refine(bJ _ rfl _ rfl _ rfl (bM r p0 wA bA sA o ts (aM os ws bs ss rfl (hM2.same g3) fc.flat (eK tl ol ho hw3 lw lb lss ⟨ ok,λx H4 g4 lx=>?_⟩))));have g24:=g3.trans g4;refine(bJ _ rfl _ rfl _ rfl (lZ sa ns 10 rfl (g24.seq hs2) (by decide) (λc10=>(bM r tA oA p0 wA bA sA (eY c10 ts os ws bs ss rfl (eK (g24 _ _ hr2) (g24.ts ht2) (g24.os ho2) gd tl ol (hw3.mono g4) ⟨ lw,lb,lss,λrn r1 r2 tB oB na wB bB sB td rows φ U Pl ws' bs' ss' H5 g5 f0 f1 f2 f3 f4 f5 l1 l2 l3 R mU hφ hww hbb hss=>?_⟩))))));refine(a9 rn _ rfl (SqT.of f0) rfl (wH _ _ rfl _ _ rfl ⟨ _,_,rfl,rfl,?_⟩));refine(aJ _ rfl r1 _ _ (.ref tB) rfl (cU rfl (SqT.of f1) rfl _ rfl (aM r1 _ _ (.ref oB) rfl rfl (SqT.of f1) (dC rfl tB oB td rows rfl f2 ⟨ f3,R.g',by rw[R.N];lia,λrA rl H6 g6 hN6=>?_⟩))));have g26:=g24.trans (g5.trans g6);have la6:=g26 _ _ hN.at_;have hLo:=Zz ho;have hdd:=MM.cY gd hLo;have hpos:0<((LL ts os)[o]).length:=List.length_pos_iff.mpr hdd.2.2.2;have he0:((LL ts os)[o]).getD 0 0∈(LL ts os)[o]:=by simp[List.getD,hpos]
 have he0N:=hdd.2.1 _ he0;obtain⟨y0,hy0,ey0⟩:=hN.row o _ hLo;have ey6:=g26 _ _ ey0;generalize hE:(LL ts os)[o]=E0 at hLo hdd hpos he0 he0N ey6;generalize hX:E0.getD 0 0=x0 at he0 he0N;have mR:=R.g'.maps;rw[R.N]at mR;have ln:(LL td rows).length=(LL ts os).length:=by have:=(MM.yO R.g.maps mR R.m R.o R.b).1;show(MM.bC _ (2*td.length)).length=_;rw[R.N];exact this
 obtain⟨o',d',hd',hx',_⟩:=MM.fD R.g'.maps (x:=φ x0) (by rw[R.N];exact R.m.lt _ he0N);have ho':o' < (LL ts os).length:=by rw[<-ln];exact(Zj.mp hd').1
 have atN:atI ((List.range (2*ts.length)).map λe=>vn (φ e)) ((x0:Nat):Int)=some (vn (φ x0)):=dX (by rw[Zk,Yk he0N];rfl);have ll6:(lr.map V.ref).length=(LL ts os).length:=by rw[Zq,hN.len]
 have hLN:(LL ts os).length<=2*ts.length:=MM.KA gd;refine(bP _ rfl la _ rfl (.inl (SqL.of la6)) ⟨ _,rfl,by lia,by lia,λD hD=>?_⟩);refine m4 ((((lr.map V.ref).length:Nat):Int)).toNat (λj ys H'=>ys=(if o' < j then [vn o'] else [])/\H'=upd H6 D (.lst ys)) ⟨rfl,rfl⟩ ?_ ?_
 ·rintro j ys H' hj ⟨rfl,rfl⟩;have hj':j<(LL td rows).length:=by lia
  refine⟨hj,?_⟩;rintro x H'' ⟨rfl,rfl⟩;have gD:=aI hD (.lst (if o' < j then [vn o'] else []));rw[Int.zero_add];obtain⟨yj,hyj,eyj⟩:=hN6.row j _ (Zz hj');refine(xN ((Fills.refl _).set _ rfl) _ rfl _ rfl _ rfl (aM la _ _ _ rfl rfl (SqL.of (gD _ _ la6)) (dC (xC hy0) y0 _ _ _ rfl rfl (dD (SqL.of (gD _ _ ey6)) (jF (j:=0) hpos rfl) na _ _ _ rfl (eZ rfl (SqL.of (gD _ _ (g6 _ _ f4))) (by rw[hX];exact atN) _ rfl _ rfl (aM rA _ _ _ rfl rfl (SqL.of (gD _ _ hN6.at_)) (NK (xC hyj) yj _ rfl (.inl (SqL.of (gD _ _ eyj))) rfl (xQ _) ⟨ _,rfl,?_⟩)))))));rw[if_neg Bool.false_ne_true,DK];by_cases z:j=o'
  ·subst z;have ed:(LL td rows)[j]=d':=(Zj.mp hd').2;refine gC (decide_eq_true (by rw[ed];exact hx')) (GX _ rfl aB (by rw[if_neg (Nat.lt_irrefl _)];decide) ?_ (by rw[hV]));rw[if_neg (Nat.lt_irrefl _),if_pos (Nat.lt_succ_self _)];rfl
  ·refine fU (decide_eq_false λh=>z (MM.lN R.g' (Zz hj') h hd' hx')) ⟨?_,rfl⟩;have:(o' < j)=(o' < j+1):=propext ⟨λh=>by lia,λh=>by lia⟩;simp only[this]
 rintro ys H7 ⟨rfl,rfl⟩;rw[if_pos (show o' < ((((lr.map V.ref).length:Nat):Int)).toNat by lia)];have gD:=aI hD (.lst [vn o']);refine(dC (Nat.le_refl _) D _ _ _ rfl rfl ⟨ SqL.of aB,rfl,?_⟩);have g7:=g6.trans gD;generalize upd H6 D (.lst [vn o'])=H7 at gD g7 ⊢;have okR:GQ ws' bs' ss':=by
  have mo:∀{l:List (Option Int)}{x:Int},some x∈l->∃i,i<l.length/\ov l i=some x:=λ{l x} h=>by
   obtain⟨i,hi,e⟩:=Yy.mp h;exact⟨i,hi,by unfold ov;rw[Zv,Zz hi,e];rfl⟩
  refine⟨λx hx=>?_,λx hx=>?_,λx hx=>?_⟩
  ·obtain⟨i,hi,e⟩:=Yy.mp hx;obtain⟨k,hk,rfl⟩:=MM.nN mU (show i<ts.length by lia);have:at0 ws' (U k)=x:=by unfold at0;rw[Zv,Zz hi,e];rfl
   rw[<-this,hww k hk];exact ok.w _ (pE (by lia))
  ·obtain⟨i,hi,e⟩:=mo hx;obtain⟨k,hk,rfl⟩:=MM.nN mU (show i<ts.length by lia);rw[hbb k hk]at e;exact ok.b x (uH e)
  ·obtain⟨i,hi,e⟩:=mo hx;obtain⟨k,hk,rfl⟩:=MM.nN R.m (show i<2*ts.length by lia);rw[hss k hk]at e;exact ok.s x (uH e)
 refine(bJ _ rfl _ rfl _ rfl (bM r1 r2 wB bB sB o' td (aM rows ws' bs' ss' rfl ⟨NQ (by rw[R.P];exact g7 _ _ f1) (g7.ts f2) (g7.os f3),AW.PX R.g' (R.fc fc).conn (by rw[R.P];lia) (by rw[R.N];lia),R.g'⟩ ((R.fc fc).flat) (eK (by rw[R.N];exact tl) (by rw[R.P];exact ol) ((Zj.mp hd').1) (f5.mono g7) (by rw[R.N];exact l1) (by rw[R.N];exact l2) (by rw[R.N];exact l3) ⟨ okR,λx' H8 g8 lx'=>?_⟩))));have ex:=gY.ren R mU hφ hww hbb hss hLo he0 hd' hx' lx lx';subst ex;refine(fF _ rfl (by cases x'<;>rfl) _ rfl (fU (by simp) ?_));have g28:=g26.trans (gD.trans g8);have hr8:=g28 _ _ hr2;have ht8:=g28.ts ht2;have hw8:wC H8 p0 wA bA sA ws bs ss:=hw3.mono (g4.trans (g5.trans (g7.trans g8)));have la8:=gD.trans g8 _ _ la6;have ey8:=gD.trans g8 _ _ ey6;have hM8:=hM2.same g28;obtain⟨rr3,o1,o2,o3⟩:=id (g28.os ho2);clear f0 f1 f2 f3 f4 f5 hN6 hd' hx' lx';refine(aJ _ rfl r _ _ _ rfl (cU rfl (SqT.of hr8) rfl _ rfl (aM r _ _ (.ref tA) rfl rfl (SqT.of hr8) ⟨ rfl,(aJ _ rfl r _ _ (.ref oA) rfl (gJ rfl (SqT.of hr8) rfl oA rfl ⟨_,SqL.of o1⟩ (λD2 hD2=>?_)))⟩)));refine comp_map os.length (λi ys H'=>∃rr':List Addr,ys=rr'.map V.ref/\c7 H8 H' D2 rr' ((MM.rv os).take i)/\aZ H8 H') ⟨[],rfl,⟨aB,rfl,λi l h=>by simp at h,List.nodup_nil,by simp,hD2,λx hx=>by cases hx⟩,aI hD2 _⟩ ?_ ?_
 ·rintro i ys H' hi ⟨rr',rfl,n',g'⟩;obtain⟨x,x1,x2⟩:=o3 i os[i] (Zz hi);have hx:(rr3.map V.ref)[i]?=some (.ref x):=by rw[Zk,x1];rfl
  refine⟨⟨_,_,SqL.of (g' _ _ o1),hx⟩,?_⟩;rintro x' H'' ⟨rfl,hx'⟩;have e6:=hx' _ (SqL.of (g' _ _ o1));rw[hx]at e6;cases e6;refine⟨(Fills.refl _).set _ rfl,?_⟩;refine(bJ _ rfl _ rfl _ rfl (bN x _ 0 rfl (SqL.of (g' _ _ x2)) rfl rfl ⟨ .inl ⟨rfl,rfl⟩,λnl hnl=>?_⟩));rw[List.drop_zero,show(vns os[i]).reverse=vns os[i].reverse by unfold vns;rw[List.map_reverse]];have g5:=aI hnl (.lst (vns os[i].reverse));have nlr:nl∉rr':=λz=>by obtain⟨l,hl⟩:=n'.ex z;rw[hnl]at hl;cases hl
  have nlo:nl≠D2:=(aH n'.at_ hnl).symm;have hi':i<(MM.rv os).length:=by rw[MM.mH];exact hi
  have eR:(MM.rv os)[i]=os[i].reverse:=by simp[MM.rv]
  refine(GZ (g5 _ _ n'.at_) ?_ (rr'++[nl]) (by rw[Zt];rfl) ?_ ?_)
  ·rw[Zq,n'.len,Yw];exact Ys (by lia:_<=1000) (by decide)
  ·rw[List.take_succ_eq_append_getElem hi',eR];exact n'.push (x:=nl) (l:=os[i].reverse) (g'.free hnl) nlr nlo (by rw[aB,Zt];rfl) (by rw[aK nlo];exact aB) λb u hb h=>by rw[aK (show b≠D2 from λz=>n'.nin (z▸hb))];exact g5 _ _ h
  ·exact λb o h=>by rw[aK (aH h hD2)];exact g5 _ _ (g' _ _ h)
 rintro ys H9 ⟨fr,rfl,n9,g9⟩;refine⟨⟨_,SqL.of (g9 _ _ o1),by rw[Zq,o2];exact Nat.le_refl _⟩,(by show 3<=ZW;decide),λfl hfl=>?_⟩;rw[<-MM.mH os,Yv]at n9;have k10:=aI hfl (.tup [vn os.length,.ref tA,.ref D2]);have e10:upd H9 fl (.tup [vn os.length,.ref tA,.ref D2]) fl=some (.tup [vn os.length,.ref tA,.ref D2]):=aB;have hO10:pK (upd H9 fl (.tup [vn os.length,.ref tA,.ref D2])) D2 (MM.rv os):=(n9.keep λb u _ h=>k10 _ _ h).os;have g810:=g9.trans k10;generalize upd H9 fl (.tup [vn os.length,.ref tA,.ref D2])=H10 at k10 e10 hO10 g810 ⊢;have hw10:=hw8.mono g810;refine(aJ _ rfl p0 _ 2 _ rfl (gJ rfl (SqT.of hw10.tp) rfl sA rfl ⟨_,SqL.of hw10.s⟩ (λD3 hD3=>dP ss.length (λ_=>.non) hD3 (by lia) (λi H' hi g'=>⟨_,_,SqL.of (g' _ _ hw10.s),GK hi⟩) (λH' g'=>⟨_,SqL.of (g' _ _ hw10.s),by rw[Zq];exact Nat.le_refl _⟩) (λi H' x H'' k hi g' hy hk=>?_) ?_)))
 ·obtain⟨rfl,_⟩:=hy;exact⟨(Fills.refl _).set _ rfl,hk _ (aZ.refl _)⟩
 intro H11 g11 eD3;rw[show(List.range ss.length).map (λ_=>V.non)=vos (List.replicate ss.length none) by unfold vos;rw[List.map_const',List.map_replicate,Yj];rfl]at eD3;have mM:=FH gd;have g211:=g28.trans (g810.trans g11);dsimp only;refine UU (λσ' H'=>∃(sM:List (Option Int)) (o14 o15:Option V),σ'=[some (.ref sa),some (.ref r),some (.int c),some (.ref la),some (vn o),some (.ref p0),some (vo x'),some (.ref r1),some (.ref na),some (.ref r2),some (.ref rA),some (vn o'),some (.ref fl),some (.ref D3),o14,o15,none,none,none,none]/\aZ H10 H'/\H' D3=some (.lst (vos sM))/\sM.length=2*ts.length/\∀e,e<2*ts.length->ov sM (MM.oth (MM.behind ts os e))=ov ss e) (λN n1=>?_) ?_
 ·have hw11:=hw10.mono g11;refine(aJ _ rfl p0 _ 2 _ rfl (gJ rfl (SqT.of hw11.tp) rfl sA rfl ⟨_,SqL.of hw11.s⟩ (fL (xs:=vos ss) (λi σ' H'=>∃(sM:List (Option Int)) (o14 o15:Option V),σ'=[some (.ref sa),some (.ref r),some (.int c),some (.ref la),some (vn o),some (.ref p0),some (vo x'),some (.ref r1),some (.ref na),some (.ref r2),some (.ref rA),some (vn o'),some (.ref fl),some (.ref D3),o14,o15,none,none,none,none]/\aZ H10 H'/\H' D3=some (.lst (vos sM))/\sM.length=2*ts.length/\∀e,e<i->ov sM (MM.oth (MM.behind ts os e))=ov ss e)
   (bN _ none none rfl g11 eD3 (by rw[List.length_replicate];exact lss) (λe he=>absurd he (Nat.not_lt_zero _))) (λi σ H' _ h=>by obtain⟨_,_,_,_,h1,_⟩:=h;exact SqL.of (h1 _ _ hw10.s)) ?_ ?_)))
  ·rintro i x σ H12 Tt hx ⟨sM,o14,o15,rfl,g12,e3,l3',hs3⟩ hTt;obtain⟨hi,rfl⟩:=NS hx;have gT:=aI hTt (.tup [vn i,vo (ov ss i)]);have hi':i<2*ts.length:=by lia
   have gX:=g28.trans (g810.trans (g12.trans gT));refine(a9 Tt _ rfl (SqT.of aB) rfl (cF _ _ rfl _ _ rfl rfl ?_));have hψ:=mM.lt i hi';refine(bJ _ rfl _ rfl _ rfl (aM r _ _ (.ref tA) rfl rfl (SqT.of (gX _ _ hr2)) ⟨ rfl,(aJ _ rfl r _ _ (.ref oA) rfl (cU rfl (SqT.of (gX _ _ hr2)) rfl _ rfl (dA tA oA ts os i rfl (gX.ts ht2) (cU (gX.os ho2) gd hi' (MM.behind ts os i) rfl (aM D3 _ _ (MM.oth (MM.behind ts os i)) rfl rfl (gT _ _ e3) ⟨ iS (by rw[Zq,l3'];exact hψ),?_⟩)))))⟩));rw[wI];refine(bN _ _ _ rfl (λb u h=>by rw[aK (aH h hD3)];exact gT _ _ (g12 _ _ h)) aB (by rw[List.length_set];exact l3') (λe he=>?_));rw[HU (by rw[l3'];exact hψ)];by_cases z:e=i
   ·rw[z,if_pos rfl]
   ·rw[if_neg (λq=>z (MM.zV gd (by lia) hi' q))];exact hs3 e (by lia)
  ·rintro σ H12 ⟨sM,o14,o15,rfl,g12,e3,l3',hs3⟩;exact n1 _ _ (bN sM _ _ rfl g12 e3 l3' (λe he=>hs3 e (by rw[Zq,lss];exact he)))
 rintro σ' H12 ⟨sM,o14,o15,rfl,g12,e3,l3',hs3⟩;have g212:=g28.trans (g810.trans g12);have gR:=gd.rv;have hO12:=g12.os hO10;have e12:=g12 _ _ e10;have hLR:(LL ts (MM.rv os)).length<=2*ts.length:=MM.KA gR;refine(aJ _ rfl fl _ _ (.ref tA) rfl (cU rfl (SqT.of e12) rfl _ rfl (aM fl _ _ (.ref D2) rfl rfl (SqT.of e12) (dC rfl tA D2 ts (MM.rv os) rfl (g212.ts ht2) ⟨ hO12,gR,by lia,λbk bl H13 g13 hN13=>?_⟩))));have la13:=(g810.trans (g12.trans g13)) _ _ la8;have ey13:=(g810.trans (g12.trans g13)) _ _ ey8;obtain⟨oM,dM,hdM,hxM,_⟩:=MM.fD gR.maps (x:=MM.oth x0) (MM.bG he0N);have hoM:oM<(LL ts (MM.rv os)).length:=(Zj.mp hdM).1;have bll:(bl.map V.ref).length=(LL ts (MM.rv os)).length:=by rw[Zq,hN13.len]
 refine(bP _ rfl bk _ rfl (.inl (SqL.of hN13.at_)) ⟨ _,rfl,by lia,by lia,λD4 hD4=>?_⟩);refine m4 ((((bl.map V.ref).length:Nat):Int)).toNat (λj ys H'=>ys=(if oM<j then [vn oM] else [])/\H'=upd H13 D4 (.lst ys)) ⟨rfl,rfl⟩ ?_ ?_
 ·rintro j ys H' hj ⟨rfl,rfl⟩;have hj':j<(LL ts (MM.rv os)).length:=by lia
  refine⟨hj,?_⟩;rintro x H'' ⟨rfl,rfl⟩;have gD:=aI hD4 (.lst (if oM<j then [vn oM] else []));rw[Int.zero_add];obtain⟨yj,hyj,eyj⟩:=hN13.row j _ (Zz hj');refine(GY ((Fills.refl _).set _ rfl) _ rfl _ rfl (aM la _ _ _ rfl rfl (SqL.of (gD _ _ la13)) (dC (xC hy0) y0 _ _ _ rfl rfl (JG (SqL.of (gD _ _ ey13)) (jF (j:=0) hpos rfl) (E0.getD 0 0) rfl _ rfl (aJ _ rfl bk _ _ _ rfl (cQ rfl (SqL.of (gD _ _ hN13.at_)) (xC hyj) yj _ rfl (.inl (SqL.of (gD _ _ eyj))) ⟨ rfl,xQ _,_,rfl,?_⟩))))));rw[if_neg Bool.false_ne_true,DK,hX];by_cases z:j=oM
  ·subst z;have ed:(LL ts (MM.rv os))[j]=dM:=(Zj.mp hdM).2;refine gC (decide_eq_true (by rw[ed];exact hxM)) (GX _ rfl aB (by rw[if_neg (Nat.lt_irrefl _)];decide) ?_ (by rw[hV]));rw[if_neg (Nat.lt_irrefl _),if_pos (Nat.lt_succ_self _)];rfl
  ·refine fU (decide_eq_false λh=>z (MM.lN gR (Zz hj') h hdM hxM)) ⟨?_,rfl⟩;have:(oM<j)=(oM<j+1):=propext ⟨λh=>by lia,λh=>by lia⟩;simp only[this]
 rintro ys H14 ⟨rfl,rfl⟩;rw[if_pos (show oM<((((bl.map V.ref).length:Nat):Int)).toNat by lia)];have gD4:=aI hD4 (.lst [vn oM]);refine(dC (Nat.le_refl _) D4 _ _ _ rfl rfl ⟨ SqL.of aB,rfl,?_⟩);generalize upd H13 D4 (.lst [vn oM])=H14 at gD4 ⊢;have g1214:=g13.trans gD4;have g814:=g810.trans (g12.trans g1214);have hw14:=hw8.mono g814;have okM:GQ ws bs sM:=⟨ok.w,ok.b,λx hx=>by
  obtain⟨i,hi,e⟩:=Yy.mp hx;have e':ov sM i=some x:=by unfold ov;rw[Zv,Zz hi,e];rfl
  obtain⟨k,hk,rfl⟩:=MM.nN mM (show i<2*ts.length by lia);rw[hs3 k hk]at e';exact ok.s x (uH e')⟩
 refine(bJ _ rfl _ rfl _ rfl (aM p0 _ _ (.ref wA) rfl rfl (SqT.of hw14.tp) ⟨ rfl,(aJ _ rfl p0 _ _ (.ref bA) rfl (gJ rfl (SqT.of hw14.tp) rfl _ rfl (by show 3<=ZW;decide) (λua hua=>?_)))⟩));have gU:=aI hua (.tup [.ref wA,.ref bA,.ref D3]);have eU:upd H14 ua (.tup [.ref wA,.ref bA,.ref D3]) ua=some (.tup [.ref wA,.ref bA,.ref D3]):=aB;generalize upd H14 ua (.tup [.ref wA,.ref bA,.ref D3])=H15 at gU eU ⊢;have g1215:=g1214.trans gU;have g815:=g814.trans gU;refine(bM fl ua wA bA D3 oM ts (aM (MM.rv os) ws bs sM rfl ⟨NQ (by rw[MM.mH];exact g1215 _ _ e12) (g815.ts ht8) (g1215.os hO12),AW.PX gR (MM.TX gd fc.conn) (by rw[MM.mH];lia) (by lia),gR⟩ (MM.TJ gd fc.flat) (eK tl (by rw[MM.mH];exact ol) hoM ⟨eU,gU _ _ hw14.w,gU _ _ hw14.b,g1215 _ _ e3⟩ lw lb l3' ⟨ okM,λy H16 g16 ly=>?_⟩)));have ey:=gY.mir gd hs3 hLo hdM (by rw[hX];exact hxM) lx ly;subst ey;refine(fF _ rfl (by cases y<;>rfl) _ rfl (fU (by simp) ?_));have hw16:=hw8.mono (g815.trans g16);have hM16:=hM8.same (g815.trans g16);clear hw14 hO12 e12 e3 hN13 hdM hxM ly okM la13 ey13;refine(bR _ rfl c 1 rfl (by decide) (by decide) (λm1 hm1 _=>(a9 _ _ rfl rfl (by show(0:Int)<8;decide) ⟨ _,_,rfl,rfl,?_⟩)));obtain⟨k9,ek,hk0,hk9⟩:∃k:Int,2+m1%8=k/\0<=k/\k<=9:=⟨_,rfl,by lia,by lia⟩
 show jH 17 (V.int (2+m1%8)) _ _ _;rw[ek];refine(bJ _ rfl _ rfl _ rfl (aM p0 _ _ (.ref wA) rfl rfl (SqT.of hw16.tp) ⟨ rfl,wA,rfl,⟨_,SqL.of hw16.w⟩,λD5 hD5=>dP ws.length (λi=>.int (k9*(at0 ws i%101))) hD5 (by lia) (λi H' hi g'=>⟨_,_,SqL.of (g' _ _ hw16.w),gE hi⟩) (λH' g'=>⟨_,SqL.of (g' _ _ hw16.w),by rw[Zq];exact Nat.le_refl _⟩) (λi H' x H'' k hi g' hy hk=>?_) ?_⟩))
 ·obtain⟨rfl,hy⟩:=hy;have:=hy _ (SqL.of (g' _ _ hw16.w));rw[gE hi]at this;cases this;exact(GY ((Fills.refl _).set _ rfl) _ rfl _ rfl (a9 _ _ rfl rfl (by show(0:Int)<101;decide) (a9 _ _ rfl rfl (.inl ⟨by lia,by lia⟩) (hk _ (aZ.refl _)))))
 intro H17 g17 eD5;rw[show(List.range ws.length).map (λi=>V.int (k9*(at0 ws i%101)))=((List.range ws.length).map λi=>k9*(at0 ws i%101)).map V.int by rw[Yh];rfl]at eD5;have hw17:=hw16.mono g17;refine(aJ _ rfl p0 _ _ (.ref bA) rfl (cU rfl (SqT.of hw17.tp) rfl _ rfl (aM p0 _ _ (.ref sA) rfl rfl (SqT.of hw17.tp) ⟨ rfl,(by show 3<=ZW;decide),λub hub=>?_⟩)));have gV:=aI hub (.tup [.ref D5,.ref bA,.ref sA]);have eV:upd H17 ub (.tup [.ref D5,.ref bA,.ref sA]) ub=some (.tup [.ref D5,.ref bA,.ref sA]):=aB;generalize upd H17 ub (.tup [.ref D5,.ref bA,.ref sA])=H18 at gV eV ⊢;have hw18:=hw17.mono gV;have hM18:=hM16.same (g17.trans gV);have m5:∀i,i<ts.length->at0 ws i∈ws:=λi h=>pE (by lia);refine(bM r ub D5 bA sA o ts (aM os _ bs ss rfl hM18 fc.flat (eK tl ol ho ⟨eV,gV _ _ eD5,hw18.b,hw18.s⟩ (by rw[Zq,Yj];exact lw) lb lss ⟨ ⟨λx hx=>?_,ok.b,ok.s⟩,λmore H19 g19 lmore=>?_⟩)))
 ·obtain⟨i,_,rfl⟩:=Zh.mp hx;have h1:=Xj (at0 ws i) (show(101:Int)≠0 by decide);have h2:=Xk (at0 ws i) (show(0:Int)<101 by decide);refine⟨Int.mul_nonneg hk0 h1,Int.le_trans (Int.mul_le_mul_of_nonneg_right hk9 h1) (by lia)⟩
 have hw19:=hw18.mono g19;have hM19:=hM18.same g19;refine(bJ _ rfl _ rfl _ rfl (aM p0 _ _ (.ref wA) rfl rfl (SqT.of hw19.tp) ⟨ rfl,wA,rfl,⟨_,SqL.of hw19.w⟩,λD6 hD6=>dP ws.length (λi=>.int (at0 ws i%101)) hD6 (by lia) (λi H' hi g'=>⟨_,_,SqL.of (g' _ _ hw19.w),gE hi⟩) (λH' g'=>⟨_,SqL.of (g' _ _ hw19.w),by rw[Zq];exact Nat.le_refl _⟩) (λi H' x H'' k hi g' hy hk=>?_) ?_⟩))
 ·obtain⟨rfl,hy⟩:=hy;have:=hy _ (SqL.of (g' _ _ hw19.w));rw[gE hi]at this;cases this;exact(xM ((Fills.refl _).set _ rfl) _ rfl _ _ rfl rfl ⟨ (by show(0:Int)<101;decide),hk _ (aZ.refl _)⟩)
 intro H20 g20 eD6;rw[show(List.range ws.length).map (λi=>V.int (at0 ws i%101))=((List.range ws.length).map λi=>at0 ws i%101).map V.int by rw[Yh];rfl]at eD6;have hw20:=hw19.mono g20;refine(aJ _ rfl p0 _ _ (.ref bA) rfl (cU rfl (SqT.of hw20.tp) rfl _ rfl (aM p0 _ _ (.ref sA) rfl rfl (SqT.of hw20.tp) ⟨ rfl,(by show 3<=ZW;decide),λuc huc=>?_⟩)));have gW:=aI huc (.tup [.ref D6,.ref bA,.ref sA]);have eW:upd H20 uc (.tup [.ref D6,.ref bA,.ref sA]) uc=some (.tup [.ref D6,.ref bA,.ref sA]):=aB;generalize upd H20 uc (.tup [.ref D6,.ref bA,.ref sA])=H21 at gW eW ⊢;have hw21:=hw20.mono gW;refine(bM r uc D6 bA sA o ts (aM os _ bs ss rfl (hM19.same (g20.trans gW)) fc.flat (eK tl ol ho ⟨eW,gW _ _ eD6,hw21.b,hw21.s⟩ (by rw[Zq,Yj];exact lw) lb lss ⟨ ⟨λx hx=>?_,ok.b,ok.s⟩,λless H22 g22 lless=>?_⟩)))
 ·obtain⟨i,_,rfl⟩:=Zh.mp hx;have h1:=Xj (at0 ws i) (show(101:Int)≠0 by decide);have h2:=Xk (at0 ws i) (show(0:Int)<101 by decide)
  lia
 have tm:=gY.times hk0 (λi hi=>by rw[pD _ (show i<ws.length by lia),pD _ (show i<ws.length by lia)]) lless lmore;rcases tm with⟨rfl,rfl⟩ | ⟨a,rfl,rfl⟩
 ·have:=gY.nones lless lx;subst this;exact(fF _ rfl rfl _ rfl (gC (by decide) (fF _ rfl rfl _ rfl (gC (by decide) ⟨_,rfl,rfl,q _⟩))))
 ·refine(fF _ rfl rfl _ rfl (fU (decide_eq_false (λz=>by cases z)) (bJ _ rfl _ rfl _ rfl (fE _ _ rfl rfl (.inl ⟨by lia,by lia⟩) rfl ?_))));have e:decide (V.int (k9*a)=V.int (k9*a))=true:=decide_eq_true rfl;exact e▸q _
end K29
namespace PySem.W.Fast
def tw14773882721790522810:Nat:=0
def tw17302961021017748426:Nat:=0
def tw15930477023883754669:Nat:=0
def tw6949623550814942042:Nat:=0
def tw11618056842410566331:Nat:=0
def tw1696767906343657322:Nat:=0
def tw868657543989784349:Nat:=0
def tw9611004159922597944:Nat:=0
def tw6481724945960317952:Nat:=0
def tw2721936412892104920:Nat:=0
def tw5089903533993573141:Nat:=0
def tw8834250517443015813:Nat:=0
def tw17579766384534933374:Nat:=0
def tw791561544753073817:Nat:=0
def tw13793897110690490256:Nat:=0
def tw11034986039618725143:Nat:=0
def tw12677199992216143015:Nat:=0
def tw6532794784218300094:Nat:=0
def tw6048587726996195705:Nat:=0
def tw16996719010452188213:Nat:=0
def tw5652043123673152001:Nat:=0
def tw14429284179586669632:Nat:=0
def tw8849176804490652873:Nat:=0
def tw2945448243140617254:Nat:=0
def tw4743763656047978826:Nat:=0
def tw9918164575040105887:Nat:=0
def tw5928311292576763339:Nat:=0
def tw4102673792120409916:Nat:=0
def tw16040674085579019231:Nat:=0
def tw7117674209111824862:Nat:=0
def tw7737204477006804666:Nat:=0
def tw3319518551314557062:Nat:=0
def tw17691814183373240984:Nat:=0
def tw9227077376336659017:Nat:=0
def tw12447161624480485539:Nat:=0
def tw9491490145586197939:Nat:=0
def tw2638275923224080403:Nat:=0
def tw7864507064990790901:Nat:=0
def tw10640585122116012264:Nat:=0
def tw16069719687115255179:Nat:=0
def tw6280761452789676629:Nat:=0
def tw17539393807362815640:Nat:=0
def tw13039873960295491896:Nat:=0
def tw10993549890662624739:Nat:=0
def tw6092616086872506702:Nat:=0
def tw11006330058897991021:Nat:=0
def tw9748585920529054033:Nat:=0
def tw2466964543203961921:Nat:=0
def tw12051789717085094541:Nat:=0
def tw7382718446346927981:Nat:=0
def tw9866155747514880157:Nat:=0
def tw770450796987851766:Nat:=0
def tw5647663816695882572:Nat:=0
def tw13100070658487021137:Nat:=0
def tw10352552333869354539:Nat:=0
def tw13506241267252695760:Nat:=0
def tw17630580395264091593:Nat:=0
def tw6416382164435292601:Nat:=0
def tw561382676559692603:Nat:=0
def tw5244328214729217606:Nat:=0
def tw4229215721697833002:Nat:=0
def tw3739915462301348056:Nat:=0
def tw17783915016877192443:Nat:=0
def tw4416362536672839652:Nat:=0
def tw14310485151416829046:Nat:=0
def tw17033742284799190085:Nat:=0
def tw16277750717808893736:Nat:=0
def tw2945251459304390195:Nat:=0
def tw11755681655292044685:Nat:=0
def tw8203885288917444297:Nat:=0
def tw14473517667838043955:Nat:=0
def tw6829375497496725246:Nat:=0
def tw4466516846402371609:Nat:=0
def tw16465923583251679260:Nat:=0
def tw4834821658093662148:Nat:=0
def tw13583431780430534147:Nat:=0
def tw13863124547643083195:Nat:=0
def tw8972221481038565674:Nat:=0
def tw13356763753315626795:Nat:=0
def tw2049260028221058760:Nat:=0
def tw18215489456892601008:Nat:=0
def tw1221405105806197237:Nat:=0
def tw16271429308562899326:Nat:=0
def tw13695768153654356385:Nat:=0
def tw2141188564540018233:Nat:=0
def tw7017061894944983290:Nat:=0
def tw1862171983146279896:Nat:=0
def tw57194248658180576:Nat:=0
def tw7100896936215687933:Nat:=0
def tw7371699158515028173:Nat:=0
def tw14733267608155340620:Nat:=0
def tw4862646562246239820:Nat:=0
def tw18191916945974013781:Nat:=0
def tw16192212958001219796:Nat:=0
def tw16217521812068130641:Nat:=0
def tw6334915094150037041:Nat:=0
def tw16106925369478029265:Nat:=0
def tw17568294508555370416:Nat:=0
def tw606822778594454824:Nat:=0
def tw4440043138544911171:Nat:=0
def tw8904620438092690827:Nat:=0
def tw12116374652785577273:Nat:=0
def tw14054149777172421229:Nat:=0
def tw10153956936547728069:Nat:=0
def tw8606987484635496906:Nat:=0
def tw823156952224307409:Nat:=0
def tw11480843334383093167:Nat:=0
def tw16498754623575694519:Nat:=0
def tw5856674935138894776:Nat:=0
def tw8587164489887154249:Nat:=0
def tw9128823765500626569:Nat:=0
def tw12423939021850328497:Nat:=0
def tw4514848647174704466:Nat:=0
def tw16090634495570404120:Nat:=0
def tw9678287865784221132:Nat:=0
def tw16515696173374722466:Nat:=0
def tw9948628336207307837:Nat:=0
def tw2825399948204945833:Nat:=0
def tw5864042434049384777:Nat:=0
def tw18422455086833409441:Nat:=0
def tw6457138524825256741:Nat:=0
def tw9259746964373456306:Nat:=0
def tw14430236428433869447:Nat:=0
def tw11423457995758574125:Nat:=0
def tw9060956819656293528:Nat:=0
def tw17649903354890959288:Nat:=0
def tw9689761807977330660:Nat:=0
def tw17694991821036274077:Nat:=0
def tw13898205399032392102:Nat:=0
def tw5420793475383795070:Nat:=0
def tw9965459109673506758:Nat:=0
def tw14784841985871672432:Nat:=0
def tw11706691416592411481:Nat:=0
def tw4976403817407291298:Nat:=0
def tw16215210415033975093:Nat:=0
def tw13542061754291833705:Nat:=0
def tw9510092667976625855:Nat:=0
def tw335311477276917264:Nat:=0
def tw15696620663196074650:Nat:=0
def tw12563670316170224201:Nat:=0
def tw18953801680534076:Nat:=0
def tw5629212204920267153:Nat:=0
def tw13890573366260835207:Nat:=0
def tw13177762189531320872:Nat:=0
def tw9202972672930450312:Nat:=0
def tw6073815813013681470:Nat:=0
end PySem.W.Fast
namespace L2
open PySem
theorem len0{p:List Value->Prop}(h:p []):∀us:List Value,us.length=0->p us
 |[],_=>h
theorem AQ{n:Nat}{p:List Value->Prop}(h:∀a us,us.length=n->p (a::us)):∀us:List Value,us.length=n+1->p us
 |a::us,e=>h a us (Nat.succ.inj e)
theorem oS{p:List Value->Prop}(h:∀a,p [a]):∀us:List Value,us.length=1->p us:=AQ λa=>len0 (h a)
theorem lD{p:List Value->Prop}(h:∀a b,p [a,b]):∀us:List Value,us.length=2->p us:=AQ λa=>AQ λb=>len0 (h a b)
theorem p5{p:List Value->Prop}(h:∀a b c,p [a,b,c]):∀us:List Value,us.length=3->p us:=AQ λa=>AQ λb=>AQ λc=>len0 (h a b c)
theorem XS{p:List Value->Prop}(h:∀a b c d,p [a,b,c,d]):∀us:List Value,us.length=4->p us:=AQ λa=>AQ λb=>AQ λc=>AQ λd=>len0 (h a b c d)
end L2
namespace K29
open PySem L2
theorem all_mk{l:PySem.W.OpenLaw}{w:World}{K:PySem.W.Frag}{h:Heap}{mg:Str->Option Value}{fa:Addr}(X:K.In h)(G:h.Ns ZV mg)(hfa:mg "law" = some (.ref fa)){fX iP kN eA:Tok}
  (hs:FnX K "check_map" oF/\FnX K "ties_name_places" gM/\FnX K "orders_fit" mF/\FnX K "ends_at_places" iF/\FnX K "hangs_together" iE/\FnX K "other_end" nV/\FnX K "place_of" qQ/\FnX K "goes_to" uA/\FnX K "behind" yJ/\FnX K "lands" C4/\FnX K "land_from" nX/\FnX K "land_numbers" jV/\FnX K "is_flat" t9/\FnX K "check_flat" mG/\FnX K "check_outer" kZ/\FnX K "rate" HL/\FnX K "rests" C2/\FnX K "settled_prices" iD/\FnX K "lower_prices" jU/\FnX K "ring_behind" qA/\FnX K "doors_of" qV/\FnX K "filled" yH/\FnX K "reach" C3/\FnX K "far_side" qU/\FnX K "room" HK/\FnX K "put_in" yE/\FnX K "raise_prices" jT/\FnX K "path_to" tW/\FnX K "push" HM/\FnX K "check_net" oE/\FnX K "cheapest" qW/\FnX K "without_costs" nB/\FnX K "wanted_sum" mE/\FnX K "turns" C1/\FnX K "shortened" nU/\FnX K "cost" HN/\FnX K "net_of" yF/\FnX K "corner_ways" kY/\FnX K "left_ways" nW/\FnX K "fewest" yI/\FnX K "_law_cell_at" nZ/\FnX K "_law_mix" C5/\FnX K "_law_digit" t8/\FnX K "_law_turned" qS/\FnX K "_law_other" tY/\FnX K "_law_place" tX/\FnX K "_law_behind" qT/\FnX K "_law_lands" t7/\FnX K "_law_step" yG/\FnX K "_law_renamed" nY/\FnX K "_law_map" C6/\FnX K "_law_wishes" qR/\FnX K "_law_named" tZ/\FnX K "_law_cost_told" kX/\FnX K "law" OL)
  {C0 g0:Addr}{odc0 anc0:Option Addr}{slc0:Array (Option Value)}{occ0 kVc0 dcc0 pmc0 cdc0 ctc0:Value}
  (aC0:PySem.W.nsIn K ZV "Search" = some (some (.ref C0))) (ai0:PySem.W.findIn K (.ref C0) "__init__" = some (some (.ref g0))) (ii0:PySem.W.isFn K (.ref g0)=true)
  (li0:K.lookup g0=some ⟨occ0,odc0,.func (PySem.W.fnOf "__init__" "Search.__init__" (kT fN) (jM fN) (aS fN) .none kVc0 dcc0 pmc0 anc0 cdc0 ctc0),slc0⟩) (ci0:PySem.W.codeIn K cdc0 "Search.__init__" = true) (ki0:PySem.W.keepIn K (.ref g0)=true)
  (pg0:PySem.W.plainGet K C0 Str.empty=true) (hd0:PySem.W.hasDictIn K C0=true) (po0:PySem.W.plainOver K C0=true) (sa0:PySem.W.findIn K (.ref C0) "__setattr__" = some (some (.builtin "object.__setattr__"))) (mk0:PySem.W.makesIn K C0=true) (kc0:PySem.W.keepIn K (.ref C0)=true)
  (nA0_0:PySem.W.findIn K (.ref C0) "ways" = some none)
  (nA0_1:PySem.W.findIn K (.ref C0) "prices" = some none)
  (nA0_2:PySem.W.findIn K (.ref C0) "going" = some none)
  (nA0_3:PySem.W.findIn K (.ref C0) "resting" = some none)
  (nA0_4:PySem.W.findIn K (.ref C0) "doors" = some none)
  (z0:PySem.W.nsIn K ZV "all" = some none)
  (z1:PySem.W.nsIn K ZV "any" = some none)
  (z2:PySem.W.nsIn K ZV "enumerate" = some none)
  (z3:PySem.W.nsIn K ZV "int" = some none)
  (z4:PySem.W.nsIn K ZV "len" = some none)
  (z5:PySem.W.nsIn K ZV "list" = some none)
  (z6:PySem.W.nsIn K ZV "min" = some none)
  (z7:PySem.W.nsIn K ZV "range" = some none)
  (z8:PySem.W.nsIn K ZV "sorted" = some none)
  (z9:PySem.W.nsIn K ZV "sum" = some none)
  (z10:PySem.W.nsIn K ZV "zip" = some none)
  (cZ:PySem.W.nsIn K ZV "QUARTERS_ROUND" = some (some (.int 4 fX)))
  (gI:PySem.W.nsIn K ZV "MOST_PLACES" = some (some (.int 200 iP)))
  (iZ:PySem.W.nsIn K ZV "MOST_TIES" = some (some (.int 400 kN)))
  (dF:PySem.W.nsIn K ZV "MOST_ENDS_AT_A_PLACE" = some (some (.int 4 eA)))
  : ∃fd:FuncData,(∀(s:Shared) (v:Value),BindsTo s fd ⟨[v],[]⟩ [("_law_script",v)])/\∀base:Heap,K.In base->base.Ns ZV mg->bT l.prog w K mg base CX0 lawK fa fd ["_law_script"] (JS K):=by
 obtain⟨h0,h1,h2,h3,h4,h5,h6,h7,h8,h9,h10,h11,h12,h13,h14,h15,h16,h17,h18,h19,h20,h21,h22,h23,h24,h25,h26,h27,h28,h29,h30,h31,h32,h33,h34,h35,h36,h37,h38,h39,h40,h41,h42,h43,h44,h45,h46,h47,h48,h49,h50,h51,h52,h53,h54⟩:=hs;obtain⟨f0,d0,i0⟩:=b7 (ps:=["web"]) X G h0 λ_ _ _ _ _ _=>oS λ_=>rfl;obtain⟨f1,d1,i1⟩:=b7 (ps:=["many","ties"]) X G h1 λ_ _ _ _ _ _=>lD λ_ _=>rfl;obtain⟨f2,d2,i2⟩:=b7 (ps:=["web"]) X G h2 λ_ _ _ _ _ _=>oS λ_=>rfl;obtain⟨f3,d3,i3⟩:=b7 (ps:=["many","ties"]) X G h3 λ_ _ _ _ _ _=>lD λ_ _=>rfl;obtain⟨f4,d4,i4⟩:=b7 (ps:=["many","ties"]) X G h4 λ_ _ _ _ _ _=>lD λ_ _=>rfl;obtain⟨f5,d5,i5⟩:=b7 (ps:=["end"]) X G h5 λ_ _ _ _ _ _=>oS λ_=>rfl;obtain⟨f6,d6,i6⟩:=b7 (ps:=["web","end"]) X G h6 λ_ _ _ _ _ _=>lD λ_ _=>rfl;obtain⟨f7,d7,i7⟩:=b7 (ps:=["web","end"]) X G h7 λ_ _ _ _ _ _=>lD λ_ _=>rfl;obtain⟨f8,d8,i8⟩:=b7 (ps:=["web","end"]) X G h8 λ_ _ _ _ _ _=>lD λ_ _=>rfl;obtain⟨f9,d9,i9⟩:=b7 (ps:=["web"]) X G h9 λ_ _ _ _ _ _=>oS λ_=>rfl;obtain⟨f10,d10,i10⟩:=b7 (ps:=["web","first"]) X G h10 λ_ _ _ _ _ _=>lD λ_ _=>rfl;obtain⟨f11,d11,i11⟩:=b7 (ps:=["web"]) X G h11 λ_ _ _ _ _ _=>oS λ_=>rfl;obtain⟨f12,d12,i12⟩:=b7 (ps:=["web"]) X G h12 λ_ _ _ _ _ _=>oS λ_=>rfl;obtain⟨f13,d13,i13⟩:=b7 (ps:=["web"]) X G h13 λ_ _ _ _ _ _=>oS λ_=>rfl;obtain⟨f14,d14,i14⟩:=b7 (ps:=["web","outer"]) X G h14 λ_ _ _ _ _ _=>lD λ_ _=>rfl;obtain⟨f15,d15,i15⟩:=b7 (ps:=["way","prices"]) X G h15 λ_ _ _ _ _ _=>lD λ_ _=>rfl;obtain⟨f16,d16,i16⟩:=b7 (ps:=["net","going"]) X G h16 λ_ _ _ _ _ _=>lD λ_ _=>rfl;obtain⟨f17,d17,i17⟩:=b7 (ps:=["net"]) X G h17 λ_ _ _ _ _ _=>oS λ_=>rfl;obtain⟨f18,d18,i18⟩:=b7 (ps:=["net","free","prices","onward"]) X G h18 λ_ _ _ _ _ _=>XS λ_ _ _ _=>rfl;obtain⟨f19,d19,i19⟩:=b7 (ps:=["net","onward","knot"]) X G h19 λ_ _ _ _ _ _=>p5 λ_ _ _=>rfl;obtain⟨f20,d20,i20⟩:=b7 (ps:=["net"]) X G h20 λ_ _ _ _ _ _=>oS λ_=>rfl;obtain⟨f21,d21,i21⟩:=b7 (ps:=["net","prices"]) X G h21 λ_ _ _ _ _ _=>lD λ_ _=>rfl;obtain⟨f22,d22,i22⟩:=b7 (ps:=["search"]) X G h22 λ_ _ _ _ _ _=>oS λ_=>rfl;obtain⟨f23,d23,i23⟩:=b7 (ps:=["search","number","by"]) X G h23 λ_ _ _ _ _ _=>p5 λ_ _ _=>rfl;obtain⟨f24,d24,i24⟩:=b7 (ps:=["search","number","by"]) X G h24 λ_ _ _ _ _ _=>p5 λ_ _ _=>rfl;obtain⟨f25,d25,i25⟩:=b7 (ps:=["waiting","entry"]) X G h25 λ_ _ _ _ _ _=>lD λ_ _=>rfl;obtain⟨f26,d26,i26⟩:=b7 (ps:=["search","reached","last"]) X G h26 λ_ _ _ _ _ _=>p5 λ_ _ _=>rfl;obtain⟨f27,d27,i27⟩:=b7 (ps:=["search","reached","last"]) X G h27 λ_ _ _ _ _ _=>p5 λ_ _ _=>rfl;obtain⟨f28,d28,i28⟩:=b7 (ps:=["search","path","last"]) X G h28 λ_ _ _ _ _ _=>p5 λ_ _ _=>rfl;obtain⟨f29,d29,i29⟩:=b7 (ps:=["net"]) X G h29 λ_ _ _ _ _ _=>oS λ_=>rfl;obtain⟨f30,d30,i30⟩:=b7 (ps:=["net"]) X G h30 λ_ _ _ _ _ _=>oS λ_=>rfl;obtain⟨f31,d31,i31⟩:=b7 (ps:=["net"]) X G h31 λ_ _ _ _ _ _=>oS λ_=>rfl;obtain⟨f32,d32,i32⟩:=b7 (ps:=["number","outer"]) X G h32 λ_ _ _ _ _ _=>lD λ_ _=>rfl;obtain⟨f33,d33,i33⟩:=b7 (ps:=["shape"]) X G h33 λ_ _ _ _ _ _=>oS λ_=>rfl;obtain⟨f34,d34,i34⟩:=b7 (ps:=["shape"]) X G h34 λ_ _ _ _ _ _=>oS λ_=>rfl;obtain⟨f35,d35,i35⟩:=b7 (ps:=["wishes","shape"]) X G h35 λ_ _ _ _ _ _=>lD λ_ _=>rfl;obtain⟨f36,d36,i36⟩:=b7 (ps:=["web","outer","wishes"]) X G h36 λ_ _ _ _ _ _=>p5 λ_ _ _=>rfl;obtain⟨f37,d37,i37⟩:=b7 (ps:=["web","sets"]) X G h37 λ_ _ _ _ _ _=>lD λ_ _=>rfl;obtain⟨f38,d38,i38⟩:=b7 (ps:=["web","wishes"]) X G h38 λ_ _ _ _ _ _=>lD λ_ _=>rfl;obtain⟨f39,d39,i39⟩:=b7 (ps:=["web","outer","wishes"]) X G h39 λ_ _ _ _ _ _=>p5 λ_ _ _=>rfl;obtain⟨f40,d40,i40⟩:=b7 (ps:=["_law_script","_law_k"]) X G h40 λ_ _ _ _ _ _=>lD λ_ _=>rfl;obtain⟨f41,d41,i41⟩:=b7 (ps:=["_law_cell","_law_k"]) X G h41 λ_ _ _ _ _ _=>lD λ_ _=>rfl;obtain⟨f42,d42,i42⟩:=b7 (ps:=["_law_number","_law_by","_law_k"]) X G h42 λ_ _ _ _ _ _=>p5 λ_ _ _=>rfl;obtain⟨f43,d43,i43⟩:=b7 (ps:=["_law_number","_law_many"]) X G h43 λ_ _ _ _ _ _=>lD λ_ _=>rfl;obtain⟨f44,d44,i44⟩:=b7 (ps:=["_law_end"]) X G h44 λ_ _ _ _ _ _=>oS λ_=>rfl;obtain⟨f45,d45,i45⟩:=b7 (ps:=["_law_ties","_law_end"]) X G h45 λ_ _ _ _ _ _=>lD λ_ _=>rfl;obtain⟨f46,d46,i46⟩:=b7 (ps:=["_law_ties","_law_orders","_law_end"]) X G h46 λ_ _ _ _ _ _=>p5 λ_ _ _=>rfl;obtain⟨f47,d47,i47⟩:=b7 (ps:=["_law_ties","_law_orders"]) X G h47 λ_ _ _ _ _ _=>lD λ_ _=>rfl;obtain⟨f48,d48,i48⟩:=b7 (ps:=["_law_ties","_law_orders","_law_pick","_law_most"]) X G h48 λ_ _ _ _ _ _=>XS λ_ _ _ _=>rfl;obtain⟨f49,d49,i49⟩:=b7 (ps:=["_law_ties","_law_orders","_law_cell"]) X G h49 λ_ _ _ _ _ _=>p5 λ_ _ _=>rfl;obtain⟨f50,d50,i50⟩:=b7 (ps:=["_law_script","_law_steps","_law_most"]) X G h50 λ_ _ _ _ _ _=>p5 λ_ _ _=>rfl;obtain⟨f51,d51,i51⟩:=b7 (ps:=["_law_ties","_law_cell","_law_barred"]) X G h51 λ_ _ _ _ _ _=>p5 λ_ _ _=>rfl;obtain⟨f52,d52,i52⟩:=b7 (ps:=["_law_web","_law_wishes_here","_law_cell"]) X G h52 λ_ _ _ _ _ _=>p5 λ_ _ _=>rfl;obtain⟨f53,d53,i53⟩:=b7 (ps:=["_law_web","_law_outer","_law_wishes_here"]) X G h53 λ_ _ _ _ _ _=>p5 λ_ _ _=>rfl;obtain⟨f54,d54,i54,bL⟩:=V8 (ps:=["_law_script"]) X G h54 λ_ _ _ _ _ _=>oS λ_=>rfl;have e:=hfa.symm.trans i54.m;cases e;have FC0:=IM (st:=fN) li0 ci0 ki0;have bC0:=FC0.binds (ps:=["self","net","prices"]) λ_ _ _ _ _ _=>p5 λ_ _ _=>rfl;have T:Txt K mg ⟨fX,iP,kN,eA,C0,g0,_,f0,d0,f1,d1,f2,d2,f3,d3,f4,d4,f5,d5,f6,d6,f7,d7,f8,d8,f9,d9,f10,d10,f11,d11,f12,d12,f13,d13,f14,d14,f15,d15,f16,d16,f17,d17,f18,d18,f19,d19,f20,d20,f21,d21,f22,d22,f23,d23,f24,d24,f25,d25,f26,d26,f27,d27,f28,d28,f29,d29,f30,d30,f31,d31,f32,d32,f33,d33,f34,d34,f35,d35,f36,d36,f37,d37,f38,d38,f39,d39,f40,d40,f41,d41,f42,d42,f43,d43,f44,d44,f45,d45,f46,d46,f47,d47,f48,d48,f49,d49,f50,d50,f51,d51,f52,d52,f53,d53,fa,d54⟩:=⟨i0,i1,i2,i3,i4,i5,i6,i7,i8,i9,i10,i11,i12,i13,i14,i15,i16,i17,i18,i19,i20,i21,i22,i23,i24,i25,i26,i27,i28,i29,i30,i31,i32,i33,i34,i35,i36,i37,i38,i39,i40,i41,i42,i43,i44,i45,i46,i47,i48,i49,i50,i51,i52,i53,i54,⟨pg0,hd0,po0,sa0⟩,nA0_0,nA0_1,nA0_2,nA0_3,nA0_4,⟨mk0,ai0,ii0,kc0⟩,PySem.W.mg_of X G aC0,FC0,bC0,PySem.W.mg_none_of X G z0,PySem.W.mg_none_of X G z1,PySem.W.mg_none_of X G z2,PySem.W.mg_none_of X G z3,PySem.W.mg_none_of X G z4,PySem.W.mg_none_of X G z5,PySem.W.mg_none_of X G z6,PySem.W.mg_none_of X G z7,PySem.W.mg_none_of X G z8,PySem.W.mg_none_of X G z9,PySem.W.mg_none_of X G z10,PySem.W.mg_of X G cZ,PySem.W.mg_of X G gI,PySem.W.mg_of X G iZ,PySem.W.mg_of X G dF⟩
 exact⟨_,λs v=>bL s [v] rfl,λbase _ _=>VS T⟩
theorem walk{l:PySem.W.OpenLaw}{q:Program}{loose:List Str}{XP:(Str->Option Value)->Heap->Prop}{YP:World->Heap->Prop}{d:DefRec}{K:Params->PySem.W.Frag}(hn:l.most=some 63)(hdf:d.params.defaults=[])
  (hY:∀(w:World) (h:Heap),YP w h->(K w.params).In h)
  (F:∀(w:World) (mg:Str->Option Value) (fa:Addr) (h:Heap),(K w.params).In h->h.Ns ZV mg->mg d.name=some (.ref fa) ->
   ∃fd:FuncData,(∀(s:Shared) (u:Value),BindsTo s fd ⟨[u],[]⟩ [("_law_script",u)])/\∀base:Heap,(K w.params).In base->base.Ns ZV mg->bT l.prog w (K w.params) mg base CX0 lawK fa fd ["_law_script"] (JS (K w.params))) :
  PySem.W.WalkO q loose XP YP l.row.toRowW d [] (λf vs=>PySem.call f vs) :=
 L2.RE (n:=63) (k:=lawK) (x:="_law_script") (CX:=λ_=>CX0) (sp:=λw=>JS (K w.params)) hn (by decide) hdf ⟨rfl,by decide,by decide⟩ hY F (λ_ _ a ns hl _ hS=>⟨a,ns,rfl,hS,hl,λ_=>rfl⟩) λ_ _ _ _ _ z=>z
end K29
open PySem PySem.W PyProof.Rows
set_option maxRecDepth 100000 in
set_option maxHeartbeats 0 in
theorem PySem.Challenge.cw_fewbends_k29_whole_costs_under_other_nam_holds : PySem.Challenge.rw_fewbends_k29_whole_costs_under_other_nam.Holds := by
 w_on;o_law;k_head;(case hw=>w_witness2)
 k_fill
 refine K29.walk (l:=PySem.Challenge.rw_fewbends_k29_whole_costs_under_other_nam) rfl rfl (λw h Y=>PySem.W.kIn_of Y) ?F
 case F =>
  intro w mg fa h KX G hmg;refine' K29.all_mk KX G hmg ?hs ?aC0 ?ai0 ?ii0 ?li0 ?ci0 ?ki0 ?pg0 ?hd0 ?po0 ?sa0 ?mk0 ?kc0 ?nA0_0 ?nA0_1 ?nA0_2 ?nA0_3 ?nA0_4 ?z0 ?z1 ?z2 ?z3 ?z4 ?z5 ?z6 ?z7 ?z8 ?z9 ?z10 ?cZ ?gI ?iZ ?dF
  (case hs=>refine⟨?_,?_,?_,?_,?_,?_,?_,?_,?_,?_,?_,?_,?_,?_,?_,?_,?_,?_,?_,?_,?_,?_,?_,?_,?_,?_,?_,?_,?_,?_,?_,?_,?_,?_,?_,?_,?_,?_,?_,?_,?_,?_,?_,?_,?_,?_,?_,?_,?_,?_,?_,?_,?_,?_,?_⟩<;>exact⟨_,by k_is,_,_,_,_,_,_,_,_,_,by k_is,by k_is,by k_is⟩)
  (case aC0=>k_is);(case ai0=>k_is);(case ii0=>k_is);(case li0=>k_is);(case ci0=>k_is);(case ki0=>k_is);(case pg0=>k_is);(case hd0=>k_is);(case po0=>k_is);(case sa0=>k_is);(case mk0=>k_is);(case kc0=>k_is);(case nA0_0=>k_is);(case nA0_1=>k_is);(case nA0_2=>k_is);(case nA0_3=>k_is);(case nA0_4=>k_is)
  (case z0=>k_is);(case z1=>k_is);(case z2=>k_is);(case z3=>k_is);(case z4=>k_is);(case z5=>k_is);(case z6=>k_is);(case z7=>k_is);(case z8=>k_is);(case z9=>k_is);(case z10=>k_is)
  (case cZ=>k_is)
  (case gI=>k_is)
  (case iZ=>k_is)
  (case dF=>k_is)
